/-
  Some of the texts of this proof, one behind the other.
-/
import Derived.ProofKit
import Derived.OpenShut
import Derived.WalkLawsBesides
import Derived.Stop.Joined
import Derived.Carry
import Derived.Lib.SmallJoins
import Derived.Deep.SlicePairs
import Derived.Deep.Slices
import Derived.SizedLaws
import Derived.Test.YtlmfpikhlcnjjaaGreatDoorSj10
set_option maxRecDepth 100000
set_option maxHeartbeats 400000000
namespace Go.Proofs.YtlmfpikhlcnjjaaGreatDoor
open _root_.Go.Proofs.Tryz
section
open Go.RowKit Tf Cu Go.Deep
attribute [local go_sem] aF aG aI aJ aK aL aM aC
namespace Sv
theorem encs_no(side:Int)(pb:Option Addr)(lb cb:Nat)(B:Nat->Nat)(pw:Option Addr)(lw cw:Nat)(W:Nat->Int)(pt:Option Addr)(lt ct:Nat)(T:Nat->Int)(ps:Option Addr)(ls cs:Nat)(S:Nat->Nat)(sky st:Int)(w:World)(hF:Fr w)(i1:IsFl w pb lb B)(i2:Sh.IsI w pw lw W)(i3:Sh.IsI w pt lt T)(i4:IsFl w ps ls S)(hl48:lb<=281474976710656/\lw<=281474976710656/\lt<=281474976710656/\ls<=281474976710656)(hc:(Ss.chk side lb lw lt ls B W T S sky st).2≠0):
  Calls prog 3 #[.int .i64 side,.agg #[.slice pb lb cb,.slice pw lw cw,.slice pt lt ct,.slice ps ls cs,.int .i64 sky,.int .i64 st]] w fun e w'=>e=.returned (.bool true)/\Ab w w':=by
 have CE:=hid (fun v (a:Ab w v)=>enc_no side pb lb cb B pw lw cw W pt lt ct T ps ls cs S sky st v (i1.below a) (i2.below a) (i3.below a) (i4.below a) hc)
 have CR:=hid (fun v (a:Ab w v)=>renc_no side pb lb cb B pw lw cw W pt lt ct T ps ls cs S sky st v (i1.below a) (i2.below a) (i3.below a) (i4.below a) hl48 hc)
 obtain⟨x2,hx2⟩:=aB ((Ss.chk side lb lw lt ls B W T S sky st).2)
 rw[hx2]at CE CR
 have n1:(x2==x2)=true:=by simp
 clear hx2 i1 i2 i3 i4 hc hl48
 obtain⟨A0,R0⟩:=aN w (.cells #[.slice pb lb cb,.slice pw lw cw,.slice pt lt ct,.slice ps ls cs,.int .i64 sky,.int .i64 st] 25)
 have CL:=hid (jL (w.alloc (.cells #[.slice pb lb cb,.slice pw lw cw,.slice pt lt ct,.slice ps ls cs,.int .i64 sky,.int .i64 st] 25)) (hF.to A0.out))
 clear hF
 go_enter func3,ntmps3
 go_upto_region 1 with fail
 generalize hV:World.alloc w _=v0 at*
 obtain⟨s,hs2⟩:=aB w.heap.size
 rw[hs2]at R0 ⊢
 clear hV hs2
 go_wp2_with fail
 refine CL.out.mono ?_
 rintro e9 v1 ⟨rfl,b1⟩
 have A1:Hid (Ab w v1):=A0.out.trans b1
 have R1:=hid (Ab.heap b1 R0.out)
 clear b1 A0 R0 CL
 have y0:=aD R1.out
 go_wp2_with fail
 refine(CE.out v1 A1.out).mono ?_
 rintro e9 v2 ⟨rfl,b2⟩
 have A2:Hid (Ab w v2):=A1.out.trans b2
 have R2:=hid (Ab.heap b2 R1.out)
 clear b2 A1 R1 CE y0
 have y0:=aD R2.out
 go_wp2_with fail
 refine(CR.out v2 A2.out).mono ?_
 rintro e9 v3 ⟨rfl,b3⟩
 have CV:(convert 27 9 (.slice none 0 0)).run prog v3=.ok (.string (Ti.str (fun _=>0) 0)) v3:=Ti.fL underlying27 underlying5 underlying9 (Ti.IsW.nil _ _ _ _ _) (fun _=>rfl)
 have SS:((Ti.str (fun _=>0) 0).toList==(Ti.str (fun _=>0) 0).toList)=true:=by simp
 clear y0 R2 CR
 go_wp2
 go_ret
 exact⟨rfl,A2.out.trans b3⟩
theorem encs_yes(side:Int)(pb:Option Addr)(lb cb:Nat)(B:Nat->Nat)(pw:Option Addr)(lw cw:Nat)(W:Nat->Int)(pt:Option Addr)(lt ct:Nat)(T:Nat->Int)(ps:Option Addr)(ls cs:Nat)(S:Nat->Nat)(sky st:Int)(w:World)(hF:Fr w)(i1:IsFl w pb lb B)(i2:Sh.IsI w pw lw W)(i3:Sh.IsI w pt lt T)(i4:IsFl w ps ls S)(hl48:lb<=281474976710656/\lw<=281474976710656/\lt<=281474976710656/\ls<=281474976710656)(hc:(Ss.chk side lb lw lt ls B W T S sky st).2=0):
  Calls prog 3 #[.int .i64 side,.agg #[.slice pb lb cb,.slice pw lw cw,.slice pt lt ct,.slice ps ls cs,.int .i64 sky,.int .i64 st]] w fun e w'=>e=.returned (.bool true)/\Ab w w':=by
 obtain⟨n,N,e0,hn,hN,hl,hc2⟩:=chk_0 hc
 obtain⟨L,hL⟩:=aB (29+40*N)
 have CE:=hid (fun v (a:Ab w v)=>rK side pb lb cb B pw lw cw W pt lt ct T ps ls cs S sky st v (i1.below a) (i2.below a) (i3.below a) (i4.below a) n N _ L e0 hc hn hN rfl hL hl)
 have CR:=hid (fun v (a:Ab w v)=>renc_yes side pb lb cb B pw lw cw W pt lt ct T ps ls cs S sky st v (i1.below a) (i2.below a) (i3.below a) (i4.below a) hl48 n N _ L e0 hc hn hN rfl hL hl)
 have EL:=hid (fun i=>lY (side:=n) (N:=N) (B:=B) (W:=W) (T:=T) (S:=S) (sky:=sky) (st:=st) (i:=i) (by omega))
 obtain⟨E,hE⟩:=aB (enc n N B W T S sky st)
 rw[hE]at CE CR EL
 clear i1 i2 i3 i4 hc hl48 hn hN hl hc2 hE hL e0
 obtain⟨A0,R0⟩:=aN w (.cells #[.slice pb lb cb,.slice pw lw cw,.slice pt lt ct,.slice ps ls cs,.int .i64 sky,.int .i64 st] 25)
 have CL:=hid (jL (w.alloc (.cells #[.slice pb lb cb,.slice pw lw cw,.slice pt lt ct,.slice ps ls cs,.int .i64 sky,.int .i64 st] 25)) (hF.to A0.out))
 clear hF
 go_enter func3,ntmps3
 go_upto_region 1 with fail
 generalize hV:World.alloc w _=v0 at*
 obtain⟨s,hs2⟩:=aB w.heap.size
 rw[hs2]at R0 ⊢
 clear hV hs2
 go_wp2_with fail
 refine CL.out.mono ?_
 rintro e9 v1 ⟨rfl,b1⟩
 have A1:Hid (Ab w v1):=A0.out.trans b1
 have R1:=hid (Ab.heap b1 R0.out)
 clear b1 A0 R0 CL
 have y0:=aD R1.out
 go_wp2_with fail
 refine(CE.out v1 A1.out).mono ?_
 rintro e9 v2 ⟨g1,c1,rfl,b2,o2⟩
 have A2:Hid (Ab w v2):=A1.out.trans b2
 have R2:=hid (Ab.heap b2 R1.out)
 have W2:=hid (rM o2 (fun i _=>EL.out i)).1
 clear b2 o2 A1 R1 CE y0
 have y0:=aD R2.out
 go_wp2_with fail
 refine(CR.out v2 A2.out).mono ?_
 rintro e9 v3 ⟨g2,c2,rfl,b3,o3⟩
 have W3:=(rM o3 (fun i _=>EL.out i)).1
 have CV:(convert 27 9 (.slice (some ⟨g1,0,none⟩) L c1)).run prog v3=.ok (.string (Ti.str (E) L)) v3:=Ti.fL underlying27 underlying5 underlying9 (W2.out.below b3) (fun e=>by cases e)
 have CV2:(convert 27 9 (.slice (some ⟨g2,0,none⟩) L c2)).run prog v3=.ok (.string (Ti.str (E) L)) v3:=Ti.fL underlying27 underlying5 underlying9 W3 (fun e=>by cases e)
 have SS:((Ti.str E L).toList==(Ti.str E L).toList)=true:=by simp
 clear y0 R2 CR W3 o3
 go_wp2
 go_ret
 exact⟨rfl,A2.out.trans b3⟩
theorem encs_at(side:Int)(pb:Option Addr)(lb cb:Nat)(B:Nat->Nat)(pw:Option Addr)(lw cw:Nat)(W:Nat->Int)(pt:Option Addr)(lt ct:Nat)(T:Nat->Int)(ps:Option Addr)(ls cs:Nat)(S:Nat->Nat)(sky st:Int)(w:World)(hF:Fr w)(i1:IsFl w pb lb B)(i2:Sh.IsI w pw lw W)(i3:Sh.IsI w pt lt T)(i4:IsFl w ps ls S)(hl48:lb<=281474976710656/\lw<=281474976710656/\lt<=281474976710656/\ls<=281474976710656):
  Calls prog 3 #[.int .i64 side,.agg #[.slice pb lb cb,.slice pw lw cw,.slice pt lt ct,.slice ps ls cs,.int .i64 sky,.int .i64 st]] w fun e w'=>e=.returned (.bool true)/\Below w.heap.size w w':=by
 by_cases hc:(Ss.chk side lb lw lt ls B W T S sky st).2=0
 ·exact encs_yes side pb lb cb B pw lw cw W pt lt ct T ps ls cs S sky st w hF i1 i2 i3 i4 hl48 hc
 ·exact encs_no side pb lb cb B pw lw cw W pt lt ct T ps ls cs S sky st w hF i1 i2 i3 i4 hl48 hc
end Sv
end
section
open Go.ChangeShapes Go.WideShapes Go.ChangeAt Go.WideMaps Go.WideElems Go.RowKit Go.Deep
theorem array6'{c:Array Value}(h:c.size=6): ∃v0 v1 v2 v3 v4 v5,c= #[v0,v1,v2,v3,v4,v5]:=by
 rcases c with⟨l⟩
 match l,h with
 | [v0,v1,v2,v3,v4,v5],_=>exact⟨v0,v1,v2,v3,v4,v5,rfl⟩
end
section
open Go.ChangeShapes Go.WideShapes Go.ChangeAt Go.WideMaps Go.WideElems Go.RowKit Go.Deep
namespace Sh
theorem trod_int{H:Type}{enc:TypeId × Value->H}{P:Program}{w:World}{base:Nat}{spare:Nat->Bool}{held:Bool}{t:TypeId}{fuel:Nat}{v:Value}{x:DataW H × List MemPlace}(ht:P.underlying t=some (.int .i64))(h:DataW.trod enc P w base spare held fuel t [v]=some x):
  ∃b,v=.int .i64 b/\(-9223372036854775808<=b/\b<=9223372036854775807):=by
 obtain⟨k,e,_,wf⟩:=DataW.trod_int ht h
 simp at e
 simp only[Lit.wf,Bool.and_eq_true,decide_eq_true_eq]at wf
 have q1:IntKind.i64.min= -9223372036854775808:=by decide
 have q2:IntKind.i64.max=9223372036854775807:=by decide
 rw[q1,q2]at wf
 exact⟨k,e,wf⟩
theorem qE{w:World}{a:Addr}{v:Value}(h:w.cell? a=some v):a.block<w.heap.size:=by
 by_cases c:a.block<w.heap.size
 ·exact c
 ·exfalso
  have:w.heap[a.block]? =none:=by simp;omega
  simp[World.cell?,this]at h
theorem mA{α:Type}{n:Nat}{R:Nat->α->Prop}(d:α)(h: ∀i,i<n-> ∃x,R i x): ∃f:Nat->α,∀i,i<n->R i (f i):=by
 have: ∀i,∃x,i<n->R i x:=fun i=>by
  by_cases c:i<n
  ·obtain⟨x,h1⟩:=h i c
   exact⟨x,fun _=>h1⟩
  ·exact⟨d,fun h=>absurd h c⟩
 exact⟨fun i=>(this i).choose,fun i hi=>(this i).choose_spec hi⟩
theorem kV{H:Type}{enc:TypeId × Value->H}{W:World}{cs:List Value}{fuel:Nat}{x:DataW H × List MemPlace}
  (hf:DataW.trod enc prog W 0 (fun _=>true) true fuel 23 cs=some x): ∃a0 len cap xs,cs=[.slice a0 len cap]/\IsI W a0 len xs/\len<=cap/\cap<=maxLen:=by
 rcases open_slice1 underlying23 (by kernel_rfl) hf with⟨hcs,_⟩ | ⟨a,l,c,m,n,V,D,Pl,hcs,_,hl,hm,hmm,_,hx⟩
 ·exact⟨none,0,0,fun _=>0,hcs,fun k hk=>by omega,Nat.le_refl _,Nat.zero_le _⟩
 ·simp only[if_true]at hmm
  have each: ∀i,i<l-> ∃x:Int,W.cell? (a.add i)=some (.int .i64 x)/\(-9223372036854775808<=x/\x<=9223372036854775807):=by
   intro i hi
   obtain⟨h1,h2⟩:=hx i (by omega)
   obtain⟨x,e,wx⟩:=trod_int underlying2 h2
   rw[e]at h1
   exact⟨x,h1,wx⟩
  obtain⟨f,hf⟩:=mA 0 each
  refine⟨some a,l,c,f,hcs,fun k hk=>⟨(hf k hk).2,?_⟩,hl,hm⟩
  have h0:=(hf k hk).1
  have z:=(hf 0 (by omega)).1
  obtain⟨b,off,spot⟩:=a
  have hspot:spot=none:=by simpa [Addr.add]using World.cell?_spot z
  subst hspot
  rw[fK]at h0
  exact⟨b,off,rfl,qE h0,h0⟩
end Sh
end
section
open Go.ChangeShapes Go.WideShapes Go.ChangeAt Go.WideMaps Go.WideElems Go.RowKit Go.Deep
namespace Sv
theorem oT:Tryz.prog.bytesOf 47=8:=by kernel_rfl
theorem oU:Tryz.prog.bytesOf 2=8:=by kernel_rfl
theorem cO{H:Type}{enc:TypeId × Value->H}{W:World}{T E:TypeId}{a0:Option Addr}{len0 cap0:Nat}{fuel:Nat}{x:DataW H × List MemPlace}(hu:Tryz.prog.underlying T=some (.slice E))(h1:Tryz.prog.cellsOf E=1)
  (hf:DataW.trod enc prog W 0 (fun _=>true) true fuel T [.slice a0 len0 cap0]=some x) (hs: ∀elems spare,x.1=.slice elems spare->(elems.length+spare.length)*8<=reachBytes):len0<=281474976710656:=by
 rcases Go.Deep.open_slice1 hu h1 hf with⟨hcs,_⟩ | ⟨a,l,c,m,n,V,D,Pl,hcs,_,hl,hm,hmm,hx,_⟩
 ·simp at hcs
  obtain⟨rfl,rfl,rfl⟩:=hcs
  exact Nat.zero_le _
 ·simp at hcs
  obtain⟨rfl,rfl,rfl⟩:=hcs
  simp only[if_true]at hmm
  subst hmm
  have:=hs _ _ (by rw[hx])
  simp only[List.length_map,List.length_range,reachBytes]at this
  omega
theorem tJ{H:Type}{P:Program}{ts:List TypeId}{ds:List (DataW H)}(h:(DataW.weightsEach P ts ds).all (· <=reachBytes)=true){j:Nat}{t:TypeId}{fs:Array Field}{parts:List (DataW H)}(ht:ts[j]? =some t)(hd:ds[j]? =some (.agg parts))(hu:P.underlying t=some (.struct fs)):
  (DataW.weightsEach P (fs.toList.map (·.type)) parts).all (· <=reachBytes)=true:=by
 refine List.all_eq_true.2 (fun n hn=> ?_)
 exact List.all_eq_true.1 h _ (DataW.weights_mem_each ht hd n (by simpa [DataW.weights,hu]using hn))
theorem qF{H:Type}{enc:TypeId × Value->H}{W:World}{r:Reach}{b0:Nat}{v:Value}{d:DataW H}{p:List MemPlace}(hv:Value.okWide prog W r b0 25 v)(h:DataW.Trod enc prog W 0 (fun _=>true) true 25 v d p)
  (hz: ∀parts,d=.agg parts->(DataW.weightsEach prog [22,23,23,22,2,3] parts).all (· <=reachBytes)=true):
  ∃pb lb cb B pw lw cw Wt pt lt ct Tr ps ls cs Sp sky st,v=.agg #[.slice pb lb cb,.slice pw lw cw,.slice pt lt ct,.slice ps ls cs,.int .i64 sky,.int .i64 st]/\(IsFl W pb lb B/\Sh.IsI W pw lw Wt/\Sh.IsI W pt lt Tr/\IsFl W ps ls Sp)/\(lb<=281474976710656/\lw<=281474976710656/\lt<=281474976710656/\ls<=281474976710656)/\Sh.W64 sky/\Sh.W64 st:=by
 have hC:Tryz.prog.cellsOf 25=6:=by kernel_rfl
 have k0:Tryz.prog.cellsOf 22=1:=by kernel_rfl
 have k1:Tryz.prog.cellsOf 23=1:=by kernel_rfl
 have k2:Tryz.prog.cellsOf 2=1:=by kernel_rfl
 have k3:Tryz.prog.cellsOf 3=1:=by kernel_rfl
 obtain⟨cs,rfl,hsz⟩:=okWide_struct underlying25 hv
 obtain⟨v0,v1,v2,v3,v4,v5,rfl⟩:=array6' (hsz.trans hC)
 obtain⟨fuel,hf⟩:=h
 have hf':DataW.trod enc prog W 0 (fun _=>true) true fuel 25 [v0,v1,v2,v3,v4,v5]=some (d,p):=by simpa [Value.cells]using hf
 obtain⟨xs,m,_,hx,hlen,hn,hel⟩:=DataW.trod_struct underlying25 hf'
 match xs,hn with
 | [x0,x1,x2,x3,x4,x5],_=>
  have h0:=hel 0 _ rfl
  have h1:=hel 1 _ rfl
  have h2:=hel 2 _ rfl
  have h3:=hel 3 _ rfl
  have h4:=hel 4 _ rfl
  have h5:=hel 5 _ rfl
  simp[k0,k1,k2,k3]at h0 h1 h2 h3 h4 h5
  have hzz:=hz _ (congrArg Prod.fst hx)
  obtain⟨pb,lb,cb,B,e0,i0,-,-⟩:=kF h0
  obtain⟨pw,lw,cw,Wt,e1,i1,-,-⟩:=Sh.kV h1
  obtain⟨pt,lt,ct,Tr,e2,i2,-,-⟩:=Sh.kV h2
  obtain⟨ps,ls,cs,Sp,e3,i3,-,-⟩:=kF h3
  obtain⟨sky,e4,g4⟩:=Sh.trod_int underlying2 h4
  obtain⟨st,e5,g5⟩:=Sh.trod_int underlying3 h5
  simp at e0 e1 e2 e3
  subst e0 e1 e2 e3 e4 e5
  exact⟨pb,lb,cb,B,pw,lw,cw,Wt,pt,lt,ct,Tr,ps,ls,cs,Sp,sky,st,rfl,⟨i0,i1,i2,i3⟩,⟨cO underlying22 (by kernel_rfl) h0 (fun elems spare e=>by have q:=sized_slice hzz (j:=0) (t:=22) (e:=47) (elems:=elems) (spare:=spare) rfl (by rw[<- e];rfl) underlying22;rw[oT]at q;exact q),cO underlying23 (by kernel_rfl) h1 (fun elems spare e=>by have q:=sized_slice hzz (j:=1) (t:=23) (e:=2) (elems:=elems) (spare:=spare) rfl (by rw[<- e];rfl) underlying23;rw[oU]at q;exact q),cO underlying23 (by kernel_rfl) h2 (fun elems spare e=>by have q:=sized_slice hzz (j:=2) (t:=23) (e:=2) (elems:=elems) (spare:=spare) rfl (by rw[<- e];rfl) underlying23;rw[oU]at q;exact q),cO underlying22 (by kernel_rfl) h3 (fun elems spare e=>by have q:=sized_slice hzz (j:=3) (t:=22) (e:=47) (elems:=elems) (spare:=spare) rfl (by rw[<- e];rfl) underlying22;rw[oT]at q;exact q)⟩,g4,g5⟩
end Sv
end
end Go.Proofs.YtlmfpikhlcnjjaaGreatDoor
