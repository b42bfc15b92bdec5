/-
  Some of the texts of this proof, one behind the other.
-/
import Derived.ProofKit
import Derived.OpenShut
import Derived.WalkLawsBesides
import Derived.Stop.Joined
import Derived.Carry
import Derived.Lib.SmallJoins
import Derived.Deep.SlicePairs
import Derived.Deep.Slices
import Derived.SizedLaws
import Derived.Test.YtlmfpikhlcnjjaaGreatDoorSk14
set_option maxRecDepth 100000
set_option maxHeartbeats 400000000
namespace Go.Proofs.YtlmfpikhlcnjjaaGreatDoor
open _root_.Go.Proofs.Tryz
section
open Go.RowKit Tf Cu Go.Deep
attribute [local go_sem] aF aG aI aJ aK aL aM aD
namespace Sv
theorem decs_no(p:Option Addr)(l c:Nat)(F:Nat->Nat)(w:World)(hF:Fr w)(hl:l<=c/\c<=281474976710656)(hW:Ti.IsW .u8 256 w p l F)(he:derr l F≠0):
  Calls prog 4 #[.slice p l c] w fun e w'=>e=.returned (.bool true)/\Ab w w':=by
 have CL:=hid (kK w hF)
 have CD:=hid (fun v (a:Ab w v)=>dec_no p l c F v (by omega) (hW.below a) he)
 have CR:=hid (fun v (a:Ab w v)=>rdec_no p l c F v hl (hW.below a) he)
 have S1:=hid (fun v (a:Ab w v)=>Sv.hJ p l c F v (by omega) (hW.below a))
 have S2:=hid (fun v (a:Ab w v)=>gL p l c F v (by omega) (hW.below a))
 obtain⟨y,hy⟩:=aB (smN F l)
 rw[hy]at S1 S2
 obtain⟨x,hx⟩:=aB (derr l F)
 rw[hx]at CD CR
 have n2:(x==x)=true:=by simp
 have n3:((y:Int)==(y:Int))=true:=by simp
 clear hF hl hW he hx hy
 go_enter func4,ntmps4
 go_wp2_with fail
 refine CL.out.mono ?_
 rintro e9 v1 ⟨rfl,b1⟩
 have A1:Hid (Ab w v1):=b1
 clear b1 CL
 go_wp2_with fail
 refine(CD.out v1 A1.out).mono ?_
 rintro e9 v2 ⟨rfl,b2⟩
 have A2:Hid (Ab w v2):=A1.out.trans b2
 obtain⟨X3,R3⟩:=aH v2 (.cells #[.slice none 0 0,.slice none 0 0,.slice none 0 0,.slice none 0 0,.int .i64 0,.int .i64 0] 25)
 clear b2 A1 CD
 go_upto_region 4 with fail
 generalize hV:World.alloc v2 _=v3 at*
 obtain⟨s,hs2⟩:=aB v2.heap.size
 rw[hs2]at R3 ⊢
 clear hV hs2
 have A3:Hid (Ab w v3):=A2.out.trans X3.out
 clear A2 X3
 go_wp2_with fail
 refine(CR.out v3 A3.out).mono ?_
 rintro e9 v4 ⟨rfl,b4⟩
 have A4:Hid (Ab w v4):=A3.out.trans b4
 have R4:=hid (Ab.heap b4 R3.out)
 obtain⟨X5,R5⟩:=aH v4 (.cells #[.slice none 0 0,.slice none 0 0,.slice none 0 0,.slice none 0 0,.int .i64 0,.int .i64 0] 25)
 have Q5:=hid (Ab.heap X5.out R4.out)
 clear b4 A3 CR R3 R4
 go_upto_region 5 with fail
 generalize hV:World.alloc v4 _=v5 at*
 obtain⟨t,ht2⟩:=aB v4.heap.size
 rw[ht2]at R5 ⊢
 clear hV ht2
 have A5:Hid (Ab w v5):=A4.out.trans X5.out
 clear A4 X5
 have y0:=aE R5.out
 have yq0:=aE Q5.out
 go_wp2_with (go_at_call 10;refine(tJ _).mono ?_;rintro e9 v6 ⟨rfl,b6⟩)
 have A6:Hid (Ab w v6):=A5.out.trans b6
 go_wp2_with fail
 refine(S1.out _ A6.out).mono ?_
 rintro e9 z1 ⟨rfl,hz⟩
 have hz1:=hz.symm
 subst hz1
 go_wp2_with fail
 refine(S2.out _ A6.out).mono ?_
 rintro e9 z1 ⟨rfl,hz⟩
 have hz1:=hz.symm
 subst hz1
 go_wp2_with fail
 go_ret
 exact⟨rfl,A6.out⟩
theorem decs_yes(p:Option Addr)(l c:Nat)(F:Nat->Nat)(w:World)(hF:Fr w)(hb: ∀i,F i<256)(hl:l<=c/\c<=281474976710656)(hW:Ti.IsW .u8 256 w p l F)(he:derr l F=0):
  Calls prog 4 #[.slice p l c] w fun e w'=>e=.returned (.bool true)/\Ab w w':=by
 obtain⟨d1,d2,d3,d4,d5⟩:=derr_0 he
 obtain⟨n,hn⟩:=aB (F 4)
 rw[hn]at d2 d3 d4 d5
 obtain⟨N,hN⟩:=aB (6*n*n)
 rw[hN]at d3 d4 d5
 obtain⟨M,hM⟩:=aB (2*N)
 have IN:=hid (dec_in (N:=N) hb)
 have CL:=hid (kK w hF)
 have CD:=hid (fun v (a:Ab w v)=>rX p l c n N M F v (by omega) (hW.below a) he hn hN hM)
 have CR:=hid (fun v (a:Ab w v)=>rdec_yes p l c n N M F v hl (hW.below a) he hn hN hM)
 have S1:=hid (fun v (a:Ab w v)=>Sv.hJ p l c F v (by omega) (hW.below a))
 have S2:=hid (fun v (a:Ab w v)=>gL p l c F v (by omega) (hW.below a))
 obtain⟨y,hy⟩:=aB (smN F l)
 rw[hy]at S1 S2
 have n3:((y:Int)==(y:Int))=true:=by simp
 have n4:((n:Int)==(n:Int))=true:=by simp
 have NB:=hid (show N<=281474976710656/\M<=281474976710656/\M=2*N from by omega)
 obtain⟨sk,hsk⟩:=aB (i64 (num F 13))
 obtain⟨st,hst⟩:=aB (i64 (num F 5))
 rw[hsk,hst]at IN CR
 have HX:=hid (show i64 (num F 13)=sk/\i64 (num F 5)=st from⟨hsk,hst⟩)
 clear hF hl hW he d1 d2 d3 d4 d5 hN hM hsk hst hb hy hn
 go_enter func4,ntmps4
 go_wp2_with fail
 refine CL.out.mono ?_
 rintro e9 v1 ⟨rfl,b1⟩
 have A1:Hid (Ab w v1):=b1
 clear b1 CL
 go_wp2_with fail
 refine(CD.out v1 A1.out).mono ?_
 rintro e9 v2 ⟨t0,t1,t2,t3,rfl,b2,_,_,r0,r1,r2,r3⟩
 rw[HX.out.1,HX.out.2]
 have A2:Hid (Ab w v2):=A1.out.trans b2
 obtain⟨X3,R3⟩:=aH v2 (.cells #[.slice (some ⟨t0,0,none⟩) N N,.slice (some ⟨t1,0,none⟩) N N,.slice (some ⟨t2,0,none⟩) N N,.slice (some ⟨t3,0,none⟩) M M,.int .i64 sk,.int .i64 st] 25)
 have K1:=hid ((rowIs.fl r0 IN.out.1).below X3.out)
 have K2:=hid ((Sh.dF r1 IN.out.2.1).below X3.out)
 have K3:=hid ((Sh.dF r2 IN.out.2.2.1).below X3.out)
 have K4:=hid ((rowIs.fl r3 (fun i hi=>IN.out.2.2.2.1 i (by have:=NB.out;omega))).below X3.out)
 clear b2 A1 CD r0 r1 r2 r3
 go_upto_region 4 with fail
 generalize hV:World.alloc v2 _=v3 at*
 obtain⟨s,hs2⟩:=aB v2.heap.size
 rw[hs2]at R3 ⊢
 clear hV hs2
 have A3:Hid (Ab w v3):=A2.out.trans X3.out
 clear A2 X3
 go_wp2_with fail
 refine(CR.out v3 A3.out).mono ?_
 rintro e9 v4 ⟨t0x,t1x,t2x,t3x,u0,u1,u2,u3,rfl,b4,j0,j1,j2,j3⟩
 have A4:Hid (Ab w v4):=A3.out.trans b4
 have R4:=hid (Ab.heap b4 R3.out)
 obtain⟨X5,R5⟩:=aH v4 (.cells #[.slice (some ⟨t0x,0,none⟩) N u0,.slice (some ⟨t1x,0,none⟩) N u1,.slice (some ⟨t2x,0,none⟩) N u2,.slice (some ⟨t3x,0,none⟩) M u3,.int .i64 sk,.int .i64 st] 25)
 have Q5:=hid (Ab.heap X5.out R4.out)
 have L1:=hid ((K1.out.below b4).below X5.out)
 have L2:=hid ((K2.out.below b4).below X5.out)
 have L3:=hid ((K3.out.below b4).below X5.out)
 have L4:=hid ((K4.out.below b4).below X5.out)
 have J1:=hid (j0.below X5.out)
 have J2:=hid (j1.below X5.out)
 have J3:=hid (j2.below X5.out)
 have J4:=hid (j3.below X5.out)
 clear b4 A3 CR R3 R4 K1 K2 K3 K4 j0 j1 j2 j3
 go_upto_region 5 with fail
 generalize hV:World.alloc v4 _=v5 at*
 obtain⟨t,ht2⟩:=aB v4.heap.size
 rw[ht2]at R5 ⊢
 clear hV ht2
 have A5:Hid (Ab w v5):=A4.out.trans X5.out
 clear A4 X5
 have SE:=hid (hH _ N N _ _ N N _ _ N N _ _ M M _ sk st _ u0 _ u1 _ u2 _ u3 v5 ⟨NB.out.1,NB.out.1,NB.out.1,NB.out.2.1⟩ L1.out L2.out L3.out L4.out J1.out J2.out J3.out J4.out)
 have y0:=aE R5.out
 have yq0:=aE Q5.out
 go_wp2_with (go_at_call 10;refine SE.out.mono ?_;rintro e9 v6 ⟨rfl,b6⟩)
 have A6:Hid (Ab w v6):=A5.out.trans b6
 go_wp2_with fail
 refine(S1.out _ A6.out).mono ?_
 rintro e9 z1 ⟨rfl,hz⟩
 have hz1:=hz.symm
 subst hz1
 go_wp2_with fail
 refine(S2.out _ A6.out).mono ?_
 rintro e9 z1 ⟨rfl,hz⟩
 have hz1:=hz.symm
 subst hz1
 go_wp2_with fail
 go_ret
 exact⟨rfl,A6.out⟩
theorem decs_at(p:Option Addr)(l c:Nat)(F:Nat->Nat)(w:World)(hF:Fr w)(hl:l<=c/\c<=140737488355328)(hW:Ti.IsW .u8 256 w p l F):
  Calls prog 4 #[.slice p l c] w fun e w'=>e=.returned (.bool true)/\Below w.heap.size w w':=by
 have hl2:l<=c/\c<=281474976710656:=by omega
 by_cases he:derr l (cutF l F)=0
 ·exact decs_yes p l c (cutF l F) w hF (cutF_lt hW.lt) hl2 (cutF_w hW) he
 ·exact decs_no p l c (cutF l F) w hF hl2 (cutF_w hW) he
end Sv
end
section
open Go.ChangeShapes Go.WideShapes Go.ChangeAt Go.WideMaps Go.WideElems Go.RowKit Go.Deep
namespace Sh
theorem qS{w:World}{a:Addr}{v:Value}(h:w.cell? a=some v):a.block<w.heap.size:=by
 by_cases c:a.block<w.heap.size
 ·exact c
 ·exfalso
  have:w.heap[a.block]? =none:=by simp;omega
  simp[World.cell?,this]at h
theorem pick_fn{α:Type}{n:Nat}{R:Nat->α->Prop}(d:α)(h: ∀i,i<n-> ∃x,R i x): ∃f:Nat->α,∀i,i<n->R i (f i):=by
 have: ∀i,∃x,i<n->R i x:=fun i=>by
  by_cases c:i<n
  ·obtain⟨x,h1⟩:=h i c
   exact⟨x,fun _=>h1⟩
  ·exact⟨d,fun h=>absurd h c⟩
 exact⟨fun i=>(this i).choose,fun i hi=>(this i).choose_spec hi⟩
end Sh
end
section
open Go.ChangeShapes Go.WideShapes Go.ChangeAt Go.WideMaps Go.WideElems Go.RowKit Go.Deep
namespace Sv
theorem trod_u8{H:Type}{enc:TypeId × Value->H}{P:Program}{w:World}{base:Nat}{spare:Nat->Bool}{held:Bool}{t:TypeId}{fuel:Nat}{v:Value}{x:DataW H × List MemPlace}(ht:P.underlying t=some (.int .u8))(h:DataW.trod enc P w base spare held fuel t [v]=some x):
  ∃b:Nat,v=.int .u8 (b:Int)/\b<256:=by
 obtain⟨k,e,_,wf⟩:=DataW.trod_int ht h
 simp at e
 simp only[Lit.wf,Bool.and_eq_true,decide_eq_true_eq]at wf
 have q1:IntKind.u8.min=0:=by decide
 have q2:IntKind.u8.max=255:=by decide
 rw[q1,q2]at wf
 exact⟨k.toNat,by rw[Int.toNat_of_nonneg wf.1];exact e,by omega⟩
theorem bytes8:Tryz.prog.bytesOf 5=1:=by kernel_rfl
theorem qT{H:Type}{enc:TypeId × Value->H}{W:World}{cs:List Value}{fuel:Nat}{x:DataW H × List MemPlace}
  (hf:DataW.trod enc prog W 0 (fun _=>true) true fuel 27 cs=some x) (hs: ∀elems spare,x.1=.slice elems spare->(elems.length+spare.length)*1<=reachBytes): ∃a0 len cap xs,cs=[.slice a0 len cap]/\Ti.IsW .u8 256 W a0 len xs/\len<=cap/\cap<=140737488355328/\(a0=none->len=0):=by
 rcases open_slice1 underlying27 (by kernel_rfl) hf with⟨hcs,_⟩ | ⟨a,l,c,m,n,V,D,Pl,hcs,_,hl,hm,hmm,hx0,hx⟩
 ·exact⟨none,0,0,fun _=>0,hcs,fun k hk=>by omega,Nat.le_refl _,Nat.zero_le _,fun _=>rfl⟩
 ·simp only[if_true]at hmm
  have sz:=hs _ _ (by rw[hx0])
  simp only[List.length_map,List.length_range]at sz
  have each: ∀i,i<l-> ∃x:Nat,W.cell? (a.add i)=some (.int .u8 (x:Int))/\x<256:=by
   intro i hi
   obtain⟨h1,h2⟩:=hx i (by omega)
   obtain⟨x,e,wx⟩:=trod_u8 underlying5 h2
   rw[e]at h1
   exact⟨x,h1,wx⟩
  obtain⟨f,hf⟩:=Sh.pick_fn 0 each
  refine⟨some a,l,c,f,hcs,fun k hk=>⟨(hf k hk).2,?_⟩,hl,by unfold reachBytes at sz;omega,fun e=>by cases e⟩
  have h0:=(hf k hk).1
  have z:=(hf 0 (by omega)).1
  obtain⟨b,off,spot⟩:=a
  have hspot:spot=none:=by simpa [Addr.add]using World.cell?_spot z
  subst hspot
  rw[Sh.dY]at h0
  exact⟨b,off,rfl,Sh.qS h0,h0⟩
end Sv
end
end Go.Proofs.YtlmfpikhlcnjjaaGreatDoor
