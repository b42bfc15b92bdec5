/-
  Some of the texts of this proof, one behind the other.
-/
import Derived.Test.YtlmfpikhlcnjjaaGreatDoorSk07
set_option maxRecDepth 100000
set_option maxHeartbeats 400000000
namespace Go.Proofs.YtlmfpikhlcnjjaaGreatDoor
open _root_.Go.Proofs.Tryz
section
open Go.RowKit Go.Deep Tf Cu
attribute [local go_sem] aF aG aI aJ aK aL aM aD
namespace Sv
def by8(x n:Nat):List Nat:=(List.range n).map (Ti.byt x)
theorem iJ(x n:Nat):by8 x (n+1)=by8 x n++[Ti.byt x n]:=by
 unfold by8
 rw[List.range_succ,List.map_append]
 rfl
theorem bN(x n:Nat):(by8 x n).length=n:=by simp[by8]
theorem bJ{V wr w':World}{row:Option Nat}(h:Ab V wr)(hg:wr.grownBy w' row)(hr: ∀b,row=some b->V.heap.size<=b):Ab V w':=
 ⟨hg.os.trans (Below.os h),hg.tape.trans (Below.tape h),hg.output.trans (Below.output h),Nat.le_trans (Below.size h) hg.size,fun k hk=>(hg.block k (Nat.lt_of_lt_of_le hk (Below.size h)) (fun e=>by have:=hr k e.symm;omega)).trans (Below.block h k hk)⟩
theorem gD(w:World)(y:Nat)(v:Value)(hv:v=.int .u8 ((y:Nat):Int)): ∀j u,([y].map fun x:Nat=>Value.int .u8 (x:Int))[j]? =some u->(w.alloc (.cells #[v] 5)).cell? ((⟨w.heap.size,0,none⟩:Addr).add j)=some u:=fun j u hu=>by
 subst hv
 cases j with
 | zero=>
  simp at hu
  rw[<- hu,Sh.dY]
  exact aA 0 (heap_alloc_new _ _)
 | succ j=>simp at hu
theorem bytI8(x:Nat):((Ti.byt x 0:Nat):Int)=(x:Int)%256/\((Ti.byt x 1:Nat):Int)=(x:Int)/256%256/\((Ti.byt x 2:Nat):Int)=(x:Int)/65536%256/\((Ti.byt x 3:Nat):Int)=(x:Int)/16777216%256/\((Ti.byt x 4:Nat):Int)=(x:Int)/4294967296%256/\((Ti.byt x 5:Nat):Int)=(x:Int)/1099511627776%256/\((Ti.byt x 6:Nat):Int)=(x:Int)/281474976710656%256/\((Ti.byt x 7:Nat):Int)=(x:Int)/72057594037927936%256:=by
 have e: ∀k,Ti.byt x k=x/256 ^ k%256:=fun k=>rfl
 rw[e,e,e,e,e,e,e,e]
 refine⟨?_,?_,?_,?_,?_,?_,?_,?_⟩<;>omega
theorem gF(V:World)(g k cp m x:Nat)(l:List Nat)(w:World)(hA:Ab V w)(hO:T8.Own V.heap.size (.slice (some ⟨g,0,none⟩) k cp) l w)(hk:l.length=k)(hm:k+8=m)(hm2:m<=1048576):
  Calls prog 17 #[.slice (some ⟨g,0,none⟩) k cp,.int .u64 (x:Int)] w fun e w'=> ∃g' cp',e=.returned (.slice (some ⟨g',0,none⟩) m cp')/\Ab V w'/\T8.Own V.heap.size (.slice (some ⟨g',0,none⟩) m cp') (l++by8 x 8) w':=by
 have HA:=hid hA
 have HO:=hid hO
 have HK:=hid (show l.length=k/\k+8=m/\m<=1048576 from⟨hk,hm,hm2⟩)
 have BX:=hid (bytI8 x)
 clear hA hO hk hm hm2
 go_enter func17,ntmps17
 go_wp2
 go_loopw [0,6] (fun bv iv wr=> ∃i g' cp',i<=8/\iv=.int .i64 ((i:Nat):Int)/\bv=.slice (some ⟨g',0,none⟩) (k+i) cp'/\Ab V wr/\T8.Own V.heap.size (.slice (some ⟨g',0,none⟩) (k+i) cp') (l++by8 x i) wr) (fun _ iv _=>8 - (intOf iv).toNat)
 case atStart=>exact⟨0,g,cp,by omega,rfl,rfl,HA.out,by rw[show by8 x 0=[]from rfl,List.append_nil];exact HO.out⟩
 case round=>
  obtain⟨i,g',cp',hi,rfl,rfl,a1,o1⟩:=hrel
  have A1:=hid a1
  have O1:=hid o1
  clear a1 o1
  have cs:i=0\/i=1\/i=2\/i=3\/i=4\/i=5\/i=6\/i=7\/i=8:=by omega
  clear hi
  rcases cs with rfl | rfl | rfl | rfl | rfl | rfl | rfl | rfl | rfl
  ·have SZ:Hid ((l++by8 x 0).length=k+0):=by show _=_;rw[List.length_append,bN,HK.out.1]
   have KB:=hid (show V.heap.size<=wr.heap.size from Below.size A1.out)
   go_wp2_with (at_builtin;refine T8.aX rfl (.tmp 9) (.tmp 15) rfl V.heap.size _ (l++by8 x 0) rfl (O1.out.alloc _) ⟨wr.heap.size,0,none⟩ 1 1 [Ti.byt x 0] rfl rfl (gD wr _ _ (congrArg (Value.int .u8) BX.out.1.symm)) (by decide) (by have:=HK.out;have:=SZ.out;omega) (by have:=KB.out;simp;omega) (k+1) (by rw[SZ.out]) ?_;intro g2 c2 w2 o2 q2 e2 l2)
   refine⟨⟨1,g2,c2,by omega,rfl,rfl,bJ (A1.out.trans (bl1 _ _)) q2 (fun b hb=>by cases hb;exact O1.out.row.1),?_⟩,by simp[intOf]⟩
   rw[iJ,<- List.append_assoc]
   exact o2
  ·have SZ:Hid ((l++by8 x 1).length=k+1):=by show _=_;rw[List.length_append,bN,HK.out.1]
   have KB:=hid (show V.heap.size<=wr.heap.size from Below.size A1.out)
   go_wp2_with (at_builtin;refine T8.aX rfl (.tmp 9) (.tmp 15) rfl V.heap.size _ (l++by8 x 1) rfl (O1.out.alloc _) ⟨wr.heap.size,0,none⟩ 1 1 [Ti.byt x 1] rfl rfl (gD wr _ _ (congrArg (Value.int .u8) BX.out.2.1.symm)) (by decide) (by have:=HK.out;have:=SZ.out;omega) (by have:=KB.out;simp;omega) (k+2) (by rw[SZ.out]) ?_;intro g2 c2 w2 o2 q2 e2 l2)
   refine⟨⟨2,g2,c2,by omega,rfl,rfl,bJ (A1.out.trans (bl1 _ _)) q2 (fun b hb=>by cases hb;exact O1.out.row.1),?_⟩,by simp[intOf]⟩
   rw[iJ,<- List.append_assoc]
   exact o2
  ·have SZ:Hid ((l++by8 x 2).length=k+2):=by show _=_;rw[List.length_append,bN,HK.out.1]
   have KB:=hid (show V.heap.size<=wr.heap.size from Below.size A1.out)
   go_wp2_with (at_builtin;refine T8.aX rfl (.tmp 9) (.tmp 15) rfl V.heap.size _ (l++by8 x 2) rfl (O1.out.alloc _) ⟨wr.heap.size,0,none⟩ 1 1 [Ti.byt x 2] rfl rfl (gD wr _ _ (congrArg (Value.int .u8) BX.out.2.2.1.symm)) (by decide) (by have:=HK.out;have:=SZ.out;omega) (by have:=KB.out;simp;omega) (k+3) (by rw[SZ.out]) ?_;intro g2 c2 w2 o2 q2 e2 l2)
   refine⟨⟨3,g2,c2,by omega,rfl,rfl,bJ (A1.out.trans (bl1 _ _)) q2 (fun b hb=>by cases hb;exact O1.out.row.1),?_⟩,by simp[intOf]⟩
   rw[iJ,<- List.append_assoc]
   exact o2
  ·have SZ:Hid ((l++by8 x 3).length=k+3):=by show _=_;rw[List.length_append,bN,HK.out.1]
   have KB:=hid (show V.heap.size<=wr.heap.size from Below.size A1.out)
   go_wp2_with (at_builtin;refine T8.aX rfl (.tmp 9) (.tmp 15) rfl V.heap.size _ (l++by8 x 3) rfl (O1.out.alloc _) ⟨wr.heap.size,0,none⟩ 1 1 [Ti.byt x 3] rfl rfl (gD wr _ _ (congrArg (Value.int .u8) BX.out.2.2.2.1.symm)) (by decide) (by have:=HK.out;have:=SZ.out;omega) (by have:=KB.out;simp;omega) (k+4) (by rw[SZ.out]) ?_;intro g2 c2 w2 o2 q2 e2 l2)
   refine⟨⟨4,g2,c2,by omega,rfl,rfl,bJ (A1.out.trans (bl1 _ _)) q2 (fun b hb=>by cases hb;exact O1.out.row.1),?_⟩,by simp[intOf]⟩
   rw[iJ,<- List.append_assoc]
   exact o2
  ·have SZ:Hid ((l++by8 x 4).length=k+4):=by show _=_;rw[List.length_append,bN,HK.out.1]
   have KB:=hid (show V.heap.size<=wr.heap.size from Below.size A1.out)
   go_wp2_with (at_builtin;refine T8.aX rfl (.tmp 9) (.tmp 15) rfl V.heap.size _ (l++by8 x 4) rfl (O1.out.alloc _) ⟨wr.heap.size,0,none⟩ 1 1 [Ti.byt x 4] rfl rfl (gD wr _ _ (congrArg (Value.int .u8) BX.out.2.2.2.2.1.symm)) (by decide) (by have:=HK.out;have:=SZ.out;omega) (by have:=KB.out;simp;omega) (k+5) (by rw[SZ.out]) ?_;intro g2 c2 w2 o2 q2 e2 l2)
   refine⟨⟨5,g2,c2,by omega,rfl,rfl,bJ (A1.out.trans (bl1 _ _)) q2 (fun b hb=>by cases hb;exact O1.out.row.1),?_⟩,by simp[intOf]⟩
   rw[iJ,<- List.append_assoc]
   exact o2
  ·have SZ:Hid ((l++by8 x 5).length=k+5):=by show _=_;rw[List.length_append,bN,HK.out.1]
   have KB:=hid (show V.heap.size<=wr.heap.size from Below.size A1.out)
   go_wp2_with (at_builtin;refine T8.aX rfl (.tmp 9) (.tmp 15) rfl V.heap.size _ (l++by8 x 5) rfl (O1.out.alloc _) ⟨wr.heap.size,0,none⟩ 1 1 [Ti.byt x 5] rfl rfl (gD wr _ _ (congrArg (Value.int .u8) BX.out.2.2.2.2.2.1.symm)) (by decide) (by have:=HK.out;have:=SZ.out;omega) (by have:=KB.out;simp;omega) (k+6) (by rw[SZ.out]) ?_;intro g2 c2 w2 o2 q2 e2 l2)
   refine⟨⟨6,g2,c2,by omega,rfl,rfl,bJ (A1.out.trans (bl1 _ _)) q2 (fun b hb=>by cases hb;exact O1.out.row.1),?_⟩,by simp[intOf]⟩
   rw[iJ,<- List.append_assoc]
   exact o2
  ·have SZ:Hid ((l++by8 x 6).length=k+6):=by show _=_;rw[List.length_append,bN,HK.out.1]
   have KB:=hid (show V.heap.size<=wr.heap.size from Below.size A1.out)
   go_wp2_with (at_builtin;refine T8.aX rfl (.tmp 9) (.tmp 15) rfl V.heap.size _ (l++by8 x 6) rfl (O1.out.alloc _) ⟨wr.heap.size,0,none⟩ 1 1 [Ti.byt x 6] rfl rfl (gD wr _ _ (congrArg (Value.int .u8) BX.out.2.2.2.2.2.2.1.symm)) (by decide) (by have:=HK.out;have:=SZ.out;omega) (by have:=KB.out;simp;omega) (k+7) (by rw[SZ.out]) ?_;intro g2 c2 w2 o2 q2 e2 l2)
   refine⟨⟨7,g2,c2,by omega,rfl,rfl,bJ (A1.out.trans (bl1 _ _)) q2 (fun b hb=>by cases hb;exact O1.out.row.1),?_⟩,by simp[intOf]⟩
   rw[iJ,<- List.append_assoc]
   exact o2
  ·have SZ:Hid ((l++by8 x 7).length=k+7):=by show _=_;rw[List.length_append,bN,HK.out.1]
   have KB:=hid (show V.heap.size<=wr.heap.size from Below.size A1.out)
   go_wp2_with (at_builtin;refine T8.aX rfl (.tmp 9) (.tmp 15) rfl V.heap.size _ (l++by8 x 7) rfl (O1.out.alloc _) ⟨wr.heap.size,0,none⟩ 1 1 [Ti.byt x 7] rfl rfl (gD wr _ _ (congrArg (Value.int .u8) BX.out.2.2.2.2.2.2.2.symm)) (by decide) (by have:=HK.out;have:=SZ.out;omega) (by have:=KB.out;simp;omega) (k+8) (by rw[SZ.out]) ?_;intro g2 c2 w2 o2 q2 e2 l2)
   refine⟨⟨8,g2,c2,by omega,rfl,rfl,bJ (A1.out.trans (bl1 _ _)) q2 (fun b hb=>by cases hb;exact O1.out.row.1),?_⟩,by simp[intOf]⟩
   rw[iJ,<- List.append_assoc]
   exact o2
  ·go_wp2
   go_ret
   exact⟨g',cp',by rw[HK.out.2.1];rfl,A1.out,by rw[<- HK.out.2.1];exact O1.out⟩
def flat(f:Nat->Nat)(n:Nat):List Nat:=(List.range n).flatMap fun k=>by8 (f k) 8
theorem mU(f:Nat->Nat)(n:Nat):flat f (n+1)=flat f n++by8 (f n) 8:=by
 unfold flat
 rw[List.range_succ,List.flatMap_append]
 simp
theorem eK(f:Nat->Nat)(n:Nat):(flat f n).length=8*n:=by
 induction n with
 | zero=>rfl
 | succ n ih=>rw[mU,List.length_append,ih,bN];omega
theorem gG(x:Int):IntKind.u64.wrap x=((u64 x:Nat):Int):=by
 unfold u64
 show x%18446744073709551616=_
 omega
theorem tN(x:Int)(w:World):Calls prog 21 #[.int .i64 x] w fun e w'=>e=.returned (.int .u64 ((u64 x:Nat):Int))/\w'=w:=by
 have HX:=hid (gG x)
 have e:=gG x
 obtain⟨y,hy⟩:=aB (u64 x)
 rw[hy]at e ⊢
 clear hy HX
 go_enter func21,ntmps21
 go_wp2
 go_ret
 exact⟨by first | rfl | (rw[<- e];rfl),rfl⟩
theorem pB(V:World)(g kk cp m n:Nat)(l:List Nat)(pa:Option Addr)(c:Nat)(f:Nat->Nat)(w:World)(hA:Ab V w)(hO:T8.Own V.heap.size (.slice (some ⟨g,0,none⟩) kk cp) l w)(hk:l.length=kk)(hm:kk+8*n=m)(hm2:m<=1048576)(hf:IsFl V pa n f):
  Calls prog 18 #[.slice (some ⟨g,0,none⟩) kk cp,.slice pa n c,.func (.func 19) #[] #[]] w fun e w'=> ∃g' cp',e=.returned (.slice (some ⟨g',0,none⟩) m cp')/\Ab V w'/\T8.Own V.heap.size (.slice (some ⟨g',0,none⟩) m cp') (l++flat (f) n) w':=by
 have HA:=hid hA
 have HO:=hid hO
 have HF:=hid hf
 have HK:=hid (show l.length=kk/\kk+8*n=m/\m<=1048576 from⟨hk,hm,hm2⟩)
 have nB:(n:Int)<=131072:=by omega
 clear hA hO hk hm hm2 hf
 go_enter func18,ntmps18
 go_wp2
 go_loopw [0,11] (fun bv iv wr=> ∃i q g' cp',i<=n/\kk+8*i=q/\iv=.int .i64 ((i:Nat):Int)/\bv=.slice (some ⟨g',0,none⟩) q cp'/\Ab V wr/\T8.Own V.heap.size (.slice (some ⟨g',0,none⟩) q cp') (l++flat (f) i) wr) (fun _ iv _=>n - (intOf iv).toNat)
 case atStart=>exact⟨0,kk,g,cp,by omega,by omega,rfl,rfl,HA.out,by rw[show flat (f) 0=[]from rfl,List.append_nil];exact HO.out⟩
 case round=>
  obtain⟨i,q,g',cp',hi,hq,rfl,rfl,a1,o1⟩:=hrel
  have A1:=hid a1
  have O1:=hid o1
  have HQ:=hid (show i<=n/\kk+8*i=q from⟨hi,hq⟩)
  clear a1 o1
  by_cases hin:i<n
  ·have HI:=hid hin
   have iI:(i:Int)<n:=by omega
   obtain⟨x1,b,o,rfl,x2,x3⟩:=(HF.out.below A1.out) i hin
   obtain⟨x,hx⟩:=aB (f i)
   rw[hx]at x3 x1
   have HX:=hid hx
   have xI:((x:Nat):Int)=(x:Int):=rfl
   skip
   skip
   skip
   have CP:=hid (gF V g' q cp' (q+8) x (l++flat (f) i) wr A1.out O1.out (by rw[List.length_append,eK,HK.out.1];exact HQ.out.2) rfl (by have:=HK.out;omega))
   clear hi hq hin hx x1 x2
   go_wp2_with (first
    | fail
    | (go_at_call 17;refine CP.out.mono ?_;rintro e9 z9 ⟨g2,c2,rfl,a2,o2⟩))
   refine⟨⟨i+1,q+8,g2,c2,by have:=HI.out;omega,by have:=HQ.out;omega,by simp,rfl,a2,?_⟩,by have:=HI.out;simp[intOf];omega⟩
   rw[mU,<- List.append_assoc]
   rw[HX.out]
   exact o2
  ·have e6:n=i:=by omega
   subst e6
   have e7:q=m:=by have:=HK.out;omega
   subst e7
   go_wp2
   go_ret
   exact⟨g',cp',rfl,A1.out,O1.out⟩
theorem pC(V:World)(g kk cp m n:Nat)(l:List Nat)(pa:Option Addr)(c:Nat)(f:Nat->Int)(w:World)(hA:Ab V w)(hO:T8.Own V.heap.size (.slice (some ⟨g,0,none⟩) kk cp) l w)(hk:l.length=kk)(hm:kk+8*n=m)(hm2:m<=1048576)(hf:Sh.IsI V pa n f):
  Calls prog 20 #[.slice (some ⟨g,0,none⟩) kk cp,.slice pa n c,.func (.func 21) #[] #[]] w fun e w'=> ∃g' cp',e=.returned (.slice (some ⟨g',0,none⟩) m cp')/\Ab V w'/\T8.Own V.heap.size (.slice (some ⟨g',0,none⟩) m cp') (l++flat (fun i=>u64 (f i)) n) w':=by
 have HA:=hid hA
 have HO:=hid hO
 have HF:=hid hf
 have HK:=hid (show l.length=kk/\kk+8*n=m/\m<=1048576 from⟨hk,hm,hm2⟩)
 have nB:(n:Int)<=131072:=by omega
 clear hA hO hk hm hm2 hf
 go_enter func20,ntmps20
 go_wp2
 go_loopw [0,11] (fun bv iv wr=> ∃i q g' cp',i<=n/\kk+8*i=q/\iv=.int .i64 ((i:Nat):Int)/\bv=.slice (some ⟨g',0,none⟩) q cp'/\Ab V wr/\T8.Own V.heap.size (.slice (some ⟨g',0,none⟩) q cp') (l++flat (fun i=>u64 (f i)) i) wr) (fun _ iv _=>n - (intOf iv).toNat)
 case atStart=>exact⟨0,kk,g,cp,by omega,by omega,rfl,rfl,HA.out,by rw[show flat (fun i=>u64 (f i)) 0=[]from rfl,List.append_nil];exact HO.out⟩
 case round=>
  obtain⟨i,q,g',cp',hi,hq,rfl,rfl,a1,o1⟩:=hrel
  have A1:=hid a1
  have O1:=hid o1
  have HQ:=hid (show i<=n/\kk+8*i=q from⟨hi,hq⟩)
  clear a1 o1
  by_cases hin:i<n
  ·have HI:=hid hin
   have iI:(i:Int)<n:=by omega
   obtain⟨x1,b,o,rfl,x2,x3⟩:=(HF.out.below A1.out) i hin
   obtain⟨x,hx⟩:=aB (f i)
   rw[hx]at x3 x1
   have HX:=hid hx
   obtain⟨y,hy⟩:=aB (u64 x)
   have HY:=hid hy
   have CB:=hid (fun v=>tN x v)
   rw[hy]at CB
   have CP:=hid (gF V g' q cp' (q+8) y (l++flat (fun i=>u64 (f i)) i) wr A1.out O1.out (by rw[List.length_append,eK,HK.out.1];exact HQ.out.2) rfl (by have:=HK.out;omega))
   clear hi hq hin hx x1 x2 hy
   go_wp2_with (first
    | (go_at_call 21;refine(CB.out _).mono ?_;rintro e9 z9 ⟨rfl,hz⟩;have hz2:=hz.symm;subst hz2)
    | (go_at_call 17;refine CP.out.mono ?_;rintro e9 z9 ⟨g2,c2,rfl,a2,o2⟩))
   refine⟨⟨i+1,q+8,g2,c2,by have:=HI.out;omega,by have:=HQ.out;omega,by simp,rfl,a2,?_⟩,by have:=HI.out;simp[intOf];omega⟩
   rw[mU,<- List.append_assoc]
   rw[show u64 (f i)=y by rw[HX.out,HY.out]]
   exact o2
  ·have e6:n=i:=by omega
   subst e6
   have e7:q=m:=by have:=HK.out;omega
   subst e7
   go_wp2
   go_ret
   exact⟨g',cp',rfl,A1.out,O1.out⟩
end Sv
end
section
open Go.RowKit Go.Deep Tf Cu
attribute [local go_sem] aF aG aI aJ aK aL aM aD
namespace Sv
theorem aO{g b n:Nat}{t:TypeId}{f:Nat->Value}{u w:World}(h:u.rowIs g t n f)(a:Sh.Abo u b w)(hne:g≠b):w.rowIs g t n f:=by
 obtain⟨cs,h1,h2,h3⟩:=h
 exact⟨cs,(a.2.2.2.2 g (lt_of_block h1) hne).trans h1,h2,h3⟩
theorem info_f25:(Tryz.prog.info? 47).map (fun i=>(i.zero,i.size,i.bytes))=some (some (.float .f64 0),1,8):=by kernel_rfl
theorem info_i25:(Tryz.prog.info? 2).map (fun i=>(i.zero,i.size,i.bytes))=some (some (.int .i64 0),1,8):=by kernel_rfl
theorem pD(r g o l c p n m:Nat)(w:World)(h:RD r g o l c p w)(hm:n*8=m)(hn:n<=12288)(hl:l - p<m):
  Calls prog 55 #[.pointer (some ⟨r,0,none⟩),.int .i64 (n:Nat),.func (.func 56) #[] #[]] w fun e w'=>e=.panicked [{v:=.iface 28 (.int .i64 31),recovered:=false}]/\w'=w:=by
 have q1:(n:Int)*8=(m:Int):=by omega
 have q2:(m:Int)<=98304:=by omega
 have CB:=hid (rd_no r g o l c p m w h hl)
 clear h hm hl
 go_enter func55,ntmps55
 go_wp2_with (go_at_call 72;refine CB.out.mono ?_;rintro e9 z1 ⟨rfl,hz⟩;have hz2:=hz.symm;subst hz2)
 exact⟨rfl,rfl,rfl⟩
theorem bO(r g o l c p n m:Nat)(F:Nat->Nat)(w:World)(h:RD r g o l c p w)(hm:n*8=m)(hn:1<=n/\n<=12288)(hl:p+m<=l)(hc:l<=c)(hne:g≠r)(hF:Ti.IsW .u8 256 w (some ⟨g,o,none⟩) l F):
  Calls prog 55 #[.pointer (some ⟨r,0,none⟩),.int .i64 (n:Nat),.func (.func 56) #[] #[]] w fun e w'=> ∃t,e=.returned (.slice (some ⟨t,0,none⟩) n n)/\Sh.Abo w r w'/\RD r g o l c (p+m) w'/\w.heap.size<=t/\w'.rowIs t 47 n (fun i=>.float .f64 (num F (p+8*i))):=by
 have q1:(n:Int)*8=(m:Int):=by omega
 have q2:(m:Int)<=98304:=by omega
 have q3:(n:Int)<=12288:=by omega
 have HB:=hid (show n*8=m/\1<=n/\n<=12288/\p+m<=l/\l<=c from⟨hm,hn.1,hn.2,hl,hc⟩)
 have HNE:=hid hne
 have HF:=hid hF
 have RL:=hid h.lt
 have M1: ∀v:World,(Instr.makeSlice 22 (.int .i64 (n:Nat)) (.int .i64 (n:Nat))).run prog v=.ok (.slice (some ⟨v.heap.size,0,none⟩) n n) (v.alloc (Obj.cells (madeCells #[.float .f64 0] n) 47)):=fun v=>run_make_row' (P:=prog) 22 47 (.float .f64 0) 8 underlying22 info_f25 rfl .i64 .i64 n (by omega) (by omega) v
 have CB:=hid (kF r g o l c p m w h (by omega) hl hc)
 clear h hm hn hl hc hne hF
 go_enter func55,ntmps55
 go_wp2_with fail
 refine CB.out.mono ?_
 rintro e9 v1 ⟨rfl,a1,r1⟩
 have A1:=hid a1
 have R1:=hid r1
 clear a1 r1 CB
 have X2:=bG (bl1 v1 (.cells #[.slice (some ⟨g,o+p,none⟩) m (c - p)] 82))
 have Q2:Hid (RD v1.heap.size g (o+p) m (c - p) 0 (v1.alloc (.cells #[.slice (some ⟨g,o+p,none⟩) m (c - p)] 82))):=RD.new v1 g (o+p) m (c - p)
 go_upto_region 2 with fail
 generalize hV:World.alloc v1 _=v2 at*
 obtain⟨b,hb⟩:=aB v1.heap.size
 have LB:Hid (w.heap.size<=b/\r<b):=⟨by rw[<- hb];exact A1.out.2.2.2.1,by rw[<- hb];exact R1.out.lt⟩
 rw[hb]at Q2 ⊢
 clear hV hb
 have A2:Hid (Sh.Abo w r v2):=Ti.Abo.trans A1.out (Ti.Abo.of X2.out _)
 have R2:=hid (R1.out.to X2.out)
 have F2:=hid (Ti.bE HF.out A2.out HNE.out)
 have NB:Hid (g<b/\g≠b):=by
  have q:=(HF.out.at0 (k:=0) (by have:=HB.out;omega)).2.1
  have:=LB.out
  exact⟨by omega,by omega⟩
 clear A1 R1 X2
 have X3:=bG (bl1 v2 (Obj.cells (madeCells #[.float .f64 0] n) 47))
 have N3:Hid ((v2.alloc (Obj.cells (madeCells #[.float .f64 0] n) 47)).rowIs v2.heap.size 47 n (fun _=>.float .f64 0)):=dK (heap_alloc_new _ _)
 go_upto_region 3 with fail
 generalize hV:World.alloc v2 _=v3 at*
 obtain⟨t,ht⟩:=aB v2.heap.size
 have LT:Hid (w.heap.size<=t/\r<t/\b<t/\g<t):=⟨by rw[<- ht];exact A2.out.2.2.2.1,by rw[<- ht];exact R2.out.lt,by rw[<- ht];exact Q2.out.lt,by rw[<- ht];exact Nat.lt_trans NB.out.1 Q2.out.lt⟩
 rw[ht]at N3 ⊢
 clear hV ht M1
 have A3:Hid (Sh.Abo w r v3):=Ti.Abo.trans A2.out (Ti.Abo.of X3.out _)
 have R3:=hid (R2.out.to X3.out)
 have Q3:=hid (Q2.out.to X3.out)
 clear A2 R2 Q2 X3 F2
 go_wp2
 go_loopw [20] (fun iv wr=> ∃k:Nat,k<=n/\iv=.int .i64 (k:Nat)/\Sh.Abo w r wr/\RD r g o l c (p+m) wr/\RD b g (o+p) m (c - p) (8*k) wr/\wr.rowIs t 47 n (fun i=>if i<k then .float .f64 (num F (p+8*i))else .float .f64 0)) (fun iv _=>n - (intOf iv).toNat)
 case atStart=>exact⟨0,by omega,rfl,A3.out,R3.out,Q3.out,N3.out.congr (fun i _=>by simp)⟩
 case round=>
  obtain⟨k,hk,rfl,a1,r1,q1',n1⟩:=hrel
  have A4:=hid a1
  have R4:=hid r1
  have Q4:=hid q1'
  have N4:=hid n1
  have F4:=hid (Ti.bE HF.out a1 HNE.out)
  clear a1 r1 q1' n1 A3 R3 Q3 N3
  by_cases hkn:k<n
  ·have HK:=hid hkn
   have kI:(k:Int)<n:=by omega
   have kB:(k:Int)<=12288:=by omega
   have XL:num F (p+8*k)<18446744073709551616:=numl (fun i hi=>(HF.out.at0 (k:=p+8*k+i) (by have:=HB.out;omega)).1)
   have CW:=hid (eA b g (o+p) m (c - p) (8*k) (fun i=>F (p+i)) wr Q4.out (by have:=HB.out;omega) (by have:=HB.out;omega) NB.out.2 (F4.out.part p m (by have:=HB.out;omega)))
   have ex:num (fun i=>F (p+i)) (8*k)=num F (p+8*k):=by
    rw[<- gC,<- gC F (p+8*k)]
    congr 1
    funext i
    rw[Nat.add_assoc]
   rw[ex]at CW
   obtain⟨x,hx⟩:=aB (num F (p+8*k))
   rw[hx]at CW XL
   have HX:=hid hx
   have xt:(x:Int).toNat=x:=Int.toNat_natCast x
   skip
   skip
   skip
   clear hx ex hk hkn
   go_wp2_with fail
   refine CW.out.mono ?_
   rintro e9 v5 ⟨rfl,a1,r1⟩
   have A5:Hid (Sh.Abo w r v5):=cM A4.out a1 LB.out.1
   have R5:=hid (R4.out.abo a1 (by have:=LB.out;omega))
   have Q5:=hid r1
   have N5:=hid (aO N4.out a1 (by have:=LT.out;omega))
   clear a1 r1 CW A4 R4 Q4 N4 F4
   have z1:=N5.out.frozen k
   have z2:=N5.out.cell (i:=k) HK.out
   rw[if_neg (Nat.lt_irrefl k)]at z2
   go_wp2
   refine⟨⟨k+1,by have:=HK.out;omega,by simp,kG A5.out LT.out.1,RD.setc R5.out (by have:=LT.out;omega),?_,(N5.out.set k _).congr (fun i _=> ?_)⟩,by have:=HK.out;simp[intOf];omega⟩
   ·rw[show 8*(k+1)=8*k+8 by omega]
    exact RD.setc Q5.out (by have:=LT.out;omega)
   ·by_cases e:i=k
    ·rw[if_pos e,if_pos (by omega),e,HX.out]
    ·by_cases j:i<k
     ·rw[if_neg e,if_pos j,if_pos (by omega)]
     ·rw[if_neg e,if_neg j,if_neg (by omega)]
  ·have e6:n=k:=by omega
   subst e6
   go_wp2
   go_ret
   exact⟨t,rfl,A4.out,R4.out,LT.out.1,N4.out.congr (fun i hi=>by rw[if_pos hi])⟩
theorem pE(r g o l c p n m:Nat)(w:World)(h:RD r g o l c p w)(hm:n*8=m)(hn:n<=12288)(hl:l - p<m):
  Calls prog 57 #[.pointer (some ⟨r,0,none⟩),.int .i64 (n:Nat),.func (.func 58) #[] #[]] w fun e w'=>e=.panicked [{v:=.iface 28 (.int .i64 31),recovered:=false}]/\w'=w:=by
 have q1:(n:Int)*8=(m:Int):=by omega
 have q2:(m:Int)<=98304:=by omega
 have CB:=hid (rd_no r g o l c p m w h hl)
 clear h hm hl
 go_enter func57,ntmps57
 go_wp2_with (go_at_call 72;refine CB.out.mono ?_;rintro e9 z1 ⟨rfl,hz⟩;have hz2:=hz.symm;subst hz2)
 exact⟨rfl,rfl,rfl⟩
theorem bR(r g o l c p n m:Nat)(F:Nat->Nat)(w:World)(h:RD r g o l c p w)(hm:n*8=m)(hn:1<=n/\n<=12288)(hl:p+m<=l)(hc:l<=c)(hne:g≠r)(hF:Ti.IsW .u8 256 w (some ⟨g,o,none⟩) l F):
  Calls prog 57 #[.pointer (some ⟨r,0,none⟩),.int .i64 (n:Nat),.func (.func 58) #[] #[]] w fun e w'=> ∃t,e=.returned (.slice (some ⟨t,0,none⟩) n n)/\Sh.Abo w r w'/\RD r g o l c (p+m) w'/\w.heap.size<=t/\w'.rowIs t 2 n (fun i=>.int .i64 (i64 (num F (p+8*i)))):=by
 have q1:(n:Int)*8=(m:Int):=by omega
 have q2:(m:Int)<=98304:=by omega
 have q3:(n:Int)<=12288:=by omega
 have HB:=hid (show n*8=m/\1<=n/\n<=12288/\p+m<=l/\l<=c from⟨hm,hn.1,hn.2,hl,hc⟩)
 have HNE:=hid hne
 have HF:=hid hF
 have RL:=hid h.lt
 have M1: ∀v:World,(Instr.makeSlice 23 (.int .i64 (n:Nat)) (.int .i64 (n:Nat))).run prog v=.ok (.slice (some ⟨v.heap.size,0,none⟩) n n) (v.alloc (Obj.cells (madeCells #[.int .i64 0] n) 2)):=fun v=>run_make_row' (P:=prog) 23 2 (.int .i64 0) 8 underlying23 info_i25 rfl .i64 .i64 n (by omega) (by omega) v
 have CB:=hid (kF r g o l c p m w h (by omega) hl hc)
 clear h hm hn hl hc hne hF
 go_enter func57,ntmps57
 go_wp2_with fail
 refine CB.out.mono ?_
 rintro e9 v1 ⟨rfl,a1,r1⟩
 have A1:=hid a1
 have R1:=hid r1
 clear a1 r1 CB
 have X2:=bG (bl1 v1 (.cells #[.slice (some ⟨g,o+p,none⟩) m (c - p)] 82))
 have Q2:Hid (RD v1.heap.size g (o+p) m (c - p) 0 (v1.alloc (.cells #[.slice (some ⟨g,o+p,none⟩) m (c - p)] 82))):=RD.new v1 g (o+p) m (c - p)
 go_upto_region 2 with fail
 generalize hV:World.alloc v1 _=v2 at*
 obtain⟨b,hb⟩:=aB v1.heap.size
 have LB:Hid (w.heap.size<=b/\r<b):=⟨by rw[<- hb];exact A1.out.2.2.2.1,by rw[<- hb];exact R1.out.lt⟩
 rw[hb]at Q2 ⊢
 clear hV hb
 have A2:Hid (Sh.Abo w r v2):=Ti.Abo.trans A1.out (Ti.Abo.of X2.out _)
 have R2:=hid (R1.out.to X2.out)
 have F2:=hid (Ti.bE HF.out A2.out HNE.out)
 have NB:Hid (g<b/\g≠b):=by
  have q:=(HF.out.at0 (k:=0) (by have:=HB.out;omega)).2.1
  have:=LB.out
  exact⟨by omega,by omega⟩
 clear A1 R1 X2
 have X3:=bG (bl1 v2 (Obj.cells (madeCells #[.int .i64 0] n) 2))
 have N3:Hid ((v2.alloc (Obj.cells (madeCells #[.int .i64 0] n) 2)).rowIs v2.heap.size 2 n (fun _=>.int .i64 0)):=dK (heap_alloc_new _ _)
 go_upto_region 3 with fail
 generalize hV:World.alloc v2 _=v3 at*
 obtain⟨t,ht⟩:=aB v2.heap.size
 have LT:Hid (w.heap.size<=t/\r<t/\b<t/\g<t):=⟨by rw[<- ht];exact A2.out.2.2.2.1,by rw[<- ht];exact R2.out.lt,by rw[<- ht];exact Q2.out.lt,by rw[<- ht];exact Nat.lt_trans NB.out.1 Q2.out.lt⟩
 rw[ht]at N3 ⊢
 clear hV ht M1
 have A3:Hid (Sh.Abo w r v3):=Ti.Abo.trans A2.out (Ti.Abo.of X3.out _)
 have R3:=hid (R2.out.to X3.out)
 have Q3:=hid (Q2.out.to X3.out)
 clear A2 R2 Q2 X3 F2
 go_wp2
 go_loopw [20] (fun iv wr=> ∃k:Nat,k<=n/\iv=.int .i64 (k:Nat)/\Sh.Abo w r wr/\RD r g o l c (p+m) wr/\RD b g (o+p) m (c - p) (8*k) wr/\wr.rowIs t 2 n (fun i=>if i<k then .int .i64 (i64 (num F (p+8*i)))else .int .i64 0)) (fun iv _=>n - (intOf iv).toNat)
 case atStart=>exact⟨0,by omega,rfl,A3.out,R3.out,Q3.out,N3.out.congr (fun i _=>by simp)⟩
 case round=>
  obtain⟨k,hk,rfl,a1,r1,q1',n1⟩:=hrel
  have A4:=hid a1
  have R4:=hid r1
  have Q4:=hid q1'
  have N4:=hid n1
  have F4:=hid (Ti.bE HF.out a1 HNE.out)
  clear a1 r1 q1' n1 A3 R3 Q3 N3
  by_cases hkn:k<n
  ·have HK:=hid hkn
   have kI:(k:Int)<n:=by omega
   have kB:(k:Int)<=12288:=by omega
   have XL:num F (p+8*k)<18446744073709551616:=numl (fun i hi=>(HF.out.at0 (k:=p+8*k+i) (by have:=HB.out;omega)).1)
   have CW:=hid (eA b g (o+p) m (c - p) (8*k) (fun i=>F (p+i)) wr Q4.out (by have:=HB.out;omega) (by have:=HB.out;omega) NB.out.2 (F4.out.part p m (by have:=HB.out;omega)))
   have ex:num (fun i=>F (p+i)) (8*k)=num F (p+8*k):=by
    rw[<- gC,<- gC F (p+8*k)]
    congr 1
    funext i
    rw[Nat.add_assoc]
   rw[ex]at CW
   obtain⟨x,hx⟩:=aB (num F (p+8*k))
   rw[hx]at CW XL
   have HX:=hid hx
   have CQ:=hid (fun v=>lI x v XL)
   obtain⟨y,hy⟩:=aB (i64 x)
   rw[hy]at CQ
   have HY:=hid hy
   clear hx ex hk hkn hy
   go_wp2_with fail
   refine CW.out.mono ?_
   rintro e9 v5 ⟨rfl,a1,r1⟩
   have A5:Hid (Sh.Abo w r v5):=cM A4.out a1 LB.out.1
   have R5:=hid (R4.out.abo a1 (by have:=LB.out;omega))
   have Q5:=hid r1
   have N5:=hid (aO N4.out a1 (by have:=LT.out;omega))
   clear a1 r1 CW A4 R4 Q4 N4 F4
   have z1:=N5.out.frozen k
   have z2:=N5.out.cell (i:=k) HK.out
   rw[if_neg (Nat.lt_irrefl k)]at z2
   go_wp2_with (go_at_call 58;refine(CQ.out _).mono ?_;rintro e9 z9 ⟨rfl,hz⟩;have hz2:=hz.symm;subst hz2)
   refine⟨⟨k+1,by have:=HK.out;omega,by simp,kG A5.out LT.out.1,RD.setc R5.out (by have:=LT.out;omega),?_,(N5.out.set k _).congr (fun i _=> ?_)⟩,by have:=HK.out;simp[intOf];omega⟩
   ·rw[show 8*(k+1)=8*k+8 by omega]
    exact RD.setc Q5.out (by have:=LT.out;omega)
   ·by_cases e:i=k
    ·rw[if_pos e,if_pos (by omega),e,HX.out,HY.out]
    ·by_cases j:i<k
     ·rw[if_neg e,if_pos j,if_pos (by omega)]
     ·rw[if_neg e,if_neg j,if_neg (by omega)]
  ·have e6:n=k:=by omega
   subst e6
   go_wp2
   go_ret
   exact⟨t,rfl,A4.out,R4.out,LT.out.1,N4.out.congr (fun i hi=>by rw[if_pos hi])⟩
end Sv
end
end Go.Proofs.YtlmfpikhlcnjjaaGreatDoor
