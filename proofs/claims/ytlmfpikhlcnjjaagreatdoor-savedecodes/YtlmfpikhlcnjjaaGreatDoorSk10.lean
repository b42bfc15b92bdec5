/-
  Some of the texts of this proof, one behind the other.
-/
import Derived.Test.YtlmfpikhlcnjjaaGreatDoorSk09
set_option maxRecDepth 100000
set_option maxHeartbeats 400000000
namespace Go.Proofs.YtlmfpikhlcnjjaaGreatDoor
open _root_.Go.Proofs.Tryz
section
open Go.RowKit Go.Deep Tf Cu
attribute [local go_sem] aF aG aI aJ aK aL aM aD
namespace Sv
theorem aZ(n N:Nat)(v:World)(hn:n<=32)(hN:6*n*n=N):Calls prog 49 #[.int .i64 (n:Nat)] v fun e w'=>e=.returned (.int .i64 (N:Nat))/\w'=v:=by
 obtain⟨m,hm⟩:=aB (6*n)
 have q1:6*(n:Int)=(m:Int):=by omega
 have q2:(m:Int)*(n:Int)=(N:Int):=by rw[<- hN,hm];exact(Int.natCast_mul _ _).symm
 have q3:(n:Int)<=32:=by omega
 have q4:(m:Int)<=192:=by omega
 have q5:N<=192*32:=by rw[<- hN];exact Nat.mul_le_mul (by omega) (by omega)
 have q6:(N:Int)<=6144:=by omega
 clear hN hm hn q5
 go_enter func49,ntmps49
 go_wp2
 go_ret
 exact⟨rfl,rfl⟩
theorem cF(n N M:Nat)(v:World)(hn:n<=32)(hN:6*n*n=N)(hM:2*N=M):Calls prog 50 #[.int .i64 (n:Nat)] v fun e w'=>e=.returned (.int .i64 (M:Nat))/\w'=v:=by
 have CC:=hid (fun w=>aZ n N w hn hN)
 have q5:N<=192*32:=by rw[<- hN];exact Nat.mul_le_mul (by omega) (by omega)
 have q6:(N:Int)<=6144:=by omega
 have q1:2*(N:Int)=(M:Int):=by omega
 have q7:(M:Int)<=12288:=by omega
 clear hN hM hn q5
 go_enter func50,ntmps50
 go_wp2_with (go_at_call 49;refine(CC.out _).mono ?_;rintro e9 z1 ⟨rfl,hz⟩;have hz2:=hz.symm;subst hz2)
 go_ret
 exact⟨rfl,rfl⟩
def ST(w:World)(r s d g o l c p:Nat)(x0 x1 x2 x3:Value)(sky st:Int)(v:World):Prop:=
 Ab w v/\RD r g o l c p v/\v.heap[s]? =some (.cells #[x0,x1,x2,x3,.int .i64 sky,.int .i64 st] 25)/\v.heap[d]? =some (.cells #[.slice none 0 0,.slice none 0 0,.slice none 0 0,.slice none 0 0,.int .i64 0,.int .i64 0] 25)/\w.heap.size<=r/\w.heap.size<=s/\w.heap.size<=d/\r≠s/\r≠d/\s≠d
theorem cJ{w u v:World}{r:Nat}(h:Ab w u)(a:Sh.Abo u r v)(hr:w.heap.size<=r):Ab w v:=by
 obtain⟨a1,a2,a3,a4,a5⟩:=a
 exact⟨a1.trans (Below.os h),a2.trans (Below.tape h),a3.trans (Below.output h),Nat.le_trans (Below.size h) a4,fun j hj=>(a5 j (Nat.lt_of_lt_of_le hj (Below.size h)) (by omega)).trans (Below.block h j hj)⟩
theorem ST.abo{w:World}{r s d g o l c p p':Nat}{x0 x1 x2 x3:Value}{sky st:Int}{u v:World}(h:ST w r s d g o l c p x0 x1 x2 x3 sky st u)(a:Sh.Abo u r v)(q:RD r g o l c p' v):ST w r s d g o l c p' x0 x1 x2 x3 sky st v:=by
 obtain⟨h1,h2,h3,h4,h5,h6,h7,h8,h9,h10⟩:=h
 exact⟨cJ h1 a h5,q,(a.2.2.2.2 s (lt_of_block h3) (Ne.symm h8)).trans h3,(a.2.2.2.2 d (lt_of_block h4) (Ne.symm h9)).trans h4,h5,h6,h7,h8,h9,h10⟩
theorem ST.set{w:World}{r s d g o l c p k:Nat}{x0 x1 x2 x3 y0 y1 y2 y3 x:Value}{sky st:Int}{u:World}(h:ST w r s d g o l c p x0 x1 x2 x3 sky st u)(e:(#[x0,x1,x2,x3,.int .i64 sky,.int .i64 st]:Array Value).setIfInBounds k x= #[y0,y1,y2,y3,.int .i64 sky,.int .i64 st]):ST w r s d g o l c p y0 y1 y2 y3 sky st (u.setCell ⟨s,k,none⟩ x):=by
 obtain⟨h1,h2,h3,h4,h5,h6,h7,h8,h9,h10⟩:=h
 exact⟨h1.setk h6 _,h2.setc h8,by rw[aN h3,e],(blk_setCell_other _ _ _ _ (Ne.symm h10)).trans h4,h5,h6,h7,h8,h9,h10⟩
theorem ST.lt{w:World}{r s d g o l c p:Nat}{x0 x1 x2 x3:Value}{sky st:Int}{u:World}(h:ST w r s d g o l c p x0 x1 x2 x3 sky st u):r<u.heap.size/\s<u.heap.size/\d<u.heap.size:=⟨h.2.1.lt,lt_of_block h.2.2.1,lt_of_block h.2.2.2.1⟩
theorem bT(w:World)(O:Obj):(w.alloc O).heap.size=w.heap.size+1:=by show(w.heap.push O).size=_;rw[Array.size_push]
theorem lM(g o l c:Nat)(F:Nat->Nat)(w:World)(hl:l<=c/\c<=9223372036854775807)(hF:Ti.IsW .u8 256 w (some ⟨g,o,none⟩) l F)(E:Int)(hE: ∀r v,g≠r->RD r g o l c 0 v->Ti.IsW .u8 256 v (some ⟨g,o,none⟩) l F->Calls prog 54 #[.pointer (some ⟨r,0,none⟩)] v fun e w'=>e=.panicked [{v:=.iface 28 (.int .i64 E),recovered:=false}]/\Sh.Abo v r w')(hg:g<w.heap.size):
  Calls prog 28 #[.slice (some ⟨g,o,none⟩) l c] w fun e w'=>e=.panicked [{v:=.iface 28 (.int .i64 E),recovered:=false}]/\Ab w w':=by
 have HE:=hid hE
 have HG:=hid hg
 clear hE hg
 have HF:=hid hF
 have HL:=hid hl
 clear hl hF
 have A0:=bG (bl2 w (.cells #[.slice none 0 0,.slice none 0 0,.slice none 0 0,.slice none 0 0,.int .i64 0,.int .i64 0] 25) (.cells #[.slice (some ⟨g,o,none⟩) l c] 82))
 have D0:Hid (((w.alloc (.cells #[.slice none 0 0,.slice none 0 0,.slice none 0 0,.slice none 0 0,.int .i64 0,.int .i64 0] 25)).alloc (.cells #[.slice (some ⟨g,o,none⟩) l c] 82)).heap[w.heap.size]? =some (.cells #[.slice none 0 0,.slice none 0 0,.slice none 0 0,.slice none 0 0,.int .i64 0,.int .i64 0] 25)):=Ab.heap (bl1 _ _) (heap_alloc_new _ _)
 have R0:Hid (RD (w.heap.size+1) g o l c 0 ((w.alloc (.cells #[.slice none 0 0,.slice none 0 0,.slice none 0 0,.slice none 0 0,.int .i64 0,.int .i64 0] 25)).alloc (.cells #[.slice (some ⟨g,o,none⟩) l c] 82))):=by
  have q:=RD.new (w.alloc (.cells #[.slice none 0 0,.slice none 0 0,.slice none 0 0,.slice none 0 0,.int .i64 0,.int .i64 0] 25)) g o l c
  rw[show(w.alloc (.cells #[.slice none 0 0,.slice none 0 0,.slice none 0 0,.slice none 0 0,.int .i64 0,.int .i64 0] 25)).heap.size=w.heap.size+1 from bT _ _]at q
  exact q
 go_enter func28,ntmps28
 go_upto_region 2 with fail
 generalize hV:World.alloc (World.alloc w _) _=v0 at*
 obtain⟨d,hd⟩:=aB w.heap.size
 obtain⟨r,hr⟩:=aB (w.heap.size+1)
 have LB:Hid (w.heap.size<=d/\w.heap.size<=r/\d<r):=by
  refine⟨?_,?_,?_⟩<;>omega
 rw[hr]at R0 ⊢
 rw[hd]at D0 ⊢
 clear hV hd hr
 have F0:=hid (HF.out.below A0.out)
 have CH:=hid (HE.out r v0 (by have:=LB.out;have:=HG.out;omega) R0.out F0.out)
 go_wp2_with fail
 refine CH.out.mono ?_
 rintro e9 v1 ⟨rfl,a1⟩
 have A1:Hid (Ab w v1):=cJ A0.out a1 LB.out.2.1
 clear a1 CH
 go_wp2
 exact⟨rfl,rfl,A1.out⟩
theorem read_s0(g o l c:Nat)(F:Nat->Nat)(w:World)(hl:l<=c/\c<=9223372036854775807)(hF:Ti.IsW .u8 256 w (some ⟨g,o,none⟩) l F)(hl21:21<=l)(hm:decide (F 0=84/\F 1=65/\F 2=82/\F 3=78)=true)(n N M a b:Nat)(h4:F 4=n)(hn:1<=n/\n<=32)(hN:6*n*n=N)(hM:2*N=M)(ha:N*8=a)(hb:M*8=b)(hk:21<=l/\l<21+a):Calls prog 28 #[.slice (some ⟨g,o,none⟩) l c] w fun e w'=>e=.panicked [{v:=.iface 28 (.int .i64 31),recovered:=false}]/\Ab w w':=by
 have LE:=hid hk
 clear hk
 have NE:Hid (1<=N/\N<=6144):=by
  have q5:N<=192*32:=by rw[<- hN];exact Nat.mul_le_mul (by omega) (by omega)
  have q6:6*1*1<=N:=by rw[<- hN];exact Nat.mul_le_mul (Nat.mul_le_mul (Nat.le_refl 6) hn.1) hn.1
  exact⟨by omega,by omega⟩
 have HN:=hid (show 2*N=M/\N*8=a/\M*8=b/\21<=l/\1<=n/\n<=32 from⟨hM,ha,hb,hl21,hn.1,hn.2⟩)
 have CC:=hid (fun v=>aZ n N v hn.2 hN)
 have CE:=hid (fun v=>cF n N M v hn.2 hN hM)
 have GL:Hid (g<w.heap.size):=(hF.at0 (k:=0) (by omega)).2.1
 have HM:=hid (show F 4=n/\decide (F 0=84/\F 1=65/\F 2=82/\F 3=78)=true from⟨h4,hm⟩)
 obtain⟨sk,hsk⟩:=aB (i64 (num F 13))
 obtain⟨st,hst⟩:=aB (i64 (num F 5))
 have HX:=hid (show i64 (num F 13)=sk/\i64 (num F 5)=st from⟨hsk,hst⟩)
 clear h4 hm hn hN hM ha hb hl21 hsk hst
 have HF:=hid hF
 have HL:=hid hl
 clear hl hF
 have A0:=bG (bl2 w (.cells #[.slice none 0 0,.slice none 0 0,.slice none 0 0,.slice none 0 0,.int .i64 0,.int .i64 0] 25) (.cells #[.slice (some ⟨g,o,none⟩) l c] 82))
 have D0:Hid (((w.alloc (.cells #[.slice none 0 0,.slice none 0 0,.slice none 0 0,.slice none 0 0,.int .i64 0,.int .i64 0] 25)).alloc (.cells #[.slice (some ⟨g,o,none⟩) l c] 82)).heap[w.heap.size]? =some (.cells #[.slice none 0 0,.slice none 0 0,.slice none 0 0,.slice none 0 0,.int .i64 0,.int .i64 0] 25)):=Ab.heap (bl1 _ _) (heap_alloc_new _ _)
 have R0:Hid (RD (w.heap.size+1) g o l c 0 ((w.alloc (.cells #[.slice none 0 0,.slice none 0 0,.slice none 0 0,.slice none 0 0,.int .i64 0,.int .i64 0] 25)).alloc (.cells #[.slice (some ⟨g,o,none⟩) l c] 82))):=by
  have q:=RD.new (w.alloc (.cells #[.slice none 0 0,.slice none 0 0,.slice none 0 0,.slice none 0 0,.int .i64 0,.int .i64 0] 25)) g o l c
  rw[show(w.alloc (.cells #[.slice none 0 0,.slice none 0 0,.slice none 0 0,.slice none 0 0,.int .i64 0,.int .i64 0] 25)).heap.size=w.heap.size+1 from bT _ _]at q
  exact q
 go_enter func28,ntmps28
 go_upto_region 2 with fail
 generalize hV:World.alloc (World.alloc w _) _=v0 at*
 obtain⟨d,hd⟩:=aB w.heap.size
 obtain⟨r,hr⟩:=aB (w.heap.size+1)
 have LB:Hid (w.heap.size<=d/\w.heap.size<=r/\d<r):=by
  refine⟨?_,?_,?_⟩<;>omega
 rw[hr]at R0 ⊢
 rw[hd]at D0 ⊢
 clear hV hd hr
 have F0:=hid (HF.out.below A0.out)
 have NG:Hid (g≠r):=by have:=LB.out;have:=GL.out;show _≠_;omega
 have CH:=hid (cX r g o l c F v0 R0.out ⟨by have:=HN.out;omega,HL.out.1⟩ NG.out F0.out HM.out.2 n HM.out.1 ⟨by have:=HN.out;omega,by have:=HN.out;omega⟩)
 rw[HX.out.1,HX.out.2]at CH
 go_wp2_with fail
 refine CH.out.mono ?_
 rintro e9 v1 ⟨rfl,a1,r1⟩
 have A1:Hid (Ab w v1):=cJ A0.out a1 LB.out.2.1
 have D1:Hid (v1.heap[d]? =some (.cells #[.slice none 0 0,.slice none 0 0,.slice none 0 0,.slice none 0 0,.int .i64 0,.int .i64 0] 25)):=by
  show _=_
  rw[a1.2.2.2.2 d (lt_of_block D0.out) (by have:=LB.out;omega)]
  exact D0.out
 have R1:=hid r1
 clear a1 r1 CH A0 D0 R0 F0
 obtain⟨X2,S2⟩:=aH v1 (.cells #[.slice none 0 0,.slice none 0 0,.slice none 0 0,.slice none 0 0,.int .i64 sk,.int .i64 st] 25)
 have T2:Hid (ST w r v1.heap.size d g o l c 21 (.slice none 0 0) (.slice none 0 0) (.slice none 0 0) (.slice none 0 0) sk st (v1.alloc (.cells #[.slice none 0 0,.slice none 0 0,.slice none 0 0,.slice none 0 0,.int .i64 sk,.int .i64 st] 25))):=by
  have le:w.heap.size<=v1.heap.size:=Below.size A1.out
  have dl:=lt_of_block D1.out
  have rl:=R1.out.lt
  exact⟨A1.out.trans X2.out,R1.out.to X2.out,S2.out,X2.out.heap D1.out,LB.out.2.1,le,LB.out.1,by omega,by have:=LB.out;omega,by omega⟩
 have ss: ∃s,v1.heap.size=s:=⟨_,rfl⟩
 go_upto_region 3 with fail
 generalize hV:World.alloc v1 _=v2 at*
 obtain⟨s,hs⟩:=ss
 rw[hs]at T2 ⊢
 clear hV hs X2 S2 A1 D1 R1
 have CT:=hid (pD r g o l c (21) N a v2 T2.out.2.1 (by have:=HN.out;omega) (by have:=NE.out;have:=HN.out;omega) (by have:=LE.out;omega))
 go_wp2_with (first
  | (go_at_call 49;refine(CC.out _).mono ?_;rintro e9 z9 ⟨rfl,hz⟩;have hz2:=hz.symm;subst hz2)
  | (go_at_call 55;refine CT.out.mono ?_;rintro e9 z9 ⟨rfl,hz⟩;have hz2:=hz.symm;subst hz2))
 exact⟨rfl,rfl,T2.out.1⟩
theorem read_s1(g o l c:Nat)(F:Nat->Nat)(w:World)(hl:l<=c/\c<=9223372036854775807)(hF:Ti.IsW .u8 256 w (some ⟨g,o,none⟩) l F)(hl21:21<=l)(hm:decide (F 0=84/\F 1=65/\F 2=82/\F 3=78)=true)(n N M a b:Nat)(h4:F 4=n)(hn:1<=n/\n<=32)(hN:6*n*n=N)(hM:2*N=M)(ha:N*8=a)(hb:M*8=b)(hk:21+a<=l/\l<21+a+a):Calls prog 28 #[.slice (some ⟨g,o,none⟩) l c] w fun e w'=>e=.panicked [{v:=.iface 28 (.int .i64 31),recovered:=false}]/\Ab w w':=by
 have LE:=hid hk
 clear hk
 have NE:Hid (1<=N/\N<=6144):=by
  have q5:N<=192*32:=by rw[<- hN];exact Nat.mul_le_mul (by omega) (by omega)
  have q6:6*1*1<=N:=by rw[<- hN];exact Nat.mul_le_mul (Nat.mul_le_mul (Nat.le_refl 6) hn.1) hn.1
  exact⟨by omega,by omega⟩
 have HN:=hid (show 2*N=M/\N*8=a/\M*8=b/\21<=l/\1<=n/\n<=32 from⟨hM,ha,hb,hl21,hn.1,hn.2⟩)
 have CC:=hid (fun v=>aZ n N v hn.2 hN)
 have CE:=hid (fun v=>cF n N M v hn.2 hN hM)
 have GL:Hid (g<w.heap.size):=(hF.at0 (k:=0) (by omega)).2.1
 have HM:=hid (show F 4=n/\decide (F 0=84/\F 1=65/\F 2=82/\F 3=78)=true from⟨h4,hm⟩)
 obtain⟨sk,hsk⟩:=aB (i64 (num F 13))
 obtain⟨st,hst⟩:=aB (i64 (num F 5))
 have HX:=hid (show i64 (num F 13)=sk/\i64 (num F 5)=st from⟨hsk,hst⟩)
 clear h4 hm hn hN hM ha hb hl21 hsk hst
 have HF:=hid hF
 have HL:=hid hl
 clear hl hF
 have A0:=bG (bl2 w (.cells #[.slice none 0 0,.slice none 0 0,.slice none 0 0,.slice none 0 0,.int .i64 0,.int .i64 0] 25) (.cells #[.slice (some ⟨g,o,none⟩) l c] 82))
 have D0:Hid (((w.alloc (.cells #[.slice none 0 0,.slice none 0 0,.slice none 0 0,.slice none 0 0,.int .i64 0,.int .i64 0] 25)).alloc (.cells #[.slice (some ⟨g,o,none⟩) l c] 82)).heap[w.heap.size]? =some (.cells #[.slice none 0 0,.slice none 0 0,.slice none 0 0,.slice none 0 0,.int .i64 0,.int .i64 0] 25)):=Ab.heap (bl1 _ _) (heap_alloc_new _ _)
 have R0:Hid (RD (w.heap.size+1) g o l c 0 ((w.alloc (.cells #[.slice none 0 0,.slice none 0 0,.slice none 0 0,.slice none 0 0,.int .i64 0,.int .i64 0] 25)).alloc (.cells #[.slice (some ⟨g,o,none⟩) l c] 82))):=by
  have q:=RD.new (w.alloc (.cells #[.slice none 0 0,.slice none 0 0,.slice none 0 0,.slice none 0 0,.int .i64 0,.int .i64 0] 25)) g o l c
  rw[show(w.alloc (.cells #[.slice none 0 0,.slice none 0 0,.slice none 0 0,.slice none 0 0,.int .i64 0,.int .i64 0] 25)).heap.size=w.heap.size+1 from bT _ _]at q
  exact q
 go_enter func28,ntmps28
 go_upto_region 2 with fail
 generalize hV:World.alloc (World.alloc w _) _=v0 at*
 obtain⟨d,hd⟩:=aB w.heap.size
 obtain⟨r,hr⟩:=aB (w.heap.size+1)
 have LB:Hid (w.heap.size<=d/\w.heap.size<=r/\d<r):=by
  refine⟨?_,?_,?_⟩<;>omega
 rw[hr]at R0 ⊢
 rw[hd]at D0 ⊢
 clear hV hd hr
 have F0:=hid (HF.out.below A0.out)
 have NG:Hid (g≠r):=by have:=LB.out;have:=GL.out;show _≠_;omega
 have CH:=hid (cX r g o l c F v0 R0.out ⟨by have:=HN.out;omega,HL.out.1⟩ NG.out F0.out HM.out.2 n HM.out.1 ⟨by have:=HN.out;omega,by have:=HN.out;omega⟩)
 rw[HX.out.1,HX.out.2]at CH
 go_wp2_with fail
 refine CH.out.mono ?_
 rintro e9 v1 ⟨rfl,a1,r1⟩
 have A1:Hid (Ab w v1):=cJ A0.out a1 LB.out.2.1
 have D1:Hid (v1.heap[d]? =some (.cells #[.slice none 0 0,.slice none 0 0,.slice none 0 0,.slice none 0 0,.int .i64 0,.int .i64 0] 25)):=by
  show _=_
  rw[a1.2.2.2.2 d (lt_of_block D0.out) (by have:=LB.out;omega)]
  exact D0.out
 have R1:=hid r1
 clear a1 r1 CH A0 D0 R0 F0
 obtain⟨X2,S2⟩:=aH v1 (.cells #[.slice none 0 0,.slice none 0 0,.slice none 0 0,.slice none 0 0,.int .i64 sk,.int .i64 st] 25)
 have T2:Hid (ST w r v1.heap.size d g o l c 21 (.slice none 0 0) (.slice none 0 0) (.slice none 0 0) (.slice none 0 0) sk st (v1.alloc (.cells #[.slice none 0 0,.slice none 0 0,.slice none 0 0,.slice none 0 0,.int .i64 sk,.int .i64 st] 25))):=by
  have le:w.heap.size<=v1.heap.size:=Below.size A1.out
  have dl:=lt_of_block D1.out
  have rl:=R1.out.lt
  exact⟨A1.out.trans X2.out,R1.out.to X2.out,S2.out,X2.out.heap D1.out,LB.out.2.1,le,LB.out.1,by omega,by have:=LB.out;omega,by omega⟩
 have ss: ∃s,v1.heap.size=s:=⟨_,rfl⟩
 go_upto_region 3 with fail
 generalize hV:World.alloc v1 _=v2 at*
 obtain⟨s,hs⟩:=ss
 rw[hs]at T2 ⊢
 clear hV hs X2 S2 A1 D1 R1
 have F2:=hid (HF.out.below T2.out.1)
 have CT:=hid (bO r g o l c (21) N a F v2 T2.out.2.1 (by have:=HN.out;omega) ⟨by have:=NE.out;have:=HN.out;omega,by have:=NE.out;have:=HN.out;omega⟩ (by have:=HN.out;have:=LE.out;omega) HL.out.1 NG.out F2.out)
 go_wp2_with (go_at_call 49;refine(CC.out _).mono ?_;rintro e9 z9 ⟨rfl,hz⟩;have hz2:=hz.symm;subst hz2)
 refine CT.out.mono ?_
 rintro e9 u2 ⟨t0,rfl,a1,r1,l1,n1⟩
 have U2:=hid (T2.out.abo a1 r1)
 have L0:Hid (w.heap.size<=t0/\t0≠r/\t0≠s/\t0≠d):=by
  have q1:=T2.out.lt
  have q2:=Below.size T2.out.1
  exact⟨by omega,by omega,by omega,by omega⟩
 have M0:=hid n1
 clear a1 r1 l1 n1 CT F2 T2
 have f0:=aC U2.out.2.2.1 0
 have c0:=aA 0 U2.out.2.2.1
 have T3:Hid (ST w r s d g o l c (21+a) (.slice (some ⟨t0,0,none⟩) N N) (.slice none 0 0) (.slice none 0 0) (.slice none 0 0) sk st (u2.setCell ⟨s,0,none⟩ (.slice (some ⟨t0,0,none⟩) N N))):=ST.set U2.out (by rfl)
 have N0:Hid ((u2.setCell ⟨s,0,none⟩ (.slice (some ⟨t0,0,none⟩) N N)).rowIs t0 47 N (fun i=>.float .f64 (num F (21+8*i)))):=M0.out.setOther L0.out.2.2.1 _
 go_upto_region 4 with fail
 generalize hV:World.setCell u2 _ _=v3 at*
 clear hV f0 c0 U2 M0
 have CT:=hid (pE r g o l c (21+a) N a v3 T3.out.2.1 (by have:=HN.out;omega) (by have:=NE.out;have:=HN.out;omega) (by have:=LE.out;omega))
 go_wp2_with (first
  | (go_at_call 49;refine(CC.out _).mono ?_;rintro e9 z9 ⟨rfl,hz⟩;have hz2:=hz.symm;subst hz2)
  | (go_at_call 57;refine CT.out.mono ?_;rintro e9 z9 ⟨rfl,hz⟩;have hz2:=hz.symm;subst hz2))
 exact⟨rfl,rfl,T3.out.1⟩
theorem read_s2(g o l c:Nat)(F:Nat->Nat)(w:World)(hl:l<=c/\c<=9223372036854775807)(hF:Ti.IsW .u8 256 w (some ⟨g,o,none⟩) l F)(hl21:21<=l)(hm:decide (F 0=84/\F 1=65/\F 2=82/\F 3=78)=true)(n N M a b:Nat)(h4:F 4=n)(hn:1<=n/\n<=32)(hN:6*n*n=N)(hM:2*N=M)(ha:N*8=a)(hb:M*8=b)(hk:21+a+a<=l/\l<21+a+a+a):Calls prog 28 #[.slice (some ⟨g,o,none⟩) l c] w fun e w'=>e=.panicked [{v:=.iface 28 (.int .i64 31),recovered:=false}]/\Ab w w':=by
 have LE:=hid hk
 clear hk
 have NE:Hid (1<=N/\N<=6144):=by
  have q5:N<=192*32:=by rw[<- hN];exact Nat.mul_le_mul (by omega) (by omega)
  have q6:6*1*1<=N:=by rw[<- hN];exact Nat.mul_le_mul (Nat.mul_le_mul (Nat.le_refl 6) hn.1) hn.1
  exact⟨by omega,by omega⟩
 have HN:=hid (show 2*N=M/\N*8=a/\M*8=b/\21<=l/\1<=n/\n<=32 from⟨hM,ha,hb,hl21,hn.1,hn.2⟩)
 have CC:=hid (fun v=>aZ n N v hn.2 hN)
 have CE:=hid (fun v=>cF n N M v hn.2 hN hM)
 have GL:Hid (g<w.heap.size):=(hF.at0 (k:=0) (by omega)).2.1
 have HM:=hid (show F 4=n/\decide (F 0=84/\F 1=65/\F 2=82/\F 3=78)=true from⟨h4,hm⟩)
 obtain⟨sk,hsk⟩:=aB (i64 (num F 13))
 obtain⟨st,hst⟩:=aB (i64 (num F 5))
 have HX:=hid (show i64 (num F 13)=sk/\i64 (num F 5)=st from⟨hsk,hst⟩)
 clear h4 hm hn hN hM ha hb hl21 hsk hst
 have HF:=hid hF
 have HL:=hid hl
 clear hl hF
 have A0:=bG (bl2 w (.cells #[.slice none 0 0,.slice none 0 0,.slice none 0 0,.slice none 0 0,.int .i64 0,.int .i64 0] 25) (.cells #[.slice (some ⟨g,o,none⟩) l c] 82))
 have D0:Hid (((w.alloc (.cells #[.slice none 0 0,.slice none 0 0,.slice none 0 0,.slice none 0 0,.int .i64 0,.int .i64 0] 25)).alloc (.cells #[.slice (some ⟨g,o,none⟩) l c] 82)).heap[w.heap.size]? =some (.cells #[.slice none 0 0,.slice none 0 0,.slice none 0 0,.slice none 0 0,.int .i64 0,.int .i64 0] 25)):=Ab.heap (bl1 _ _) (heap_alloc_new _ _)
 have R0:Hid (RD (w.heap.size+1) g o l c 0 ((w.alloc (.cells #[.slice none 0 0,.slice none 0 0,.slice none 0 0,.slice none 0 0,.int .i64 0,.int .i64 0] 25)).alloc (.cells #[.slice (some ⟨g,o,none⟩) l c] 82))):=by
  have q:=RD.new (w.alloc (.cells #[.slice none 0 0,.slice none 0 0,.slice none 0 0,.slice none 0 0,.int .i64 0,.int .i64 0] 25)) g o l c
  rw[show(w.alloc (.cells #[.slice none 0 0,.slice none 0 0,.slice none 0 0,.slice none 0 0,.int .i64 0,.int .i64 0] 25)).heap.size=w.heap.size+1 from bT _ _]at q
  exact q
 go_enter func28,ntmps28
 go_upto_region 2 with fail
 generalize hV:World.alloc (World.alloc w _) _=v0 at*
 obtain⟨d,hd⟩:=aB w.heap.size
 obtain⟨r,hr⟩:=aB (w.heap.size+1)
 have LB:Hid (w.heap.size<=d/\w.heap.size<=r/\d<r):=by
  refine⟨?_,?_,?_⟩<;>omega
 rw[hr]at R0 ⊢
 rw[hd]at D0 ⊢
 clear hV hd hr
 have F0:=hid (HF.out.below A0.out)
 have NG:Hid (g≠r):=by have:=LB.out;have:=GL.out;show _≠_;omega
 have CH:=hid (cX r g o l c F v0 R0.out ⟨by have:=HN.out;omega,HL.out.1⟩ NG.out F0.out HM.out.2 n HM.out.1 ⟨by have:=HN.out;omega,by have:=HN.out;omega⟩)
 rw[HX.out.1,HX.out.2]at CH
 go_wp2_with fail
 refine CH.out.mono ?_
 rintro e9 v1 ⟨rfl,a1,r1⟩
 have A1:Hid (Ab w v1):=cJ A0.out a1 LB.out.2.1
 have D1:Hid (v1.heap[d]? =some (.cells #[.slice none 0 0,.slice none 0 0,.slice none 0 0,.slice none 0 0,.int .i64 0,.int .i64 0] 25)):=by
  show _=_
  rw[a1.2.2.2.2 d (lt_of_block D0.out) (by have:=LB.out;omega)]
  exact D0.out
 have R1:=hid r1
 clear a1 r1 CH A0 D0 R0 F0
 obtain⟨X2,S2⟩:=aH v1 (.cells #[.slice none 0 0,.slice none 0 0,.slice none 0 0,.slice none 0 0,.int .i64 sk,.int .i64 st] 25)
 have T2:Hid (ST w r v1.heap.size d g o l c 21 (.slice none 0 0) (.slice none 0 0) (.slice none 0 0) (.slice none 0 0) sk st (v1.alloc (.cells #[.slice none 0 0,.slice none 0 0,.slice none 0 0,.slice none 0 0,.int .i64 sk,.int .i64 st] 25))):=by
  have le:w.heap.size<=v1.heap.size:=Below.size A1.out
  have dl:=lt_of_block D1.out
  have rl:=R1.out.lt
  exact⟨A1.out.trans X2.out,R1.out.to X2.out,S2.out,X2.out.heap D1.out,LB.out.2.1,le,LB.out.1,by omega,by have:=LB.out;omega,by omega⟩
 have ss: ∃s,v1.heap.size=s:=⟨_,rfl⟩
 go_upto_region 3 with fail
 generalize hV:World.alloc v1 _=v2 at*
 obtain⟨s,hs⟩:=ss
 rw[hs]at T2 ⊢
 clear hV hs X2 S2 A1 D1 R1
 have F2:=hid (HF.out.below T2.out.1)
 have CT:=hid (bO r g o l c (21) N a F v2 T2.out.2.1 (by have:=HN.out;omega) ⟨by have:=NE.out;have:=HN.out;omega,by have:=NE.out;have:=HN.out;omega⟩ (by have:=HN.out;have:=LE.out;omega) HL.out.1 NG.out F2.out)
 go_wp2_with (go_at_call 49;refine(CC.out _).mono ?_;rintro e9 z9 ⟨rfl,hz⟩;have hz2:=hz.symm;subst hz2)
 refine CT.out.mono ?_
 rintro e9 u2 ⟨t0,rfl,a1,r1,l1,n1⟩
 have U2:=hid (T2.out.abo a1 r1)
 have L0:Hid (w.heap.size<=t0/\t0≠r/\t0≠s/\t0≠d):=by
  have q1:=T2.out.lt
  have q2:=Below.size T2.out.1
  exact⟨by omega,by omega,by omega,by omega⟩
 have M0:=hid n1
 clear a1 r1 l1 n1 CT F2 T2
 have f0:=aC U2.out.2.2.1 0
 have c0:=aA 0 U2.out.2.2.1
 have T3:Hid (ST w r s d g o l c (21+a) (.slice (some ⟨t0,0,none⟩) N N) (.slice none 0 0) (.slice none 0 0) (.slice none 0 0) sk st (u2.setCell ⟨s,0,none⟩ (.slice (some ⟨t0,0,none⟩) N N))):=ST.set U2.out (by rfl)
 have N0:Hid ((u2.setCell ⟨s,0,none⟩ (.slice (some ⟨t0,0,none⟩) N N)).rowIs t0 47 N (fun i=>.float .f64 (num F (21+8*i)))):=M0.out.setOther L0.out.2.2.1 _
 go_upto_region 4 with fail
 generalize hV:World.setCell u2 _ _=v3 at*
 clear hV f0 c0 U2 M0
 have F3:=hid (HF.out.below T3.out.1)
 have CT:=hid (bR r g o l c (21+a) N a F v3 T3.out.2.1 (by have:=HN.out;omega) ⟨by have:=NE.out;have:=HN.out;omega,by have:=NE.out;have:=HN.out;omega⟩ (by have:=HN.out;have:=LE.out;omega) HL.out.1 NG.out F3.out)
 go_wp2_with (go_at_call 49;refine(CC.out _).mono ?_;rintro e9 z9 ⟨rfl,hz⟩;have hz2:=hz.symm;subst hz2)
 refine CT.out.mono ?_
 rintro e9 u3 ⟨t1,rfl,a1,r1,l1,n1⟩
 have U3:=hid (T3.out.abo a1 r1)
 have L1:Hid (w.heap.size<=t1/\t1≠r/\t1≠s/\t1≠d/\t0≠t1):=by
  have q1:=T3.out.lt
  have q2:=Below.size T3.out.1
  have q3:=N0.out.lt
  exact⟨by omega,by omega,by omega,by omega,by omega⟩
 have M0:=hid (aO N0.out a1 L0.out.2.1)
 have M1:=hid n1
 clear a1 r1 l1 n1 CT F3 T3 N0
 have f0:=aC U3.out.2.2.1 1
 have c0:=aA 1 U3.out.2.2.1
 have T4:Hid (ST w r s d g o l c (21+a+a) (.slice (some ⟨t0,0,none⟩) N N) (.slice (some ⟨t1,0,none⟩) N N) (.slice none 0 0) (.slice none 0 0) sk st (u3.setCell ⟨s,1,none⟩ (.slice (some ⟨t1,0,none⟩) N N))):=ST.set U3.out (by rfl)
 have N0:Hid ((u3.setCell ⟨s,1,none⟩ (.slice (some ⟨t1,0,none⟩) N N)).rowIs t0 47 N (fun i=>.float .f64 (num F (21+8*i)))):=M0.out.setOther L0.out.2.2.1 _
 have N1:Hid ((u3.setCell ⟨s,1,none⟩ (.slice (some ⟨t1,0,none⟩) N N)).rowIs t1 2 N (fun i=>.int .i64 (i64 (num F (21+a+8*i))))):=M1.out.setOther L1.out.2.2.1 _
 go_upto_region 5 with fail
 generalize hV:World.setCell u3 _ _=v4 at*
 clear hV f0 c0 U3 M0 M1
 have CT:=hid (pE r g o l c (21+a+a) N a v4 T4.out.2.1 (by have:=HN.out;omega) (by have:=NE.out;have:=HN.out;omega) (by have:=LE.out;omega))
 go_wp2_with (first
  | (go_at_call 49;refine(CC.out _).mono ?_;rintro e9 z9 ⟨rfl,hz⟩;have hz2:=hz.symm;subst hz2)
  | (go_at_call 57;refine CT.out.mono ?_;rintro e9 z9 ⟨rfl,hz⟩;have hz2:=hz.symm;subst hz2))
 exact⟨rfl,rfl,T4.out.1⟩
theorem read_s3(g o l c:Nat)(F:Nat->Nat)(w:World)(hl:l<=c/\c<=9223372036854775807)(hF:Ti.IsW .u8 256 w (some ⟨g,o,none⟩) l F)(hl21:21<=l)(hm:decide (F 0=84/\F 1=65/\F 2=82/\F 3=78)=true)(n N M a b:Nat)(h4:F 4=n)(hn:1<=n/\n<=32)(hN:6*n*n=N)(hM:2*N=M)(ha:N*8=a)(hb:M*8=b)(hk:21+a+a+a<=l/\l<21+a+a+a+b):Calls prog 28 #[.slice (some ⟨g,o,none⟩) l c] w fun e w'=>e=.panicked [{v:=.iface 28 (.int .i64 31),recovered:=false}]/\Ab w w':=by
 have LE:=hid hk
 clear hk
 have NE:Hid (1<=N/\N<=6144):=by
  have q5:N<=192*32:=by rw[<- hN];exact Nat.mul_le_mul (by omega) (by omega)
  have q6:6*1*1<=N:=by rw[<- hN];exact Nat.mul_le_mul (Nat.mul_le_mul (Nat.le_refl 6) hn.1) hn.1
  exact⟨by omega,by omega⟩
 have HN:=hid (show 2*N=M/\N*8=a/\M*8=b/\21<=l/\1<=n/\n<=32 from⟨hM,ha,hb,hl21,hn.1,hn.2⟩)
 have CC:=hid (fun v=>aZ n N v hn.2 hN)
 have CE:=hid (fun v=>cF n N M v hn.2 hN hM)
 have GL:Hid (g<w.heap.size):=(hF.at0 (k:=0) (by omega)).2.1
 have HM:=hid (show F 4=n/\decide (F 0=84/\F 1=65/\F 2=82/\F 3=78)=true from⟨h4,hm⟩)
 obtain⟨sk,hsk⟩:=aB (i64 (num F 13))
 obtain⟨st,hst⟩:=aB (i64 (num F 5))
 have HX:=hid (show i64 (num F 13)=sk/\i64 (num F 5)=st from⟨hsk,hst⟩)
 clear h4 hm hn hN hM ha hb hl21 hsk hst
 have HF:=hid hF
 have HL:=hid hl
 clear hl hF
 have A0:=bG (bl2 w (.cells #[.slice none 0 0,.slice none 0 0,.slice none 0 0,.slice none 0 0,.int .i64 0,.int .i64 0] 25) (.cells #[.slice (some ⟨g,o,none⟩) l c] 82))
 have D0:Hid (((w.alloc (.cells #[.slice none 0 0,.slice none 0 0,.slice none 0 0,.slice none 0 0,.int .i64 0,.int .i64 0] 25)).alloc (.cells #[.slice (some ⟨g,o,none⟩) l c] 82)).heap[w.heap.size]? =some (.cells #[.slice none 0 0,.slice none 0 0,.slice none 0 0,.slice none 0 0,.int .i64 0,.int .i64 0] 25)):=Ab.heap (bl1 _ _) (heap_alloc_new _ _)
 have R0:Hid (RD (w.heap.size+1) g o l c 0 ((w.alloc (.cells #[.slice none 0 0,.slice none 0 0,.slice none 0 0,.slice none 0 0,.int .i64 0,.int .i64 0] 25)).alloc (.cells #[.slice (some ⟨g,o,none⟩) l c] 82))):=by
  have q:=RD.new (w.alloc (.cells #[.slice none 0 0,.slice none 0 0,.slice none 0 0,.slice none 0 0,.int .i64 0,.int .i64 0] 25)) g o l c
  rw[show(w.alloc (.cells #[.slice none 0 0,.slice none 0 0,.slice none 0 0,.slice none 0 0,.int .i64 0,.int .i64 0] 25)).heap.size=w.heap.size+1 from bT _ _]at q
  exact q
 go_enter func28,ntmps28
 go_upto_region 2 with fail
 generalize hV:World.alloc (World.alloc w _) _=v0 at*
 obtain⟨d,hd⟩:=aB w.heap.size
 obtain⟨r,hr⟩:=aB (w.heap.size+1)
 have LB:Hid (w.heap.size<=d/\w.heap.size<=r/\d<r):=by
  refine⟨?_,?_,?_⟩<;>omega
 rw[hr]at R0 ⊢
 rw[hd]at D0 ⊢
 clear hV hd hr
 have F0:=hid (HF.out.below A0.out)
 have NG:Hid (g≠r):=by have:=LB.out;have:=GL.out;show _≠_;omega
 have CH:=hid (cX r g o l c F v0 R0.out ⟨by have:=HN.out;omega,HL.out.1⟩ NG.out F0.out HM.out.2 n HM.out.1 ⟨by have:=HN.out;omega,by have:=HN.out;omega⟩)
 rw[HX.out.1,HX.out.2]at CH
 go_wp2_with fail
 refine CH.out.mono ?_
 rintro e9 v1 ⟨rfl,a1,r1⟩
 have A1:Hid (Ab w v1):=cJ A0.out a1 LB.out.2.1
 have D1:Hid (v1.heap[d]? =some (.cells #[.slice none 0 0,.slice none 0 0,.slice none 0 0,.slice none 0 0,.int .i64 0,.int .i64 0] 25)):=by
  show _=_
  rw[a1.2.2.2.2 d (lt_of_block D0.out) (by have:=LB.out;omega)]
  exact D0.out
 have R1:=hid r1
 clear a1 r1 CH A0 D0 R0 F0
 obtain⟨X2,S2⟩:=aH v1 (.cells #[.slice none 0 0,.slice none 0 0,.slice none 0 0,.slice none 0 0,.int .i64 sk,.int .i64 st] 25)
 have T2:Hid (ST w r v1.heap.size d g o l c 21 (.slice none 0 0) (.slice none 0 0) (.slice none 0 0) (.slice none 0 0) sk st (v1.alloc (.cells #[.slice none 0 0,.slice none 0 0,.slice none 0 0,.slice none 0 0,.int .i64 sk,.int .i64 st] 25))):=by
  have le:w.heap.size<=v1.heap.size:=Below.size A1.out
  have dl:=lt_of_block D1.out
  have rl:=R1.out.lt
  exact⟨A1.out.trans X2.out,R1.out.to X2.out,S2.out,X2.out.heap D1.out,LB.out.2.1,le,LB.out.1,by omega,by have:=LB.out;omega,by omega⟩
 have ss: ∃s,v1.heap.size=s:=⟨_,rfl⟩
 go_upto_region 3 with fail
 generalize hV:World.alloc v1 _=v2 at*
 obtain⟨s,hs⟩:=ss
 rw[hs]at T2 ⊢
 clear hV hs X2 S2 A1 D1 R1
 have F2:=hid (HF.out.below T2.out.1)
 have CT:=hid (bO r g o l c (21) N a F v2 T2.out.2.1 (by have:=HN.out;omega) ⟨by have:=NE.out;have:=HN.out;omega,by have:=NE.out;have:=HN.out;omega⟩ (by have:=HN.out;have:=LE.out;omega) HL.out.1 NG.out F2.out)
 go_wp2_with (go_at_call 49;refine(CC.out _).mono ?_;rintro e9 z9 ⟨rfl,hz⟩;have hz2:=hz.symm;subst hz2)
 refine CT.out.mono ?_
 rintro e9 u2 ⟨t0,rfl,a1,r1,l1,n1⟩
 have U2:=hid (T2.out.abo a1 r1)
 have L0:Hid (w.heap.size<=t0/\t0≠r/\t0≠s/\t0≠d):=by
  have q1:=T2.out.lt
  have q2:=Below.size T2.out.1
  exact⟨by omega,by omega,by omega,by omega⟩
 have M0:=hid n1
 clear a1 r1 l1 n1 CT F2 T2
 have f0:=aC U2.out.2.2.1 0
 have c0:=aA 0 U2.out.2.2.1
 have T3:Hid (ST w r s d g o l c (21+a) (.slice (some ⟨t0,0,none⟩) N N) (.slice none 0 0) (.slice none 0 0) (.slice none 0 0) sk st (u2.setCell ⟨s,0,none⟩ (.slice (some ⟨t0,0,none⟩) N N))):=ST.set U2.out (by rfl)
 have N0:Hid ((u2.setCell ⟨s,0,none⟩ (.slice (some ⟨t0,0,none⟩) N N)).rowIs t0 47 N (fun i=>.float .f64 (num F (21+8*i)))):=M0.out.setOther L0.out.2.2.1 _
 go_upto_region 4 with fail
 generalize hV:World.setCell u2 _ _=v3 at*
 clear hV f0 c0 U2 M0
 have F3:=hid (HF.out.below T3.out.1)
 have CT:=hid (bR r g o l c (21+a) N a F v3 T3.out.2.1 (by have:=HN.out;omega) ⟨by have:=NE.out;have:=HN.out;omega,by have:=NE.out;have:=HN.out;omega⟩ (by have:=HN.out;have:=LE.out;omega) HL.out.1 NG.out F3.out)
 go_wp2_with (go_at_call 49;refine(CC.out _).mono ?_;rintro e9 z9 ⟨rfl,hz⟩;have hz2:=hz.symm;subst hz2)
 refine CT.out.mono ?_
 rintro e9 u3 ⟨t1,rfl,a1,r1,l1,n1⟩
 have U3:=hid (T3.out.abo a1 r1)
 have L1:Hid (w.heap.size<=t1/\t1≠r/\t1≠s/\t1≠d/\t0≠t1):=by
  have q1:=T3.out.lt
  have q2:=Below.size T3.out.1
  have q3:=N0.out.lt
  exact⟨by omega,by omega,by omega,by omega,by omega⟩
 have M0:=hid (aO N0.out a1 L0.out.2.1)
 have M1:=hid n1
 clear a1 r1 l1 n1 CT F3 T3 N0
 have f0:=aC U3.out.2.2.1 1
 have c0:=aA 1 U3.out.2.2.1
 have T4:Hid (ST w r s d g o l c (21+a+a) (.slice (some ⟨t0,0,none⟩) N N) (.slice (some ⟨t1,0,none⟩) N N) (.slice none 0 0) (.slice none 0 0) sk st (u3.setCell ⟨s,1,none⟩ (.slice (some ⟨t1,0,none⟩) N N))):=ST.set U3.out (by rfl)
 have N0:Hid ((u3.setCell ⟨s,1,none⟩ (.slice (some ⟨t1,0,none⟩) N N)).rowIs t0 47 N (fun i=>.float .f64 (num F (21+8*i)))):=M0.out.setOther L0.out.2.2.1 _
 have N1:Hid ((u3.setCell ⟨s,1,none⟩ (.slice (some ⟨t1,0,none⟩) N N)).rowIs t1 2 N (fun i=>.int .i64 (i64 (num F (21+a+8*i))))):=M1.out.setOther L1.out.2.2.1 _
 go_upto_region 5 with fail
 generalize hV:World.setCell u3 _ _=v4 at*
 clear hV f0 c0 U3 M0 M1
 have F4:=hid (HF.out.below T4.out.1)
 have CT:=hid (bR r g o l c (21+a+a) N a F v4 T4.out.2.1 (by have:=HN.out;omega) ⟨by have:=NE.out;have:=HN.out;omega,by have:=NE.out;have:=HN.out;omega⟩ (by have:=HN.out;have:=LE.out;omega) HL.out.1 NG.out F4.out)
 go_wp2_with (go_at_call 49;refine(CC.out _).mono ?_;rintro e9 z9 ⟨rfl,hz⟩;have hz2:=hz.symm;subst hz2)
 refine CT.out.mono ?_
 rintro e9 u4 ⟨t2,rfl,a1,r1,l1,n1⟩
 have U4:=hid (T4.out.abo a1 r1)
 have L2:Hid (w.heap.size<=t2/\t2≠r/\t2≠s/\t2≠d/\t0≠t2/\t1≠t2):=by
  have q1:=T4.out.lt
  have q2:=Below.size T4.out.1
  have q3:=N0.out.lt
  have q4:=N1.out.lt
  exact⟨by omega,by omega,by omega,by omega,by omega,by omega⟩
 have M0:=hid (aO N0.out a1 L0.out.2.1)
 have M1:=hid (aO N1.out a1 L1.out.2.1)
 have M2:=hid n1
 clear a1 r1 l1 n1 CT F4 T4 N0 N1
 have f0:=aC U4.out.2.2.1 2
 have c0:=aA 2 U4.out.2.2.1
 have T5:Hid (ST w r s d g o l c (21+a+a+a) (.slice (some ⟨t0,0,none⟩) N N) (.slice (some ⟨t1,0,none⟩) N N) (.slice (some ⟨t2,0,none⟩) N N) (.slice none 0 0) sk st (u4.setCell ⟨s,2,none⟩ (.slice (some ⟨t2,0,none⟩) N N))):=ST.set U4.out (by rfl)
 have N0:Hid ((u4.setCell ⟨s,2,none⟩ (.slice (some ⟨t2,0,none⟩) N N)).rowIs t0 47 N (fun i=>.float .f64 (num F (21+8*i)))):=M0.out.setOther L0.out.2.2.1 _
 have N1:Hid ((u4.setCell ⟨s,2,none⟩ (.slice (some ⟨t2,0,none⟩) N N)).rowIs t1 2 N (fun i=>.int .i64 (i64 (num F (21+a+8*i))))):=M1.out.setOther L1.out.2.2.1 _
 have N2:Hid ((u4.setCell ⟨s,2,none⟩ (.slice (some ⟨t2,0,none⟩) N N)).rowIs t2 2 N (fun i=>.int .i64 (i64 (num F (21+a+a+8*i))))):=M2.out.setOther L2.out.2.2.1 _
 go_upto_region 6 with fail
 generalize hV:World.setCell u4 _ _=v5 at*
 clear hV f0 c0 U4 M0 M1 M2
 have CT:=hid (pD r g o l c (21+a+a+a) M b v5 T5.out.2.1 (by have:=HN.out;omega) (by have:=NE.out;have:=HN.out;omega) (by have:=LE.out;omega))
 go_wp2_with (first
  | (go_at_call 50;refine(CE.out _).mono ?_;rintro e9 z9 ⟨rfl,hz⟩;have hz2:=hz.symm;subst hz2)
  | (go_at_call 55;refine CT.out.mono ?_;rintro e9 z9 ⟨rfl,hz⟩;have hz2:=hz.symm;subst hz2))
 exact⟨rfl,rfl,T5.out.1⟩
theorem hP(g o l c:Nat)(F:Nat->Nat)(w:World)(hl:l<=c/\c<=9223372036854775807)(hF:Ti.IsW .u8 256 w (some ⟨g,o,none⟩) l F)(hl21:21<=l)(hm:decide (F 0=84/\F 1=65/\F 2=82/\F 3=78)=true)(n N M a b:Nat)(h4:F 4=n)(hn:1<=n/\n<=32)(hN:6*n*n=N)(hM:2*N=M)(ha:N*8=a)(hb:M*8=b)(hk:21+a+a+a+b<=l)(E:Int)(hE: ∀r v,g≠r->RD r g o l c (21+a+a+a+b) v->Ti.IsW .u8 256 v (some ⟨g,o,none⟩) l F->Calls prog 59 #[.pointer (some ⟨r,0,none⟩),.slice (some ⟨g,o,none⟩) l c] v fun e w'=>e=.panicked [{v:=.iface 28 (.int .i64 E),recovered:=false}]/\Sh.Abo v r w'):Calls prog 28 #[.slice (some ⟨g,o,none⟩) l c] w fun e w'=>e=.panicked [{v:=.iface 28 (.int .i64 E),recovered:=false}]/\Ab w w':=by
 have LE:=hid hk
 have HE:=hid hE
 clear hk hE
 have NE:Hid (1<=N/\N<=6144):=by
  have q5:N<=192*32:=by rw[<- hN];exact Nat.mul_le_mul (by omega) (by omega)
  have q6:6*1*1<=N:=by rw[<- hN];exact Nat.mul_le_mul (Nat.mul_le_mul (Nat.le_refl 6) hn.1) hn.1
  exact⟨by omega,by omega⟩
 have HN:=hid (show 2*N=M/\N*8=a/\M*8=b/\21<=l/\1<=n/\n<=32 from⟨hM,ha,hb,hl21,hn.1,hn.2⟩)
 have CC:=hid (fun v=>aZ n N v hn.2 hN)
 have CE:=hid (fun v=>cF n N M v hn.2 hN hM)
 have GL:Hid (g<w.heap.size):=(hF.at0 (k:=0) (by omega)).2.1
 have HM:=hid (show F 4=n/\decide (F 0=84/\F 1=65/\F 2=82/\F 3=78)=true from⟨h4,hm⟩)
 obtain⟨sk,hsk⟩:=aB (i64 (num F 13))
 obtain⟨st,hst⟩:=aB (i64 (num F 5))
 have HX:=hid (show i64 (num F 13)=sk/\i64 (num F 5)=st from⟨hsk,hst⟩)
 clear h4 hm hn hN hM ha hb hl21 hsk hst
 have HF:=hid hF
 have HL:=hid hl
 clear hl hF
 have A0:=bG (bl2 w (.cells #[.slice none 0 0,.slice none 0 0,.slice none 0 0,.slice none 0 0,.int .i64 0,.int .i64 0] 25) (.cells #[.slice (some ⟨g,o,none⟩) l c] 82))
 have D0:Hid (((w.alloc (.cells #[.slice none 0 0,.slice none 0 0,.slice none 0 0,.slice none 0 0,.int .i64 0,.int .i64 0] 25)).alloc (.cells #[.slice (some ⟨g,o,none⟩) l c] 82)).heap[w.heap.size]? =some (.cells #[.slice none 0 0,.slice none 0 0,.slice none 0 0,.slice none 0 0,.int .i64 0,.int .i64 0] 25)):=Ab.heap (bl1 _ _) (heap_alloc_new _ _)
 have R0:Hid (RD (w.heap.size+1) g o l c 0 ((w.alloc (.cells #[.slice none 0 0,.slice none 0 0,.slice none 0 0,.slice none 0 0,.int .i64 0,.int .i64 0] 25)).alloc (.cells #[.slice (some ⟨g,o,none⟩) l c] 82))):=by
  have q:=RD.new (w.alloc (.cells #[.slice none 0 0,.slice none 0 0,.slice none 0 0,.slice none 0 0,.int .i64 0,.int .i64 0] 25)) g o l c
  rw[show(w.alloc (.cells #[.slice none 0 0,.slice none 0 0,.slice none 0 0,.slice none 0 0,.int .i64 0,.int .i64 0] 25)).heap.size=w.heap.size+1 from bT _ _]at q
  exact q
 go_enter func28,ntmps28
 go_upto_region 2 with fail
 generalize hV:World.alloc (World.alloc w _) _=v0 at*
 obtain⟨d,hd⟩:=aB w.heap.size
 obtain⟨r,hr⟩:=aB (w.heap.size+1)
 have LB:Hid (w.heap.size<=d/\w.heap.size<=r/\d<r):=by
  refine⟨?_,?_,?_⟩<;>omega
 rw[hr]at R0 ⊢
 rw[hd]at D0 ⊢
 clear hV hd hr
 have F0:=hid (HF.out.below A0.out)
 have NG:Hid (g≠r):=by have:=LB.out;have:=GL.out;show _≠_;omega
 have CH:=hid (cX r g o l c F v0 R0.out ⟨by have:=HN.out;omega,HL.out.1⟩ NG.out F0.out HM.out.2 n HM.out.1 ⟨by have:=HN.out;omega,by have:=HN.out;omega⟩)
 rw[HX.out.1,HX.out.2]at CH
 go_wp2_with fail
 refine CH.out.mono ?_
 rintro e9 v1 ⟨rfl,a1,r1⟩
 have A1:Hid (Ab w v1):=cJ A0.out a1 LB.out.2.1
 have D1:Hid (v1.heap[d]? =some (.cells #[.slice none 0 0,.slice none 0 0,.slice none 0 0,.slice none 0 0,.int .i64 0,.int .i64 0] 25)):=by
  show _=_
  rw[a1.2.2.2.2 d (lt_of_block D0.out) (by have:=LB.out;omega)]
  exact D0.out
 have R1:=hid r1
 clear a1 r1 CH A0 D0 R0 F0
 obtain⟨X2,S2⟩:=aH v1 (.cells #[.slice none 0 0,.slice none 0 0,.slice none 0 0,.slice none 0 0,.int .i64 sk,.int .i64 st] 25)
 have T2:Hid (ST w r v1.heap.size d g o l c 21 (.slice none 0 0) (.slice none 0 0) (.slice none 0 0) (.slice none 0 0) sk st (v1.alloc (.cells #[.slice none 0 0,.slice none 0 0,.slice none 0 0,.slice none 0 0,.int .i64 sk,.int .i64 st] 25))):=by
  have le:w.heap.size<=v1.heap.size:=Below.size A1.out
  have dl:=lt_of_block D1.out
  have rl:=R1.out.lt
  exact⟨A1.out.trans X2.out,R1.out.to X2.out,S2.out,X2.out.heap D1.out,LB.out.2.1,le,LB.out.1,by omega,by have:=LB.out;omega,by omega⟩
 have ss: ∃s,v1.heap.size=s:=⟨_,rfl⟩
 go_upto_region 3 with fail
 generalize hV:World.alloc v1 _=v2 at*
 obtain⟨s,hs⟩:=ss
 rw[hs]at T2 ⊢
 clear hV hs X2 S2 A1 D1 R1
 have F2:=hid (HF.out.below T2.out.1)
 have CT:=hid (bO r g o l c (21) N a F v2 T2.out.2.1 (by have:=HN.out;omega) ⟨by have:=NE.out;have:=HN.out;omega,by have:=NE.out;have:=HN.out;omega⟩ (by have:=HN.out;have:=LE.out;omega) HL.out.1 NG.out F2.out)
 go_wp2_with (go_at_call 49;refine(CC.out _).mono ?_;rintro e9 z9 ⟨rfl,hz⟩;have hz2:=hz.symm;subst hz2)
 refine CT.out.mono ?_
 rintro e9 u2 ⟨t0,rfl,a1,r1,l1,n1⟩
 have U2:=hid (T2.out.abo a1 r1)
 have L0:Hid (w.heap.size<=t0/\t0≠r/\t0≠s/\t0≠d):=by
  have q1:=T2.out.lt
  have q2:=Below.size T2.out.1
  exact⟨by omega,by omega,by omega,by omega⟩
 have M0:=hid n1
 clear a1 r1 l1 n1 CT F2 T2
 have f0:=aC U2.out.2.2.1 0
 have c0:=aA 0 U2.out.2.2.1
 have T3:Hid (ST w r s d g o l c (21+a) (.slice (some ⟨t0,0,none⟩) N N) (.slice none 0 0) (.slice none 0 0) (.slice none 0 0) sk st (u2.setCell ⟨s,0,none⟩ (.slice (some ⟨t0,0,none⟩) N N))):=ST.set U2.out (by rfl)
 have N0:Hid ((u2.setCell ⟨s,0,none⟩ (.slice (some ⟨t0,0,none⟩) N N)).rowIs t0 47 N (fun i=>.float .f64 (num F (21+8*i)))):=M0.out.setOther L0.out.2.2.1 _
 go_upto_region 4 with fail
 generalize hV:World.setCell u2 _ _=v3 at*
 clear hV f0 c0 U2 M0
 have F3:=hid (HF.out.below T3.out.1)
 have CT:=hid (bR r g o l c (21+a) N a F v3 T3.out.2.1 (by have:=HN.out;omega) ⟨by have:=NE.out;have:=HN.out;omega,by have:=NE.out;have:=HN.out;omega⟩ (by have:=HN.out;have:=LE.out;omega) HL.out.1 NG.out F3.out)
 go_wp2_with (go_at_call 49;refine(CC.out _).mono ?_;rintro e9 z9 ⟨rfl,hz⟩;have hz2:=hz.symm;subst hz2)
 refine CT.out.mono ?_
 rintro e9 u3 ⟨t1,rfl,a1,r1,l1,n1⟩
 have U3:=hid (T3.out.abo a1 r1)
 have L1:Hid (w.heap.size<=t1/\t1≠r/\t1≠s/\t1≠d/\t0≠t1):=by
  have q1:=T3.out.lt
  have q2:=Below.size T3.out.1
  have q3:=N0.out.lt
  exact⟨by omega,by omega,by omega,by omega,by omega⟩
 have M0:=hid (aO N0.out a1 L0.out.2.1)
 have M1:=hid n1
 clear a1 r1 l1 n1 CT F3 T3 N0
 have f0:=aC U3.out.2.2.1 1
 have c0:=aA 1 U3.out.2.2.1
 have T4:Hid (ST w r s d g o l c (21+a+a) (.slice (some ⟨t0,0,none⟩) N N) (.slice (some ⟨t1,0,none⟩) N N) (.slice none 0 0) (.slice none 0 0) sk st (u3.setCell ⟨s,1,none⟩ (.slice (some ⟨t1,0,none⟩) N N))):=ST.set U3.out (by rfl)
 have N0:Hid ((u3.setCell ⟨s,1,none⟩ (.slice (some ⟨t1,0,none⟩) N N)).rowIs t0 47 N (fun i=>.float .f64 (num F (21+8*i)))):=M0.out.setOther L0.out.2.2.1 _
 have N1:Hid ((u3.setCell ⟨s,1,none⟩ (.slice (some ⟨t1,0,none⟩) N N)).rowIs t1 2 N (fun i=>.int .i64 (i64 (num F (21+a+8*i))))):=M1.out.setOther L1.out.2.2.1 _
 go_upto_region 5 with fail
 generalize hV:World.setCell u3 _ _=v4 at*
 clear hV f0 c0 U3 M0 M1
 have F4:=hid (HF.out.below T4.out.1)
 have CT:=hid (bR r g o l c (21+a+a) N a F v4 T4.out.2.1 (by have:=HN.out;omega) ⟨by have:=NE.out;have:=HN.out;omega,by have:=NE.out;have:=HN.out;omega⟩ (by have:=HN.out;have:=LE.out;omega) HL.out.1 NG.out F4.out)
 go_wp2_with (go_at_call 49;refine(CC.out _).mono ?_;rintro e9 z9 ⟨rfl,hz⟩;have hz2:=hz.symm;subst hz2)
 refine CT.out.mono ?_
 rintro e9 u4 ⟨t2,rfl,a1,r1,l1,n1⟩
 have U4:=hid (T4.out.abo a1 r1)
 have L2:Hid (w.heap.size<=t2/\t2≠r/\t2≠s/\t2≠d/\t0≠t2/\t1≠t2):=by
  have q1:=T4.out.lt
  have q2:=Below.size T4.out.1
  have q3:=N0.out.lt
  have q4:=N1.out.lt
  exact⟨by omega,by omega,by omega,by omega,by omega,by omega⟩
 have M0:=hid (aO N0.out a1 L0.out.2.1)
 have M1:=hid (aO N1.out a1 L1.out.2.1)
 have M2:=hid n1
 clear a1 r1 l1 n1 CT F4 T4 N0 N1
 have f0:=aC U4.out.2.2.1 2
 have c0:=aA 2 U4.out.2.2.1
 have T5:Hid (ST w r s d g o l c (21+a+a+a) (.slice (some ⟨t0,0,none⟩) N N) (.slice (some ⟨t1,0,none⟩) N N) (.slice (some ⟨t2,0,none⟩) N N) (.slice none 0 0) sk st (u4.setCell ⟨s,2,none⟩ (.slice (some ⟨t2,0,none⟩) N N))):=ST.set U4.out (by rfl)
 have N0:Hid ((u4.setCell ⟨s,2,none⟩ (.slice (some ⟨t2,0,none⟩) N N)).rowIs t0 47 N (fun i=>.float .f64 (num F (21+8*i)))):=M0.out.setOther L0.out.2.2.1 _
 have N1:Hid ((u4.setCell ⟨s,2,none⟩ (.slice (some ⟨t2,0,none⟩) N N)).rowIs t1 2 N (fun i=>.int .i64 (i64 (num F (21+a+8*i))))):=M1.out.setOther L1.out.2.2.1 _
 have N2:Hid ((u4.setCell ⟨s,2,none⟩ (.slice (some ⟨t2,0,none⟩) N N)).rowIs t2 2 N (fun i=>.int .i64 (i64 (num F (21+a+a+8*i))))):=M2.out.setOther L2.out.2.2.1 _
 go_upto_region 6 with fail
 generalize hV:World.setCell u4 _ _=v5 at*
 clear hV f0 c0 U4 M0 M1 M2
 have F5:=hid (HF.out.below T5.out.1)
 have CT:=hid (bO r g o l c (21+a+a+a) M b F v5 T5.out.2.1 (by have:=HN.out;omega) ⟨by have:=NE.out;have:=HN.out;omega,by have:=NE.out;have:=HN.out;omega⟩ (by have:=HN.out;have:=LE.out;omega) HL.out.1 NG.out F5.out)
 go_wp2_with (go_at_call 50;refine(CE.out _).mono ?_;rintro e9 z9 ⟨rfl,hz⟩;have hz2:=hz.symm;subst hz2)
 refine CT.out.mono ?_
 rintro e9 u5 ⟨t3,rfl,a1,r1,l1,n1⟩
 have U5:=hid (T5.out.abo a1 r1)
 have L3:Hid (w.heap.size<=t3/\t3≠r/\t3≠s/\t3≠d/\t0≠t3/\t1≠t3/\t2≠t3):=by
  have q1:=T5.out.lt
  have q2:=Below.size T5.out.1
  have q3:=N0.out.lt
  have q4:=N1.out.lt
  have q5:=N2.out.lt
  exact⟨by omega,by omega,by omega,by omega,by omega,by omega,by omega⟩
 have M0:=hid (aO N0.out a1 L0.out.2.1)
 have M1:=hid (aO N1.out a1 L1.out.2.1)
 have M2:=hid (aO N2.out a1 L2.out.2.1)
 have M3:=hid n1
 clear a1 r1 l1 n1 CT F5 T5 N0 N1 N2
 have f0:=aC U5.out.2.2.1 3
 have c0:=aA 3 U5.out.2.2.1
 have T6:Hid (ST w r s d g o l c (21+a+a+a+b) (.slice (some ⟨t0,0,none⟩) N N) (.slice (some ⟨t1,0,none⟩) N N) (.slice (some ⟨t2,0,none⟩) N N) (.slice (some ⟨t3,0,none⟩) M M) sk st (u5.setCell ⟨s,3,none⟩ (.slice (some ⟨t3,0,none⟩) M M))):=ST.set U5.out (by rfl)
 have N0:Hid ((u5.setCell ⟨s,3,none⟩ (.slice (some ⟨t3,0,none⟩) M M)).rowIs t0 47 N (fun i=>.float .f64 (num F (21+8*i)))):=M0.out.setOther L0.out.2.2.1 _
 have N1:Hid ((u5.setCell ⟨s,3,none⟩ (.slice (some ⟨t3,0,none⟩) M M)).rowIs t1 2 N (fun i=>.int .i64 (i64 (num F (21+a+8*i))))):=M1.out.setOther L1.out.2.2.1 _
 have N2:Hid ((u5.setCell ⟨s,3,none⟩ (.slice (some ⟨t3,0,none⟩) M M)).rowIs t2 2 N (fun i=>.int .i64 (i64 (num F (21+a+a+8*i))))):=M2.out.setOther L2.out.2.2.1 _
 have N3:Hid ((u5.setCell ⟨s,3,none⟩ (.slice (some ⟨t3,0,none⟩) M M)).rowIs t3 47 M (fun i=>.float .f64 (num F (21+a+a+a+8*i)))):=M3.out.setOther L3.out.2.2.1 _
 go_upto_region 7 with fail
 generalize hV:World.setCell u5 _ _=v6 at*
 clear hV f0 c0 U5 M0 M1 M2 M3
 have F6:=hid (HF.out.below T6.out.1)
 have CT:=hid (HE.out r v6 NG.out T6.out.2.1 F6.out)
 go_wp2_with fail
 refine CT.out.mono ?_
 rintro e9 v7 ⟨rfl,a1⟩
 have A7:Hid (Ab w v7):=cJ T6.out.1 a1 LB.out.2.1
 clear a1 CT
 go_wp2
 exact⟨rfl,rfl,A7.out⟩
end Sv
end
end Go.Proofs.YtlmfpikhlcnjjaaGreatDoor
