/-
  Some of the texts of this proof, one behind the other.
-/
import Derived.Defers
import Derived.Recover
import Derived.Lib.AppendStr
import Derived.Test.YtlmfpikhlcnjjaaGreatDoorSj08
set_option maxRecDepth 100000
set_option maxHeartbeats 400000000
namespace Go.Proofs.YtlmfpikhlcnjjaaGreatDoor
open _root_.Go.Proofs.Tryz
section
open Go.RowKit Go.Deep Tf Cu
attribute [local go_sem] aF aG aI aJ aK aL aM aC
namespace Sv
theorem eD(X:World):X.drew.heap=X.heap:=rfl
theorem dU{w:World}{b n:Nat}{t:TypeId}{f:Nat->Value}(h:w.rowIs b t n f):w.drew.rowIs b t n f:=h.of_block rfl
theorem rI{w:World}{b d n:Nat}{t:TypeId}{f:Nat->Value}{x0 x1 x2 x3 x4 x5:Value}(h:w.rowIs b t n f)(e:b≠d):((((((w.setCell ⟨d,0,none⟩ x0).setCell ⟨d,1,none⟩ x1).setCell ⟨d,2,none⟩ x2).setCell ⟨d,3,none⟩ x3).setCell ⟨d,4,none⟩ x4).setCell ⟨d,5,none⟩ x5).rowIs b t n f:=
 (((((h.setOther e _).setOther e _).setOther e _).setOther e _).setOther e _).setOther e _
theorem fQ{w:World}{b d n:Nat}{t:TypeId}{f:Nat->Value}{x0 x1 x2 x3 x4 x5:Value}(h:w.rowIs b t n f)(e:b≠d):((((((w.setCell ⟨d,0,none⟩ x0).setCell ⟨d,1,none⟩ x1).setCell ⟨d,2,none⟩ x2).setCell ⟨d,3,none⟩ x3).setCell ⟨d,4,none⟩ x4).setCell ⟨d,5,none⟩ x5).drew.rowIs b t n f:=dU (rI h e)
theorem row6d{w:World}{d:Nat}{a0 a1 a2 a3 a4 a5 x0 x1 x2 x3 x4 x5:Value}{T:TypeId}(h:w.heap[d]? =some (.cells #[a0,a1,a2,a3,a4,a5] T)):((((((w.setCell ⟨d,0,none⟩ x0).setCell ⟨d,1,none⟩ x1).setCell ⟨d,2,none⟩ x2).setCell ⟨d,3,none⟩ x3).setCell ⟨d,4,none⟩ x4).setCell ⟨d,5,none⟩ x5).drew.heap[d]? =some (.cells #[x0,x1,x2,x3,x4,x5] T):=by rw[eD];exact row6 h
theorem ab_six{V w:World}{d:Nat}{x0 x1 x2 x3 x4 x5:Value}(h:Ab V w)(hd:V.heap.size<=d):Ab V ((((((w.setCell ⟨d,0,none⟩ x0).setCell ⟨d,1,none⟩ x1).setCell ⟨d,2,none⟩ x2).setCell ⟨d,3,none⟩ x3).setCell ⟨d,4,none⟩ x4).setCell ⟨d,5,none⟩ x5).drew:=Ab.drew ((((((h.setk hd _).setk hd _).setk hd _).setk hd _).setk hd _).setk hd _)
theorem read_ok(g o l c:Nat)(F:Nat->Nat)(w:World)(hl:l<=c/\c<=9223372036854775807)(hF:Ti.IsW .u8 256 w (some ⟨g,o,none⟩) l F)(hl21:21<=l)(hm:decide (F 0=84/\F 1=65/\F 2=82/\F 3=78)=true)(n N M a b:Nat)(h4:F 4=n)(hn:1<=n/\n<=32)(hN:6*n*n=N)(hM:2*N=M)(ha:N*8=a)(hb:M*8=b)(hk:21+a+a+a+b+8=l)(hs:num F (21+a+a+a+b)=smN F (21+a+a+a+b))(hx:(Ss.chk (n:Nat) N N N M (fun i=>num F (21+8*i)) (fun i=>i64 (num F (21+a+8*i))) (fun i=>i64 (num F (21+a+a+8*i))) (fun i=>num F (21+a+a+a+8*i)) (i64 (num F 13)) (i64 (num F 5))).2=0):Calls prog 28 #[.slice (some ⟨g,o,none⟩) l c] w fun e w'=> ∃t0 t1 t2 t3,e=.returned (.tuple #[.int .i64 (n:Nat),.agg #[.slice (some ⟨t0,0,none⟩) N N,.slice (some ⟨t1,0,none⟩) N N,.slice (some ⟨t2,0,none⟩) N N,.slice (some ⟨t3,0,none⟩) M M,.int .i64 (i64 (num F 13)),.int .i64 (i64 (num F 5))]])/\Ab w w'/\(w.heap.size<=t0/\w.heap.size<=t1/\w.heap.size<=t2/\w.heap.size<=t3)/\(t0≠t1/\t0≠t2/\t0≠t3/\t1≠t2/\t1≠t3/\t2≠t3)/\w'.rowIs t0 47 N (fun i=>.float .f64 (num F (21+8*i)))/\w'.rowIs t1 2 N (fun i=>.int .i64 (i64 (num F (21+a+8*i))))/\w'.rowIs t2 2 N (fun i=>.int .i64 (i64 (num F (21+a+a+8*i))))/\w'.rowIs t3 47 M (fun i=>.float .f64 (num F (21+a+a+a+8*i))):=by
 have LK:=hid hk
 have LE:=hid (show 21+a+a+a+b<=l by omega)
 have HS:=hid hs
 have HXX:=hid hx
 clear hk hs hx
 have NE:Hid (1<=N/\N<=6144):=by
  have q5:N<=192*32:=by rw[<- hN];exact Nat.mul_le_mul (by omega) (by omega)
  have q6:6*1*1<=N:=by rw[<- hN];exact Nat.mul_le_mul (Nat.mul_le_mul (Nat.le_refl 6) hn.1) hn.1
  exact⟨by omega,by omega⟩
 have HN:=hid (show 2*N=M/\N*8=a/\M*8=b/\21<=l/\1<=n/\n<=32 from⟨hM,ha,hb,hl21,hn.1,hn.2⟩)
 have CC:=hid (fun v=>bR n N v hn.2 hN)
 have CE:=hid (fun v=>oO n N M v hn.2 hN hM)
 have GL:Hid (g<w.heap.size):=(hF.at0 (k:=0) (by omega)).2.1
 have HM:=hid (show F 4=n/\decide (F 0=84/\F 1=65/\F 2=82/\F 3=78)=true from⟨h4,hm⟩)
 obtain⟨sk,hsk⟩:=aB (i64 (num F 13))
 obtain⟨st,hst⟩:=aB (i64 (num F 5))
 have HX:=hid (show i64 (num F 13)=sk/\i64 (num F 5)=st from⟨hsk,hst⟩)
 clear h4 hm hn hN hM ha hb hl21 hsk hst
 have HF:=hid hF
 have HL:=hid hl
 clear hl hF
 have A0:=cZ (bl2 w (.cells #[.slice none 0 0,.slice none 0 0,.slice none 0 0,.slice none 0 0,.int .i64 0,.int .i64 0] 25) (.cells #[.slice (some ⟨g,o,none⟩) l c] 82))
 have D0:Hid (((w.alloc (.cells #[.slice none 0 0,.slice none 0 0,.slice none 0 0,.slice none 0 0,.int .i64 0,.int .i64 0] 25)).alloc (.cells #[.slice (some ⟨g,o,none⟩) l c] 82)).heap[w.heap.size]? =some (.cells #[.slice none 0 0,.slice none 0 0,.slice none 0 0,.slice none 0 0,.int .i64 0,.int .i64 0] 25)):=Ab.heap (bl1 _ _) (heap_alloc_new _ _)
 have R0:Hid (RD (w.heap.size+1) g o l c 0 ((w.alloc (.cells #[.slice none 0 0,.slice none 0 0,.slice none 0 0,.slice none 0 0,.int .i64 0,.int .i64 0] 25)).alloc (.cells #[.slice (some ⟨g,o,none⟩) l c] 82))):=by
  have q:=RD.new (w.alloc (.cells #[.slice none 0 0,.slice none 0 0,.slice none 0 0,.slice none 0 0,.int .i64 0,.int .i64 0] 25)) g o l c
  rw[show(w.alloc (.cells #[.slice none 0 0,.slice none 0 0,.slice none 0 0,.slice none 0 0,.int .i64 0,.int .i64 0] 25)).heap.size=w.heap.size+1 from hP _ _]at q
  exact q
 go_enter func28,ntmps28
 go_upto_region 2 with fail
 generalize hV:World.alloc (World.alloc w _) _=v0 at*
 obtain⟨d,hd⟩:=aB w.heap.size
 obtain⟨r,hr⟩:=aB (w.heap.size+1)
 have LB:Hid (w.heap.size<=d/\w.heap.size<=r/\d<r):=by
  refine⟨?_,?_,?_⟩<;>omega
 rw[hr]at R0 ⊢
 rw[hd]at D0 ⊢
 clear hV hd hr
 have F0:=hid (HF.out.below A0.out)
 have NG:Hid (g≠r):=by have:=LB.out;have:=GL.out;show _≠_;omega
 have CH:=hid (head_yes r g o l c F v0 R0.out ⟨by have:=HN.out;omega,HL.out.1⟩ NG.out F0.out HM.out.2 n HM.out.1 ⟨by have:=HN.out;omega,by have:=HN.out;omega⟩)
 rw[HX.out.1,HX.out.2]at CH
 go_wp2_with fail
 refine CH.out.mono ?_
 rintro e9 v1 ⟨rfl,a1,r1⟩
 have A1:Hid (Ab w v1):=pZ A0.out a1 LB.out.2.1
 have D1:Hid (v1.heap[d]? =some (.cells #[.slice none 0 0,.slice none 0 0,.slice none 0 0,.slice none 0 0,.int .i64 0,.int .i64 0] 25)):=by
  show _=_
  rw[a1.2.2.2.2 d (lt_of_block D0.out) (by have:=LB.out;omega)]
  exact D0.out
 have R1:=hid r1
 clear a1 r1 CH A0 D0 R0 F0
 obtain⟨X2,S2⟩:=aN v1 (.cells #[.slice none 0 0,.slice none 0 0,.slice none 0 0,.slice none 0 0,.int .i64 sk,.int .i64 st] 25)
 have T2:Hid (ST w r v1.heap.size d g o l c 21 (.slice none 0 0) (.slice none 0 0) (.slice none 0 0) (.slice none 0 0) sk st (v1.alloc (.cells #[.slice none 0 0,.slice none 0 0,.slice none 0 0,.slice none 0 0,.int .i64 sk,.int .i64 st] 25))):=by
  have le:w.heap.size<=v1.heap.size:=Below.size A1.out
  have dl:=lt_of_block D1.out
  have rl:=R1.out.lt
  exact⟨A1.out.trans X2.out,R1.out.to X2.out,S2.out,X2.out.heap D1.out,LB.out.2.1,le,LB.out.1,by omega,by have:=LB.out;omega,by omega⟩
 have ss: ∃s,v1.heap.size=s:=⟨_,rfl⟩
 go_upto_region 3 with fail
 generalize hV:World.alloc v1 _=v2 at*
 obtain⟨s,hs⟩:=ss
 rw[hs]at T2 ⊢
 clear hV hs X2 S2 A1 D1 R1
 have F2:=hid (HF.out.below T2.out.1)
 have CT:=hid (kK r g o l c (21) N a F v2 T2.out.2.1 (by have:=HN.out;omega) ⟨by have:=NE.out;have:=HN.out;omega,by have:=NE.out;have:=HN.out;omega⟩ (by have:=HN.out;have:=LE.out;omega) HL.out.1 NG.out F2.out)
 go_wp2_with (go_at_call 49;refine(CC.out _).mono ?_;rintro e9 z9 ⟨rfl,hz⟩;have hz2:=hz.symm;subst hz2)
 refine CT.out.mono ?_
 rintro e9 u2 ⟨t0,rfl,a1,r1,l1,n1⟩
 have U2:=hid (T2.out.abo a1 r1)
 have L0:Hid (w.heap.size<=t0/\t0≠r/\t0≠s/\t0≠d):=by
  have q1:=T2.out.lt
  have q2:=Below.size T2.out.1
  exact⟨by omega,by omega,by omega,by omega⟩
 have M0:=hid n1
 clear a1 r1 l1 n1 CT F2 T2
 have f0:=aE U2.out.2.2.1 0
 have c0:=aA 0 U2.out.2.2.1
 have T3:Hid (ST w r s d g o l c (21+a) (.slice (some ⟨t0,0,none⟩) N N) (.slice none 0 0) (.slice none 0 0) (.slice none 0 0) sk st (u2.setCell ⟨s,0,none⟩ (.slice (some ⟨t0,0,none⟩) N N))):=ST.set U2.out (by rfl)
 have N0:Hid ((u2.setCell ⟨s,0,none⟩ (.slice (some ⟨t0,0,none⟩) N N)).rowIs t0 47 N (fun i=>.float .f64 (num F (21+8*i)))):=M0.out.setOther L0.out.2.2.1 _
 go_upto_region 4 with fail
 generalize hV:World.setCell u2 _ _=v3 at*
 clear hV f0 c0 U2 M0
 have F3:=hid (HF.out.below T3.out.1)
 have CT:=hid (kL r g o l c (21+a) N a F v3 T3.out.2.1 (by have:=HN.out;omega) ⟨by have:=NE.out;have:=HN.out;omega,by have:=NE.out;have:=HN.out;omega⟩ (by have:=HN.out;have:=LE.out;omega) HL.out.1 NG.out F3.out)
 go_wp2_with (go_at_call 49;refine(CC.out _).mono ?_;rintro e9 z9 ⟨rfl,hz⟩;have hz2:=hz.symm;subst hz2)
 refine CT.out.mono ?_
 rintro e9 u3 ⟨t1,rfl,a1,r1,l1,n1⟩
 have U3:=hid (T3.out.abo a1 r1)
 have L1:Hid (w.heap.size<=t1/\t1≠r/\t1≠s/\t1≠d/\t0≠t1):=by
  have q1:=T3.out.lt
  have q2:=Below.size T3.out.1
  have q3:=N0.out.lt
  exact⟨by omega,by omega,by omega,by omega,by omega⟩
 have M0:=hid (bI N0.out a1 L0.out.2.1)
 have M1:=hid n1
 clear a1 r1 l1 n1 CT F3 T3 N0
 have f0:=aE U3.out.2.2.1 1
 have c0:=aA 1 U3.out.2.2.1
 have T4:Hid (ST w r s d g o l c (21+a+a) (.slice (some ⟨t0,0,none⟩) N N) (.slice (some ⟨t1,0,none⟩) N N) (.slice none 0 0) (.slice none 0 0) sk st (u3.setCell ⟨s,1,none⟩ (.slice (some ⟨t1,0,none⟩) N N))):=ST.set U3.out (by rfl)
 have N0:Hid ((u3.setCell ⟨s,1,none⟩ (.slice (some ⟨t1,0,none⟩) N N)).rowIs t0 47 N (fun i=>.float .f64 (num F (21+8*i)))):=M0.out.setOther L0.out.2.2.1 _
 have N1:Hid ((u3.setCell ⟨s,1,none⟩ (.slice (some ⟨t1,0,none⟩) N N)).rowIs t1 2 N (fun i=>.int .i64 (i64 (num F (21+a+8*i))))):=M1.out.setOther L1.out.2.2.1 _
 go_upto_region 5 with fail
 generalize hV:World.setCell u3 _ _=v4 at*
 clear hV f0 c0 U3 M0 M1
 have F4:=hid (HF.out.below T4.out.1)
 have CT:=hid (kL r g o l c (21+a+a) N a F v4 T4.out.2.1 (by have:=HN.out;omega) ⟨by have:=NE.out;have:=HN.out;omega,by have:=NE.out;have:=HN.out;omega⟩ (by have:=HN.out;have:=LE.out;omega) HL.out.1 NG.out F4.out)
 go_wp2_with (go_at_call 49;refine(CC.out _).mono ?_;rintro e9 z9 ⟨rfl,hz⟩;have hz2:=hz.symm;subst hz2)
 refine CT.out.mono ?_
 rintro e9 u4 ⟨t2,rfl,a1,r1,l1,n1⟩
 have U4:=hid (T4.out.abo a1 r1)
 have L2:Hid (w.heap.size<=t2/\t2≠r/\t2≠s/\t2≠d/\t0≠t2/\t1≠t2):=by
  have q1:=T4.out.lt
  have q2:=Below.size T4.out.1
  have q3:=N0.out.lt
  have q4:=N1.out.lt
  exact⟨by omega,by omega,by omega,by omega,by omega,by omega⟩
 have M0:=hid (bI N0.out a1 L0.out.2.1)
 have M1:=hid (bI N1.out a1 L1.out.2.1)
 have M2:=hid n1
 clear a1 r1 l1 n1 CT F4 T4 N0 N1
 have f0:=aE U4.out.2.2.1 2
 have c0:=aA 2 U4.out.2.2.1
 have T5:Hid (ST w r s d g o l c (21+a+a+a) (.slice (some ⟨t0,0,none⟩) N N) (.slice (some ⟨t1,0,none⟩) N N) (.slice (some ⟨t2,0,none⟩) N N) (.slice none 0 0) sk st (u4.setCell ⟨s,2,none⟩ (.slice (some ⟨t2,0,none⟩) N N))):=ST.set U4.out (by rfl)
 have N0:Hid ((u4.setCell ⟨s,2,none⟩ (.slice (some ⟨t2,0,none⟩) N N)).rowIs t0 47 N (fun i=>.float .f64 (num F (21+8*i)))):=M0.out.setOther L0.out.2.2.1 _
 have N1:Hid ((u4.setCell ⟨s,2,none⟩ (.slice (some ⟨t2,0,none⟩) N N)).rowIs t1 2 N (fun i=>.int .i64 (i64 (num F (21+a+8*i))))):=M1.out.setOther L1.out.2.2.1 _
 have N2:Hid ((u4.setCell ⟨s,2,none⟩ (.slice (some ⟨t2,0,none⟩) N N)).rowIs t2 2 N (fun i=>.int .i64 (i64 (num F (21+a+a+8*i))))):=M2.out.setOther L2.out.2.2.1 _
 go_upto_region 6 with fail
 generalize hV:World.setCell u4 _ _=v5 at*
 clear hV f0 c0 U4 M0 M1 M2
 have F5:=hid (HF.out.below T5.out.1)
 have CT:=hid (kK r g o l c (21+a+a+a) M b F v5 T5.out.2.1 (by have:=HN.out;omega) ⟨by have:=NE.out;have:=HN.out;omega,by have:=NE.out;have:=HN.out;omega⟩ (by have:=HN.out;have:=LE.out;omega) HL.out.1 NG.out F5.out)
 go_wp2_with (go_at_call 50;refine(CE.out _).mono ?_;rintro e9 z9 ⟨rfl,hz⟩;have hz2:=hz.symm;subst hz2)
 refine CT.out.mono ?_
 rintro e9 u5 ⟨t3,rfl,a1,r1,l1,n1⟩
 have U5:=hid (T5.out.abo a1 r1)
 have L3:Hid (w.heap.size<=t3/\t3≠r/\t3≠s/\t3≠d/\t0≠t3/\t1≠t3/\t2≠t3):=by
  have q1:=T5.out.lt
  have q2:=Below.size T5.out.1
  have q3:=N0.out.lt
  have q4:=N1.out.lt
  have q5:=N2.out.lt
  exact⟨by omega,by omega,by omega,by omega,by omega,by omega,by omega⟩
 have M0:=hid (bI N0.out a1 L0.out.2.1)
 have M1:=hid (bI N1.out a1 L1.out.2.1)
 have M2:=hid (bI N2.out a1 L2.out.2.1)
 have M3:=hid n1
 clear a1 r1 l1 n1 CT F5 T5 N0 N1 N2
 have f0:=aE U5.out.2.2.1 3
 have c0:=aA 3 U5.out.2.2.1
 have T6:Hid (ST w r s d g o l c (21+a+a+a+b) (.slice (some ⟨t0,0,none⟩) N N) (.slice (some ⟨t1,0,none⟩) N N) (.slice (some ⟨t2,0,none⟩) N N) (.slice (some ⟨t3,0,none⟩) M M) sk st (u5.setCell ⟨s,3,none⟩ (.slice (some ⟨t3,0,none⟩) M M))):=ST.set U5.out (by rfl)
 have N0:Hid ((u5.setCell ⟨s,3,none⟩ (.slice (some ⟨t3,0,none⟩) M M)).rowIs t0 47 N (fun i=>.float .f64 (num F (21+8*i)))):=M0.out.setOther L0.out.2.2.1 _
 have N1:Hid ((u5.setCell ⟨s,3,none⟩ (.slice (some ⟨t3,0,none⟩) M M)).rowIs t1 2 N (fun i=>.int .i64 (i64 (num F (21+a+8*i))))):=M1.out.setOther L1.out.2.2.1 _
 have N2:Hid ((u5.setCell ⟨s,3,none⟩ (.slice (some ⟨t3,0,none⟩) M M)).rowIs t2 2 N (fun i=>.int .i64 (i64 (num F (21+a+a+8*i))))):=M2.out.setOther L2.out.2.2.1 _
 have N3:Hid ((u5.setCell ⟨s,3,none⟩ (.slice (some ⟨t3,0,none⟩) M M)).rowIs t3 47 M (fun i=>.float .f64 (num F (21+a+a+a+8*i)))):=M3.out.setOther L3.out.2.2.1 _
 go_upto_region 7 with fail
 generalize hV:World.setCell u5 _ _=v6 at*
 clear hV f0 c0 U5 M0 M1 M2 M3
 have F6:=hid (HF.out.below T6.out.1)
 have CT:=hid (foot_ok r g o l c (21+a+a+a+b) F v6 T6.out.2.1 LE.out HL.out.1 HL.out.2 NG.out F6.out LK.out HS.out)
 go_wp2_with fail
 refine CT.out.mono ?_
 rintro e9 v7 ⟨rfl,a1⟩
 have A7:Hid (Ab w v7):=pZ T6.out.1 a1 LB.out.2.1
 have S7:Hid (v7.heap[s]? =some (.cells #[.slice (some ⟨t0,0,none⟩) N N,.slice (some ⟨t1,0,none⟩) N N,.slice (some ⟨t2,0,none⟩) N N,.slice (some ⟨t3,0,none⟩) M M,.int .i64 sk,.int .i64 st] 25)):=(a1.2.2.2.2 s (lt_of_block T6.out.2.2.1) (Ne.symm T6.out.2.2.2.2.2.2.2.1)).trans T6.out.2.2.1
 have D7:Hid (v7.heap[d]? =some (.cells #[.slice none 0 0,.slice none 0 0,.slice none 0 0,.slice none 0 0,.int .i64 0,.int .i64 0] 25)):=(a1.2.2.2.2 d (lt_of_block T6.out.2.2.2.1) (Ne.symm T6.out.2.2.2.2.2.2.2.2.1)).trans T6.out.2.2.2.1
 have SD:Hid (w.heap.size<=d/\s≠d):=⟨LB.out.1,T6.out.2.2.2.2.2.2.2.2.2⟩
 have M0:=hid (bI N0.out a1 L0.out.2.1)
 have M1:=hid (bI N1.out a1 L1.out.2.1)
 have M2:=hid (bI N2.out a1 L2.out.2.1)
 have M3:=hid (bI N3.out a1 L3.out.2.1)
 clear a1 CT F6 T6 N0 N1 N2 N3
 have nl: ∀q,q+8<=l->num F q<18446744073709551616:=fun q hq=>numl (fun i hi=>(HF.out.at0 (k:=q+i) (by omega)).1)
 have CK:=hid (Ss.jK (n:Nat) (some ⟨t0,0,none⟩) N N (fun i=>num F (21+8*i)) (some ⟨t1,0,none⟩) N N (fun i=>i64 (num F (21+a+8*i))) (some ⟨t2,0,none⟩) N N (fun i=>i64 (num F (21+a+a+8*i))) (some ⟨t3,0,none⟩) M M (fun i=>num F (21+a+a+a+8*i)) sk st v7 (rowIs.fl M0.out (fun i hi=>nl _ (by have:=HN.out;have:=LE.out;omega))) (Sh.gG M1.out (fun i hi=>i64_in (nl _ (by have:=HN.out;have:=LE.out;omega)))) (Sh.gG M2.out (fun i hi=>i64_in (nl _ (by have:=HN.out;have:=LE.out;omega)))) (rowIs.fl M3.out (fun i hi=>nl _ (by have:=HN.out;have:=LE.out;omega))))
 rw[HX.out.1,HX.out.2]at HXX
 rw[HXX.out]at CK
 obtain⟨x1,hx1⟩:=aB ((Ss.chk (n:Nat) N N N M (fun i=>num F (21+8*i)) (fun i=>i64 (num F (21+a+8*i))) (fun i=>i64 (num F (21+a+a+8*i))) (fun i=>num F (21+a+a+a+8*i)) sk st).1)
 rw[hx1]at CK
 clear hx1 nl HXX
 have y0:=aD S7.out
 go_wp2_with fail
 refine CK.out.mono ?_
 rintro e9 v8 ⟨rfl,b1⟩
 have A8:Hid (Ab w v8):=A7.out.trans b1
 have S8:=hid (Ab.heap b1 S7.out)
 have D8:=hid (Ab.heap b1 D7.out)
 have P0:=hid (Sh.dQ M0.out b1)
 have P1:=hid (Sh.dQ M1.out b1)
 have P2:=hid (Sh.dQ M2.out b1)
 have P3:=hid (Sh.dQ M3.out b1)
 clear b1 CK A7 S7 D7 M0 M1 M2 M3 y0
 have y0:=aD S8.out
 have f0:=aE D8.out 0
 have c0:=aA 0 D8.out
 have f1:=aE D8.out 1
 have c1:=aA 1 D8.out
 have f2:=aE D8.out 2
 have c2:=aA 2 D8.out
 have f3:=aE D8.out 3
 have c3:=aA 3 D8.out
 have f4:=aE D8.out 4
 have c4:=aA 4 D8.out
 have f5:=aE D8.out 5
 have c5:=aA 5 D8.out
 have sd:=SD.out.2
 go_wp2_with fail
 go_region
 go_wp2_with fail
 refine bodyPost_ret (v:=.tuple #[.int .i64 (n:Nat),.agg #[.slice (some ⟨t0,0,none⟩) N N,.slice (some ⟨t1,0,none⟩) N N,.slice (some ⟨t2,0,none⟩) N N,.slice (some ⟨t3,0,none⟩) M M,.int .i64 sk,.int .i64 st]]) ?_ rfl ?_
 ·exact res_tc results28 _ _ d _ _ (0,0) _ _ rfl rfl (row6d D8.out) underlying25 rfl (by kernel_rfl)
 refine⟨t0,t1,t2,t3,by rw[HX.out.1,HX.out.2],?_,⟨L0.out.1,L1.out.1,L2.out.1,L3.out.1⟩,⟨L1.out.2.2.2.2,L2.out.2.2.2.2.1,L3.out.2.2.2.2.1,L2.out.2.2.2.2.2,L3.out.2.2.2.2.2.1,L3.out.2.2.2.2.2.2⟩,?_,?_,?_,?_⟩
 ·exact ab_six A8.out SD.out.1
 ·exact fQ P0.out L0.out.2.2.2
 ·exact fQ P1.out L1.out.2.2.2.1
 ·exact fQ P2.out L2.out.2.2.2.1
 ·exact fQ P3.out L3.out.2.2.2.1
end Sv
end
section
open Go.RowKit Go.Deep Tf Cu
attribute [local go_sem] aF aG aI aJ aK aL aM aC
namespace Sv
theorem kQ{w:World}{d0 d1 d2:Nat}{a b a0 a1 a2 a3 a4 a5 x y x0 x1 x2 x3 x4 x5:Value}{T0 T1 T2:TypeId}(h0:w.heap[d0]? =some (.cells #[a] T0))(h1:w.heap[d1]? =some (.cells #[a0,a1,a2,a3,a4,a5] T1))(h2:w.heap[d2]? =some (.cells #[b] T2))(n1:d0≠d1)(n2:d0≠d2)(n3:d1≠d2):
  ((((((((w.setCell ⟨d0,0,none⟩ x).setCell ⟨d1,0,none⟩ x0).setCell ⟨d1,1,none⟩ x1).setCell ⟨d1,2,none⟩ x2).setCell ⟨d1,3,none⟩ x3).setCell ⟨d1,4,none⟩ x4).setCell ⟨d1,5,none⟩ x5).setCell ⟨d2,0,none⟩ y).heap[d0]? =some (.cells #[x] T0)/\((((((((w.setCell ⟨d0,0,none⟩ x).setCell ⟨d1,0,none⟩ x0).setCell ⟨d1,1,none⟩ x1).setCell ⟨d1,2,none⟩ x2).setCell ⟨d1,3,none⟩ x3).setCell ⟨d1,4,none⟩ x4).setCell ⟨d1,5,none⟩ x5).setCell ⟨d2,0,none⟩ y).heap[d1]? =some (.cells #[x0,x1,x2,x3,x4,x5] T1)/\((((((((w.setCell ⟨d0,0,none⟩ x).setCell ⟨d1,0,none⟩ x0).setCell ⟨d1,1,none⟩ x1).setCell ⟨d1,2,none⟩ x2).setCell ⟨d1,3,none⟩ x3).setCell ⟨d1,4,none⟩ x4).setCell ⟨d1,5,none⟩ x5).setCell ⟨d2,0,none⟩ y).heap[d2]? =some (.cells #[y] T2):=by
 have k0:(w.setCell ⟨d0,0,none⟩ x).heap[d0]? =some (.cells #[x] T0):=aH h0
 have k1:(w.setCell ⟨d0,0,none⟩ x).heap[d1]? =some (.cells #[a0,a1,a2,a3,a4,a5] T1):=(blk_setCell_other _ _ _ _ (Ne.symm n1)).trans h1
 have k2:(w.setCell ⟨d0,0,none⟩ x).heap[d2]? =some (.cells #[b] T2):=(blk_setCell_other _ _ _ _ (Ne.symm n2)).trans h2
 generalize w.setCell ⟨d0,0,none⟩ x=u at*
 have s6: ∀j,j≠d1->((((((u.setCell ⟨d1,0,none⟩ x0).setCell ⟨d1,1,none⟩ x1).setCell ⟨d1,2,none⟩ x2).setCell ⟨d1,3,none⟩ x3).setCell ⟨d1,4,none⟩ x4).setCell ⟨d1,5,none⟩ x5).heap[j]? =u.heap[j]? :=fun j n=>by
  rw[blk_setCell_other _ _ _ _ n,blk_setCell_other _ _ _ _ n,blk_setCell_other _ _ _ _ n,blk_setCell_other _ _ _ _ n,blk_setCell_other _ _ _ _ n,blk_setCell_other _ _ _ _ n]
 have l1:=row6 (x:=x0) (y:=x1) (z:=x2) (p:=x3) (q:=x4) (r:=x5) k1
 have l0:=(s6 d0 n1).trans k0
 have l2:=(s6 d2 (Ne.symm n3)).trans k2
 generalize((((((u.setCell ⟨d1,0,none⟩ x0).setCell ⟨d1,1,none⟩ x1).setCell ⟨d1,2,none⟩ x2).setCell ⟨d1,3,none⟩ x3).setCell ⟨d1,4,none⟩ x4).setCell ⟨d1,5,none⟩ x5)=t at*
 exact⟨(blk_setCell_other _ _ _ _ n2).trans l0,(blk_setCell_other _ _ _ _ n3).trans l1,aH l2⟩
theorem oP{w:World}{d0 d1 d2:Nat}{a b a0 a1 a2 a3 a4 a5 x x0 x1 x2 x3 x4 x5:Value}{T0 T1 T2:TypeId}(h0:w.heap[d0]? =some (.cells #[a] T0))(h1:w.heap[d1]? =some (.cells #[a0,a1,a2,a3,a4,a5] T1))(h2:w.heap[d2]? =some (.cells #[b] T2))(n1:d0≠d1)(n2:d0≠d2)(n3:d1≠d2):
  (((((((w.setCell ⟨d0,0,none⟩ x).setCell ⟨d1,0,none⟩ x0).setCell ⟨d1,1,none⟩ x1).setCell ⟨d1,2,none⟩ x2).setCell ⟨d1,3,none⟩ x3).setCell ⟨d1,4,none⟩ x4).setCell ⟨d1,5,none⟩ x5).heap[d0]? =some (.cells #[x] T0)/\(((((((w.setCell ⟨d0,0,none⟩ x).setCell ⟨d1,0,none⟩ x0).setCell ⟨d1,1,none⟩ x1).setCell ⟨d1,2,none⟩ x2).setCell ⟨d1,3,none⟩ x3).setCell ⟨d1,4,none⟩ x4).setCell ⟨d1,5,none⟩ x5).heap[d1]? =some (.cells #[x0,x1,x2,x3,x4,x5] T1)/\(((((((w.setCell ⟨d0,0,none⟩ x).setCell ⟨d1,0,none⟩ x0).setCell ⟨d1,1,none⟩ x1).setCell ⟨d1,2,none⟩ x2).setCell ⟨d1,3,none⟩ x3).setCell ⟨d1,4,none⟩ x4).setCell ⟨d1,5,none⟩ x5).heap[d2]? =some (.cells #[b] T2):=by
 have q:=kQ (x:=x) (x0:=x0) (x1:=x1) (x2:=x2) (x3:=x3) (x4:=x4) (x5:=x5) (y:=b) h0 h1 h2 n1 n2 n3
 refine⟨(blk_setCell_other _ ⟨d2,0,none⟩ _ _ n2).symm.trans q.1,(blk_setCell_other _ ⟨d2,0,none⟩ _ _ n3).symm.trans q.2.1,?_⟩
 have k2:(w.setCell ⟨d0,0,none⟩ x).heap[d2]? =some (.cells #[b] T2):=(blk_setCell_other _ _ _ _ (Ne.symm n2)).trans h2
 rw[blk_setCell_other _ _ _ _ (Ne.symm n3),blk_setCell_other _ _ _ _ (Ne.symm n3),blk_setCell_other _ _ _ _ (Ne.symm n3),blk_setCell_other _ _ _ _ (Ne.symm n3),blk_setCell_other _ _ _ _ (Ne.symm n3),blk_setCell_other _ _ _ _ (Ne.symm n3),k2]
theorem ab_seven{V w:World}{d0 d1:Nat}{x x0 x1 x2 x3 x4 x5:Value}(h:Ab V w)(n0:V.heap.size<=d0)(n1:V.heap.size<=d1):Ab V (((((((w.setCell ⟨d0,0,none⟩ x).setCell ⟨d1,0,none⟩ x0).setCell ⟨d1,1,none⟩ x1).setCell ⟨d1,2,none⟩ x2).setCell ⟨d1,3,none⟩ x3).setCell ⟨d1,4,none⟩ x4).setCell ⟨d1,5,none⟩ x5):=
 ((((((h.setk n0 _).setk n1 _).setk n1 _).setk n1 _).setk n1 _).setk n1 _).setk n1 _
theorem cY{w:World}{b d0 d1 n:Nat}{t:TypeId}{f:Nat->Value}{x x0 x1 x2 x3 x4 x5:Value}(h:w.rowIs b t n f)(e0:b≠d0)(e:b≠d1):(((((((w.setCell ⟨d0,0,none⟩ x).setCell ⟨d1,0,none⟩ x0).setCell ⟨d1,1,none⟩ x1).setCell ⟨d1,2,none⟩ x2).setCell ⟨d1,3,none⟩ x3).setCell ⟨d1,4,none⟩ x4).setCell ⟨d1,5,none⟩ x5).rowIs b t n f:=rI (h.setOther e0 _) e
theorem eF{w:World}{b d0 d1 d2 n:Nat}{t:TypeId}{f:Nat->Value}{x x0 x1 x2 x3 x4 x5 y:Value}(h:w.rowIs b t n f)(e0:b≠d0)(e1:b≠d1)(e2:b≠d2):((((((((w.setCell ⟨d0,0,none⟩ x).setCell ⟨d1,0,none⟩ x0).setCell ⟨d1,1,none⟩ x1).setCell ⟨d1,2,none⟩ x2).setCell ⟨d1,3,none⟩ x3).setCell ⟨d1,4,none⟩ x4).setCell ⟨d1,5,none⟩ x5).setCell ⟨d2,0,none⟩ y).rowIs b t n f:=(cY h e0 e1).setOther e2 _
theorem ab_eight{V w:World}{d0 d1 d2:Nat}{x y x0 x1 x2 x3 x4 x5:Value}(h:Ab V w)(n0:V.heap.size<=d0)(n1:V.heap.size<=d1)(n2:V.heap.size<=d2):Ab V ((((((((w.setCell ⟨d0,0,none⟩ x).setCell ⟨d1,0,none⟩ x0).setCell ⟨d1,1,none⟩ x1).setCell ⟨d1,2,none⟩ x2).setCell ⟨d1,3,none⟩ x3).setCell ⟨d1,4,none⟩ x4).setCell ⟨d1,5,none⟩ x5).setCell ⟨d2,0,none⟩ y):=
 (((((((h.setk n0 _).setk n1 _).setk n1 _).setk n1 _).setk n1 _).setk n1 _).setk n1 _).setk n2 _
theorem tD{fn:Func}{p q r:Tmp}(h:fn.results= #[.cell p 3,.cell q 25,.cell r 28])(tmps:Array Value)(w:World)(d0 d1 d2:Nat)(x y:Int)(a0 a1 a2 a3 a4 a5:Value)(T0 T1 T2:TypeId)
  (hp:tmps.getD p undef=.pointer (some ⟨d0,0,none⟩)) (hq:tmps.getD q undef=.pointer (some ⟨d1,0,none⟩)) (hr:tmps.getD r undef=.pointer (some ⟨d2,0,none⟩))
  (h0:w.heap[d0]? =some (.cells #[.int .i64 x] T0)) (h1:w.heap[d1]? =some (.cells #[a0,a1,a2,a3,a4,a5] T1)) (h2:w.heap[d2]? =some (.cells #[.int .i64 y] T2)):
  (results fn tmps).run prog w=.ok (.tuple #[.int .i64 x,.agg #[a0,a1,a2,a3,a4,a5],.int .i64 y]) w:=by
 have hp':tmps[p]?.getD undef=.pointer (some ⟨d0,0,none⟩):=by simpa using hp
 have hq':tmps[q]?.getD undef=.pointer (some ⟨d1,0,none⟩):=by simpa using hq
 have hr':tmps[r]?.getD undef=.pointer (some ⟨d2,0,none⟩):=by simpa using hr
 have c0:=aA 0 h0
 have c2:=aA 0 h2
 obtain⟨c10,c11,c12,c13,c14,c15⟩:=aD h1
 simp[results,h,hp',hq',hr',asAddr,go_sem,c0,c2,c10,c11,c12,c13,c14,c15]
theorem qA(d0 d1 d2:Nat)(w:World):
  CallsD prog 26 #[.pointer (some ⟨d0,0,none⟩),.pointer (some ⟨d1,0,none⟩),.pointer (some ⟨d2,0,none⟩)] .returning w fun e u' w'=>e=.returned (.tuple #[])/\u'=.returning/\w'=w:=by
 refine callsD_of_wpS func26 rfl fun c₀ cs hu=> ?_
 apply wpS_seq
 apply wpS_region
 simp[wpOpsS,go_sem,recoverD,hu,ntmps26,Exit.thenS]
 apply wpS_seq
 apply wpS_region
 simp[wpOpsS,go_sem,Array.replicate,Exit.thenS]
 refine wpS_cond (t:=false) (by simp[Act.eval]) ?_
 simp only[Bool.false_eq_true,if_false]
 refine wpS_of_wp (wp_skip ?_)
 cases c₀
 simp_all [bodyPostS,results,results26]
theorem dec_good(p:Option Addr)(l c sd N M:Nat)(sk st:Int)(f0:Nat->Nat)(f1 f2:Nat->Int)(f3:Nat->Nat)(w:World)(hR: ∀v,Ab w v->Calls prog 28 #[.slice p l c] v fun e w'=> ∃t0 t1 t2 t3,e=.returned (.tuple #[.int .i64 (sd:Nat),.agg #[.slice (some ⟨t0,0,none⟩) N N,.slice (some ⟨t1,0,none⟩) N N,.slice (some ⟨t2,0,none⟩) N N,.slice (some ⟨t3,0,none⟩) M M,.int .i64 sk,.int .i64 st]])/\Ab v w'/\(v.heap.size<=t0/\v.heap.size<=t1/\v.heap.size<=t2/\v.heap.size<=t3)/\(t0≠t1/\t0≠t2/\t0≠t3/\t1≠t2/\t1≠t3/\t2≠t3)/\w'.rowIs t0 47 N (fun i=>.float .f64 (f0 i))/\w'.rowIs t1 2 N (fun i=>.int .i64 (f1 i))/\w'.rowIs t2 2 N (fun i=>.int .i64 (f2 i))/\w'.rowIs t3 47 M (fun i=>.float .f64 (f3 i))):
  Calls prog 8 #[.slice p l c] w fun e w'=> ∃t0 t1 t2 t3,e=.returned (.tuple #[.int .i64 (sd:Nat),.agg #[.slice (some ⟨t0,0,none⟩) N N,.slice (some ⟨t1,0,none⟩) N N,.slice (some ⟨t2,0,none⟩) N N,.slice (some ⟨t3,0,none⟩) M M,.int .i64 sk,.int .i64 st],.int .i64 0])/\Ab w w'/\(w.heap.size<=t0/\w.heap.size<=t1/\w.heap.size<=t2/\w.heap.size<=t3)/\(t0≠t1/\t0≠t2/\t0≠t3/\t1≠t2/\t1≠t3/\t2≠t3)/\w'.rowIs t0 47 N (fun i=>.float .f64 (f0 i))/\w'.rowIs t1 2 N (fun i=>.int .i64 (f1 i))/\w'.rowIs t2 2 N (fun i=>.int .i64 (f2 i))/\w'.rowIs t3 47 M (fun i=>.float .f64 (f3 i)):=by
 have hmf: ∀(fn:Fn) (first cap:Array Value) (w:World),(Instr.makeFunc fn first cap).run prog w=.ok (.func fn first cap) w:=fun _ _ _ _=>rfl
 have HR:=hid hR
 clear hR
 have e1:(w.alloc (.cells #[.int .i64 0] 3)).heap.size=w.heap.size+1:=hP _ _
 have e2:((w.alloc (.cells #[.int .i64 0] 3)).alloc (.cells #[.slice none 0 0,.slice none 0 0,.slice none 0 0,.slice none 0 0,.int .i64 0,.int .i64 0] 25)).heap.size=w.heap.size+1+1:=by rw[hP,e1]
 have A0:Hid (Ab w (((w.alloc (.cells #[.int .i64 0] 3)).alloc (.cells #[.slice none 0 0,.slice none 0 0,.slice none 0 0,.slice none 0 0,.int .i64 0,.int .i64 0] 25)).alloc (.cells #[.int .i64 0] 28))):=Ab.trans (bl2 _ _ _) (bl1 _ _)
 have D0:Hid ((((w.alloc (.cells #[.int .i64 0] 3)).alloc (.cells #[.slice none 0 0,.slice none 0 0,.slice none 0 0,.slice none 0 0,.int .i64 0,.int .i64 0] 25)).alloc (.cells #[.int .i64 0] 28)).heap[w.heap.size]? =some (.cells #[.int .i64 0] 3)):=Ab.heap (bl2 _ _ _) (heap_alloc_new _ _)
 have D1:Hid ((((w.alloc (.cells #[.int .i64 0] 3)).alloc (.cells #[.slice none 0 0,.slice none 0 0,.slice none 0 0,.slice none 0 0,.int .i64 0,.int .i64 0] 25)).alloc (.cells #[.int .i64 0] 28)).heap[w.heap.size+1]? =some (.cells #[.slice none 0 0,.slice none 0 0,.slice none 0 0,.slice none 0 0,.int .i64 0,.int .i64 0] 25)):=by
  have q:=Ab.heap (bl1 _ (.cells #[.int .i64 0] 28)) (heap_alloc_new (w.alloc (.cells #[.int .i64 0] 3)) (.cells #[.slice none 0 0,.slice none 0 0,.slice none 0 0,.slice none 0 0,.int .i64 0,.int .i64 0] 25))
  rw[e1]at q
  exact q
 have D2:Hid ((((w.alloc (.cells #[.int .i64 0] 3)).alloc (.cells #[.slice none 0 0,.slice none 0 0,.slice none 0 0,.slice none 0 0,.int .i64 0,.int .i64 0] 25)).alloc (.cells #[.int .i64 0] 28)).heap[w.heap.size+1+1]? =some (.cells #[.int .i64 0] 28)):=by
  have q:=heap_alloc_new ((w.alloc (.cells #[.int .i64 0] 3)).alloc (.cells #[.slice none 0 0,.slice none 0 0,.slice none 0 0,.slice none 0 0,.int .i64 0,.int .i64 0] 25)) (.cells #[.int .i64 0] 28)
  rw[e2]at q
  exact q
 clear e1 e2
 go_enter_defers func8,ntmps8
 go_upto_region 1 with fail
 generalize hV:World.alloc (World.alloc (World.alloc w _) _) _=v0 at*
 obtain⟨d0,h0⟩:=aB w.heap.size
 obtain⟨d1,h1⟩:=aB (w.heap.size+1)
 obtain⟨d2,h2⟩:=aB (w.heap.size+1+1)
 have LB:Hid ((w.heap.size<=d0/\w.heap.size<=d1/\w.heap.size<=d2)/\d0≠d1/\d0≠d2/\d1≠d2):=by
  refine⟨⟨?_,?_,?_⟩,?_,?_,?_⟩<;>omega
 rw[h2]at D2 ⊢
 rw[h1]at D1 ⊢
 rw[h0]at D0 ⊢
 clear hV h0 h1 h2
 go_wp2_with fail
 refine(HR.out _ A0.out).mono ?_
 rintro e9 v1 ⟨t0,t1,t2,t3,rfl,b1,l1,dj,r0,r1,r2,r3⟩
 have A1:Hid (Ab w v1):=A0.out.trans b1
 have E0:=hid (Ab.heap b1 D0.out)
 have E1:=hid (Ab.heap b1 D1.out)
 have E2:=hid (Ab.heap b1 D2.out)
 have k0:=lt_of_block D0.out
 have k1:=lt_of_block D1.out
 have k2:=lt_of_block D2.out
 have bs:=Below.size A0.out
 have LT:Hid ((w.heap.size<=t0/\w.heap.size<=t1/\w.heap.size<=t2/\w.heap.size<=t3)/\(t0≠t1/\t0≠t2/\t0≠t3/\t1≠t2/\t1≠t3/\t2≠t3)):=⟨⟨by omega,by omega,by omega,by omega⟩,dj⟩
 have N0:Hid (t0≠d0/\t0≠d1/\t0≠d2):=⟨by omega,by omega,by omega⟩
 have N1:Hid (t1≠d0/\t1≠d1/\t1≠d2):=⟨by omega,by omega,by omega⟩
 have N2:Hid (t2≠d0/\t2≠d1/\t2≠d2):=⟨by omega,by omega,by omega⟩
 have N3:Hid (t3≠d0/\t3≠d1/\t3≠d2):=⟨by omega,by omega,by omega⟩
 have R0:=hid r0
 have R1:=hid r1
 have R2:=hid r2
 have R3:=hid r3
 clear b1 l1 dj r0 r1 r2 r3 k0 k1 k2 bs A0 D0 D1 D2
 have c0:=aA 0 E0.out
 have g0:=aE E0.out 0
 have c10:=aA 0 E1.out
 have g10:=aE E1.out 0
 have c11:=aA 1 E1.out
 have g11:=aE E1.out 1
 have c12:=aA 2 E1.out
 have g12:=aE E1.out 2
 have c13:=aA 3 E1.out
 have g13:=aE E1.out 3
 have c14:=aA 4 E1.out
 have g14:=aE E1.out 4
 have c15:=aA 5 E1.out
 have g15:=aE E1.out 5
 have Q1:=hid (oP (x:=.int .i64 (sd:Nat)) (x0:=.slice (some ⟨t0,0,none⟩) N N) (x1:=.slice (some ⟨t1,0,none⟩) N N) (x2:=.slice (some ⟨t2,0,none⟩) N N) (x3:=.slice (some ⟨t3,0,none⟩) M M) (x4:=.int .i64 sk) (x5:=.int .i64 st) E0.out E1.out E2.out LB.out.2.1 LB.out.2.2.1 LB.out.2.2.2)
 have QA:=hid (ab_seven (x:=.int .i64 (sd:Nat)) (x0:=.slice (some ⟨t0,0,none⟩) N N) (x1:=.slice (some ⟨t1,0,none⟩) N N) (x2:=.slice (some ⟨t2,0,none⟩) N N) (x3:=.slice (some ⟨t3,0,none⟩) M M) (x4:=.int .i64 sk) (x5:=.int .i64 st) A1.out LB.out.1.1 LB.out.1.2.1)
 have S0:=hid (cY (x:=.int .i64 (sd:Nat)) (x0:=.slice (some ⟨t0,0,none⟩) N N) (x1:=.slice (some ⟨t1,0,none⟩) N N) (x2:=.slice (some ⟨t2,0,none⟩) N N) (x3:=.slice (some ⟨t3,0,none⟩) M M) (x4:=.int .i64 sk) (x5:=.int .i64 st) R0.out N0.out.1 N0.out.2.1)
 have S1:=hid (cY (x:=.int .i64 (sd:Nat)) (x0:=.slice (some ⟨t0,0,none⟩) N N) (x1:=.slice (some ⟨t1,0,none⟩) N N) (x2:=.slice (some ⟨t2,0,none⟩) N N) (x3:=.slice (some ⟨t3,0,none⟩) M M) (x4:=.int .i64 sk) (x5:=.int .i64 st) R1.out N1.out.1 N1.out.2.1)
 have S2:=hid (cY (x:=.int .i64 (sd:Nat)) (x0:=.slice (some ⟨t0,0,none⟩) N N) (x1:=.slice (some ⟨t1,0,none⟩) N N) (x2:=.slice (some ⟨t2,0,none⟩) N N) (x3:=.slice (some ⟨t3,0,none⟩) M M) (x4:=.int .i64 sk) (x5:=.int .i64 st) R2.out N2.out.1 N2.out.2.1)
 have S3:=hid (cY (x:=.int .i64 (sd:Nat)) (x0:=.slice (some ⟨t0,0,none⟩) N N) (x1:=.slice (some ⟨t1,0,none⟩) N N) (x2:=.slice (some ⟨t2,0,none⟩) N N) (x3:=.slice (some ⟨t3,0,none⟩) M M) (x4:=.int .i64 sk) (x5:=.int .i64 st) R3.out N3.out.1 N3.out.2.1)
 have n1:=LB.out.2.1
 have n2:=LB.out.2.2.1
 have n3:=LB.out.2.2.2
 go_upto_region 3 with fail
 generalize hV:World.setCell (World.setCell (World.setCell (World.setCell (World.setCell (World.setCell (World.setCell v1 _ _) _ _) _ _) _ _) _ _) _ _) _ _=v2 at*
 clear hV c0 g0 c10 c11 c12 c13 c14 c15 g10 g11 g12 g13 g14 g15 R0 R1 R2 R3 A1 E0 E1 E2
 have c0:=aA 0 Q1.out.1
 have g0:=aE Q1.out.1 0
 have c2:=aA 0 Q1.out.2.2
 have g2:=aE Q1.out.2.2 0
 have c10:=aA 0 Q1.out.2.1
 have g10:=aE Q1.out.2.1 0
 have c11:=aA 1 Q1.out.2.1
 have g11:=aE Q1.out.2.1 1
 have c12:=aA 2 Q1.out.2.1
 have g12:=aE Q1.out.2.1 2
 have c13:=aA 3 Q1.out.2.1
 have g13:=aE Q1.out.2.1 3
 have c14:=aA 4 Q1.out.2.1
 have g14:=aE Q1.out.2.1 4
 have c15:=aA 5 Q1.out.2.1
 have g15:=aE Q1.out.2.1 5
 go_wp2_with fail
 go_region
 go_wp2_with fail
 clear c0 g0 c2 g2 c10 c11 c12 c13 c14 c15 g10 g11 g12 g13 g14 g15
 have Q2:=kQ (x:=.int .i64 (sd:Nat)) (x0:=.slice (some ⟨t0,0,none⟩) N N) (x1:=.slice (some ⟨t1,0,none⟩) N N) (x2:=.slice (some ⟨t2,0,none⟩) N N) (x3:=.slice (some ⟨t3,0,none⟩) M M) (x4:=.int .i64 sk) (x5:=.int .i64 st) (y:=.int .i64 0) Q1.out.1 Q1.out.2.1 Q1.out.2.2 LB.out.2.1 LB.out.2.2.1 LB.out.2.2.2
 have QB:=ab_eight (x:=.int .i64 (sd:Nat)) (x0:=.slice (some ⟨t0,0,none⟩) N N) (x1:=.slice (some ⟨t1,0,none⟩) N N) (x2:=.slice (some ⟨t2,0,none⟩) N N) (x3:=.slice (some ⟨t3,0,none⟩) M M) (x4:=.int .i64 sk) (x5:=.int .i64 st) (y:=.int .i64 0) QA.out LB.out.1.1 LB.out.1.2.1 LB.out.1.2.2
 have P0:=eF (x:=.int .i64 (sd:Nat)) (x0:=.slice (some ⟨t0,0,none⟩) N N) (x1:=.slice (some ⟨t1,0,none⟩) N N) (x2:=.slice (some ⟨t2,0,none⟩) N N) (x3:=.slice (some ⟨t3,0,none⟩) M M) (x4:=.int .i64 sk) (x5:=.int .i64 st) (y:=.int .i64 0) S0.out N0.out.1 N0.out.2.1 N0.out.2.2
 have P1:=eF (x:=.int .i64 (sd:Nat)) (x0:=.slice (some ⟨t0,0,none⟩) N N) (x1:=.slice (some ⟨t1,0,none⟩) N N) (x2:=.slice (some ⟨t2,0,none⟩) N N) (x3:=.slice (some ⟨t3,0,none⟩) M M) (x4:=.int .i64 sk) (x5:=.int .i64 st) (y:=.int .i64 0) S1.out N1.out.1 N1.out.2.1 N1.out.2.2
 have P2:=eF (x:=.int .i64 (sd:Nat)) (x0:=.slice (some ⟨t0,0,none⟩) N N) (x1:=.slice (some ⟨t1,0,none⟩) N N) (x2:=.slice (some ⟨t2,0,none⟩) N N) (x3:=.slice (some ⟨t3,0,none⟩) M M) (x4:=.int .i64 sk) (x5:=.int .i64 st) (y:=.int .i64 0) S2.out N2.out.1 N2.out.2.1 N2.out.2.2
 have P3:=eF (x:=.int .i64 (sd:Nat)) (x0:=.slice (some ⟨t0,0,none⟩) N N) (x1:=.slice (some ⟨t1,0,none⟩) N N) (x2:=.slice (some ⟨t2,0,none⟩) N N) (x3:=.slice (some ⟨t3,0,none⟩) M M) (x4:=.int .i64 sk) (x5:=.int .i64 st) (y:=.int .i64 0) S3.out N3.out.1 N3.out.2.1 N3.out.2.2
 generalize World.setCell (World.setCell (World.setCell (World.setCell (World.setCell (World.setCell (World.setCell (World.setCell v2 _ _) _ _) _ _) _ _) _ _) _ _) _ _) _ _=v3 at*
 refine leaves_cons (f:=26) (args:= #[.pointer (some ⟨d0,0,none⟩),.pointer (some ⟨d1,0,none⟩),.pointer (some ⟨d2,0,none⟩)]) (by simp) (by simp[go_sem]) ?_
 refine(qA d0 d1 d2 _).mono ?_
 rintro e u' w9 ⟨rfl,rfl,rfl⟩
 show∃v,(results Tryz.f8 _).run prog _=.ok v _/\_
 refine⟨_,tD results8 _ _ d0 d1 d2 _ _ _ _ _ _ _ _ _ _ _ rfl rfl rfl (by rw[eD];exact Q2.1) (by rw[eD];exact Q2.2.1) (by rw[eD];exact Q2.2.2),?_⟩
 exact⟨t0,t1,t2,t3,rfl,QB.drew,LT.out.1,LT.out.2,dU P0,dU P1,dU P2,dU P3⟩
end Sv
end
section
open Go.RowKit Go.Deep Tf Cu
attribute [local go_sem] aF aG aI aJ aK aL aM aC
namespace Sv
def DecOK(N M sd:Nat)(F:Nat->Nat)(w:World)(e:Ending)(w':World):Prop:= ∃t0 t1 t2 t3,e=.returned (.tuple #[.int .i64 (sd:Nat),.agg #[.slice (some ⟨t0,0,none⟩) N N,.slice (some ⟨t1,0,none⟩) N N,.slice (some ⟨t2,0,none⟩) N N,.slice (some ⟨t3,0,none⟩) M M,.int .i64 (i64 (num F 13)),.int .i64 (i64 (num F 5))],.int .i64 0])/\Ab w w'/\(w.heap.size<=t0/\w.heap.size<=t1/\w.heap.size<=t2/\w.heap.size<=t3)/\(t0≠t1/\t0≠t2/\t0≠t3/\t1≠t2/\t1≠t3/\t2≠t3)/\w'.rowIs t0 47 N (fun i=>.float .f64 (dB F i))/\w'.rowIs t1 2 N (fun i=>.int .i64 (dW N F i))/\w'.rowIs t2 2 N (fun i=>.int .i64 (dT N F i))/\w'.rowIs t3 47 M (fun i=>.float .f64 (dS N F i))
theorem chk_in{n N M:Nat}{B:Nat->Nat}{W T:Nat->Int}{S:Nat->Nat}{sky st:Int}(hn:1<=n/\n<=32)(hN:6*n*n=N):Ss.chk (n:Nat) N N N M B W T S sky st=Ss.chN N N N N M B W T S sky st:=by
 unfold Ss.chk
 rw[if_pos (by omega),Int.toNat_natCast,hN]
theorem dec_yes(p:Option Addr)(l c n N M:Nat)(F:Nat->Nat)(w:World)(hl:l<=c/\c<=9223372036854775807)(hF:Ti.IsW .u8 256 w p l F)(he:derr l F=0)(hn:F 4=n)(hN:6*n*n=N)(hM:2*N=M):
  Calls prog 8 #[.slice p l c] w (DecOK N M n F w):=by
 have h1: ¬l<21:=fun h1=>by
  rw[show derr l F=31 from if_pos h1]at he
  omega
 obtain⟨g,o,rfl⟩:=hF.some0 (by omega)
 unfold derr at he
 rw[if_neg h1]at he
 by_cases hb:(F 0=84/\F 1=65/\F 2=82/\F 3=78)/\1<=F 4/\F 4<=32
 ·rw[if_neg (fun q=>q hb),hn,hN]at he
  by_cases h2:l<29+40*N
  ·rw[if_pos h2]at he
   omega
  ·rw[if_neg h2]at he
   by_cases h3:29+40*N<l
   ·rw[if_pos h3]at he
    omega
   ·rw[if_neg h3]at he
    by_cases h4:num F (21+40*N)≠smN F (21+40*N)
    ·rw[if_pos h4]at he
     omega
    ·rw[if_neg h4]at he
     have e0:21+N*8+N*8+N*8+M*8=21+40*N:=by omega
     have hb2:1<=n/\n<=32:=by rw[<- hn];exact hb.2
     have eW:(fun i=>i64 (num F (21+N*8+8*i)))=dW N F:=by funext i;unfold dW;congr 2;omega
     have eT:(fun i=>i64 (num F (21+N*8+N*8+8*i)))=dT N F:=by funext i;unfold dT;congr 2;omega
     have eS:(fun i=>num F (21+N*8+N*8+N*8+8*i))=dS N F:=by funext i;unfold dS;congr 1;omega
     refine(dec_good (some ⟨g,o,none⟩) l c n N M _ _ (dB F) (dW N F) (dT N F) (dS N F) w fun v a=> ?_).mono fun e w' q=>q
     have q:=read_ok g o l c F v hl (hF.below a) (by omega) (decide_eq_true hb.1) n N M (N*8) (M*8) hn hb2 hN hM rfl rfl (by omega) (by rw[e0];exact Decidable.of_not_not h4) (by
      rw[chk_in hb2 hN,eW,eT,eS,<- hM]
      exact he)
     refine q.mono fun e w' q=> ?_
     obtain⟨t0,t1,t2,t3,q1,q2,q3,q4,q5,q6,q7,q8⟩:=q
     refine⟨t0,t1,t2,t3,q1,q2,q3,q4,q5,?_,?_,?_⟩
     ·exact q6.congr fun i _=>congrArg (Value.int .i64) (congrFun eW i)
     ·exact q7.congr fun i _=>congrArg (Value.int .i64) (congrFun eT i)
     ·exact q8.congr fun i _=>congrArg (Value.float .f64) (congrFun eS i)
 ·rw[if_pos (fun q=>hb q)]at he
  omega
end Sv
end
section
open Go.RowKit Go.Deep Tf Cu
attribute [local go_sem] aF aG aI aJ aK aL aM aC
namespace Sv
theorem qC{ops:Array Oper}{rest:List Oper}{o:Oper}{a:Act}{w:World}{Q:Exit->Act->World->Prop}(hgd:o.guard=none)(s x:Operand)
  (ho:o.op=.call {callee:=.builtin .append,args:= #[s,x],argTypes:= #[27,9]})
  (B:Nat) (v:Value) (hs:a.eval s=v) (hown:T8.Own B v [] w) (hx:a.eval x=.string {data:= #[84,65,82,78]}) (hB:B<=w.heap.size)
  (h: ∀g cap w',T8.Own B (.slice (some ⟨g,0,none⟩) 4 cap) [84,65,82,78] w'->w.grownBy w' v.ownBlock->wpList prog ops Q rest (a.put o.dst (.slice (some ⟨g,0,none⟩) 4 cap)) w'):wpList prog ops Q (o :: rest) a w:=by
 obtain⟨i0,hi,hz⟩:=Option.map_eq_some_iff.1 Ti.hI
 simp only[Prod.mk.injEq]at hz
 obtain⟨hz0,hz1,hz2⟩:=hz
 refine Go.Lib.wpList_append_own_string w hgd s x _ _ ho B 5 i0 underlying27 underlying9 hi hz0 hz1 hz2 v 0 [] hs hown _ hx (by decide) (by decide) hB ?_
 intro v' w' o1 g1 e1
 have o2:w'.ownsRow B 5 1 v' 4 ([84,65,82,78].map fun x:Nat=>Value.int .u8 (x:Int)):=o1
 rcases o2.2 with⟨q,q2⟩ | ⟨g2,cap2,cur,q,_⟩
 ·have:=(e1.1 q).2
  cases this
 ·subst q
  exact h g2 cap2 w' o2 g1
theorem size_at(n N sz:Nat)(v:World)(hn:n<=32)(hN:6*n*n=N)(hs:29+40*N=sz):Calls prog 16 #[.int .i64 (n:Nat)] v fun e w'=>e=.returned (.int .i64 (sz:Nat))/\w'=v:=by
 have CC:=hid (fun w=>bR n N w hn hN)
 have CE:=hid (fun w=>oO n N (2*N) w hn hN rfl)
 have q5:N<=192*32:=by rw[<- hN];exact Nat.mul_le_mul (by omega) (by omega)
 have HN:=hid (show N<=6144/\29+40*N=sz from⟨by omega,hs⟩)
 obtain⟨M,hM⟩:=aB (2*N)
 have HM:=hid hM
 rw[hM]at CE
 have q6:(N:Int)<=6144:=by omega
 have q7:(M:Int)<=12288:=by omega
 clear hN hM hn q5 hs
 go_enter func16,ntmps16
 go_wp2_with (first
  | (go_at_call 49;refine(CC.out _).mono ?_;rintro e9 z1 ⟨rfl,hz⟩;have hz2:=hz.symm;subst hz2)
  | (go_at_call 50;refine(CE.out _).mono ?_;rintro e9 z1 ⟨rfl,hz⟩;have hz2:=hz.symm;subst hz2))
 go_ret
 exact⟨by show Ending.returned (Value.int .i64 _)=_;congr 2;have:=HN.out;have:=HM.out;omega,rfl⟩
theorem oQ{B C:Nat}{v:Value}{l:List Nat}{w:World}(h:T8.Own B v l w)(hc:C<=B):T8.Own C v l w:=by
 refine⟨h.1,?_⟩
 rcases h.2 with h0 | ⟨g,cap,cur,e,hb,h1⟩
 ·exact .inl h0
 ·exact .inr ⟨g,cap,cur,e,by omega,h1⟩
theorem make_u8(n:Nat)(hn:n<=1048576)(w:World):
  (Instr.makeSlice 27 (.int .i64 0) (.int .i64 (n:Nat))).run prog w=.ok (.slice (some ⟨w.heap.size,0,none⟩) 0 n) (w.alloc (.cells (madeCells #[.int .u8 0] n) 5)):=by
 obtain⟨i,hi,hzz⟩:=Option.map_eq_some_iff.1 Ti.hI
 simp only[Prod.mk.injEq]at hzz
 obtain⟨h1,h2,h3⟩:=hzz
 have h:=run_make (P:=prog) w 27 5 i (.int .u8 0) underlying27 hi h1 .i64 .i64 0 (n:Int) (by omega) (by omega) (by rw[h3];omega) (by omega)
 rw[h2,Nat.mul_one,Int.toNat_natCast]at h
 exact h
theorem tE(f:Nat->Nat)(a b:Nat):(List.range (a+b)).map f=(List.range a).map f++(List.range b).map fun i=>f (a+i):=by
 rw[List.range_add,List.map_append,List.map_map]
 rfl
theorem hQ(side:Nat)(ws:Nat->Nat)(j x:Nat)(hx:x=ws j):(List.range (5+8*j)).map (pre side ws)++by8 x 8=(List.range (5+8*(j+1))).map (pre side ws):=by
 have q:=tE (pre side ws) (5+8*j) 8
 rw[show 5+8*(j+1)=5+8*j+8 by omega,q]
 congr 1
 unfold by8
 exact List.map_congr_left fun i hi=>by rw[hx,oB (List.mem_range.1 hi)]
theorem fR(side:Nat)(ws:Nat->Nat)(j n:Nat)(f:Nat->Nat)(h: ∀i,i<n->f i=ws (j+i)):(List.range (5+8*j)).map (pre side ws)++flat f n=(List.range (5+8*(j+n))).map (pre side ws):=by
 induction n with
 | zero=>rw[show flat f 0=[]from rfl,List.append_nil];rfl
 | succ n ih=>rw[gH,<- List.append_assoc,ih (fun i hi=>h i (by omega)),hQ side ws (j+n) _ (h n (by omega))];rfl
theorem tF(side:Nat)(ws:Nat->Nat):[84,65,82,78,side]=(List.range (5+8*0)).map (pre side ws):=rfl
theorem oS(n N:Nat)(B:Nat->Nat)(W T:Nat->Int)(S:Nat->Nat)(sky st:Int):
  [84,65,82,78,n]++by8 (u64 st) 8++by8 (u64 sky) 8++flat B N++flat (fun i=>u64 (W i)) N++flat (fun i=>u64 (T i)) N++flat S (2*N)=(List.range (21+40*N)).map (pre n (wdA n N B W T S sky st)):=by
 have w: ∀j,j<2+5*N->wdA n N B W T S sky st j=wds N B W T S sky st j:=fun j hj=>by unfold wdA;rw[if_pos hj]
 obtain⟨ws,hws⟩:=aB (wdA n N B W T S sky st)
 rw[hws]at w ⊢
 rw[tF n ws,hQ n ws 0 _ (by rw[w 0 (by omega)];rfl),hQ n ws 1 _ (by rw[w 1 (by omega)];rfl)]
 rw[fR n ws 2 N B (fun i hi=>by rw[w _ (by omega)];unfold wds;rw[if_neg (by omega),if_neg (by omega),if_pos (by omega),show 2+i - 2=i by omega])]
 rw[fR n ws (2+N) N (fun i=>u64 (W i)) (fun i hi=>by rw[w _ (by omega)];unfold wds;rw[if_neg (by omega),if_neg (by omega),if_neg (by omega),if_pos (by omega),show 2+N+i - 2 - N=i by omega])]
 rw[fR n ws (2+N+N) N (fun i=>u64 (T i)) (fun i hi=>by rw[w _ (by omega)];unfold wds;rw[if_neg (by omega),if_neg (by omega),if_neg (by omega),if_neg (by omega),if_pos (by omega),show 2+N+N+i - 2 - 2*N=i by omega])]
 rw[fR n ws (2+N+N+N) (2*N) S (fun i hi=>by rw[w _ (by omega)];unfold wds;rw[if_neg (by omega),if_neg (by omega),if_neg (by omega),if_neg (by omega),if_neg (by omega),show 2+N+N+N+i - 2 - 3*N=i by omega])]
 rw[show 5+8*(2+N+N+N+2*N)=21+40*N by omega]
theorem rJ(n N x:Nat)(B:Nat->Nat)(W T:Nat->Int)(S:Nat->Nat)(sky st:Int)(hx:x=smN (pre n (wdA n N B W T S sky st)) (21+40*N)):
  (List.range (21+40*N)).map (pre n (wdA n N B W T S sky st))++by8 x 8=(List.range (29+40*N)).map (enc n N B W T S sky st):=by
 have e:21+40*N=5+8*(2+5*N):=by omega
 have k:x=wdA n N B W T S sky st (2+5*N):=by
  rw[hx]
  show _=if _ then _ else _
  rw[if_neg (by omega)]
  exact cW _ fun i hi=>rC hi
 rw[e,hQ n _ _ _ k,show 5+8*(2+5*N+1)=29+40*N by omega]
 rfl
theorem own_w{B g k cp:Nat}{l:List Nat}{w:World}(h:T8.Own B (.slice (some ⟨g,0,none⟩) k cp) l w)(hk:l.length=k)(hl: ∀x ∈ l,x<256):Ti.IsW .u8 256 w (some ⟨g,0,none⟩) k (fun j=>l.getD j 0):=by
 obtain⟨a0,cap,e,i,_,_⟩:=h.at hl
 injection e with e1 e2 e3
 subst e1
 rw[hk]at i
 exact i
theorem fS(f:Nat->Nat)(n i:Nat)(hi:i<n):((List.range n).map f).getD i 0=f i:=by simp[hi]
theorem tG(z:Value)(n:Nat):(madeCells #[z] n).size=n:=by
 simp[madeCells]
theorem enc_no(side:Int)(pb:Option Addr)(lb cb:Nat)(B:Nat->Nat)(pw:Option Addr)(lw cw:Nat)(W:Nat->Int)(pt:Option Addr)(lt ct:Nat)(T:Nat->Int)(ps:Option Addr)(ls cs:Nat)(S:Nat->Nat)(sky st:Int)(w:World)(i1:IsFl w pb lb B)(i2:Sh.IsI w pw lw W)(i3:Sh.IsI w pt lt T)(i4:IsFl w ps ls S)(hc:(Ss.chk side lb lw lt ls B W T S sky st).2≠0):
  Calls prog 6 #[.int .i64 side,.agg #[.slice pb lb cb,.slice pw lw cw,.slice pt lt ct,.slice ps ls cs,.int .i64 sky,.int .i64 st]] w fun e w'=>e=.returned (.tuple #[.slice none 0 0,.int .i64 (Ss.chk side lb lw lt ls B W T S sky st).2])/\Ab w w':=by
 have I1:=hid i1
 have I2:=hid i2
 have I3:=hid i3
 have I4:=hid i4
 have CK:=hid (fun v (a:Ab w v)=>Ss.jK side pb lb cb B pw lw cw W pt lt ct T ps ls cs S sky st v (i1.below a) (i2.below a) (i3.below a) (i4.below a))
 obtain⟨A0,R0⟩:=aN w (.cells #[.slice pb lb cb,.slice pw lw cw,.slice pt lt ct,.slice ps ls cs,.int .i64 sky,.int .i64 st] 25)
 obtain⟨x1,hx1⟩:=aB ((Ss.chk side lb lw lt ls B W T S sky st).1)
 obtain⟨x2,hx2⟩:=aB ((Ss.chk side lb lw lt ls B W T S sky st).2)
 rw[hx1,hx2]at CK
 rw[hx2]at hc
 rw[hx2]
 have n2:(x2 != 0)=true:=by simpa using hc
 clear hx1 hx2 i1 i2 i3 i4
 go_enter func6,ntmps6
 go_upto_region 1 with fail
 generalize hV:World.alloc w _=v0 at*
 obtain⟨s,hs⟩:=aB w.heap.size
 rw[hs]at R0 ⊢
 clear hV hs
 have y0:=aD R0.out
 go_wp2_with fail
 refine(CK.out v0 A0.out).mono ?_
 rintro e9 v1 ⟨rfl,b1⟩
 have A1:Hid (Ab w v1):=A0.out.trans b1
 have R1:=hid (Ab.heap b1 R0.out)
 clear b1 A0 R0 y0 CK
 go_wp2_with fail
 (try simp only[Exit.inBlock,Exit.then])
 exact bodyPost_ret (results_tmp2 rfl _ _ _) rfl ⟨rfl,A1.out⟩
theorem rK(side:Int)(pb:Option Addr)(lb cb:Nat)(B:Nat->Nat)(pw:Option Addr)(lw cw:Nat)(W:Nat->Int)(pt:Option Addr)(lt ct:Nat)(T:Nat->Int)(ps:Option Addr)(ls cs:Nat)(S:Nat->Nat)(sky st:Int)(w:World)(i1:IsFl w pb lb B)(i2:Sh.IsI w pw lw W)(i3:Sh.IsI w pt lt T)(i4:IsFl w ps ls S)(n N M L:Nat)(hs:side=(n:Nat))(hc:(Ss.chk side lb lw lt ls B W T S sky st).2=0)(hn:1<=n/\n<=32)(hN:6*n*n=N)(hM:2*N=M)(hL:29+40*N=L)(hl:lb=N/\lw=N/\lt=N/\ls=M):
  Calls prog 6 #[.int .i64 side,.agg #[.slice pb lb cb,.slice pw lw cw,.slice pt lt ct,.slice ps ls cs,.int .i64 sky,.int .i64 st]] w fun e w'=> ∃g cp,e=.returned (.tuple #[.slice (some ⟨g,0,none⟩) L cp,.int .i64 0])/\Ab w w'/\T8.Own w.heap.size (.slice (some ⟨g,0,none⟩) L cp) ((List.range L).map (enc n N B W T S sky st)) w':=by
 have I1:=hid i1
 have I2:=hid i2
 have I3:=hid i3
 have I4:=hid i4
 have CK:=hid (fun v (a:Ab w v)=>Ss.jK side pb lb cb B pw lw cw W pt lt ct T ps ls cs S sky st v (i1.below a) (i2.below a) (i3.below a) (i4.below a))
 obtain⟨A0,R0⟩:=aN w (.cells #[.slice pb lb cb,.slice pw lw cw,.slice pt lt ct,.slice ps ls cs,.int .i64 sky,.int .i64 st] 25)
 obtain⟨x1,hx1⟩:=aB ((Ss.chk side lb lw lt ls B W T S sky st).1)
 obtain⟨x2,hx2⟩:=aB ((Ss.chk side lb lw lt ls B W T S sky st).2)
 rw[hx1,hx2]at CK
 rw[hx2]at hc
 subst hc
 obtain⟨l1,l2,l3,l4⟩:=hl
 have l1:=l1.symm
 have l2:=l2.symm
 have l3:=l3.symm
 have l4:=l4.symm
 subst l1 l2 l3 l4
 subst hs
 have NB:Hid (1<=n/\n<=32/\N<=6144/\2*N=M/\29+40*N=L):=by
  have q5:N<=192*32:=by rw[<- hN];exact Nat.mul_le_mul (by omega) (by omega)
  exact⟨hn.1,hn.2,by omega,hM,hL⟩
 have CS:=hid (fun v=>size_at n N L v hn.2 hN hL)
 have n0:(0:Int)<=(n:Int):=by omega
 have n1:(n:Int)<256:=by omega
 have e1:=cH st
 have e2:=cH sky
 obtain⟨z1,hz1⟩:=aB (u64 st)
 obtain⟨z2,hz2⟩:=aB (u64 sky)
 rw[hz1]at e1
 rw[hz2]at e2
 have HZ:=hid (show u64 st=z1/\u64 sky=z2 from⟨hz1,hz2⟩)
 have M1: ∀v:World,(Instr.makeSlice 27 (.int .i64 0) (.int .i64 (L:Nat))).run prog v=.ok (.slice (some ⟨v.heap.size,0,none⟩) 0 L) (v.alloc (.cells (madeCells #[.int .u8 0] L) 5)):=fun v=>make_u8 L (by have:=NB.out;omega) v
 clear hx1 hx2 i1 i2 i3 i4 hn hN hM hL hz1 hz2
 go_enter func6,ntmps6
 go_upto_region 1 with fail
 generalize hV:World.alloc w _=v0 at*
 obtain⟨s,hs⟩:=aB w.heap.size
 rw[hs]at R0 ⊢
 clear hV hs
 have y0:=aD R0.out
 go_wp2_with fail
 refine(CK.out v0 A0.out).mono ?_
 rintro e9 v1 ⟨rfl,b1⟩
 have A1:Hid (Ab w v1):=A0.out.trans b1
 have R1:=hid (Ab.heap b1 R0.out)
 clear b1 A0 R0 y0 CK
 have y0:=aD R1.out
 have O2:Hid (T8.Own v1.heap.size (.slice (some ⟨v1.heap.size,0,none⟩) 0 L) [] (v1.alloc (.cells (madeCells #[.int .u8 0] L) 5))):=World.ownsRow_made v1 _ L (Nat.le_refl _) (by have:=NB.out;unfold maxLen;omega) (by rw[tG];simp)
 have A2:=cZ (bl1 v1 (.cells (madeCells #[.int .u8 0] L) 5))
 go_upto_region 5 with(go_at_call 16;refine(CS.out _).mono ?_;rintro e9 z1 ⟨rfl,hz⟩;have hz2:=hz.symm;subst hz2)
 generalize hV:World.alloc v1 _=v2 at*
 clear hV M1
 go_upto_region 6 with(at_builtin;refine qC rfl (.tmp 21) (.const (.string {data:= #[84,65,82,78]})) rfl v1.heap.size _ rfl O2.out rfl (Below.size A2.out) ?_;intro g3 c3 v3 o3 q3)
 have A3:Hid (Ab v1 v3):=bE A2.out q3 (fun b hb=>by cases hb;exact O2.out.row.1)
 have O3:=hid o3
 clear o3 q3 A2 O2 y0
 have KB:=hid (show v1.heap.size<=v3.heap.size from Below.size A3.out)
 go_upto_region 7 with(at_builtin;refine T8.aZ rfl (.tmp 23) (.tmp 26) rfl v1.heap.size _ [84,65,82,78] rfl (O3.out.alloc _) ⟨v3.heap.size,0,none⟩ 1 1 [n] rfl rfl (dR v3 n _ rfl) (by decide) (by decide) (by have:=KB.out;simp;omega) 5 rfl ?_;intro g4 c4 v4 o4 q4 e4 l4)
 have A4:Hid (Ab v1 v4):=bE (A3.out.trans (bl1 _ _)) q4 (fun b hb=>by cases hb;exact O3.out.row.1)
 have O4:Hid (T8.Own v1.heap.size (.slice (some ⟨g4,0,none⟩) 5 c4) [84,65,82,78,n] v4):=o4
 clear o4 q4 e4 l4 A3 O3 KB
 have y:=aA 5 (Ab.heap A4.out R1.out)
 have CP:=hid (fP v1 g4 5 c4 (13) z1 ([84,65,82,78,n]) v4 A4.out O4.out (by simp) rfl (by decide))
 go_upto_region 8 with(go_at_call 17;refine CP.out.mono ?_;rintro e9 v5 ⟨g5,c5,rfl,a5,o5⟩)
 have A5:=hid a5
 have O5:=hid o5
 clear a5 o5 CP A4 O4 y
 have y:=aA 4 (Ab.heap A5.out R1.out)
 have CP:=hid (fP v1 g5 13 c5 (21) z2 ([84,65,82,78,n]++by8 z1 8) v5 A5.out O5.out (by simp[aP]) rfl (by decide))
 go_upto_region 9 with(go_at_call 17;refine CP.out.mono ?_;rintro e9 v6 ⟨g6,c6,rfl,a6,o6⟩)
 have A6:=hid a6
 have O6:=hid o6
 clear a6 o6 CP A5 O5 y
 have y:=aA 0 (Ab.heap A6.out R1.out)
 have CP:=hid (oI v1 g6 (21) c6 (21+8*N) N ([84,65,82,78,n]++by8 z1 8++by8 z2 8) pb cb B v6 A6.out O6.out (by simp[aP]) (by have:=NB.out;omega) (by have:=NB.out;omega) (I1.out.below A1.out))
 go_upto_region 10 with(go_at_call 18;refine CP.out.mono ?_;rintro e9 v7 ⟨g7,c7,rfl,a7,o7⟩)
 have A7:=hid a7
 have O7:=hid o7
 clear a7 o7 CP A6 O6 y
 have y:=aA 1 (Ab.heap A7.out R1.out)
 have CP:=hid (oJ v1 g7 (21+8*N) c7 (21+16*N) N ([84,65,82,78,n]++by8 z1 8++by8 z2 8++flat B N) pw cw W v7 A7.out O7.out (by simp[aP,bG];have:=NB.out;omega) (by have:=NB.out;omega) (by have:=NB.out;omega) (I2.out.below A1.out))
 go_upto_region 11 with(go_at_call 20;refine CP.out.mono ?_;rintro e9 v8 ⟨g8,c8,rfl,a8,o8⟩)
 have A8:=hid a8
 have O8:=hid o8
 clear a8 o8 CP A7 O7 y
 have y:=aA 2 (Ab.heap A8.out R1.out)
 have CP:=hid (oJ v1 g8 (21+16*N) c8 (21+24*N) N ([84,65,82,78,n]++by8 z1 8++by8 z2 8++flat B N++flat (fun i=>u64 (W i)) N) pt ct T v8 A8.out O8.out (by simp[aP,bG];have:=NB.out;omega) (by have:=NB.out;omega) (by have:=NB.out;omega) (I3.out.below A1.out))
 go_upto_region 12 with(go_at_call 20;refine CP.out.mono ?_;rintro e9 v9 ⟨g9,c9,rfl,a9,o9⟩)
 have A9:=hid a9
 have O9:=hid o9
 clear a9 o9 CP A8 O8 y
 have y:=aA 3 (Ab.heap A9.out R1.out)
 have CP:=hid (oI v1 g9 (21+24*N) c9 (21+40*N) M ([84,65,82,78,n]++by8 z1 8++by8 z2 8++flat B N++flat (fun i=>u64 (W i)) N++flat (fun i=>u64 (T i)) N) ps cs S v9 A9.out O9.out (by simp[aP,bG];have:=NB.out;omega) (by have:=NB.out;omega) (by have:=NB.out;omega) (I4.out.below A1.out))
 go_upto_region 13 with(go_at_call 18;refine CP.out.mono ?_;rintro e9 v10 ⟨g10,c10,rfl,a10,o10⟩)
 have A10:=hid a10
 have O10:=hid o10
 clear a10 o10 CP A9 O9 y
 have EL:Hid ([84,65,82,78,n]++by8 z1 8++by8 z2 8++flat B N++flat (fun i=>u64 (W i)) N++flat (fun i=>u64 (T i)) N++flat S M=(List.range (21+40*N)).map (pre n (wdA n N B W T S sky st))):=by
  have q:=oS n N B W T S sky st
  rw[HZ.out.1,HZ.out.2,NB.out.2.2.2.1]at q
  exact q
 rw[EL.out]at O10
 obtain⟨XL,hXL⟩:=aB ((List.range (21+40*N)).map (pre n (wdA n N B W T S sky st)))
 rw[hXL]at O10
 have XP:Hid (XL.length=21+40*N/\(∀x ∈ XL,x<256)/\ ∀i,i<21+40*N->XL.getD i 0=pre n (wdA n N B W T S sky st) i):=by
  subst hXL
  refine⟨by simp,fun x hx=> ?_,fun i hi=>fS _ _ _ hi⟩
  obtain⟨i,_,rfl⟩:=List.mem_map.1 hx
  exact pS (by have:=NB.out;omega)
 have CSM:=hid (pW (some ⟨g10,0,none⟩) (21+40*N) c10 _ v10 (by have:=NB.out;omega) (own_w O10.out XP.out.1 XP.out.2.1))
 have SE:Hid (smN (fun j=>XL.getD j 0) (21+40*N)=smN (pre n (wdA n N B W T S sky st)) (21+40*N)):=cW _ XP.out.2.2
 obtain⟨sm,hsm⟩:=aB (smN (fun j=>XL.getD j 0) (21+40*N))
 rw[hsm]at CSM SE
 obtain⟨q,hq⟩:=aB (21+40*N)
 have CP:=hid (fP v1 g10 (21+40*N) c10 L sm XL v10 A10.out O10.out XP.out.1 (by have:=NB.out;omega) (by have:=NB.out;omega))
 have HX:=hid hXL
 rw[hq]at CSM CP ⊢
 clear EL hXL hsm O10
 go_wp2_with (first
  | (go_at_call 11;refine CSM.out.mono ?_;rintro e9 z9 ⟨rfl,hz⟩;have hz2:=hz.symm;subst hz2)
  | (go_at_call 17;refine CP.out.mono ?_;rintro e9 v11 ⟨g11,c11,rfl,a11,o11⟩))
 (try simp only[Exit.inBlock,Exit.then])
 refine bodyPost_ret (results_tmp2 rfl _ _ _) rfl ⟨g11,c11,rfl,A1.out.trans a11,?_⟩
 rw[<- HX.out,rJ n N sm B W T S sky st SE.out,NB.out.2.2.2.2]at o11
 exact oQ o11 (Below.size A1.out)
end Sv
end
end Go.Proofs.YtlmfpikhlcnjjaaGreatDoor
