/-
  Some of the texts of this proof, one behind the other.
-/
import Derived.Defers
import Derived.Recover
import Derived.Test.YtlmfpikhlcnjjaaGreatDoorSk10
set_option maxRecDepth 100000
set_option maxHeartbeats 400000000
namespace Go.Proofs.YtlmfpikhlcnjjaaGreatDoor
open _root_.Go.Proofs.Tryz
section
open Go.RowKit Go.Deep Tf Cu
attribute [local go_sem] aF aG aI aJ aK aL aM aD
namespace Sv
theorem eZ(X:World):X.drew.heap=X.heap:=rfl
theorem eL{w:World}{b n:Nat}{t:TypeId}{f:Nat->Value}(h:w.rowIs b t n f):w.drew.rowIs b t n f:=h.of_block rfl
theorem rW{w:World}{b d n:Nat}{t:TypeId}{f:Nat->Value}{x0 x1 x2 x3 x4 x5:Value}(h:w.rowIs b t n f)(e:b≠d):((((((w.setCell ⟨d,0,none⟩ x0).setCell ⟨d,1,none⟩ x1).setCell ⟨d,2,none⟩ x2).setCell ⟨d,3,none⟩ x3).setCell ⟨d,4,none⟩ x4).setCell ⟨d,5,none⟩ x5).rowIs b t n f:=
 (((((h.setOther e _).setOther e _).setOther e _).setOther e _).setOther e _).setOther e _
theorem gH{w:World}{b d n:Nat}{t:TypeId}{f:Nat->Value}{x0 x1 x2 x3 x4 x5:Value}(h:w.rowIs b t n f)(e:b≠d):((((((w.setCell ⟨d,0,none⟩ x0).setCell ⟨d,1,none⟩ x1).setCell ⟨d,2,none⟩ x2).setCell ⟨d,3,none⟩ x3).setCell ⟨d,4,none⟩ x4).setCell ⟨d,5,none⟩ x5).drew.rowIs b t n f:=eL (rW h e)
theorem row6d{w:World}{d:Nat}{a0 a1 a2 a3 a4 a5 x0 x1 x2 x3 x4 x5:Value}{T:TypeId}(h:w.heap[d]? =some (.cells #[a0,a1,a2,a3,a4,a5] T)):((((((w.setCell ⟨d,0,none⟩ x0).setCell ⟨d,1,none⟩ x1).setCell ⟨d,2,none⟩ x2).setCell ⟨d,3,none⟩ x3).setCell ⟨d,4,none⟩ x4).setCell ⟨d,5,none⟩ x5).drew.heap[d]? =some (.cells #[x0,x1,x2,x3,x4,x5] T):=by rw[eZ];exact gZ h
theorem ab_six{V w:World}{d:Nat}{x0 x1 x2 x3 x4 x5:Value}(h:Ab V w)(hd:V.heap.size<=d):Ab V ((((((w.setCell ⟨d,0,none⟩ x0).setCell ⟨d,1,none⟩ x1).setCell ⟨d,2,none⟩ x2).setCell ⟨d,3,none⟩ x3).setCell ⟨d,4,none⟩ x4).setCell ⟨d,5,none⟩ x5).drew:=Ab.drew ((((((h.setk hd _).setk hd _).setk hd _).setk hd _).setk hd _).setk hd _)
theorem read_chk(g o l c:Nat)(F:Nat->Nat)(w:World)(hl:l<=c/\c<=9223372036854775807)(hF:Ti.IsW .u8 256 w (some ⟨g,o,none⟩) l F)(hl21:21<=l)(hm:decide (F 0=84/\F 1=65/\F 2=82/\F 3=78)=true)(n N M a b:Nat)(h4:F 4=n)(hn:1<=n/\n<=32)(hN:6*n*n=N)(hM:2*N=M)(ha:N*8=a)(hb:M*8=b)(hk:21+a+a+a+b+8=l)(hs:num F (21+a+a+a+b)=smN F (21+a+a+a+b))(x:Int)(hx:(Ss.chk (n:Nat) N N N M (fun i=>num F (21+8*i)) (fun i=>i64 (num F (21+a+8*i))) (fun i=>i64 (num F (21+a+a+8*i))) (fun i=>num F (21+a+a+a+8*i)) (i64 (num F 13)) (i64 (num F 5))).2=x)(h0:x≠0):Calls prog 28 #[.slice (some ⟨g,o,none⟩) l c] w fun e w'=>e=.panicked [{v:=.iface 28 (.int .i64 x),recovered:=false}]/\Ab w w':=by
 have LK:=hid hk
 have LE:=hid (show 21+a+a+a+b<=l by omega)
 have HS:=hid hs
 have HXX:=hid hx
 have H0:=hid h0
 clear hk hs hx h0
 have NE:Hid (1<=N/\N<=6144):=by
  have q5:N<=192*32:=by rw[<- hN];exact Nat.mul_le_mul (by omega) (by omega)
  have q6:6*1*1<=N:=by rw[<- hN];exact Nat.mul_le_mul (Nat.mul_le_mul (Nat.le_refl 6) hn.1) hn.1
  exact⟨by omega,by omega⟩
 have HN:=hid (show 2*N=M/\N*8=a/\M*8=b/\21<=l/\1<=n/\n<=32 from⟨hM,ha,hb,hl21,hn.1,hn.2⟩)
 have CC:=hid (fun v=>aZ n N v hn.2 hN)
 have CE:=hid (fun v=>cF n N M v hn.2 hN hM)
 have GL:Hid (g<w.heap.size):=(hF.at0 (k:=0) (by omega)).2.1
 have HM:=hid (show F 4=n/\decide (F 0=84/\F 1=65/\F 2=82/\F 3=78)=true from⟨h4,hm⟩)
 obtain⟨sk,hsk⟩:=aB (i64 (num F 13))
 obtain⟨st,hst⟩:=aB (i64 (num F 5))
 have HX:=hid (show i64 (num F 13)=sk/\i64 (num F 5)=st from⟨hsk,hst⟩)
 clear h4 hm hn hN hM ha hb hl21 hsk hst
 have HF:=hid hF
 have HL:=hid hl
 clear hl hF
 have A0:=bG (bl2 w (.cells #[.slice none 0 0,.slice none 0 0,.slice none 0 0,.slice none 0 0,.int .i64 0,.int .i64 0] 25) (.cells #[.slice (some ⟨g,o,none⟩) l c] 82))
 have D0:Hid (((w.alloc (.cells #[.slice none 0 0,.slice none 0 0,.slice none 0 0,.slice none 0 0,.int .i64 0,.int .i64 0] 25)).alloc (.cells #[.slice (some ⟨g,o,none⟩) l c] 82)).heap[w.heap.size]? =some (.cells #[.slice none 0 0,.slice none 0 0,.slice none 0 0,.slice none 0 0,.int .i64 0,.int .i64 0] 25)):=Ab.heap (bl1 _ _) (heap_alloc_new _ _)
 have R0:Hid (RD (w.heap.size+1) g o l c 0 ((w.alloc (.cells #[.slice none 0 0,.slice none 0 0,.slice none 0 0,.slice none 0 0,.int .i64 0,.int .i64 0] 25)).alloc (.cells #[.slice (some ⟨g,o,none⟩) l c] 82))):=by
  have q:=RD.new (w.alloc (.cells #[.slice none 0 0,.slice none 0 0,.slice none 0 0,.slice none 0 0,.int .i64 0,.int .i64 0] 25)) g o l c
  rw[show(w.alloc (.cells #[.slice none 0 0,.slice none 0 0,.slice none 0 0,.slice none 0 0,.int .i64 0,.int .i64 0] 25)).heap.size=w.heap.size+1 from bT _ _]at q
  exact q
 go_enter func28,ntmps28
 go_upto_region 2 with fail
 generalize hV:World.alloc (World.alloc w _) _=v0 at*
 obtain⟨d,hd⟩:=aB w.heap.size
 obtain⟨r,hr⟩:=aB (w.heap.size+1)
 have LB:Hid (w.heap.size<=d/\w.heap.size<=r/\d<r):=by
  refine⟨?_,?_,?_⟩<;>omega
 rw[hr]at R0 ⊢
 rw[hd]at D0 ⊢
 clear hV hd hr
 have F0:=hid (HF.out.below A0.out)
 have NG:Hid (g≠r):=by have:=LB.out;have:=GL.out;show _≠_;omega
 have CH:=hid (cX r g o l c F v0 R0.out ⟨by have:=HN.out;omega,HL.out.1⟩ NG.out F0.out HM.out.2 n HM.out.1 ⟨by have:=HN.out;omega,by have:=HN.out;omega⟩)
 rw[HX.out.1,HX.out.2]at CH
 go_wp2_with fail
 refine CH.out.mono ?_
 rintro e9 v1 ⟨rfl,a1,r1⟩
 have A1:Hid (Ab w v1):=cJ A0.out a1 LB.out.2.1
 have D1:Hid (v1.heap[d]? =some (.cells #[.slice none 0 0,.slice none 0 0,.slice none 0 0,.slice none 0 0,.int .i64 0,.int .i64 0] 25)):=by
  show _=_
  rw[a1.2.2.2.2 d (lt_of_block D0.out) (by have:=LB.out;omega)]
  exact D0.out
 have R1:=hid r1
 clear a1 r1 CH A0 D0 R0 F0
 obtain⟨X2,S2⟩:=aH v1 (.cells #[.slice none 0 0,.slice none 0 0,.slice none 0 0,.slice none 0 0,.int .i64 sk,.int .i64 st] 25)
 have T2:Hid (ST w r v1.heap.size d g o l c 21 (.slice none 0 0) (.slice none 0 0) (.slice none 0 0) (.slice none 0 0) sk st (v1.alloc (.cells #[.slice none 0 0,.slice none 0 0,.slice none 0 0,.slice none 0 0,.int .i64 sk,.int .i64 st] 25))):=by
  have le:w.heap.size<=v1.heap.size:=Below.size A1.out
  have dl:=lt_of_block D1.out
  have rl:=R1.out.lt
  exact⟨A1.out.trans X2.out,R1.out.to X2.out,S2.out,X2.out.heap D1.out,LB.out.2.1,le,LB.out.1,by omega,by have:=LB.out;omega,by omega⟩
 have ss: ∃s,v1.heap.size=s:=⟨_,rfl⟩
 go_upto_region 3 with fail
 generalize hV:World.alloc v1 _=v2 at*
 obtain⟨s,hs⟩:=ss
 rw[hs]at T2 ⊢
 clear hV hs X2 S2 A1 D1 R1
 have F2:=hid (HF.out.below T2.out.1)
 have CT:=hid (bO r g o l c (21) N a F v2 T2.out.2.1 (by have:=HN.out;omega) ⟨by have:=NE.out;have:=HN.out;omega,by have:=NE.out;have:=HN.out;omega⟩ (by have:=HN.out;have:=LE.out;omega) HL.out.1 NG.out F2.out)
 go_wp2_with (go_at_call 49;refine(CC.out _).mono ?_;rintro e9 z9 ⟨rfl,hz⟩;have hz2:=hz.symm;subst hz2)
 refine CT.out.mono ?_
 rintro e9 u2 ⟨t0,rfl,a1,r1,l1,n1⟩
 have U2:=hid (T2.out.abo a1 r1)
 have L0:Hid (w.heap.size<=t0/\t0≠r/\t0≠s/\t0≠d):=by
  have q1:=T2.out.lt
  have q2:=Below.size T2.out.1
  exact⟨by omega,by omega,by omega,by omega⟩
 have M0:=hid n1
 clear a1 r1 l1 n1 CT F2 T2
 have f0:=aC U2.out.2.2.1 0
 have c0:=aA 0 U2.out.2.2.1
 have T3:Hid (ST w r s d g o l c (21+a) (.slice (some ⟨t0,0,none⟩) N N) (.slice none 0 0) (.slice none 0 0) (.slice none 0 0) sk st (u2.setCell ⟨s,0,none⟩ (.slice (some ⟨t0,0,none⟩) N N))):=ST.set U2.out (by rfl)
 have N0:Hid ((u2.setCell ⟨s,0,none⟩ (.slice (some ⟨t0,0,none⟩) N N)).rowIs t0 47 N (fun i=>.float .f64 (num F (21+8*i)))):=M0.out.setOther L0.out.2.2.1 _
 go_upto_region 4 with fail
 generalize hV:World.setCell u2 _ _=v3 at*
 clear hV f0 c0 U2 M0
 have F3:=hid (HF.out.below T3.out.1)
 have CT:=hid (bR r g o l c (21+a) N a F v3 T3.out.2.1 (by have:=HN.out;omega) ⟨by have:=NE.out;have:=HN.out;omega,by have:=NE.out;have:=HN.out;omega⟩ (by have:=HN.out;have:=LE.out;omega) HL.out.1 NG.out F3.out)
 go_wp2_with (go_at_call 49;refine(CC.out _).mono ?_;rintro e9 z9 ⟨rfl,hz⟩;have hz2:=hz.symm;subst hz2)
 refine CT.out.mono ?_
 rintro e9 u3 ⟨t1,rfl,a1,r1,l1,n1⟩
 have U3:=hid (T3.out.abo a1 r1)
 have L1:Hid (w.heap.size<=t1/\t1≠r/\t1≠s/\t1≠d/\t0≠t1):=by
  have q1:=T3.out.lt
  have q2:=Below.size T3.out.1
  have q3:=N0.out.lt
  exact⟨by omega,by omega,by omega,by omega,by omega⟩
 have M0:=hid (aO N0.out a1 L0.out.2.1)
 have M1:=hid n1
 clear a1 r1 l1 n1 CT F3 T3 N0
 have f0:=aC U3.out.2.2.1 1
 have c0:=aA 1 U3.out.2.2.1
 have T4:Hid (ST w r s d g o l c (21+a+a) (.slice (some ⟨t0,0,none⟩) N N) (.slice (some ⟨t1,0,none⟩) N N) (.slice none 0 0) (.slice none 0 0) sk st (u3.setCell ⟨s,1,none⟩ (.slice (some ⟨t1,0,none⟩) N N))):=ST.set U3.out (by rfl)
 have N0:Hid ((u3.setCell ⟨s,1,none⟩ (.slice (some ⟨t1,0,none⟩) N N)).rowIs t0 47 N (fun i=>.float .f64 (num F (21+8*i)))):=M0.out.setOther L0.out.2.2.1 _
 have N1:Hid ((u3.setCell ⟨s,1,none⟩ (.slice (some ⟨t1,0,none⟩) N N)).rowIs t1 2 N (fun i=>.int .i64 (i64 (num F (21+a+8*i))))):=M1.out.setOther L1.out.2.2.1 _
 go_upto_region 5 with fail
 generalize hV:World.setCell u3 _ _=v4 at*
 clear hV f0 c0 U3 M0 M1
 have F4:=hid (HF.out.below T4.out.1)
 have CT:=hid (bR r g o l c (21+a+a) N a F v4 T4.out.2.1 (by have:=HN.out;omega) ⟨by have:=NE.out;have:=HN.out;omega,by have:=NE.out;have:=HN.out;omega⟩ (by have:=HN.out;have:=LE.out;omega) HL.out.1 NG.out F4.out)
 go_wp2_with (go_at_call 49;refine(CC.out _).mono ?_;rintro e9 z9 ⟨rfl,hz⟩;have hz2:=hz.symm;subst hz2)
 refine CT.out.mono ?_
 rintro e9 u4 ⟨t2,rfl,a1,r1,l1,n1⟩
 have U4:=hid (T4.out.abo a1 r1)
 have L2:Hid (w.heap.size<=t2/\t2≠r/\t2≠s/\t2≠d/\t0≠t2/\t1≠t2):=by
  have q1:=T4.out.lt
  have q2:=Below.size T4.out.1
  have q3:=N0.out.lt
  have q4:=N1.out.lt
  exact⟨by omega,by omega,by omega,by omega,by omega,by omega⟩
 have M0:=hid (aO N0.out a1 L0.out.2.1)
 have M1:=hid (aO N1.out a1 L1.out.2.1)
 have M2:=hid n1
 clear a1 r1 l1 n1 CT F4 T4 N0 N1
 have f0:=aC U4.out.2.2.1 2
 have c0:=aA 2 U4.out.2.2.1
 have T5:Hid (ST w r s d g o l c (21+a+a+a) (.slice (some ⟨t0,0,none⟩) N N) (.slice (some ⟨t1,0,none⟩) N N) (.slice (some ⟨t2,0,none⟩) N N) (.slice none 0 0) sk st (u4.setCell ⟨s,2,none⟩ (.slice (some ⟨t2,0,none⟩) N N))):=ST.set U4.out (by rfl)
 have N0:Hid ((u4.setCell ⟨s,2,none⟩ (.slice (some ⟨t2,0,none⟩) N N)).rowIs t0 47 N (fun i=>.float .f64 (num F (21+8*i)))):=M0.out.setOther L0.out.2.2.1 _
 have N1:Hid ((u4.setCell ⟨s,2,none⟩ (.slice (some ⟨t2,0,none⟩) N N)).rowIs t1 2 N (fun i=>.int .i64 (i64 (num F (21+a+8*i))))):=M1.out.setOther L1.out.2.2.1 _
 have N2:Hid ((u4.setCell ⟨s,2,none⟩ (.slice (some ⟨t2,0,none⟩) N N)).rowIs t2 2 N (fun i=>.int .i64 (i64 (num F (21+a+a+8*i))))):=M2.out.setOther L2.out.2.2.1 _
 go_upto_region 6 with fail
 generalize hV:World.setCell u4 _ _=v5 at*
 clear hV f0 c0 U4 M0 M1 M2
 have F5:=hid (HF.out.below T5.out.1)
 have CT:=hid (bO r g o l c (21+a+a+a) M b F v5 T5.out.2.1 (by have:=HN.out;omega) ⟨by have:=NE.out;have:=HN.out;omega,by have:=NE.out;have:=HN.out;omega⟩ (by have:=HN.out;have:=LE.out;omega) HL.out.1 NG.out F5.out)
 go_wp2_with (go_at_call 50;refine(CE.out _).mono ?_;rintro e9 z9 ⟨rfl,hz⟩;have hz2:=hz.symm;subst hz2)
 refine CT.out.mono ?_
 rintro e9 u5 ⟨t3,rfl,a1,r1,l1,n1⟩
 have U5:=hid (T5.out.abo a1 r1)
 have L3:Hid (w.heap.size<=t3/\t3≠r/\t3≠s/\t3≠d/\t0≠t3/\t1≠t3/\t2≠t3):=by
  have q1:=T5.out.lt
  have q2:=Below.size T5.out.1
  have q3:=N0.out.lt
  have q4:=N1.out.lt
  have q5:=N2.out.lt
  exact⟨by omega,by omega,by omega,by omega,by omega,by omega,by omega⟩
 have M0:=hid (aO N0.out a1 L0.out.2.1)
 have M1:=hid (aO N1.out a1 L1.out.2.1)
 have M2:=hid (aO N2.out a1 L2.out.2.1)
 have M3:=hid n1
 clear a1 r1 l1 n1 CT F5 T5 N0 N1 N2
 have f0:=aC U5.out.2.2.1 3
 have c0:=aA 3 U5.out.2.2.1
 have T6:Hid (ST w r s d g o l c (21+a+a+a+b) (.slice (some ⟨t0,0,none⟩) N N) (.slice (some ⟨t1,0,none⟩) N N) (.slice (some ⟨t2,0,none⟩) N N) (.slice (some ⟨t3,0,none⟩) M M) sk st (u5.setCell ⟨s,3,none⟩ (.slice (some ⟨t3,0,none⟩) M M))):=ST.set U5.out (by rfl)
 have N0:Hid ((u5.setCell ⟨s,3,none⟩ (.slice (some ⟨t3,0,none⟩) M M)).rowIs t0 47 N (fun i=>.float .f64 (num F (21+8*i)))):=M0.out.setOther L0.out.2.2.1 _
 have N1:Hid ((u5.setCell ⟨s,3,none⟩ (.slice (some ⟨t3,0,none⟩) M M)).rowIs t1 2 N (fun i=>.int .i64 (i64 (num F (21+a+8*i))))):=M1.out.setOther L1.out.2.2.1 _
 have N2:Hid ((u5.setCell ⟨s,3,none⟩ (.slice (some ⟨t3,0,none⟩) M M)).rowIs t2 2 N (fun i=>.int .i64 (i64 (num F (21+a+a+8*i))))):=M2.out.setOther L2.out.2.2.1 _
 have N3:Hid ((u5.setCell ⟨s,3,none⟩ (.slice (some ⟨t3,0,none⟩) M M)).rowIs t3 47 M (fun i=>.float .f64 (num F (21+a+a+a+8*i)))):=M3.out.setOther L3.out.2.2.1 _
 go_upto_region 7 with fail
 generalize hV:World.setCell u5 _ _=v6 at*
 clear hV f0 c0 U5 M0 M1 M2 M3
 have F6:=hid (HF.out.below T6.out.1)
 have CT:=hid (rT r g o l c (21+a+a+a+b) F v6 T6.out.2.1 LE.out HL.out.1 HL.out.2 NG.out F6.out LK.out HS.out)
 go_wp2_with fail
 refine CT.out.mono ?_
 rintro e9 v7 ⟨rfl,a1⟩
 have A7:Hid (Ab w v7):=cJ T6.out.1 a1 LB.out.2.1
 have S7:Hid (v7.heap[s]? =some (.cells #[.slice (some ⟨t0,0,none⟩) N N,.slice (some ⟨t1,0,none⟩) N N,.slice (some ⟨t2,0,none⟩) N N,.slice (some ⟨t3,0,none⟩) M M,.int .i64 sk,.int .i64 st] 25)):=(a1.2.2.2.2 s (lt_of_block T6.out.2.2.1) (Ne.symm T6.out.2.2.2.2.2.2.2.1)).trans T6.out.2.2.1
 have D7:Hid (v7.heap[d]? =some (.cells #[.slice none 0 0,.slice none 0 0,.slice none 0 0,.slice none 0 0,.int .i64 0,.int .i64 0] 25)):=(a1.2.2.2.2 d (lt_of_block T6.out.2.2.2.1) (Ne.symm T6.out.2.2.2.2.2.2.2.2.1)).trans T6.out.2.2.2.1
 have SD:Hid (w.heap.size<=d/\s≠d):=⟨LB.out.1,T6.out.2.2.2.2.2.2.2.2.2⟩
 have M0:=hid (aO N0.out a1 L0.out.2.1)
 have M1:=hid (aO N1.out a1 L1.out.2.1)
 have M2:=hid (aO N2.out a1 L2.out.2.1)
 have M3:=hid (aO N3.out a1 L3.out.2.1)
 clear a1 CT F6 T6 N0 N1 N2 N3
 have nl: ∀q,q+8<=l->num F q<18446744073709551616:=fun q hq=>numl (fun i hi=>(HF.out.at0 (k:=q+i) (by omega)).1)
 have CK:=hid (Ss.kH (n:Nat) (some ⟨t0,0,none⟩) N N (fun i=>num F (21+8*i)) (some ⟨t1,0,none⟩) N N (fun i=>i64 (num F (21+a+8*i))) (some ⟨t2,0,none⟩) N N (fun i=>i64 (num F (21+a+a+8*i))) (some ⟨t3,0,none⟩) M M (fun i=>num F (21+a+a+a+8*i)) sk st v7 (rowIs.fl M0.out (fun i hi=>nl _ (by have:=HN.out;have:=LE.out;omega))) (Sh.dF M1.out (fun i hi=>dU (nl _ (by have:=HN.out;have:=LE.out;omega)))) (Sh.dF M2.out (fun i hi=>dU (nl _ (by have:=HN.out;have:=LE.out;omega)))) (rowIs.fl M3.out (fun i hi=>nl _ (by have:=HN.out;have:=LE.out;omega))))
 rw[HX.out.1,HX.out.2]at HXX
 rw[HXX.out]at CK
 obtain⟨x1,hx1⟩:=aB ((Ss.chk (n:Nat) N N N M (fun i=>num F (21+8*i)) (fun i=>i64 (num F (21+a+8*i))) (fun i=>i64 (num F (21+a+a+8*i))) (fun i=>num F (21+a+a+a+8*i)) sk st).1)
 rw[hx1]at CK
 clear hx1 nl HXX
 have y0:=aE S7.out
 have G:=hid (fun v=>dZ x v)
 have n2:(x != 0)=true:=by simpa using H0.out
 go_wp2_with (first
  | (go_at_call 15;refine CK.out.mono ?_;rintro e9 v8 ⟨rfl,b1⟩)
  | (go_at_call 60;refine(G.out _).mono ?_;rintro e9 z1 ⟨rfl,hz⟩;have hz2:=hz.symm;subst hz2))
 exact⟨rfl,rfl,A7.out.trans b1⟩
theorem read_ok(g o l c:Nat)(F:Nat->Nat)(w:World)(hl:l<=c/\c<=9223372036854775807)(hF:Ti.IsW .u8 256 w (some ⟨g,o,none⟩) l F)(hl21:21<=l)(hm:decide (F 0=84/\F 1=65/\F 2=82/\F 3=78)=true)(n N M a b:Nat)(h4:F 4=n)(hn:1<=n/\n<=32)(hN:6*n*n=N)(hM:2*N=M)(ha:N*8=a)(hb:M*8=b)(hk:21+a+a+a+b+8=l)(hs:num F (21+a+a+a+b)=smN F (21+a+a+a+b))(hx:(Ss.chk (n:Nat) N N N M (fun i=>num F (21+8*i)) (fun i=>i64 (num F (21+a+8*i))) (fun i=>i64 (num F (21+a+a+8*i))) (fun i=>num F (21+a+a+a+8*i)) (i64 (num F 13)) (i64 (num F 5))).2=0):Calls prog 28 #[.slice (some ⟨g,o,none⟩) l c] w fun e w'=> ∃t0 t1 t2 t3,e=.returned (.tuple #[.int .i64 (n:Nat),.agg #[.slice (some ⟨t0,0,none⟩) N N,.slice (some ⟨t1,0,none⟩) N N,.slice (some ⟨t2,0,none⟩) N N,.slice (some ⟨t3,0,none⟩) M M,.int .i64 (i64 (num F 13)),.int .i64 (i64 (num F 5))]])/\Ab w w'/\(w.heap.size<=t0/\w.heap.size<=t1/\w.heap.size<=t2/\w.heap.size<=t3)/\(t0≠t1/\t0≠t2/\t0≠t3/\t1≠t2/\t1≠t3/\t2≠t3)/\w'.rowIs t0 47 N (fun i=>.float .f64 (num F (21+8*i)))/\w'.rowIs t1 2 N (fun i=>.int .i64 (i64 (num F (21+a+8*i))))/\w'.rowIs t2 2 N (fun i=>.int .i64 (i64 (num F (21+a+a+8*i))))/\w'.rowIs t3 47 M (fun i=>.float .f64 (num F (21+a+a+a+8*i))):=by
 have LK:=hid hk
 have LE:=hid (show 21+a+a+a+b<=l by omega)
 have HS:=hid hs
 have HXX:=hid hx
 clear hk hs hx
 have NE:Hid (1<=N/\N<=6144):=by
  have q5:N<=192*32:=by rw[<- hN];exact Nat.mul_le_mul (by omega) (by omega)
  have q6:6*1*1<=N:=by rw[<- hN];exact Nat.mul_le_mul (Nat.mul_le_mul (Nat.le_refl 6) hn.1) hn.1
  exact⟨by omega,by omega⟩
 have HN:=hid (show 2*N=M/\N*8=a/\M*8=b/\21<=l/\1<=n/\n<=32 from⟨hM,ha,hb,hl21,hn.1,hn.2⟩)
 have CC:=hid (fun v=>aZ n N v hn.2 hN)
 have CE:=hid (fun v=>cF n N M v hn.2 hN hM)
 have GL:Hid (g<w.heap.size):=(hF.at0 (k:=0) (by omega)).2.1
 have HM:=hid (show F 4=n/\decide (F 0=84/\F 1=65/\F 2=82/\F 3=78)=true from⟨h4,hm⟩)
 obtain⟨sk,hsk⟩:=aB (i64 (num F 13))
 obtain⟨st,hst⟩:=aB (i64 (num F 5))
 have HX:=hid (show i64 (num F 13)=sk/\i64 (num F 5)=st from⟨hsk,hst⟩)
 clear h4 hm hn hN hM ha hb hl21 hsk hst
 have HF:=hid hF
 have HL:=hid hl
 clear hl hF
 have A0:=bG (bl2 w (.cells #[.slice none 0 0,.slice none 0 0,.slice none 0 0,.slice none 0 0,.int .i64 0,.int .i64 0] 25) (.cells #[.slice (some ⟨g,o,none⟩) l c] 82))
 have D0:Hid (((w.alloc (.cells #[.slice none 0 0,.slice none 0 0,.slice none 0 0,.slice none 0 0,.int .i64 0,.int .i64 0] 25)).alloc (.cells #[.slice (some ⟨g,o,none⟩) l c] 82)).heap[w.heap.size]? =some (.cells #[.slice none 0 0,.slice none 0 0,.slice none 0 0,.slice none 0 0,.int .i64 0,.int .i64 0] 25)):=Ab.heap (bl1 _ _) (heap_alloc_new _ _)
 have R0:Hid (RD (w.heap.size+1) g o l c 0 ((w.alloc (.cells #[.slice none 0 0,.slice none 0 0,.slice none 0 0,.slice none 0 0,.int .i64 0,.int .i64 0] 25)).alloc (.cells #[.slice (some ⟨g,o,none⟩) l c] 82))):=by
  have q:=RD.new (w.alloc (.cells #[.slice none 0 0,.slice none 0 0,.slice none 0 0,.slice none 0 0,.int .i64 0,.int .i64 0] 25)) g o l c
  rw[show(w.alloc (.cells #[.slice none 0 0,.slice none 0 0,.slice none 0 0,.slice none 0 0,.int .i64 0,.int .i64 0] 25)).heap.size=w.heap.size+1 from bT _ _]at q
  exact q
 go_enter func28,ntmps28
 go_upto_region 2 with fail
 generalize hV:World.alloc (World.alloc w _) _=v0 at*
 obtain⟨d,hd⟩:=aB w.heap.size
 obtain⟨r,hr⟩:=aB (w.heap.size+1)
 have LB:Hid (w.heap.size<=d/\w.heap.size<=r/\d<r):=by
  refine⟨?_,?_,?_⟩<;>omega
 rw[hr]at R0 ⊢
 rw[hd]at D0 ⊢
 clear hV hd hr
 have F0:=hid (HF.out.below A0.out)
 have NG:Hid (g≠r):=by have:=LB.out;have:=GL.out;show _≠_;omega
 have CH:=hid (cX r g o l c F v0 R0.out ⟨by have:=HN.out;omega,HL.out.1⟩ NG.out F0.out HM.out.2 n HM.out.1 ⟨by have:=HN.out;omega,by have:=HN.out;omega⟩)
 rw[HX.out.1,HX.out.2]at CH
 go_wp2_with fail
 refine CH.out.mono ?_
 rintro e9 v1 ⟨rfl,a1,r1⟩
 have A1:Hid (Ab w v1):=cJ A0.out a1 LB.out.2.1
 have D1:Hid (v1.heap[d]? =some (.cells #[.slice none 0 0,.slice none 0 0,.slice none 0 0,.slice none 0 0,.int .i64 0,.int .i64 0] 25)):=by
  show _=_
  rw[a1.2.2.2.2 d (lt_of_block D0.out) (by have:=LB.out;omega)]
  exact D0.out
 have R1:=hid r1
 clear a1 r1 CH A0 D0 R0 F0
 obtain⟨X2,S2⟩:=aH v1 (.cells #[.slice none 0 0,.slice none 0 0,.slice none 0 0,.slice none 0 0,.int .i64 sk,.int .i64 st] 25)
 have T2:Hid (ST w r v1.heap.size d g o l c 21 (.slice none 0 0) (.slice none 0 0) (.slice none 0 0) (.slice none 0 0) sk st (v1.alloc (.cells #[.slice none 0 0,.slice none 0 0,.slice none 0 0,.slice none 0 0,.int .i64 sk,.int .i64 st] 25))):=by
  have le:w.heap.size<=v1.heap.size:=Below.size A1.out
  have dl:=lt_of_block D1.out
  have rl:=R1.out.lt
  exact⟨A1.out.trans X2.out,R1.out.to X2.out,S2.out,X2.out.heap D1.out,LB.out.2.1,le,LB.out.1,by omega,by have:=LB.out;omega,by omega⟩
 have ss: ∃s,v1.heap.size=s:=⟨_,rfl⟩
 go_upto_region 3 with fail
 generalize hV:World.alloc v1 _=v2 at*
 obtain⟨s,hs⟩:=ss
 rw[hs]at T2 ⊢
 clear hV hs X2 S2 A1 D1 R1
 have F2:=hid (HF.out.below T2.out.1)
 have CT:=hid (bO r g o l c (21) N a F v2 T2.out.2.1 (by have:=HN.out;omega) ⟨by have:=NE.out;have:=HN.out;omega,by have:=NE.out;have:=HN.out;omega⟩ (by have:=HN.out;have:=LE.out;omega) HL.out.1 NG.out F2.out)
 go_wp2_with (go_at_call 49;refine(CC.out _).mono ?_;rintro e9 z9 ⟨rfl,hz⟩;have hz2:=hz.symm;subst hz2)
 refine CT.out.mono ?_
 rintro e9 u2 ⟨t0,rfl,a1,r1,l1,n1⟩
 have U2:=hid (T2.out.abo a1 r1)
 have L0:Hid (w.heap.size<=t0/\t0≠r/\t0≠s/\t0≠d):=by
  have q1:=T2.out.lt
  have q2:=Below.size T2.out.1
  exact⟨by omega,by omega,by omega,by omega⟩
 have M0:=hid n1
 clear a1 r1 l1 n1 CT F2 T2
 have f0:=aC U2.out.2.2.1 0
 have c0:=aA 0 U2.out.2.2.1
 have T3:Hid (ST w r s d g o l c (21+a) (.slice (some ⟨t0,0,none⟩) N N) (.slice none 0 0) (.slice none 0 0) (.slice none 0 0) sk st (u2.setCell ⟨s,0,none⟩ (.slice (some ⟨t0,0,none⟩) N N))):=ST.set U2.out (by rfl)
 have N0:Hid ((u2.setCell ⟨s,0,none⟩ (.slice (some ⟨t0,0,none⟩) N N)).rowIs t0 47 N (fun i=>.float .f64 (num F (21+8*i)))):=M0.out.setOther L0.out.2.2.1 _
 go_upto_region 4 with fail
 generalize hV:World.setCell u2 _ _=v3 at*
 clear hV f0 c0 U2 M0
 have F3:=hid (HF.out.below T3.out.1)
 have CT:=hid (bR r g o l c (21+a) N a F v3 T3.out.2.1 (by have:=HN.out;omega) ⟨by have:=NE.out;have:=HN.out;omega,by have:=NE.out;have:=HN.out;omega⟩ (by have:=HN.out;have:=LE.out;omega) HL.out.1 NG.out F3.out)
 go_wp2_with (go_at_call 49;refine(CC.out _).mono ?_;rintro e9 z9 ⟨rfl,hz⟩;have hz2:=hz.symm;subst hz2)
 refine CT.out.mono ?_
 rintro e9 u3 ⟨t1,rfl,a1,r1,l1,n1⟩
 have U3:=hid (T3.out.abo a1 r1)
 have L1:Hid (w.heap.size<=t1/\t1≠r/\t1≠s/\t1≠d/\t0≠t1):=by
  have q1:=T3.out.lt
  have q2:=Below.size T3.out.1
  have q3:=N0.out.lt
  exact⟨by omega,by omega,by omega,by omega,by omega⟩
 have M0:=hid (aO N0.out a1 L0.out.2.1)
 have M1:=hid n1
 clear a1 r1 l1 n1 CT F3 T3 N0
 have f0:=aC U3.out.2.2.1 1
 have c0:=aA 1 U3.out.2.2.1
 have T4:Hid (ST w r s d g o l c (21+a+a) (.slice (some ⟨t0,0,none⟩) N N) (.slice (some ⟨t1,0,none⟩) N N) (.slice none 0 0) (.slice none 0 0) sk st (u3.setCell ⟨s,1,none⟩ (.slice (some ⟨t1,0,none⟩) N N))):=ST.set U3.out (by rfl)
 have N0:Hid ((u3.setCell ⟨s,1,none⟩ (.slice (some ⟨t1,0,none⟩) N N)).rowIs t0 47 N (fun i=>.float .f64 (num F (21+8*i)))):=M0.out.setOther L0.out.2.2.1 _
 have N1:Hid ((u3.setCell ⟨s,1,none⟩ (.slice (some ⟨t1,0,none⟩) N N)).rowIs t1 2 N (fun i=>.int .i64 (i64 (num F (21+a+8*i))))):=M1.out.setOther L1.out.2.2.1 _
 go_upto_region 5 with fail
 generalize hV:World.setCell u3 _ _=v4 at*
 clear hV f0 c0 U3 M0 M1
 have F4:=hid (HF.out.below T4.out.1)
 have CT:=hid (bR r g o l c (21+a+a) N a F v4 T4.out.2.1 (by have:=HN.out;omega) ⟨by have:=NE.out;have:=HN.out;omega,by have:=NE.out;have:=HN.out;omega⟩ (by have:=HN.out;have:=LE.out;omega) HL.out.1 NG.out F4.out)
 go_wp2_with (go_at_call 49;refine(CC.out _).mono ?_;rintro e9 z9 ⟨rfl,hz⟩;have hz2:=hz.symm;subst hz2)
 refine CT.out.mono ?_
 rintro e9 u4 ⟨t2,rfl,a1,r1,l1,n1⟩
 have U4:=hid (T4.out.abo a1 r1)
 have L2:Hid (w.heap.size<=t2/\t2≠r/\t2≠s/\t2≠d/\t0≠t2/\t1≠t2):=by
  have q1:=T4.out.lt
  have q2:=Below.size T4.out.1
  have q3:=N0.out.lt
  have q4:=N1.out.lt
  exact⟨by omega,by omega,by omega,by omega,by omega,by omega⟩
 have M0:=hid (aO N0.out a1 L0.out.2.1)
 have M1:=hid (aO N1.out a1 L1.out.2.1)
 have M2:=hid n1
 clear a1 r1 l1 n1 CT F4 T4 N0 N1
 have f0:=aC U4.out.2.2.1 2
 have c0:=aA 2 U4.out.2.2.1
 have T5:Hid (ST w r s d g o l c (21+a+a+a) (.slice (some ⟨t0,0,none⟩) N N) (.slice (some ⟨t1,0,none⟩) N N) (.slice (some ⟨t2,0,none⟩) N N) (.slice none 0 0) sk st (u4.setCell ⟨s,2,none⟩ (.slice (some ⟨t2,0,none⟩) N N))):=ST.set U4.out (by rfl)
 have N0:Hid ((u4.setCell ⟨s,2,none⟩ (.slice (some ⟨t2,0,none⟩) N N)).rowIs t0 47 N (fun i=>.float .f64 (num F (21+8*i)))):=M0.out.setOther L0.out.2.2.1 _
 have N1:Hid ((u4.setCell ⟨s,2,none⟩ (.slice (some ⟨t2,0,none⟩) N N)).rowIs t1 2 N (fun i=>.int .i64 (i64 (num F (21+a+8*i))))):=M1.out.setOther L1.out.2.2.1 _
 have N2:Hid ((u4.setCell ⟨s,2,none⟩ (.slice (some ⟨t2,0,none⟩) N N)).rowIs t2 2 N (fun i=>.int .i64 (i64 (num F (21+a+a+8*i))))):=M2.out.setOther L2.out.2.2.1 _
 go_upto_region 6 with fail
 generalize hV:World.setCell u4 _ _=v5 at*
 clear hV f0 c0 U4 M0 M1 M2
 have F5:=hid (HF.out.below T5.out.1)
 have CT:=hid (bO r g o l c (21+a+a+a) M b F v5 T5.out.2.1 (by have:=HN.out;omega) ⟨by have:=NE.out;have:=HN.out;omega,by have:=NE.out;have:=HN.out;omega⟩ (by have:=HN.out;have:=LE.out;omega) HL.out.1 NG.out F5.out)
 go_wp2_with (go_at_call 50;refine(CE.out _).mono ?_;rintro e9 z9 ⟨rfl,hz⟩;have hz2:=hz.symm;subst hz2)
 refine CT.out.mono ?_
 rintro e9 u5 ⟨t3,rfl,a1,r1,l1,n1⟩
 have U5:=hid (T5.out.abo a1 r1)
 have L3:Hid (w.heap.size<=t3/\t3≠r/\t3≠s/\t3≠d/\t0≠t3/\t1≠t3/\t2≠t3):=by
  have q1:=T5.out.lt
  have q2:=Below.size T5.out.1
  have q3:=N0.out.lt
  have q4:=N1.out.lt
  have q5:=N2.out.lt
  exact⟨by omega,by omega,by omega,by omega,by omega,by omega,by omega⟩
 have M0:=hid (aO N0.out a1 L0.out.2.1)
 have M1:=hid (aO N1.out a1 L1.out.2.1)
 have M2:=hid (aO N2.out a1 L2.out.2.1)
 have M3:=hid n1
 clear a1 r1 l1 n1 CT F5 T5 N0 N1 N2
 have f0:=aC U5.out.2.2.1 3
 have c0:=aA 3 U5.out.2.2.1
 have T6:Hid (ST w r s d g o l c (21+a+a+a+b) (.slice (some ⟨t0,0,none⟩) N N) (.slice (some ⟨t1,0,none⟩) N N) (.slice (some ⟨t2,0,none⟩) N N) (.slice (some ⟨t3,0,none⟩) M M) sk st (u5.setCell ⟨s,3,none⟩ (.slice (some ⟨t3,0,none⟩) M M))):=ST.set U5.out (by rfl)
 have N0:Hid ((u5.setCell ⟨s,3,none⟩ (.slice (some ⟨t3,0,none⟩) M M)).rowIs t0 47 N (fun i=>.float .f64 (num F (21+8*i)))):=M0.out.setOther L0.out.2.2.1 _
 have N1:Hid ((u5.setCell ⟨s,3,none⟩ (.slice (some ⟨t3,0,none⟩) M M)).rowIs t1 2 N (fun i=>.int .i64 (i64 (num F (21+a+8*i))))):=M1.out.setOther L1.out.2.2.1 _
 have N2:Hid ((u5.setCell ⟨s,3,none⟩ (.slice (some ⟨t3,0,none⟩) M M)).rowIs t2 2 N (fun i=>.int .i64 (i64 (num F (21+a+a+8*i))))):=M2.out.setOther L2.out.2.2.1 _
 have N3:Hid ((u5.setCell ⟨s,3,none⟩ (.slice (some ⟨t3,0,none⟩) M M)).rowIs t3 47 M (fun i=>.float .f64 (num F (21+a+a+a+8*i)))):=M3.out.setOther L3.out.2.2.1 _
 go_upto_region 7 with fail
 generalize hV:World.setCell u5 _ _=v6 at*
 clear hV f0 c0 U5 M0 M1 M2 M3
 have F6:=hid (HF.out.below T6.out.1)
 have CT:=hid (rT r g o l c (21+a+a+a+b) F v6 T6.out.2.1 LE.out HL.out.1 HL.out.2 NG.out F6.out LK.out HS.out)
 go_wp2_with fail
 refine CT.out.mono ?_
 rintro e9 v7 ⟨rfl,a1⟩
 have A7:Hid (Ab w v7):=cJ T6.out.1 a1 LB.out.2.1
 have S7:Hid (v7.heap[s]? =some (.cells #[.slice (some ⟨t0,0,none⟩) N N,.slice (some ⟨t1,0,none⟩) N N,.slice (some ⟨t2,0,none⟩) N N,.slice (some ⟨t3,0,none⟩) M M,.int .i64 sk,.int .i64 st] 25)):=(a1.2.2.2.2 s (lt_of_block T6.out.2.2.1) (Ne.symm T6.out.2.2.2.2.2.2.2.1)).trans T6.out.2.2.1
 have D7:Hid (v7.heap[d]? =some (.cells #[.slice none 0 0,.slice none 0 0,.slice none 0 0,.slice none 0 0,.int .i64 0,.int .i64 0] 25)):=(a1.2.2.2.2 d (lt_of_block T6.out.2.2.2.1) (Ne.symm T6.out.2.2.2.2.2.2.2.2.1)).trans T6.out.2.2.2.1
 have SD:Hid (w.heap.size<=d/\s≠d):=⟨LB.out.1,T6.out.2.2.2.2.2.2.2.2.2⟩
 have M0:=hid (aO N0.out a1 L0.out.2.1)
 have M1:=hid (aO N1.out a1 L1.out.2.1)
 have M2:=hid (aO N2.out a1 L2.out.2.1)
 have M3:=hid (aO N3.out a1 L3.out.2.1)
 clear a1 CT F6 T6 N0 N1 N2 N3
 have nl: ∀q,q+8<=l->num F q<18446744073709551616:=fun q hq=>numl (fun i hi=>(HF.out.at0 (k:=q+i) (by omega)).1)
 have CK:=hid (Ss.kH (n:Nat) (some ⟨t0,0,none⟩) N N (fun i=>num F (21+8*i)) (some ⟨t1,0,none⟩) N N (fun i=>i64 (num F (21+a+8*i))) (some ⟨t2,0,none⟩) N N (fun i=>i64 (num F (21+a+a+8*i))) (some ⟨t3,0,none⟩) M M (fun i=>num F (21+a+a+a+8*i)) sk st v7 (rowIs.fl M0.out (fun i hi=>nl _ (by have:=HN.out;have:=LE.out;omega))) (Sh.dF M1.out (fun i hi=>dU (nl _ (by have:=HN.out;have:=LE.out;omega)))) (Sh.dF M2.out (fun i hi=>dU (nl _ (by have:=HN.out;have:=LE.out;omega)))) (rowIs.fl M3.out (fun i hi=>nl _ (by have:=HN.out;have:=LE.out;omega))))
 rw[HX.out.1,HX.out.2]at HXX
 rw[HXX.out]at CK
 obtain⟨x1,hx1⟩:=aB ((Ss.chk (n:Nat) N N N M (fun i=>num F (21+8*i)) (fun i=>i64 (num F (21+a+8*i))) (fun i=>i64 (num F (21+a+a+8*i))) (fun i=>num F (21+a+a+a+8*i)) sk st).1)
 rw[hx1]at CK
 clear hx1 nl HXX
 have y0:=aE S7.out
 go_wp2_with fail
 refine CK.out.mono ?_
 rintro e9 v8 ⟨rfl,b1⟩
 have A8:Hid (Ab w v8):=A7.out.trans b1
 have S8:=hid (Ab.heap b1 S7.out)
 have D8:=hid (Ab.heap b1 D7.out)
 have P0:=hid (Sh.eJ M0.out b1)
 have P1:=hid (Sh.eJ M1.out b1)
 have P2:=hid (Sh.eJ M2.out b1)
 have P3:=hid (Sh.eJ M3.out b1)
 clear b1 CK A7 S7 D7 M0 M1 M2 M3 y0
 have y0:=aE S8.out
 have f0:=aC D8.out 0
 have c0:=aA 0 D8.out
 have f1:=aC D8.out 1
 have c1:=aA 1 D8.out
 have f2:=aC D8.out 2
 have c2:=aA 2 D8.out
 have f3:=aC D8.out 3
 have c3:=aA 3 D8.out
 have f4:=aC D8.out 4
 have c4:=aA 4 D8.out
 have f5:=aC D8.out 5
 have c5:=aA 5 D8.out
 have sd:=SD.out.2
 go_wp2_with fail
 go_region
 go_wp2_with fail
 refine bodyPost_ret (v:=.tuple #[.int .i64 (n:Nat),.agg #[.slice (some ⟨t0,0,none⟩) N N,.slice (some ⟨t1,0,none⟩) N N,.slice (some ⟨t2,0,none⟩) N N,.slice (some ⟨t3,0,none⟩) M M,.int .i64 sk,.int .i64 st]]) ?_ rfl ?_
 ·exact res_tc results28 _ _ d _ _ (0,0) _ _ rfl rfl (row6d D8.out) underlying25 rfl (by kernel_rfl)
 refine⟨t0,t1,t2,t3,by rw[HX.out.1,HX.out.2],?_,⟨L0.out.1,L1.out.1,L2.out.1,L3.out.1⟩,⟨L1.out.2.2.2.2,L2.out.2.2.2.2.1,L3.out.2.2.2.2.1,L2.out.2.2.2.2.2,L3.out.2.2.2.2.2.1,L3.out.2.2.2.2.2.2⟩,?_,?_,?_,?_⟩
 ·exact ab_six A8.out SD.out.1
 ·exact gH P0.out L0.out.2.2.2
 ·exact gH P1.out L1.out.2.2.2.1
 ·exact gH P2.out L2.out.2.2.2.1
 ·exact gH P3.out L3.out.2.2.2.1
end Sv
end
section
open Go.RowKit Go.Deep Tf Cu
attribute [local go_sem] aF aG aI aJ aK aL aM aD
namespace Sv
theorem mW(v:Value)(xT:TypeId)(w:World):(Instr.typeAssert (.iface 28 v) xT 28 true).run prog w=.ok (.tuple #[v,.bool true]) w:=by
 simp[Instr.typeAssert,run_underlying underlying28,go_sem,Result.andThen]
theorem hQ{w:World}{d0 d1 d2:Nat}{a b a0 a1 a2 a3 a4 a5 x y x0 x1 x2 x3 x4 x5:Value}{T0 T1 T2:TypeId}(h0:w.heap[d0]? =some (.cells #[a] T0))(h1:w.heap[d1]? =some (.cells #[a0,a1,a2,a3,a4,a5] T1))(h2:w.heap[d2]? =some (.cells #[b] T2))(n1:d0≠d1)(n2:d0≠d2)(n3:d1≠d2):
  ((((((((w.setCell ⟨d0,0,none⟩ x).setCell ⟨d1,0,none⟩ x0).setCell ⟨d1,1,none⟩ x1).setCell ⟨d1,2,none⟩ x2).setCell ⟨d1,3,none⟩ x3).setCell ⟨d1,4,none⟩ x4).setCell ⟨d1,5,none⟩ x5).setCell ⟨d2,0,none⟩ y).heap[d0]? =some (.cells #[x] T0)/\((((((((w.setCell ⟨d0,0,none⟩ x).setCell ⟨d1,0,none⟩ x0).setCell ⟨d1,1,none⟩ x1).setCell ⟨d1,2,none⟩ x2).setCell ⟨d1,3,none⟩ x3).setCell ⟨d1,4,none⟩ x4).setCell ⟨d1,5,none⟩ x5).setCell ⟨d2,0,none⟩ y).heap[d1]? =some (.cells #[x0,x1,x2,x3,x4,x5] T1)/\((((((((w.setCell ⟨d0,0,none⟩ x).setCell ⟨d1,0,none⟩ x0).setCell ⟨d1,1,none⟩ x1).setCell ⟨d1,2,none⟩ x2).setCell ⟨d1,3,none⟩ x3).setCell ⟨d1,4,none⟩ x4).setCell ⟨d1,5,none⟩ x5).setCell ⟨d2,0,none⟩ y).heap[d2]? =some (.cells #[y] T2):=by
 have k0:(w.setCell ⟨d0,0,none⟩ x).heap[d0]? =some (.cells #[x] T0):=aN h0
 have k1:(w.setCell ⟨d0,0,none⟩ x).heap[d1]? =some (.cells #[a0,a1,a2,a3,a4,a5] T1):=(blk_setCell_other _ _ _ _ (Ne.symm n1)).trans h1
 have k2:(w.setCell ⟨d0,0,none⟩ x).heap[d2]? =some (.cells #[b] T2):=(blk_setCell_other _ _ _ _ (Ne.symm n2)).trans h2
 generalize w.setCell ⟨d0,0,none⟩ x=u at*
 have s6: ∀j,j≠d1->((((((u.setCell ⟨d1,0,none⟩ x0).setCell ⟨d1,1,none⟩ x1).setCell ⟨d1,2,none⟩ x2).setCell ⟨d1,3,none⟩ x3).setCell ⟨d1,4,none⟩ x4).setCell ⟨d1,5,none⟩ x5).heap[j]? =u.heap[j]? :=fun j n=>by
  rw[blk_setCell_other _ _ _ _ n,blk_setCell_other _ _ _ _ n,blk_setCell_other _ _ _ _ n,blk_setCell_other _ _ _ _ n,blk_setCell_other _ _ _ _ n,blk_setCell_other _ _ _ _ n]
 have l1:=gZ (x:=x0) (y:=x1) (z:=x2) (p:=x3) (q:=x4) (r:=x5) k1
 have l0:=(s6 d0 n1).trans k0
 have l2:=(s6 d2 (Ne.symm n3)).trans k2
 generalize((((((u.setCell ⟨d1,0,none⟩ x0).setCell ⟨d1,1,none⟩ x1).setCell ⟨d1,2,none⟩ x2).setCell ⟨d1,3,none⟩ x3).setCell ⟨d1,4,none⟩ x4).setCell ⟨d1,5,none⟩ x5)=t at*
 exact⟨(blk_setCell_other _ _ _ _ n2).trans l0,(blk_setCell_other _ _ _ _ n3).trans l1,aN l2⟩
theorem pM{w:World}{d0 d1 d2:Nat}{a b a0 a1 a2 a3 a4 a5 x x0 x1 x2 x3 x4 x5:Value}{T0 T1 T2:TypeId}(h0:w.heap[d0]? =some (.cells #[a] T0))(h1:w.heap[d1]? =some (.cells #[a0,a1,a2,a3,a4,a5] T1))(h2:w.heap[d2]? =some (.cells #[b] T2))(n1:d0≠d1)(n2:d0≠d2)(n3:d1≠d2):
  (((((((w.setCell ⟨d0,0,none⟩ x).setCell ⟨d1,0,none⟩ x0).setCell ⟨d1,1,none⟩ x1).setCell ⟨d1,2,none⟩ x2).setCell ⟨d1,3,none⟩ x3).setCell ⟨d1,4,none⟩ x4).setCell ⟨d1,5,none⟩ x5).heap[d0]? =some (.cells #[x] T0)/\(((((((w.setCell ⟨d0,0,none⟩ x).setCell ⟨d1,0,none⟩ x0).setCell ⟨d1,1,none⟩ x1).setCell ⟨d1,2,none⟩ x2).setCell ⟨d1,3,none⟩ x3).setCell ⟨d1,4,none⟩ x4).setCell ⟨d1,5,none⟩ x5).heap[d1]? =some (.cells #[x0,x1,x2,x3,x4,x5] T1)/\(((((((w.setCell ⟨d0,0,none⟩ x).setCell ⟨d1,0,none⟩ x0).setCell ⟨d1,1,none⟩ x1).setCell ⟨d1,2,none⟩ x2).setCell ⟨d1,3,none⟩ x3).setCell ⟨d1,4,none⟩ x4).setCell ⟨d1,5,none⟩ x5).heap[d2]? =some (.cells #[b] T2):=by
 have q:=hQ (x:=x) (x0:=x0) (x1:=x1) (x2:=x2) (x3:=x3) (x4:=x4) (x5:=x5) (y:=b) h0 h1 h2 n1 n2 n3
 refine⟨(blk_setCell_other _ ⟨d2,0,none⟩ _ _ n2).symm.trans q.1,(blk_setCell_other _ ⟨d2,0,none⟩ _ _ n3).symm.trans q.2.1,?_⟩
 have k2:(w.setCell ⟨d0,0,none⟩ x).heap[d2]? =some (.cells #[b] T2):=(blk_setCell_other _ _ _ _ (Ne.symm n2)).trans h2
 rw[blk_setCell_other _ _ _ _ (Ne.symm n3),blk_setCell_other _ _ _ _ (Ne.symm n3),blk_setCell_other _ _ _ _ (Ne.symm n3),blk_setCell_other _ _ _ _ (Ne.symm n3),blk_setCell_other _ _ _ _ (Ne.symm n3),blk_setCell_other _ _ _ _ (Ne.symm n3),k2]
theorem ab_seven{V w:World}{d0 d1:Nat}{x x0 x1 x2 x3 x4 x5:Value}(h:Ab V w)(n0:V.heap.size<=d0)(n1:V.heap.size<=d1):Ab V (((((((w.setCell ⟨d0,0,none⟩ x).setCell ⟨d1,0,none⟩ x0).setCell ⟨d1,1,none⟩ x1).setCell ⟨d1,2,none⟩ x2).setCell ⟨d1,3,none⟩ x3).setCell ⟨d1,4,none⟩ x4).setCell ⟨d1,5,none⟩ x5):=
 ((((((h.setk n0 _).setk n1 _).setk n1 _).setk n1 _).setk n1 _).setk n1 _).setk n1 _
theorem dL{w:World}{b d0 d1 n:Nat}{t:TypeId}{f:Nat->Value}{x x0 x1 x2 x3 x4 x5:Value}(h:w.rowIs b t n f)(e0:b≠d0)(e:b≠d1):(((((((w.setCell ⟨d0,0,none⟩ x).setCell ⟨d1,0,none⟩ x0).setCell ⟨d1,1,none⟩ x1).setCell ⟨d1,2,none⟩ x2).setCell ⟨d1,3,none⟩ x3).setCell ⟨d1,4,none⟩ x4).setCell ⟨d1,5,none⟩ x5).rowIs b t n f:=rW (h.setOther e0 _) e
theorem fA{w:World}{b d0 d1 d2 n:Nat}{t:TypeId}{f:Nat->Value}{x x0 x1 x2 x3 x4 x5 y:Value}(h:w.rowIs b t n f)(e0:b≠d0)(e1:b≠d1)(e2:b≠d2):((((((((w.setCell ⟨d0,0,none⟩ x).setCell ⟨d1,0,none⟩ x0).setCell ⟨d1,1,none⟩ x1).setCell ⟨d1,2,none⟩ x2).setCell ⟨d1,3,none⟩ x3).setCell ⟨d1,4,none⟩ x4).setCell ⟨d1,5,none⟩ x5).setCell ⟨d2,0,none⟩ y).rowIs b t n f:=(dL h e0 e1).setOther e2 _
theorem pN{V w:World}{d0 d1 d2:Nat}{x y x0 x1 x2 x3 x4 x5:Value}(h:Ab V w)(n0:V.heap.size<=d0)(n1:V.heap.size<=d1)(n2:V.heap.size<=d2):Ab V ((((((((w.setCell ⟨d0,0,none⟩ x).setCell ⟨d1,0,none⟩ x0).setCell ⟨d1,1,none⟩ x1).setCell ⟨d1,2,none⟩ x2).setCell ⟨d1,3,none⟩ x3).setCell ⟨d1,4,none⟩ x4).setCell ⟨d1,5,none⟩ x5).setCell ⟨d2,0,none⟩ y):=
 (((((((h.setk n0 _).setk n1 _).setk n1 _).setk n1 _).setk n1 _).setk n1 _).setk n1 _).setk n2 _
theorem lN{fn:Func}{p q r:Tmp}(h:fn.results= #[.cell p 3,.cell q 25,.cell r 28])(tmps:Array Value)(w:World)(d0 d1 d2:Nat)(x y:Int)(a0 a1 a2 a3 a4 a5:Value)(T0 T1 T2:TypeId)
  (hp:tmps.getD p undef=.pointer (some ⟨d0,0,none⟩)) (hq:tmps.getD q undef=.pointer (some ⟨d1,0,none⟩)) (hr:tmps.getD r undef=.pointer (some ⟨d2,0,none⟩))
  (h0:w.heap[d0]? =some (.cells #[.int .i64 x] T0)) (h1:w.heap[d1]? =some (.cells #[a0,a1,a2,a3,a4,a5] T1)) (h2:w.heap[d2]? =some (.cells #[.int .i64 y] T2)):
  (results fn tmps).run prog w=.ok (.tuple #[.int .i64 x,.agg #[a0,a1,a2,a3,a4,a5],.int .i64 y]) w:=by
 have hp':tmps[p]?.getD undef=.pointer (some ⟨d0,0,none⟩):=by simpa using hp
 have hq':tmps[q]?.getD undef=.pointer (some ⟨d1,0,none⟩):=by simpa using hq
 have hr':tmps[r]?.getD undef=.pointer (some ⟨d2,0,none⟩):=by simpa using hr
 have c0:=aA 0 h0
 have c2:=aA 0 h2
 obtain⟨c10,c11,c12,c13,c14,c15⟩:=aE h1
 simp[results,h,hp',hq',hr',asAddr,go_sem,c0,c2,c10,c11,c12,c13,c14,c15]
theorem told_at(E:Int)(w:World):Calls prog 27 #[.iface 28 (.int .i64 E)] w fun e w'=>e=.returned (.int .i64 E)/\w'=w:=by
 go_enter func27,ntmps27
 have TA:=fun xT w=>mW (.int .i64 E) xT w
 go_wp2
 go_ret
 exact⟨rfl,rfl⟩
theorem tS(d0 d1 d2:Nat)(E x y:Int)(v0 v1 v2 v3 v4 v5:Value)(w:World)(h0:w.heap[d0]? =some (.cells #[.int .i64 x] 3))(h1:w.heap[d1]? =some (.cells #[v0,v1,v2,v3,v4,v5] 25))(h2:w.heap[d2]? =some (.cells #[.int .i64 y] 28))(n01:d0≠d1)(n02:d0≠d2)(n12:d1≠d2):
  CallsD prog 26 #[.pointer (some ⟨d0,0,none⟩),.pointer (some ⟨d1,0,none⟩),.pointer (some ⟨d2,0,none⟩)] (.panicking [{v:=.iface 28 (.int .i64 E),recovered:=false}]) w fun e u' w'=>e=.returned (.tuple #[])/\u'=.panicking [{v:=.iface 28 (.int .i64 E),recovered:=true}]/\w'=((((((((w.setCell ⟨d0,0,none⟩ (.int .i64 0)).setCell ⟨d1,0,none⟩ (.slice none 0 0)).setCell ⟨d1,1,none⟩ (.slice none 0 0)).setCell ⟨d1,2,none⟩ (.slice none 0 0)).setCell ⟨d1,3,none⟩ (.slice none 0 0)).setCell ⟨d1,4,none⟩ (.int .i64 0)).setCell ⟨d1,5,none⟩ (.int .i64 0)).setCell ⟨d2,0,none⟩ (.int .i64 E)):=by
 have CT:=hid (fun v=>told_at E v)
 have c0:=aA 0 h0
 have f0:=aC h0 0
 have c10:=aA 0 h1
 have f10:=aC h1 0
 have c11:=aA 1 h1
 have f11:=aC h1 1
 have c12:=aA 2 h1
 have f12:=aC h1 2
 have c13:=aA 3 h1
 have f13:=aC h1 3
 have c14:=aA 4 h1
 have f14:=aC h1 4
 have c15:=aA 5 h1
 have f15:=aC h1 5
 have c2:=aA 0 h2
 have f2:=aC h2 0
 refine callsD_of_wpS func26 rfl fun c₀ cs hu=> ?_
 apply wpS_seq
 apply wpS_region
 simp[wpOpsS,go_sem,recoverD,hu,ntmps26,Exit.thenS]
 apply wpS_seq
 apply wpS_region
 simp[wpOpsS,go_sem,Array.replicate,Exit.thenS]
 refine wpS_cond (t:=true) (by simp[Act.eval]) ?_
 simp only[if_true]
 refine wpS_of_wp ?_
 go_wp2_with (go_at_call 27;refine(CT.out _).mono ?_;rintro e9 z1 ⟨rfl,hz⟩;have hz2:=hz.symm;subst hz2)
 simp[bodyPostS,results,results26]
theorem qP(d0 d1 d2:Nat)(w:World):
  CallsD prog 26 #[.pointer (some ⟨d0,0,none⟩),.pointer (some ⟨d1,0,none⟩),.pointer (some ⟨d2,0,none⟩)] .returning w fun e u' w'=>e=.returned (.tuple #[])/\u'=.returning/\w'=w:=by
 refine callsD_of_wpS func26 rfl fun c₀ cs hu=> ?_
 apply wpS_seq
 apply wpS_region
 simp[wpOpsS,go_sem,recoverD,hu,ntmps26,Exit.thenS]
 apply wpS_seq
 apply wpS_region
 simp[wpOpsS,go_sem,Array.replicate,Exit.thenS]
 refine wpS_cond (t:=false) (by simp[Act.eval]) ?_
 simp only[Bool.false_eq_true,if_false]
 refine wpS_of_wp (wp_skip ?_)
 cases c₀
 simp_all [bodyPostS,results,results26]
theorem dec_bad(p:Option Addr)(l c:Nat)(E:Int)(w:World)(hR: ∀v,Ab w v->Calls prog 28 #[.slice p l c] v fun e w'=>e=.panicked [{v:=.iface 28 (.int .i64 E),recovered:=false}]/\Ab v w'):
  Calls prog 8 #[.slice p l c] w fun e w'=>e=.returned (.tuple #[.int .i64 0,.agg #[.slice none 0 0,.slice none 0 0,.slice none 0 0,.slice none 0 0,.int .i64 0,.int .i64 0],.int .i64 E])/\Ab w w':=by
 have hmf: ∀(fn:Fn) (first cap:Array Value) (w:World),(Instr.makeFunc fn first cap).run prog w=.ok (.func fn first cap) w:=fun _ _ _ _=>rfl
 have HR:=hid hR
 clear hR
 have e1:(w.alloc (.cells #[.int .i64 0] 3)).heap.size=w.heap.size+1:=bT _ _
 have e2:((w.alloc (.cells #[.int .i64 0] 3)).alloc (.cells #[.slice none 0 0,.slice none 0 0,.slice none 0 0,.slice none 0 0,.int .i64 0,.int .i64 0] 25)).heap.size=w.heap.size+1+1:=by rw[bT,e1]
 have A0:Hid (Ab w (((w.alloc (.cells #[.int .i64 0] 3)).alloc (.cells #[.slice none 0 0,.slice none 0 0,.slice none 0 0,.slice none 0 0,.int .i64 0,.int .i64 0] 25)).alloc (.cells #[.int .i64 0] 28))):=Ab.trans (bl2 _ _ _) (bl1 _ _)
 have D0:Hid ((((w.alloc (.cells #[.int .i64 0] 3)).alloc (.cells #[.slice none 0 0,.slice none 0 0,.slice none 0 0,.slice none 0 0,.int .i64 0,.int .i64 0] 25)).alloc (.cells #[.int .i64 0] 28)).heap[w.heap.size]? =some (.cells #[.int .i64 0] 3)):=Ab.heap (bl2 _ _ _) (heap_alloc_new _ _)
 have D1:Hid ((((w.alloc (.cells #[.int .i64 0] 3)).alloc (.cells #[.slice none 0 0,.slice none 0 0,.slice none 0 0,.slice none 0 0,.int .i64 0,.int .i64 0] 25)).alloc (.cells #[.int .i64 0] 28)).heap[w.heap.size+1]? =some (.cells #[.slice none 0 0,.slice none 0 0,.slice none 0 0,.slice none 0 0,.int .i64 0,.int .i64 0] 25)):=by
  have q:=Ab.heap (bl1 _ (.cells #[.int .i64 0] 28)) (heap_alloc_new (w.alloc (.cells #[.int .i64 0] 3)) (.cells #[.slice none 0 0,.slice none 0 0,.slice none 0 0,.slice none 0 0,.int .i64 0,.int .i64 0] 25))
  rw[e1]at q
  exact q
 have D2:Hid ((((w.alloc (.cells #[.int .i64 0] 3)).alloc (.cells #[.slice none 0 0,.slice none 0 0,.slice none 0 0,.slice none 0 0,.int .i64 0,.int .i64 0] 25)).alloc (.cells #[.int .i64 0] 28)).heap[w.heap.size+1+1]? =some (.cells #[.int .i64 0] 28)):=by
  have q:=heap_alloc_new ((w.alloc (.cells #[.int .i64 0] 3)).alloc (.cells #[.slice none 0 0,.slice none 0 0,.slice none 0 0,.slice none 0 0,.int .i64 0,.int .i64 0] 25)) (.cells #[.int .i64 0] 28)
  rw[e2]at q
  exact q
 clear e1 e2
 go_enter_defers func8,ntmps8
 go_upto_region 1 with fail
 generalize hV:World.alloc (World.alloc (World.alloc w _) _) _=v0 at*
 obtain⟨d0,h0⟩:=aB w.heap.size
 obtain⟨d1,h1⟩:=aB (w.heap.size+1)
 obtain⟨d2,h2⟩:=aB (w.heap.size+1+1)
 have LB:Hid ((w.heap.size<=d0/\w.heap.size<=d1/\w.heap.size<=d2)/\d0≠d1/\d0≠d2/\d1≠d2):=by
  refine⟨⟨?_,?_,?_⟩,?_,?_,?_⟩<;>omega
 rw[h2]at D2 ⊢
 rw[h1]at D1 ⊢
 rw[h0]at D0 ⊢
 clear hV h0 h1 h2
 go_wp2_with (go_at_call 28;refine(HR.out _ A0.out).mono ?_;rintro e9 v1 ⟨rfl,b1⟩)
 have A1:Hid (Ab w v1):=A0.out.trans b1
 have E0:=Ab.heap b1 D0.out
 have E1:=Ab.heap b1 D1.out
 have E2:=Ab.heap b1 D2.out
 refine leaves_cons (f:=26) (args:= #[.pointer (some ⟨d0,0,none⟩),.pointer (some ⟨d1,0,none⟩),.pointer (some ⟨d2,0,none⟩)]) (by simp) (by simp[go_sem]) ?_
 refine(tS d0 d1 d2 E 0 0 _ _ _ _ _ _ v1 E0 E1 E2 LB.out.2.1 LB.out.2.2.1 LB.out.2.2.2).mono ?_
 rintro e u' w9 ⟨rfl,rfl,rfl⟩
 have q:=hQ (x:=.int .i64 0) (y:=.int .i64 E) (x0:=.slice none 0 0) (x1:=.slice none 0 0) (x2:=.slice none 0 0) (x3:=.slice none 0 0) (x4:=.int .i64 0) (x5:=.int .i64 0) E0 E1 E2 LB.out.2.1 LB.out.2.2.1 LB.out.2.2.2
 have qa:=pN (x:=.int .i64 0) (y:=.int .i64 E) (x0:=.slice none 0 0) (x1:=.slice none 0 0) (x2:=.slice none 0 0) (x3:=.slice none 0 0) (x4:=.int .i64 0) (x5:=.int .i64 0) A1.out LB.out.1.1 LB.out.1.2.1 LB.out.1.2.2
 show∃v,(results Tryz.f8 _).run prog _=.ok v _/\_
 exact⟨_,lN results8 _ _ d0 d1 d2 _ _ _ _ _ _ _ _ _ _ _ rfl rfl rfl q.1 q.2.1 q.2.2,rfl,qa⟩
theorem dec_good(p:Option Addr)(l c sd N M:Nat)(sk st:Int)(f0:Nat->Nat)(f1 f2:Nat->Int)(f3:Nat->Nat)(w:World)(hR: ∀v,Ab w v->Calls prog 28 #[.slice p l c] v fun e w'=> ∃t0 t1 t2 t3,e=.returned (.tuple #[.int .i64 (sd:Nat),.agg #[.slice (some ⟨t0,0,none⟩) N N,.slice (some ⟨t1,0,none⟩) N N,.slice (some ⟨t2,0,none⟩) N N,.slice (some ⟨t3,0,none⟩) M M,.int .i64 sk,.int .i64 st]])/\Ab v w'/\(v.heap.size<=t0/\v.heap.size<=t1/\v.heap.size<=t2/\v.heap.size<=t3)/\(t0≠t1/\t0≠t2/\t0≠t3/\t1≠t2/\t1≠t3/\t2≠t3)/\w'.rowIs t0 47 N (fun i=>.float .f64 (f0 i))/\w'.rowIs t1 2 N (fun i=>.int .i64 (f1 i))/\w'.rowIs t2 2 N (fun i=>.int .i64 (f2 i))/\w'.rowIs t3 47 M (fun i=>.float .f64 (f3 i))):
  Calls prog 8 #[.slice p l c] w fun e w'=> ∃t0 t1 t2 t3,e=.returned (.tuple #[.int .i64 (sd:Nat),.agg #[.slice (some ⟨t0,0,none⟩) N N,.slice (some ⟨t1,0,none⟩) N N,.slice (some ⟨t2,0,none⟩) N N,.slice (some ⟨t3,0,none⟩) M M,.int .i64 sk,.int .i64 st],.int .i64 0])/\Ab w w'/\(w.heap.size<=t0/\w.heap.size<=t1/\w.heap.size<=t2/\w.heap.size<=t3)/\(t0≠t1/\t0≠t2/\t0≠t3/\t1≠t2/\t1≠t3/\t2≠t3)/\w'.rowIs t0 47 N (fun i=>.float .f64 (f0 i))/\w'.rowIs t1 2 N (fun i=>.int .i64 (f1 i))/\w'.rowIs t2 2 N (fun i=>.int .i64 (f2 i))/\w'.rowIs t3 47 M (fun i=>.float .f64 (f3 i)):=by
 have hmf: ∀(fn:Fn) (first cap:Array Value) (w:World),(Instr.makeFunc fn first cap).run prog w=.ok (.func fn first cap) w:=fun _ _ _ _=>rfl
 have HR:=hid hR
 clear hR
 have e1:(w.alloc (.cells #[.int .i64 0] 3)).heap.size=w.heap.size+1:=bT _ _
 have e2:((w.alloc (.cells #[.int .i64 0] 3)).alloc (.cells #[.slice none 0 0,.slice none 0 0,.slice none 0 0,.slice none 0 0,.int .i64 0,.int .i64 0] 25)).heap.size=w.heap.size+1+1:=by rw[bT,e1]
 have A0:Hid (Ab w (((w.alloc (.cells #[.int .i64 0] 3)).alloc (.cells #[.slice none 0 0,.slice none 0 0,.slice none 0 0,.slice none 0 0,.int .i64 0,.int .i64 0] 25)).alloc (.cells #[.int .i64 0] 28))):=Ab.trans (bl2 _ _ _) (bl1 _ _)
 have D0:Hid ((((w.alloc (.cells #[.int .i64 0] 3)).alloc (.cells #[.slice none 0 0,.slice none 0 0,.slice none 0 0,.slice none 0 0,.int .i64 0,.int .i64 0] 25)).alloc (.cells #[.int .i64 0] 28)).heap[w.heap.size]? =some (.cells #[.int .i64 0] 3)):=Ab.heap (bl2 _ _ _) (heap_alloc_new _ _)
 have D1:Hid ((((w.alloc (.cells #[.int .i64 0] 3)).alloc (.cells #[.slice none 0 0,.slice none 0 0,.slice none 0 0,.slice none 0 0,.int .i64 0,.int .i64 0] 25)).alloc (.cells #[.int .i64 0] 28)).heap[w.heap.size+1]? =some (.cells #[.slice none 0 0,.slice none 0 0,.slice none 0 0,.slice none 0 0,.int .i64 0,.int .i64 0] 25)):=by
  have q:=Ab.heap (bl1 _ (.cells #[.int .i64 0] 28)) (heap_alloc_new (w.alloc (.cells #[.int .i64 0] 3)) (.cells #[.slice none 0 0,.slice none 0 0,.slice none 0 0,.slice none 0 0,.int .i64 0,.int .i64 0] 25))
  rw[e1]at q
  exact q
 have D2:Hid ((((w.alloc (.cells #[.int .i64 0] 3)).alloc (.cells #[.slice none 0 0,.slice none 0 0,.slice none 0 0,.slice none 0 0,.int .i64 0,.int .i64 0] 25)).alloc (.cells #[.int .i64 0] 28)).heap[w.heap.size+1+1]? =some (.cells #[.int .i64 0] 28)):=by
  have q:=heap_alloc_new ((w.alloc (.cells #[.int .i64 0] 3)).alloc (.cells #[.slice none 0 0,.slice none 0 0,.slice none 0 0,.slice none 0 0,.int .i64 0,.int .i64 0] 25)) (.cells #[.int .i64 0] 28)
  rw[e2]at q
  exact q
 clear e1 e2
 go_enter_defers func8,ntmps8
 go_upto_region 1 with fail
 generalize hV:World.alloc (World.alloc (World.alloc w _) _) _=v0 at*
 obtain⟨d0,h0⟩:=aB w.heap.size
 obtain⟨d1,h1⟩:=aB (w.heap.size+1)
 obtain⟨d2,h2⟩:=aB (w.heap.size+1+1)
 have LB:Hid ((w.heap.size<=d0/\w.heap.size<=d1/\w.heap.size<=d2)/\d0≠d1/\d0≠d2/\d1≠d2):=by
  refine⟨⟨?_,?_,?_⟩,?_,?_,?_⟩<;>omega
 rw[h2]at D2 ⊢
 rw[h1]at D1 ⊢
 rw[h0]at D0 ⊢
 clear hV h0 h1 h2
 go_wp2_with fail
 refine(HR.out _ A0.out).mono ?_
 rintro e9 v1 ⟨t0,t1,t2,t3,rfl,b1,l1,dj,r0,r1,r2,r3⟩
 have A1:Hid (Ab w v1):=A0.out.trans b1
 have E0:=hid (Ab.heap b1 D0.out)
 have E1:=hid (Ab.heap b1 D1.out)
 have E2:=hid (Ab.heap b1 D2.out)
 have k0:=lt_of_block D0.out
 have k1:=lt_of_block D1.out
 have k2:=lt_of_block D2.out
 have bs:=Below.size A0.out
 have LT:Hid ((w.heap.size<=t0/\w.heap.size<=t1/\w.heap.size<=t2/\w.heap.size<=t3)/\(t0≠t1/\t0≠t2/\t0≠t3/\t1≠t2/\t1≠t3/\t2≠t3)):=⟨⟨by omega,by omega,by omega,by omega⟩,dj⟩
 have N0:Hid (t0≠d0/\t0≠d1/\t0≠d2):=⟨by omega,by omega,by omega⟩
 have N1:Hid (t1≠d0/\t1≠d1/\t1≠d2):=⟨by omega,by omega,by omega⟩
 have N2:Hid (t2≠d0/\t2≠d1/\t2≠d2):=⟨by omega,by omega,by omega⟩
 have N3:Hid (t3≠d0/\t3≠d1/\t3≠d2):=⟨by omega,by omega,by omega⟩
 have R0:=hid r0
 have R1:=hid r1
 have R2:=hid r2
 have R3:=hid r3
 clear b1 l1 dj r0 r1 r2 r3 k0 k1 k2 bs A0 D0 D1 D2
 have c0:=aA 0 E0.out
 have g0:=aC E0.out 0
 have c10:=aA 0 E1.out
 have g10:=aC E1.out 0
 have c11:=aA 1 E1.out
 have g11:=aC E1.out 1
 have c12:=aA 2 E1.out
 have g12:=aC E1.out 2
 have c13:=aA 3 E1.out
 have g13:=aC E1.out 3
 have c14:=aA 4 E1.out
 have g14:=aC E1.out 4
 have c15:=aA 5 E1.out
 have g15:=aC E1.out 5
 have Q1:=hid (pM (x:=.int .i64 (sd:Nat)) (x0:=.slice (some ⟨t0,0,none⟩) N N) (x1:=.slice (some ⟨t1,0,none⟩) N N) (x2:=.slice (some ⟨t2,0,none⟩) N N) (x3:=.slice (some ⟨t3,0,none⟩) M M) (x4:=.int .i64 sk) (x5:=.int .i64 st) E0.out E1.out E2.out LB.out.2.1 LB.out.2.2.1 LB.out.2.2.2)
 have QA:=hid (ab_seven (x:=.int .i64 (sd:Nat)) (x0:=.slice (some ⟨t0,0,none⟩) N N) (x1:=.slice (some ⟨t1,0,none⟩) N N) (x2:=.slice (some ⟨t2,0,none⟩) N N) (x3:=.slice (some ⟨t3,0,none⟩) M M) (x4:=.int .i64 sk) (x5:=.int .i64 st) A1.out LB.out.1.1 LB.out.1.2.1)
 have S0:=hid (dL (x:=.int .i64 (sd:Nat)) (x0:=.slice (some ⟨t0,0,none⟩) N N) (x1:=.slice (some ⟨t1,0,none⟩) N N) (x2:=.slice (some ⟨t2,0,none⟩) N N) (x3:=.slice (some ⟨t3,0,none⟩) M M) (x4:=.int .i64 sk) (x5:=.int .i64 st) R0.out N0.out.1 N0.out.2.1)
 have S1:=hid (dL (x:=.int .i64 (sd:Nat)) (x0:=.slice (some ⟨t0,0,none⟩) N N) (x1:=.slice (some ⟨t1,0,none⟩) N N) (x2:=.slice (some ⟨t2,0,none⟩) N N) (x3:=.slice (some ⟨t3,0,none⟩) M M) (x4:=.int .i64 sk) (x5:=.int .i64 st) R1.out N1.out.1 N1.out.2.1)
 have S2:=hid (dL (x:=.int .i64 (sd:Nat)) (x0:=.slice (some ⟨t0,0,none⟩) N N) (x1:=.slice (some ⟨t1,0,none⟩) N N) (x2:=.slice (some ⟨t2,0,none⟩) N N) (x3:=.slice (some ⟨t3,0,none⟩) M M) (x4:=.int .i64 sk) (x5:=.int .i64 st) R2.out N2.out.1 N2.out.2.1)
 have S3:=hid (dL (x:=.int .i64 (sd:Nat)) (x0:=.slice (some ⟨t0,0,none⟩) N N) (x1:=.slice (some ⟨t1,0,none⟩) N N) (x2:=.slice (some ⟨t2,0,none⟩) N N) (x3:=.slice (some ⟨t3,0,none⟩) M M) (x4:=.int .i64 sk) (x5:=.int .i64 st) R3.out N3.out.1 N3.out.2.1)
 have n1:=LB.out.2.1
 have n2:=LB.out.2.2.1
 have n3:=LB.out.2.2.2
 go_upto_region 3 with fail
 generalize hV:World.setCell (World.setCell (World.setCell (World.setCell (World.setCell (World.setCell (World.setCell v1 _ _) _ _) _ _) _ _) _ _) _ _) _ _=v2 at*
 clear hV c0 g0 c10 c11 c12 c13 c14 c15 g10 g11 g12 g13 g14 g15 R0 R1 R2 R3 A1 E0 E1 E2
 have c0:=aA 0 Q1.out.1
 have g0:=aC Q1.out.1 0
 have c2:=aA 0 Q1.out.2.2
 have g2:=aC Q1.out.2.2 0
 have c10:=aA 0 Q1.out.2.1
 have g10:=aC Q1.out.2.1 0
 have c11:=aA 1 Q1.out.2.1
 have g11:=aC Q1.out.2.1 1
 have c12:=aA 2 Q1.out.2.1
 have g12:=aC Q1.out.2.1 2
 have c13:=aA 3 Q1.out.2.1
 have g13:=aC Q1.out.2.1 3
 have c14:=aA 4 Q1.out.2.1
 have g14:=aC Q1.out.2.1 4
 have c15:=aA 5 Q1.out.2.1
 have g15:=aC Q1.out.2.1 5
 go_wp2_with fail
 go_region
 go_wp2_with fail
 clear c0 g0 c2 g2 c10 c11 c12 c13 c14 c15 g10 g11 g12 g13 g14 g15
 have Q2:=hQ (x:=.int .i64 (sd:Nat)) (x0:=.slice (some ⟨t0,0,none⟩) N N) (x1:=.slice (some ⟨t1,0,none⟩) N N) (x2:=.slice (some ⟨t2,0,none⟩) N N) (x3:=.slice (some ⟨t3,0,none⟩) M M) (x4:=.int .i64 sk) (x5:=.int .i64 st) (y:=.int .i64 0) Q1.out.1 Q1.out.2.1 Q1.out.2.2 LB.out.2.1 LB.out.2.2.1 LB.out.2.2.2
 have QB:=pN (x:=.int .i64 (sd:Nat)) (x0:=.slice (some ⟨t0,0,none⟩) N N) (x1:=.slice (some ⟨t1,0,none⟩) N N) (x2:=.slice (some ⟨t2,0,none⟩) N N) (x3:=.slice (some ⟨t3,0,none⟩) M M) (x4:=.int .i64 sk) (x5:=.int .i64 st) (y:=.int .i64 0) QA.out LB.out.1.1 LB.out.1.2.1 LB.out.1.2.2
 have P0:=fA (x:=.int .i64 (sd:Nat)) (x0:=.slice (some ⟨t0,0,none⟩) N N) (x1:=.slice (some ⟨t1,0,none⟩) N N) (x2:=.slice (some ⟨t2,0,none⟩) N N) (x3:=.slice (some ⟨t3,0,none⟩) M M) (x4:=.int .i64 sk) (x5:=.int .i64 st) (y:=.int .i64 0) S0.out N0.out.1 N0.out.2.1 N0.out.2.2
 have P1:=fA (x:=.int .i64 (sd:Nat)) (x0:=.slice (some ⟨t0,0,none⟩) N N) (x1:=.slice (some ⟨t1,0,none⟩) N N) (x2:=.slice (some ⟨t2,0,none⟩) N N) (x3:=.slice (some ⟨t3,0,none⟩) M M) (x4:=.int .i64 sk) (x5:=.int .i64 st) (y:=.int .i64 0) S1.out N1.out.1 N1.out.2.1 N1.out.2.2
 have P2:=fA (x:=.int .i64 (sd:Nat)) (x0:=.slice (some ⟨t0,0,none⟩) N N) (x1:=.slice (some ⟨t1,0,none⟩) N N) (x2:=.slice (some ⟨t2,0,none⟩) N N) (x3:=.slice (some ⟨t3,0,none⟩) M M) (x4:=.int .i64 sk) (x5:=.int .i64 st) (y:=.int .i64 0) S2.out N2.out.1 N2.out.2.1 N2.out.2.2
 have P3:=fA (x:=.int .i64 (sd:Nat)) (x0:=.slice (some ⟨t0,0,none⟩) N N) (x1:=.slice (some ⟨t1,0,none⟩) N N) (x2:=.slice (some ⟨t2,0,none⟩) N N) (x3:=.slice (some ⟨t3,0,none⟩) M M) (x4:=.int .i64 sk) (x5:=.int .i64 st) (y:=.int .i64 0) S3.out N3.out.1 N3.out.2.1 N3.out.2.2
 generalize World.setCell (World.setCell (World.setCell (World.setCell (World.setCell (World.setCell (World.setCell (World.setCell v2 _ _) _ _) _ _) _ _) _ _) _ _) _ _) _ _=v3 at*
 refine leaves_cons (f:=26) (args:= #[.pointer (some ⟨d0,0,none⟩),.pointer (some ⟨d1,0,none⟩),.pointer (some ⟨d2,0,none⟩)]) (by simp) (by simp[go_sem]) ?_
 refine(qP d0 d1 d2 _).mono ?_
 rintro e u' w9 ⟨rfl,rfl,rfl⟩
 show∃v,(results Tryz.f8 _).run prog _=.ok v _/\_
 refine⟨_,lN results8 _ _ d0 d1 d2 _ _ _ _ _ _ _ _ _ _ _ rfl rfl rfl (by rw[eZ];exact Q2.1) (by rw[eZ];exact Q2.2.1) (by rw[eZ];exact Q2.2.2),?_⟩
 exact⟨t0,t1,t2,t3,rfl,QB.drew,LT.out.1,LT.out.2,eL P0,eL P1,eL P2,eL P3⟩
end Sv
end
end Go.Proofs.YtlmfpikhlcnjjaaGreatDoor
