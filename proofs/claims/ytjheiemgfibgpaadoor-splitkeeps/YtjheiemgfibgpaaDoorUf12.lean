/-
  Some of the texts of this proof, one behind the other.
-/
import Derived.Test.YtjheiemgfibgpaaDoorUf11
set_option maxRecDepth 100000
set_option maxHeartbeats 400000000
namespace Go.Proofs.YtjheiemgfibgpaaDoor
open _root_.Go.Proofs.Tryd
section
open Go.RowKit Tf Cu Go.Deep
attribute [local go_sem] aK aL aM aN aO aP aR aE
namespace Spl
theorem own_at22{B n P gl gc ge:Nat}{X:Nat->Value}{w w':World}{Q:Nat->Prop}(hn:1<=n/\n<=32)(h:OwnPs B n P gl gc ge X w)(a:AbQ w Q w')(hq: ∀k,B<=k-> ¬Q k): ∃p c,PsAt n P gl p c w':=by
 obtain⟨p,c,hX,ps⟩:=kR hn h
 refine⟨p,c,Nat.lt_of_lt_of_le ps.1 a.2.2.2.1,fun i hi=>⟨(a.cell ps.1 (hq gl h.2.2.2.1.1)).trans (ps.2 i hi).1,?_⟩⟩
 obtain⟨p',b',o',c',l⟩:=ly_one hn h hi
 by_cases hz:0<(lsP n P i).length
 ·refine a.isI (ps.2 i hi).2 (fun b o e=> ?_)
  obtain⟨q1,q2,-⟩:=l.addr (Nat.lt_of_lt_of_le hz l.le.1)
  have e1:=l.val
  rw[hX i hi,e,q1]at e1
  injection e1 with e2 e3 e4
  injection e2 with e2
  injection e2 with e2
  rw[e2]
  exact hq _ q2
 ·exact fun k hk=>absurd hk (by omega)
def Cp(gt bb bw bt bs lb lw lt ls:Nat)(B:Nat->Nat)(Wt T:Nat->Int)(S:Nat->Nat)(sky st:Int)(v:World):Prop:=
 v.heap[gt]? =some (.cells #[.slice (some ⟨bb,0,none⟩) lb (lb+9),.slice (some ⟨bw,0,none⟩) lw (lw+9),.slice (some ⟨bt,0,none⟩) lt (lt+9),.slice (some ⟨bs,0,none⟩) ls (ls+9),.int .i64 sky,.int .i64 st] 41)/\v.rowIs bb 45 (lb+9) (mkF lb (fun k=>.float .f64 (B k)) (.float .f64 4635118810238550016) (.float .f64 0))/\v.rowIs bw 2 (lw+9) (mkF lw (fun k=>.int .i64 (Wt k)) (.int .i64 77) (.int .i64 0))/\v.rowIs bt 2 (lt+9) (mkF lt (fun k=>.int .i64 (T k)) (.int .i64 77) (.int .i64 0))/\v.rowIs bs 45 (ls+9) (mkF ls (fun k=>.float .f64 (S k)) (.float .f64 4635118810238550016) (.float .f64 0))
theorem Cp.to{gt bb bw bt bs lb lw lt ls:Nat}{B:Nat->Nat}{Wt T:Nat->Int}{S:Nat->Nat}{sky st:Int}{v v':World}(h:Cp gt bb bw bt bs lb lw lt ls B Wt T S sky st v)(a:Ab v v'):Cp gt bb bw bt bs lb lw lt ls B Wt T S sky st v':=
 ⟨a.heap h.1,rowIs.ab h.2.1 a,rowIs.ab h.2.2.1 a,rowIs.ab h.2.2.2.1 a,rowIs.ab h.2.2.2.2 a⟩
theorem sea_nw4{M:Nat}{vv:Value}{n m:Nat}{A:Nat->Nat}{B C:Nat->Int}{D:Nat->Nat}{sk st:Int}{u:World}(h:OwnS M vv n n n m A B C D sk st u)(hb:Bnd n n n m A B C D):
  ∃p1 c1 p2 c2 p3 c3 p4 c4,vv=.agg #[.slice p1 n c1,.slice p2 n c2,.slice p3 n c3,.slice p4 m c4,.int .i64 sk,.int .i64 st]/\SeaP u.heap.size p1 c1 p2 c2 p3 c3 p4 c4 n n n m A B C D sk st (u.alloc (.cells #[.slice p1 n c1,.slice p2 n c2,.slice p3 n c3,.slice p4 m c4,.int .i64 sk,.int .i64 st] 41))/\Mb M p1 p2 p3 p4/\((0<n/\0<m)->Rw4 M p1 p2 p3 p4 n m A B C D (u.alloc (.cells #[.slice p1 n c1,.slice p2 n c2,.slice p3 n c3,.slice p4 m c4,.int .i64 sk,.int .i64 st] 41))):=by
 obtain⟨p1,c1,p2,c2,p3,c3,p4,c4,e,s,mm⟩:=iM h hb
 subst e
 exact⟨p1,c1,p2,c2,p3,c3,p4,c4,rfl,s,mm,fun hn=>(h.rw4 hn.1 hn.2).eq (fun b _ lt=>Below.heap_alloc _ _ _ lt)⟩
theorem sE{U z:World}{g:Nat}{vv:Value}{n m:Nat}{A:Nat->Nat}{B C:Nat->Int}{D:Nat->Nat}{sk st:Int}(q:U.heap[g]? =some (.cells #[.slice none 0 0,.slice none 0 0,.slice none 0 0,.slice none 0 0,.int .i64 0,.int .i64 0] 41))(b:Ab U z)(os:OwnS U.heap.size vv n n n m A B C D sk st z)(hb:Bnd n n n m A B C D):
  ∃p1 c1 p2 c2 p3 c3 p4 c4,vv=.agg #[.slice p1 n c1,.slice p2 n c2,.slice p3 n c3,.slice p4 m c4,.int .i64 sk,.int .i64 st]/\z.heap[g]? =some (.cells #[.slice none 0 0,.slice none 0 0,.slice none 0 0,.slice none 0 0,.int .i64 0,.int .i64 0] 41)/\SeaP g p1 c1 p2 c2 p3 c3 p4 c4 n n n m A B C D sk st ((((((z.setCell ⟨g,0,none⟩ (.slice p1 n c1)).setCell ⟨g,1,none⟩ (.slice p2 n c2)).setCell ⟨g,2,none⟩ (.slice p3 n c3)).setCell ⟨g,3,none⟩ (.slice p4 m c4)).setCell ⟨g,4,none⟩ (.int .i64 sk)).setCell ⟨g,5,none⟩ (.int .i64 st))/\Mb U.heap.size p1 p2 p3 p4/\
   ((0<n/\0<m)->Rw4 U.heap.size p1 p2 p3 p4 n m A B C D ((((((z.setCell ⟨g,0,none⟩ (.slice p1 n c1)).setCell ⟨g,1,none⟩ (.slice p2 n c2)).setCell ⟨g,2,none⟩ (.slice p3 n c3)).setCell ⟨g,3,none⟩ (.slice p4 m c4)).setCell ⟨g,4,none⟩ (.int .i64 sk)).setCell ⟨g,5,none⟩ (.int .i64 st))):=by
 obtain⟨p1,c1,p2,c2,p3,c3,p4,c4,e,hz,s,mm⟩:=eA q b os hb
 subst e
 have lt:=lt_of_block q
 exact⟨p1,c1,p2,c2,p3,c3,p4,c4,rfl,hz,s,mm,fun hn=>(os.rw4 hn.1 hn.2).eq (fun b' hb' _=>bG (by omega))⟩
def W4(g1 k1 g2 k2 g3 k3 g4 k4:Nat)(v:World):Prop:=(∃F,v.rowIs g1 45 k1 F)/\(∃F,v.rowIs g2 2 k2 F)/\(∃F,v.rowIs g3 2 k3 F)/\ ∃F,v.rowIs g4 45 k4 F
theorem iO{v:World}{g g' n k:Nat}{t:TypeId}{x:Value}(h: ∃F,v.rowIs g t n F): ∃F,(v.setCell ⟨g',k,none⟩ x).rowIs g t n F:=by
 obtain⟨F,h⟩:=h
 by_cases e:g=g'
 ·subst e
  exact⟨_,h.set k x⟩
 ·exact⟨F,row_far h e⟩
theorem W4.set{g1 k1 g2 k2 g3 k3 g4 k4 g k:Nat}{v:World}(x:Value)(h:W4 g1 k1 g2 k2 g3 k3 g4 k4 v):W4 g1 k1 g2 k2 g3 k3 g4 k4 (v.setCell ⟨g,k,none⟩ x):=⟨iO h.1,iO h.2.1,iO h.2.2.1,iO h.2.2.2⟩
theorem W4.to{g1 k1 g2 k2 g3 k3 g4 k4:Nat}{v v':World}(h:W4 g1 k1 g2 k2 g3 k3 g4 k4 v)(a:Ab v v'):W4 g1 k1 g2 k2 g3 k3 g4 k4 v':=by
 obtain⟨⟨F1,h1⟩,⟨F2,h2⟩,⟨F3,h3⟩,F4,h4⟩:=h
 exact⟨⟨F1,rowIs.ab h1 a⟩,⟨F2,rowIs.ab h2 a⟩,⟨F3,rowIs.ab h3 a⟩,F4,rowIs.ab h4 a⟩
theorem iP{v:World}{g gm n:Nat}{t:TypeId}{F:Nat->Value}{cs:Array Value}(h:v.rowIs g t n F)(q:v.heap[gm]? =some (.cells cs 41))(ht:t≠41):g≠gm:=fun e=>by
 obtain⟨cc,hc,-⟩:=h
 rw[e,q]at hc
 injection hc with hc
 injection hc with h1 h2
 exact ht h2.symm
def Qm(lo hi gm k:Nat):Prop:=lo<=k/\k<hi/\k≠gm
theorem rw_any{M gm N Mm:Nat}{p1 p2 p3 p4:Option Addr}{A:Nat->Nat}{B C:Nat->Int}{D:Nat->Nat}{cs:Array Value}{v:World}(q:v.heap[gm]? =some (.cells cs 41))(h:(0<N/\0<Mm)->Rw4 M p1 p2 p3 p4 N Mm A B C D v): ∃g1 k1 g2 k2 g3 k3 g4 k4,(0<N/\0<Mm)->(p1=some ⟨g1,0,none⟩/\p2=some ⟨g2,0,none⟩/\p3=some ⟨g3,0,none⟩/\p4=some ⟨g4,0,none⟩)/\(N<=k1/\N<=k2/\N<=k3/\Mm<=k4)/\(Qm M v.heap.size gm g1/\Qm M v.heap.size gm g2/\Qm M v.heap.size gm g3/\Qm M v.heap.size gm g4)/\W4 g1 k1 g2 k2 g3 k3 g4 k4 v:=by
 by_cases h0:0<N/\0<Mm
 ·obtain⟨g1,k1,F1,g2,k2,F2,g3,k3,F3,g4,k4,F4,h1,⟨r1,r2,r3,r4⟩,h3,⟨m1,m2,m3,m4⟩,-,-⟩:=h h0
  exact⟨g1,k1,g2,k2,g3,k3,g4,k4,fun _=>⟨h1,h3,⟨⟨m1,r1.lt,iP r1 q (by decide)⟩,⟨m2,r2.lt,iP r2 q (by decide)⟩,⟨m3,r3.lt,iP r3 q (by decide)⟩,⟨m4,r4.lt,iP r4 q (by decide)⟩⟩,⟨_,r1⟩,⟨_,r2⟩,⟨_,r3⟩,_,r4⟩⟩
 ·exact⟨0,0,0,0,0,0,0,0,fun h=>absurd h h0⟩
theorem pH(side:Int)(n N M P:Nat)(pb:Option Addr)(lb cb:Nat)(pw:Option Addr)(lw cw:Nat)(pt:Option Addr)(lt ct:Nat)(ps:Option Addr)(ls cs:Nat)(sky st er st2:Int)(B:Nat->Nat)(Wt T:Nat->Int)(S:Nat->Nat)(A:Nat->Nat->Nat)(Wk Tk:Nat->Nat->Int)(Sk:Nat->Nat->Nat)(w:World)(hn:1<=n/\n<=32)(hP:1<=P/\P<=64)(hN:N<=6144/\M<=12288)(hNM:(0<N->0<M)/\(0<M->0<N))(hL:lb<=65536/\lw<=65536/\lt<=65536/\ls<=65536)
  (LV:Hid (∀v,Ab w v->Calls prog 6 #[] v fun e w'=>e=.returned (.bool true)/\Below v.heap.size v w'))
  (NW:Hid (∀v,Ab w v->Calls prog 7 #[.int .i64 side] v fun e w'=> ∃gb,e=.returned (.tuple #[.pointer (some ⟨gb,0,none⟩),.int .i64 0])/\Ab v w'/\v.heap.size<=gb/\GridOf n gb w'))
  (LG:Hid (∀v,Calls prog 12 #[.agg #[.slice pb lb cb,.slice pw lw cw,.slice pt lt ct,.slice ps ls cs,.int .i64 sky,.int .i64 st]] v fun e w'=>e=.returned (.bool false)/\Below v.heap.size v w'))
  (SP:Hid (∀v gb,GridOf n gb v->Calls prog 8 #[.pointer (some ⟨gb,0,none⟩),.int .i64 (P:Nat)] v fun e w'=> ∃gl gc ge X,e=.returned (.tuple #[.slice (some ⟨gl,0,none⟩) P P,.int .i64 0])/\Below v.heap.size v w'/\OwnPs v.heap.size n P gl gc ge X w'))
  (LK:Hid (∀v gb gl p c k pb cb pw cw pt ct ps cs,k<P->Ab w v->GridOf n gb v->PsAt n P gl p c v->IsFl v pb lb B->Sh.IsI v pw lw Wt->Sh.IsI v pt lt T->IsFl v ps ls S->Calls prog 13 #[.pointer (some ⟨gb,0,none⟩),.agg #[.slice (p (k*3)) (lsP n P (k*3)).length (c (k*3)),.slice (p (k*3+1)) (lsP n P (k*3+1)).length (c (k*3+1)),.slice (p (k*3+2)) (lsP n P (k*3+2)).length (c (k*3+2))],.agg #[.slice pb lb cb,.slice pw lw cw,.slice pt lt ct,.slice ps ls cs,.int .i64 sky,.int .i64 st]] v fun e w'=> ∃s,e=.returned (.tuple #[s,.int .i64 er])/\Below v.heap.size v w'/\OwnS v.heap.size s N N N M (A k) (Wk k) (Tk k) (Sk k) 0 st2 w'))
  (BN:Hid (∀k,Bnd N N N M (A k) (Wk k) (Tk k) (Sk k)))
  (IB:Hid (IsFl w pb lb B)) (IW:Hid (Sh.IsI w pw lw Wt)) (IT:Hid (Sh.IsI w pt lt T)) (IS:Hid (IsFl w ps ls S)):
  Calls prog 5 #[.int .i64 side,.int .i64 (P:Nat),.agg #[.slice pb lb cb,.slice pw lw cw,.slice pt lt ct,.slice ps ls cs,.int .i64 sky,.int .i64 st]] w fun e w'=>e=.returned (.bool true)/\Below w.heap.size w w':=by
 have HN:=hid (And.intro hN hNM)
 have HL:=hid hL
 have HPP:=hid (And.intro hn hP)
 have nB:(N:Int)<=6144:=by omega
 have mB:(M:Int)<=12288:=by omega
 have pB:(P:Int)<=64:=by omega
 clear hN hNM hL hn hP
 obtain⟨A0,S0⟩:=dT w (.cells #[.slice pb lb cb,.slice pw lw cw,.slice pt lt ct,.slice ps ls cs,.int .i64 sky,.int .i64 st] 41)
 go_enter func5,ntmps5
 go_upto_region 1 with fail
 obtain⟨gs,hgs⟩:=aB w.heap.size
 generalize hW:World.alloc w _=W at*
 rw[hgs]at S0 ⊢
 clear hgs hW
 go_wp2_with fail
 refine(LV.out _ A0.out).mono ?_
 rintro e9 v1 ⟨rfl,k1⟩
 have A1:Hid (Ab w v1):=A0.out.call k1
 have S1:=hid (Ab.heap k1 S0.out)
 clear k1 A0 S0 LV
 go_wp2_with fail
 refine(NW.out v1 A1.out).mono ?_
 rintro e9 v2 ⟨gb,rfl,k2,-,g2⟩
 have A2:Hid (Ab w v2):=A1.out.trans k2
 have S2:=hid (Ab.heap k2 S1.out)
 have G2:=hid g2
 clear k2 g2 NW A1 S1
 have s0:=aG (S2.out)
 go_wp2_with fail
 refine(LG.out v2).mono ?_
 rintro e9 v3 ⟨rfl,k3⟩
 have A3:Hid (Ab w v3):=A2.out.trans k3
 have S3:=hid (Ab.heap k3 S2.out)
 have G3:=hid (G2.out.to k3)
 clear k3 A2 S2 G2 LG s0
 go_wp2_with fail
 refine(SP.out v3 gb G3.out).mono ?_
 rintro e9 v4 ⟨gl1,gc1,ge1,X1,rfl,k4,ow1⟩
 have OW1:=hid ow1
 have K4:Hid (Ab v3 v4):=k4
 have G4:=hid (G3.out.to k4)
 clear k4 ow1
 go_wp2_with fail
 refine(SP.out v4 gb G4.out).mono ?_
 rintro e9 v5 ⟨gl,gc,ge,X,rfl,k5,ow2⟩
 have OW2:=hid ow2
 have K5:Hid (Ab v4 v5):=k5
 clear k5 ow2 G4
 go_wp2_with fail
 refine(oV HPP.out.1 HPP.out.2 OW1.out K5.out).mono ?_
 rintro e9 v6 ⟨rfl,q6⟩
 obtain⟨qp,qc,ps6⟩:=own_at22 HPP.out.1 OW2.out q6 (fun k h1 h2=>by omega)
 have A36:Ab v3 v6:=q6.ab (K4.out.trans K5.out) (fun k hk h=>by omega)
 have A6:Hid (Ab w v6):=A3.out.trans A36
 have S6:=hid (Ab.heap A36 S3.out)
 have G6:=hid (G3.out.to A36)
 have Q6:=hid ps6
 clear q6 ps6 A36 OW1 OW2 K4 K5 A3 S3 G3 SP
 have CP:=hid (pG pb pw pt ps lb cb lw cw lt ct ls cs B Wt T S sky st v6 (IB.out.below A6.out) (IW.out.below A6.out) (IT.out.below A6.out) (IS.out.below A6.out) HL.out)
 have s0:=aG (S6.out)
 go_wp2_with fail
 refine CP.out.mono ?_
 rintro e9 v7 ⟨bb,bw,bt,bs,rfl,k7,rb,rw7,rt,rs,hb⟩
 have K7:Hid (Ab v6 v7):=k7
 have R8:Hid (Cp v7.heap.size bb bw bt bs lb lw lt ls B Wt T S sky st (v7.alloc (.cells #[.slice (some ⟨bb,0,none⟩) lb (lb+9),.slice (some ⟨bw,0,none⟩) lw (lw+9),.slice (some ⟨bt,0,none⟩) lt (lt+9),.slice (some ⟨bs,0,none⟩) ls (ls+9),.int .i64 sky,.int .i64 st] 41))):=⟨heap_alloc_new _ _,rowIs.ab rb (bl1 _ _),rowIs.ab rw7 (bl1 _ _),rowIs.ab rt (bl1 _ _),rowIs.ab rs (bl1 _ _)⟩
 have A8:Hid (Ab v6 (v7.alloc (.cells #[.slice (some ⟨bb,0,none⟩) lb (lb+9),.slice (some ⟨bw,0,none⟩) lw (lw+9),.slice (some ⟨bt,0,none⟩) lt (lt+9),.slice (some ⟨bs,0,none⟩) ls (ls+9),.int .i64 sky,.int .i64 st] 41))):=K7.out.trans (bl1 _ _)
 go_upto_region 13 with fail
 generalize hW:World.alloc v7 _=v8 at*
 obtain⟨gt,hgt⟩:=aB v7.heap.size
 rw[hgt]at R8 ⊢
 clear hgt hW k7 rb rw7 rt rs hb CP s0 K7
 have G8:=hid (G6.out.to A8.out)
 have S8:=hid (Ab.heap A8.out S6.out)
 have Q8:=hid (Q6.out.to A8.out)
 have W8:Hid (Ab w v8):=A6.out.trans A8.out
 clear G6 S6 Q6 A6 A8
 go_wp2_with fail
 go_loopw [14] (fun kv wr=> ∃k:Nat,k<=P/\kv=.int .i64 (k:Nat)/\Ab v8 wr) (fun kv _=>P - (intOf kv).toNat)
 case atStart=>exact⟨0,by omega,rfl,Ab.refl _⟩
 case round=>
  obtain⟨k,hk,rfl,ar⟩:=hrel
  have AR:=hid ar
  have HKL:=hid hk
  have kB:(k:Int)<=64:=by omega
  clear ar hk
  by_cases hkn:k<P
  ·have kI:(k:Int)<P:=by omega
   by_cases hk3:k<3
   ·have k3:(k:Int)<3:=by omega
    have HK:=hid hkn
    have QR:=hid (Q8.out.to AR.out)
    have GR:=hid (G8.out.to AR.out)
    have SR:=hid (Ab.heap AR.out S8.out)
    have CR:=hid (R8.out.to AR.out)
    have WR:Hid (Ab w wr):=W8.out.trans AR.out
    have l0:=(QR.out.2 (k*3) (by omega)).1
    have l1:=(QR.out.2 (k*3+1) (by omega)).1
    have l2:=(QR.out.2 (k*3+2) (by omega)).1
    have GLr:Hid (gl<wr.heap.size):=QR.out.1
    have LKt:=hid (fun v (a:Ab wr v)=>LK.out v gb gl qp qc k (some ⟨bb,0,none⟩) (lb+9) (some ⟨bw,0,none⟩) (lw+9) (some ⟨bt,0,none⟩) (lt+9) (some ⟨bs,0,none⟩) (ls+9) hkn (WR.out.trans a) (GR.out.to a) (QR.out.to a) (mk_fl (CR.out.to a).2.1 (fun k hk=>(IB.out k hk).1)) (mk_in (CR.out.to a).2.2.1 (fun k hk=>(IW.out k hk).1)) (mk_in (CR.out.to a).2.2.2.1 (fun k hk=>(IT.out k hk).1)) (mk_fl (CR.out.to a).2.2.2.2 (fun k hk=>(IS.out k hk).1)))
    have LKs:=hid (fun v (a:Ab wr v)=>LK.out v gb gl qp qc k pb cb pw cw pt ct ps cs hkn (WR.out.trans a) (GR.out.to a) (QR.out.to a) (IB.out.below (WR.out.trans a)) (IW.out.below (WR.out.trans a)) (IT.out.below (WR.out.trans a)) (IS.out.below (WR.out.trans a)))
    have BF:=hid (BN.out k)
    generalize A k=Ak at*
    generalize Wk k=Wkk at*
    generalize Tk k=Tkk at*
    generalize Sk k=Skk at*
    generalize(lsP n P (k*3)).length=la at*
    generalize(lsP n P (k*3+1)).length=le at*
    generalize(lsP n P (k*3+2)).length=lh at*
    generalize qp (k*3)=qa at*
    generalize qp (k*3+1)=qe at*
    generalize qp (k*3+2)=qh at*
    generalize qc (k*3)=ca at*
    generalize qc (k*3+1)=ce at*
    generalize qc (k*3+2)=ch at*
    clear hkn hk3
    go_upto_region 16 with fail
    have K0:=hid l0
    have K1:=hid l1
    have K2:=hid l2
    clear l0 l1 l2
    have LKm:Hid (∀v,Ab wr v->_):=hid (fun v a=>(LKt.out v a).mono (fun _ _ ⟨s,h1,h2,h3⟩=>(⟨s,h1,h2,h3,a⟩: ∃s,_=Ending.returned (.tuple #[s,.int .i64 er])/\Below v.heap.size v _/\OwnS v.heap.size s N N N M Ak Wkk Tkk Skk 0 st2 _/\Ab wr v)))
    go_cut [15,16]from 73 to 172 (fun s15 s16 wx=> ∃gm mp1 mc1 mp2 mc2 mp3 mc3 mp4 mc4,s16=.int .i64 er/\s15=.pointer (some ⟨gm,0,none⟩)/\Ab wr wx/\wr.heap.size<=gm/\SeaP gm mp1 mc1 mp2 mc2 mp3 mc3 mp4 mc4 N N N M Ak Wkk Tkk Skk 0 st2 wx/\((∀b o,mp1=some ⟨b,o,none⟩->wr.heap.size<=b)/\(∀b o,mp2=some ⟨b,o,none⟩->wr.heap.size<=b)/\(∀b o,mp3=some ⟨b,o,none⟩->wr.heap.size<=b)/\ ∀b o,mp4=some ⟨b,o,none⟩->wr.heap.size<=b)/\((0<N/\0<M)->Rw4 wr.heap.size mp1 mp2 mp3 mp4 N M Ak Wkk Tkk Skk wx))
    case first=>
     have av:Ab wr wr:=Ab.refl _
     have KS:Hid (∀w',Ab wr w'->Ab wr w'/\w'.cell? ⟨gl,k*3,none⟩=some (.slice qa la ca)/\w'.cell? ⟨gl,k*3+1,none⟩=some (.slice qe le ce)/\w'.cell? ⟨gl,k*3+2,none⟩=some (.slice qh lh ch)/\w'.cell? ⟨gt,0,none⟩=some (.slice (some ⟨bb,0,none⟩) lb (lb+9))/\w'.cell? ⟨gt,1,none⟩=some (.slice (some ⟨bw,0,none⟩) lw (lw+9))/\w'.cell? ⟨gt,2,none⟩=some (.slice (some ⟨bt,0,none⟩) lt (lt+9))/\w'.cell? ⟨gt,3,none⟩=some (.slice (some ⟨bs,0,none⟩) ls (ls+9))/\w'.cell? ⟨gt,4,none⟩=some (.int .i64 sky)/\w'.cell? ⟨gt,5,none⟩=some (.int .i64 st)):=fun w' h=>⟨h,(Below.cell (h) GLr.out).trans K0.out,(Below.cell (h) GLr.out).trans K1.out,(Below.cell (h) GLr.out).trans K2.out,aA 0 (h.heap CR.out.1),aA 1 (h.heap CR.out.1),aA 2 (h.heap CR.out.1),aA 3 (h.heap CR.out.1),aA 4 (h.heap CR.out.1),aA 5 (h.heap CR.out.1)⟩
     go_region_held3 (fun w'=>Ab wr w'/\w'.cell? ⟨gl,k*3,none⟩=some (.slice qa la ca)/\w'.cell? ⟨gl,k*3+1,none⟩=some (.slice qe le ce)/\w'.cell? ⟨gl,k*3+2,none⟩=some (.slice qh lh ch)/\w'.cell? ⟨gt,0,none⟩=some (.slice (some ⟨bb,0,none⟩) lb (lb+9))/\w'.cell? ⟨gt,1,none⟩=some (.slice (some ⟨bw,0,none⟩) lw (lw+9))/\w'.cell? ⟨gt,2,none⟩=some (.slice (some ⟨bt,0,none⟩) lt (lt+9))/\w'.cell? ⟨gt,3,none⟩=some (.slice (some ⟨bs,0,none⟩) ls (ls+9))/\w'.cell? ⟨gt,4,none⟩=some (.int .i64 sky)/\w'.cell? ⟨gt,5,none⟩=some (.int .i64 st)) ((refine KS.out _ ?_;(with_reducible (repeat(first | assumption | apply Ab.drew | apply Ab.alloc | (refine Ab.setk ?_ (by first | assumption | exact Nat.le_refl _) _))));done)) (first
      | (go_at_call 13;refine(LKm.out _ (show Ab wr _ by with_reducible (repeat(first | assumption | apply Ab.drew | apply Ab.alloc)))).mono ?_;rintro e9 z2 ⟨vv,rfl,c2,os,lo⟩;have az2:Ab wr z2:=Ab.trans lo c2;have LO:=hid (Ab.size lo);clear lo;first
        | (have q0:=Ab.heap c2 (aX _ _);obtain⟨mp1,mc1,mp2,mc2,mp3,mc3,mp4,mc4,rfl,q2,FIN,MM,RW⟩:=sE (aX _ _) c2 os BF.out;have t0:=aA 0 q2;have f0:=aC q2 0;have t1:=aA 1 q2;have f1:=aC q2 1;have t2:=aA 2 q2;have f2:=aC q2 2;have t3:=aA 3 q2;have f3:=aC q2 3;have t4:=aA 4 q2;have f4:=aC q2 4;have t5:=aA 5 q2;have f5:=aC q2 5;skip)
        | (have q0:=Ab.heap c2 (heap_alloc_new _ _);obtain⟨mp1,mc1,mp2,mc2,mp3,mc3,mp4,mc4,rfl,q2,FIN,MM,RW⟩:=sE (heap_alloc_new _ _) c2 os BF.out;have t0:=aA 0 q2;have f0:=aC q2 0;have t1:=aA 1 q2;have f1:=aC q2 1;have t2:=aA 2 q2;have f2:=aC q2 2;have t3:=aA 3 q2;have f3:=aC q2 3;have t4:=aA 4 q2;have f4:=aC q2 4;have t5:=aA 5 q2;have f5:=aC q2 5;skip)
        | (obtain⟨mp1,mc1,mp2,mc2,mp3,mc3,mp4,mc4,rfl,FIN,MM,RW⟩:=sea_nw4 os BF.out)))
     all_goals(try go_wp2_with fail)
     all_goals(try go_meet)
     all_goals first
      | (have q9:=q2;exact⟨_,_,_,_,_,_,_,_,_,rfl,rfl,(((((az2.setk (Nat.le_refl _) _).setk (Nat.le_refl _) _).setk (Nat.le_refl _) _).setk (Nat.le_refl _) _).setk (Nat.le_refl _) _).setk (Nat.le_refl _) _,Nat.le_refl _,FIN,MM.up LO.out,fun hnm=>(RW hnm).low LO.out⟩)
      | exact⟨_,_,_,_,_,_,_,_,_,rfl,rfl,az2.alloc _,az2.size,FIN,MM.up LO.out,fun hnm=>(RW hnm).low LO.out⟩
    case rest=>
     obtain⟨gm,mp1,mc1,mp2,mc2,mp3,mc3,mp4,mc4,rfl,rfl,ac,ltm,spm,mmm,rwm⟩:=hcut
     rename World=>va
     have AA:Hid (Ab wr va):=ac
     have MA:=hid spm
     have RWA:=hid (rw_any spm.1 rwm)
     have LM:Hid (wr.heap.size<=gm):=ltm
     clear ac ltm spm mmm rwm LKm
     have LKn:Hid (∀v,Ab va v->_):=hid (fun v a=>(LKt.out v (AA.out.trans a)).mono (fun _ _ ⟨s,h1,h2,h3⟩=>(⟨s,h1,h2,h3,a⟩: ∃s,_=Ending.returned (.tuple #[s,.int .i64 er])/\Below v.heap.size v _/\OwnS v.heap.size s N N N M Ak Wkk Tkk Skk 0 st2 _/\Ab va v)))
     have CA:=hid (CR.out.to AA.out)
     go_upto_region 17 with fail
     go_cut [17,18]from 73 to 172 (fun s17 s18 wx=> ∃gn np1 nc1 np2 nc2 np3 nc3 np4 nc4,s18=.int .i64 er/\s17=.pointer (some ⟨gn,0,none⟩)/\Ab va wx/\va.heap.size<=gn/\SeaP gn np1 nc1 np2 nc2 np3 nc3 np4 nc4 N N N M Ak Wkk Tkk Skk 0 st2 wx/\((∀b o,np1=some ⟨b,o,none⟩->va.heap.size<=b)/\(∀b o,np2=some ⟨b,o,none⟩->va.heap.size<=b)/\(∀b o,np3=some ⟨b,o,none⟩->va.heap.size<=b)/\ ∀b o,np4=some ⟨b,o,none⟩->va.heap.size<=b))
     case first=>
      have av:Ab va va:=Ab.refl _
      have KS:Hid (∀w',Ab va w'->Ab va w'/\w'.cell? ⟨gl,k*3,none⟩=some (.slice qa la ca)/\w'.cell? ⟨gl,k*3+1,none⟩=some (.slice qe le ce)/\w'.cell? ⟨gl,k*3+2,none⟩=some (.slice qh lh ch)/\w'.cell? ⟨gt,0,none⟩=some (.slice (some ⟨bb,0,none⟩) lb (lb+9))/\w'.cell? ⟨gt,1,none⟩=some (.slice (some ⟨bw,0,none⟩) lw (lw+9))/\w'.cell? ⟨gt,2,none⟩=some (.slice (some ⟨bt,0,none⟩) lt (lt+9))/\w'.cell? ⟨gt,3,none⟩=some (.slice (some ⟨bs,0,none⟩) ls (ls+9))/\w'.cell? ⟨gt,4,none⟩=some (.int .i64 sky)/\w'.cell? ⟨gt,5,none⟩=some (.int .i64 st)):=fun w' h=>⟨h,(Below.cell (AA.out.trans h) GLr.out).trans K0.out,(Below.cell (AA.out.trans h) GLr.out).trans K1.out,(Below.cell (AA.out.trans h) GLr.out).trans K2.out,aA 0 (h.heap CA.out.1),aA 1 (h.heap CA.out.1),aA 2 (h.heap CA.out.1),aA 3 (h.heap CA.out.1),aA 4 (h.heap CA.out.1),aA 5 (h.heap CA.out.1)⟩
      go_region_held3 (fun w'=>Ab va w'/\w'.cell? ⟨gl,k*3,none⟩=some (.slice qa la ca)/\w'.cell? ⟨gl,k*3+1,none⟩=some (.slice qe le ce)/\w'.cell? ⟨gl,k*3+2,none⟩=some (.slice qh lh ch)/\w'.cell? ⟨gt,0,none⟩=some (.slice (some ⟨bb,0,none⟩) lb (lb+9))/\w'.cell? ⟨gt,1,none⟩=some (.slice (some ⟨bw,0,none⟩) lw (lw+9))/\w'.cell? ⟨gt,2,none⟩=some (.slice (some ⟨bt,0,none⟩) lt (lt+9))/\w'.cell? ⟨gt,3,none⟩=some (.slice (some ⟨bs,0,none⟩) ls (ls+9))/\w'.cell? ⟨gt,4,none⟩=some (.int .i64 sky)/\w'.cell? ⟨gt,5,none⟩=some (.int .i64 st)) ((refine KS.out _ ?_;(with_reducible (repeat(first | assumption | apply Ab.drew | apply Ab.alloc | (refine Ab.setk ?_ (by first | assumption | exact Nat.le_refl _) _))));done)) (first
       | (go_at_call 13;refine(LKn.out _ (show Ab va _ by with_reducible (repeat(first | assumption | apply Ab.drew | apply Ab.alloc)))).mono ?_;rintro e9 z2 ⟨vv,rfl,c2,os,lo⟩;have az2:Ab va z2:=Ab.trans lo c2;have LO:=hid (Ab.size lo);clear lo;first
         | (have q0:=Ab.heap c2 (aX _ _);obtain⟨np1,nc1,np2,nc2,np3,nc3,np4,nc4,rfl,q2,FIN,MM⟩:=eA (aX _ _) c2 os BF.out;have t0:=aA 0 q2;have f0:=aC q2 0;have t1:=aA 1 q2;have f1:=aC q2 1;have t2:=aA 2 q2;have f2:=aC q2 2;have t3:=aA 3 q2;have f3:=aC q2 3;have t4:=aA 4 q2;have f4:=aC q2 4;have t5:=aA 5 q2;have f5:=aC q2 5;skip)
         | (have q0:=Ab.heap c2 (heap_alloc_new _ _);obtain⟨np1,nc1,np2,nc2,np3,nc3,np4,nc4,rfl,q2,FIN,MM⟩:=eA (heap_alloc_new _ _) c2 os BF.out;have t0:=aA 0 q2;have f0:=aC q2 0;have t1:=aA 1 q2;have f1:=aC q2 1;have t2:=aA 2 q2;have f2:=aC q2 2;have t3:=aA 3 q2;have f3:=aC q2 3;have t4:=aA 4 q2;have f4:=aC q2 4;have t5:=aA 5 q2;have f5:=aC q2 5;skip)
         | (obtain⟨np1,nc1,np2,nc2,np3,nc3,np4,nc4,rfl,FIN,MM⟩:=iM os BF.out)))
      all_goals(try go_wp2_with fail)
      all_goals(try go_meet)
      all_goals first
       | (have q9:=q2;exact⟨_,_,_,_,_,_,_,_,_,rfl,rfl,(((((az2.setk (Nat.le_refl _) _).setk (Nat.le_refl _) _).setk (Nat.le_refl _) _).setk (Nat.le_refl _) _).setk (Nat.le_refl _) _).setk (Nat.le_refl _) _,Nat.le_refl _,FIN,MM.up LO.out⟩)
       | exact⟨_,_,_,_,_,_,_,_,_,rfl,rfl,az2.alloc _,az2.size,FIN,MM.up LO.out⟩
     case rest=>
      obtain⟨gn,np1,nc1,np2,nc2,np3,nc3,np4,nc4,rfl,rfl,ac,ltn,spn,mmn⟩:=hcut
      rename World=>vb
      have BB:Hid (Ab va vb):=ac
      have AB:Hid (Ab wr vb):=AA.out.trans BB.out
      have NB:=hid spn
      have MB:=hid (MA.out.to BB.out)
      have MN:=hid mmn
      have LN:Hid (va.heap.size<=gn):=ltn
      have CB:=hid (CR.out.to AB.out)
      have WB:Hid (Ab w vb):=WR.out.trans AB.out
      clear ac ltn spn mmn LKn CA LKt
      obtain⟨m0,m1,m2,m3,m4,m5⟩:=aG (MB.out.1)
      have n0:=aG (NB.out.1)
      obtain⟨t0,t1,t2,t3,t4,t5⟩:=aG (CB.out.1)
      have s0:=aG ((Ab.heap AB.out SR.out))
      have SE:=hid (kS mp1 N mc1 Ak mp2 N mc2 Wkk mp3 N mc3 Tkk mp4 M mc4 Skk 0 st2 np1 nc1 np2 nc2 np3 nc3 np4 nc4 vb (by have:=HN.out;omega) MB.out.2.1 MB.out.2.2.1 MB.out.2.2.2.1 MB.out.2.2.2.2 NB.out.2.1 NB.out.2.2.1 NB.out.2.2.2.1 NB.out.2.2.2.2)
      go_wp2_with fail
      refine SE.out.mono ?_
      rintro e9 vc ⟨rfl,kc⟩
      have KC:Hid (Ab vb vc):=kc
      clear kc SE m0 m1 m2 m3 m4 m5 n0 t0 t1 t2 t3 t4 t5 s0
      obtain⟨t0,t1,t2,t3,t4,t5⟩:=aG ((CB.out.to KC.out).1)
      have s0:=aG ((Ab.heap KC.out (Ab.heap AB.out SR.out)))
      have TS:=hid (jV bb bw bt bs pb pw pt ps lb cb lw cw lt ct ls cs sky st vc (CB.out.to KC.out).2.1 (CB.out.to KC.out).2.2.1 (CB.out.to KC.out).2.2.2.1 (CB.out.to KC.out).2.2.2.2 HL.out (IB.out.below (WB.out.trans KC.out)) (IW.out.below (WB.out.trans KC.out)) (IT.out.below (WB.out.trans KC.out)) (IS.out.below (WB.out.trans KC.out)))
      go_wp2_with fail
      refine TS.out.mono ?_
      rintro e9 vd ⟨rfl,kd⟩
      have KD:Hid (Ab vb vd):=KC.out.trans kd
      clear kd TS KC t0 t1 t2 t3 t4 t5 s0
      have AD:Hid (Ab wr vd):=AB.out.trans KD.out
      have MD:=hid (MB.out.to KD.out)
      have ND:=hid (NB.out.to KD.out)
      have RWD:Hid (∃g1 k1 g2 k2 g3 k3 g4 k4,(0<N/\0<M)->(mp1=some ⟨g1,0,none⟩/\mp2=some ⟨g2,0,none⟩/\mp3=some ⟨g3,0,none⟩/\mp4=some ⟨g4,0,none⟩)/\(N<=k1/\N<=k2/\N<=k3/\M<=k4)/\(Qm wr.heap.size va.heap.size gm g1/\Qm wr.heap.size va.heap.size gm g2/\Qm wr.heap.size va.heap.size gm g3/\Qm wr.heap.size va.heap.size gm g4)/\W4 g1 k1 g2 k2 g3 k3 g4 k4 vd):=by
       obtain⟨g1,k1,g2,k2,g3,k3,g4,k4,h⟩:=RWA.out
       exact⟨g1,k1,g2,k2,g3,k3,g4,k4,fun h0=>⟨(h h0).1,(h h0).2.1,(h h0).2.2.1,(h h0).2.2.2.to (BB.out.trans KD.out)⟩⟩
      obtain⟨g1,k1,g2,k2,g3,k3,g4,k4,rwd⟩:=RWD.out
      have RWX:=hid rwd
      have VS:Hid (wr.heap.size<=va.heap.size/\va.heap.size<=vd.heap.size):=⟨AA.out.size,(BB.out.trans KD.out).size⟩
      have GMD:Hid (gm<vd.heap.size):=lt_of_block MD.out.1
      clear RWD RWA rwd MB NB CB WB KD MA
      have m1:=aA 1 MD.out.1
      go_wp2_with fail
      clear m1
      go_loopw [19] (fun iv wq=> ∃i:Nat,i<=N/\iv=.int .i64 (i:Nat)/\AbQ vd (Qm wr.heap.size va.heap.size gm) wq/\((0<N/\0<M)->W4 g1 k1 g2 k2 g3 k3 g4 k4 wq)) (fun iv _=>N - (intOf iv).toNat)
      case atStart=>exact⟨0,by omega,rfl,AbQ.refl _ _,fun h0=>(RWX.out h0).2.2.2⟩
      case round=>
       obtain⟨i,hi,rfl,aq,rq⟩:=hrel
       rename World=>wq
       have AQ:=hid aq
       have RQ:=hid rq
       have HIL:=hid hi
       have iB:(i:Int)<=6144:=by have:=HN.out;omega
       have MQ:Hid (wq.heap[gm]? =vd.heap[gm]?):=AQ.out.2.2.2.2 gm GMD.out (fun h=>h.2.2 rfl)
       have m1:=aA 1 (MQ.out.trans MD.out.1)
       clear aq rq hi
       by_cases hin:i<N
       ·have HI:=hid hin
        have iI:(i:Int)<N:=by omega
        have h0:0<N/\0<M:=⟨by omega,HN.out.2.1 (by omega)⟩
        obtain⟨⟨rfl,rfl,rfl,rfl⟩,hkk,hqq,-⟩:=RWX.out h0
        have HKK:=hid hkk
        have HQQ:=hid hqq
        have RW0:=hid (RQ.out h0)
        have RW1:=hid (RW0.out.set (g:=g2) (k:=i) (.int .i64 77))
        have RW2:=hid (RW1.out.set (g:=g1) (k:=i) (.float .f64 4635118810238550016))
        have RW3:=hid (RW2.out.set (g:=g3) (k:=i) (.int .i64 77))
        obtain⟨F2,rr2⟩:=RW0.out.2.1
        obtain⟨F1,rr1⟩:=RW1.out.1
        obtain⟨F3,rr3⟩:=RW2.out.2.2.1
        have z2:=rr2.cell (i:=i) (by have:=HKK.out;omega)
        have y2:=rr2.frozen i
        have z1:=rr1.cell (i:=i) (by have:=HKK.out;omega)
        have y1:=rr1.frozen i
        have z3:=rr3.cell (i:=i) (by have:=HKK.out;omega)
        have y3:=rr3.frozen i
        have M0:=hid (aA 0 (MQ.out.trans MD.out.1))
        have M2:=hid (aA 2 (MQ.out.trans MD.out.1))
        have m0:=(fH (w:=wq) (g:=g2) (k:=i) (j:=0) (x:=.int .i64 77) (show gm≠g2 from fun e=>HQQ.out.2.1.2.2 e.symm)).trans M0.out
        have m2:=(fH (w:=wq.setCell ⟨g2,i,none⟩ (.int .i64 77)) (g:=g1) (k:=i) (j:=2) (x:=.float .f64 4635118810238550016) (show gm≠g1 from fun e=>HQQ.out.1.2.2 e.symm)).trans ((fH (w:=wq) (g:=g2) (k:=i) (j:=2) (x:=.int .i64 77) (show gm≠g2 from fun e=>HQQ.out.2.1.2.2 e.symm)).trans M2.out)
        clear rr1 rr2 rr3 hkk hqq h0 hin
        go_wp2_with fail
        exact⟨⟨i+1,by have:=HI.out;omega,by simp,((AQ.out.set (.inl HQQ.out.2.1) _).set (.inl HQQ.out.1) _).set (.inl HQQ.out.2.2.1) _,fun _=>RW3.out⟩,by have:=HI.out;simp[intOf];omega⟩
       ·have e6:N=i:=by have:=HIL.out;omega
        subst e6
        clear m1
        have m3:=aA 3 (MQ.out.trans MD.out.1)
        have m1:=aA 1 (MQ.out.trans MD.out.1)
        go_wp2_with fail
        clear m3 m1
        go_loopw [20] (fun jv wo=> ∃j:Nat,j<=M/\jv=.int .i64 (j:Nat)/\AbQ vd (Qm wr.heap.size va.heap.size gm) wo/\((0<N/\0<M)->W4 g1 k1 g2 k2 g3 k3 g4 k4 wo)) (fun jv _=>M - (intOf jv).toNat)
        case atStart=>exact⟨0,by omega,rfl,AQ.out,RQ.out⟩
        case round=>
         obtain⟨j,hj,rfl,ao,ro⟩:=hrel
         rename World=>wo
         have AO:=hid ao
         have RO:=hid ro
         have HJL:=hid hj
         have jB:(j:Int)<=12288:=by have:=HN.out;omega
         have MO:Hid (wo.heap[gm]? =vd.heap[gm]?):=AO.out.2.2.2.2 gm GMD.out (fun h=>h.2.2 rfl)
         have m3:=aA 3 (MO.out.trans MD.out.1)
         clear ao ro hj
         by_cases hjn:j<M
         ·have HJ:=hid hjn
          have jI:(j:Int)<M:=by omega
          have h0:0<N/\0<M:=⟨HN.out.2.2 (by omega),by omega⟩
          obtain⟨⟨rfl,rfl,rfl,rfl⟩,hkk,hqq,-⟩:=RWX.out h0
          have HQQ:=hid hqq
          have RW3:=hid ((RO.out h0).set (g:=g4) (k:=j) (.float .f64 4635118810238550016))
          obtain⟨F4,rr4⟩:=(RO.out h0).2.2.2
          have z4:=rr4.cell (i:=j) (by omega)
          have y4:=rr4.frozen j
          clear rr4 hkk hqq h0 hjn
          go_wp2_with fail
          exact⟨⟨j+1,by have:=HJ.out;omega,by simp,AO.out.set (.inl HQQ.out.2.2.2) _,fun _=>RW3.out⟩,by have:=HJ.out;simp[intOf];omega⟩
         ·have e7:M=j:=by have:=HJL.out;omega
          subst e7
          have AW:Hid (Ab wr wo):=AO.out.ab AD.out (fun k hk h=>by have h1:=h.1;omega)
          have NX:Hid (∀k,va.heap.size<=k-> ¬Qm wr.heap.size va.heap.size gm k):=fun k hk h=>by have h1:=h.2.1;omega
          have NW2:Hid (SeaP gn np1 nc1 np2 nc2 np3 nc3 np4 nc4 N N N M Ak Wkk Tkk Skk 0 st2 wo):=⟨(AO.out.2.2.2.2 gn (lt_of_block ND.out.1) (NX.out gn LN.out)).trans ND.out.1,AO.out.isFl ND.out.2.1 (fun b o e=>NX.out b (MN.out.1 b o e)),AO.out.isI ND.out.2.2.1 (fun b o e=>NX.out b (MN.out.2.1 b o e)),AO.out.isI ND.out.2.2.2.1 (fun b o e=>NX.out b (MN.out.2.2.1 b o e)),AO.out.isFl ND.out.2.2.2.2 (fun b o e=>NX.out b (MN.out.2.2.2 b o e))⟩
          have SW:=hid (Ab.heap AW.out SR.out)
          clear MO MQ RO RQ AO AQ ND MD RWX NX MN LN LM GMD VS AD AB AA BB HIL HJL
          have LKo:Hid (∀v,Ab wo v->_):=hid (fun v a=>(LKs.out v (AW.out.trans a)).mono (fun _ _ ⟨s,h1,h2,h3⟩=>(⟨s,h1,h2,h3,a⟩: ∃s,_=Ending.returned (.tuple #[s,.int .i64 er])/\Below v.heap.size v _/\OwnS v.heap.size s N N N M Ak Wkk Tkk Skk 0 st2 _/\Ab wo v)))
          go_upto_region 30 with fail
          clear m3
          go_cut [18,21]from 73 to 172 (fun s18 s21 wx=> ∃go op1 oc1 op2 oc2 op3 oc3 op4 oc4,s18=.int .i64 er/\s21=.pointer (some ⟨go,0,none⟩)/\Ab wo wx/\wo.heap.size<=go/\SeaP go op1 oc1 op2 oc2 op3 oc3 op4 oc4 N N N M Ak Wkk Tkk Skk 0 st2 wx/\((∀b o,op1=some ⟨b,o,none⟩->wo.heap.size<=b)/\(∀b o,op2=some ⟨b,o,none⟩->wo.heap.size<=b)/\(∀b o,op3=some ⟨b,o,none⟩->wo.heap.size<=b)/\ ∀b o,op4=some ⟨b,o,none⟩->wo.heap.size<=b))
          case first=>
           have av:Ab wo wo:=Ab.refl _
           have KS:Hid (∀w',Ab wo w'->Ab wo w'/\w'.cell? ⟨gl,k*3,none⟩=some (.slice qa la ca)/\w'.cell? ⟨gl,k*3+1,none⟩=some (.slice qe le ce)/\w'.cell? ⟨gl,k*3+2,none⟩=some (.slice qh lh ch)/\w'.cell? ⟨gs,0,none⟩=some (.slice pb lb cb)/\w'.cell? ⟨gs,1,none⟩=some (.slice pw lw cw)/\w'.cell? ⟨gs,2,none⟩=some (.slice pt lt ct)/\w'.cell? ⟨gs,3,none⟩=some (.slice ps ls cs)/\w'.cell? ⟨gs,4,none⟩=some (.int .i64 sky)/\w'.cell? ⟨gs,5,none⟩=some (.int .i64 st)):=fun w' h=>⟨h,(Below.cell (AW.out.trans h) GLr.out).trans K0.out,(Below.cell (AW.out.trans h) GLr.out).trans K1.out,(Below.cell (AW.out.trans h) GLr.out).trans K2.out,aA 0 (h.heap SW.out),aA 1 (h.heap SW.out),aA 2 (h.heap SW.out),aA 3 (h.heap SW.out),aA 4 (h.heap SW.out),aA 5 (h.heap SW.out)⟩
           go_region_held3 (fun w'=>Ab wo w'/\w'.cell? ⟨gl,k*3,none⟩=some (.slice qa la ca)/\w'.cell? ⟨gl,k*3+1,none⟩=some (.slice qe le ce)/\w'.cell? ⟨gl,k*3+2,none⟩=some (.slice qh lh ch)/\w'.cell? ⟨gs,0,none⟩=some (.slice pb lb cb)/\w'.cell? ⟨gs,1,none⟩=some (.slice pw lw cw)/\w'.cell? ⟨gs,2,none⟩=some (.slice pt lt ct)/\w'.cell? ⟨gs,3,none⟩=some (.slice ps ls cs)/\w'.cell? ⟨gs,4,none⟩=some (.int .i64 sky)/\w'.cell? ⟨gs,5,none⟩=some (.int .i64 st)) ((refine KS.out _ ?_;(with_reducible (repeat(first | assumption | apply Ab.drew | apply Ab.alloc | (refine Ab.setk ?_ (by first | assumption | exact Nat.le_refl _) _))));done)) (first
            | (go_at_call 13;refine(LKo.out _ (show Ab wo _ by with_reducible (repeat(first | assumption | apply Ab.drew | apply Ab.alloc)))).mono ?_;rintro e9 z2 ⟨vv,rfl,c2,os,lo⟩;have az2:Ab wo z2:=Ab.trans lo c2;have LO:=hid (Ab.size lo);clear lo;first
             | (have q0:=Ab.heap c2 (aX _ _);obtain⟨op1,oc1,op2,oc2,op3,oc3,op4,oc4,rfl,q2,FIN,MM⟩:=eA (aX _ _) c2 os BF.out;have t0:=aA 0 q2;have f0:=aC q2 0;have t1:=aA 1 q2;have f1:=aC q2 1;have t2:=aA 2 q2;have f2:=aC q2 2;have t3:=aA 3 q2;have f3:=aC q2 3;have t4:=aA 4 q2;have f4:=aC q2 4;have t5:=aA 5 q2;have f5:=aC q2 5;skip)
             | (have q0:=Ab.heap c2 (heap_alloc_new _ _);obtain⟨op1,oc1,op2,oc2,op3,oc3,op4,oc4,rfl,q2,FIN,MM⟩:=eA (heap_alloc_new _ _) c2 os BF.out;have t0:=aA 0 q2;have f0:=aC q2 0;have t1:=aA 1 q2;have f1:=aC q2 1;have t2:=aA 2 q2;have f2:=aC q2 2;have t3:=aA 3 q2;have f3:=aC q2 3;have t4:=aA 4 q2;have f4:=aC q2 4;have t5:=aA 5 q2;have f5:=aC q2 5;skip)
             | (obtain⟨op1,oc1,op2,oc2,op3,oc3,op4,oc4,rfl,FIN,MM⟩:=iM os BF.out)))
           all_goals(try go_wp2_with fail)
           all_goals(try go_meet)
           all_goals first
            | (have q9:=q2;exact⟨_,_,_,_,_,_,_,_,_,rfl,rfl,(((((az2.setk (Nat.le_refl _) _).setk (Nat.le_refl _) _).setk (Nat.le_refl _) _).setk (Nat.le_refl _) _).setk (Nat.le_refl _) _).setk (Nat.le_refl _) _,Nat.le_refl _,FIN,MM.up LO.out⟩)
            | exact⟨_,_,_,_,_,_,_,_,_,rfl,rfl,az2.alloc _,az2.size,FIN,MM.up LO.out⟩
          case rest=>
           obtain⟨go,op1,oc1,op2,oc2,op3,oc3,op4,oc4,rfl,rfl,ac,lto,spo,mmo⟩:=hcut
           rename World=>vf
           have FF:Hid (Ab wo vf):=ac
           have AF:Hid (Ab wr vf):=AW.out.trans FF.out
           have OF:=hid spo
           have NF:=hid (NW2.out.to FF.out)
           have CF:=hid (CR.out.to AF.out)
           have WF:Hid (Ab w vf):=WR.out.trans AF.out
           clear ac lto spo mmo LKo NW2 SW
           obtain⟨m0,m1,m2,m3,m4,m5⟩:=aG (NF.out.1)
           have n0:=aG (OF.out.1)
           obtain⟨t0,t1,t2,t3,t4,t5⟩:=aG (CF.out.1)
           have s0:=aG ((Ab.heap AF.out SR.out))
           have SE:=hid (kS np1 N nc1 Ak np2 N nc2 Wkk np3 N nc3 Tkk np4 M nc4 Skk 0 st2 op1 oc1 op2 oc2 op3 oc3 op4 oc4 vf (by have:=HN.out;omega) NF.out.2.1 NF.out.2.2.1 NF.out.2.2.2.1 NF.out.2.2.2.2 OF.out.2.1 OF.out.2.2.1 OF.out.2.2.2.1 OF.out.2.2.2.2)
           go_wp2_with fail
           refine SE.out.mono ?_
           rintro e9 vg ⟨rfl,kc⟩
           have KC:Hid (Ab vf vg):=kc
           clear kc SE m0 m1 m2 m3 m4 m5 n0 t0 t1 t2 t3 t4 t5 s0
           obtain⟨t0,t1,t2,t3,t4,t5⟩:=aG ((CF.out.to KC.out).1)
           have s0:=aG ((Ab.heap KC.out (Ab.heap AF.out SR.out)))
           have TS:=hid (jV bb bw bt bs pb pw pt ps lb cb lw cw lt ct ls cs sky st vg (CF.out.to KC.out).2.1 (CF.out.to KC.out).2.2.1 (CF.out.to KC.out).2.2.2.1 (CF.out.to KC.out).2.2.2.2 HL.out (IB.out.below (WF.out.trans KC.out)) (IW.out.below (WF.out.trans KC.out)) (IT.out.below (WF.out.trans KC.out)) (IS.out.below (WF.out.trans KC.out)))
           go_wp2_with fail
           refine TS.out.mono ?_
           rintro e9 vh ⟨rfl,kd⟩
           have KD:Hid (Ab vf vh):=KC.out.trans kd
           clear kd TS KC t0 t1 t2 t3 t4 t5 s0
           go_wp2_with fail
           exact⟨⟨k+1,by have:=HK.out;omega,by simp,AR.out.trans (AF.out.trans KD.out)⟩,by have:=HK.out;simp[intOf];omega⟩
   ·have k3: ¬(k:Int)<3:=by omega
    go_wp2_with fail
    go_ret
    exact⟨rfl,W8.out.trans AR.out⟩
  ·have e6:P=k:=by have:=HKL.out;omega
   subst e6
   go_wp2_with fail
   go_ret
   exact⟨rfl,W8.out.trans AR.out⟩
end Spl
end
section
open Go.RowKit Tf Cu Go.Deep
namespace Spl
theorem tR(M:Nat)(A:Nat->Nat)(Wk Tk:Nat->Int)(Sk:Nat->Nat)(w:World):OwnS M (.agg #[.slice none 0 0,.slice none 0 0,.slice none 0 0,.slice none 0 0,.int .i64 0,.int .i64 0]) 0 0 0 0 A Wk Tk Sk 0 0 w:=
 ⟨_,_,_,_,rfl,⟨by simp,.inl ⟨rfl,rfl⟩⟩,⟨by simp,.inl ⟨rfl,rfl⟩⟩,⟨by simp,.inl ⟨rfl,rfl⟩⟩,⟨by simp,.inl ⟨rfl,rfl⟩⟩,(fun k h=>by cases h),(fun k h=>by cases h)⟩
theorem qS(SC:SplitC)(LC:LocalC)(side parts:Int)(pb:Option Addr)(lb cb:Nat)(B:Nat->Nat)(pw:Option Addr)(lw cw:Nat)(Wt:Nat->Int)(pt:Option Addr)(lt ct:Nat)(T:Nat->Int)(ps:Option Addr)(ls cs:Nat)(S:Nat->Nat)(sky st:Int)(w:World)(hF:Fr w)(h64:W64 side/\W64 parts/\W64 sky/\W64 st)(IB:IsFl w pb lb B)(IW:Sh.IsI w pw lw Wt)(IT:Sh.IsI w pt lt T)(IS:IsFl w ps ls S):
  Calls prog 5 #[.int .i64 side,.int .i64 parts,.agg #[.slice pb lb cb,.slice pw lw cw,.slice pt lt ct,.slice ps ls cs,.int .i64 sky,.int .i64 st]] w fun e w'=>e=.returned (.bool true)/\Below w.heap.size w w':=by
 have LV:=hid (fun v (a:Ab w v)=>qM SC LC v (hF.to a))
 by_cases hs:1<=side/\side<=32
 ·obtain⟨n,rfl⟩: ∃n:Nat,side=(n:Nat):=⟨side.toNat,by omega⟩
  have hn:1<=n/\n<=32:=by omega
  have NW:=hid (fun v (a:Ab w v)=>new_at n v hn (hF.to a))
  have LG:=hid (fun v=>tL pb pw pt ps lb cb lw cw lt ct ls cs sky st v)
  by_cases hl:65536<lb\/65536<lw\/65536<lt\/65536<ls
  ·rw[decide_eq_true hl]at LG
   exact qQ (n:Nat) parts n pb lb cb pw lw cw pt lt ct ps ls cs sky st w LV NW LG
  ·rw[decide_eq_false hl]at LG
   by_cases hp2:1<=parts/\parts<=64
   ·obtain⟨P,rfl⟩: ∃P:Nat,parts=(P:Nat):=⟨parts.toNat,by omega⟩
    have hP:1<=P/\P<=64:=by omega
    have SP:=hid (fun v gb (g:GridOf n gb v)=>(SC n gb (P:Nat) v hn g h64.2.1).1 hp2)
    have n1:=n12 hn
    have n0:0<6*n*n:=Nat.mul_pos (Nat.mul_pos (by decide) hn.1) hn.1
    have n3:12*n*n=2*(6*n*n):=by rw[<- Nat.mul_assoc,<- Nat.mul_assoc]
    have LB:=hid (fun i=>oU n P i hn hP)
    by_cases hf:fit4 n lb lw lt ls
    ·obtain⟨rfl,rfl,rfl,rfl⟩:=hf
     have hf:fit4 n (6*n*n) (6*n*n) (6*n*n) (12*n*n):=⟨rfl,rfl,rfl,rfl⟩
     refine pH (n:Nat) n (6*n*n) (12*n*n) P pb (6*n*n) cb pw (6*n*n) cw pt (6*n*n) ct ps (12*n*n) cs sky st 0 st B Wt T S (fun k=>shB (mkC n P k) B) (fun k=>shW (mkC n P k) Wt) (fun k=>shW (mkC n P k) T) (fun k=>shB (mkE n P k) S) w hn hP ⟨by omega,n1⟩ ⟨fun _=>by omega,fun _=>n0⟩ (by omega) LV NW LG SP (hid fun v gb gl p c k pb cb pw cw pt ct ps cs hk a g qps ib iw it is=> ?_) (hid fun k=>bnd_part hf IB IW IT IS) (hid IB) (hid IW) (hid IT) (hid IS)
     have h:=(LC n gb (p (k*3)) (lsP n P (k*3)).length (c (k*3)) (rd (lsP n P (k*3))) (p (k*3+1)) (lsP n P (k*3+1)).length (c (k*3+1)) (rd (lsP n P (k*3+1))) (p (k*3+2)) (lsP n P (k*3+2)).length (c (k*3+2)) (rd (lsP n P (k*3+2))) pb _ cb B pw _ cw Wt pt _ ct T ps _ cs S sky st v hn g ⟨h64.2.2.1,h64.2.2.2⟩ ⟨Nat.le_trans (LB.out _) (by omega),Nat.le_trans (LB.out _) (by omega),Nat.le_trans (LB.out _) (by omega)⟩ (by omega) (qps.2 _ (by omega)).2 (qps.2 _ (by omega)).2 (qps.2 _ (by omega)).2 ib iw it is).1 (fit_part hk hf)
     rw[mk_part,mke_part]at h
     exact h
    ·refine pH (n:Nat) n 0 0 P pb lb cb pw lw cw pt lt ct ps ls cs sky st 1 0 B Wt T S (fun _ _=>0) (fun _ _=>0) (fun _ _=>0) (fun _ _=>0) w hn hP ⟨by omega,by omega⟩ ⟨fun h=>h,fun h=>h⟩ (by omega) LV NW LG SP (hid fun v gb gl p c k pb cb pw cw pt ct ps cs hk a g qps ib iw it is=> ?_) (hid fun k=>⟨fun i hi=>by omega,fun i hi=>by omega,fun i hi=>by omega,fun i hi=>by omega⟩) (hid IB) (hid IW) (hid IT) (hid IS)
     refine((LC n gb (p (k*3)) _ (c (k*3)) _ (p (k*3+1)) _ (c (k*3+1)) _ (p (k*3+2)) _ (c (k*3+2)) _ pb lb cb B pw lw cw Wt pt lt ct T ps ls cs S sky st v hn g ⟨h64.2.2.1,h64.2.2.2⟩ ⟨Nat.le_trans (LB.out _) (by omega),Nat.le_trans (LB.out _) (by omega),Nat.le_trans (LB.out _) (by omega)⟩ (by omega) (qps.2 _ (by omega)).2 (qps.2 _ (by omega)).2 (qps.2 _ (by omega)).2 ib iw it is).2 (fun h=>hf h.1)).mono ?_
     rintro e w' ⟨rfl,b⟩
     exact⟨_,rfl,b,tR _ _ _ _ _ _⟩
   ·exact tQ (n:Nat) parts n pb lb cb pw lw cw pt lt ct ps ls cs sky st w LV NW LG (hid fun v gb g=>(SC n gb parts v hn g h64.2.1).2 hp2)
 ·exact keeps_no side parts pb lb cb pw lw cw pt lt ct ps ls cs sky st w LV (hid fun v _=>new_no side v hs)
end Spl
end
end Go.Proofs.YtjheiemgfibgpaaDoor
