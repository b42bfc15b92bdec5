/-
  Some of the texts of this proof, one behind the other.
-/
import Derived.BigFrame
import Derived.Deep.QuietTactic
import Derived.Test.YtjheiemgfibgpaaDoorUc09
set_option maxRecDepth 100000
set_option maxHeartbeats 400000000
namespace Go.Proofs.YtjheiemgfibgpaaDoor
open _root_.Go.Proofs.Tryd
section
open Go.RowKit Tf Cu Go.Deep
namespace Spl
theorem dD{P:Program}{a:Act}{o:Oper}{x:Operand}{T E:TypeId}{p:Option Addr}{n c:Nat}(ho:o.op=.call {callee:=.builtin .len,args:= #[x],argTypes:= #[T]})(hu:P.underlying T=some (.slice E))(hx:a.eval x=.slice p n c)(w:World):(execOp a.eval o).run P w=.ok (.value (.int .i64 (n:Nat))) w:=by
 have e: ∃cs,execOp a.eval o=builtin .len #[T] o.type cs #[a.eval x]:=⟨(#[x].map fun | .const _=>true | _=>false),by
  unfold execOp
  simp only[ho,resolve,invoke,pure_bind,List.map_toArray,List.map_cons,List.map_nil]
  rfl⟩
 obtain⟨cs,e⟩:=e
 rw[e,BigFrame.builtin_len,hx]
 have u:=run_underlying hu w
 simp[go_sem,Builtin.len_,u,goInt]
theorem cG{P:Program}{ops:Array Oper}{W:World}{sp:Nat->Option (Obj × (Nat->Value))}{Q:Act->(Nat->Option Nat)->Prop}{o:Oper}{rest:List Oper}{k:Nat}{a:Act}{S:Nat->Option Nat}(v:Value)(hs:sp k=none)(hw:Region.wanted o (yielded ops a.tmps)=true)(hr: ∀w,(execOp a.eval o).run P w=.ok (.value v) w)
  (h:Cf.wpFree P ops W sp Q rest (k+1) (a.put o.dst v) S):Cf.wpFree P ops W sp Q (o :: rest) k a S:=by
 simp only[Cf.wpFree,hs]
 exact⟨v,.inl ⟨hw,fun w _=>hr w⟩,h⟩
theorem eY{B:Nat}{t:TypeId}{v:Value}{n:Nat}{f:Nat->Value}{w:World}(h:w.ownsRow B t 1 v n ((List.range n).map f))(h0:0<n): ∃g cap F,v=.slice (some ⟨g,0,none⟩) n cap/\B<=g/\n<=cap/\w.rowIs g t cap F/\ ∀i,i<n->F i=f i:=by
 rcases h.2 with⟨rfl,hz⟩ | ⟨g,cap,cur,e,hb,hg,h1,h2,h3,h4⟩
 ·omega
 ·refine⟨g,cap,fun i=>(cur[i]?).getD (.bool false),e,hb,h1,⟨cur,hg,by omega,fun i hi=> ?_⟩,fun i hi=> ?_⟩
  ·have:i<cur.size:=by omega
   simp[this]
  ·have q:(cur.toList.take n)[i]? =((List.range n).map f)[i]? :=by
    have h4':cur.toList.take n=(List.range n).map f:=by simpa using h4
    rw[h4']
   rw[List.getElem?_take,if_pos hi,Array.getElem?_toList]at q
   dsimp only
   rw[q]
   simp[hi]
def Rw4(M:Nat)(p1 p2 p3 p4:Option Addr)(n m:Nat)(A:Nat->Nat)(B C:Nat->Int)(D:Nat->Nat)(v:World):Prop:=
 ∃g1 k1 F1 g2 k2 F2 g3 k3 F3 g4 k4 F4,(p1=some ⟨g1,0,none⟩/\p2=some ⟨g2,0,none⟩/\p3=some ⟨g3,0,none⟩/\p4=some ⟨g4,0,none⟩)/\
  (v.rowIs g1 45 k1 F1/\v.rowIs g2 2 k2 F2/\v.rowIs g3 2 k3 F3/\v.rowIs g4 45 k4 F4)/\
  (n<=k1/\n<=k2/\n<=k3/\m<=k4)/\(M<=g1/\M<=g2/\M<=g3/\M<=g4)/\
  ((∀i,i<n->F1 i=.float .f64 (A i))/\(∀i,i<n->F2 i=.int .i64 (B i))/\(∀i,i<n->F3 i=.int .i64 (C i))/\ ∀i,i<m->F4 i=.float .f64 (D i))/\(g1≠g4/\g2≠g3)
theorem Rw4.eq{M:Nat}{p1 p2 p3 p4:Option Addr}{n m:Nat}{A:Nat->Nat}{B C:Nat->Int}{D:Nat->Nat}{v v':World}(h:Rw4 M p1 p2 p3 p4 n m A B C D v)(e: ∀b,M<=b->b<v.heap.size->v'.heap[b]? =v.heap[b]?):Rw4 M p1 p2 p3 p4 n m A B C D v':=by
 obtain⟨g1,k1,F1,g2,k2,F2,g3,k3,F3,g4,k4,F4,h1,⟨r1,r2,r3,r4⟩,h3,⟨m1,m2,m3,m4⟩,h5⟩:=h
 exact⟨g1,k1,F1,g2,k2,F2,g3,k3,F3,g4,k4,F4,h1,⟨r1.of_block (e _ m1 r1.lt),r2.of_block (e _ m2 r2.lt),r3.of_block (e _ m3 r3.lt),r4.of_block (e _ m4 r4.lt)⟩,h3,⟨m1,m2,m3,m4⟩,h5⟩
theorem Rw4.low{M M':Nat}{p1 p2 p3 p4:Option Addr}{n m:Nat}{A:Nat->Nat}{B C:Nat->Int}{D:Nat->Nat}{v:World}(h:Rw4 M p1 p2 p3 p4 n m A B C D v)(l:M'<=M):Rw4 M' p1 p2 p3 p4 n m A B C D v:=by
 obtain⟨g1,k1,F1,g2,k2,F2,g3,k3,F3,g4,k4,F4,h1,h2,h3,⟨m1,m2,m3,m4⟩,h5⟩:=h
 exact⟨g1,k1,F1,g2,k2,F2,g3,k3,F3,g4,k4,F4,h1,h2,h3,⟨Nat.le_trans l m1,Nat.le_trans l m2,Nat.le_trans l m3,Nat.le_trans l m4⟩,h5⟩
theorem OwnS.rw4{M:Nat}{p1 p2 p3 p4:Option Addr}{n m c1 c2 c3 c4:Nat}{A:Nat->Nat}{B C:Nat->Int}{D:Nat->Nat}{sk st:Int}{w:World}(h:OwnS M (.agg #[.slice p1 n c1,.slice p2 n c2,.slice p3 n c3,.slice p4 m c4,.int .i64 sk,.int .i64 st]) n n n m A B C D sk st w)(hn:0<n)(hm:0<m):Rw4 M p1 p2 p3 p4 n m A B C D w:=by
 obtain⟨v1,v2,v3,v4,e,h1,h2,h3,h4,d1,d2⟩:=h
 simp only[Value.agg.injEq,List.toArray_eq_iff,List.cons.injEq,and_true]at e
 obtain⟨rfl,rfl,rfl,rfl⟩:=e
 unfold OwnG at h1 h4
 unfold Sh.Own at h2 h3
 simp only[List.length_map,List.length_range,List.map_map]at h1 h2 h3 h4
 obtain⟨g1,k1,F1,e1,b1,l1,r1,f1⟩:=eY h1 hn
 obtain⟨g2,k2,F2,e2,b2,l2,r2,f2⟩:=eY h2 hn
 obtain⟨g3,k3,F3,e3,b3,l3,r3,f3⟩:=eY h3 hn
 obtain⟨g4,k4,F4,e4,b4,l4,r4,f4⟩:=eY h4 hm
 injection e1 with e1 _ _
 injection e2 with e2 _ _
 injection e3 with e3 _ _
 injection e4 with e4 _ _
 subst e1 e2 e3 e4
 refine⟨g1,k1,F1,g2,k2,F2,g3,k3,F3,g4,k4,F4,⟨rfl,rfl,rfl,rfl⟩,⟨r1,r2,r3,r4⟩,⟨l1,l2,l3,l4⟩,⟨b1,b2,b3,b4⟩,⟨fun i hi=>f1 i hi,fun i hi=>f2 i hi,fun i hi=>f3 i hi,fun i hi=>f4 i hi⟩,fun q=>d1 g1 rfl ?_,fun q=>d2 g2 rfl ?_⟩
 ·rw[q];rfl
 ·rw[q];rfl
theorem sea_nw3{M:Nat}{vv:Value}{n m:Nat}{A:Nat->Nat}{B C:Nat->Int}{D:Nat->Nat}{sk st:Int}{u:World}(h:OwnS M vv n n n m A B C D sk st u)(hb:Bnd n n n m A B C D)(hn:0<n/\0<m):
  ∃p1 c1 p2 c2 p3 c3 p4 c4,vv=.agg #[.slice p1 n c1,.slice p2 n c2,.slice p3 n c3,.slice p4 m c4,.int .i64 sk,.int .i64 st]/\SeaP u.heap.size p1 c1 p2 c2 p3 c3 p4 c4 n n n m A B C D sk st (u.alloc (.cells #[.slice p1 n c1,.slice p2 n c2,.slice p3 n c3,.slice p4 m c4,.int .i64 sk,.int .i64 st] 41))/\Mb M p1 p2 p3 p4/\Rw4 M p1 p2 p3 p4 n m A B C D (u.alloc (.cells #[.slice p1 n c1,.slice p2 n c2,.slice p3 n c3,.slice p4 m c4,.int .i64 sk,.int .i64 st] 41)):=by
 obtain⟨p1,c1,p2,c2,p3,c3,p4,c4,e,s,mm⟩:=qV h hb
 subst e
 exact⟨p1,c1,p2,c2,p3,c3,p4,c4,rfl,s,mm,(h.rw4 hn.1 hn.2).eq (fun b _ lt=>Below.heap_alloc _ _ _ lt)⟩
theorem qZ{U z:World}{g:Nat}{vv:Value}{n m:Nat}{A:Nat->Nat}{B C:Nat->Int}{D:Nat->Nat}{sk st:Int}(q:U.heap[g]? =some (.cells #[.slice none 0 0,.slice none 0 0,.slice none 0 0,.slice none 0 0,.int .i64 0,.int .i64 0] 41))(b:Ab U z)(os:OwnS U.heap.size vv n n n m A B C D sk st z)(hb:Bnd n n n m A B C D)(hn:0<n/\0<m):
  ∃p1 c1 p2 c2 p3 c3 p4 c4,vv=.agg #[.slice p1 n c1,.slice p2 n c2,.slice p3 n c3,.slice p4 m c4,.int .i64 sk,.int .i64 st]/\z.heap[g]? =some (.cells #[.slice none 0 0,.slice none 0 0,.slice none 0 0,.slice none 0 0,.int .i64 0,.int .i64 0] 41)/\SeaP g p1 c1 p2 c2 p3 c3 p4 c4 n n n m A B C D sk st ((((((z.setCell ⟨g,0,none⟩ (.slice p1 n c1)).setCell ⟨g,1,none⟩ (.slice p2 n c2)).setCell ⟨g,2,none⟩ (.slice p3 n c3)).setCell ⟨g,3,none⟩ (.slice p4 m c4)).setCell ⟨g,4,none⟩ (.int .i64 sk)).setCell ⟨g,5,none⟩ (.int .i64 st))/\Mb U.heap.size p1 p2 p3 p4/\
   Rw4 U.heap.size p1 p2 p3 p4 n m A B C D ((((((z.setCell ⟨g,0,none⟩ (.slice p1 n c1)).setCell ⟨g,1,none⟩ (.slice p2 n c2)).setCell ⟨g,2,none⟩ (.slice p3 n c3)).setCell ⟨g,3,none⟩ (.slice p4 m c4)).setCell ⟨g,4,none⟩ (.int .i64 sk)).setCell ⟨g,5,none⟩ (.int .i64 st)):=by
 obtain⟨p1,c1,p2,c2,p3,c3,p4,c4,e,hz,s,mm⟩:=lO q b os hb
 subst e
 have lt:=lt_of_block q
 exact⟨p1,c1,p2,c2,p3,c3,p4,c4,rfl,hz,s,mm,(os.rw4 hn.1 hn.2).eq (fun b' hb' _=>aR (by omega))⟩
end Spl
end
section
open Go.RowKit Tf Cu Go.Deep
attribute [local go_sem] aL aM aN aO aP aQ aV aE
namespace Spl
theorem shown_no(side parts:Int)(pb:Option Addr)(lb cb:Nat)(pw:Option Addr)(lw cw:Nat)(pt:Option Addr)(lt ct:Nat)(ps:Option Addr)(ls cs:Nat)(sky st:Int)(w:World)(LV:Hid (∀v,Ab w v->Calls prog 6 #[] v fun e w'=>e=.returned (.bool true)/\Below v.heap.size v w'))
  (NW:Hid (∀v,Ab w v->Calls prog 7 #[.int .i64 side] v fun e w'=>e=.returned (.tuple #[.pointer none,.int .i64 10])/\w'=v)):
  Calls prog 4 #[.int .i64 side,.int .i64 parts,.agg #[.slice pb lb cb,.slice pw lw cw,.slice pt lt ct,.slice ps ls cs,.int .i64 sky,.int .i64 st]] w fun e w'=>e=.returned (.bool true)/\Below w.heap.size w w':=by
 obtain⟨A0,S0⟩:=cZ w (.cells #[.slice pb lb cb,.slice pw lw cw,.slice pt lt ct,.slice ps ls cs,.int .i64 sky,.int .i64 st] 41)
 go_enter func4,ntmps4
 go_upto_region 1 with fail
 obtain⟨gs,hgs⟩:=aB w.heap.size
 generalize hW:World.alloc w _=W at*
 rw[hgs]at S0 ⊢
 clear hgs hW
 go_wp2_with fail
 refine(LV.out _ A0.out).mono ?_
 rintro e9 v1 ⟨rfl,k1⟩
 have A1:Hid (Ab w v1):=A0.out.call k1
 have S1:=hid (Ab.heap k1 S0.out)
 clear k1 A0 S0 LV
 go_wp2_with fail
 refine(NW.out v1 A1.out).mono ?_
 rintro e9 v2 ⟨rfl,hw⟩
 have hw2:=hw.symm
 subst hw2
 go_wp2
 go_ret
 exact⟨rfl,A1.out⟩
theorem pP(side parts:Int)(n:Nat)(pb:Option Addr)(lb cb:Nat)(pw:Option Addr)(lw cw:Nat)(pt:Option Addr)(lt ct:Nat)(ps:Option Addr)(ls cs:Nat)(sky st:Int)(w:World)(LV:Hid (∀v,Ab w v->Calls prog 6 #[] v fun e w'=>e=.returned (.bool true)/\Below v.heap.size v w'))
  (NW:Hid (∀v,Ab w v->Calls prog 7 #[.int .i64 side] v fun e w'=> ∃gb,e=.returned (.tuple #[.pointer (some ⟨gb,0,none⟩),.int .i64 0])/\Ab v w'/\v.heap.size<=gb/\GridOf n gb w'))
  (LG:Hid (∀v,Calls prog 12 #[.agg #[.slice pb lb cb,.slice pw lw cw,.slice pt lt ct,.slice ps ls cs,.int .i64 sky,.int .i64 st]] v fun e w'=>e=.returned (.bool true)/\Below v.heap.size v w')):
  Calls prog 4 #[.int .i64 side,.int .i64 parts,.agg #[.slice pb lb cb,.slice pw lw cw,.slice pt lt ct,.slice ps ls cs,.int .i64 sky,.int .i64 st]] w fun e w'=>e=.returned (.bool true)/\Below w.heap.size w w':=by
 obtain⟨A0,S0⟩:=cZ w (.cells #[.slice pb lb cb,.slice pw lw cw,.slice pt lt ct,.slice ps ls cs,.int .i64 sky,.int .i64 st] 41)
 go_enter func4,ntmps4
 go_upto_region 1 with fail
 obtain⟨gs,hgs⟩:=aB w.heap.size
 generalize hW:World.alloc w _=W at*
 rw[hgs]at S0 ⊢
 clear hgs hW
 go_wp2_with fail
 refine(LV.out _ A0.out).mono ?_
 rintro e9 v1 ⟨rfl,k1⟩
 have A1:Hid (Ab w v1):=A0.out.call k1
 have S1:=hid (Ab.heap k1 S0.out)
 clear k1 A0 S0 LV
 go_wp2_with fail
 refine(NW.out v1 A1.out).mono ?_
 rintro e9 v2 ⟨gb,rfl,k2,-,g2⟩
 have A2:Hid (Ab w v2):=A1.out.trans k2
 have S2:=hid (Ab.heap k2 S1.out)
 have G2:=hid g2
 clear k2 g2 NW A1 S1
 have s0:=aI (S2.out)
 go_wp2_with fail
 refine(LG.out v2).mono ?_
 rintro e9 v3 ⟨rfl,k3⟩
 have A3:Hid (Ab w v3):=A2.out.trans k3
 have S3:=hid (Ab.heap k3 S2.out)
 have G3:=hid (G2.out.to k3)
 clear k3 A2 S2 G2 LG s0
 go_wp2
 go_ret
 exact⟨rfl,A3.out⟩
theorem sJ(side parts:Int)(n:Nat)(pb:Option Addr)(lb cb:Nat)(pw:Option Addr)(lw cw:Nat)(pt:Option Addr)(lt ct:Nat)(ps:Option Addr)(ls cs:Nat)(sky st:Int)(w:World)(LV:Hid (∀v,Ab w v->Calls prog 6 #[] v fun e w'=>e=.returned (.bool true)/\Below v.heap.size v w'))
  (NW:Hid (∀v,Ab w v->Calls prog 7 #[.int .i64 side] v fun e w'=> ∃gb,e=.returned (.tuple #[.pointer (some ⟨gb,0,none⟩),.int .i64 0])/\Ab v w'/\v.heap.size<=gb/\GridOf n gb w'))
  (LG:Hid (∀v,Calls prog 12 #[.agg #[.slice pb lb cb,.slice pw lw cw,.slice pt lt ct,.slice ps ls cs,.int .i64 sky,.int .i64 st]] v fun e w'=>e=.returned (.bool false)/\Below v.heap.size v w'))
  (SB:Hid (∀v gb,GridOf n gb v->Calls prog 8 #[.pointer (some ⟨gb,0,none⟩),.int .i64 parts] v fun e w'=>e=.returned (.tuple #[.slice none 0 0,.int .i64 1])/\Below v.heap.size v w')):
  Calls prog 4 #[.int .i64 side,.int .i64 parts,.agg #[.slice pb lb cb,.slice pw lw cw,.slice pt lt ct,.slice ps ls cs,.int .i64 sky,.int .i64 st]] w fun e w'=>e=.returned (.bool true)/\Below w.heap.size w w':=by
 obtain⟨A0,S0⟩:=cZ w (.cells #[.slice pb lb cb,.slice pw lw cw,.slice pt lt ct,.slice ps ls cs,.int .i64 sky,.int .i64 st] 41)
 go_enter func4,ntmps4
 go_upto_region 1 with fail
 obtain⟨gs,hgs⟩:=aB w.heap.size
 generalize hW:World.alloc w _=W at*
 rw[hgs]at S0 ⊢
 clear hgs hW
 go_wp2_with fail
 refine(LV.out _ A0.out).mono ?_
 rintro e9 v1 ⟨rfl,k1⟩
 have A1:Hid (Ab w v1):=A0.out.call k1
 have S1:=hid (Ab.heap k1 S0.out)
 clear k1 A0 S0 LV
 go_wp2_with fail
 refine(NW.out v1 A1.out).mono ?_
 rintro e9 v2 ⟨gb,rfl,k2,-,g2⟩
 have A2:Hid (Ab w v2):=A1.out.trans k2
 have S2:=hid (Ab.heap k2 S1.out)
 have G2:=hid g2
 clear k2 g2 NW A1 S1
 have s0:=aI (S2.out)
 go_wp2_with fail
 refine(LG.out v2).mono ?_
 rintro e9 v3 ⟨rfl,k3⟩
 have A3:Hid (Ab w v3):=A2.out.trans k3
 have S3:=hid (Ab.heap k3 S2.out)
 have G3:=hid (G2.out.to k3)
 clear k3 A2 S2 G2 LG s0
 go_wp2_with fail
 refine(SB.out v3 gb G3.out).mono ?_
 rintro e9 v4 ⟨rfl,k4⟩
 have A4:Hid (Ab w v4):=A3.out.trans k4
 go_wp2
 go_ret
 exact⟨rfl,A4.out⟩
end Spl
end
section
open Go.RowKit Tf Cu Go.Deep
attribute [local go_sem] aL aM aN aO aP aQ aV aE
namespace Spl
theorem oA(side:Int)(n P:Nat)(pb:Option Addr)(lb cb:Nat)(pw:Option Addr)(lw cw:Nat)(pt:Option Addr)(lt ct:Nat)(ps:Option Addr)(ls cs:Nat)(sky st:Int)(w:World)(hP:1<=P/\P<=64)(hL:lb<=65536/\lw<=65536/\lt<=65536/\ls<=65536)(LV:Hid (∀v,Ab w v->Calls prog 6 #[] v fun e w'=>e=.returned (.bool true)/\Below v.heap.size v w'))
  (NW:Hid (∀v,Ab w v->Calls prog 7 #[.int .i64 side] v fun e w'=> ∃gb,e=.returned (.tuple #[.pointer (some ⟨gb,0,none⟩),.int .i64 0])/\Ab v w'/\v.heap.size<=gb/\GridOf n gb w'))
  (LG:Hid (∀v,Calls prog 12 #[.agg #[.slice pb lb cb,.slice pw lw cw,.slice pt lt ct,.slice ps ls cs,.int .i64 sky,.int .i64 st]] v fun e w'=>e=.returned (.bool false)/\Below v.heap.size v w'))
  (SP:Hid (∀v gb,GridOf n gb v->Calls prog 8 #[.pointer (some ⟨gb,0,none⟩),.int .i64 (P:Nat)] v fun e w'=> ∃gl p c,e=.returned (.tuple #[.slice (some ⟨gl,0,none⟩) P P,.int .i64 0])/\Below v.heap.size v w'/\PsAt n P gl p c w'))
  (LK:Hid (∀v gb gl p c,Ab w v->GridOf n gb v->PsAt n P gl p c v->Calls prog 13 #[.pointer (some ⟨gb,0,none⟩),.agg #[.slice (p 0) (lsP n P 0).length (c 0),.slice (p 1) (lsP n P 1).length (c 1),.slice (p 2) (lsP n P 2).length (c 2)],.agg #[.slice pb lb cb,.slice pw lw cw,.slice pt lt ct,.slice ps ls cs,.int .i64 sky,.int .i64 st]] v fun e w'=>e=.returned (.tuple #[.agg #[.slice none 0 0,.slice none 0 0,.slice none 0 0,.slice none 0 0,.int .i64 0,.int .i64 0],.int .i64 1])/\Below v.heap.size v w')):
  Calls prog 4 #[.int .i64 side,.int .i64 (P:Nat),.agg #[.slice pb lb cb,.slice pw lw cw,.slice pt lt ct,.slice ps ls cs,.int .i64 sky,.int .i64 st]] w fun e w'=>e=.returned (.bool true)/\Below w.heap.size w w':=by
 have M1: ∀v:World,(Instr.makeSlice 38 (.int .i64 (lb:Nat)) (.int .i64 (lb:Nat))).run prog v=.ok (.slice (some ⟨v.heap.size,0,none⟩) lb lb) (v.alloc (Obj.cells (madeCells #[.float .f64 0] lb) 45)):=fun v=>run_make_row' (P:=prog) 38 45 (.float .f64 0) 8 underlying38 fZ rfl .i64 .i64 lb (by omega) (by omega) v
 have M2: ∀v:World,(Instr.makeSlice 39 (.int .i64 (lw:Nat)) (.int .i64 (lw:Nat))).run prog v=.ok (.slice (some ⟨v.heap.size,0,none⟩) lw lw) (v.alloc (Obj.cells (madeCells #[.int .i64 0] lw) 2)):=fun v=>run_make_row' (P:=prog) 39 2 (.int .i64 0) 8 underlying39 gO rfl .i64 .i64 lw (by omega) (by omega) v
 have M3: ∀v:World,(Instr.makeSlice 39 (.int .i64 (lt:Nat)) (.int .i64 (lt:Nat))).run prog v=.ok (.slice (some ⟨v.heap.size,0,none⟩) lt lt) (v.alloc (Obj.cells (madeCells #[.int .i64 0] lt) 2)):=fun v=>run_make_row' (P:=prog) 39 2 (.int .i64 0) 8 underlying39 gO rfl .i64 .i64 lt (by omega) (by omega) v
 have M4: ∀v:World,(Instr.makeSlice 38 (.int .i64 (ls:Nat)) (.int .i64 (ls:Nat))).run prog v=.ok (.slice (some ⟨v.heap.size,0,none⟩) ls ls) (v.alloc (Obj.cells (madeCells #[.float .f64 0] ls) 45)):=fun v=>run_make_row' (P:=prog) 38 45 (.float .f64 0) 8 underlying38 fZ rfl .i64 .i64 ls (by omega) (by omega) v
 have AL: ∀v:World,(Instr.alloc 41 true (.tuple #[])).run prog v=.ok (.pointer (some ⟨v.heap.size,0,none⟩)) (v.alloc (.cells #[.slice none 0 0,.slice none 0 0,.slice none 0 0,.slice none 0 0,.int .i64 0,.int .i64 0] 41)):=fun v=>by
  simp[go_sem]
 have hP1:(0:Int)<(P:Int):=by omega
 have hP0:0<P:=by omega
 have hP2:(P:Int)<=64:=by omega
 have HPP:=hid hP
 clear hP hL
 obtain⟨A0,S0⟩:=cZ w (.cells #[.slice pb lb cb,.slice pw lw cw,.slice pt lt ct,.slice ps ls cs,.int .i64 sky,.int .i64 st] 41)
 go_enter func4,ntmps4
 go_upto_region 1 with fail
 obtain⟨gs,hgs⟩:=aB w.heap.size
 generalize hW:World.alloc w _=W at*
 rw[hgs]at S0 ⊢
 clear hgs hW
 go_wp2_with fail
 refine(LV.out _ A0.out).mono ?_
 rintro e9 v1 ⟨rfl,k1⟩
 have A1:Hid (Ab w v1):=A0.out.call k1
 have S1:=hid (Ab.heap k1 S0.out)
 clear k1 A0 S0 LV
 go_wp2_with fail
 refine(NW.out v1 A1.out).mono ?_
 rintro e9 v2 ⟨gb,rfl,k2,-,g2⟩
 have A2:Hid (Ab w v2):=A1.out.trans k2
 have S2:=hid (Ab.heap k2 S1.out)
 have G2:=hid g2
 clear k2 g2 NW A1 S1
 have s0:=aI (S2.out)
 go_wp2_with fail
 refine(LG.out v2).mono ?_
 rintro e9 v3 ⟨rfl,k3⟩
 have A3:Hid (Ab w v3):=A2.out.trans k3
 have S3:=hid (Ab.heap k3 S2.out)
 have G3:=hid (G2.out.to k3)
 clear k3 A2 S2 G2 LG s0
 go_wp2_with fail
 refine(SP.out v3 gb G3.out).mono ?_
 rintro e9 v4 ⟨gl,qp,qc,rfl,k4,ps4⟩
 have A4:Hid (Ab w v4):=A3.out.trans k4
 have S4:=hid (Ab.heap k4 S3.out)
 have G4:=hid (G3.out.to k4)
 have Q4:=hid ps4
 clear k4 ps4 A3 S3 G3 SP
 go_upto_region 9 with fail
 go_cut [10]from 42 to 62 (fun s10 wx=> ∃g5 b1 b2 b3 b4,s10=.pointer (some ⟨g5,0,none⟩)/\Ab v4 wx/\wx.heap[g5]? =some (.cells #[.slice (some ⟨b1,0,none⟩) lb lb,.slice (some ⟨b2,0,none⟩) lw lw,.slice (some ⟨b3,0,none⟩) lt lt,.slice (some ⟨b4,0,none⟩) ls ls,.int .i64 sky,.int .i64 st] 41)/\wx.heap[b1]? =some (Obj.cells (madeCells #[.float .f64 0] lb) 45)/\wx.heap[b2]? =some (Obj.cells (madeCells #[.int .i64 0] lw) 2)/\wx.heap[b3]? =some (Obj.cells (madeCells #[.int .i64 0] lt) 2)/\wx.heap[b4]? =some (Obj.cells (madeCells #[.float .f64 0] ls) 45)/\(v4.heap.size<=b1/\v4.heap.size<=b2/\v4.heap.size<=b3/\v4.heap.size<=b4/\v4.heap.size<=g5)/\(b1≠b2/\b1≠b3/\b1≠b4/\b2≠b3/\b2≠b4/\b3≠b4)/\(b1≠g5/\b2≠g5/\b3≠g5/\b4≠g5))
 case first=>
  obtain⟨UU,E,hF1,hF2⟩:=cls v4.drew
  have HU:=hid hF2
  have HU1:=hid hF1
  have e0: ∀u,(E u).cell? ⟨gs,0,none⟩=some (.slice pb lb cb):=fun u=>aA 0 ((hF1 u).heap S4.out)
  have e1: ∀u,(E u).cell? ⟨gs,1,none⟩=some (.slice pw lw cw):=fun u=>aA 1 ((hF1 u).heap S4.out)
  have e2: ∀u,(E u).cell? ⟨gs,2,none⟩=some (.slice pt lt ct):=fun u=>aA 2 ((hF1 u).heap S4.out)
  have e3: ∀u,(E u).cell? ⟨gs,3,none⟩=some (.slice ps ls cs):=fun u=>aA 3 ((hF1 u).heap S4.out)
  have e4: ∀u,(E u).cell? ⟨gs,4,none⟩=some (.int .i64 sky):=fun u=>aA 4 ((hF1 u).heap S4.out)
  have e5: ∀u,(E u).cell? ⟨gs,5,none⟩=some (.int .i64 st):=fun u=>aA 5 ((hF1 u).heap S4.out)
  clear hF1 hF2
  refine Cf.bT 22 (fun k=>if k=3 then some ((Obj.cells (madeCells #[.float .f64 0] lb) 45),fun b=>.slice (some ⟨b,0,none⟩) lb lb)else if k=7 then some ((Obj.cells (madeCells #[.int .i64 0] lw) 2),fun b=>.slice (some ⟨b,0,none⟩) lw lw)else if k=11 then some ((Obj.cells (madeCells #[.int .i64 0] lt) 2),fun b=>.slice (some ⟨b,0,none⟩) lt lt)else if k=15 then some ((Obj.cells (madeCells #[.float .f64 0] ls) 45),fun b=>.slice (some ⟨b,0,none⟩) ls ls)else if k=21 then some ((.cells #[.slice none 0 0,.slice none 0 0,.slice none 0 0,.slice none 0 0,.int .i64 0,.int .i64 0] 41),fun b=>.pointer (some ⟨b,0,none⟩))else none) (by kernel_rfl) (by kernel_rfl) (by kernel_rfl) ?_
  simp only[List.take_succ_cons,List.take_zero]
  refine Cf.aD HU (by rfl) (by rfl) ?_
  go_big_quiet_step (with_reducible rfl)
  refine wpQuiet_nil ?_
  refine Cf.aD HU (by rfl) (by rfl) ?_
  go_big_quiet_step (with_reducible rfl)
  refine wpQuiet_nil ?_
  refine cG (.int .i64 (lb:Nat)) (by rfl) (by kernel_rfl) (fun v=>dD (x:=.tmp 43) rfl underlying38 rfl v) ?_
  simp only[Act.put,List.setIfInBounds_toArray,List.set_cons_succ,List.set_cons_zero]
  refine Cf.aH (ob:=(Obj.cells (madeCells #[.float .f64 0] lb) 45)) (mk:=fun b=>.slice (some ⟨b,0,none⟩) lb lb) (by rfl) (by kernel_rfl) ?_ ?_
  ·refine Cf.bE (bH (vx:=.int .i64 (lb:Nat)) (vy:=.int .i64 (lb:Nat)) (ob:=(Obj.cells (madeCells #[.float .f64 0] lb) 45)) (mk:=fun b=>.slice (some ⟨b,0,none⟩) lb lb) rfl ?_ ?_ ?_)
   ·rfl
   ·rfl
   ·exact M1
  intro b1 fb1
  simp only[Act.put,List.setIfInBounds_toArray,List.set_cons_succ,List.set_cons_zero]
  refine Cf.aD HU (by rfl) (by rfl) ?_
  go_big_quiet_step (with_reducible rfl)
  refine wpQuiet_nil ?_
  refine Cf.aD HU (by rfl) (by rfl) ?_
  go_big_quiet_step (with_reducible rfl)
  refine wpQuiet_nil ?_
  refine cG (.int .i64 (lw:Nat)) (by rfl) (by kernel_rfl) (fun v=>dD (x:=.tmp 47) rfl underlying39 rfl v) ?_
  simp only[Act.put,List.setIfInBounds_toArray,List.set_cons_succ,List.set_cons_zero]
  refine Cf.aH (ob:=(Obj.cells (madeCells #[.int .i64 0] lw) 2)) (mk:=fun b=>.slice (some ⟨b,0,none⟩) lw lw) (by rfl) (by kernel_rfl) ?_ ?_
  ·refine Cf.bE (bH (vx:=.int .i64 (lw:Nat)) (vy:=.int .i64 (lw:Nat)) (ob:=(Obj.cells (madeCells #[.int .i64 0] lw) 2)) (mk:=fun b=>.slice (some ⟨b,0,none⟩) lw lw) rfl ?_ ?_ ?_)
   ·rfl
   ·rfl
   ·exact M2
  intro b2 fb2
  simp only[Act.put,List.setIfInBounds_toArray,List.set_cons_succ,List.set_cons_zero]
  refine Cf.aD HU (by rfl) (by rfl) ?_
  go_big_quiet_step (with_reducible rfl)
  refine wpQuiet_nil ?_
  refine Cf.aD HU (by rfl) (by rfl) ?_
  go_big_quiet_step (with_reducible rfl)
  refine wpQuiet_nil ?_
  refine cG (.int .i64 (lt:Nat)) (by rfl) (by kernel_rfl) (fun v=>dD (x:=.tmp 51) rfl underlying39 rfl v) ?_
  simp only[Act.put,List.setIfInBounds_toArray,List.set_cons_succ,List.set_cons_zero]
  refine Cf.aH (ob:=(Obj.cells (madeCells #[.int .i64 0] lt) 2)) (mk:=fun b=>.slice (some ⟨b,0,none⟩) lt lt) (by rfl) (by kernel_rfl) ?_ ?_
  ·refine Cf.bE (bH (vx:=.int .i64 (lt:Nat)) (vy:=.int .i64 (lt:Nat)) (ob:=(Obj.cells (madeCells #[.int .i64 0] lt) 2)) (mk:=fun b=>.slice (some ⟨b,0,none⟩) lt lt) rfl ?_ ?_ ?_)
   ·rfl
   ·rfl
   ·exact M3
  intro b3 fb3
  simp only[Act.put,List.setIfInBounds_toArray,List.set_cons_succ,List.set_cons_zero]
  refine Cf.aD HU (by rfl) (by rfl) ?_
  go_big_quiet_step (with_reducible rfl)
  refine wpQuiet_nil ?_
  refine Cf.aD HU (by rfl) (by rfl) ?_
  go_big_quiet_step (with_reducible rfl)
  refine wpQuiet_nil ?_
  refine cG (.int .i64 (ls:Nat)) (by rfl) (by kernel_rfl) (fun v=>dD (x:=.tmp 55) rfl underlying38 rfl v) ?_
  simp only[Act.put,List.setIfInBounds_toArray,List.set_cons_succ,List.set_cons_zero]
  refine Cf.aH (ob:=(Obj.cells (madeCells #[.float .f64 0] ls) 45)) (mk:=fun b=>.slice (some ⟨b,0,none⟩) ls ls) (by rfl) (by kernel_rfl) ?_ ?_
  ·refine Cf.bE (bH (vx:=.int .i64 (ls:Nat)) (vy:=.int .i64 (ls:Nat)) (ob:=(Obj.cells (madeCells #[.float .f64 0] ls) 45)) (mk:=fun b=>.slice (some ⟨b,0,none⟩) ls ls) rfl ?_ ?_ ?_)
   ·rfl
   ·rfl
   ·exact M4
  intro b4 fb4
  simp only[Act.put,List.setIfInBounds_toArray,List.set_cons_succ,List.set_cons_zero]
  refine Cf.aD HU (by rfl) (by rfl) ?_
  go_big_quiet_step (with_reducible rfl)
  refine wpQuiet_nil ?_
  refine Cf.aD HU (by rfl) (by rfl) ?_
  go_big_quiet_step (with_reducible rfl)
  refine wpQuiet_nil ?_
  refine Cf.aD HU (by rfl) (by rfl) ?_
  go_big_quiet_step (with_reducible rfl)
  refine wpQuiet_nil ?_
  refine Cf.aD HU (by rfl) (by rfl) ?_
  go_big_quiet_step (with_reducible rfl)
  refine wpQuiet_nil ?_
  refine Cf.aD HU (by rfl) (by rfl) ?_
  go_big_quiet_step (with_reducible rfl)
  refine wpQuiet_nil ?_
  refine Cf.aH (ob:=(.cells #[.slice none 0 0,.slice none 0 0,.slice none 0 0,.slice none 0 0,.int .i64 0,.int .i64 0] 41)) (mk:=fun b=>.pointer (some ⟨b,0,none⟩)) (by rfl) (by kernel_rfl) ?_ ?_
  ·refine Cf.bE (gQ (ob:=(.cells #[.slice none 0 0,.slice none 0 0,.slice none 0 0,.slice none 0 0,.int .i64 0,.int .i64 0] 41)) (mk:=fun b=>.pointer (some ⟨b,0,none⟩)) rfl ?_)
   exact AL
  intro g5 fg5
  simp only[Act.put,List.setIfInBounds_toArray,List.set_cons_succ,List.set_cons_zero]
  refine Cf.bW ?_
  intro wz hz
  have h1:=hz.at (i:=3) (b:=b1) (ob:=(Obj.cells (madeCells #[.float .f64 0] lb) 45)) (by rfl) (by rfl)
  have h2:=hz.at (i:=7) (b:=b2) (ob:=(Obj.cells (madeCells #[.int .i64 0] lw) 2)) (by rfl) (by rfl)
  have h3:=hz.at (i:=11) (b:=b3) (ob:=(Obj.cells (madeCells #[.int .i64 0] lt) 2)) (by rfl) (by rfl)
  have h4:=hz.at (i:=15) (b:=b4) (ob:=(Obj.cells (madeCells #[.float .f64 0] ls) 45)) (by rfl) (by rfl)
  have h5:=hz.at (i:=21) (b:=g5) (ob:=(.cells #[.slice none 0 0,.slice none 0 0,.slice none 0 0,.slice none 0 0,.int .i64 0,.int .i64 0] 41)) (by rfl) (by rfl)
  have n12:b1≠b2:=fb2.2 3 b1 (by rfl)
  have n13:b1≠b3:=fb3.2 3 b1 (by rfl)
  have n14:b1≠b4:=fb4.2 3 b1 (by rfl)
  have n15:b1≠g5:=fg5.2 3 b1 (by rfl)
  have n23:b2≠b3:=fb3.2 7 b2 (by rfl)
  have n24:b2≠b4:=fb4.2 7 b2 (by rfl)
  have n25:b2≠g5:=fg5.2 7 b2 (by rfl)
  have n34:b3≠b4:=fb4.2 11 b3 (by rfl)
  have n35:b3≠g5:=fg5.2 11 b3 (by rfl)
  have n45:b4≠g5:=fg5.2 15 b4 (by rfl)
  have AZ:Ab v4 wz:=(Ab.refl v4).drew.trans hz.1
  have RZ:=hid h5.1
  have HH:=hid (And.intro h1 (And.intro h2 (And.intro h3 (And.intro h4 h5))))
  have NN:=hid (And.intro (And.intro n12 (And.intro n13 (And.intro n14 (And.intro n23 (And.intro n24 n34))))) (And.intro n15 (And.intro n25 (And.intro n35 n45))))
  have HAZ:=hid AZ
  clear hz fb1 fb2 fb3 fb4 fg5 h1 h2 h3 h4 h5 n12 n13 n14 n15 n23 n24 n25 n34 n35 n45 AZ HU HU1 e0 e1 e2 e3 e4 e5
  clear E UU
  have t0:=aA 0 RZ.out
  have f0:=aC RZ.out 0
  have t1:=aA 1 RZ.out
  have f1:=aC RZ.out 1
  have t2:=aA 2 RZ.out
  have f2:=aC RZ.out 2
  have t3:=aA 3 RZ.out
  have f3:=aC RZ.out 3
  have t4:=aA 4 RZ.out
  have f4:=aC RZ.out 4
  have t5:=aA 5 RZ.out
  have f5:=aC RZ.out 5
  simp only[List.drop_succ_cons,List.drop_zero]
  go_wp2_with fail
  go_meet
  obtain⟨⟨k1,l1⟩,⟨k2,l2⟩,⟨k3,l3⟩,⟨k4,l4⟩,⟨k5,l5⟩⟩:=HH.out
  refine⟨g5,b1,b2,b3,b4,rfl,?_,gZ k5,(aR NN.out.2.1).trans k1,(aR NN.out.2.2.1).trans k2,(aR NN.out.2.2.2.1).trans k3,(aR NN.out.2.2.2.2).trans k4,⟨l1,l2,l3,l4,l5⟩,NN.out.1,NN.out.2⟩
  exact(((((HAZ.out.setk l5 _).setk l5 _).setk l5 _).setk l5 _).setk l5 _).setk l5 _
 case rest=>
  obtain⟨gt,tb,tw,tt,ts,rfl,a3,r5,m1,m2,m3,m4,hl,hne,hng⟩:=hcut
  rename World=>v5
  have A45:Hid (Ab v4 v5):=a3
  have A5:Hid (Ab w v5):=A4.out.trans A45.out
  have S5:=hid (Ab.heap A45.out S4.out)
  have G5:=hid (G4.out.to A45.out)
  have Q5:=hid (Q4.out.to A45.out)
  clear a3 r5 m1 m2 m3 m4 hl hne hng A4 S4 G4 Q4 A45 M1 M2 M3 M4 AL
  go_wp2_with fail
  go_loopw [11] (fun kv wr=>kv=.int .i64 0/\wr=v5) (fun _ _=>0)
  case atStart=>exact⟨rfl,by first | trivial | rfl⟩
  case round=>
   obtain⟨rfl,hw⟩:=hrel
   have hw2:=hw.symm
   subst hw2
   have l0:=(Q5.out.2 0 (by have:=HPP.out;omega)).1
   have l1:=(Q5.out.2 1 (by have:=HPP.out;omega)).1
   have l2:=(Q5.out.2 2 (by have:=HPP.out;omega)).1
   have LKk:Hid (∀v,Ab v5 v->Calls prog 13 #[.pointer (some ⟨gb,0,none⟩),.agg #[.slice (qp 0) (lsP n P 0).length (qc 0),.slice (qp 1) (lsP n P 1).length (qc 1),.slice (qp 2) (lsP n P 2).length (qc 2)],.agg #[.slice pb lb cb,.slice pw lw cw,.slice pt lt ct,.slice ps ls cs,.int .i64 sky,.int .i64 st]] v fun e w'=>e=.returned (.tuple #[.agg #[.slice none 0 0,.slice none 0 0,.slice none 0 0,.slice none 0 0,.int .i64 0,.int .i64 0],.int .i64 1])/\Below v.heap.size v w'/\Ab v5 v):=fun v a=>(LK.out v gb gl qp qc (A5.out.trans a) (G5.out.to a) (Q5.out.to a)).mono fun _ _ h=>⟨h.1,h.2,a⟩
   have GL:Hid (gl<v5.heap.size):=Q5.out.1
   generalize(lsP n P 0).length=la at*
   generalize(lsP n P 1).length=le at*
   generalize(lsP n P 2).length=lh at*
   generalize qp 0=qa at*
   generalize qp 1=qe at*
   generalize qp 2=qh at*
   generalize qc 0=ca at*
   generalize qc 1=ce at*
   generalize qc 2=ch at*
   go_upto_region 13 with fail
   have K0:=hid l0
   have K1:=hid l1
   have K2:=hid l2
   clear l0 l1 l2 LK
   go_cut [12,13]from 63 to 218 (fun s12 s13 wx=> ∃gm,s13=.int .i64 1/\s12=.pointer (some ⟨gm,0,none⟩)/\Ab v5 wx/\wx.heap[gm]? =some (.cells #[.slice none 0 0,.slice none 0 0,.slice none 0 0,.slice none 0 0,.int .i64 0,.int .i64 0] 41))
   case first=>
    have av:Ab v5 v5:=Ab.refl _
    have KS:Hid (∀w',Ab v5 w'->Ab v5 w'/\w'.cell? ⟨gl,0,none⟩=some (.slice qa la ca)/\w'.cell? ⟨gl,1,none⟩=some (.slice qe le ce)/\w'.cell? ⟨gl,2,none⟩=some (.slice qh lh ch)/\w'.cell? ⟨gs,0,none⟩=some (.slice pb lb cb)/\w'.cell? ⟨gs,1,none⟩=some (.slice pw lw cw)/\w'.cell? ⟨gs,2,none⟩=some (.slice pt lt ct)/\w'.cell? ⟨gs,3,none⟩=some (.slice ps ls cs)/\w'.cell? ⟨gs,4,none⟩=some (.int .i64 sky)/\w'.cell? ⟨gs,5,none⟩=some (.int .i64 st)):=fun w' h=>⟨h,(Below.cell h GL.out).trans K0.out,(Below.cell h GL.out).trans K1.out,(Below.cell h GL.out).trans K2.out,aA 0 (h.heap S5.out),aA 1 (h.heap S5.out),aA 2 (h.heap S5.out),aA 3 (h.heap S5.out),aA 4 (h.heap S5.out),aA 5 (h.heap S5.out)⟩
    go_region_held3 (fun w'=>Ab v5 w'/\w'.cell? ⟨gl,0,none⟩=some (.slice qa la ca)/\w'.cell? ⟨gl,1,none⟩=some (.slice qe le ce)/\w'.cell? ⟨gl,2,none⟩=some (.slice qh lh ch)/\w'.cell? ⟨gs,0,none⟩=some (.slice pb lb cb)/\w'.cell? ⟨gs,1,none⟩=some (.slice pw lw cw)/\w'.cell? ⟨gs,2,none⟩=some (.slice pt lt ct)/\w'.cell? ⟨gs,3,none⟩=some (.slice ps ls cs)/\w'.cell? ⟨gs,4,none⟩=some (.int .i64 sky)/\w'.cell? ⟨gs,5,none⟩=some (.int .i64 st)) ((refine KS.out _ ?_;(with_reducible (repeat(first | assumption | apply Ab.drew | apply Ab.alloc | (refine Ab.setk ?_ (by first | assumption | exact Nat.le_refl _) _))));done)) (first
     | (go_at_call 13;refine(LKk.out _ (show Ab v5 _ by with_reducible (repeat(first | assumption | apply Ab.drew | apply Ab.alloc)))).mono ?_;rintro e9 z2 ⟨rfl,c2,lo⟩;have az2:Ab v5 z2:=Ab.trans lo c2;have LO:=hid (Ab.size lo);clear lo;first
      | (have q2:=Ab.heap c2 (bO _ _);have t0:=aA 0 q2;have f0:=aC q2 0;have t1:=aA 1 q2;have f1:=aC q2 1;have t2:=aA 2 q2;have f2:=aC q2 2;have t3:=aA 3 q2;have f3:=aC q2 3;have t4:=aA 4 q2;have f4:=aC q2 4;have t5:=aA 5 q2;have f5:=aC q2 5;skip)
      | (have q2:=Ab.heap c2 (heap_alloc_new _ _);have t0:=aA 0 q2;have f0:=aC q2 0;have t1:=aA 1 q2;have f1:=aC q2 1;have t2:=aA 2 q2;have f2:=aC q2 2;have t3:=aA 3 q2;have f3:=aC q2 3;have t4:=aA 4 q2;have f4:=aC q2 4;have t5:=aA 5 q2;have f5:=aC q2 5;skip)
      | skip))
    all_goals(try go_wp2_with fail)
    all_goals(try go_meet)
    all_goals first
     | (have q9:=q2;exact⟨_,rfl,rfl,(((((az2.setk (Nat.le_refl _) _).setk (Nat.le_refl _) _).setk (Nat.le_refl _) _).setk (Nat.le_refl _) _).setk (Nat.le_refl _) _).setk (Nat.le_refl _) _,gZ q9⟩)
     | exact⟨_,rfl,rfl,az2.alloc _,heap_alloc_new _ _⟩
   case rest=>
    obtain⟨gm,rfl,rfl,ac,rm⟩:=hcut
    have A6:Hid (Ab w _):=A5.out.trans ac
    go_wp2
    go_ret
    exact⟨rfl,A6.out⟩
end Spl
end
end Go.Proofs.YtjheiemgfibgpaaDoor
