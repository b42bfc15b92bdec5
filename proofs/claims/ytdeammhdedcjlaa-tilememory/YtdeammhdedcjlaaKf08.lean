/-
  Some of the texts of this proof, one behind the other.
-/
import Derived.StillTail
import Derived.BigQuiet
import Derived.Test.YtdeammhdedcjlaaKf07
set_option maxRecDepth 100000
set_option maxHeartbeats 400000000
namespace Go.Proofs.Ytdeammhdedcjlaa
open _root_.Go.Proofs.Try
section
open Go.RowKit Go.Deep Tf Cu
namespace Ti
def tb(n:Nat)(W:Nat->Int)(c:Nat):Nat:=dF (dpB (W c) (arI (ArC n c)))
theorem qS(n fc m fm pw ow lw cw:Nat)(W:Nat->Int)(w:World)(hn:1<=n/\n<=32)(hm:n*n=m)(hfm:fc*m=fm)(hfc:fc<6)(hl:lw=6*m)(hW:Sh.IsI w (some ⟨pw,ow,none⟩) lw W):
  Calls prog 27 #[.int .i64 (n:Nat),.int .i64 (fc:Nat),.slice (some ⟨pw,ow,none⟩) lw cw] w fun e w'=> ∃g,e=.returned (.slice (some ⟨g,0,none⟩) m m)/\Ab w w'/\w.heap.size<=g/\w'.rowIs g 22 m (fun i=>.int .u32 ((tb n W (fm+i):Nat):Int)):=by
 have m1:1<=m/\m<=1024:=by have:=dG hn.1 hn.2;omega
 have f1:fm+m<=lw:=by
  have p:fc*m<=5*m:=Nat.mul_le_mul_right _ (by omega)
  omega
 have M1: ∀v:World,(Instr.makeSlice 23 (.int .i64 (m:Nat)) (.int .i64 (m:Nat))).run prog v=.ok (.slice (some ⟨v.heap.size,0,none⟩) m m) (v.alloc (Obj.cells (madeCells #[.int .u32 0] m) 22)):=fun v=>run_make_row' (P:=prog) 23 22 (.int .u32 0) 4 underlying23 dZ rfl .i64 .i64 m (by omega) (by omega) v
 have CA:=hid (fun c (hc:c<6*n*n) v=>area_ok n c v hn hc)
 have HB:=hid (show m<=1024/\fm+m<=lw/\lw=6*m/\lw=6*n*n from⟨m1.2,f1,hl,by rw[hl,<- hm,Nat.mul_assoc]⟩)
 have q1:(n:Int)*(n:Int)=(m:Int):=by rw[<- hm];exact(Int.natCast_mul _ _).symm
 have q2:(fc:Int)*(m:Int)=(fm:Int):=by rw[<- hfm];exact(Int.natCast_mul _ _).symm
 have q3:(m:Int)<=1024:=by omega
 have q4:(0:Int)<=(fm:Int):=by omega
 have q5:(fm:Int)<=6144:=by omega
 have q6:(lw:Int)<=6144:=by omega
 have HW:=hid hW
 clear hW hn hm hfm hfc hl m1 f1
 have A1:=dJ (bl1 w (Obj.cells (madeCells #[.int .u32 0] m) 22))
 have N1:Hid ((w.alloc (Obj.cells (madeCells #[.int .u32 0] m) 22)).rowIs w.heap.size 22 m (fun _=>.int .u32 0)):=dD (heap_alloc_new _ _)
 go_enter func27,ntmps27
 go_upto_region 2 with fail
 generalize hX:World.alloc w _=V at*
 obtain⟨g,hg⟩:=aB w.heap.size
 have LE:Hid (w.heap.size<=g):=by show _<=_;omega
 rw[hg]at N1 ⊢
 clear hg hX M1
 go_wp2
 go_loopw [16] (fun iv wr=> ∃c:Nat,c<=m/\iv=.int .i64 (c:Nat)/\Ab w wr/\wr.rowIs g 22 m (fun i=>.int .u32 ((if i<c then tb n W (fm+i)else 0:Nat):Int))) (fun iv _=>m - (intOf iv).toNat)
 case atStart=>exact⟨0,by omega,rfl,A1.out,N1.out.congr (fun i _=>by simp)⟩
 case round=>
  obtain⟨c,hc,rfl,a1,r1⟩:=hrel
  have AW:=hid a1
  have R1:=hid r1
  clear a1 r1 N1 A1
  by_cases hcm:c<m
  ·have HC:=hid hcm
   have hcI:(c:Int)<m:=by omega
   have hcB:(c:Int)<=1024:=by have:=HB.out;omega
   have hk:(fm:Int)+(c:Int)<(lw:Int):=by have:=HB.out;omega
   have hk0:(0:Int)<=(fm:Int)+(c:Int):=by omega
   have hk1:(fm:Int)+(c:Int)<=(lw:Int):=by omega
   have c0:(0:Int)<=(c:Int):=by omega
   have tn:((fm:Int)+(c:Int)).toNat=fm+c:=by omega
   have wx:=(HW.out.below AW.out).at0 (k:=fm+c) (by have:=HB.out;omega)
   obtain⟨x,hx⟩:=aB (W (fm+c))
   have CAc:=hid (CA.out (fm+c) (by have:=HB.out;omega))
   obtain⟨a,ha⟩:=aB (arI (ArC n (fm+c)))
   rw[ha]at CAc
   rw[hx]at wx
   have a2:a<=9223372036854775807:=by rw[<- ha];exact(pD _).2
   have CD:=hid (fun v=>depth_at x a v wx.1.2 a2)
   have dl:dpB x a<18446744073709551616:=by have:=dp_le wx.1.2 a2;omega
   obtain⟨d,hd⟩:=aB (dpB x a)
   rw[hd]at CD dl
   obtain⟨t,ht⟩:=aB (dF d)
   have CT:=hid (fun v=>qH d t v dl ht)
   have TE:Hid (tb n W (fm+c)=t):=by show dF (dpB (W (fm+c)) (arI (ArC n (fm+c))))=_;rw[hx,ha,hd,ht]
   have wc:wr.cell? ⟨pw,ow+(fm+c),none⟩=some (.int .i64 x):=wx.2.2
   have pl:=wx.2.1
   have PN:Hid (pw≠g/\pw<wr.heap.size):=⟨by
    obtain⟨_,b',o',e,h3,_⟩:=HW.out (fm+c) (by have:=HB.out;omega)
    cases e
    have:=LE.out
    omega,pl⟩
   clear hx ha hd ht wx a2 dl hcm hc pl
   have RA:Hid (∀v,Ab wr v->v.rowIs g 22 m (fun i=>.int .u32 ((if i<c then tb n W (fm+i)else 0:Nat):Int))):=fun v a=>Sh.aD R1.out a
   have XA:Hid (∀v,Ab wr v->Abx wr g m 22 v):=fun v a=>by
    obtain⟨cs,h1,h2,_⟩:=R1.out
    exact a.x h2 h1
   have X0:Ab wr wr:=Ab.refl wr
   have X1:=XA.out wr X0
   have WC:=hid wc
   clear wc
   have KS:Hid (∀v,Abx wr g m 22 v->v.cell? ⟨pw,ow+(fm+c),none⟩=some (.int .i64 x)/\v.frozen? ⟨g,c,none⟩=false/\v.cell? ⟨g,c,none⟩=some (rv v g c)):=fun v h=>⟨(World.cell?_of_block (h.1.2.2.2.2 pw PN.out.2 PN.out.1)).trans WC.out,h.free c,h.some HC.out⟩
   go_wp2_with fail
   go_region_held3 (fun v=>v.cell? ⟨pw,ow+(fm+c),none⟩=some (.int .i64 x)/\v.frozen? ⟨g,c,none⟩=false/\v.cell? ⟨g,c,none⟩=some (rv v g c)) ((refine KS.out _ ?_;(with_reducible (repeat(first | assumption | apply Abx.drew | apply Abx.set)));done)) (first
    | (go_at_call 16;refine(CAc.out _).mono ?_;rintro e9 z1 ⟨rfl,b1⟩;have az1:Ab wr z1:=Ab.trans (show Ab wr _ by with_reducible (repeat(first | assumption | apply Ab.drew | apply Ab.drewN))) b1;have ax1:=XA.out _ az1)
    | (go_at_call 15;refine(CD.out _).mono ?_;rintro e9 z2 ⟨rfl,k2,hz2⟩;have az2:Ab wr z2:=(by rw[hz2];exact Ab.drewN (show Ab wr _ by with_reducible (repeat(first | assumption | apply Ab.drew))) _);have ax2:=XA.out _ az2;clear hz2)
    | (go_at_call 14;refine(CT.out _).mono ?_;rintro e9 z3 ⟨rfl,hz3⟩;have hz4:=hz3.symm;subst hz4))
   have RZ:=hid (RA.out _ az2)
   have AZ:=hid (AW.out.trans az2)
   clear KS X0 X1 XA RA
   go_wp2_with fail
   refine⟨⟨c+1,by have:=HC.out;omega,by simp,AZ.out.setk LE.out _,(RZ.out.set c _).congr (fun i _=> ?_)⟩,by have:=HC.out;simp[intOf];omega⟩
   by_cases e:i=c
   ·rw[if_pos e,if_pos (by omega),e,TE.out]
   ·by_cases l:i<c
    ·rw[if_neg e,if_pos l,if_pos (by omega)]
    ·rw[if_neg e,if_neg l,if_neg (by omega)]
  ·have e6:m=c:=by omega
   subst e6
   go_wp2
   go_ret
   exact⟨g,rfl,AW.out,LE.out,R1.out.congr (fun i hi=>by rw[if_pos hi])⟩
theorem oA:(Try.prog.info? 25).map (fun i=>(i.zero,i.size,i.bytes))=some (some (.agg #[.int .i64 0,.int .u32 0,.int .u32 0,.slice none 0 0]),4,40):=by kernel_rfl
theorem dp_52t{w a:Int}(w2:w<=4503599627370496)(a2:a<=9223372036854775807):dpB w a<=4841369599423283200:=by
 by_cases h:w<1\/a<1
 ·rw[dN h];omega
 ·have e:dpB 4503599627370496 1=4841369599423283200:=by decide+kernel
  have m:=pB (w:=w) (w':=4503599627370496) (a:=a) w2 (by omega) a2
  have n:=pC (w:=4503599627370496) (a:=1) (a':=a) (by omega) (by omega) (by omega) a2
  omega
theorem to32_0:dF 0=0:=by decide+kernel
theorem tb_lt{n c:Nat}{W:Nat->Int}(h:W c<=4503599627370496):tb n W c<2139095040:=by
 have a2:=(pD (ArC n c)).2
 unfold tb
 rcases dp_low (w:=W c) (by omega) a2 with e | ⟨e1,_⟩
 ·rw[e,to32_0];decide
 ·exact(nZ e1 (dp_52t h a2)).1
theorem pH{W:Nat->Int}: ∀{N:Nat},(∀i,i<N->0<=W i)->0<=Sh.sumN W N/\ ∀i,i<N->W i<=Sh.sumN W N
 | 0,_=>⟨Int.le_refl _,fun i hi=>absurd hi (Nat.not_lt_zero i)⟩
 | N+1,h=>by
  obtain⟨h1,h2⟩:=pH (N:=N) (fun i hi=>h i (by omega))
  have h3:=h N (by omega)
  have e:Sh.sumN W (N+1)=Sh.sumN W N+W N:=rfl
  rw[e]
  refine⟨by omega,fun i hi=> ?_⟩
  by_cases c:i=N
  ·rw[c];omega
  ·have:=h2 i (by omega);omega
theorem kM{side:Int}{lb lw lt ls:Nat}{B:Nat->Nat}{W T:Nat->Int}{S:Nat->Nat}{sky st:Int}(c:(Ss.chk side lb lw lt ls B W T S sky st).2=0): ∃n:Nat,side=(n:Nat)/\(1<=n/\n<=32)/\lw=6*(n*n)/\ ∀i,i<6*(n*n)->0<=W i/\W i<=4503599627370496:=by
 unfold Ss.chk at c
 by_cases q:1<=side/\side<=32
 ·rw[if_pos q]at c
  obtain⟨a,b⟩:=Ss.chN_ok.1 c
  refine⟨side.toNat,by omega,by omega,by rw[a.2.1,Nat.mul_assoc],fun i hi=> ?_⟩
  rw[<- Nat.mul_assoc]at hi
  obtain⟨_,s1,⟨s2,s3⟩,_⟩:=b
  have p:=pH s2
  have:=p.2 i hi
  exact⟨s2 i hi,by omega⟩
 ·rw[if_neg q]at c
  exact absurd c (by decide)
def tcv(n m:Nat)(W:Nat->Int)(gs:Nat->Nat)(i:Nat):Value:=
 if i%4=0 then .int .i64 ((i/4:Nat):Int)else if i%4=1 then .int .u32 ((lo (fun k=>tb n W (i/4*m+k)) (m - 1):Nat):Int)else if i%4=2 then .int .u32 ((hi (fun k=>tb n W (i/4*m+k)) (m - 1):Nat):Int)else .slice (some ⟨gs (i/4),0,none⟩) m m
def tzv(i:Nat):Value:=if i%4=0 then .int .i64 0 else if i%4=3 then .slice none 0 0 else .int .u32 0
theorem tz_row(i:Nat)(hi:i<24):(madeCells #[.int .i64 0,.int .u32 0,.int .u32 0,.slice none 0 0] 24)[i]? =some (tzv i):=by
 have c:i%4=0\/i%4=1\/i%4=2\/i%4=3:=by omega
 unfold tzv
 rcases c with e | e | e | e<;>simp[madeCells,hi,e]
def tcz(n m:Nat)(W:Nat->Int)(gs:Nat->Nat)(c i:Nat):Value:=if i<4*c then tcv n m W gs i else tzv i
theorem tiles_no(side:Int)(pb:Option Addr)(lb cb:Nat)(pw:Option Addr)(lw cw:Nat)(pt:Option Addr)(lt ct:Nat)(ps:Option Addr)(ls cs:Nat)(sky st:Int)(c1 c2:Int)(w:World)(h:(c2 != 0)=true)
  (CC:Hid (∀v,Ab w v->Calls prog 13 #[.int .i64 side,.agg #[.slice pb lb cb,.slice pw lw cw,.slice pt lt ct,.slice ps ls cs,.int .i64 sky,.int .i64 st]] v fun e w'=>e=.returned (.tuple #[.int .i64 c1,.int .i64 c2])/\Below v.heap.size v w')):
  Calls prog 12 #[.int .i64 side,.agg #[.slice pb lb cb,.slice pw lw cw,.slice pt lt ct,.slice ps ls cs,.int .i64 sky,.int .i64 st]] w fun e w'=>e=.returned (.tuple #[.slice none 0 0,.int .i64 c2])/\Below w.heap.size w w':=by
 obtain⟨A0,R0⟩:=aF w (.cells #[.slice pb lb cb,.slice pw lw cw,.slice pt lt ct,.slice ps ls cs,.int .i64 sky,.int .i64 st] 40)
 go_enter func12,ntmps12
 go_upto_region 1 with fail
 generalize hW:World.alloc w _=V0 at*
 obtain⟨gw,hgw⟩:=aB w.heap.size
 rw[hgw]at R0 ⊢
 clear hgw hW
 have y0:=aE R0.out
 go_wp2_with fail
 refine(CC.out V0 A0.out).mono ?_
 rintro e9 v1 ⟨rfl,b1⟩
 have A1:Hid (Ab w v1):=Ab.trans A0.out b1
 clear b1 y0
 go_wp2
 go_ret2
 exact⟨rfl,A1.out⟩
theorem tiles_go(n m:Nat)(pb:Option Addr)(lb cb:Nat)(pw ow lw cw:Nat)(W:Nat->Int)(pt:Option Addr)(lt ct:Nat)(ps:Option Addr)(ls cs:Nat)(sky st:Int)(c1:Int)(w:World)(hn:1<=n/\n<=32)(hm:n*n=m)(hl:lw=6*m)(hW:Sh.IsI w (some ⟨pw,ow,none⟩) lw W)(h0: ∀i,i<6*m->0<=W i/\W i<=4503599627370496)
  (CC:Hid (∀v,Ab w v->Calls prog 13 #[.int .i64 (n:Nat),.agg #[.slice pb lb cb,.slice (some ⟨pw,ow,none⟩) lw cw,.slice pt lt ct,.slice ps ls cs,.int .i64 sky,.int .i64 st]] v fun e w'=>e=.returned (.tuple #[.int .i64 c1,.int .i64 0])/\Below v.heap.size v w')):
  Calls prog 12 #[.int .i64 (n:Nat),.agg #[.slice pb lb cb,.slice (some ⟨pw,ow,none⟩) lw cw,.slice pt lt ct,.slice ps ls cs,.int .i64 sky,.int .i64 st]] w fun e w'=> ∃gl gs,e=.returned (.tuple #[.slice (some ⟨gl,0,none⟩) 6 6,.int .i64 0])/\Below w.heap.size w w'/\w.heap.size<=gl/\w'.rowIs gl 25 24 (tcv n m W gs)/\(∀j,j<6->gl<gs j/\w'.rowIs (gs j) 22 m (fun k=>.int .u32 ((tb n W (j*m+k):Nat):Int)))/\ ∀i j,i<j->j<6->gs i<gs j:=by
 have m1:1<=m/\m<=1024:=by have:=dG hn.1 hn.2;omega
 have M6: ∀v:World,(Instr.makeSlice 41 (.int .i64 6) (.int .i64 6)).run prog v=.ok (.slice (some ⟨v.heap.size,0,none⟩) 6 6) (v.alloc (Obj.cells (madeCells #[.int .i64 0,.int .u32 0,.int .u32 0,.slice none 0 0] 24) 25)):=fun v=>by
  obtain⟨i,hi,hz⟩:=Option.map_eq_some_iff.1 oA
  simp only[Prod.mk.injEq]at hz
  obtain⟨z1,z2,z3⟩:=hz
  have q:=run_make (P:=prog) v 41 25 i _ underlying41 hi z1 .i64 .i64 6 6 (by decide) (by decide) (by rw[z3];decide) (by decide)
  rw[z2]at q
  exact q
 have HI:=hid (show 1<=m/\m<=1024/\lw=6*m from⟨m1.1,m1.2,hl⟩)
 have CD:=hid (fun fc (hfc:fc<6) v (a:Ab w v)=>qS n fc m (fc*m) pw ow lw cw W v hn hm rfl hfc hl (hW.below a))
 have HB:=hid (fun c (hc:c<6*m)=>tb_lt (n:=n) (h0 c hc).2)
 have LW:=hid (fun i (hi:i<6*m)=>(hW.at0 (k:=i) (by omega)).2.1)
 have mB:(m:Int)<=1024:=by omega
 clear hn hm hl hW h0 m1
 obtain⟨A0,R0⟩:=aF w (.cells #[.slice pb lb cb,.slice (some ⟨pw,ow,none⟩) lw cw,.slice pt lt ct,.slice ps ls cs,.int .i64 sky,.int .i64 st] 40)
 go_enter func12,ntmps12
 go_upto_region 1 with fail
 generalize hW:World.alloc w _=V0 at*
 obtain⟨gw,hgw⟩:=aB w.heap.size
 rw[hgw]at R0 ⊢
 clear hgw hW
 obtain⟨y0,y1,y2,y3,y4,y5⟩:=aE R0.out
 go_wp2_with fail
 refine(CC.out V0 A0.out).mono ?_
 rintro e9 v1 ⟨rfl,b1⟩
 have A1:Hid (Ab w v1):=Ab.trans A0.out b1
 have R1:=hid (Ab.heap b1 R0.out)
 clear b1 y0 y1 y2 y3 y4 y5 A0 R0 CC
 have A2:=dJ (bl1 v1 (Obj.cells (madeCells #[.int .i64 0,.int .u32 0,.int .u32 0,.slice none 0 0] 24) 25))
 have N2:Hid ((v1.alloc (Obj.cells (madeCells #[.int .i64 0,.int .u32 0,.int .u32 0,.slice none 0 0] 24) 25)).rowIs v1.heap.size 25 24 tzv):=⟨_,heap_alloc_new _ _,size_madeCells _ _,tz_row⟩
 go_upto_region 5 with fail
 generalize hV:World.alloc v1 _=v2 at*
 obtain⟨gl,hg⟩:=aB v1.heap.size
 have LG:Hid (w.heap.size<=gl/\gw<gl/\v1.heap.size<=gl/\gl<v2.heap.size):=⟨by have:=A1.out.size;omega,by have:=lt_of_block R1.out;omega,by omega,by rw[hg]at N2;exact N2.out.lt⟩
 rw[hg]at N2 ⊢
 have A3:Hid (Ab w v2):=A1.out.trans A2.out
 have R2:=hid (A2.out.heap R1.out)
 clear hg hV M6 A1 A2 R1
 go_wp2
 go_loopw [25] (fun iv wr=> ∃(c:Nat) (gs:Nat->Nat),c<=6/\iv=.int .i64 (c:Nat)/\Ab w wr/\wr.heap[gw]? =some (.cells #[.slice pb lb cb,.slice (some ⟨pw,ow,none⟩) lw cw,.slice pt lt ct,.slice ps ls cs,.int .i64 sky,.int .i64 st] 40)/\gl<wr.heap.size/\wr.rowIs gl 25 24 (tcz n m W gs c)/\(∀j,j<c->gl<gs j/\gs j<wr.heap.size/\wr.rowIs (gs j) 22 m (fun k=>.int .u32 ((tb n W (j*m+k):Nat):Int)))/\ ∀i j,i<j->j<c->gs i<gs j) (fun iv _=>6 - (intOf iv).toNat)
 case atStart=>exact⟨0,fun _=>0,by omega,rfl,A3.out,R2.out,LG.out.2.2.2,N2.out.congr (fun i _=>by unfold tcz;rw[if_neg (by omega)]),fun j hj=>absurd hj (Nat.not_lt_zero j),fun i j _ hj=>absurd hj (Nat.not_lt_zero j)⟩
 case round=>
  obtain⟨c,gs,hc,rfl,a1,r1,l1,n1,k1,k2⟩:=hrel
  have AW:=hid a1
  have RW:=hid r1
  have LL:=hid l1
  have NW:=hid n1
  have K1:=hid k1
  have K2:=hid k2
  clear a1 r1 l1 n1 k1 k2 A3 R2 N2
  by_cases hc6:c<6
  ·have HC:=hid hc6
   have hcI:(c:Int)<6:=by omega
   have CDc:=hid (CD.out c hc6 wr AW.out)
   have y1:=aA 1 RW.out
   clear hc hc6
   go_wp2_with fail
   refine CDc.out.mono ?_
   rintro e9 v4 ⟨g,rfl,b4,l4,r4⟩
   have A4:Hid (Ab wr v4):=b4
   have G4:=hid (show wr.heap.size<=g/\g<v4.heap.size from⟨l4,r4.lt⟩)
   have R4:=hid r4
   clear b4 l4 r4 CDc y1
   have fb: ∀i,i<m->tb n W (c*m+i)<2139095040:=fun i hi=>HB.out _ (by
    have:=HC.out
    have p:c*m+m<=6*m:=by
     have e:c*m+m=(c+1)*m:=(Nat.succ_mul c m).symm
     rw[e]
     exact Nat.mul_le_mul_right _ (by omega)
    omega)
   have CE:=hid (oY g 0 m m (fun i=>tb n W (c*m+i)) v4 HI.out.1 (by have:=HI.out;omega) (bF R4.out (fun i hi=>Nat.lt_trans (fb i hi) (by decide))) fb)
   obtain⟨l,hl⟩:=aB (lo (fun i=>tb n W (c*m+i)) (m - 1))
   obtain⟨h,hh⟩:=aB (hi (fun i=>tb n W (c*m+i)) (m - 1))
   rw[hl,hh]at CE
   have HL:=hid (show lo (fun i=>tb n W (c*m+i)) (m - 1)=l/\hi (fun i=>tb n W (c*m+i)) (m - 1)=h from⟨hl,hh⟩)
   clear hl hh fb
   go_wp2_with fail
   refine CE.out.mono ?_
   rintro e9 v9 ⟨rfl,hv9⟩
   have hv8:=hv9.symm
   subst hv8
   have N4:=hid (Sh.aD NW.out A4.out)
   have z0:=N4.out.cell (i:=c*4) (by have:=HC.out;omega)
   have z1:=N4.out.cell (i:=c*4+1) (by have:=HC.out;omega)
   have z2:=N4.out.cell (i:=c*4+2) (by have:=HC.out;omega)
   have z3:=N4.out.cell (i:=c*4+3) (by have:=HC.out;omega)
   have f0:=N4.out.frozen (c*4)
   have f1:=N4.out.frozen (c*4+1)
   have f2:=N4.out.frozen (c*4+2)
   have f3:=N4.out.frozen (c*4+3)
   go_wp2
   have A5:=hid (((((AW.out.trans A4.out).setk (k:=c*4) LG.out.1 (.int .i64 (c:Int))).setk (k:=c*4+1) LG.out.1 (.int .u32 (l:Nat))).setk (k:=c*4+2) LG.out.1 (.int .u32 (h:Nat))).setk (k:=c*4+3) LG.out.1 (.slice (some ⟨g,0,none⟩) m m))
   have B5:Hid (Sh.Abo v4 gl ((((v4.setCell ⟨gl,c*4,none⟩ (.int .i64 (c:Int))).setCell ⟨gl,c*4+1,none⟩ (.int .u32 (l:Nat))).setCell ⟨gl,c*4+2,none⟩ (.int .u32 (h:Nat))).setCell ⟨gl,c*4+3,none⟩ (.slice (some ⟨g,0,none⟩) m m))):=Abo.set (Abo.set (Abo.set (Abo.set (Sh.Abo.refl _ _) _ _) _ _) _ _) _ _
   have N5:=hid ((((N4.out.set (c*4) (.int .i64 (c:Int))).set (c*4+1) (.int .u32 (l:Nat))).set (c*4+2) (.int .u32 (h:Nat))).set (c*4+3) (.slice (some ⟨g,0,none⟩) m m))
   refine⟨⟨c+1,fun j=>if j=c then g else gs j,by have:=HC.out;omega,by simp,A5.out,(B5.out.2.2.2.2 gw (by have:=LG.out;have:=A4.out.size;have:=LL.out;omega) (by have:=LG.out;omega)).trans (A4.out.heap RW.out),by have:=B5.out.2.2.2.1;have:=A4.out.size;have:=LL.out;omega,N5.out.congr (fun i hi=> ?_),fun j hj=> ?_,fun i j hij hj=> ?_⟩,by have:=HC.out;simp[intOf];omega⟩
   ·by_cases e3:i=c*4+3
    ·rw[if_pos e3]
     unfold tcz tcv
     rw[if_pos (by omega),if_neg (by omega),if_neg (by omega),if_neg (by omega)]
     dsimp only
     rw[if_pos (show i/4=c by omega)]
    rw[if_neg e3]
    by_cases e2:i=c*4+2
    ·rw[if_pos e2]
     unfold tcz tcv
     rw[if_pos (by omega),if_neg (by omega),if_neg (by omega),if_pos (by omega),show i/4=c by omega,HL.out.2]
    rw[if_neg e2]
    by_cases e1:i=c*4+1
    ·rw[if_pos e1]
     unfold tcz tcv
     rw[if_pos (by omega),if_neg (by omega),if_pos (by omega),show i/4=c by omega,HL.out.1]
    rw[if_neg e1]
    by_cases e0:i=c*4
    ·rw[if_pos e0]
     unfold tcz tcv
     rw[if_pos (by omega),if_pos (by omega),show i/4=c by omega]
    rw[if_neg e0]
    unfold tcz
    by_cases l4:i<4*c
    ·rw[if_pos l4,if_pos (by omega)]
     unfold tcv
     dsimp only
     rw[if_neg (show¬i/4=c by omega)]
    ·rw[if_neg l4,if_neg (by omega)]
   ·have gn:gl≠g:=by have:=G4.out;have:=LL.out;omega
    have sz:=B5.out.2.2.2.1
    dsimp only
    by_cases e:j=c
    ·subst e
     rw[if_pos rfl]
     refine⟨by have:=G4.out;have:=LL.out;omega,by have:=G4.out;omega,Sh.aY R4.out B5.out (Ne.symm gn)⟩
    ·rw[if_neg e]
     obtain⟨q1,q2,q3⟩:=K1.out j (by omega)
     exact⟨q1,by have:=A4.out.size;omega,Sh.aY (Sh.aD q3 A4.out) B5.out (by omega)⟩
   ·dsimp only
    by_cases e:j=c
    ·rw[if_pos e,if_neg (by omega)]
     have q:=(K1.out i (by omega)).2.1
     have:=G4.out
     omega
    ·rw[if_neg e,if_neg (by omega)]
     exact K2.out i j hij (by omega)
  ·have e6:c=6:=by omega
   subst e6
   go_wp2
   go_ret2
   exact⟨gl,gs,rfl,AW.out,LG.out.1,NW.out.congr (fun i hi=>by unfold tcz;rw[if_pos (by omega)]),fun j hj=>⟨(K1.out j hj).1,(K1.out j hj).2.2⟩,K2.out⟩
end Ti
end
section
open Go.RowKit Go.Deep Tf Cu
namespace Ti
def f4(i:Nat):Nat:=[1065353216,1073741824,0,1065353216].getD i 0
def E30:Nat->Nat:=enc 5 2 0 1073741824 f4
theorem ok4:okT 5 4 f4 0 1073741824=true:=by decide+kernel
theorem sd4:sideN 4=2:=by decide+kernel
theorem e30:dErr 30 E30=0:=by decide+kernel
theorem e30_h:E30 4=5/\E30 5=2/\num E30 6=0/\num E30 10=1073741824:=by decide+kernel
theorem e30_d: ∀i,i<4->dec E30 i=f4 i:=by decide+kernel
theorem e30_b:((str E30 30).toList==([84,73,76,69,5,2,0,0,0,0,0,0,0,64,0,0,128,63,0,0,128,127,0,0,0,64,0,0,128,63]:List UInt8))=true:=by
 rw[eA]
 decide+kernel
theorem e0(f:Nat->Nat):dErr 0 f=31:=by
 have e:derr 0 f=31:=by unfold derr;rw[if_pos (by decide)]
 unfold dErr
 rw[e]
 rfl
def W6(i:Nat):Int:=if i=0 then 1431655765 else 0
theorem chk6:Ss.chk 1 6 6 6 12 (fun _=>0) W6 (fun _=>0) (fun _=>0) 0 0=(0,0):=by decide+kernel
theorem tb6:hi (fun k=>tb 1 W6 (0*1+k)) 0=1065353216:=by decide+kernel
end Ti
end
section
open Go.RowKit
def backB(md:Region.Mode)(ops:Array Oper)(n:Nat):Bool:=
 (List.range n).all fun i=>match ops[i]? with
  | some o=>o.after.all (fun e=> !Region.binds md e||decide (e.on<i))&&(match o.guard with | none=>true | some (j,_)=>decide (j<n))
  | none=>true
def finA(m n:Nat):Array Bool:=Array.replicate n true++Array.replicate (m - n) false
theorem fY{md:Region.Mode}{ops:Array Oper}{n:Nat}(h:backB md ops n=true){i:Nat}{o:Oper}(hi:i<n)(ho:ops[i]? =some o):
  (∀e ∈ o.after,Region.binds md e=true->e.on<i)/\(∀j b,o.guard=some (j,b)->j<n):=by
 have a:=List.all_eq_true.1 h i (List.mem_range.2 hi)
 simp only[ho,Bool.and_eq_true]at a
 refine⟨fun e he hb=> ?_,fun j b hg=> ?_⟩
 ·have:=Array.all_eq_true_iff_forall_mem.1 a.1 e he
  simpa [hb]using this
 ·have:=a.2
  rw[hg]at this
  simpa using this
theorem kN{l:Array Bool}{i:Nat}(h:i<l.size)(d d':Bool):l.getD i d=l.getD i d':=by simp[h]
theorem iJ{P:Program}{md:Region.Mode}{ops:Array Oper}{Q:Exit->Act->World->Prop}: ∀(g k:Nat) (listed:Array Bool) (a:Act) (w:World),wpAny P md ops Q g listed a w->wpAny P md ops Q (g+k) listed a w
 | 0,0,_,_,_,h=>h
 | 0,k+1,listed,a,w,h=>by
  rw[Nat.zero_add]
  exact⟨fun _=>h.2,fun i hi=>by rw[h.1]at hi;cases hi⟩
 | g+1,k,listed,a,w,h=>by
  rw[show g+1+k=(g+k)+1 by omega]
  exact⟨h.1,fun i hi=>wpOp_mono (fun a' w' h'=>iJ g k _ a' w' h') (h.2 i hi)⟩
section
variable {P:Program} {md:Region.Mode} {ops hd:Array Oper} {C:World->Prop} {n:Nat}
theorem iK(hhd: ∀i,i<n->hd[i]? =ops[i]?)(hb:backB md ops n=true){listed lh:Array Bool}(hl:lh.size=n)(hls:n<=listed.size)(he: ∀i,i<n->lh.getD i true=listed.getD i true){i:Nat}(hi:i<n):
  i ∈ Region.ready md hd lh ↔ i ∈ Region.ready md ops listed:=by
 rw[mem_ready,mem_ready,he i hi,hhd i hi]
 refine and_congr Iff.rfl (exists_congr fun o=>and_congr_right fun ho=>forall_congr' fun e=>forall_congr' fun hm=>forall_congr' fun hbd=> ?_)
 have lt:=(fY hb hi ho).1 e hm hbd
 rw[kN (d:=false) (d':=true) (by omega),kN (l:=listed) (d:=false) (d':=true) (by omega),he _ (by omega)]
theorem iL(hsz:n<=ops.size)(hb:backB md ops n=true){listed:Array Bool}(hls:n<=listed.size):
  (∀i,i<n->listed.getD i true=true)\/ ∃i,i<n/\i ∈ Region.ready md ops listed:=by
 have key: ∀k,k<=n->(∀i,i<k->listed.getD i true=true)\/ ∃i,i<n/\i ∈ Region.ready md ops listed:=by
  intro k
  induction k with
  | zero=>exact fun _=>.inl (fun i hi=>by omega)
  | succ k ih=>
   intro hk
   rcases ih (by omega)with h | h
   ·cases c:listed.getD k true
    ·right
     refine⟨k,by omega,mem_ready.2 ⟨c,ops[k]'(by omega),by simp,fun e he hbd=> ?_⟩⟩
     have lt:=(fY hb (i:=k) (o:=ops[k]'(by omega)) (by omega) (by simp)).1 e he hbd
     rw[kN (d:=false) (d':=true) (by omega)]
     exact h _ lt
    ·left
     intro i hi
     by_cases e:i=k
     ·rw[e];exact c
     ·exact h i (by omega)
   ·exact .inr h
 exact key n (Nat.le_refl _)
theorem fin_of{listed:Array Bool}(hn:n<ops.size)(inv:HeadInv md ops n listed)(h: ∀i,i<n->listed.getD i true=true):listed=finA ops.size n:=by
 have s:=inv.size
 unfold finA
 refine Array.ext (by simp;omega) fun i h1 h2=> ?_
 by_cases c:i<n
 ·have:=h i c
  rw[Array.getElem_append_left (by simpa using c)]
  simp[h1]at this
  simpa using this
 ·have:=inv.tail i (by omega) (by omega)
  rw[Array.getElem_append_right (by simp;omega)]
  simp[h1]at this
  simpa using this
end
def tailB(ops:Array Oper)(n:Nat):Bool:=
 decide (n<ops.size)&&backB .any ops n&&Region.sinkB .any ops n&&Region.chainB .any ops n&&Region.seqB .any ops (ops.size - n) n (finA ops.size n)
end
section
open Go.RowKit
def Fresh(W:World)(S:Nat->Option Nat)(b:Nat):Prop:=W.heap.size<=b/\ ∀i c,S i=some c->c≠b
def putL(S:Nat->Option Nat)(i b:Nat):Nat->Option Nat:=fun k=>if k=i then some b else S k
def Has(W:World)(sp:Nat->Option (Obj × (Nat->Value)))(S:Nat->Option Nat)(w:World):Prop:=Ab W w/\ ∀i b,S i=some b->W.heap.size<=b/\ ∃o mk,sp i=some (o,mk)/\w.heap[b]? =some o
section
variable {P:Program} {ops:Array Oper} {md:Region.Mode} {W:World} {sp:Nat->Option (Obj × (Nat->Value))}
def YF(P:Program)(ops:Array Oper)(W:World)(o:Oper)(v:Value)(a:Act):Prop:=
 (Region.wanted o (yielded ops a.tmps)=true/\ ∀w,Ab W w->(execOp a.eval o).run P w=.ok (.value v) w)\/(Region.wanted o (yielded ops a.tmps)=false/\v=undef)
def LF(P:Program)(ops:Array Oper)(W:World)(o:Oper)(ob:Obj)(mk:Nat->Value)(a:Act):Prop:=
 Region.wanted o (yielded ops a.tmps)=true/\ ∀w,Ab W w->(execOp a.eval o).run P w=.ok (.value (mk w.heap.size)) (w.alloc ob)
def fOp(P:Program)(ops:Array Oper)(W:World)(sp:Nat->Option (Obj × (Nat->Value)))(i:Nat)(K:Act->(Nat->Option Nat)->Prop)(a:Act)(S:Nat->Option Nat):Prop:=
 match ops[i]? with
 | none=>K a S
 | some o=>
  match sp i with
  | none=> ∃v,YF P ops W o v a/\K (a.put o.dst v) S
  | some (ob,mk)=>LF P ops W o ob mk a/\ ∀b,Fresh W S b->K (a.put o.dst (mk b)) (putL S i b)
def wpAnyF(P:Program)(md:Region.Mode)(ops:Array Oper)(W:World)(sp:Nat->Option (Obj × (Nat->Value)))(Q:Act->(Nat->Option Nat)->Prop):Nat->Array Bool->Act->(Nat->Option Nat)->Prop
 | 0,listed,a,S=>Region.ready md ops listed=[]/\Q a S
 | fuel+1,listed,a,S=>
  (Region.ready md ops listed=[]->Q a S)/\
  ∀i ∈ Region.ready md ops listed,fOp P ops W sp i (wpAnyF P md ops W sp Q fuel (listed.setIfInBounds i true)) a S
def Tidy(W:World)(listed:Array Bool)(S:Nat->Option Nat):Prop:=(∀k,listed.getD k true=false->S k=none)/\ ∃n,W.heap.size<=n/\ ∀i c,S i=some c->c<n
def wpFree(P:Program)(ops:Array Oper)(W:World)(sp:Nat->Option (Obj × (Nat->Value)))(Q:Act->(Nat->Option Nat)->Prop):List Oper->Nat->Act->(Nat->Option Nat)->Prop
 | [],_,a,S=>Q a S
 | o :: rest,k,a,S=>
  match sp k with
  | none=> ∃v,YF P ops W o v a/\wpFree P ops W sp Q rest (k+1) (a.put o.dst v) S
  | some (ob,mk)=>LF P ops W o ob mk a/\ ∀b,Fresh W S b->wpFree P ops W sp Q rest (k+1) (a.put o.dst (mk b)) (putL S k b)
end
end
section
open Go.RowKit
def plainB:Op->Bool
 | .move _ | .assign _ | .pick _ _ _ | .build _ _ | .load _ _ | .binOp _ _ _ _ _ | .unOp _ _ _ | .convert _ _ _ | .slice _ _ _ _ _ | .fieldAddr _ _ _ | .field _ _ _ | .indexAddr _ _ _ | .index _ _ _ | .extract _ _=>true
 | _=>false
theorem val_only{P:Program}{s:Sem Value}{w w':World}{n:Next}(e:(do pure (Next.value (<- s)):Sem Next).run P w=.ok n w'): ∃x,n=.value x:=by
 rw[Sem.run_bind]at e
 cases h:s.run P w with
 | ok x w1=>
  rw[h]at e
  simp at e
  exact⟨x,e.1.symm⟩
 | halt x w1=>rw[h]at e;simp at e
theorem qT{P:Program}{α:Type}{s:Sem α}{f:α->Value}{w w':World}{n:Next}(e:((s.run P w).andThen fun x w=>Result.ok (Next.value (f x)) w)=.ok n w'): ∃x,n=.value x:=by
 cases h:s.run P w with
 | ok x w1=>
  rw[h]at e
  simp at e
  exact⟨f x,e.1.symm⟩
 | halt x w1=>rw[h]at e;simp at e
theorem mJ{P:Program}{ρ:Operand->Value}{o:Oper}{w w':World}{n:Next}(h:plainB o.op=true)(e:(execOp ρ o).run P w=.ok n w'): ∃x,n=.value x:=by
 unfold execOp at e
 cases ho:o.op<;>rw[ho]at h e<;>first | (simp[plainB]at h;done) | exact val_only e | (simp at e;first | exact⟨_,e.1.symm⟩ | exact qT (f:=fun b=>if b=true then ρ _ else ρ _) e)
section
variable {P:Program} {ops:Array Oper} {W:World} {sp:Nat->Option (Obj × (Nat->Value))} {Q:Act->(Nat->Option Nat)->Prop} {o:Oper} {rest:List Oper} {k:Nat} {a:Act} {S:Nat->Option Nat}
end
end
section
open Go.RowKit
namespace Cx
abbrev Ix:=List Nat × Value
abbrev Sp:=Nat->Option ((Ix->World->Prop) × (Ix->Value))
def Stable(sp:Sp):Prop:= ∀i R mk,sp i=some (R,mk)-> ∀x w w',R x w->Ab w w'->R x w'
def Fresh(W:World)(S:Nat->Option Ix)(x:Ix):Prop:= ∀b,b ∈ x.1->W.heap.size<=b/\ ∀i y,S i=some y->b ∉ y.1
def putL(S:Nat->Option Ix)(i:Nat)(x:Ix):Nat->Option Ix:=fun k=>if k=i then some x else S k
def Has(W:World)(sp:Sp)(S:Nat->Option Ix)(w:World):Prop:=Ab W w/\ ∀i x,S i=some x->(∀b,b ∈ x.1->W.heap.size<=b/\b<w.heap.size)/\ ∃R mk,sp i=some (R,mk)/\R x w
theorem qU(S:Nat->Option Ix){i j:Nat}(b c:Ix)(h:i≠j):putL (putL S i b) j c=putL (putL S j c) i b:=by
 funext k
 unfold putL
 by_cases e:k=j
 ·subst e;simp[Ne.symm h]
 ·by_cases e2:k=i
  ·subst e2;simp[e]
  ·simp[e,e2]
theorem Fresh.put{W:World}{S:Nat->Option Ix}{i:Nat}{x y:Ix}(h:Fresh W S y)(n: ∀b,b ∈ y.1->b ∉ x.1):Fresh W (putL S i x) y:=
 fun b hb=>⟨(h b hb).1,fun k z e=>by
  unfold putL at e
  by_cases q:k=i
  ·rw[if_pos q]at e;injection e with e;rw[<- e];exact n b hb
  ·rw[if_neg q]at e;exact(h b hb).2 k z e⟩
theorem Fresh.of_put{W:World}{S:Nat->Option Ix}{i:Nat}{x y:Ix}(h:Fresh W (putL S i x) y)(hi:S i=none):Fresh W S y/\ ∀b,b ∈ y.1->b ∉ x.1:=by
 refine⟨fun b hb=>⟨(h b hb).1,fun k z e=>(h b hb).2 k z ?_⟩,fun b hb=>(h b hb).2 i x (by simp[putL])⟩
 unfold putL
 by_cases q:k=i
 ·subst q;rw[hi]at e;cases e
 ·rw[if_neg q];exact e
theorem Has.lay{W:World}{sp:Sp}(st:Stable sp){S:Nat->Option Ix}{w w1:World}(h:Has W sp S w){i:Nat}{x:Ix}{R:Ix->World->Prop}{mk:Ix->Value}(e:sp i=some (R,mk))(a:Ab w w1)(hb: ∀b,b ∈ x.1->w.heap.size<=b/\b<w1.heap.size)(ho:R x w1):Has W sp (putL S i x) w1:=
 ⟨h.1.trans a,fun k c q=>by
  unfold putL at q
  by_cases z:k=i
  ·subst z
   rw[if_pos rfl]at q
   injection q with q
   subst q
   exact⟨fun b e2=>⟨Nat.le_trans h.1.size (hb b e2).1,(hb b e2).2⟩,R,mk,e,ho⟩
  ·rw[if_neg z]at q
   obtain⟨h1,R',mk',h2,h3⟩:=h.2 k c q
   exact⟨fun b e2=>⟨(h1 b e2).1,Nat.lt_of_lt_of_le (h1 b e2).2 a.size⟩,R',mk',h2,st k R' mk' h2 c w w1 h3 a⟩⟩
theorem Has.freshb{W:World}{sp:Sp}{S:Nat->Option Ix}{w:World}(h:Has W sp S w){x:Ix}(hb: ∀b,b ∈ x.1->w.heap.size<=b):Fresh W S x:=
 fun b e=>⟨Nat.le_trans h.1.size (hb b e),fun i y e2 e3=>by
  have h1:=((h.2 i y e2).1 b e3).2
  have h2:=hb b e
  omega⟩
def rst(q:List Nat)(S:Nat->Option Ix):Nat->Option Ix:=fun k=>if k ∈ q then S k else none
theorem pK{q:List Nat}{S:Nat->Option Ix}{i:Nat}{x:Ix}(h:i ∉ q):rst q (putL S i x)=rst q S:=by
 funext k
 unfold rst putL
 by_cases e:k=i
 ·subst e;rw[if_neg h,if_neg h]
 ·rw[if_neg e]
theorem Has.rst{W:World}{sp:Sp}{S:Nat->Option Ix}{w:World}(h:Has W sp S w)(q:List Nat):Has W sp (rst q S) w:=
 ⟨h.1,fun i x e=>h.2 i x (by
  unfold Cx.rst at e
  split at e
  ·exact e
  ·cases e)⟩
def Waits(md:Region.Mode)(ops:Array Oper)(dp:Nat->List Nat):Prop:= ∀j oj,ops[j]? =some oj-> ∀i ∈ dp j,∃e ∈ oj.after,Region.binds md e=true/\e.on=i
def waitsB(md:Region.Mode)(ops:Array Oper)(dp:Nat->List Nat):Bool:=(List.range ops.size).all fun j=>match ops[j]? with
 | none=>true
 | some oj=>(dp j).all fun i=>oj.after.any fun e=>Region.binds md e&&e.on==i
theorem waits_of{md:Region.Mode}{ops:Array Oper}{dp:Nat->List Nat}(h:waitsB md ops dp=true):Waits md ops dp:=by
 intro j oj hj i hi
 unfold waitsB at h
 rw[List.all_eq_true]at h
 have h1:=h j (List.mem_range.2 (Array.getElem?_eq_some_iff.1 hj).1)
 simp only[hj]at h1
 rw[List.all_eq_true]at h1
 have h2:=h1 i hi
 rw[Array.any_eq_true']at h2
 obtain⟨e,h3,h4⟩:=h2
 rw[Bool.and_eq_true]at h4
 exact⟨e,h3,h4.1,by simpa using h4.2⟩
section
variable {P:Program} {ops:Array Oper} {md:Region.Mode} {W:World} {sp:Sp} {dp:Nat->List Nat}
def YF(P:Program)(ops:Array Oper)(W:World)(o:Oper)(v:Value)(a:Act):Prop:=
 (Region.wanted o (yielded ops a.tmps)=true/\ ∀w,Ab W w->(execOp a.eval o).run P w=.ok (.value v) w)\/(Region.wanted o (yielded ops a.tmps)=false/\v=undef)
def LayR(P:Program)(w:World)(ob:Ix->World->Prop)(mk:Ix->Value):Result Next->Prop
 | .ok (.value u) w1=> ∃x,u=mk x/\Ab w w1/\(∀b,b ∈ x.1->w.heap.size<=b/\b<w1.heap.size)/\ob x w1
 | .ok (.enter f args) w1=>w1=w/\Calls P f args w (fun e w2=> ∃x,e=.returned (mk x)/\Ab w w2/\(∀b,b ∈ x.1->w.heap.size<=b/\b<w2.heap.size)/\ob x w2)
 | _=>False
def LF(P:Program)(ops:Array Oper)(W:World)(sp:Sp)(q:List Nat)(o:Oper)(ob:Ix->World->Prop)(mk:Ix->Value)(a:Act)(S:Nat->Option Ix):Prop:=
 Region.wanted o (yielded ops a.tmps)=true/\ ∀w,Has W sp (rst q S) w->LayR P w ob mk ((execOp a.eval o).run P w)
theorem YF.same{o:Oper}{v:Value}{a a':Act}(h:YF P ops W o v a)(he:execOp a'.eval o=execOp a.eval o)(hw:Region.wanted o (yielded ops a'.tmps)=Region.wanted o (yielded ops a.tmps)):YF P ops W o v a':=by
 unfold YF at*
 rw[he,hw]
 exact h
theorem LF.same{q:List Nat}{S:Nat->Option Ix}{o:Oper}{ob:Ix->World->Prop}{mk:Ix->Value}{a a':Act}(h:LF P ops W sp q o ob mk a S)(he:execOp a'.eval o=execOp a.eval o)(hw:Region.wanted o (yielded ops a'.tmps)=Region.wanted o (yielded ops a.tmps)):LF P ops W sp q o ob mk a' S:=by
 unfold LF at*
 rw[he,hw]
 exact h
theorem LF.more{q:List Nat}{S:Nat->Option Ix}{o:Oper}{ob:Ix->World->Prop}{mk:Ix->Value}{a:Act}(h:LF P ops W sp q o ob mk a S){i:Nat}{x:Ix}(hi:i ∉ q):LF P ops W sp q o ob mk a (putL S i x):=by
 unfold LF at*
 rw[pK hi]
 exact h
theorem LF.less{q:List Nat}{S:Nat->Option Ix}{o:Oper}{ob:Ix->World->Prop}{mk:Ix->Value}{a:Act}{i:Nat}{x:Ix}(h:LF P ops W sp q o ob mk a (putL S i x))(hi:i ∉ q):LF P ops W sp q o ob mk a S:=by
 unfold LF at*
 rw[pK hi]at h
 exact h
theorem YF.one{o:Oper}{v u:Value}{a:Act}(h:YF P ops W o v a)(k:YF P ops W o u a):v=u:=by
 rcases h with⟨w1,h⟩ | ⟨w1,rfl⟩
 ·rcases k with⟨_,k⟩ | ⟨w2,_⟩
  ·have:=(h W (Ab.refl W)).symm.trans (k W (Ab.refl W))
   injection this with e
   injection e
  ·rw[w1]at w2;cases w2
 ·rcases k with⟨w2,_⟩ | ⟨_,rfl⟩
  ·rw[w1]at w2;cases w2
  ·rfl
def fOp(P:Program)(ops:Array Oper)(W:World)(sp:Sp)(dp:Nat->List Nat)(i:Nat)(K:Act->(Nat->Option Ix)->Prop)(a:Act)(S:Nat->Option Ix):Prop:=
 match ops[i]? with
 | none=>K a S
 | some o=>
  match sp i with
  | none=> ∃v,YF P ops W o v a/\K (a.put o.dst v) S
  | some (ob,mk)=>LF P ops W sp (dp i) o ob mk a S/\ ∀b,Fresh W S b->K (a.put o.dst (mk b)) (putL S i b)
theorem mK{i:Nat}{K K':Act->(Nat->Option Ix)->Prop}{a:Act}{S:Nat->Option Ix}(h: ∀a S,K a S->K' a S)(hh:fOp P ops W sp dp i K a S):fOp P ops W sp dp i K' a S:=by
 unfold fOp at*
 cases ho:ops[i]? with
 | none=>simp only[ho]at hh ⊢;exact h _ _ hh
 | some o=>
  cases hs:sp i with
  | none=>
   simp only[ho,hs]at hh ⊢
   obtain⟨v,h1,h2⟩:=hh
   exact⟨v,h1,h _ _ h2⟩
  | some x=>
   simp only[ho,hs]at hh ⊢
   exact⟨hh.1,fun b hb=>h _ _ (hh.2 b hb)⟩
def wpAnyF(P:Program)(md:Region.Mode)(ops:Array Oper)(W:World)(sp:Sp)(dp:Nat->List Nat)(Q:Act->(Nat->Option Ix)->Prop):Nat->Array Bool->Act->(Nat->Option Ix)->Prop
 | 0,listed,a,S=>Region.ready md ops listed=[]/\Q a S
 | fuel+1,listed,a,S=>
  (Region.ready md ops listed=[]->Q a S)/\
  ∀i ∈ Region.ready md ops listed,fOp P ops W sp dp i (wpAnyF P md ops W sp dp Q fuel (listed.setIfInBounds i true)) a S
def Tidy(listed:Array Bool)(S:Nat->Option Ix):Prop:= ∀k,listed.getD k true=false->S k=none
theorem jH(W:World)(S:Nat->Option Ix): ∃x,Fresh W S x:=⟨([],undef),fun b e=>by cases e⟩
theorem Tidy.set{listed:Array Bool}{S:Nat->Option Ix}(h:Tidy listed S)(j:Nat):Tidy (listed.setIfInBounds j true) S:=
 fun k hk=>by
  by_cases e:j=k
  ·subst e
   by_cases l:j<listed.size
   ·simp[l]at hk
   ·exact h j (by rw[Array.setIfInBounds_eq_of_size_le (by omega)]at hk;exact hk)
  ·rw[getD_set_ne true e]at hk;exact h k hk
theorem Tidy.lay{listed:Array Bool}{S:Nat->Option Ix}(h:Tidy listed S){j:Nat}(hj:listed.getD j true=false)(b:Ix):Tidy (listed.setIfInBounds j true) (putL S j b):=by
 refine fun k hk=> ?_
 by_cases e:j=k
 ·subst e
  by_cases l:j<listed.size
  ·simp[l]at hk
  ·simp[l]at hj
 ·rw[getD_set_ne true e]at hk
  unfold putL
  rw[if_neg (Ne.symm e)]
  exact h k hk
theorem fOp_putY{j:Nat}{oi oj:Oper}{v:Value}(hj:ops[j]? =some oj)(hap:oi.apart ops oj=true)(hsi: ∀cs b,oi.op≠ .select cs b)(hsj: ∀cs b,oj.op≠ .select cs b)
  {K:Act->(Nat->Option Ix)->Prop} {a:Act} {S:Nat->Option Ix} (hy:YF P ops W oi v a) (h:fOp P ops W sp dp j K (a.put oi.dst v) S):
  fOp P ops W sp dp j (fun a' S'=>YF P ops W oi v a'/\K (a'.put oi.dst v) S') a S:=by
 obtain⟨h1,h2,h3⟩:=Oper.apart_spec hap
 have keep: ∀u,YF P ops W oi v (a.put oj.dst u):=fun u=>hy.same (execOp_put oi hsi a oj.dst u h3) (wanted_put oi a oj.dst u h3)
 unfold fOp at*
 cases hs:sp j with
 | none=>
  simp only[hj,hs]at h ⊢
  obtain⟨u,hu,hk⟩:=h
  exact⟨u,hu.same (execOp_put oj hsj a oi.dst v h1).symm (wanted_put oj a oi.dst v h1).symm,keep u,by rw[<- Act.put_comm a v u h2];exact hk⟩
 | some x=>
  simp only[hj,hs]at h ⊢
  exact⟨h.1.same (execOp_put oj hsj a oi.dst v h1).symm (wanted_put oj a oi.dst v h1).symm,fun b hb=>⟨keep _,by rw[<- Act.put_comm a v _ h2];exact h.2 b hb⟩⟩
theorem fOp_putL{i j:Nat}{oi oj:Oper}{ob:Ix->World->Prop}{mk:Ix->Value}(hij:i≠j)(hd1:i ∉ dp j)(hd2:j ∉ dp i)(hj:ops[j]? =some oj)(hap:oi.apart ops oj=true)(hsi: ∀cs b,oi.op≠ .select cs b)(hsj: ∀cs b,oj.op≠ .select cs b)
  {K:Act->(Nat->Option Ix)->Prop} {a:Act} {S:Nat->Option Ix} (hSj:S j=none) (hy:LF P ops W sp (dp i) oi ob mk a S) (h: ∀b,Fresh W S b->fOp P ops W sp dp j K (a.put oi.dst (mk b)) (putL S i b)):
  fOp P ops W sp dp j (fun a' S'=>LF P ops W sp (dp i) oi ob mk a' S'/\ ∀b,Fresh W S' b->K (a'.put oi.dst (mk b)) (putL S' i b)) a S:=by
 obtain⟨h1,h2,h3⟩:=Oper.apart_spec hap
 have keep: ∀u,LF P ops W sp (dp i) oi ob mk (a.put oj.dst u) S:=fun u=>hy.same (execOp_put oi hsi a oj.dst u h3) (wanted_put oi a oj.dst u h3)
 obtain⟨b0,hb0⟩:=jH W S
 unfold fOp at*
 cases hs:sp j with
 | none=>
  simp only[hj,hs]at h ⊢
  obtain⟨u,hu,_⟩:=h b0 hb0
  have hu':YF P ops W oj u a:=hu.same (execOp_put oj hsj a oi.dst _ h1).symm (wanted_put oj a oi.dst _ h1).symm
  refine⟨u,hu',keep u,fun b hb=> ?_⟩
  obtain⟨u2,hu2,hk⟩:=h b hb
  have e:u2=u:=YF.one (hu2.same (execOp_put oj hsj a oi.dst _ h1).symm (wanted_put oj a oi.dst _ h1).symm) hu'
  subst e
  rw[<- Act.put_comm a (mk b) u2 h2]
  exact hk
 | some x=>
  simp only[hj,hs]at h ⊢
  refine⟨((h b0 hb0).1.same (execOp_put oj hsj a oi.dst _ h1).symm (wanted_put oj a oi.dst _ h1).symm).less hd1,fun c hc=>⟨(keep _).more hd2,fun b hb=> ?_⟩⟩
  obtain⟨q1,q2⟩:=hb.of_put hSj
  have:=(h b q1).2 c (hc.put (fun d e e2=>q2 d e2 e))
  rw[qU S b c hij,Act.put_comm a (mk b) _ h2]at this
  exact this
theorem firstY{Q:Act->(Nat->Option Ix)->Prop}{i:Nat}{oi:Oper}{v:Value}(hi:ops[i]? =some oi)(hsp:sp i=none)(hsel: ∀(j:Nat) (o:Oper) cs b,ops[j]? =some o->o.op≠ .select cs b):
  ∀(fuel:Nat) (listed:Array Bool) (a:Act) (S:Nat->Option Ix),
   (∀j oj,ops[j]? =some oj->j≠i->listed.getD j true=false->(∀e ∈ oj.after,Region.binds md e=true->e.on≠i)->oi.apart ops oj=true)->
   i ∈ Region.ready md ops listed->YF P ops W oi v a->
   wpAnyF P md ops W sp dp Q fuel (listed.setIfInBounds i true) (a.put oi.dst v) S->wpAnyF P md ops W sp dp Q (fuel+1) listed a S:=by
 have go: ∀(K:Act->(Nat->Option Ix)->Prop) (a:Act) (S:Nat->Option Ix),YF P ops W oi v a->K (a.put oi.dst v) S->fOp P ops W sp dp i K a S:=fun K a S hy h=>by
  unfold fOp;simp only[hi,hsp];exact⟨v,hy,h⟩
 intro fuel
 induction fuel with
 | zero=>
  intro listed a S _ hr hy H
  refine⟨fun h=>(by rw[h]at hr;cases hr),fun j hj=> ?_⟩
  by_cases hji:j=i
  ·subst hji;exact go _ _ _ hy H
  ·have:=ready_mono hj hji
   rw[H.1]at this
   cases this
 | succ fuel ih=>
  intro listed a S hfree hr hy H
  refine⟨fun h=>(by rw[h]at hr;cases hr),fun j hj=> ?_⟩
  by_cases hji:j=i
  ·subst hji;exact go _ _ _ hy H
  ·have h1:=H.2 j (ready_mono hj hji)
   obtain⟨hjun,oj,hoj,hall⟩:=mem_ready.1 hj
   have hnot: ∀e ∈ oj.after,Region.binds md e=true->e.on≠i:=fun e he hb heq=>by
    have h1:=hall e he hb
    have h0:=(mem_ready.1 hr).1
    rw[heq]at h1
    rcases Nat.lt_or_ge i listed.size with h' | h'
    ·simp[h']at h0 h1;rw[h0]at h1;cases h1
    ·simp[Array.getElem?_eq_none h']at h1
   have h2:=fOp_putY hoj (hfree j oj hoj hji hjun hnot) (fun cs b=>hsel i oi cs b hi) (fun cs b=>hsel j oj cs b hoj) hy h1
   have hfree': ∀k ok,ops[k]? =some ok->k≠i->(listed.setIfInBounds j true).getD k true=false->
     (∀e ∈ ok.after,Region.binds md e=true->e.on≠i)->oi.apart ops ok=true:=fun k ok hk hki hun hno=>by
    refine hfree k ok hk hki ?_ hno
    by_cases hjk:j=k
    ·subst hjk;exact hjun
    ·rw[getD_set_ne true hjk]at hun;exact hun
   refine mK (fun a' S' h3=>ih (listed.setIfInBounds j true) a' S' hfree' (ready_mono hr (Ne.symm hji)) h3.1 ?_) h2
   rw[Array.setIfInBounds_comm _ _ hji]
   exact h3.2
theorem firstL(hD:Waits md ops dp){Q:Act->(Nat->Option Ix)->Prop}{i:Nat}{oi:Oper}{ob:Ix->World->Prop}{mk:Ix->Value}(hi:ops[i]? =some oi)(hsp:sp i=some (ob,mk))(hsel: ∀(j:Nat) (o:Oper) cs b,ops[j]? =some o->o.op≠ .select cs b):
  ∀(fuel:Nat) (listed:Array Bool) (a:Act) (S:Nat->Option Ix),Tidy listed S->
   (∀j oj,ops[j]? =some oj->j≠i->listed.getD j true=false->(∀e ∈ oj.after,Region.binds md e=true->e.on≠i)->oi.apart ops oj=true)->
   i ∈ Region.ready md ops listed->LF P ops W sp (dp i) oi ob mk a S->
   (∀b,Fresh W S b->wpAnyF P md ops W sp dp Q fuel (listed.setIfInBounds i true) (a.put oi.dst (mk b)) (putL S i b))->wpAnyF P md ops W sp dp Q (fuel+1) listed a S:=by
 have go: ∀(K:Act->(Nat->Option Ix)->Prop) (a:Act) (S:Nat->Option Ix),LF P ops W sp (dp i) oi ob mk a S->(∀b,Fresh W S b->K (a.put oi.dst (mk b)) (putL S i b))->fOp P ops W sp dp i K a S:=fun K a S hy h=>by
  unfold fOp;simp only[hi,hsp];exact⟨hy,h⟩
 intro fuel
 induction fuel with
 | zero=>
  intro listed a S ty _ hr hy H
  refine⟨fun h=>(by rw[h]at hr;cases hr),fun j hj=> ?_⟩
  by_cases hji:j=i
  ·subst hji;exact go _ _ _ hy H
  ·obtain⟨b,hb⟩:=jH W S
   have:=ready_mono hj hji
   rw[(H b hb).1]at this
   cases this
 | succ fuel ih=>
  intro listed a S ty hfree hr hy H
  refine⟨fun h=>(by rw[h]at hr;cases hr),fun j hj=> ?_⟩
  by_cases hji:j=i
  ·subst hji;exact go _ _ _ hy H
  ·have h1:=fun b hb=>(H b hb).2 j (ready_mono hj hji)
   obtain⟨hjun,oj,hoj,hall⟩:=mem_ready.1 hj
   have hnot: ∀e ∈ oj.after,Region.binds md e=true->e.on≠i:=fun e he hb heq=>by
    have h1:=hall e he hb
    have h0:=(mem_ready.1 hr).1
    rw[heq]at h1
    rcases Nat.lt_or_ge i listed.size with h' | h'
    ·simp[h']at h0 h1;rw[h0]at h1;cases h1
    ·simp[Array.getElem?_eq_none h']at h1
   have hap:=hfree j oj hoj hji hjun hnot
   have hfree': ∀k ok,ops[k]? =some ok->k≠i->(listed.setIfInBounds j true).getD k true=false->
     (∀e ∈ ok.after,Region.binds md e=true->e.on≠i)->oi.apart ops ok=true:=fun k ok hk hki hun hno=>by
    refine hfree k ok hk hki ?_ hno
    by_cases hjk:j=k
    ·subst hjk;exact hjun
    ·rw[getD_set_ne true hjk]at hun;exact hun
   have hd1:i ∉ dp j:=fun q=>by
    obtain⟨e,h5,h6,h7⟩:=hD j oj hoj i q
    exact hnot e h5 h6 h7
   have hd2:j ∉ dp i:=fun q=>by
    obtain⟨e,h5,h6,h7⟩:=hD i oi hi j q
    obtain⟨_,o2,ho2,hall2⟩:=mem_ready.1 hr
    rw[hi]at ho2
    injection ho2 with ho2
    subst ho2
    have h8:=hall2 e h5 h6
    rw[h7]at h8
    rcases Nat.lt_or_ge j listed.size with h' | h'
    ·simp[h']at hjun h8;rw[hjun]at h8;cases h8
    ·simp[Array.getElem?_eq_none h']at h8
   have h2:=fOp_putL (Ne.symm hji) hd1 hd2 hoj hap (fun cs b=>hsel i oi cs b hi) (fun cs b=>hsel j oj cs b hoj) (ty j hjun) hy h1
   -- what j leaves is tidy
   have h4:fOp P ops W sp dp j (fun a' S'=>Tidy (listed.setIfInBounds j true) S'/\LF P ops W sp (dp i) oi ob mk a' S'/\ ∀b,Fresh W S' b->wpAnyF P md ops W sp dp Q fuel ((listed.setIfInBounds i true).setIfInBounds j true) (a'.put oi.dst (mk b)) (putL S' i b)) a S:=by
    unfold fOp at h2 ⊢
    cases hs:sp j with
    | none=>
     simp only[hoj,hs]at h2 ⊢
     obtain⟨u,hu,hk⟩:=h2
     exact⟨u,hu,ty.set j,hk⟩
    | some x=>
     simp only[hoj,hs]at h2 ⊢
     exact⟨h2.1,fun b hb=>⟨ty.lay hjun b,h2.2 b hb⟩⟩
   refine mK (fun a' S' h3=>ih (listed.setIfInBounds j true) a' S' h3.1 hfree' (ready_mono hr (Ne.symm hji)) h3.2.1 (fun b hb=> ?_)) h4
   rw[Array.setIfInBounds_comm _ _ hji]
   exact h3.2.2 b hb
def wpFree(P:Program)(ops:Array Oper)(W:World)(sp:Sp)(dp:Nat->List Nat)(Q:Act->(Nat->Option Ix)->Prop):List Oper->Nat->Act->(Nat->Option Ix)->Prop
 | [],_,a,S=>Q a S
 | o :: rest,k,a,S=>
  match sp k with
  | none=> ∃v,YF P ops W o v a/\wpFree P ops W sp dp Q rest (k+1) (a.put o.dst v) S
  | some (ob,mk)=>LF P ops W sp (dp k) o ob mk a S/\ ∀b,Fresh W S b->wpFree P ops W sp dp Q rest (k+1) (a.put o.dst (mk b)) (putL S k b)
theorem eS(hD:Waits md ops dp){Q:Act->(Nat->Option Ix)->Prop}(hs:Region.noSelect ops=true): ∀(l:List Oper) (k:Nat) (listed:Array Bool) (a:Act) (S:Nat->Option Ix),(∀j,l[j]? =ops[k+j]?)->Tidy listed S->
  Region.lexFrom md ops l.length k listed=true->wpFree P ops W sp dp Q l k a S->wpAnyF P md ops W sp dp Q l.length listed a S
 | [],_,_,_,_,_,_,hB,h=>⟨by simpa [Region.lexFrom]using hB,h⟩
 | o :: l,k,listed,a,S,hl,ty,hB,h=>by
  have h0:ops[k]? =some o:=by simpa using(hl 0).symm
  simp only[List.length_cons,Region.lexFrom,Bool.and_eq_true]at hB
  obtain⟨⟨hr,hf⟩,hB'⟩:=hB
  have hr':k ∈ Region.ready md ops listed:=by simpa using hr
  have hl': ∀j,l[j]? =ops[k+1+j]? :=fun j=>by have:=hl (j+1);simpa [Nat.add_assoc,Nat.add_comm 1 j]using this
  cases hsp:sp k with
  | none=>
   simp only[wpFree,hsp]at h
   obtain⟨v,hy,hK⟩:=h
   exact firstY h0 hsp (Region.noSelect_spec hs) l.length listed a S (Region.free_spec h0 hf) hr' hy
    (eS hD hs l (k+1) _ _ _ hl' (ty.set k) hB' hK)
  | some x=>
   obtain⟨ob,mk⟩:=x
   simp only[wpFree,hsp]at h
   exact firstL hD h0 hsp (Region.noSelect_spec hs) l.length listed a S ty (Region.free_spec h0 hf) hr' h.1
    (fun b hb=>eS hD hs l (k+1) _ _ _ hl' (ty.lay (mem_ready.1 hr').1 b) hB' (h.2 b hb))
theorem mL(stb:Stable sp){i:Nat}{a:Act}{S:Nat->Option Ix}{K:Act->(Nat->Option Ix)->Prop}{K':Act->World->Prop}{Q':Exit->Act->World->Prop}{w:World}(hC:Has W sp S w)(h: ∀a S w',Has W sp S w'->K a S->K' a w')(hh:fOp P ops W sp dp i K a S):wpOp P ops Q' i K' a w:=by
 unfold fOp at hh
 unfold wpOp
 cases ho:ops[i]? with
 | none=>simp only[ho]at hh ⊢;exact h _ _ _ hC hh
 | some o=>
  cases hs:sp i with
  | none=>
   simp only[ho,hs]at hh ⊢
   obtain⟨v,hy,hk⟩:=hh
   rcases hy with⟨w1,hv⟩ | ⟨w1,rfl⟩
   ·rw[if_pos w1]
    refine .inl ?_
    unfold Oper.wp
    rw[hv w hC.1]
    exact h _ _ _ hC hk
   ·rw[if_neg (by rw[w1];exact Bool.false_ne_true)]
    exact h _ _ _ hC hk
  | some x=>
   obtain⟨ob,mk⟩:=x
   simp only[ho,hs]at hh ⊢
   obtain⟨⟨w1,hv⟩,hk⟩:=hh
   rw[if_pos w1]
   refine .inl ?_
   unfold Oper.wp
   have q:=hv w (hC.rst _)
   generalize(execOp a.eval o).run P w=r at q
   match r,q with
   | .ok (.value u) w2,⟨b,hu,ha,hb,ho2⟩=>
    subst hu
    exact h _ _ _ (hC.lay stb hs ha hb ho2) (hk b (hC.freshb (fun d e=>(hb d e).1)))
   | .ok (.enter f args) w2,⟨e,hc⟩=>
    subst e
    refine Calls.mono hc ?_
    rintro e2 w3 ⟨b,rfl,ha,hb,ho2⟩
    exact h _ _ _ (hC.lay stb hs ha hb ho2) (hk b (hC.freshb (fun d e=>(hb d e).1)))
end
theorem fOp_head{P:Program}{md:Region.Mode}{ops hd:Array Oper}{W:World}{sp:Sp}{dp:Nat->List Nat}{n:Nat}(hhd: ∀i,i<n->hd[i]? =ops[i]?)(hb:backB md ops n=true){i:Nat}(hi:i<n){K:Act->(Nat->Option Ix)->Prop}{a:Act}{S:Nat->Option Ix}(h:fOp P hd W sp dp i K a S):fOp P ops W sp dp i K a S:=by
 unfold fOp at*
 rw[hhd i hi]at h
 cases ho:ops[i]? with
 | none=>rw[ho]at h;exact h
 | some o=>
  have e:Region.wanted o (yielded hd a.tmps)=Region.wanted o (yielded ops a.tmps):=by
   unfold Region.wanted
   cases hg:o.guard with
   | none=>rfl
   | some jb=>
    obtain⟨j,b⟩:=jb
    have lt:=(fY hb hi ho).2 j b hg
    show(yielded hd a.tmps j==some b)=(yielded ops a.tmps j==some b)
    unfold yielded
    rw[hhd j lt]
  simp only[ho]at h ⊢
  cases hs:sp i with
  | none=>
   simp only[hs]at h ⊢
   unfold YF at*
   rw[e]at h
   exact h
  | some x=>
   simp only[hs]at h ⊢
   unfold LF at*
   rw[e]at h
   exact h
theorem iM{P:Program}{md:Region.Mode}{ops hd:Array Oper}{W:World}{sp:Sp}{dp:Nat->List Nat}(stb:Stable sp){n:Nat}{g:Nat}{Q1:Act->(Nat->Option Ix)->Prop}{Q':Exit->Act->World->Prop}(hhd: ∀i,i<n->hd[i]? =ops[i]?)(hsz:hd.size=n)(hn:n<ops.size)(hb:backB md ops n=true)(hs:Region.sinkB md ops n=true)(hc:Region.chainB md ops n=true)
  (hL: ∀a S w,Has W sp S w->Q1 a S->wpAny P md ops Q' g (finA ops.size n) a w):
  ∀(fuel:Nat) (listed lh:Array Bool) (a:Act) (S:Nat->Option Ix) (w:World),Has W sp S w->HeadInv md ops n listed->lh.size=n->(∀i,i<n->lh.getD i true=listed.getD i true)->
   wpAnyF P md hd W sp dp Q1 fuel lh a S->wpAny P md ops Q' (fuel+g) listed a w:=by
 intro fuel
 induction fuel with
 | zero=>
  intro listed lh a S w hC inv hl he h
  have hls:n<=listed.size:=by rw[inv.size];omega
  rcases iL (by omega) hb hls with all | ⟨i,hi,hr⟩
  ·rw[Nat.zero_add,fin_of hn inv all]
   exact hL a S w hC h.2
  ·have:=(iK hhd hb hl hls he hi).2 hr
   rw[h.1]at this
   cases this
 | succ fuel ih=>
  intro listed lh a S w hC inv hl he h
  have hls:n<=listed.size:=by rw[inv.size];omega
  rcases iL (by omega) hb hls with all | ⟨i0,hi0,hr0⟩
  ·have no:Region.ready md hd lh=[]:=by
    rw[List.eq_nil_iff_forall_not_mem]
    intro i hi
    obtain⟨u,o,ho,_⟩:=mem_ready.1 hi
    have lt:i<n:=by rw[<- hsz];exact(Array.getElem?_eq_some_iff.1 ho).1
    rw[he i lt,all i lt]at u
    cases u
   rw[Nat.add_comm (fuel+1) g,fin_of hn inv all]
   exact iJ g (fuel+1) _ a w (hL a S w hC (h.1 no))
  ·rw[show fuel+1+g=(fuel+g)+1 by omega]
   refine⟨fun h0=>(by rw[h0]at hr0;cases hr0),fun i hi=> ?_⟩
   have lt:i<n:=by
    by_cases c:i<n
    ·exact c
    ·exact absurd hi (tail_waits hs hc hn inv _ i0 rfl hi0 (mem_ready.1 hr0).1 i (by omega))
   have hq:=fOp_head hhd hb lt (h.2 i ((iK hhd hb hl hls he lt).2 hi))
   refine mL stb hC (fun a' S' w' hC' h'=>ih _ _ a' S' w' hC' (inv.set hi lt) (by simp[hl]) (fun j hj=> ?_) h') hq
   by_cases e:i=j
   ·subst e
    simp[hl,lt,show i<listed.size by omega]
   ·rw[getD_set_ne true e,getD_set_ne true e,he j hj]
theorem mM{P:Program}{id:Nat}{Q:Exit->Act->World->Prop}{a:Act}{w:World}{l:List Oper}(n:Nat)(sp:Sp)(dp:Nat->List Nat)(stb:Stable sp)(hm:P.follows .mixedOrders=true)(hB:Region.lexB .any (l.take n).toArray=true)(hT:tailB l.toArray n=true)(hW:waitsB .any (l.take n).toArray dp=true)
  (h:wpFree P (l.take n).toArray w.drew sp dp (fun a' S=> ∀w',Has w.drew sp S w'->wpList P l.toArray Q (l.drop n) a' w') (l.take n) 0 a (fun _=>none)):(Code.region id l.toArray true).wp P Q a w:=by
 simp only[tailB,Bool.and_eq_true,decide_eq_true_eq]at hT
 obtain⟨⟨⟨⟨hn,hb⟩,hs⟩,hc⟩,hq⟩:=hT
 have hn':n<l.length:=by simpa using hn
 have htl:(l.take n).toArray.size=n:=by simp;omega
 have hdl:(l.drop n).length=l.toArray.size - n:=by simp
 refine wp_region_any hm ?_
 simp only[Region.lexB,Bool.and_eq_true]at hB
 have H:=eS (waits_of hW) (P:=P) (W:=w.drew) (sp:=sp) (md:=.any) hB.1 (l.take n) 0 (Array.replicate (l.take n).toArray.size false) a (fun _=>none) (by simp) (fun _ _=>rfl) (by simpa using hB.2) h
 have inv0:HeadInv .any l.toArray n (Array.replicate l.toArray.size false):=
  ⟨by simp,fun j oj _ hl=>(by rw[getD_replicate_false]at hl;cases hl),fun t _ ht=>getD_in (by simpa using ht) (getD_replicate_false _ _)⟩
 have:=iM (dp:=dp) stb (P:=P) (Q':=Q) (g:=l.toArray.size - n) (hd:=(l.take n).toArray) (ops:=l.toArray) (fun i hi=>by simp[hi]) htl hn hb hs hc
  (fun a' S' w' hC' h'=>by
   have:=wpAny_of_seq (P:=P) (md:=.any) (ops:=l.toArray) (Q':=Q) (l.drop n) n (finA l.toArray.size n) a' w' (fun j=>by simp) (by rw[hdl];exact hq) (h' w' hC')
   rwa [hdl]at this)
  (l.take n).length _ _ a (fun _=>none) w.drew ⟨Ab.refl _,fun i b e=>by cases e⟩ inv0 (by simpa using htl) (fun i hi=>by
   rw[getD_in (listed:=Array.replicate l.toArray.size false) (by simp;omega) (getD_replicate_false _ _)]
   exact getD_in (by rw[Array.size_replicate];omega) (getD_replicate_false _ _)) H
 have e:(l.take n).length+(l.toArray.size - n)=l.toArray.size:=by simp;omega
 rw[e]at this
 exact this
section
variable {P:Program} {ops:Array Oper} {W:World} {sp:Sp} {dp:Nat->List Nat} {Q:Act->(Nat->Option Ix)->Prop} {o:Oper} {rest:List Oper} {k:Nat} {a:Act} {S:Nat->Option Ix}
theorem dQ{U:Type}{F:U->World}(HF:Hid (∀w',Ab W w'-> ∃u,w'=F u))(hs:sp k=none)(hp:plainB o.op=true)(h:wpQuiet P ops (fun w'=> ∃u,w'=F u) (fun a'=>wpFree P ops W sp dp Q rest (k+1) a' S) [o] a):wpFree P ops W sp dp Q (o :: rest) k a S:=by
 simp only[wpFree,hs]
 simp only[wpQuiet]at h
 by_cases c:Region.wanted o (yielded ops a.tmps)=true
 ·rw[if_pos c]at h
  obtain⟨v,h1,h2⟩:=h
  refine⟨v,.inl ⟨c,fun w hw=> ?_⟩,h2⟩
  have q:=h1 w (HF.out w hw)
  unfold Oper.quietAt at q
  cases e:(execOp a.eval o).run P w with
  | ok n w'=>
   obtain⟨x,rfl⟩:=mJ hp e
   rw[e]at q
   obtain⟨q1,q2⟩:=q
   rw[q1,q2]
  | halt x w'=>rw[e]at q;exact absurd q (by simp[Oper.quietUpon])
 ·rw[if_neg c]at h
  exact⟨undef,.inr ⟨by simpa using c,rfl⟩,h⟩
theorem bU{ob:Ix->World->Prop}{mk:Ix->Value}(hs:sp k=some (ob,mk))(hw:Region.wanted o (yielded ops a.tmps)=true)(hr: ∀w,Has W sp (rst (dp k) S) w->LayR P w ob mk ((execOp a.eval o).run P w))
  (h: ∀b,Fresh W S b->wpFree P ops W sp dp Q rest (k+1) (a.put o.dst (mk b)) (putL S k b)):wpFree P ops W sp dp Q (o :: rest) k a S:=by
 simp only[wpFree,hs]
 exact⟨⟨hw,hr⟩,h⟩
theorem gR{ob:Ix->World->Prop}{mk:Ix->Value}{O:Obj}{u:World->Value}(h: ∀w,Ab W w->(execOp a.eval o).run P w=.ok (.value (mk ([w.heap.size],u w))) (w.alloc O))(hR: ∀w,Ab W w->ob ([w.heap.size],u w) (w.alloc O)): ∀w,Has W sp S w->LayR P w ob mk ((execOp a.eval o).run P w):=fun w hw0=>by
 rw[h w hw0.1]
 refine⟨([w.heap.size],u w),rfl,bl1 _ _,fun b e=> ?_,hR w hw0.1⟩
 have e:b=w.heap.size:=by simpa using e
 subst e
 refine⟨Nat.le_refl _,?_⟩
 show _<(w.heap.push O).size
 simp
theorem lay_call{ob:Ix->World->Prop}{mk:Ix->Value}{f:FuncId}{args:Array Value}(h1: ∀w,(execOp a.eval o).run P w=.ok (.enter f args) w)(h2: ∀w,Has W sp S w->Calls P f args w (fun e w2=> ∃x,e=.returned (mk x)/\Ab w w2/\(∀b,b ∈ x.1->w.heap.size<=b/\b<w2.heap.size)/\ob x w2)): ∀w,Has W sp S w->LayR P w ob mk ((execOp a.eval o).run P w):=fun w hw0=>by
 have hw:=hw0.1
 rw[h1 w]
 exact⟨rfl,h2 w hw0⟩
theorem run_val{s:Sem Value}{w w':World}{x:Value}(h:s.run P w=.ok x w'):(do pure (Next.value (<- s)):Sem Next).run P w=.ok (.value x) w':=by
 rw[Sem.run_bind,h]
 rfl
theorem run_make{t:TypeId}{x y:Operand}{vx vy u:Value}{w w':World}(ho:o.op=.makeSlice t x y)(hx:a.eval x=vx)(hy:a.eval y=vy)(M:(Instr.makeSlice t vx vy).run P w=.ok u w'):(execOp a.eval o).run P w=.ok (.value u) w':=by
 unfold execOp
 rw[ho]
 simp only[hx,hy]
 exact run_val M
theorem oB(h:Q a S):wpFree P ops W sp dp Q [] k a S:=h
end
theorem Has.at{W:World}{sp:Sp}{S:Nat->Option Ix}{w:World}(h:Has W sp S w){i:Nat}{x:Ix}{R:Ix->World->Prop}{mk:Ix->Value}(e:S i=some x)(s:sp i=some (R,mk)):R x w/\ ∀b,b ∈ x.1->W.heap.size<=b/\b<w.heap.size:=by
 obtain⟨h1,o,m,h2,h3⟩:=h.2 i x e
 rw[s]at h2
 injection h2 with h2
 injection h2 with h2
 subst h2
 exact⟨h3,h1⟩
end Cx
end
end Go.Proofs.Ytdeammhdedcjlaa
