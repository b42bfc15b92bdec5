/-
  Some of the texts of this proof, one behind the other.
-/
import Derived.Test.YtaphajlpbgcfjaaGreatDoorMa16
set_option maxRecDepth 100000
set_option maxHeartbeats 400000000
namespace Go.Proofs.YtaphajlpbgcfjaaGreatDoor
open _root_.Go.Proofs.Tryz
section
open Go.RowKit Tf Cu Go.Deep
attribute [local go_sem] aK aL aP aQ aR aV aW aF
namespace Ss
theorem nP{t:TypeId}{B n:Nat}{v:Value}{l:List Value}{w:World}(h:w.ownsRow B t 1 v n l)(h0:0<n): ∃g cap F,v=.slice (some ⟨g,0,none⟩) n cap/\B<=g/\n<=cap/\cap<=maxLen/\w.rowIs g t cap F:=by
 rcases h.2 with⟨rfl,hz⟩ | ⟨g,cap,cur,e,hb,hg,h1,h2,h3,h4⟩
 ·omega
 ·refine⟨g,cap,fun i=>(cur[i]?).getD (.bool false),e,hb,by omega,h2,⟨cur,hg,by omega,fun i hi=> ?_⟩⟩
  have:i<cur.size:=by omega
  simp[this]
theorem xJ{w:World}{g g':Nat}{t t':TypeId}{n n':Nat}{F F':Nat->Value}(h:w.rowIs g t n F)(h':w.rowIs g' t' n' F')(ht:t≠t'):g≠g':=by
 intro e
 subst e
 obtain⟨c,h1,-⟩:=h
 obtain⟨c',h1',-⟩:=h'
 rw[h1]at h1'
 injection h1' with q
 injection q with q1 q2
 exact ht q2
theorem own_sea4{M0:Nat}{v:Value}{N M:Nat}{B:Nat->Nat}{W T:Nat->Int}{S:Nat->Nat}{sky st:Int}{w:World}(h:OwnS M0 v N N N M B W T S sky st w)(hN:0<N)(hM:0<M):
  ∃b1 c1 F1 b2 c2 F2 b3 c3 F3 b4 c4 F4,v=.agg #[.slice (some ⟨b1,0,none⟩) N c1,.slice (some ⟨b2,0,none⟩) N c2,.slice (some ⟨b3,0,none⟩) N c3,.slice (some ⟨b4,0,none⟩) M c4,.int .i64 sky,.int .i64 st]/\(w.rowIs b1 22 c1 F1/\w.rowIs b2 2 c2 F2/\w.rowIs b3 2 c3 F3/\w.rowIs b4 22 c4 F4)/\(M0<=b1/\M0<=b2/\M0<=b3/\M0<=b4)/\((N<=c1/\N<=c2/\N<=c3/\M<=c4)/\c1<=maxLen/\c2<=maxLen/\c3<=maxLen/\c4<=maxLen)/\(b1≠b2/\b1≠b3/\b1≠b4/\b2≠b3/\b2≠b4/\b3≠b4):=by
 obtain⟨v1,v2,v3,v4,rfl,o1,o2,o3,o4,d14,d23⟩:=h
 unfold OwnG at o1 o4
 unfold Sh.Own at o2 o3
 rw[List.length_map,List.length_range]at o1 o2 o3 o4
 obtain⟨b1,c1,F1,rfl,l1,k1,m1,r1⟩:=nP o1 hN
 obtain⟨b2,c2,F2,rfl,l2,k2,m2,r2⟩:=nP o2 hN
 obtain⟨b3,c3,F3,rfl,l3,k3,m3,r3⟩:=nP o3 hN
 obtain⟨b4,c4,F4,rfl,l4,k4,m4,r4⟩:=nP o4 hM
 exact⟨b1,c1,F1,b2,c2,F2,b3,c3,F3,b4,c4,F4,rfl,⟨r1,r2,r3,r4⟩,⟨l1,l2,l3,l4⟩,⟨⟨k1,k2,k3,k4⟩,m1,m2,m3,m4⟩,xJ r1 r2 (by decide),xJ r1 r3 (by decide),fun e=>d14 b1 rfl (by rw[e];rfl),fun e=>d23 b2 rfl (by rw[e];rfl),xJ r2 r4 (by decide),xJ r3 r4 (by decide)⟩
end Ss
end
section
open Go.RowKit Tf Cu Go.Deep
attribute [local go_sem] aK aL aP aQ aR aV aW aF
namespace St
open Ss Fc
def SeaL(N M:Nat)(B:Nat->Nat)(W T:Nat->Int)(S:Nat->Nat)(b1 c1 b2 c2 b3 c3 b4 c4:Nat)(w:World):Prop:=
 ((∃F,w.rowIs b1 22 c1 F)/\(∃F,w.rowIs b2 2 c2 F)/\(∃F,w.rowIs b3 2 c3 F)/\ ∃F,w.rowIs b4 22 c4 F)/\(N<=c1/\N<=c2/\N<=c3/\M<=c4)/\(IsFl w (some ⟨b1,0,none⟩) N B/\Sh.IsI w (some ⟨b2,0,none⟩) N W/\Sh.IsI w (some ⟨b3,0,none⟩) N T/\IsFl w (some ⟨b4,0,none⟩) M S)/\(b1≠b2/\b1≠b3/\b1≠b4/\b2≠b3/\b2≠b4/\b3≠b4)
theorem iA{V w:World}{P:Nat->Prop}{b n:Nat}{t:TypeId}{F:Nat->Value}(a:Rv.AbQ V P w)(h:V.rowIs b t n F)(hp: ¬P b):w.rowIs b t n F:=h.of_block (a.2.2.2.2 b h.lt hp)
theorem SeaL.q{N M:Nat}{B:Nat->Nat}{W T:Nat->Int}{S:Nat->Nat}{b1 c1 b2 c2 b3 c3 b4 c4:Nat}{V w:World}{P:Nat->Prop}(h:SeaL N M B W T S b1 c1 b2 c2 b3 c3 b4 c4 V)(a:Rv.AbQ V P w)(hp: ¬P b1/\ ¬P b2/\ ¬P b3/\ ¬P b4):SeaL N M B W T S b1 c1 b2 c2 b3 c3 b4 c4 w:=by
 obtain⟨⟨⟨F1,r1⟩,⟨F2,r2⟩,⟨F3,r3⟩,F4,r4⟩,hc,⟨i1,i2,i3,i4⟩,hd⟩:=h
 refine⟨⟨⟨F1,iA a r1 hp.1⟩,⟨F2,iA a r2 hp.2.1⟩,⟨F3,iA a r3 hp.2.2.1⟩,F4,iA a r4 hp.2.2.2⟩,hc,⟨a.isFl i1 ?_,a.isI i2 ?_,a.isI i3 ?_,a.isFl i4 ?_⟩,hd⟩
 ·rintro b o e;cases e;exact hp.1
 ·rintro b o e;cases e;exact hp.2.1
 ·rintro b o e;cases e;exact hp.2.2.1
 ·rintro b o e;cases e;exact hp.2.2.2
theorem sV{V w:World}(P:Nat->Prop)(a:Ab V w):Rv.AbQ V P w:=(Rv.AbQ.refl V P).to a
theorem gV{V W w:World}{P Q:Nat->Prop}(a:Rv.AbQ V P W)(b:Rv.AbQ W Q w)(h: ∀k,Q k->P k\/V.heap.size<=k):Rv.AbQ V P w:=⟨b.1.trans a.1,b.2.1.trans a.2.1,b.2.2.1.trans a.2.2.1,Nat.le_trans a.2.2.2.1 b.2.2.2.1,fun k hk hn=>(b.2.2.2.2 k (Nat.lt_of_lt_of_le hk a.2.2.2.1) (fun z=>by rcases h k z with q | q;exact hn q;omega)).trans (a.2.2.2.2 k hk hn)⟩
theorem SeaL.to{N M:Nat}{B:Nat->Nat}{W T:Nat->Int}{S:Nat->Nat}{b1 c1 b2 c2 b3 c3 b4 c4:Nat}{V w:World}(h:SeaL N M B W T S b1 c1 b2 c2 b3 c3 b4 c4 V)(a:Ab V w):SeaL N M B W T S b1 c1 b2 c2 b3 c3 b4 c4 w:=h.q (sV (fun _=>False) a) ⟨id,id,id,id⟩
theorem SeaL.lt{N M:Nat}{B:Nat->Nat}{W T:Nat->Int}{S:Nat->Nat}{b1 c1 b2 c2 b3 c3 b4 c4:Nat}{V:World}(h:SeaL N M B W T S b1 c1 b2 c2 b3 c3 b4 c4 V):b1<V.heap.size/\b2<V.heap.size/\b3<V.heap.size/\b4<V.heap.size:=by
 obtain⟨⟨⟨F1,r1⟩,⟨F2,r2⟩,⟨F3,r3⟩,F4,r4⟩,-⟩:=h
 exact⟨r1.lt,r2.lt,r3.lt,r4.lt⟩
def MineR(N M:Nat)(B:Nat->Nat)(W T:Nat->Int)(S:Nat->Nat)(b1 b2 b3 b4:Nat)(w:World):Prop:=w.rowIs b1 22 (N+2) (mkG N (fun k=>.float .f64 (B k)) (.float .f64 4619567317775286272))/\w.rowIs b2 2 (N+2) (mkG N (fun k=>.int .i64 (W k)) (.int .i64 7))/\w.rowIs b3 2 (N+2) (mkG N (fun k=>.int .i64 (T k)) (.int .i64 7))/\w.rowIs b4 22 (M+2) (mkG M (fun k=>.float .f64 (S k)) (.float .f64 4619567317775286272))
theorem MineR.q{N M:Nat}{B:Nat->Nat}{W T:Nat->Int}{S:Nat->Nat}{b1 b2 b3 b4:Nat}{V w:World}{P:Nat->Prop}(h:MineR N M B W T S b1 b2 b3 b4 V)(a:Rv.AbQ V P w)(hp: ¬P b1/\ ¬P b2/\ ¬P b3/\ ¬P b4):MineR N M B W T S b1 b2 b3 b4 w:=⟨iA a h.1 hp.1,iA a h.2.1 hp.2.1,iA a h.2.2.1 hp.2.2.1,iA a h.2.2.2 hp.2.2.2⟩
theorem MineR.to{N M:Nat}{B:Nat->Nat}{W T:Nat->Int}{S:Nat->Nat}{b1 b2 b3 b4:Nat}{V w:World}(h:MineR N M B W T S b1 b2 b3 b4 V)(a:Ab V w):MineR N M B W T S b1 b2 b3 b4 w:=h.q (sV (fun _=>False) a) ⟨id,id,id,id⟩
end St
end
section
open Go.RowKit Tf Cu Go.Deep
attribute [local go_sem] aK aL aP aQ aR aV aW aF
namespace St
open Ss Fc
theorem mem21_no(sd:Int)(dt gr dr:Nat)(lim:Int)(rv:Bool)(pr:Option Addr)(lr cr:Nat)(pb:Option Addr)(lb cb:Nat)(pw:Option Addr)(lw cw:Nat)(pt:Option Addr)(lt ct:Nat)(ps:Option Addr)(ls cs:Nat)(sky st:Int)(w:World)
  (LV:Hid (∀v,Ab w v->Calls prog 9 #[] v fun e w'=>e=.returned (.bool true)/\Below v.heap.size v w'))
  (GD:Hid (∀v,Ab w v->Calls prog 10 #[.agg #[.int .i64 sd,.float .f64 dt,.float .f64 gr,.float .f64 dr,.int .i64 lim,.bool rv,.slice pr lr cr],.agg #[.slice pb lb cb,.slice pw lw cw,.slice pt lt ct,.slice ps ls cs,.int .i64 sky,.int .i64 st]] v fun e w'=>e=.returned (.tuple #[.pointer none,.bool false])/\Below v.heap.size v w')):
  Calls prog 8 #[.agg #[.int .i64 sd,.float .f64 dt,.float .f64 gr,.float .f64 dr,.int .i64 lim,.bool rv,.slice pr lr cr],.agg #[.slice pb lb cb,.slice pw lw cw,.slice pt lt ct,.slice ps ls cs,.int .i64 sky,.int .i64 st]] w fun e w'=>e=.returned (.bool true)/\Below w.heap.size w w':=by
 obtain⟨A0,R0,Q0⟩:=bJ w (.cells #[.int .i64 sd,.float .f64 dt,.float .f64 gr,.float .f64 dr,.int .i64 lim,.bool rv,.slice pr lr cr] 25) (.cells #[.slice pb lb cb,.slice pw lw cw,.slice pt lt ct,.slice ps ls cs,.int .i64 sky,.int .i64 st] 29)
 go_enter func8,ntmps8
 go_upto_region 1 with fail
 generalize hW:World.alloc (World.alloc w _) _=V0 at*
 obtain⟨ga,hga⟩:=aD w.heap.size
 obtain⟨gq,hgq⟩:=aD (w.heap.size+1)
 have HGQ:Hid (w.heap.size<=ga/\w.heap.size<=gq):=by show _/\_;omega
 rw[hgq]at Q0 ⊢
 rw[hga]at R0 ⊢
 clear hga hgq hW
 go_wp2_with fail
 refine(LV.out V0 A0.out).mono ?_
 rintro e9 v1 ⟨rfl,b1⟩
 have A1:Hid (Ab w v1):=A0.out.trans b1
 have R1:=hid (Ab.heap b1 R0.out)
 have Q1:=hid (Ab.heap b1 Q0.out)
 clear b1 A0 R0 Q0 LV
 have x0:=aN R1.out
 have y0:=aE Q1.out
 go_wp2_with fail
 refine(GD.out v1 A1.out).mono ?_
 rintro e9 v2 ⟨rfl,b2⟩
 have A2:Hid (Ab w v2):=A1.out.trans b2
 have R2:=hid (Ab.heap b2 R1.out)
 have Q2:=hid (Ab.heap b2 Q1.out)
 clear b2 A1 R1 Q1 GD x0 y0
 go_wp2
 go_ret
 exact⟨rfl,A2.out⟩
theorem Gu(n:Nat)(sd:Int)(dt gr dr:Nat)(lim:Int)(rv:Bool)(pr:Option Addr)(lr cr:Nat)(pb:Option Addr)(lb cb:Nat)(pw:Option Addr)(lw cw:Nat)(pt:Option Addr)(lt ct:Nat)(ps:Option Addr)(ls cs:Nat)(sky st:Int)(w:World)(h8:decide (8<sd)=true)
  (LV:Hid (∀v,Ab w v->Calls prog 9 #[] v fun e w'=>e=.returned (.bool true)/\Below v.heap.size v w'))
  (GD:Hid (∀v,Ab w v->Calls prog 10 #[.agg #[.int .i64 sd,.float .f64 dt,.float .f64 gr,.float .f64 dr,.int .i64 lim,.bool rv,.slice pr lr cr],.agg #[.slice pb lb cb,.slice pw lw cw,.slice pt lt ct,.slice ps ls cs,.int .i64 sky,.int .i64 st]] v fun e w'=> ∃gb,e=.returned (.tuple #[.pointer (some ⟨gb,0,none⟩),.bool true])/\Below v.heap.size v w'/\GridOf n gb w')):
  Calls prog 8 #[.agg #[.int .i64 sd,.float .f64 dt,.float .f64 gr,.float .f64 dr,.int .i64 lim,.bool rv,.slice pr lr cr],.agg #[.slice pb lb cb,.slice pw lw cw,.slice pt lt ct,.slice ps ls cs,.int .i64 sky,.int .i64 st]] w fun e w'=>e=.returned (.bool true)/\Below w.heap.size w w':=by
 obtain⟨A0,R0,Q0⟩:=bJ w (.cells #[.int .i64 sd,.float .f64 dt,.float .f64 gr,.float .f64 dr,.int .i64 lim,.bool rv,.slice pr lr cr] 25) (.cells #[.slice pb lb cb,.slice pw lw cw,.slice pt lt ct,.slice ps ls cs,.int .i64 sky,.int .i64 st] 29)
 go_enter func8,ntmps8
 go_upto_region 1 with fail
 generalize hW:World.alloc (World.alloc w _) _=V0 at*
 obtain⟨ga,hga⟩:=aD w.heap.size
 obtain⟨gq,hgq⟩:=aD (w.heap.size+1)
 have HGQ:Hid (w.heap.size<=ga/\w.heap.size<=gq):=by show _/\_;omega
 rw[hgq]at Q0 ⊢
 rw[hga]at R0 ⊢
 clear hga hgq hW
 go_wp2_with fail
 refine(LV.out V0 A0.out).mono ?_
 rintro e9 v1 ⟨rfl,b1⟩
 have A1:Hid (Ab w v1):=A0.out.trans b1
 have R1:=hid (Ab.heap b1 R0.out)
 have Q1:=hid (Ab.heap b1 Q0.out)
 clear b1 A0 R0 Q0 LV
 have x0:=aN R1.out
 have y0:=aE Q1.out
 go_wp2_with fail
 refine(GD.out v1 A1.out).mono ?_
 rintro e9 v2 ⟨gb,rfl,b2,g2⟩
 have G2:=hid g2
 clear g2
 have A2:Hid (Ab w v2):=A1.out.trans b2
 have R2:=hid (Ab.heap b2 R1.out)
 have Q2:=hid (Ab.heap b2 Q1.out)
 clear b2 A1 R1 Q1 GD x0 y0
 have x0:=aA 0 R2.out
 go_wp2
 go_ret
 exact⟨rfl,A2.out⟩
theorem mem21_go(n N M:Nat)(sd:Int)(dt gr dr:Nat)(lim:Int)(rv:Bool)(pr:Option Addr)(lr cr:Nat)(R:Nat->Int × Int × Int × Int)(pb:Option Addr)(cb:Nat)(pw:Option Addr)(cw:Nat)(pt:Option Addr)(ct:Nat)(ps:Option Addr)(cs:Nat)(sky st:Int)(B S S1:Nat->Nat)(W T W1 T1:Nat->Int)(sk1 st1:Int)(w:World)(h8:decide (8<sd)=false)(hl:N<=6144/\M<=12288/\lr<=1024)
  (LV:Hid (∀v,Ab w v->Calls prog 9 #[] v fun e w'=>e=.returned (.bool true)/\Below v.heap.size v w'))
  (GD:Hid (∀v,Ab w v->Calls prog 10 #[.agg #[.int .i64 sd,.float .f64 dt,.float .f64 gr,.float .f64 dr,.int .i64 lim,.bool rv,.slice pr lr cr],.agg #[.slice pb N cb,.slice pw N cw,.slice pt N ct,.slice ps M cs,.int .i64 sky,.int .i64 st]] v fun e w'=> ∃gb,e=.returned (.tuple #[.pointer (some ⟨gb,0,none⟩),.bool true])/\Below v.heap.size v w'/\GridOf n gb w'))
  (RM:Hid (∀v,Ab w v->Calls prog 34 #[.agg #[.slice pb N cb,.slice pw N cw,.slice pt N ct,.slice ps M cs,.int .i64 sky,.int .i64 st]] v fun e w'=> ∃m1 m2 m3 m4,e=.returned (.agg #[.slice (some ⟨m1,0,none⟩) N (N+2),.slice (some ⟨m2,0,none⟩) N (N+2),.slice (some ⟨m3,0,none⟩) N (N+2),.slice (some ⟨m4,0,none⟩) M (M+2),.int .i64 sky,.int .i64 st])/\Below v.heap.size v w'/\MineR N M B W T S m1 m2 m3 m4 w'/\(v.heap.size<=m1/\v.heap.size<=m2/\v.heap.size<=m3/\v.heap.size<=m4)/\(m1≠m2/\m1≠m3/\m1≠m4/\m2≠m3/\m2≠m4/\m3≠m4)))
  (ON:Hid (∀v gb p' c' p1 c1 p2 c2 p3 c3 p4 c4,Ab w v->GridOf n gb v->Rn.IsRn v p' lr R->IsFl v p1 N B->Sh.IsI v p2 N W->Sh.IsI v p3 N T->IsFl v p4 M S->Calls prog 14 #[.pointer (some ⟨gb,0,none⟩),.agg #[.int .i64 sd,.float .f64 dt,.float .f64 gr,.float .f64 dr,.int .i64 lim,.bool rv,.slice p' lr c'],.agg #[.slice p1 N c1,.slice p2 N c2,.slice p3 N c3,.slice p4 M c4,.int .i64 sky,.int .i64 st]] v fun e w'=> ∃vv,e=.returned (.tuple #[vv,.int .i64 0])/\Below v.heap.size v w'/\ ∃a1 ac1 a2 ac2 a3 ac3 a4 ac4,vv=.agg #[.slice (some ⟨a1,0,none⟩) N ac1,.slice (some ⟨a2,0,none⟩) N ac2,.slice (some ⟨a3,0,none⟩) N ac3,.slice (some ⟨a4,0,none⟩) M ac4,.int .i64 sk1,.int .i64 st1]/\SeaL N M B W1 T1 S1 a1 ac1 a2 ac2 a3 ac3 a4 ac4 w'/\(v.heap.size<=a1/\v.heap.size<=a2/\v.heap.size<=a3/\v.heap.size<=a4)))
  (FL:Hid (∀v gb p' c' p1 c1 p2 c2 p3 c3 p4 c4,Ab w v->GridOf n gb v->Rn.IsRn v p' lr R->IsFl v p1 N B->Sh.IsI v p2 N W->Sh.IsI v p3 N T->IsFl v p4 M S->Calls prog 17 #[.pointer (some ⟨gb,0,none⟩),.agg #[.int .i64 sd,.float .f64 dt,.float .f64 gr,.float .f64 dr,.int .i64 lim,.bool rv,.slice p' lr c'],.agg #[.slice p1 N c1,.slice p2 N c2,.slice p3 N c3,.slice p4 M c4,.int .i64 sky,.int .i64 st]] v fun e w'=> ∃f1 d1 f2 d2,e=.returned (.tuple #[.agg #[.slice (some ⟨f1,0,none⟩) M d1,.slice (some ⟨f2,0,none⟩) M d2],.int .i64 0])/\Below v.heap.size v w'/\((∃F,w'.rowIs f1 2 d1 F)/\ ∃F,w'.rowIs f2 2 d2 F)/\(M<=d1/\M<=d2)/\(v.heap.size<=f1/\v.heap.size<=f2)/\f1≠f2))
  (SM:Hid (∀v a1 ac1 a2 ac2 a3 ac3 a4 ac4 b1 bc1 b2 bc2 b3 bc3 b4 bc4,SeaL N M B W1 T1 S1 a1 ac1 a2 ac2 a3 ac3 a4 ac4 v->SeaL N M B W1 T1 S1 b1 bc1 b2 bc2 b3 bc3 b4 bc4 v->Calls prog 31 #[.agg #[.slice (some ⟨a1,0,none⟩) N ac1,.slice (some ⟨a2,0,none⟩) N ac2,.slice (some ⟨a3,0,none⟩) N ac3,.slice (some ⟨a4,0,none⟩) M ac4,.int .i64 sk1,.int .i64 st1],.agg #[.slice (some ⟨b1,0,none⟩) N bc1,.slice (some ⟨b2,0,none⟩) N bc2,.slice (some ⟨b3,0,none⟩) N bc3,.slice (some ⟨b4,0,none⟩) M bc4,.int .i64 sk1,.int .i64 st1]] v fun e w'=>e=.returned (.bool true)/\Below v.heap.size v w'))
  (KP:Hid (∀v m1 m2 m3 m4,Ab w v->MineR N M B W T S m1 m2 m3 m4 v->Calls prog 35 #[.agg #[.slice (some ⟨m1,0,none⟩) N (N+2),.slice (some ⟨m2,0,none⟩) N (N+2),.slice (some ⟨m3,0,none⟩) N (N+2),.slice (some ⟨m4,0,none⟩) M (M+2),.int .i64 sky,.int .i64 st],.agg #[.slice pb N cb,.slice pw N cw,.slice pt N ct,.slice ps M cs,.int .i64 sky,.int .i64 st]] v fun e w'=>e=.returned (.bool true)/\Below v.heap.size v w'))
  (ML:Hid (∀v m1 m2 m3 m4,MineR N M B W T S m1 m2 m3 m4 v->IsFl v (some ⟨m1,0,none⟩) N B/\Sh.IsI v (some ⟨m2,0,none⟩) N W/\Sh.IsI v (some ⟨m3,0,none⟩) N T/\IsFl v (some ⟨m4,0,none⟩) M S))
  (IR:Hid (Rn.IsRn w pr lr R)) (R4:Hid (∀k,k<lr->Rn.W4 (R k)))
  (I1:Hid (IsFl w pb N B)) (I2:Hid (Sh.IsI w pw N W)) (I3:Hid (Sh.IsI w pt N T)) (I4:Hid (IsFl w ps M S)):
  Calls prog 8 #[.agg #[.int .i64 sd,.float .f64 dt,.float .f64 gr,.float .f64 dr,.int .i64 lim,.bool rv,.slice pr lr cr],.agg #[.slice pb N cb,.slice pw N cw,.slice pt N ct,.slice ps M cs,.int .i64 sky,.int .i64 st]] w fun e w'=>e=.returned (.bool true)/\Below w.heap.size w w':=by
 have HL:=hid hl
 clear hl
 obtain⟨A0,R0,Q0⟩:=bJ w (.cells #[.int .i64 sd,.float .f64 dt,.float .f64 gr,.float .f64 dr,.int .i64 lim,.bool rv,.slice pr lr cr] 25) (.cells #[.slice pb N cb,.slice pw N cw,.slice pt N ct,.slice ps M cs,.int .i64 sky,.int .i64 st] 29)
 go_enter func8,ntmps8
 go_upto_region 1 with fail
 generalize hW:World.alloc (World.alloc w _) _=V0 at*
 obtain⟨ga,hga⟩:=aD w.heap.size
 obtain⟨gq,hgq⟩:=aD (w.heap.size+1)
 have HGQ:Hid (w.heap.size<=ga/\w.heap.size<=gq):=by show _/\_;omega
 rw[hgq]at Q0 ⊢
 rw[hga]at R0 ⊢
 clear hga hgq hW
 go_wp2_with fail
 refine(LV.out V0 A0.out).mono ?_
 rintro e9 v1 ⟨rfl,b1⟩
 have A1:Hid (Ab w v1):=A0.out.trans b1
 have R1:=hid (Ab.heap b1 R0.out)
 have Q1:=hid (Ab.heap b1 Q0.out)
 clear b1 A0 R0 Q0 LV
 obtain⟨x0,x1,x2,x3,x4,x5,x6⟩:=aN R1.out
 have y0:=aE Q1.out
 go_wp2_with fail
 refine(GD.out v1 A1.out).mono ?_
 rintro e9 v2 ⟨gb,rfl,b2,g2⟩
 have G2:=hid g2
 clear g2
 have A2:Hid (Ab w v2):=A1.out.trans b2
 have R2:=hid (Ab.heap b2 R1.out)
 have Q2:=hid (Ab.heap b2 Q1.out)
 clear b2 A1 R1 Q1 GD x0 x1 x2 x3 x4 x5 x6 y0
 have x0:=aA 0 R2.out
 have y0:=aE Q2.out
 go_wp2_with fail
 refine(RM.out v2 A2.out).mono ?_
 rintro e9 u3 ⟨m1,m2,m3,m4,rfl,b3,mr,ml,md⟩
 have BB:Hid (Ab v2 (u3.alloc (.cells #[.slice (some ⟨m1,0,none⟩) N (N+2),.slice (some ⟨m2,0,none⟩) N (N+2),.slice (some ⟨m3,0,none⟩) N (N+2),.slice (some ⟨m4,0,none⟩) M (M+2),.int .i64 sky,.int .i64 st] 29))):=(show Ab v2 u3 from b3).trans (bl1 _ _)
 have M3:=hid (heap_alloc_new u3 (.cells #[.slice (some ⟨m1,0,none⟩) N (N+2),.slice (some ⟨m2,0,none⟩) N (N+2),.slice (some ⟨m3,0,none⟩) N (N+2),.slice (some ⟨m4,0,none⟩) M (M+2),.int .i64 sky,.int .i64 st] 29))
 have N3:=hid (mr.to (bl1 u3 (.cells #[.slice (some ⟨m1,0,none⟩) N (N+2),.slice (some ⟨m2,0,none⟩) N (N+2),.slice (some ⟨m3,0,none⟩) N (N+2),.slice (some ⟨m4,0,none⟩) M (M+2),.int .i64 sky,.int .i64 st] 29)))
 have MG0:Hid (m1<u3.heap.size/\m2<u3.heap.size/\m3<u3.heap.size/\m4<u3.heap.size):=⟨mr.1.lt,mr.2.1.lt,mr.2.2.1.lt,mr.2.2.2.lt⟩
 have LM:Hid ((v2.heap.size<=m1/\v2.heap.size<=m2/\v2.heap.size<=m3/\v2.heap.size<=m4)/\(m1≠m2/\m1≠m3/\m1≠m4/\m2≠m3/\m2≠m4/\m3≠m4)):=⟨ml,md⟩
 have GM0:Hid (v2.heap.size<=u3.heap.size):=(show Ab v2 u3 from b3).size
 clear b3 mr ml md x0 y0 RM
 go_upto_region 7 with fail
 generalize hW:World.alloc u3 _=v3 at*
 obtain⟨gm,hg⟩:=aD u3.heap.size
 rw[hg]at M3 GM0 MG0 ⊢
 have MG:=MG0
 clear MG0
 clear hg hW
 have X3:=hid BB.out
 clear BB
 have A3:Hid (Ab w v3):=A2.out.trans X3.out
 obtain⟨i0,hi0,-,hi1,-⟩:=Rn.Ew
 have IP:=hid (And.intro hi0 hi1)
 clear hi0 hi1
 have WR:IntKind.i64.wrap ((lr:Int)+2)=(lr:Int)+2:=by rw[IntKind.wrap_i64];have:=HL.out;omega
 have MK: ∀v:World,(Instr.makeSlice 23 (.int .i64 0) (.int .i64 ((lr:Int)+2))).run prog v=.ok (.slice (some ⟨v.heap.size,0,none⟩) 0 (lr+2)) (v.alloc (.cells (madeCells #[.int .i64 0,.int .i64 0,.int .i64 0,.int .i64 0] ((lr+2)*4)) 72)):=fun v=>make_r21 lr HL.out.2.2 v
 have lr1:(lr:Int)<=1024:=by have:=HL.out;omega
 have KS:Hid (∀w',Ab v3 w'->Ab v3 w'/\w'.cell? ⟨ga,6,none⟩=some (.slice pr lr cr)):=fun w' h=>⟨h,aA 6 ((X3.out.trans h).heap R2.out)⟩
 have SR:Hid (∀v,Ab v3 v->Src prog 4 23 (.slice pr lr cr) lr (rnC lr R) v):=fun v h=>src_rn (IR.out.below (A3.out.trans h)) _
 have AB0:Ab v3 v3:=Ab.refl v3
 go_region_held3 (fun w'=>Ab v3 w'/\w'.cell? ⟨ga,6,none⟩=some (.slice pr lr cr)) ((refine KS.out _ ?_;(with_reducible (repeat(first | assumption | apply Ab.drew | apply Ab.alloc)));done)) (
  (refine uX (by rfl) _ _ 23 (by rfl) 72 i0 4 underlying23 IP.out.1 IP.out.2 v3.heap.size 0 (lr+2) (fun i=>.int .i64 (Rn.rf4 ((fun _=>((0,0,0,0):Int × Int × Int × Int)) (i/4)) (i%4))) (by rfl) (Rn.made_r v3.drew (lr+2)) (.slice pr lr cr) lr (rnC lr R) (by rfl) (SR.out _ (AB0.drew.alloc _)) (by omega) lr (by omega) ?_;intro w4 r4 x4;have RW:=hid r4;have AW4:Ab v3 w4:=Abx.ab x4 (AB0.drew.alloc _) (Nat.le_refl _);clear r4 x4))
 obtain⟨rb,hrb⟩:=aD v3.heap.size
 have LB:Hid (v3.heap.size=rb):=hrb
 rw[hrb]at RW ⊢
 have RX:Hid ((w4.alloc (.cells #[.int .i64 (-7),.int .i64 0,.int .i64 0,.int .i64 0,.int .i64 (-7),.int .i64 0,.int .i64 0,.int .i64 0] 72)).rowIs rb 72 ((lr+2)*4) (fun j=>if 0*4<=j then((rnC lr R)[j - 0*4]?).getD ((fun i=>.int .i64 (Rn.rf4 ((fun _=>((0,0,0,0):Int × Int × Int × Int)) (i/4)) (i%4))) j)else(fun i=>.int .i64 (Rn.rf4 ((fun _=>((0,0,0,0):Int × Int × Int × Int)) (i/4)) (i%4))) j)):=World.rowIs.alloc RW.out _
 have SX:Hid (Src prog 4 23 (.slice (some ⟨w4.heap.size,0,none⟩) 2 2) 2 [.int .i64 (-7),.int .i64 0,.int .i64 0,.int .i64 0,.int .i64 (-7),.int .i64 0,.int .i64 0,.int .i64 0] (w4.alloc (.cells #[.int .i64 (-7),.int .i64 0,.int .i64 0,.int .i64 0,.int .i64 (-7),.int .i64 0,.int .i64 0,.int .i64 0] 72))):=Src.ofSlice _ underlying23 ⟨w4.heap.size,0,none⟩ 2 2 [.int .i64 (-7),.int .i64 0,.int .i64 0,.int .i64 0,.int .i64 (-7),.int .i64 0,.int .i64 0,.int .i64 0] rfl (World.news_of_block (heap_alloc_new w4 (.cells #[.int .i64 (-7),.int .i64 0,.int .i64 0,.int .i64 0,.int .i64 (-7),.int .i64 0,.int .i64 0,.int .i64 0] 72))) (fun u hu=>by simp at hu;rcases hu with rfl | rfl | rfl | rfl<;>rfl)
 go_upto_region 9 with(at_builtin;refine zS rfl _ _ 23 rfl 72 i0 4 underlying23 IP.out.1 IP.out.2 rb lr (lr+2) _ rfl RX.out (.slice (some ⟨w4.heap.size,0,none⟩) 2 2) 2 [.int .i64 (-7),.int .i64 0,.int .i64 0,.int .i64 0,.int .i64 (-7),.int .i64 0,.int .i64 0,.int .i64 0] rfl SX.out (by omega) (lr+2) rfl ?_;intro w5 r5 x5;have RY:=hid r5;have A5:Hid (Ab v3 w5):=Abx.ab x5 (AW4.alloc _) (by have:=LB.out;omega);clear r5 x5)
 have X5:Hid (Ab v2 w5):=X3.out.trans A5.out
 have M5:=hid (A5.out.heap M3.out)
 have N5:=hid (N3.out.to A5.out)
 have RZ:Hid (Rn.RAt w5 rb (lr+2) (rnM lr R)):=World.rowIs.congr RY.out (fun j hj=>by
  unfold rnM
  by_cases c:j<lr*4
  ·rw[if_neg (by omega),if_pos (by omega),if_pos (show j/4<lr by omega)]
   simp[rnC,c]
  ·rw[if_pos (by omega),if_neg (show¬j/4<lr by omega)]
   have q:j - lr*4<8:=by omega
   have e4:j%4=(j - lr*4)%4:=by omega
   rw[e4]
   match h:j - lr*4,q with
   | 0,_=>rfl
   | 1,_=>rfl
   | 2,_=>rfl
   | 3,_=>rfl
   | 4,_=>rfl
   | 5,_=>rfl
   | 6,_=>rfl
   | 7,_=>rfl)
 obtain⟨B6,P6⟩:=aO w5 (.cells #[.int .i64 sd,.float .f64 dt,.float .f64 gr,.float .f64 dr,.int .i64 lim,.bool rv,.slice (some ⟨rb,0,none⟩) lr (lr+2)] 25)
 clear RY RX SX RW AW4 A5 X3 M3 N3 MK KS SR WR
 obtain⟨x0,x1,x2,x3,x4,x5,x6⟩:=aN (X5.out.heap R2.out)
 have z6:=aA 6 (Ab.heap (bl1 w5 (.cells #[.int .i64 sd,.float .f64 dt,.float .f64 gr,.float .f64 dr,.int .i64 lim,.bool rv,.slice pr lr cr] 25)) (X5.out.heap R2.out))
 have lr2:(lr:Int)<=(lr:Int)+2:=by omega
 have lr3:((lr:Nat):Int)<=((lr+2:Nat):Int):=by omega
 go_upto_region 11 with fail
 generalize hW:World.alloc w5 _=v6 at*
 obtain⟨gp,hg⟩:=aD w5.heap.size
 rw[hg]at P6 ⊢
 clear hg hW x0 x1 x2 x3 x4 x5 x6 z6 lr2 lr3 lr1
 have X6:Hid (Ab v2 v6):=X5.out.trans B6.out
 have M6:=hid (B6.out.heap M5.out)
 have N6:=hid (N5.out.to B6.out)
 have Z6:Hid (Rn.IsRn v6 (some ⟨rb,0,none⟩) lr R):=Rn.IsRn.congr18 ((RZ.out.to B6.out).rn (by omega) (fun k hk=>by unfold rnM;rw[if_pos hk];exact R4.out k hk)) (fun k hk=>by unfold rnM;rw[if_pos hk])
 have Y6:=hid (RZ.out.to B6.out)
 have LZ:Hid ((m1<v6.heap.size/\m2<v6.heap.size/\m3<v6.heap.size/\m4<v6.heap.size)/\rb<v6.heap.size/\gm<v6.heap.size/\gp<v6.heap.size):=⟨⟨N6.out.1.lt,N6.out.2.1.lt,N6.out.2.2.1.lt,N6.out.2.2.2.lt⟩,World.rowIs.lt Y6.out,Rv.aX M6.out,Rv.aX P6.out⟩
 clear X5 M5 N5 RZ B6
 obtain⟨x0,x1,x2,x3,x4,x5,x6⟩:=aN P6.out
 have y0:=aE M6.out
 go_wp2_with fail
 refine(ON.out v6 gb _ _ _ _ _ _ _ _ _ _ (A2.out.trans X6.out) (G2.out.to X6.out) Z6.out (ML.out _ _ _ _ _ N6.out).1 (ML.out _ _ _ _ _ N6.out).2.1 (ML.out _ _ _ _ _ N6.out).2.2.1 (ML.out _ _ _ _ _ N6.out).2.2.2).mono ?_
 rintro e9 u7 ⟨vv,rfl,b7,a1,ac1,a2,ac2,a3,ac3,a4,ac4,rfl,s7,l7⟩
 have BB:Hid (Ab v6 (u7.alloc (.cells #[.slice (some ⟨a1,0,none⟩) N ac1,.slice (some ⟨a2,0,none⟩) N ac2,.slice (some ⟨a3,0,none⟩) N ac3,.slice (some ⟨a4,0,none⟩) M ac4,.int .i64 sk1,.int .i64 st1] 29))):=(show Ab v6 u7 from b7).trans (bl1 _ _)
 have Ba7:=hid (heap_alloc_new u7 (.cells #[.slice (some ⟨a1,0,none⟩) N ac1,.slice (some ⟨a2,0,none⟩) N ac2,.slice (some ⟨a3,0,none⟩) N ac3,.slice (some ⟨a4,0,none⟩) M ac4,.int .i64 sk1,.int .i64 st1] 29))
 have Sa7:=hid (s7.to (bl1 u7 (.cells #[.slice (some ⟨a1,0,none⟩) N ac1,.slice (some ⟨a2,0,none⟩) N ac2,.slice (some ⟨a3,0,none⟩) N ac3,.slice (some ⟨a4,0,none⟩) M ac4,.int .i64 sk1,.int .i64 st1] 29)))
 have La:=hid l7
 have Ka:Hid (a1<u7.heap.size/\a2<u7.heap.size/\a3<u7.heap.size/\a4<u7.heap.size):=s7.lt
 clear b7 s7 l7 x0 x1 x2 x3 x4 x5 x6 y0
 go_upto_region 12 with fail
 generalize hW:World.alloc u7 _=v7 at*
 obtain⟨ka,hg⟩:=aD u7.heap.size
 rw[hg]at Ba7 Ka ⊢
 clear hg hW
 have X7:Hid (Ab v2 v7):=X6.out.trans BB.out
 have M7:=hid (BB.out.heap M6.out)
 have P7:=hid (BB.out.heap P6.out)
 have N7:=hid (N6.out.to BB.out)
 have Z7:=hid (Z6.out.below BB.out)
 have Y7:=hid (Y6.out.to BB.out)
 have SZ7:Hid (v6.heap.size<=v7.heap.size):=BB.out.size
 have SZ6:Hid (v2.heap.size<=v6.heap.size/\w.heap.size<=v2.heap.size):=⟨X6.out.size,A2.out.size⟩
 clear BB X6 M6 P6 N6 Z6 Y6
 obtain⟨x0,x1,x2,x3,x4,x5,x6⟩:=aN P7.out
 have y0:=aE M7.out
 go_wp2_with fail
 refine(ON.out v7 gb _ _ _ _ _ _ _ _ _ _ (A2.out.trans X7.out) (G2.out.to X7.out) Z7.out (ML.out _ _ _ _ _ N7.out).1 (ML.out _ _ _ _ _ N7.out).2.1 (ML.out _ _ _ _ _ N7.out).2.2.1 (ML.out _ _ _ _ _ N7.out).2.2.2).mono ?_
 rintro e9 u8 ⟨vv,rfl,b8,b1,bc1,b2,bc2,b3,bc3,b4,bc4,rfl,s8,l8⟩
 have BB:Hid (Ab v7 (u8.alloc (.cells #[.slice (some ⟨b1,0,none⟩) N bc1,.slice (some ⟨b2,0,none⟩) N bc2,.slice (some ⟨b3,0,none⟩) N bc3,.slice (some ⟨b4,0,none⟩) M bc4,.int .i64 sk1,.int .i64 st1] 29))):=(show Ab v7 u8 from b8).trans (bl1 _ _)
 have Bb8:=hid (heap_alloc_new u8 (.cells #[.slice (some ⟨b1,0,none⟩) N bc1,.slice (some ⟨b2,0,none⟩) N bc2,.slice (some ⟨b3,0,none⟩) N bc3,.slice (some ⟨b4,0,none⟩) M bc4,.int .i64 sk1,.int .i64 st1] 29))
 have Sb8:=hid (s8.to (bl1 u8 (.cells #[.slice (some ⟨b1,0,none⟩) N bc1,.slice (some ⟨b2,0,none⟩) N bc2,.slice (some ⟨b3,0,none⟩) N bc3,.slice (some ⟨b4,0,none⟩) M bc4,.int .i64 sk1,.int .i64 st1] 29)))
 have Lb:=hid l8
 have Kb:Hid (b1<u8.heap.size/\b2<u8.heap.size/\b3<u8.heap.size/\b4<u8.heap.size):=s8.lt
 clear b8 s8 l8 x0 x1 x2 x3 x4 x5 x6 y0
 go_upto_region 13 with fail
 generalize hW:World.alloc u8 _=v8 at*
 obtain⟨kb,hg⟩:=aD u8.heap.size
 rw[hg]at Bb8 Kb ⊢
 clear hg hW
 have X8:Hid (Ab v2 v8):=X7.out.trans BB.out
 have M8:=hid (BB.out.heap M7.out)
 have P8:=hid (BB.out.heap P7.out)
 have N8:=hid (N7.out.to BB.out)
 have Z8:=hid (Z7.out.below BB.out)
 have Y8:=hid (Y7.out.to BB.out)
 have Ba8:=hid (BB.out.heap Ba7.out)
 have Sa8:=hid (Sa7.out.to BB.out)
 have LAB:Hid (a1<v7.heap.size/\a2<v7.heap.size/\a3<v7.heap.size/\a4<v7.heap.size):=Sa7.out.lt
 have SZ:Hid (((v2.heap.size<=v6.heap.size/\v6.heap.size<=v7.heap.size)/\v7.heap.size<=v8.heap.size)/\w.heap.size<=v2.heap.size):=⟨⟨⟨SZ6.out.1,SZ7.out⟩,BB.out.size⟩,SZ6.out.2⟩
 have KAB:Hid (ka<v7.heap.size/\kb<v8.heap.size):=⟨Rv.aX Ba7.out,Rv.aX Bb8.out⟩
 clear BB X7 M7 P7 N7 Z7 Y7 Ba7 Sa7
 obtain⟨x0,x1,x2,x3,x4,x5,x6⟩:=aN P8.out
 have y0:=aE M8.out
 go_wp2_with fail
 refine(FL.out v8 gb _ _ _ _ _ _ _ _ _ _ (A2.out.trans X8.out) (G2.out.to X8.out) Z8.out (ML.out _ _ _ _ _ N8.out).1 (ML.out _ _ _ _ _ N8.out).2.1 (ML.out _ _ _ _ _ N8.out).2.2.1 (ML.out _ _ _ _ _ N8.out).2.2.2).mono ?_
 rintro e9 u9 ⟨f1,d1,f2,d2,rfl,b9,r9,dd,l9,nf⟩
 have BB:Hid (Ab v8 (u9.alloc (.cells #[.slice (some ⟨f1,0,none⟩) M d1,.slice (some ⟨f2,0,none⟩) M d2] 46))):=(show Ab v8 u9 from b9).trans (bl1 _ _)
 have Bc9:=hid (heap_alloc_new u9 (.cells #[.slice (some ⟨f1,0,none⟩) M d1,.slice (some ⟨f2,0,none⟩) M d2] 46))
 have Sc9:Hid ((∃F,(u9.alloc (.cells #[.slice (some ⟨f1,0,none⟩) M d1,.slice (some ⟨f2,0,none⟩) M d2] 46)).rowIs f1 2 d1 F)/\ ∃F,(u9.alloc (.cells #[.slice (some ⟨f1,0,none⟩) M d1,.slice (some ⟨f2,0,none⟩) M d2] 46)).rowIs f2 2 d2 F):=by
  obtain⟨⟨F1,h1⟩,F2,h2⟩:=r9
  exact⟨⟨F1,World.rowIs.alloc h1 _⟩,F2,World.rowIs.alloc h2 _⟩
 have LF:Hid ((M<=d1/\M<=d2)/\(v8.heap.size<=f1/\v8.heap.size<=f2)/\f1≠f2):=⟨dd,l9,nf⟩
 have KC:Hid (f1<u9.heap.size/\f2<u9.heap.size):=by
  obtain⟨⟨F1,h1⟩,F2,h2⟩:=r9
  exact⟨h1.lt,h2.lt⟩
 have LBB:Hid (b1<v8.heap.size/\b2<v8.heap.size/\b3<v8.heap.size/\b4<v8.heap.size):=Sb8.out.lt
 clear b9 r9 dd l9 nf x0 x1 x2 x3 x4 x5 x6 y0 FL
 go_upto_region 14 with fail
 generalize hW:World.alloc u9 _=v9 at*
 obtain⟨kc,hg⟩:=aD u9.heap.size
 rw[hg]at Bc9 KC ⊢
 clear hg hW
 have X9:Hid (Ab v2 v9):=X8.out.trans BB.out
 have M9:=hid (BB.out.heap M8.out)
 have N9:=hid (N8.out.to BB.out)
 have Y9:=hid (Y8.out.to BB.out)
 have Ba9:=hid (BB.out.heap Ba8.out)
 have Sa9:=hid (Sa8.out.to BB.out)
 have Bb9:=hid (BB.out.heap Bb8.out)
 have Sb9:=hid (Sb8.out.to BB.out)
 have SZ9:Hid (v8.heap.size<=v9.heap.size):=BB.out.size
 clear BB X8 M8 P8 N8 Z8 Y8 Ba8 Sa8 Bb8 Sb8
 obtain⟨x0,x1,x2,x3,x4,x5⟩:=aE Ba9.out
 have y0:=aE Bb9.out
 go_wp2_with fail
 refine(SM.out v9 _ _ _ _ _ _ _ _ _ _ _ _ _ _ _ _ Sa9.out Sb9.out).mono ?_
 rintro e9 v10 ⟨rfl,b10⟩
 have E10:Hid (Ab v9 v10):=b10
 clear b10 x0 x1 x2 x3 x4 x5 y0
 obtain⟨x0,x1,x2,x3,x4,x5⟩:=aE (E10.out.heap M9.out)
 have y0:=aE ((X9.out.trans E10.out).heap Q2.out)
 go_wp2_with fail
 refine(KP.out v10 _ _ _ _ (A2.out.trans (X9.out.trans E10.out)) (N9.out.to E10.out)).mono ?_
 rintro e9 v11 ⟨rfl,b11⟩
 have E11:Hid (Ab v9 v11):=E10.out.trans b11
 clear b11 E10 x0 x1 x2 x3 x4 x5 y0
 go_wp2
 go_loopw [16] (fun iv wr=> ∃k:Nat,k<=lr+2/\iv=.int .i64 (k:Nat)/\Ab v9 wr) (fun iv _=>lr+2 - (intOf iv).toNat)
 case atStart=>exact⟨0,by omega,rfl,E11.out⟩
 case round=>
  obtain⟨k,hc,rfl,ar⟩:=hrel
  have AQ:=hid ar
  clear ar E11
  have hcB:(k:Int)<=1026:=by have:=HL.out;omega
  have l3:(lr:Int)<=1024:=by have:=HL.out;omega
  by_cases hcn:k<lr+2
  ·have HC:=hid hcn
   have hcI:(k:Int)<(lr:Int)+2:=by omega
   have hcJ:(k:Int)<((lr+2:Nat):Int):=by omega
   have c0:(0:Int)<=(k:Int):=by omega
   by_cases hm:k<lr
   ·have d1:decide ((k:Int)<(lr:Int))=true:=decide_eq_true (by omega)
    have d2:decide ((lr:Int)<=(k:Int))=false:=decide_eq_false (by omega)
    have d3:(k:Int)<(lr:Int):=by omega
    obtain⟨ab,ao,rfl⟩:=IR.out.some0 (show 0<lr by omega)
    obtain⟨r1,r2,r3,r4,hr⟩: ∃a b c' d,R k=(a,b,c',d):=⟨_,_,_,_,rfl⟩
    have BC:Hid (∀v,Ab v9 v->v.cell? ⟨rb,k*4,none⟩=some (.int .i64 r1)/\v.cell? ⟨rb,k*4+1,none⟩=some (.int .i64 r2)/\v.cell? ⟨rb,k*4+2,none⟩=some (.int .i64 r3)/\v.cell? ⟨rb,k*4+3,none⟩=some (.int .i64 r4)):=fun v a=>by
     have h:=Y9.out.to a
     have k0:=h.c (j:=0) (show k<lr+2 by omega) (by omega)
     have k1:=h.c (j:=1) (show k<lr+2 by omega) (by omega)
     have k2:=h.c (j:=2) (show k<lr+2 by omega) (by omega)
     have k3:=h.c (j:=3) (show k<lr+2 by omega) (by omega)
     unfold rnM at k0 k1 k2 k3
     rw[if_pos hm,hr]at k0 k1 k2 k3
     exact⟨k0,k1,k2,k3⟩
    have RC:Hid (∀v,Ab v9 v->v.cell? ⟨ab,ao+k*4,none⟩=some (.int .i64 r1)/\v.cell? ⟨ab,ao+k*4+1,none⟩=some (.int .i64 r2)/\v.cell? ⟨ab,ao+k*4+2,none⟩=some (.int .i64 r3)/\v.cell? ⟨ab,ao+k*4+3,none⟩=some (.int .i64 r4)):=fun v a=>by
     have h:=((IR.out.below (A2.out.trans (X9.out.trans a))).at0 hm).2.2
     rw[hr]at h
     exact h
    have hm2: ¬lr<=k:=by omega
    clear hr hcn hc
    go_upto_region 19 with fail
    obtain⟨UU,E,hF1,hF2⟩:=cls wr
    have HU:=hid hF2
    have HU1:=hid hF1
    have e1: ∀u,(E u).cell? ⟨ga,6,none⟩=some (.slice (some ⟨ab,ao,none⟩) lr cr):=fun u=>aA 6 ((X9.out.trans (AQ.out.trans (hF1 u))).heap R2.out)
    have e2: ∀u,(E u).cell? ⟨rb,k*4,none⟩=some (.int .i64 r1):=fun u=>(BC.out _ (AQ.out.trans (hF1 u))).1
    have e3: ∀u,(E u).cell? ⟨rb,k*4+1,none⟩=some (.int .i64 r2):=fun u=>(BC.out _ (AQ.out.trans (hF1 u))).2.1
    have e4: ∀u,(E u).cell? ⟨rb,k*4+2,none⟩=some (.int .i64 r3):=fun u=>(BC.out _ (AQ.out.trans (hF1 u))).2.2.1
    have e5: ∀u,(E u).cell? ⟨rb,k*4+3,none⟩=some (.int .i64 r4):=fun u=>(BC.out _ (AQ.out.trans (hF1 u))).2.2.2
    have e6: ∀u,(E u).cell? ⟨ab,ao+k*4,none⟩=some (.int .i64 r1):=fun u=>(RC.out _ (AQ.out.trans (hF1 u))).1
    have e7: ∀u,(E u).cell? ⟨ab,ao+k*4+1,none⟩=some (.int .i64 r2):=fun u=>(RC.out _ (AQ.out.trans (hF1 u))).2.1
    have e8: ∀u,(E u).cell? ⟨ab,ao+k*4+2,none⟩=some (.int .i64 r3):=fun u=>(RC.out _ (AQ.out.trans (hF1 u))).2.2.1
    have e9: ∀u,(E u).cell? ⟨ab,ao+k*4+3,none⟩=some (.int .i64 r4):=fun u=>(RC.out _ (AQ.out.trans (hF1 u))).2.2.2
    have DD0:=HU.out _ (Ab.refl wr).drew
    clear hF1 hF2
    refine aJ E (by kernel_rfl) (by kernel_rfl) DD0 ?_
    repeat(go_big_quiet_step (with_reducible rfl))
    refine wpQuiet_nil ?_
    intro v12 hwz
    obtain⟨u0,hu⟩:=hwz
    have A12:Hid (Ab wr v12):=by rw[hu];exact HU1.out u0
    clear hu u0
    clear HU HU1 DD0 e1 e2 e3 e4 e5 e6 e7 e8 e9
    clear E UU
    go_wp2
    exact⟨⟨k+1,by have:=HC.out;omega,by simp,AQ.out.trans A12.out⟩,by have:=HC.out;simp[intOf];omega⟩
   ·have d1:decide ((k:Int)<(lr:Int))=false:=decide_eq_false (by omega)
    have d2:decide ((lr:Int)<=(k:Int))=true:=decide_eq_true (by omega)
    have BC:Hid (∀v,Ab v9 v->v.cell? ⟨rb,k*4,none⟩=some (.int .i64 (-7))/\v.cell? ⟨rb,k*4+1,none⟩=some (.int .i64 0)/\v.cell? ⟨rb,k*4+2,none⟩=some (.int .i64 0)/\v.cell? ⟨rb,k*4+3,none⟩=some (.int .i64 0)):=fun v a=>by
     have h:=Y9.out.to a
     have k0:=h.c (j:=0) (show k<lr+2 by omega) (by omega)
     have k1:=h.c (j:=1) (show k<lr+2 by omega) (by omega)
     have k2:=h.c (j:=2) (show k<lr+2 by omega) (by omega)
     have k3:=h.c (j:=3) (show k<lr+2 by omega) (by omega)
     unfold rnM at k0 k1 k2 k3
     rw[if_neg hm]at k0 k1 k2 k3
     exact⟨k0,k1,k2,k3⟩
    have hm2:lr<=k:=by omega
    clear hcn hc
    go_upto_region 19 with fail
    obtain⟨UU,E,hF1,hF2⟩:=cls wr
    have HU:=hid hF2
    have HU1:=hid hF1
    have e1: ∀u,(E u).cell? ⟨ga,6,none⟩=some (.slice pr lr cr):=fun u=>aA 6 ((X9.out.trans (AQ.out.trans (hF1 u))).heap R2.out)
    have e2: ∀u,(E u).cell? ⟨rb,k*4,none⟩=some (.int .i64 (-7)):=fun u=>(BC.out _ (AQ.out.trans (hF1 u))).1
    have e3: ∀u,(E u).cell? ⟨rb,k*4+1,none⟩=some (.int .i64 0):=fun u=>(BC.out _ (AQ.out.trans (hF1 u))).2.1
    have e4: ∀u,(E u).cell? ⟨rb,k*4+2,none⟩=some (.int .i64 0):=fun u=>(BC.out _ (AQ.out.trans (hF1 u))).2.2.1
    have e5: ∀u,(E u).cell? ⟨rb,k*4+3,none⟩=some (.int .i64 0):=fun u=>(BC.out _ (AQ.out.trans (hF1 u))).2.2.2
    have DD0:=HU.out _ (Ab.refl wr).drew
    clear hF1 hF2
    refine aJ E (by kernel_rfl) (by kernel_rfl) DD0 ?_
    repeat(go_big_quiet_step (with_reducible rfl))
    refine wpQuiet_nil ?_
    intro v12 hwz
    obtain⟨u0,hu⟩:=hwz
    have A12:Hid (Ab wr v12):=by rw[hu];exact HU1.out u0
    clear hu u0
    clear HU HU1 DD0 e1 e2 e3 e4 e5
    clear E UU
    go_wp2
    exact⟨⟨k+1,by have:=HC.out;omega,by simp,AQ.out.trans A12.out⟩,by have:=HC.out;simp[intOf];omega⟩
  ·have e6:k=lr+2:=by omega
   subst e6
   clear hcn hc hcB l3
   have NP:Hid (∀j,¬(v6.heap.size<=j)-> ¬(fun j=>(j=a1\/j=a4)\/(j=a2\/j=a3)\/(j=f1\/j=f2)) j):=fun j hj h=>by
    have q1:=La.out
    have q2:=LF.out.2.1
    have q3:=SZ.out
    rcases h with(rfl | rfl) | (rfl | rfl) | (rfl | rfl)<;>omega
   have NK:Hid (¬(fun j=>(j=a1\/j=a4)\/(j=a2\/j=a3)\/(j=f1\/j=f2)) ka/\ ¬(fun j=>(j=a1\/j=a4)\/(j=a2\/j=a3)\/(j=f1\/j=f2)) kb/\ ¬(fun j=>(j=a1\/j=a4)\/(j=a2\/j=a3)\/(j=f1\/j=f2)) kc/\(¬(fun j=>(j=a1\/j=a4)\/(j=a2\/j=a3)\/(j=f1\/j=f2)) b1/\ ¬(fun j=>(j=a1\/j=a4)\/(j=a2\/j=a3)\/(j=f1\/j=f2)) b2/\ ¬(fun j=>(j=a1\/j=a4)\/(j=a2\/j=a3)\/(j=f1\/j=f2)) b3/\ ¬(fun j=>(j=a1\/j=a4)\/(j=a2\/j=a3)\/(j=f1\/j=f2)) b4)):=by
    have q1:=Ka.out
    have q2:=Kb.out
    have q3:=KC.out
    have q4:=LAB.out
    have q5:=LBB.out
    have q6:=Lb.out
    have q7:=LF.out.2.1
    have q8:=KAB.out
    have q9:=SZ.out
    refine⟨fun h=> ?_,fun h=> ?_,fun h=> ?_,fun h=> ?_,fun h=> ?_,fun h=> ?_,fun h=> ?_⟩<;>(rcases h with(h | h) | (h | h) | (h | h)<;>omega)
   obtain⟨⟨⟨F1,r1⟩,⟨F2,r2⟩,⟨F3,r3⟩,F4,r4⟩,hcp,-,hne⟩:=Sa9.out.to AQ.out
   have RA2:=hid (And.intro r2 r3)
   have HCP:=hid (And.intro hcp hne)
   have x0:=aA 0 (AQ.out.heap Ba9.out)
   have x3:=aA 3 (AQ.out.heap Ba9.out)
   have C1:=hid (sS a1 N ac1 a4 M ac4 F1 F4 wr (by have:=HCP.out.1;have:=HL.out;show _/\_;omega) HCP.out.2.2.2.1 r1 r4)
   clear r1 r2 r3 r4 hcp hne
   go_wp2_with fail
   refine C1.out.mono ?_
   rintro e9 v12 ⟨rfl,q12⟩
   have Q12:Hid (Rv.AbQ v9 (fun j=>(j=a1\/j=a4)\/(j=a2\/j=a3)\/(j=f1\/j=f2)) v12):=gV (sV _ AQ.out) q12 (fun j h=>.inl (.inl h))
   have QA:Hid (Rv.AbQ v9 (fun j=>(j=a1\/j=a4)\/(j=a2\/j=a3)) v12):=gV (sV _ AQ.out) q12 (fun j h=>.inl (.inl h))
   have S12:Hid ((∃F,v12.rowIs a2 2 ac2 F)/\ ∃F,v12.rowIs a3 2 ac3 F):=by
    have u:=HCP.out.2
    exact⟨⟨_,iA q12 RA2.out.1 (fun h=>by rcases h with h | h<;>omega)⟩,_,iA q12 RA2.out.2 (fun h=>by rcases h with h | h<;>omega)⟩
   clear q12 C1 x0 x3 RA2 AQ
   have x1:=aA 1 (Q12.out.heap Ba9.out NK.out.1)
   have x2:=aA 2 (Q12.out.heap Ba9.out NK.out.1)
   obtain⟨⟨F2,r2⟩,F3,r3⟩:=S12.out
   have C2:=hid (pA a2 N ac2 a3 N ac3 F2 F3 v12 (by have:=HCP.out.1;have:=HL.out;show _/\_;omega) HCP.out.2.2.2.2.1 r2 r3)
   clear r2 r3
   go_wp2_with fail
   refine C2.out.mono ?_
   rintro e9 v13 ⟨rfl,q13⟩
   have Q13:Hid (Rv.AbQ v9 (fun j=>(j=a1\/j=a4)\/(j=a2\/j=a3)\/(j=f1\/j=f2)) v13):=gV Q12.out q13 (fun j h=>.inl (.inr (.inl h)))
   have QS:Hid (Rv.AbQ v9 (fun j=>(j=a1\/j=a4)\/(j=a2\/j=a3)) v13):=gV QA.out q13 (fun j h=>.inl (.inr h))
   clear q13 C2 x1 x2 S12 QA
   have x0:=aA 0 (Q13.out.heap Bc9.out NK.out.2.2.1)
   have x1:=aA 1 (Q13.out.heap Bc9.out NK.out.2.2.1)
   have S13:Hid ((∃F,v13.rowIs f1 2 d1 F)/\ ∃F,v13.rowIs f2 2 d2 F):=by
    obtain⟨⟨F2,r2⟩,F3,r3⟩:=Sc9.out
    have u1:=LAB.out
    have u2:=LF.out.2.1
    have u3:=SZ.out
    exact⟨⟨_,iA QS.out r2 (fun h=>by rcases h with(h | h) | (h | h)<;>omega)⟩,_,iA QS.out r3 (fun h=>by rcases h with(h | h) | (h | h)<;>omega)⟩
   obtain⟨⟨F2,r2⟩,F3,r3⟩:=S13.out
   have C3:=hid (pA f1 M d1 f2 M d2 F2 F3 v13 (by have:=LF.out.1;have:=HL.out;show _/\_;omega) LF.out.2.2 r2 r3)
   clear r2 r3
   go_wp2_with fail
   refine C3.out.mono ?_
   rintro e9 v14 ⟨rfl,q14⟩
   have Q14:Hid (Rv.AbQ v9 (fun j=>(j=a1\/j=a4)\/(j=a2\/j=a3)\/(j=f1\/j=f2)) v14):=gV Q13.out q14 (fun j h=>.inl (.inr (.inr h)))
   clear q14 C3 x0 x1 S13 Q12 Q13 QS
   have X14:Hid (Ab v2 v14):=Q14.out.ab X9.out (fun j hj=>NP.out j (by have:=SZ.out;omega))
   have N14:=hid (N9.out.q Q14.out ⟨NP.out _ (by have:=LZ.out;omega),NP.out _ (by have:=LZ.out;omega),NP.out _ (by have:=LZ.out;omega),NP.out _ (by have:=LZ.out;omega)⟩)
   have Sb14:=hid (Sb9.out.q Q14.out NK.out.2.2.2)
   have Bb14:=hid (Q14.out.heap Bb9.out NK.out.2.1)
   have M14:=hid (Q14.out.heap M9.out (NP.out _ (by have:=LZ.out;omega)))
   have LBK:Hid (kb<v14.heap.size/\gm<v14.heap.size):=⟨Rv.aX Bb14.out,Rv.aX M14.out⟩
   have V14a:Hid (v6.heap.size<=v14.heap.size):=Nat.le_trans (Nat.le_trans SZ.out.1.1.2 SZ.out.1.2) (Nat.le_trans SZ9.out Q14.out.2.2.2.1)
   clear Q14 NK NP X9 N9 Sb9 Bb9 M9 Ba9 Sa9 Bc9 Sc9 Y9
   obtain⟨x0,x1,x2,x3,x4,x5,x6⟩:=aN (X14.out.heap R2.out)
   have y0:=aE (X14.out.heap Q2.out)
   go_wp2_with fail
   refine(ON.out v14 gb _ _ _ _ _ _ _ _ _ _ (A2.out.trans X14.out) (G2.out.to X14.out) (IR.out.below (A2.out.trans X14.out)) (I1.out.below (A2.out.trans X14.out)) (I2.out.below (A2.out.trans X14.out)) (I3.out.below (A2.out.trans X14.out)) (I4.out.below (A2.out.trans X14.out))).mono ?_
   rintro e9 u15 ⟨vv,rfl,b15,h1,hc1,h2,hc2,h3,hc3,h4,hc4,rfl,s15,l15⟩
   have BB:Hid (Ab v14 (u15.alloc (.cells #[.slice (some ⟨h1,0,none⟩) N hc1,.slice (some ⟨h2,0,none⟩) N hc2,.slice (some ⟨h3,0,none⟩) N hc3,.slice (some ⟨h4,0,none⟩) M hc4,.int .i64 sk1,.int .i64 st1] 29))):=(show Ab v14 u15 from b15).trans (bl1 _ _)
   have Bh15:=hid (heap_alloc_new u15 (.cells #[.slice (some ⟨h1,0,none⟩) N hc1,.slice (some ⟨h2,0,none⟩) N hc2,.slice (some ⟨h3,0,none⟩) N hc3,.slice (some ⟨h4,0,none⟩) M hc4,.int .i64 sk1,.int .i64 st1] 29))
   have Sh15:=hid (s15.to (bl1 u15 (.cells #[.slice (some ⟨h1,0,none⟩) N hc1,.slice (some ⟨h2,0,none⟩) N hc2,.slice (some ⟨h3,0,none⟩) N hc3,.slice (some ⟨h4,0,none⟩) M hc4,.int .i64 sk1,.int .i64 st1] 29)))
   have Lh:=hid l15
   have Kh:Hid (v14.heap.size<=u15.heap.size):=(show Ab v14 u15 from b15).size
   clear b15 s15 l15 x0 x1 x2 x3 x4 x5 x6 y0
   go_upto_region 25 with fail
   generalize hW:World.alloc u15 _=v15 at*
   obtain⟨kh,hg⟩:=aD u15.heap.size
   rw[hg]at Bh15 Kh ⊢
   clear hg hW
   have V14:Hid (v6.heap.size<=v14.heap.size):=V14a
   have X15:Hid (Ab v2 v15):=X14.out.trans BB.out
   have N15:=hid (N14.out.to BB.out)
   have Sb15:=hid (Sb14.out.to BB.out)
   have Bb15:=hid (BB.out.heap Bb14.out)
   have M15:=hid (BB.out.heap M14.out)
   clear BB X14 N14 Sb14 Bb14 M14
   obtain⟨x0,x1,x2,x3,x4,x5⟩:=aE Bh15.out
   have y0:=aE Bb15.out
   go_wp2_with fail
   refine(SM.out v15 _ _ _ _ _ _ _ _ _ _ _ _ _ _ _ _ Sh15.out Sb15.out).mono ?_
   rintro e9 v16 ⟨rfl,b16⟩
   have E16:Hid (Ab v15 v16):=b16
   clear b16 x0 x1 x2 x3 x4 x5 y0
   obtain⟨x0,x1,x2,x3,x4,x5⟩:=aE (E16.out.heap M15.out)
   have y0:=aE ((X15.out.trans E16.out).heap Q2.out)
   go_wp2_with fail
   refine(KP.out v16 _ _ _ _ (A2.out.trans (X15.out.trans E16.out)) (N15.out.to E16.out)).mono ?_
   rintro e9 v17 ⟨rfl,b17⟩
   have E17:Hid (Ab v15 v17):=E16.out.trans b17
   clear b17 E16 x0 x1 x2 x3 x4 x5 y0
   have x0:=aA 0 (E17.out.heap M15.out)
   have x3:=aA 3 (E17.out.heap M15.out)
   have N17:=hid (N15.out.to E17.out)
   have C4:=hid (sS m1 N (N+2) m4 M (M+2) _ _ v17 (by have:=HL.out;show _/\_;omega) LM.out.2.2.2.1 N17.out.1 N17.out.2.2.2)
   go_wp2_with fail
   refine C4.out.mono ?_
   rintro e9 v18 ⟨rfl,q18⟩
   have Q18:Hid (Rv.AbQ v15 (fun j=>(j=m1\/j=m4)\/(j=m2\/j=m3)) v18):=gV (sV _ E17.out) q18 (fun j h=>.inl (.inl h))
   have u:=LM.out.2
   have C5:=hid (pA m2 N (N+2) m3 N (N+2) _ _ v18 (by have:=HL.out;show _/\_;omega) LM.out.2.2.2.2.1 (iA q18 N17.out.2.1 (fun h=>by rcases h with h | h<;>omega)) (iA q18 N17.out.2.2.1 (fun h=>by rcases h with h | h<;>omega)))
   clear q18 C4 x0 x3 N17 u
   have NM:Hid (∀j,v6.heap.size<=j\/j=gm-> ¬((j=m1\/j=m4)\/(j=m2\/j=m3))):=fun j hj h=>by
    have q1:=LZ.out
    have q2:=MG.out
    rcases hj with hj | hj<;>rcases h with(h | h) | (h | h)<;>omega
   have x1:=aA 1 (Q18.out.heap M15.out (NM.out _ (.inr rfl)))
   have x2:=aA 2 (Q18.out.heap M15.out (NM.out _ (.inr rfl)))
   go_wp2_with fail
   refine C5.out.mono ?_
   rintro e9 v19 ⟨rfl,q19⟩
   have Q19:Hid (Rv.AbQ v15 (fun j=>(j=m1\/j=m4)\/(j=m2\/j=m3)) v19):=gV Q18.out q19 (fun j h=>.inl (.inr h))
   clear q19 C5 x1 x2 Q18
   have v14L:Hid (v6.heap.size<=v14.heap.size):=V14.out
   have Sh19:=hid (Sh15.out.q Q19.out (by have:=Lh.out;have:=v14L.out;exact⟨NM.out _ (.inl (by omega)),NM.out _ (.inl (by omega)),NM.out _ (.inl (by omega)),NM.out _ (.inl (by omega))⟩))
   have Sb19:=hid (Sb15.out.q Q19.out (by have:=Lb.out;have:=SZ.out;exact⟨NM.out _ (.inl (by omega)),NM.out _ (.inl (by omega)),NM.out _ (.inl (by omega)),NM.out _ (.inl (by omega))⟩))
   have hh:=Q19.out.heap Bh15.out (NM.out _ (.inl (by have:=Kh.out;have:=v14L.out;omega)))
   have hb:=Q19.out.heap Bb15.out (NM.out _ (.inl (by have:=Kb.out;have:=Lb.out;have:=SZ.out;omega)))
   have HH:=hid hh
   have HB:=hid hb
   clear hh hb
   obtain⟨x0,x1,x2,x3,x4,x5⟩:=aE HH.out
   have y0:=aE HB.out
   have A19:Hid (Ab w v19):=Q19.out.ab (A2.out.trans X15.out) (fun j hj h=>by
    have q1:=LM.out.1
    have q2:=SZ.out
    rcases h with(h | h) | (h | h)<;>omega)
   go_wp2_with fail
   refine(SM.out v19 _ _ _ _ _ _ _ _ _ _ _ _ _ _ _ _ Sh19.out Sb19.out).mono ?_
   rintro e9 v20 ⟨rfl,b20⟩
   have A20:Hid (Ab w v20):=A19.out.trans b20
   clear b20 x0 x1 x2 x3 x4 x5 y0
   go_wp2
   go_ret
   exact⟨rfl,A20.out⟩
theorem mk_flG{w:World}{b N:Nat}{B:Nat->Nat}{m:Value}(h:w.rowIs b 22 (N+2) (mkG N (fun k=>.float .f64 (B k)) m))(hB: ∀k,k<N->B k<18446744073709551616):IsFl w (some ⟨b,0,none⟩) N B:=fun k hk=>⟨hB k hk,b,0,rfl,h.lt,by
 rw[Nat.zero_add,h.cell (show k<N+2 by omega)]
 unfold mkG
 rw[if_pos hk]⟩
theorem mk_inG{w:World}{b N:Nat}{B:Nat->Int}{m:Value}(h:w.rowIs b 2 (N+2) (mkG N (fun k=>.int .i64 (B k)) m))(hB: ∀k,k<N-> -9223372036854775808<=B k/\B k<=9223372036854775807):Sh.IsI w (some ⟨b,0,none⟩) N B:=fun k hk=>⟨hB k hk,b,0,rfl,h.lt,by
 rw[Nat.zero_add,h.cell (show k<N+2 by omega)]
 unfold mkG
 rw[if_pos hk]⟩
theorem seaL_of{K:Nat}{vv:Value}{N M:Nat}{B:Nat->Nat}{W T:Nat->Int}{S:Nat->Nat}{sk st:Int}{w:World}(h:OwnS K vv N N N M B W T S sk st w)(hN:0<N)(hM:0<M)(bd:Bnd N N N M B W T S):
  ∃b1 c1 b2 c2 b3 c3 b4 c4,vv=.agg #[.slice (some ⟨b1,0,none⟩) N c1,.slice (some ⟨b2,0,none⟩) N c2,.slice (some ⟨b3,0,none⟩) N c3,.slice (some ⟨b4,0,none⟩) M c4,.int .i64 sk,.int .i64 st]/\SeaL N M B W T S b1 c1 b2 c2 b3 c3 b4 c4 w/\(K<=b1/\K<=b2/\K<=b3/\K<=b4):=by
 obtain⟨b1,c1,F1,b2,c2,F2,b3,c3,F3,b4,c4,F4,e,⟨r1,r2,r3,r4⟩,hk,⟨hc,-⟩,hne⟩:=own_sea4 h hN hM
 obtain⟨v1,v2,v3,v4,e2,o1,o2,o3,o4,-,-⟩:=h
 rw[e]at e2
 injection e2 with e2
 injection e2 with e2
 simp only[List.cons.injEq]at e2
 obtain⟨q1,q2,q3,q4,-⟩:=e2
 subst q1 q2 q3 q4
 exact⟨b1,c1,b2,c2,b3,c3,b4,c4,e,⟨⟨⟨F1,r1⟩,⟨F2,r2⟩,⟨F3,r3⟩,F4,r4⟩,hc,⟨sU o1 bd.1,kP o2 bd.2.1,kP o3 bd.2.2.1,sU o4 bd.2.2.2⟩,hne⟩,hk⟩
theorem xK(OC:OneC)(FC:FlowC)(PB:PlanB)(CB:CheckB){sd:Int}{dt gr dr:Nat}{lim:Int}{rv:Bool}{pr:Option Addr}{lr cr:Nat}{R:Nat->Int × Int × Int × Int}{pb:Option Addr}{lb cb:Nat}{B:Nat->Nat}{pw:Option Addr}{lw cw:Nat}{W:Nat->Int}{pt:Option Addr}{lt ct:Nat}{T:Nat->Int}{ps:Option Addr}{ls cs:Nat}{S:Nat->Nat}{sky st:Int}(w:World)(hF:Fr w)(h64:Sh.W64 sd/\Sh.W64 lim/\Sh.W64 sky/\Sh.W64 st)(hf:dt<18446744073709551616/\gr<18446744073709551616/\dr<18446744073709551616)(hlr:lr<=281474976710656)(hl:(lb<=281474976710656/\lw<=281474976710656/\lt<=281474976710656/\ls<=281474976710656))(ir:Rn.IsRn w pr lr R)(i1:IsFl w pb lb B)(i2:Sh.IsI w pw lw W)(i3:Sh.IsI w pt lt T)(i4:IsFl w ps ls S):
  Calls prog 8 #[.agg #[.int .i64 sd,.float .f64 dt,.float .f64 gr,.float .f64 dr,.int .i64 lim,.bool rv,.slice pr lr cr],.agg #[.slice pb lb cb,.slice pw lw cw,.slice pt lt ct,.slice ps ls cs,.int .i64 sky,.int .i64 st]] w fun e w'=>e=.returned (.bool true)/\Below w.heap.size w w':=by
 have LV:=fun v (a:Ab w v)=>Cj (oneF_of OC) FC v (hF.to a)
 have GD:=fun v (a:Ab w v)=>Gl PB CB sd dt gr dr lim rv pr lr cr R pb lb cb B pw lw cw W pt lt ct T ps ls cs S sky st v (hF.to a) h64 hf hlr hl (ir.below a) (i1.below a) (i2.below a) (i3.below a) (i4.below a)
 by_cases q:er2 sd dt gr dr lim lr R lb lw lt ls B W T S sky st=0
 ·have hlp:=hl
  obtain⟨sd32,pl0,ck0⟩:=er2_side q
  obtain⟨n,rfl⟩: ∃n:Nat,sd=(n:Nat):=⟨sd.toNat,by omega⟩
  have hn:1<=n/\n<=32:=by omega
  have er0:=Ex (n:=n) (sd:=(n:Nat)) rfl pl0 ck0
  obtain⟨-,-,-,⟨l1,l2,l3,l4⟩,oP,oS⟩:=er_ok er0 hf (fun i hi=>(i1 i hi).1) (fun i hi=>(i4 i hi).1)
  have p1:n*n<=32*32:=Nat.mul_le_mul hn.2 hn.2
  have p0:0<n*n:=Nat.mul_pos (by omega) (by omega)
  have q6:6*n*n=6*(n*n):=Nat.mul_assoc _ _ _
  have q12:12*n*n=12*(n*n):=Nat.mul_assoc _ _ _
  have GY:=fun v (a:Ab w v)=>(GD v a).1 q
  simp only[Int.toNat_natCast]at GY
  have ON:=fun v gb (a:Ab w v) (g:GridOf n gb v)=>(OC n gb n dt gr dr lim rv pr lr cr R pb lb cb B pw lw cw W pt lt ct T ps ls cs S sky st v hn g (hF.to a) h64 hf hlr hl (ir.below a) (i1.below a) (i2.below a) (i3.below a) (i4.below a)).1 er0
  have o1:=Cc (lim:=lim) (rv:=rv) oP oS
  have bt:=xB o1
  subst l1
  subst l2
  subst l3
  subst l4
  have wi: ∀e,e<12*n*n->Sh.W64 (waF n lim gr dt dr B W S e):=fun e he=>by have:=wa_in (lim:=lim) oP oS he;unfold Sh.W64;omega
  have ti: ∀e,e<12*n*n->Sh.W64 (trF n lim gr dt dr B W T S e):=fun e he=>by have:=tr_in (lim:=lim) oP oS he;unfold Sh.W64;omega
  by_cases h8:8<(n:Int)
  ·exact Gu n n dt gr dr lim rv pr lr cr pb _ cb pw _ cw pt _ ct ps _ cs sky st w (decide_eq_true h8) LV GY
  ·have ML: ∀v m1 m2 m3 m4,MineR (6*n*n) (12*n*n) B W T S m1 m2 m3 m4 v->IsFl v (some ⟨m1,0,none⟩) (6*n*n) B/\Sh.IsI v (some ⟨m2,0,none⟩) (6*n*n) W/\Sh.IsI v (some ⟨m3,0,none⟩) (6*n*n) T/\IsFl v (some ⟨m4,0,none⟩) (12*n*n) S:=fun v m1 m2 m3 m4 h=>⟨mk_flG h.1 (fun k hk=>(i1 k hk).1),mk_inG h.2.1 (fun k hk=>(i2 k hk).1),mk_inG h.2.2.1 (fun k hk=>(i3 k hk).1),mk_flG h.2.2.2 (fun k hk=>(i4 k hk).1)⟩
   have SS:=fun v p1 c1 p2 c2 p3 c3 p4 c4 q1 d1 q2 d2 q3 d3 q4 d4 (f1:Nat->Nat) (f2 f3:Nat->Int) (f4:Nat->Nat) (sk s1:Int) a1 a2 a3 a4 b1 b2 b3 b4=>zN p1 (6*n*n) c1 f1 p2 (6*n*n) c2 f2 p3 (6*n*n) c3 f3 p4 (12*n*n) c4 f4 sk s1 q1 (6*n*n) d1 f1 q2 (6*n*n) d2 f2 q3 (6*n*n) d3 f3 q4 (12*n*n) d4 f4 sk s1 v (by omega) (by omega) a1 a2 a3 a4 b1 b2 b3 b4 (sM _ _ _ _ _ _ _ _ _ _)
   refine mem21_go n (6*n*n) (12*n*n) n dt gr dr lim rv pr lr cr R pb cb pw cw pt ct ps cs sky st B S (spE n gr dt dr B W S) W T (riX n lim gr dt dr rv lr R B W T S sky st).1 (riX n lim gr dt dr rv lr R B W T S sky st).2 (raX n lim gr dt dr lr R B W S sky st).2 (stN st) w (decide_eq_false h8) ⟨by omega,by omega,oP.2.2.1⟩ LV GY ?_ ?_ ?_ ?_ ?_ ML ir (fun k hk=>(ir k hk).1) i1 i2 i3 i4
   ·intro v a
    refine(Ck pb pw pt ps _ cb _ cw _ ct _ cs B W T S sky st v (i1.below a) (i2.below a) (i3.below a) (i4.below a) ⟨by omega,by omega,by omega,by omega⟩).mono ?_
    rintro e w' ⟨bb,bw,bt',bs,rfl,k1,r1,r2,r3,r4,k2,k3,k4,k5,k6⟩
    exact⟨bb,bw,bt',bs,rfl,k1,⟨r1,r2,r3,r4⟩,⟨k2,k3,k4,k5⟩,k6⟩
   ·intro v gb p' c' p1 c1 p2 c2 p3 c3 p4 c4 a g jr j1 j2 j3 j4
    refine((OC n gb n dt gr dr lim rv p' lr c' R p1 _ c1 B p2 _ c2 W p3 _ c3 T p4 _ c4 S sky st v hn g (hF.to a) h64 hf hlr hl jr j1 j2 j3 j4).1 er0).mono ?_
    rintro e w' ⟨vv,rfl,k1,k2⟩
    exact⟨vv,rfl,k1,seaL_of k2 (by omega) (by omega) bt⟩
   ·intro v gb p' c' p1 c1 p2 c2 p3 c3 p4 c4 a g jr j1 j2 j3 j4
    refine((FC n gb n dt gr dr lim rv p' lr c' R p1 _ c1 B p2 _ c2 W p3 _ c3 T p4 _ c4 S sky st v hn g (hF.to a) h64 hf hlr hl jr j1 j2 j3 j4).1 er0).mono ?_
    rintro e w' ⟨v1,v2,rfl,k1,k2,k3,dj⟩
    obtain⟨g1,c1',F1,rfl,y1,y2,-,y3,-⟩:=Rn.oX k2 (by omega)
    obtain⟨g2,c2',F2,rfl,z1,z2,-,z3,-⟩:=Rn.oX k3 (by omega)
    exact⟨g1,c1',g2,c2',rfl,k1,⟨⟨F1,y3⟩,F2,z3⟩,⟨y2,z2⟩,⟨y1,z1⟩,fun h=>dj g1 rfl (by rw[h];rfl)⟩
   ·intro v a1 a2 a3 a4 a5 a6 a7 a8 b1 b2 b3 b4 b5 b6 b7 b8 h1 h2
    have z:=SS v (some ⟨a1,0,none⟩) a2 (some ⟨a3,0,none⟩) a4 (some ⟨a5,0,none⟩) a6 (some ⟨a7,0,none⟩) a8 (some ⟨b1,0,none⟩) b2 (some ⟨b3,0,none⟩) b4 (some ⟨b5,0,none⟩) b6 (some ⟨b7,0,none⟩) b8 _ _ _ _ (raX n lim gr dt dr lr R B W S sky st).2 (stN st) h1.2.2.1.1 h1.2.2.1.2.1 h1.2.2.1.2.2.1 h1.2.2.1.2.2.2 h2.2.2.1.1 h2.2.2.1.2.1 h2.2.2.1.2.2.1 h2.2.2.1.2.2.2
    rw[sM]at z
    exact z
   ·intro v m1 m2 m3 m4 a h
    refine Gm m1 m2 m3 m4 pb pw pt ps _ cb _ cw _ ct _ cs sky st v ⟨by omega,by omega,by omega,by omega⟩ h.1 h.2.1 h.2.2.1 h.2.2.2 (fun u b=> ?_)
    have ml:=ML u m1 m2 m3 m4 (h.to b)
    have z:=SS u (some ⟨m1,0,none⟩) (6*n*n+2) (some ⟨m2,0,none⟩) (6*n*n+2) (some ⟨m3,0,none⟩) (6*n*n+2) (some ⟨m4,0,none⟩) (12*n*n+2) pb cb pw cw pt ct ps cs B W T S sky st ml.1 ml.2.1 ml.2.2.1 ml.2.2.2 (i1.below (a.trans b)) (i2.below (a.trans b)) (i3.below (a.trans b)) (i4.below (a.trans b))
    rw[sM]at z
    exact z
 ·exact mem21_no sd dt gr dr lim rv pr lr cr pb lb cb pw lw cw pt lt ct ps ls cs sky st w LV (fun v a=>(GD v a).2 q)
end St
end
end Go.Proofs.YtaphajlpbgcfjaaGreatDoor
