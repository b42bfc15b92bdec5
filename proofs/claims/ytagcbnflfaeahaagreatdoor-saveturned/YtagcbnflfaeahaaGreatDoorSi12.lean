/-
  Some of the texts of this proof, one behind the other.
-/
import Derived.ProofKit
import Derived.OpenShut
import Derived.WalkLawsBesides
import Derived.Stop.Joined
import Derived.Carry
import Derived.Lib.SmallJoins
import Derived.Deep.SlicePairs
import Derived.Deep.Slices
import Derived.SizedLaws
import Derived.Test.YtagcbnflfaeahaaGreatDoorTie
import Derived.Test.YtagcbnflfaeahaaGreatDoorCards
import Derived.LaidMore
import Derived.Test.YtagcbnflfaeahaaGreatDoorRows
import Derived.Test.YtagcbnflfaeahaaGreatDoorSi11
set_option maxRecDepth 100000
set_option maxHeartbeats 400000000
namespace Go.Proofs.YtagcbnflfaeahaaGreatDoor
open _root_.Go.Proofs.Tryz
section
open Go.RowKit Tf Cu Go.Deep
attribute [local go_sem] aF aG aJ aK aL aM aN aD
namespace Sv
section
variable {n N:Nat} {B:Nat->Nat} {W T:Nat->Int} {S:Nat->Nat} {sky st:Int}
theorem pX{b:Nat->Nat}(hb: ∀i,i<5->b i=enc n N B W T S sky st i):(b 0=84/\b 1=65/\b 2=82/\b 3=78)/\b 4=n:=by
 obtain⟨e0,e1,e2,e3,e4⟩:=enc_hd (side:=n) (N:=N) (B:=B) (W:=W) (T:=T) (S:=S) (sky:=sky) (st:=st)
 exact⟨⟨(hb 0 (by omega)).trans e0,(hb 1 (by omega)).trans e1,(hb 2 (by omega)).trans e2,(hb 3 (by omega)).trans e3⟩,(hb 4 (by omega)).trans e4⟩
theorem sP{b:Nat->Nat}{j:Nat}(hn:1<=n/\n<=32)(hN:6*n*n=N)(hb: ∀i,i<5->b i=enc n N B W T S sky st i):(j<29+40*N->derr j b=31)/\(29+40*N<j->derr j b=30):=by
 obtain⟨e,e4⟩:=pX hb
 constructor
 ·intro h
  unfold derr
  by_cases q:j<21
  ·rw[if_pos q]
  ·rw[if_neg q,if_neg (fun k=>k ⟨e,by omega,by omega⟩),e4,hN,if_pos h]
 ·intro h
  unfold derr
  rw[if_neg (by omega),if_neg (fun k=>k ⟨e,by omega,by omega⟩),e4,hN,if_neg (by omega),if_pos h]
theorem turn_err{k y:Nat}(hn:1<=n/\n<=32)(hN:6*n*n=N)(h:In64 N B W T S sky st)(hk:k<29+40*N)(hy:y<256)(h0:y≠0):
  (k<4->derr (29+40*N) (turn (enc n N B W T S sky st) k y)=30)/\(4<k->derr (29+40*N) (turn (enc n N B W T S sky st) k y)=32)/\derr (29+40*N) (turn (enc n N B W T S sky st) k y)≠0:=by
 obtain⟨E,hE⟩:=aB (enc n N B W T S sky st)
 have el: ∀i,E i<256:=fun i=>by rw[<- hE];exact jY (by omega)
 have d:=mU h (b:=E) (fun i _=>by rw[hE])
 obtain⟨m,e4⟩:=pX (n:=n) (N:=N) (B:=B) (W:=W) (T:=T) (S:=S) (sky:=sky) (st:=st) (b:=E) (fun i _=>by rw[hE])
 rw[hE]
 have tn: ∀i,i≠k->turn E k y i=E i:=fun i hi=>if_neg hi
 have tk:turn E k y k≠E k:=by
  show(if k=k then E k ^^^ y else E k)≠E k
  rw[if_pos rfl]
  exact xor8_ne h0
 have tl: ∀i,turn E k y i<256:=fun i=>by
  unfold turn
  split
  ·exact nI (el _) hy
  ·exact el _
 have a1:k<4->derr (29+40*N) (turn E k y)=30:=fun q=>by
  unfold derr
  rw[if_neg (by omega),if_pos]
  rintro⟨⟨m0,m1,m2,m3⟩,_⟩
  have c:k=0\/k=1\/k=2\/k=3:=by omega
  rcases c with rfl | rfl | rfl | rfl
  ·exact tk (by rw[m0,m.1])
  ·exact tk (by rw[m1,m.2.1])
  ·exact tk (by rw[m2,m.2.2.1])
  ·exact tk (by rw[m3,m.2.2.2])
 have a2:4<k->derr (29+40*N) (turn E k y)=32:=fun q=>by
  have t4:turn E k y 4=n:=(tn 4 (by omega)).trans e4
  unfold derr
  rw[if_neg (by omega),if_neg (fun z=>z ⟨⟨(tn 0 (by omega)).trans m.1,(tn 1 (by omega)).trans m.2.1,(tn 2 (by omega)).trans m.2.2.1,(tn 3 (by omega)).trans m.2.2.2⟩,by omega,by omega⟩),t4,hN,if_neg (by omega),if_neg (by omega),if_pos]
  by_cases l:k<21+40*N
  ·rw[gQ (c:=E) fun i hi=>tn _ (by omega),d.2.2.2.2.2.2]
   exact Ne.symm (smN_ne (k:=k) _ tl el l tk fun i _ hi=>tn i hi)
  ·rw[cL (c:=E) _ fun i hi=>tn i (by omega),<- d.2.2.2.2.2.2]
   intro q2
   have b1:=sF (b:=turn E k y) (o:=21+40*N) (i:=k - (21+40*N)) tl (by omega)
   have b2:=sF (b:=E) (o:=21+40*N) (i:=k - (21+40*N)) el (by omega)
   rw[q2,b2,show 21+40*N+(k - (21+40*N))=k by omega]at b1
   exact tk b1.symm
 refine⟨a1,a2,?_⟩
 by_cases q:k<4
 ·rw[a1 q];decide
 ·by_cases q2:4<k
  ·rw[a2 q2];decide
  ·have e:k=4:=by omega
   subst e
   rw[e4]at tk
   intro z
   obtain⟨_,z2,z3,_⟩:=derr_0 z
   obtain⟨t,ht⟩:=aB (turn E 4 y 4)
   rw[ht]at z2 z3 tk
   have z4:6*t*t=6*n*n:=by omega
   rw[Nat.mul_assoc,Nat.mul_assoc]at z4
   exact tk (Ti.sq_inj (by omega))
end
theorem lP(side:Int)(pb:Option Addr)(lb cb:Nat)(B:Nat->Nat)(pw:Option Addr)(lw cw:Nat)(W:Nat->Int)(pt:Option Addr)(lt ct:Nat)(T:Nat->Int)(ps:Option Addr)(ls cs:Nat)(S:Nat->Nat)(sky st:Int)(at':Int)(y:Nat)(cut:Int)(p':Option Addr)(lm cm:Nat)(w:World)(hF:Fr w)(i1:IsFl w pb lb B)(i2:Sh.IsI w pw lw W)(i3:Sh.IsI w pt lt T)(i4:IsFl w ps ls S)(hc:(Ss.chk side lb lw lt ls B W T S sky st).2≠0\/1048576<lm):
  Calls prog 5 #[.int .i64 side,.agg #[.slice pb lb cb,.slice pw lw cw,.slice pt lt ct,.slice ps ls cs,.int .i64 sky,.int .i64 st],.int .i64 at',.int .u8 ((y:Nat):Int),.int .i64 cut,.slice p' lm cm] w fun e w'=>e=.returned (.bool true)/\Ab w w':=by
 have CE:=hid (fun v (a:Ab w v)=>enc_any side pb lb cb B pw lw cw W pt lt ct T ps ls cs S sky st v (i1.below a) (i2.below a) (i3.below a) (i4.below a))
 obtain⟨x2,hx2⟩:=aB ((Ss.chk side lb lw lt ls B W T S sky st).2)
 rw[hx2]at CE hc
 have HC:=hid hc
 clear hx2 i1 i2 i3 i4 hc
 obtain⟨A0,R0⟩:=aI w (.cells #[.slice pb lb cb,.slice pw lw cw,.slice pt lt ct,.slice ps ls cs,.int .i64 sky,.int .i64 st] 25)
 have CL:=hid (kH (w.alloc (.cells #[.slice pb lb cb,.slice pw lw cw,.slice pt lt ct,.slice ps ls cs,.int .i64 sky,.int .i64 st] 25)) (hF.to A0.out))
 clear hF
 go_enter func5,ntmps5
 go_upto_region 1 with fail
 generalize hV:World.alloc w _=v0 at*
 obtain⟨s,hs2⟩:=aB w.heap.size
 rw[hs2]at R0 ⊢
 clear hV hs2
 go_wp2_with fail
 refine CL.out.mono ?_
 rintro e9 v1 ⟨rfl,b1⟩
 have A1:Hid (Ab w v1):=A0.out.trans b1
 have R1:=hid (Ab.heap b1 R0.out)
 clear b1 A0 R0 CL
 have y0:=aE R1.out
 go_wp2_with fail
 refine(CE.out v1 A1.out).mono ?_
 rintro e9 v2 ⟨u1,rfl,b2⟩
 have A2:Hid (Ab w v2):=A1.out.trans b2
 clear b2 A1 R1 CE y0
 by_cases q:x2=0
 ·have n2:(1048576:Int)<(lm:Int):=by rcases HC.out with h | h;exact absurd q h;omega
  subst q
  go_wp2
  go_ret
  exact⟨rfl,A2.out⟩
 ·have n1:(x2 != 0)=true:=by simpa using q
  go_wp2
  go_ret
  exact⟨rfl,A2.out⟩
theorem rE(n N M L:Nat)(pb:Option Addr)(cb:Nat)(B:Nat->Nat)(pw:Option Addr)(cw:Nat)(W:Nat->Int)(pt:Option Addr)(ct:Nat)(T:Nat->Int)(ps:Option Addr)(cs:Nat)(S:Nat->Nat)(sky st:Int)(at':Int)(y:Nat)(cut:Int)(p':Option Addr)(lm cm:Nat)(G:Nat->Nat)(w:World)(hF:Fr w)(hs: -9223372036854775808<=sky/\sky<=9223372036854775807)(ht: -9223372036854775808<=st/\st<=9223372036854775807)(i1:IsFl w pb N B)(i2:Sh.IsI w pw N W)(i3:Sh.IsI w pt N T)(i4:IsFl w ps M S)(hn:1<=n/\n<=32)(hN:6*n*n=N)(hM:2*N=M)(hL:29+40*N=L)(hc:(Ss.chk (n:Nat) N N N M B W T S sky st).2=0)(hy:y<256)(hm:lm<=1048576)(hg: ∀i,G i<256)(hI:Ti.IsW .u8 256 w p' lm G):
  Calls prog 5 #[.int .i64 (n:Nat),.agg #[.slice pb N cb,.slice pw N cw,.slice pt N ct,.slice ps M cs,.int .i64 sky,.int .i64 st],.int .i64 at',.int .u8 ((y:Nat):Int),.int .i64 cut,.slice p' lm cm] w fun e w'=>e=.returned (.bool true)/\Ab w w':=by
 have CE:=hid (fun v (a:Ab w v)=>nF (n:Nat) pb N cb B pw N cw W pt N ct T ps M cs S sky st v (i1.below a) (i2.below a) (i3.below a) (i4.below a) n N M L rfl hc hn hN hM hL ⟨rfl,rfl,rfl,rfl⟩)
 have NL:N<=6144:=by
  have q5:N<=192*32:=by rw[<- hN];exact Nat.mul_le_mul (by omega) (by omega)
  omega
 have IN:=in_64 hs ht i1 i2 i3 (by rw[hM];exact i4)
 have TE0:=hid (fun k (hk:k<L) (h0:y≠0)=>turn_err (k:=k) hn hN IN (by omega) hy h0)
 have LE:=hid (fun j=>sP (j:=j) hn hN (b:=enc n N B W T S sky st) (fun _ _=>rfl))
 have ME0:=hid (fun(b:Nat->Nat) (j:Nat) (hb: ∀i,i<5->b i=enc n N B W T S sky st i) (hj:L<j)=>(sP (j:=j) hn hN hb).2 (by omega))
 have EL:=hid (fun i=>jY (side:=n) (N:=N) (B:=B) (W:=W) (T:=T) (S:=S) (sky:=sky) (st:=st) (i:=i) (by omega))
 have HM:=hid hI
 have GL:=hid hg
 have LM:=hid hm
 have HYY:=hid hy
 rw[hL]at TE0 LE
 have HL:=hid (show L<=245789/\29<=L by omega)
 obtain⟨E,hE⟩:=aB (enc n N B W T S sky st)
 rw[hE]at CE TE0 LE ME0 EL
 have ME:=ME0
 have y0:(0:Int)<=(y:Int):=by omega
 have y1:(y:Int)<256:=by omega
 have mq: ¬((1048576:Int)<(lm:Int)):=by omega
 clear i1 i2 i3 i4 hs ht hn hN hM hL hc hy hm hg hI NL IN ME0 hE
 obtain⟨A0,R0⟩:=aI w (.cells #[.slice pb N cb,.slice pw N cw,.slice pt N ct,.slice ps M cs,.int .i64 sky,.int .i64 st] 25)
 have CL:=hid (kH (w.alloc (.cells #[.slice pb N cb,.slice pw N cw,.slice pt N ct,.slice ps M cs,.int .i64 sky,.int .i64 st] 25)) (hF.to A0.out))
 clear hF
 go_enter func5,ntmps5
 go_upto_region 1 with fail
 generalize hV:World.alloc w _=v0 at*
 obtain⟨s,hs2⟩:=aB w.heap.size
 rw[hs2]at R0 ⊢
 clear hV hs2
 go_wp2_with fail
 refine CL.out.mono ?_
 rintro e9 v1 ⟨rfl,b1⟩
 have A1:Hid (Ab w v1):=A0.out.trans b1
 have R1:=hid (Ab.heap b1 R0.out)
 clear b1 A0 R0 CL
 obtain⟨q0,q1,q2,q3,q4,q5⟩:=aE R1.out
 go_wp2_with fail
 refine(CE.out v1 A1.out).mono ?_
 rintro e9 v2 ⟨g,cp,rfl,b2,o2⟩
 have A2:Hid (Ab w v2):=A1.out.trans b2
 have OE:=iV o2 (fun i _=>EL.out i)
 have W2:=hid OE.1
 have LB:Hid (L<=245789/\L<=cp/\cp<=9223372036854775807/\29<=L):=⟨HL.out.1,OE.2.1,OE.2.2,HL.out.2⟩
 have LB:Hid (L<=245789/\L<=cp/\cp<=9223372036854775807):=⟨LB.out.1,LB.out.2.1,LB.out.2.2.1⟩
 have l0:(L:Int)<=245789:=by have:=HL.out;omega
 clear b2 o2 OE A1 R1 CE q0 q1 q2 q3 q4 q5
 obtain⟨cA,hA⟩: ∃c:Bool,decide ((0<=at'/\at'<(L:Int))/\y≠0)=c:=⟨_,rfl⟩
 have HA:=hid hA
 obtain⟨cB,hB⟩: ∃c:Bool,decide (0<=cut/\cut<(L:Int))=c:=⟨_,rfl⟩
 have HB:=hid hB
 clear hA hB
 go_upto_region 6 with fail
 go_cut [52]from 41 to 52 (fun s52 wx=>s52=.bool cA/\wx=v2)
 case first=>
  by_cases k1:0<=at'
  ·by_cases k2:at'<(L:Int)
   ·by_cases k3:y=0
    ·subst k3
     go_wp2
     go_meet
     case rel=>exact⟨by rw[<- HA.out,decide_eq_false (fun q=>q.2 rfl)],rfl⟩
    ·have n3:((y:Int) != 0)=true:=by simp;omega
     go_wp2
     go_meet
     case rel=>exact⟨by rw[<- HA.out,decide_eq_true ⟨⟨k1,k2⟩,k3⟩],rfl⟩
   ·go_wp2
    go_meet
    case rel=>exact⟨by rw[<- HA.out,decide_eq_false (fun q=>by omega)],rfl⟩
  ·go_wp2
   go_meet
   case rel=>exact⟨by rw[<- HA.out,decide_eq_false (fun q=>by omega)],rfl⟩
 case rest=>
 obtain⟨rfl,hwc⟩:=hcut
 have hwc2:=hwc.symm
 subst hwc2
 go_upto_if 52 with fail
 go_cut [15,16,17,18]from 53 to 98 (fun _ _ _ _ wx=>Ab v2 wx)
 case first=>
  cases cA with
  | true=>
   have k1:=of_decide_eq_true HA.out
   obtain⟨⟨k2,k3⟩,k4⟩:=k1
   obtain⟨k,ek⟩: ∃k:Nat,at'=k:=⟨at'.toNat,by omega⟩
   subst ek
   have HK:=hid (show k<L/\y<256/\y≠0 from⟨by omega,HYY.out,k4⟩)
   have TE:=hid (TE0.out k HK.out.1 k4)
   have W3:=hid W2.out
   have O3:Hid (T8.Own v2.heap.size (.slice (some ⟨v2.heap.size,0,none⟩) 0 0) [] (v2.alloc (.cells #[] 5))):=pW v2 _ (Nat.le_refl _)
   have A3:=aZ (bl1 v2 (.cells #[] 5))
   have I3:=hid (W2.out.below A3.out)
   go_upto_region 8 with(at_builtin;refine fD rfl (.tmp 53) (.tmp 54) rfl v2.heap.size _ 0 0 [] rfl O3.out (some ⟨g,0,none⟩) L cp E rfl I3.out (by have:=LB.out;omega) (Below.size A3.out) L (by omega) ?_;intro g5 c5 v5 o5 q5)
   have A5:Hid (Ab v2 v5):=bD A3.out q5 (fun b hb=>by cases hb;exact O3.out.row.1)
   have O5:Hid (T8.Own v2.heap.size (.slice (some ⟨g5,0,none⟩) L c5) ((List.range L).map E) v5):=o5
   have W5:=iV O5.out (fun i _=>EL.out i)
   have z1:=(W5.1.at0 (k:=k) HK.out.1).2.2
   rw[Nat.zero_add]at z1
   have b1:=EL.out k
   obtain⟨t,ht⟩:=aB (E k)
   rw[ht]at z1 b1
   have xq:=xor8 b1 HK.out.2.1
   have t0:(0:Int)<=(t:Int):=by omega
   have t1:(t:Int)<256:=by omega
   obtain⟨u,hu⟩:=aB (t ^^^ y)
   rw[hu]at xq
   have O7:Hid (T8.Own v2.heap.size (.slice (some ⟨g5,0,none⟩) L c5) ((List.range L).map (turn E k y)) (v5.setCell ⟨g5,k,none⟩ (.int .u8 ((u:Nat):Int)))):=by
    have q:=own_turn (k:=k) (x:=y) O5.out
    rw[ht,hu]at q
    exact q
   have f1:v5.frozen? ⟨g5,k,none⟩=false:=by
    obtain⟨_,_,cur,hg,_⟩:=O5.out.row
    exact aC hg k
   have TL: ∀i,turn E k y i<256:=fun i=>by
    unfold turn
    split
    ·exact nI (EL.out k) HK.out.2.1
    ·exact EL.out i
   have A7:Hid (Ab v2 (v5.setCell ⟨g5,k,none⟩ (.int .u8 ((u:Nat):Int)))):=A5.out.setk O5.out.row.1 _
   have W7:=iV O7.out (fun i _=>TL i)
   have CD:=hid (rB (some ⟨g5,0,none⟩) L c5 (turn E k y) _ ⟨W7.2.1,W7.2.2⟩ W7.1 TE.out.2.2)
   obtain⟨X,hX⟩:=aB (derr L (turn E k y))
   rw[hX]at CD TE
   have n0:(X==0)=false:=by have:=TE.out.2.2;simpa using this
   clear ht hu b1 W5 W7 TL O5 O7 hX o5 q5 O3 A3 I3 A5 W3
   go_upto_region 9 with fail
   generalize hV7:World.setCell v5 _ _=v7 at*
   clear hV7 z1 f1 xq t0 t1
   go_wp2_with fail
   refine CD.out.mono ?_
   rintro e9 v8 ⟨rfl,b8⟩
   have A8:Hid (Ab v2 v8):=A7.out.trans b8
   clear b8 CD A7
   obtain⟨X8,R8⟩:=aI v8 (.cells #[.slice none 0 0,.slice none 0 0,.slice none 0 0,.slice none 0 0,.int .i64 0,.int .i64 0] 25)
   go_upto_region 10 with fail
   generalize hV:World.alloc v8 _=z8 at*
   obtain⟨d8,hd8⟩:=aB v8.heap.size
   rw[hd8]at R8 ⊢
   clear hV hd8
   obtain⟨y0,y1,y2,y3,y4,y5⟩:=aE R8.out
   have A9:Hid (Ab v2 z8):=A8.out.trans X8.out
   by_cases r1:k<4
   ·have rX:=TE.out.1 r1
    subst rX
    have r2:(k:Int)<4:=by omega
    have r3: ¬((4:Int)<(k:Int)):=by omega
    go_wp2_with (go_at_call 13;refine(dF _).mono ?_;rintro e9 vs ⟨rfl,bs⟩)
    go_meet
    case rel=>exact A9.out.trans bs
   ·by_cases r4:4<k
    ·have rX:=TE.out.2.1 r4
     subst rX
     have r2: ¬((k:Int)<4):=by omega
     have r3:(4:Int)<(k:Int):=by omega
     go_wp2_with (go_at_call 13;refine(dF _).mono ?_;rintro e9 vs ⟨rfl,bs⟩)
     go_meet
     case rel=>exact A9.out.trans bs
    ·have r2: ¬((k:Int)<4):=by omega
     have r3: ¬((4:Int)<(k:Int)):=by omega
     go_wp2_with (go_at_call 13;refine(dF _).mono ?_;rintro e9 vs ⟨rfl,bs⟩)
     go_meet
     case rel=>exact A9.out.trans bs
  | false=>
   go_wp2
   go_meet
   case rel=>exact Ab.refl _
 case rest=>
 have AC:=hid hcut
 clear hcut HA
 go_upto_region 12 with fail
 go_cut [106]from 99 to 106 (fun s106 wx=>s106=.bool cB/\wx=wc)
 case first=>
  by_cases k1:0<=cut
  ·by_cases k2:cut<(L:Int)
   ·go_wp2
    go_meet
    case rel=>exact⟨by rw[<- HB.out,decide_eq_true ⟨k1,k2⟩],rfl⟩
   ·go_wp2
    go_meet
    case rel=>exact⟨by rw[<- HB.out,decide_eq_false (fun q=>by omega)],rfl⟩
  ·go_wp2
   go_meet
   case rel=>exact⟨by rw[<- HB.out,decide_eq_false (fun q=>by omega)],rfl⟩
 case rest=>
 obtain⟨rfl,hwc⟩:=hcut
 have hwc2:=hwc.symm
 subst hwc2
 go_upto_if 106 with fail
 go_cut [19,20,21]from 107 to 126 (fun _ _ _ wx=>Ab v2 wx)
 case first=>
  cases cB with
  | true=>
   have k1:=of_decide_eq_true HB.out
   obtain⟨k2,k3⟩:=k1
   obtain⟨j,ek⟩: ∃j:Nat,cut=j:=⟨cut.toNat,by omega⟩
   subst ek
   have HJ:=hid (show j<L by omega)
   have m5:(0:Int)<=(j:Int):=by omega
   have m6:(j:Int)<(L:Int):=by omega
   have m7:j<=cp:=by have:=LB.out;have:=HJ.out;omega
   have CD:=hid (rB (some ⟨g,0,none⟩) j cp E wc ⟨by have:=LB.out;have:=HJ.out;omega,LB.out.2.2⟩ (fun i hi=>(W2.out.below AC.out) i (by have:=HJ.out;omega)) (by rw[(LE.out j).1 HJ.out];decide))
   rw[(LE.out j).1 HJ.out]at CD
   go_wp2_with fail
   refine CD.out.mono ?_
   rintro e9 v8 ⟨rfl,b8⟩
   have A8:Hid (Ab v2 v8):=AC.out.trans b8
   clear b8 CD AC
   obtain⟨X8,R8⟩:=aI v8 (.cells #[.slice none 0 0,.slice none 0 0,.slice none 0 0,.slice none 0 0,.int .i64 0,.int .i64 0] 25)
   go_upto_region 14 with fail
   generalize hV:World.alloc v8 _=z8 at*
   obtain⟨d8,hd8⟩:=aB v8.heap.size
   rw[hd8]at R8 ⊢
   clear hV hd8
   obtain⟨y0,y1,y2,y3,y4,y5⟩:=aE R8.out
   have A9:Hid (Ab v2 z8):=A8.out.trans X8.out
   go_wp2_with (go_at_call 13;refine(dF _).mono ?_;rintro e9 vs ⟨rfl,bs⟩)
   go_meet
   case rel=>exact A9.out.trans bs
  | false=>
   go_wp2
   go_meet
   case rel=>exact AC.out
 case rest=>
 clear AC
 have AC:=hid hcut
 clear hcut HB
 by_cases h0:lm=0
 ·subst h0
  go_wp2
  go_ret
  exact⟨rfl,A2.out.trans AC.out⟩
 ·have LM:=hid (show lm<=1048576/\lm≠0 from⟨LM.out,h0⟩)
  have n4:((lm:Int)==0)=false:=by simp;omega
  have O3:Hid (T8.Own wc.heap.size (.slice (some ⟨wc.heap.size,0,none⟩) 0 0) [] (wc.alloc (.cells #[] 5))):=pW wc _ (Nat.le_refl _)
  have A3:=aZ (bl1 wc (.cells #[] 5))
  have I3:=hid (W2.out.below (AC.out.trans A3.out))
  go_upto_region 19 with(at_builtin;refine fD rfl (.tmp 130) (.tmp 131) rfl wc.heap.size _ 0 0 [] rfl O3.out (some ⟨g,0,none⟩) L cp E rfl I3.out (by have:=LB.out;omega) (Below.size A3.out) L (by omega) ?_;intro g5 c5 v5 o5 q5)
  have A5:Hid (Ab wc v5):=bD A3.out q5 (fun b hb=>by cases hb;exact O3.out.row.1)
  have O5:=hid o5
  have J5:=hid (HM.out.below (A2.out.trans (AC.out.trans A5.out)))
  obtain⟨K,hK⟩:=aB (L+lm)
  go_upto_region 20 with(at_builtin;refine fD rfl (.tmp 133) (.tmp 134) rfl wc.heap.size g5 L c5 _ rfl O5.out p' lm cm G rfl J5.out (by have:=LB.out;have:=LM.out;omega) (Below.size A5.out) K hK ?_;intro g6 c6 v6 o6 q6)
  have A6:Hid (Ab wc v6):=bD A5.out q6 (fun b hb=>by cases hb;exact O5.out.row.1)
  have O6:Hid (T8.Own wc.heap.size (.slice (some ⟨g6,0,none⟩) K c6) ((List.range K).map (cat E L G)) v6):=by
   have q:=o6
   rw[List.nil_append,cat_list,hK]at q
   exact q
  have W6:=iV O6.out (fun i hi=>cat_lt (m:=lm) (fun i _=>EL.out i) (fun i _=>GL.out i) (by omega))
  have DE:=ME.out (cat E L G) K (fun i hi=>if_pos (by have:=HL.out;omega)) (by have:=LM.out;omega)
  have CD:=hid (rB (some ⟨g6,0,none⟩) K c6 (cat E L G) v6 ⟨W6.2.1,W6.2.2⟩ W6.1 (by rw[DE];decide))
  rw[DE]at CD
  have A7:Hid (Ab v2 v6):=AC.out.trans A6.out
  clear o5 q5 o6 q6 O3 A3 I3 A5 J5 O5 O6 W6 DE A6 AC
  go_wp2_with fail
  refine CD.out.mono ?_
  rintro e9 v8 ⟨rfl,b8⟩
  have A8:Hid (Ab v2 v8):=A7.out.trans b8
  clear b8 CD A7
  obtain⟨X8,R8⟩:=aI v8 (.cells #[.slice none 0 0,.slice none 0 0,.slice none 0 0,.slice none 0 0,.int .i64 0,.int .i64 0] 25)
  go_upto_region 21 with fail
  generalize hV:World.alloc v8 _=z8 at*
  obtain⟨d8,hd8⟩:=aB v8.heap.size
  rw[hd8]at R8 ⊢
  clear hV hd8
  obtain⟨y0,y1,y2,y3,y4,y5⟩:=aE R8.out
  have A9:Hid (Ab v2 z8):=A8.out.trans X8.out
  go_wp2_with (go_at_call 13;refine(dF _).mono ?_;rintro e9 vs ⟨rfl,bs⟩)
  go_ret
  exact⟨rfl,A2.out.trans (A9.out.trans bs)⟩
theorem uQ(side:Int)(pb:Option Addr)(lb cb:Nat)(B:Nat->Nat)(pw:Option Addr)(lw cw:Nat)(W:Nat->Int)(pt:Option Addr)(lt ct:Nat)(T:Nat->Int)(ps:Option Addr)(ls cs:Nat)(S:Nat->Nat)(sky st:Int)(at':Int)(x:Int)(cut:Int)(p':Option Addr)(lm cm:Nat)(G:Nat->Nat)(w:World)(hF:Fr w)(hs: -9223372036854775808<=sky/\sky<=9223372036854775807)(ht: -9223372036854775808<=st/\st<=9223372036854775807)(i1:IsFl w pb lb B)(i2:Sh.IsI w pw lw W)(i3:Sh.IsI w pt lt T)(i4:IsFl w ps ls S)(hx:0<=x/\x<256)(hI:Ti.IsW .u8 256 w p' lm G):
  Calls prog 5 #[.int .i64 side,.agg #[.slice pb lb cb,.slice pw lw cw,.slice pt lt ct,.slice ps ls cs,.int .i64 sky,.int .i64 st],.int .i64 at',.int .u8 x,.int .i64 cut,.slice p' lm cm] w fun e w'=>e=.returned (.bool true)/\Below w.heap.size w w':=by
 obtain⟨y,rfl⟩: ∃y:Nat,x=y:=⟨x.toNat,by omega⟩
 by_cases hc:(Ss.chk side lb lw lt ls B W T S sky st).2=0
 ·by_cases hm:lm<=1048576
  ·obtain⟨n,N,e0,hn,hN,⟨l1,l2,l3,l4⟩,_⟩:=chk_0 hc
   have l1:=l1.symm
   have l2:=l2.symm
   have l3:=l3.symm
   have l4:=l4.symm
   subst l1 l2 l3 l4 e0
   exact rE n N (2*N) _ pb cb B pw cw W pt ct T ps cs S sky st at' y cut p' lm cm (cutF lm G) w hF hs ht i1 i2 i3 i4 hn hN rfl rfl hc (by omega) hm (cutF_lt hI.lt) (cutF_w hI)
  ·exact lP side pb lb cb B pw lw cw W pt lt ct T ps ls cs S sky st at' y cut p' lm cm w hF i1 i2 i3 i4 (.inr (by omega))
 ·exact lP side pb lb cb B pw lw cw W pt lt ct T ps ls cs S sky st at' y cut p' lm cm w hF i1 i2 i3 i4 (.inl hc)
end Sv
end
section
open Go.ChangeShapes Go.WideShapes Go.ChangeAt Go.WideMaps Go.WideElems Go.RowKit Go.Deep
theorem array6'{c:Array Value}(h:c.size=6): ∃v0 v1 v2 v3 v4 v5,c= #[v0,v1,v2,v3,v4,v5]:=by
 rcases c with⟨l⟩
 match l,h with
 | [v0,v1,v2,v3,v4,v5],_=>exact⟨v0,v1,v2,v3,v4,v5,rfl⟩
end
section
open Go.ChangeShapes Go.WideShapes Go.ChangeAt Go.WideMaps Go.WideElems Go.RowKit Go.Deep
namespace Sh
theorem trod_int{H:Type}{enc:TypeId × Value->H}{P:Program}{w:World}{base:Nat}{spare:Nat->Bool}{held:Bool}{t:TypeId}{fuel:Nat}{v:Value}{x:DataW H × List MemPlace}(ht:P.underlying t=some (.int .i64))(h:DataW.trod enc P w base spare held fuel t [v]=some x):
  ∃b,v=.int .i64 b/\(-9223372036854775808<=b/\b<=9223372036854775807):=by
 obtain⟨k,e,_,wf⟩:=DataW.trod_int ht h
 simp at e
 simp only[Lit.wf,Bool.and_eq_true,decide_eq_true_eq]at wf
 have q1:IntKind.i64.min= -9223372036854775808:=by decide
 have q2:IntKind.i64.max=9223372036854775807:=by decide
 rw[q1,q2]at wf
 exact⟨k,e,wf⟩
theorem kJ{w:World}{a:Addr}{v:Value}(h:w.cell? a=some v):a.block<w.heap.size:=by
 by_cases c:a.block<w.heap.size
 ·exact c
 ·exfalso
  have:w.heap[a.block]? =none:=by simp;omega
  simp[World.cell?,this]at h
theorem iO{α:Type}{n:Nat}{R:Nat->α->Prop}(d:α)(h: ∀i,i<n-> ∃x,R i x): ∃f:Nat->α,∀i,i<n->R i (f i):=by
 have: ∀i,∃x,i<n->R i x:=fun i=>by
  by_cases c:i<n
  ·obtain⟨x,h1⟩:=h i c
   exact⟨x,fun _=>h1⟩
  ·exact⟨d,fun h=>absurd h c⟩
 exact⟨fun i=>(this i).choose,fun i hi=>(this i).choose_spec hi⟩
theorem lQ{H:Type}{enc:TypeId × Value->H}{W:World}{cs:List Value}{fuel:Nat}{x:DataW H × List MemPlace}
  (hf:DataW.trod enc prog W 0 (fun _=>true) true fuel 23 cs=some x): ∃a0 len cap xs,cs=[.slice a0 len cap]/\IsI W a0 len xs/\len<=cap/\cap<=maxLen:=by
 rcases open_slice1 underlying23 (by kernel_rfl) hf with⟨hcs,_⟩ | ⟨a,l,c,m,n,V,D,Pl,hcs,_,hl,hm,hmm,_,hx⟩
 ·exact⟨none,0,0,fun _=>0,hcs,fun k hk=>by omega,Nat.le_refl _,Nat.zero_le _⟩
 ·simp only[if_true]at hmm
  have each: ∀i,i<l-> ∃x:Int,W.cell? (a.add i)=some (.int .i64 x)/\(-9223372036854775808<=x/\x<=9223372036854775807):=by
   intro i hi
   obtain⟨h1,h2⟩:=hx i (by omega)
   obtain⟨x,e,wx⟩:=trod_int underlying2 h2
   rw[e]at h1
   exact⟨x,h1,wx⟩
  obtain⟨f,hf⟩:=iO 0 each
  refine⟨some a,l,c,f,hcs,fun k hk=>⟨(hf k hk).2,?_⟩,hl,hm⟩
  have h0:=(hf k hk).1
  have z:=(hf 0 (by omega)).1
  obtain⟨b,off,spot⟩:=a
  have hspot:spot=none:=by simpa [Addr.add]using World.cell?_spot z
  subst hspot
  rw[dQ]at h0
  exact⟨b,off,rfl,kJ h0,h0⟩
end Sh
end
section
open Go.RowKit Go.Deep
namespace Sh
def W64(x:Int):Prop:= -9223372036854775808<=x/\x<=9223372036854775807
end Sh
end
section
open Go.ChangeShapes Go.WideShapes Go.ChangeAt Go.WideMaps Go.WideElems Go.RowKit Go.Deep
namespace Sv
theorem pY:Tryz.prog.bytesOf 45=8:=by kernel_rfl
theorem pZ:Tryz.prog.bytesOf 2=8:=by kernel_rfl
theorem cX{H:Type}{enc:TypeId × Value->H}{W:World}{T E:TypeId}{a0:Option Addr}{len0 cap0:Nat}{fuel:Nat}{x:DataW H × List MemPlace}(hu:Tryz.prog.underlying T=some (.slice E))(h1:Tryz.prog.cellsOf E=1)
  (hf:DataW.trod enc prog W 0 (fun _=>true) true fuel T [.slice a0 len0 cap0]=some x) (hs: ∀elems spare,x.1=.slice elems spare->(elems.length+spare.length)*8<=reachBytes):len0<=281474976710656:=by
 rcases Go.Deep.open_slice1 hu h1 hf with⟨hcs,_⟩ | ⟨a,l,c,m,n,V,D,Pl,hcs,_,hl,hm,hmm,hx,_⟩
 ·simp at hcs
  obtain⟨rfl,rfl,rfl⟩:=hcs
  exact Nat.zero_le _
 ·simp at hcs
  obtain⟨rfl,rfl,rfl⟩:=hcs
  simp only[if_true]at hmm
  subst hmm
  have:=hs _ _ (by rw[hx])
  simp only[List.length_map,List.length_range,reachBytes]at this
  omega
theorem uR{H:Type}{P:Program}{ts:List TypeId}{ds:List (DataW H)}(h:(DataW.weightsEach P ts ds).all (· <=reachBytes)=true){j:Nat}{t:TypeId}{fs:Array Field}{parts:List (DataW H)}(ht:ts[j]? =some t)(hd:ds[j]? =some (.agg parts))(hu:P.underlying t=some (.struct fs)):
  (DataW.weightsEach P (fs.toList.map (·.type)) parts).all (· <=reachBytes)=true:=by
 refine List.all_eq_true.2 (fun n hn=> ?_)
 exact List.all_eq_true.1 h _ (DataW.weights_mem_each ht hd n (by simpa [DataW.weights,hu]using hn))
theorem trod_u8{H:Type}{enc:TypeId × Value->H}{P:Program}{w:World}{base:Nat}{spare:Nat->Bool}{held:Bool}{t:TypeId}{fuel:Nat}{v:Value}{x:DataW H × List MemPlace}(ht:P.underlying t=some (.int .u8))(h:DataW.trod enc P w base spare held fuel t [v]=some x):
  ∃b:Nat,v=.int .u8 (b:Int)/\b<256:=by
 obtain⟨k,e,_,wf⟩:=DataW.trod_int ht h
 simp at e
 simp only[Lit.wf,Bool.and_eq_true,decide_eq_true_eq]at wf
 have q1:IntKind.u8.min=0:=by decide
 have q2:IntKind.u8.max=255:=by decide
 rw[q1,q2]at wf
 exact⟨k.toNat,by rw[Int.toNat_of_nonneg wf.1];exact e,by omega⟩
theorem bytes8:Tryz.prog.bytesOf 5=1:=by kernel_rfl
theorem lit_8{x:Int}(h:(Lit.int .u8 x).wf=true):0<=x/\x<256:=by
 simp only[Lit.wf,Bool.and_eq_true,decide_eq_true_eq]at h
 have q1:IntKind.u8.min=0:=by decide
 have q2:IntKind.u8.max=255:=by decide
 omega
theorem rF{H:Type}{enc:TypeId × Value->H}{W:World}{cs:List Value}{fuel:Nat}{x:DataW H × List MemPlace}
  (hf:DataW.trod enc prog W 0 (fun _=>true) true fuel 30 cs=some x) (hs: ∀elems spare,x.1=.slice elems spare->(elems.length+spare.length)*1<=reachBytes): ∃a0 len cap xs,cs=[.slice a0 len cap]/\Ti.IsW .u8 256 W a0 len xs/\len<=cap/\cap<=140737488355328/\(a0=none->len=0):=by
 rcases open_slice1 underlying30 (by kernel_rfl) hf with⟨hcs,_⟩ | ⟨a,l,c,m,n,V,D,Pl,hcs,_,hl,hm,hmm,hx0,hx⟩
 ·exact⟨none,0,0,fun _=>0,hcs,fun k hk=>by omega,Nat.le_refl _,Nat.zero_le _,fun _=>rfl⟩
 ·simp only[if_true]at hmm
  have sz:=hs _ _ (by rw[hx0])
  simp only[List.length_map,List.length_range]at sz
  have each: ∀i,i<l-> ∃x:Nat,W.cell? (a.add i)=some (.int .u8 (x:Int))/\x<256:=by
   intro i hi
   obtain⟨h1,h2⟩:=hx i (by omega)
   obtain⟨x,e,wx⟩:=trod_u8 underlying5 h2
   rw[e]at h1
   exact⟨x,h1,wx⟩
  obtain⟨f,hf⟩:=Sh.iO 0 each
  refine⟨some a,l,c,f,hcs,fun k hk=>⟨(hf k hk).2,?_⟩,hl,by unfold reachBytes at sz;omega,fun e=>by cases e⟩
  have h0:=(hf k hk).1
  have z:=(hf 0 (by omega)).1
  obtain⟨b,off,spot⟩:=a
  have hspot:spot=none:=by simpa [Addr.add]using World.cell?_spot z
  subst hspot
  rw[Sh.dQ]at h0
  exact⟨b,off,rfl,Sh.kJ h0,h0⟩
theorem rG{H:Type}{enc:TypeId × Value->H}{W:World}{r:Reach}{b0:Nat}{v:Value}{d:DataW H}{p:List MemPlace}(hv:Value.okWide prog W r b0 25 v)(h:DataW.Trod enc prog W 0 (fun _=>true) true 25 v d p)
  (hz: ∀parts,d=.agg parts->(DataW.weightsEach prog [22,23,23,22,2,3] parts).all (· <=reachBytes)=true):
  ∃pb lb cb B pw lw cw Wt pt lt ct Tr ps ls cs Sp sky st,v=.agg #[.slice pb lb cb,.slice pw lw cw,.slice pt lt ct,.slice ps ls cs,.int .i64 sky,.int .i64 st]/\(IsFl W pb lb B/\Sh.IsI W pw lw Wt/\Sh.IsI W pt lt Tr/\IsFl W ps ls Sp)/\(lb<=281474976710656/\lw<=281474976710656/\lt<=281474976710656/\ls<=281474976710656)/\Sh.W64 sky/\Sh.W64 st:=by
 have hC:Tryz.prog.cellsOf 25=6:=by kernel_rfl
 have k0:Tryz.prog.cellsOf 22=1:=by kernel_rfl
 have k1:Tryz.prog.cellsOf 23=1:=by kernel_rfl
 have k2:Tryz.prog.cellsOf 2=1:=by kernel_rfl
 have k3:Tryz.prog.cellsOf 3=1:=by kernel_rfl
 obtain⟨cs,rfl,hsz⟩:=okWide_struct underlying25 hv
 obtain⟨v0,v1,v2,v3,v4,v5,rfl⟩:=array6' (hsz.trans hC)
 obtain⟨fuel,hf⟩:=h
 have hf':DataW.trod enc prog W 0 (fun _=>true) true fuel 25 [v0,v1,v2,v3,v4,v5]=some (d,p):=by simpa [Value.cells]using hf
 obtain⟨xs,m,_,hx,hlen,hn,hel⟩:=DataW.trod_struct underlying25 hf'
 match xs,hn with
 | [x0,x1,x2,x3,x4,x5],_=>
  have h0:=hel 0 _ rfl
  have h1:=hel 1 _ rfl
  have h2:=hel 2 _ rfl
  have h3:=hel 3 _ rfl
  have h4:=hel 4 _ rfl
  have h5:=hel 5 _ rfl
  simp[k0,k1,k2,k3]at h0 h1 h2 h3 h4 h5
  have hzz:=hz _ (congrArg Prod.fst hx)
  obtain⟨pb,lb,cb,B,e0,i0,-,-⟩:=lD h0
  obtain⟨pw,lw,cw,Wt,e1,i1,-,-⟩:=Sh.lQ h1
  obtain⟨pt,lt,ct,Tr,e2,i2,-,-⟩:=Sh.lQ h2
  obtain⟨ps,ls,cs,Sp,e3,i3,-,-⟩:=lD h3
  obtain⟨sky,e4,g4⟩:=Sh.trod_int underlying2 h4
  obtain⟨st,e5,g5⟩:=Sh.trod_int underlying3 h5
  simp at e0 e1 e2 e3
  subst e0 e1 e2 e3 e4 e5
  exact⟨pb,lb,cb,B,pw,lw,cw,Wt,pt,lt,ct,Tr,ps,ls,cs,Sp,sky,st,rfl,⟨i0,i1,i2,i3⟩,⟨cX underlying22 (by kernel_rfl) h0 (fun elems spare e=>by have q:=sized_slice hzz (j:=0) (t:=22) (e:=45) (elems:=elems) (spare:=spare) rfl (by rw[<- e];rfl) underlying22;rw[pY]at q;exact q),cX underlying23 (by kernel_rfl) h1 (fun elems spare e=>by have q:=sized_slice hzz (j:=1) (t:=23) (e:=2) (elems:=elems) (spare:=spare) rfl (by rw[<- e];rfl) underlying23;rw[pZ]at q;exact q),cX underlying23 (by kernel_rfl) h2 (fun elems spare e=>by have q:=sized_slice hzz (j:=2) (t:=23) (e:=2) (elems:=elems) (spare:=spare) rfl (by rw[<- e];rfl) underlying23;rw[pZ]at q;exact q),cX underlying22 (by kernel_rfl) h3 (fun elems spare e=>by have q:=sized_slice hzz (j:=3) (t:=22) (e:=45) (elems:=elems) (spare:=spare) rfl (by rw[<- e];rfl) underlying22;rw[pY]at q;exact q)⟩,g4,g5⟩
end Sv
end
section
open Go.ChangeShapes Go.WideShapes Go.ChangeAt Go.WideMaps Go.WideElems Go.RowKit Cu
theorem own:ownKnob Tryz.prog.godebug=none:=by kernel_rfl
theorem gFrames:Tryz.prog.globalNamed "tarn/cube.frames" =some 1:=by kernel_rfl
theorem tFrames:(Tryz.prog.globals[1]?).map (·.type)=some 117:=by kernel_rfl
theorem door_met(os:Os)(args:Array Value):laidMetH prog [("tarn/cube.frames",Rows.laid_tarn_cube_frames)] ((World.doorLaid prog 400 os).forCall (fun _ _=>0) ⟨#[],args,[]⟩).memory:=
 laidMetH_of_parts3 (fuel:=8) (laidMet_of_run' 8 (by kernel_rfl) (by kernel_rfl)) (by kernel_rfl) (by kernel_rfl)
theorem nJ{H:Type}{enc:TypeId × Value->H}{w:World}{base fuel:Nat}{spare:Nat->Bool}{held:Bool}{cs:List Value}{x:DataW H × List MemPlace}(h:DataW.trod enc prog w base spare held fuel 109 cs=some x)
  (a b c:Int) (e:x.1=.agg [.lit (.int .i64 a),.lit (.int .i64 b),.lit (.int .i64 c)]):cs=[.int .i64 a,.int .i64 b,.int .i64 c]:=by
 have k3:Tryz.prog.cellsOf 3=1:=by kernel_rfl
 have kp:Tryz.prog.cellsOf 109=3:=by kernel_rfl
 obtain⟨xs,m,_,hx,hlen,hn,hel⟩:=DataW.trod_array underlying109 h
 rw[hx]at e
 match xs,hn,cs,hlen.trans kp with
 | [x0,x1,x2],_,[c0,c1,c2],_=>
  have h0:=hel 0 (by decide)
  have h1:=hel 1 (by decide)
  have h2:=hel 2 (by decide)
  simp[k3]at h0 h1 h2
  obtain⟨n0,e0,f0,_⟩:=DataW.trod_int underlying3 h0
  obtain⟨n1,e1,f1,_⟩:=DataW.trod_int underlying3 h1
  obtain⟨n2,e2,f2,_⟩:=DataW.trod_int underlying3 h2
  simp at e0 e1 e2
  simp[f0,f1,f2]at e
  rw[e0,e1,e2,e.1,e.2.1,e.2.2]
theorem bU{H:Type}{enc:TypeId × Value->H}{w:World}{base fuel:Nat}{spare:Nat->Bool}{held:Bool}{cs:List Value}{x:DataW H × List MemPlace}(h:DataW.trod enc prog w base spare held fuel 116 cs=some x)
  (p q r:P3) (e:x.1=.agg [.agg [.lit (.int .i64 p.1),.lit (.int .i64 p.2.1),.lit (.int .i64 p.2.2)],.agg [.lit (.int .i64 q.1),.lit (.int .i64 q.2.1),.lit (.int .i64 q.2.2)],.agg [.lit (.int .i64 r.1),.lit (.int .i64 r.2.1),.lit (.int .i64 r.2.2)]]):
  cs=[.int .i64 p.1,.int .i64 p.2.1,.int .i64 p.2.2,.int .i64 q.1,.int .i64 q.2.1,.int .i64 q.2.2,.int .i64 r.1,.int .i64 r.2.1,.int .i64 r.2.2]:=by
 have kp:Tryz.prog.cellsOf 109=3:=by kernel_rfl
 have kf:Tryz.prog.cellsOf 116=9:=by kernel_rfl
 obtain⟨xs,m,_,hx,hlen,hn,hel⟩:=DataW.trod_struct underlying116 h
 rw[hx]at e
 match xs,hn,cs,hlen.trans kf with
 | [x0,x1,x2],_,[c0,c1,c2,c3,c4,c5,c6,c7,c8],_=>
  have h0:=hel 0 _ rfl
  have h1:=hel 1 _ rfl
  have h2:=hel 2 _ rfl
  simp[kp]at h0 h1 h2
  simp at e
  have e0:=nJ h0 _ _ _ e.1
  have e1:=nJ h1 _ _ _ e.2.1
  have e2:=nJ h2 _ _ _ e.2.2
  simp at e0 e1 e2
  simp[e0,e1,e2]
theorem rH{H:Type}{enc:TypeId × Value->H}{w:World}{base fuel:Nat}{spare:Nat->Bool}{held:Bool}{cs:List Value}{x:DataW H × List MemPlace}(h:DataW.trod enc prog w base spare held fuel 117 cs=some x)
  (e:x.1=Rows.laid_tarn_cube_frames): ∀f,f<6->(cs.drop (f*9)).take 9=[.int .i64 (cC f).1,.int .i64 (cC f).2.1,.int .i64 (cC f).2.2,.int .i64 (cR f).1,.int .i64 (cR f).2.1,.int .i64 (cR f).2.2,.int .i64 (cU f).1,.int .i64 (cU f).2.1,.int .i64 (cU f).2.2]:=by
 have kf:Tryz.prog.cellsOf 116=9:=by kernel_rfl
 obtain⟨xs,m,_,hx,hlen,hn,hel⟩:=DataW.trod_array underlying117 h
 rw[hx]at e
 intro f hf
 have h0:=hel f hf
 rw[kf]at h0
 match xs,hn with
 | [x0,x1,x2,x3,x4,x5],_=>
  simp only[List.map_cons,List.map_nil,Rows.laid_tarn_cube_frames,DataW.agg.injEq,List.cons.injEq]at e
  rcases six hf with rfl | rfl | rfl | rfl | rfl | rfl
  ·exact bU h0 (cC 0) (cR 0) (cU 0) e.1
  ·exact bU h0 (cC 1) (cR 1) (cU 1) e.2.1
  ·exact bU h0 (cC 2) (cR 2) (cU 2) e.2.2.1
  ·exact bU h0 (cC 3) (cR 3) (cU 3) e.2.2.2.1
  ·exact bU h0 (cC 4) (cR 4) (cU 4) e.2.2.2.2.1
  ·exact bU h0 (cC 5) (cR 5) (cU 5) e.2.2.2.2.2.1
theorem of_laid{W:World}(h:laidMetH prog [("tarn/cube.frames",Rows.laid_tarn_cube_frames)] W):Fr W:=by
 rw[MakeChecks.laidMetH_plain _ _ _ (by kernel_rfl)]at h
 obtain⟨ps,⟨g0,t0,cs0,f0,p0,q0,hg0,ht0,hv0,hd0,_⟩,_⟩:=h
 obtain rfl:=Option.some.inj (gFrames.symm.trans hg0)
 obtain rfl:=Option.some.inj (tFrames.symm.trans ht0)
 have T:=rH hd0 rfl
 have C:=World.var?_cell hg0 hv0
 have K: ∀f,f<6-> ∀k,k<9->W.cell? ⟨1,f*9+k,none⟩=((cs0.toList.drop (f*9)).take 9)[k]? :=by
  intro f hf k hk
  rw[C,List.getElem?_take,if_pos hk,List.getElem?_drop]
  simp
 have N: ∀f,f<6->Fr9 W f:=by
  intro f hf
  have K:=K f hf
  rw[T f hf]at K
  exact⟨⟨K 0 (by omega),K 1 (by omega),K 2 (by omega)⟩,⟨K 3 (by omega),K 4 (by omega),K 5 (by omega)⟩,⟨K 6 (by omega),K 7 (by omega),K 8 (by omega)⟩⟩
 refine⟨?_,N⟩
 have c0:=(N 0 (by omega)).1.1
 rcases Nat.lt_or_ge 1 W.heap.size with h1 | h1
 ·exact h1
 ·rw[World.cell?,Array.getElem?_eq_none h1]at c0;cases c0
end
end Go.Proofs.YtagcbnflfaeahaaGreatDoor
