/-
  Some of the texts of this proof, one behind the other.
-/
import Derived.Laws.EntriesVeiled
import Derived.ProofKit
import Derived.OpenShut
import Derived.WalkLawsBesides
import Derived.Stop.Joined
import Derived.Carry
import Derived.Lib.SmallJoins
import Derived.Deep.SlicePairs
import Derived.Deep.Slices
import Derived.SizedLaws
import Derived.Test.YtmhnilnaffjhmaaGreatDoorCdr23
set_option maxRecDepth 100000
set_option maxHeartbeats 400000000
namespace Go.Proofs.YtmhnilnaffjhmaaGreatDoor
open _root_.Go.Proofs.Tryz
section
open Go.RowKit Go.Deep
namespace Rn
open Sh
theorem fall_go(pw:Option Addr)(lw cw:Nat)(W:Nat->Int)(s:Int)(pr:Option Addr)(lr cr:Nat)(R:Nat->Int × Int × Int × Int)(st:Int)(w:World)(h1:decide (st<0)=false)(h2:dK s=false)(hlr:lr<=1024)(hlw:lw<=17592186044416)(IW:Hid (IsI w pw lw W))(IR:Hid (IsRn w pr lr R))(HW:Hid (∀i,i<lw->dK (W i)=false))(HV:Hid (∀k,k<lr->vB (lw:Nat) (R k)=true))(HX:Hid (∀k,k<=lr->(∀i,i<lw->0<=(rnN st R (W,s) k).1 i/\(rnN st R (W,s) k).1 i<=4616189618054758400)/\0<=(rnN st R (W,s) k).2/\(rnN st R (W,s) k).2<=4616189618054758400))(h0:0<lw):
  Calls prog 46 #[.slice pw lw cw,.int .i64 s,.slice pr lr cr,.int .i64 st] w fun e w'=> ∃v,e=.returned (.tuple #[v,.int .i64 (rnN st R (W,s) lr).2,.int .i64 0])/\Below w.heap.size w w'/\Sh.Own w.heap.size v ((List.range lw).map (rnN st R (W,s) lr).1) w':=by
 have H2:=hid h2
 have HLW:=hid hlw
 clear h2 hlw
 have hmf: ∀(fn:Fn) (first cap:Array Value) (w:World),(Instr.makeFunc fn first cap).run prog w=.ok (.func fn first cap) w:=fun _ _ _ _=>rfl
 obtain⟨A0,R0⟩:=aO w (.cells #[.int .i64 s] 2)
 have CA:Hid (∀v,Ab w v->Calls prog 82 #[.int .i64 (lw:Nat),.slice pr lr cr] v fun e w'=>e=.returned (.bool true)/\Below v.heap.size v w'):=fun v a=>zZ lw pr lr cr R v hlr (IR.out.below a) HV
 have HLR:=hid hlr
 clear hlr
 go_enter func46,ntmps46
 go_upto_region 1 with fail
 generalize hW:World.alloc w _=V0 at*
 obtain⟨gs,hgs⟩:=aB w.heap.size
 have HG:=hid hgs
 rw[hgs]at R0 ⊢
 clear hgs hW
 have x0:=aA 0 R0.out
 have CO:=hid (mS s V0)
 rw[H2.out]at CO
 have CC:=hid (CO.out)
 go_wp2_with fail
 refine CC.out.mono ?_
 rintro e9 v9 ⟨rfl,hv9⟩
 have hv8:=hv9.symm
 subst hv8
 clear CC
 have CC:=hid (pG pw lw cw W V0 HLW.out (IW.out.below A0.out) HW.out)
 go_wp2_with fail
 refine CC.out.mono ?_
 rintro e9 v9 ⟨rfl,hv9⟩
 have hv8:=hv9.symm
 subst hv8
 clear CC
 have CC:=hid (CA.out V0 A0.out)
 go_wp2_with fail
 refine CC.out.mono ?_
 rintro e9 V1 ⟨rfl,b1⟩
 have A1:Hid (Ab V0 V1):=b1
 clear CC b1
 have R1:=hid (Ab.heap A1.out R0.out)
 have CC:=hid (tL pw lw cw W V1 HLW.out (IW.out.below (A0.out.trans A1.out)))
 go_wp2_with fail
 refine CC.out.mono ?_
 rintro e9 V2 ⟨hv,rfl,b2,o2⟩
 have A2:Hid (Ab V1 V2):=b2
 have O2:=hid o2
 have R2:=hid (Ab.heap A2.out R1.out)
 clear CC b2 o2 x0
 obtain⟨og,oc,F2,rfl,hog,hoc,hom,row,hF⟩:=FY O2.out h0
 have ogl:og<V2.heap.size:=row.lt
 go_upto_region 5 with fail
 obtain⟨A3,H3,M3⟩:=bZ V2 (.cells #[.slice (some ⟨og,0,none⟩) lw oc] 46) (.cells #[.func (.func 84) #[] #[.pointer (some ⟨V2.heap.size,0,none⟩),.pointer (some ⟨gs,0,none⟩)]] 143)
 generalize hW:World.alloc (World.alloc V2 _) _=V3 at*
 have gsl:gs<V1.heap.size:=by
  have:=Below.size A0.out
  have e1:gs<V0.heap.size:=by
   rcases Nat.lt_or_ge gs V0.heap.size with h | h
   ·exact h
   ·have:=R0.out;rw[Array.getElem?_eq_none h]at this;cases this
  exact Nat.lt_of_lt_of_le e1 A1.out.size
 have DI:Hid (AG gs V2.heap.size (V2.heap.size+1) og):=⟨by omega,by omega,by omega,by omega,by omega⟩
 have AT:Hid (jW gs V2.heap.size (V2.heap.size+1) og oc lw 143 s W V3):=⟨Ab.heap A3.out R2.out,H3.out,M3.out,F2,cX row A3.out,hF⟩
 have AW:Hid (Ab w V3):=A0.out.trans (A1.out.trans (A2.out.trans A3.out))
 have BG:Hid (gs<=og/\lw<=oc/\oc<=maxLen):=⟨by omega,hoc,hom⟩
 have H0:=hid h0
 obtain⟨gh,hgh⟩:=aB V2.heap.size
 rw[hgh]at DI AT ⊢
 obtain⟨gm,hgm⟩:=aB (gh+1)
 rw[hgm]at DI AT ⊢
 clear hgh hgm hW H3 M3 A3 A0 A1 A2 R0 R1 R2 O2 row hF hog hoc hom ogl gsl CO CA h0
 go_wp2
 go_loopw [41] (fun iv wz=> ∃c:Nat,c<=lr/\iv=.int .i64 (c:Nat)/\Ab w wz/\jW gs gh gm og oc lw 143 (rnN st R (W,s) c).2 (rnN st R (W,s) c).1 wz) (fun iv _=>lr - (intOf iv).toNat)
 case atStart=>exact⟨0,by omega,rfl,AW.out,AT.out⟩
 case round=>
  obtain⟨c,hc,rfl,ar,ow⟩:=hrel
  have AQ:=hid ar
  have OZ:=hid ow
  clear ar ow AW AT
  obtain⟨sk,hsk⟩:=aB ((rnN st R (W,s) c).2)
  have SK:=hid hsk
  have hb:=HX.out c hc
  rw[hsk]at hb OZ
  have s1:=hb.2.1
  have s2:=hb.2.2
  have XB:=hid hb.1
  clear hsk hb
  by_cases hcn:c<lr
  ·have HC:=hid hcn
   have hcI:(c:Int)<lr:=by omega
   have hcB:(c:Int)<=1024:=by have:=HLR.out;omega
   obtain⟨rb,ro,rfl⟩:=IR.out.some0 (show 0<lr by omega)
   obtain⟨r1,r2,r3,r4,hr⟩: ∃a b c' d,R c=(a,b,c',d):=⟨_,_,_,_,rfl⟩
   have at0:=((IR.out.below AQ.out).at0 hcn)
   rw[hr]at at0
   have y0:=at0.2.2.1
   have y1:=at0.2.2.2.1
   have y2:=at0.2.2.2.2.1
   have y3:=at0.2.2.2.2.2
   have RE:=hid hr
   clear at0 hr hcn hc
   have ok:=BV.1 (HV.out c HC.out)
   rw[RE.out]at ok
   obtain⟨k,rfl⟩: ∃k:Nat,r1=(k:Nat):=⟨r1.toNat,by have:=ok.1;omega⟩
   have hk:k<lw:=by have:=ok.2.1;dsimp only at this;omega
   have HK:=hid hk
   have ra1:=ok.2.2.1
   have ra2:=ok.2.2.2.1
   dsimp only at ra1 ra2
   obtain⟨x,hx⟩:=aB ((rnN st R (W,s) c).1 k)
   have xb:=XB.out k hk
   rw[hx]at xb
   have xb1:=xb.1
   have xb2:=xb.2
   have XE:=hid hx
   clear hx xb ok hk
   obtain⟨gz,hgz⟩:=aB wr.heap.size
   go_upto_region 10 with fail
   have AL:=jY (bl1 wr (.cells #[.int .i64 (k:Nat),.int .i64 r2,.int .i64 r3,.int .i64 r4] 145))
   have RZ:Hid ((wr.alloc (.cells #[.int .i64 (k:Nat),.int .i64 r2,.int .i64 r3,.int .i64 r4] 145)).heap[gz]? =some (.cells #[.int .i64 (k:Nat),.int .i64 r2,.int .i64 r3,.int .i64 r4] 145)):=by rw[<- hgz];exact heap_alloc_new _ _
   generalize hW:World.alloc wr _=V4 at*
   clear hW hgz y0 y1 y2 y3
   have x0:=aA 0 RZ.out
   have x1:=aA 1 RZ.out
   have x2:=aA 2 RZ.out
   have x3:=aA 3 RZ.out
   have CF:=hid (falls_at (k:Nat) r2 r3 r4 st V4)
   have FE:Hid (fallB st ((k:Nat),r2,r3,r4)=(decide (r3<=st)&&decide (st<r4))):=rfl
   cases fb:fallB st ((k:Nat),r2,r3,r4)with
   | false=>
    have NX:Hid (rnN st R (W,s) (c+1)=rnN st R (W,s) c):=rn_skip RE.out (by
     rw[FE.out]at fb
     rcases Bool.and_eq_false_iff.1 fb with h | h
     ·have:=of_decide_eq_false h;exact .inl (by omega)
     ·have:=of_decide_eq_false h;exact .inr (by omega))
    rw[fb]at CF
    clear fb FE
    go_wp2_with fail
    refine CF.out.mono ?_
    rintro e9 V5 ⟨rfl,b5⟩
    have A5:Hid (Ab wr V5):=AL.out.trans b5
    clear b5
    go_wp2
    exact⟨⟨c+1,by have:=HC.out;omega,by simp,AQ.out.trans A5.out,by rw[NX.out,SK.out];exact OZ.out.to A5.out⟩,by have:=HC.out;simp[intOf];omega⟩
   | true=>
    have fb2:=fb
    rw[FE.out,Bool.and_eq_true,decide_eq_true_eq,decide_eq_true_eq]at fb2
    have NF:=hid (rn_fall RE.out (show¬st<r3 by omega) (show¬r4<=st by omega) SK.out XE.out)
    rw[fb]at CF
    clear fb fb2 FE
    have dI:=dn_in (a:=r2) s1 xb1
    have dB:=dn_bd (a:=r2) (m:=4503599627370496) s1 xb1 ⟨ra1,ra2⟩
    obtain⟨d,hd⟩:=aB (dn r2 sk x)
    rw[hd]at dI dB NF
    have DE:=hid hd
    have d1:=dI.1
    have d2:=dI.2
    have d3:=dB.1
    have d4:=dB.2
    clear hd dI dB
    go_wp2_with fail
    refine CF.out.mono ?_
    rintro e9 V5 ⟨rfl,b5⟩
    have A5:Hid (Ab wr V5):=AL.out.trans b5
    have R5:=hid (Ab.heap b5 RZ.out)
    clear b5 x0 x1 x2 x3
    have x0:=aA 0 R5.out
    have x1:=aA 1 R5.out
    have x2:=aA 2 R5.out
    have x3:=aA 3 R5.out
    have O5:=hid (OZ.out.to A5.out)
    by_cases f3:0<r2
    ·have e3:decide (0<r2)=true:=decide_eq_true f3
     have dq:(if sk<r2 then sk else r2)=d:=by
      rw[<- DE.out]
      unfold dn
      rw[if_neg (show¬r2<0 by omega)]
     have CG:=hid (fall18 gs gh gm og oc lw k 143 sk x d r2 r3 r4 _ V5 O5.out DI.out BG.out.2.1 HLW.out HK.out XE.out dq (by omega) (by omega) (by omega) (by omega))
     clear dq f3
     go_wp2_with fail
     refine CG.out.mono ?_
     rintro e8 V6 ⟨rfl,u6,a6,hv6⟩
     have A6:=hid a6
     have E6:=hid hv6
     clear a6 hv6 CG
     go_wp2
     refine⟨⟨c+1,by have:=HC.out;omega,by simp,?_,?_⟩,by have:=HC.out;simp[intOf];omega⟩
     ·rw[E6.out]
      exact mov_ab (AQ.out.trans (A5.out.trans A6.out)) (Nat.le_of_eq HG.out) (by rw[HG.out];exact BG.out.1)
     ·rw[E6.out,NF.out.1]
      exact((O5.out.to A6.out).mov DI.out k _ _).congr (fun i _=>(NF.out.2 i).symm)
    ·have e3:decide (0<r2)=false:=decide_eq_false f3
     by_cases f4:r2<0
     ·have e4:decide (r2<0)=true:=decide_eq_true f4
      obtain⟨q,hq⟩:=aB ((if x< -r2 then x else -r2))
      have dq:d= -q:=by
       rw[<- DE.out,<- hq]
       unfold dn
       rw[if_pos f4]
      have CG:=hid (up18 gs gh gm og oc lw k 143 sk x q r2 r3 r4 _ V5 O5.out DI.out BG.out.2.1 HLW.out HK.out XE.out hq (by omega) (by omega) (by omega) (by omega) (by omega) (by omega) (by omega) (by omega))
      clear hq f3 f4
      go_wp2_with fail
      refine CG.out.mono ?_
      rintro e8 V6 ⟨rfl,u6,a6,hv6⟩
      have A6:=hid a6
      have E6:=hid hv6
      clear a6 hv6 CG
      go_wp2
      refine⟨⟨c+1,by have:=HC.out;omega,by simp,?_,?_⟩,by have:=HC.out;simp[intOf];omega⟩
      ·rw[E6.out]
       exact mov_ab (AQ.out.trans (A5.out.trans A6.out)) (Nat.le_of_eq HG.out) (by rw[HG.out];exact BG.out.1)
      ·rw[E6.out,NF.out.1,dq]
       exact((O5.out.to A6.out).mov DI.out k _ _).congr (fun i _=>by rw[<- dq];exact(NF.out.2 i).symm)
     ·have e4:decide (r2<0)=false:=decide_eq_false f4
      have r20:r2=0:=by omega
      have d0:d=0:=by
       rw[<- DE.out,r20]
       unfold dn
       rw[if_neg (by decide)]
       split<;>omega
      clear f3 f4 r20
      go_wp2
      refine⟨⟨c+1,by have:=HC.out;omega,by simp,AQ.out.trans A5.out,?_⟩,by have:=HC.out;simp[intOf];omega⟩
      rw[NF.out.1,d0,Int.sub_zero]
      refine O5.out.congr (fun i _=> ?_)
      rw[NF.out.2 i,d0]
      by_cases e:i=k
      ·rw[if_pos e,e,XE.out]
       omega
      ·rw[if_neg e]
  ·have e6:lr=c:=by omega
   subst e6
   have x0:=aA 0 OZ.out.1
   have x1:=aA 0 OZ.out.2.1
   go_wp2
   go_region
   go_wp2
   go_ret3
   obtain⟨-,-,-,F9,r9,f9⟩:=OZ.out
   exact⟨_,by rw[SK.out];rfl,by exact AQ.out.drew,by rw[HG.out];exact F5 r9.drew BG.out.1 BG.out.2.1 BG.out.2.2 f9⟩
theorem fall_go0(pw:Option Addr)(lw cw:Nat)(W:Nat->Int)(s:Int)(pr:Option Addr)(lr cr:Nat)(R:Nat->Int × Int × Int × Int)(st:Int)(w:World)(h1:decide (st<0)=false)(h2:dK s=false)(hlr:lr<=1024)(hlw:lw<=17592186044416)(IW:Hid (IsI w pw lw W))(IR:Hid (IsRn w pr lr R))(HW:Hid (∀i,i<lw->dK (W i)=false))(HV:Hid (∀k,k<lr->vB (lw:Nat) (R k)=true))(HZ:Hid (lw=0))(HY:Hid (lr=0)):
  Calls prog 46 #[.slice pw lw cw,.int .i64 s,.slice pr lr cr,.int .i64 st] w fun e w'=> ∃v,e=.returned (.tuple #[v,.int .i64 (rnN st R (W,s) lr).2,.int .i64 0])/\Below w.heap.size w w'/\Sh.Own w.heap.size v ((List.range lw).map (rnN st R (W,s) lr).1) w':=by
 have H2:=hid h2
 have HLW:=hid hlw
 clear h2 hlw
 have hmf: ∀(fn:Fn) (first cap:Array Value) (w:World),(Instr.makeFunc fn first cap).run prog w=.ok (.func fn first cap) w:=fun _ _ _ _=>rfl
 obtain⟨A0,R0⟩:=aO w (.cells #[.int .i64 s] 2)
 have CA:Hid (∀v,Ab w v->Calls prog 82 #[.int .i64 (lw:Nat),.slice pr lr cr] v fun e w'=>e=.returned (.bool true)/\Below v.heap.size v w'):=fun v a=>zZ lw pr lr cr R v hlr (IR.out.below a) HV
 have HLR:=hid hlr
 clear hlr
 go_enter func46,ntmps46
 go_upto_region 1 with fail
 generalize hW:World.alloc w _=V0 at*
 obtain⟨gs,hgs⟩:=aB w.heap.size
 have HG:=hid hgs
 rw[hgs]at R0 ⊢
 clear hgs hW
 have x0:=aA 0 R0.out
 have CO:=hid (mS s V0)
 rw[H2.out]at CO
 have CC:=hid (CO.out)
 go_wp2_with fail
 refine CC.out.mono ?_
 rintro e9 v9 ⟨rfl,hv9⟩
 have hv8:=hv9.symm
 subst hv8
 clear CC
 have CC:=hid (pG pw lw cw W V0 HLW.out (IW.out.below A0.out) HW.out)
 go_wp2_with fail
 refine CC.out.mono ?_
 rintro e9 v9 ⟨rfl,hv9⟩
 have hv8:=hv9.symm
 subst hv8
 clear CC
 have CC:=hid (CA.out V0 A0.out)
 go_wp2_with fail
 refine CC.out.mono ?_
 rintro e9 V1 ⟨rfl,b1⟩
 have A1:Hid (Ab V0 V1):=b1
 clear CC b1
 have R1:=hid (Ab.heap A1.out R0.out)
 have CC:=hid (tL pw lw cw W V1 HLW.out (IW.out.below (A0.out.trans A1.out)))
 go_wp2_with fail
 refine CC.out.mono ?_
 rintro e9 V2 ⟨hv,rfl,b2,o2⟩
 have A2:Hid (Ab V1 V2):=b2
 have O2:=hid o2
 have R2:=hid (Ab.heap A2.out R1.out)
 clear CC b2 o2 x0
 obtain⟨oa,oc,he⟩: ∃a0 cap,hv=.slice a0 lw cap:=by
  rcases O2.out.2 with⟨q,h0⟩ | ⟨g,cap,cur,q,_⟩
  ·refine⟨none,0,?_⟩
   rw[q]
   simp at h0
   rw[h0]
  ·refine⟨some ⟨g,0,none⟩,cap,?_⟩
   rw[q]
   simp
 subst he
 go_upto_region 5 with fail
 obtain⟨A3,H3,M3⟩:=bZ V2 (.cells #[.slice oa lw oc] 46) (.cells #[.func (.func 84) #[] #[.pointer (some ⟨V2.heap.size,0,none⟩),.pointer (some ⟨gs,0,none⟩)]] 143)
 generalize hW:World.alloc (World.alloc V2 _) _=V3 at*
 have AW:Hid (Ab w V3):=A0.out.trans (A1.out.trans (A2.out.trans A3.out))
 have O3:=hid (O2.out.to A3.out)
 have R3:=hid (Ab.heap A3.out R2.out)
 have B1:Hid (w.heap.size<=V1.heap.size):=(A0.out.trans A1.out).size
 obtain⟨gh,hgh⟩:=aB V2.heap.size
 rw[hgh]at H3 ⊢
 have x0:=aA 0 R3.out
 have x1:=aA 0 H3.out
 have h00:=HY.out
 subst h00
 clear hgh hW M3 A3 A0 A1 A2 R0 R1 R2 O2 CO CA HY
 go_wp2
 go_loopw [41] (fun iv wz=>iv=.int .i64 0/\wz=V3) (fun _ _=>0)
 case atStart=>exact⟨rfl,rfl⟩
 case round=>
  obtain⟨rfl,hwr⟩:=hrel
  have hw2:=hwr.symm
  subst hw2
  go_wp2
  go_region
  go_wp2
  go_ret3
  refine⟨_,rfl,by exact AW.out.drew,?_⟩
  have o:=O3.out
  rw[HZ.out]at o ⊢
  rcases o.2 with⟨q,e⟩ | ⟨g,cap,cur,q,hb,rest⟩
  ·exact⟨o.1,.inl ⟨q,e⟩⟩
  ·exact⟨o.1,.inr ⟨g,cap,cur,q,Nat.le_trans B1.out hb,rest⟩⟩
theorem fallC:FallC:=fun pw lw cw W s pr lr cr R st w _ _ hlw hlr iw ir=>by
 by_cases h1:st<0
 ·exact⟨fun g=>absurd g.1 (by omega),fun _=>fall_no1 pw lw cw s pr lr cr st w (decide_eq_true h1)⟩
 ·cases h2:dK s with
  | true=>exact⟨fun g=>absurd (qT.2 g.2.1) (by rw[h2];decide),fun _=>fall_no2 pw lw cw s pr lr cr st w (decide_eq_false h1) h2⟩
  | false=>
   by_cases h5: ∀i,i<lw->dK (W i)=false
   ·by_cases h6:1024<lr\/ ¬ ∀k,k<lr->vB (lw:Nat) (R k)=true
    ·refine⟨fun g=> ?_,fun _=>fall_no4 pw lw cw W s pr lr cr R st w (decide_eq_false h1) h2 hlw iw ir h5 h6⟩
     rcases h6 with h | h
     ·exact absurd g.2.2.1 (by omega)
     ·exact absurd (fun k hk=>BV.2 (g.2.2.2.2 k hk)) h
    ·have h7:lr<=1024:=by
      rcases Nat.lt_or_ge 1024 lr with h | h
      ·exact absurd (.inl h) h6
      ·exact h
     have h8: ∀k,k<lr->vB (lw:Nat) (R k)=true:=Classical.byContradiction fun h=>h6 (.inr h)
     have g:sE lw W s lr R st:=⟨by omega,qT.1 h2,h7,fun i hi=>qT.1 (h5 i hi),fun k hk=>BV.1 (h8 k hk)⟩
     refine⟨fun _=> ?_,fun n=>absurd g n⟩
     rcases Nat.eq_zero_or_pos lw with h0 | h0
     ·refine fall_go0 pw lw cw W s pr lr cr R st w (decide_eq_false h1) h2 h7 hlw iw ir h5 h8 h0 ?_
      rcases Nat.eq_zero_or_pos lr with h | h
      ·exact h
      ·have:=g.2.2.2.2 0 h
       have a:=this.1
       have b:=this.2.1
       omega
     ·exact fall_go pw lw cw W s pr lr cr R st w (decide_eq_false h1) h2 h7 hlw iw ir h5 h8 (fun k hk=>Fu ⟨g.1,g.2.1,by omega,g.2.2.2.1,fun j hj=>g.2.2.2.2 j (by omega)⟩) h0
   ·exact⟨fun g=>absurd (fun i hi=>qT.2 (g.2.2.2.1 i hi)) h5,fun _=>fall_no3 pw lw cw W s pr lr cr st w (decide_eq_false h1) h2 hlw iw h5⟩
end Rn
end
section
open Go.RowKit Tf Cu Go.Deep
namespace St
open Ss Fc
theorem tM{n gb:Nat}{sd:Int}{dt gr dr:Nat}{lim:Int}{rv:Bool}{pr:Option Addr}{lr cr:Nat}{R:Nat->Int × Int × Int × Int}{pb:Option Addr}{lb cb:Nat}{B:Nat->Nat}{pw:Option Addr}{lw cw:Nat}{W:Nat->Int}{pt:Option Addr}{lt ct:Nat}{T:Nat->Int}{ps:Option Addr}{ls cs:Nat}{S:Nat->Nat}{sky st:Int}{w:World}(g:GridOf n gb w)(hf:dt<18446744073709551616/\gr<18446744073709551616/\dr<18446744073709551616)(ir:Rn.IsRn w pr lr R)(i1:IsFl w pb lb B)(i2:Sh.IsI w pw lw W)(i3:Sh.IsI w pt lt T)(i4:IsFl w ps ls S):
  Calls prog 42 #[.pointer (some ⟨gb,0,none⟩),.agg #[.int .i64 sd,.float .f64 dt,.float .f64 gr,.float .f64 dr,.int .i64 lim,.bool rv,.slice pr lr cr],.agg #[.slice pb lb cb,.slice pw lw cw,.slice pt lt ct,.slice ps ls cs,.int .i64 sky,.int .i64 st]] w fun e w'=>e=.returned (.int .i64 (erS n sd dt gr dr lim lr R lb lw lt ls B W T S sky st))/\Below w.heap.size w w':=by
 have CS: ∀v,Ab w v->Calls prog 9 #[.pointer (some ⟨gb,0,none⟩)] v fun e w'=>e=.returned (.int .i64 (n:Nat))/\Below v.heap.size v w':=fun v a=>(gSide_at (g.to a)).mono fun e w' h=>⟨h.1,by rw[h.2];exact Below.refl _ _⟩
 have CP:=fun v (a:Ab w v)=>plan_at sd dt gr dr lim rv pr lr cr R v hf (ir.below a)
 have CC:=fun v (a:Ab w v)=>check_at sd pb lb cb B pw lw cw W pt lt ct T ps ls cs S sky st v (i1.below a) (i2.below a) (i3.below a) (i4.below a)
 unfold erS
 by_cases a:sd=(n:Int)
 ·rw[if_neg (fun q=>q a)]
  by_cases b:plE sd dt gr dr lim lr R=0
  ·rw[if_neg (fun q=>q b)]
   exact Ah n gb sd dt gr dr lim rv pr lr cr pb lb cb pw lw cw pt lt ct ps ls cs sky st _ _ _ w (by rw[a];simp) (by rw[b];rfl) CS CP CC
  ·rw[if_pos b]
   exact Ag n gb sd dt gr dr lim rv pr lr cr pb lb cb pw lw cw pt lt ct ps ls cs sky st _ w (by rw[a];simp) (by simpa using b) CS CP
 ·rw[if_pos a]
  exact Af n gb sd dt gr dr lim rv pr lr cr pb lb cb pw lw cw pt lt ct ps ls cs sky st w (by simpa using Ne.symm a) CS
theorem vQ{n gb:Nat}{sd:Int}{dt gr dr:Nat}{lim:Int}{rv:Bool}{pr:Option Addr}{lr cr:Nat}{R:Nat->Int × Int × Int × Int}{pb:Option Addr}{cb:Nat}{B:Nat->Nat}{pw:Option Addr}{cw:Nat}{W:Nat->Int}{pt:Option Addr}{ct:Nat}{T:Nat->Int}{ps:Option Addr}{cs:Nat}{S:Nat->Nat}{sky st:Int}{w:World}(hn:1<=n/\n<=32)(g:GridOf n gb w)(oP:okP n gr dt dr lr R)(oS:okS n B W T S sky st)(hf:dt<18446744073709551616/\gr<18446744073709551616/\dr<18446744073709551616)(i1:IsFl w pb (6*n*n) B)(i2:Sh.IsI w pw (6*n*n) W)(i3:Sh.IsI w pt (6*n*n) T)(i4:IsFl w ps (12*n*n) S):
  Calls prog 43 #[.pointer (some ⟨gb,0,none⟩),.agg #[.int .i64 sd,.float .f64 dt,.float .f64 gr,.float .f64 dr,.int .i64 lim,.bool rv,.slice pr lr cr],.agg #[.slice pb (6*n*n) cb,.slice pw (6*n*n) cw,.slice pt (6*n*n) ct,.slice ps (12*n*n) cs,.int .i64 sky,.int .i64 st]] w fun e w'=> ∃p0 c0 p1 c1 p2 c2,e=.returned (.tuple #[.slice p0 (12*n*n) c0,.agg #[.slice p1 (12*n*n) c1,.slice p2 (12*n*n) c2]])/\Below w.heap.size w w'/\OwnG w.heap.size (.slice p0 (12*n*n) c0) ((List.range (12*n*n)).map (spE n gr dt dr B W S)) w'/\Sh.Own w.heap.size (.slice p1 (12*n*n) c1) ((List.range (12*n*n)).map (waF n lim gr dt dr B W S)) w'/\Sh.Own w.heap.size (.slice p2 (12*n*n) c2) ((List.range (12*n*n)).map (trF n lim gr dt dr B W T S)) w'/\Dj (.slice p1 (12*n*n) c1) (.slice p2 (12*n*n) c2):=by
 have p1:n*n<=32*32:=Nat.mul_le_mul hn.2 hn.2
 have q6:6*n*n=6*(n*n):=Nat.mul_assoc _ _ _
 have q12:12*n*n=12*(n*n):=Nat.mul_assoc _ _ _
 have wi: ∀e,e<12*n*n->Sh.W64 (waF n lim gr dt dr B W S e):=fun e he=>by have:=wa_in (lim:=lim) oP oS he;unfold Sh.W64;omega
 refine Ai gb sd dt gr dr lim rv pr lr cr (6*n*n) (12*n*n) pb cb pw cw pt ct ps cs sky st (spE n gr dt dr B W S) (wtF n lim gr dt dr B W S) (waF n lim gr dt dr B W S) (trF n lim gr dt dr B W T S) w ?_ ?_ ?_ ?_ ⟨fun e _=>(mN n gr dt dr B W S e).1,wi⟩
 ·exact fun v a=>(Fc.speedsC n gb sd dt gr dr lim rv pr lr cr pb _ cb B pw _ cw W pt _ ct ps _ cs S sky st v hn (g.to a) (i1.below a) (i2.below a) (i4.below a) hf).1 ⟨rfl,rfl,rfl,rfl⟩
 ·intro v p c a i
  refine((allC n gb sd dt gr dr lim rv pr lr cr pb _ cb B pw _ cw W pt _ ct p _ c (spE n gr dt dr B W S) sky st v hn (g.to a) (i1.below a) (i2.below a) i hf.1).1 ⟨rfl,rfl,rfl,rfl⟩).mono ?_
  rintro e w' ⟨b,rfl,b1,r,-⟩
  exact⟨b,rfl,b1,Sh.pC r (fun e he=>⟨Int.le_trans (by decide) (sU (lim:=lim) oP oS he).1,Int.le_trans (sU (lim:=lim) oP oS he).2 (by decide)⟩)⟩
 ·exact fun v p c a i=>(Sh.allC n gb pw _ cw W p _ c _ v hn (g.to a) (by omega) (by omega) (i2.below a) i).1 (wa_fit oP oS)
 ·exact fun v p c a i=>(Tr.flowsC n gb pw _ cw W pt _ ct T p _ c _ v hn (g.to a) (by omega) (by omega) (by omega) (i2.below a) (i3.below a) i).1 (tr_fit oP oS)
theorem flowC:FlowC:=fun n gb sd dt gr dr lim rv pr lr cr R pb lb cb B pw lw cw W pt lt ct T ps ls cs S sky st w hn g hF h64 hf hlr hl ir i1 i2 i3 i4=>by
 have CH:=fun v (a:Ab w v)=>tM (n:=n) (gb:=gb) (sd:=sd) (lim:=lim) (rv:=rv) (cr:=cr) (cb:=cb) (cw:=cw) (ct:=ct) (cs:=cs) (sky:=sky) (st:=st) (g.to a) hf (ir.below a) (i1.below a) (i2.below a) (i3.below a) (i4.below a)
 refine⟨fun e0=> ?_,fun e0=> ?_⟩
 ·obtain⟨rfl,-,-,⟨rfl,rfl,rfl,rfl⟩,oP,oS⟩:=er_ok e0 hf (fun i hi=>(i1 i hi).1) (fun i hi=>(i4 i hi).1)
  rw[e0]at CH
  exact flow21_2 gb n dt gr dr lim rv pr lr cr _ _ pb cb pw cw pt ct ps cs sky st (spE n gr dt dr B W S) _ _ w CH (fun v a=>vQ hn (g.to a) oP oS hf (i1.below a) (i2.below a) (i3.below a) (i4.below a))
 ·exact flow21_1 gb sd dt gr dr lim rv pr lr cr pb lb cb pw lw cw pt lt ct ps ls cs sky st _ w (by simpa using e0) CH
theorem one_gen(rv:Bool)(RC:rv=true->Rv.RunC):OneB rv:=fun n gb sd dt gr dr lim pr lr cr R pb lb cb B pw lw cw W pt lt ct T ps ls cs S sky st w hn g hF h64 hf hlr hl ir i1 i2 i3 i4=>by
 have CH:=fun v (a:Ab w v)=>tM (n:=n) (gb:=gb) (sd:=sd) (lim:=lim) (rv:=rv) (cr:=cr) (cb:=cb) (cw:=cw) (ct:=ct) (cs:=cs) (sky:=sky) (st:=st) (g.to a) hf (ir.below a) (i1.below a) (i2.below a) (i3.below a) (i4.below a)
 refine⟨fun e0=> ?_,fun e0=> ?_⟩
 ·obtain⟨rfl,-,-,⟨rfl,rfl,rfl,rfl⟩,oP,oS⟩:=er_ok e0 hf (fun i hi=>(i1 i hi).1) (fun i hi=>(i4 i hi).1)
  rw[e0]at CH
  have p1:n*n<=32*32:=Nat.mul_le_mul hn.2 hn.2
  have q6:6*n*n=6*(n*n):=Nat.mul_assoc _ _ _
  have q12:12*n*n=12*(n*n):=Nat.mul_assoc _ _ _
  have wi: ∀e,e<12*n*n->Sh.W64 (waF n lim gr dt dr B W S e):=fun e he=>by have:=wa_in (lim:=lim) oP oS he;unfold Sh.W64;omega
  have ti: ∀e,e<12*n*n->Sh.W64 (trF n lim gr dt dr B W T S e):=fun e he=>by have:=tr_in (lim:=lim) oP oS he;unfold Sh.W64;omega
  have mw:=BT (lim:=lim) oP oS
  have mt:=(BU (lim:=lim) oP oS).1
  have ra:=ra_ok (lim:=lim) oP oS
  have ss:=oS.1.2.2.2.2.2
  have vI: ∀{F:Nat->Int},Rv.okV (6*n*n) F-> ∀c,c<6*n*n->0<=F c/\F c<=9223372036854775807:=fun{F} h c hc=>by
   have:=h.1 c hc
   have:=kQ h.1 hc
   have:=h.2
   omega
  have mi: ∀c,c<6*n*n->Sh.W64 (mvW n lim gr dt dr B W S c):=fun c hc=>by have:=mw.1 c hc;unfold Sh.W64;omega
  have hi: ∀c,c<6*n*n->Sh.W64 (mvT n lim gr dt dr B W T S c):=fun c hc=>by have:=vI mt c hc;unfold Sh.W64;omega
  have ri: ∀c,c<6*n*n->Sh.W64 ((raX n lim gr dt dr lr R B W S sky st).1 c):=fun c hc=>by have:=vI ra.1 c hc;unfold Sh.W64;omega
  have s1:stN st=min (st+1) 4611686018427387904:=by
   unfold stN
   split<;>omega
  have PU:=fun v (a:Ab w v)=>vQ (sd:=(n:Nat)) (lim:=lim) (rv:=rv) (pr:=pr) (cr:=cr) (cb:=cb) (cw:=cw) (ct:=ct) (cs:=cs) hn (g.to a) oP oS hf (i1.below a) (i2.below a) (i3.below a) (i4.below a)
  have CL:=fun v (a:Ab w v)=>cloneF pb (6*n*n) cb B w.heap.size v (by omega) (i1.below a) a.size
  have MW:=fun v p c (a:Ab w v) (i:Sh.IsI v p (12*n*n) (waF n lim gr dt dr B W S))=>(Ms.moveC n gb pw _ cw W p _ c _ v hn (g.to a) (by omega) (by omega) (i2.below a) i).1 ⟨rfl,rfl⟩ (fun c hc=>by have:=mw.1 c hc;unfold mvW at this;omega)
  have MT:=fun v p c (a:Ab w v) (i:Sh.IsI v p (12*n*n) (trF n lim gr dt dr B W T S))=>(Ms.moveC n gb pt _ ct T p _ c _ v hn (g.to a) (by omega) (by omega) (i3.below a) i).1 ⟨rfl,rfl⟩ (fun c hc=>vI mt c hc)
  have RA:=fun v p c (a:Ab w v) (i:Sh.IsI v p (6*n*n) (mvW n lim gr dt dr B W S))=>(Rn.fallC p _ c _ sky pr lr cr R st v h64.2.2.1 h64.2.2.2 (by omega) (by have:=oP.2.2.1;omega) i (ir.below a)).1 (ra_good oP oS)
  have RI:=fun(z:rv=true) v p1 c1 p2 c2 p3 c3 p4 c4 (a:Ab w v) k1 k2 k3 k4=>(RC z n gb p1 _ c1 B p2 _ c2 (raX n lim gr dt dr lr R B W S sky st).1 p3 _ c3 (mvT n lim gr dt dr B W T S) p4 _ c4 (spE n gr dt dr B W S) (raX n lim gr dt dr lr R B W S sky st).2 (stN st) v hn (g.to a) k1 k2 k3 k4).1 (Ek oP oS)
  exact one21_go gb n dt gr dr lim rv pr lr cr _ _ pb cb pw cw pt ct ps cs sky st B (spE n gr dt dr B W S) _ _ _ _ _ _ _ (riX n lim gr dt dr rv lr R B W T S sky st).1 (riX n lim gr dt dr rv lr R B W T S sky st).2 _ _ w ss s1 ⟨fun e=>by unfold riX;rw[if_neg (by rw[e];decide)];exact⟨rfl,rfl⟩,fun e=>by unfold riX;rw[if_pos e];exact⟨rfl,rfl⟩⟩ CH PU CL MW MT RA RI ⟨fun c hc=>oS.2.1 c hc,fun e _=>(mN n gr dt dr B W S e).1,wi,ti,mi,hi,ri⟩
 ·exact one21_1 gb sd dt gr dr lim rv pr lr cr pb lb cb pw lw cw pt lt ct ps ls cs sky st _ w (by simpa using e0) CH
theorem oneF:OneF:=one_gen false (fun h=>by cases h)
end St
end
section
open Go.ChangeShapes Go.WideShapes Go.ChangeAt Go.WideMaps Go.WideElems Go.RowKit Go.Deep
theorem array6'{c:Array Value}(h:c.size=6): ∃v0 v1 v2 v3 v4 v5,c= #[v0,v1,v2,v3,v4,v5]:=by
 rcases c with⟨l⟩
 match l,h with
 | [v0,v1,v2,v3,v4,v5],_=>exact⟨v0,v1,v2,v3,v4,v5,rfl⟩
end
section
open Go.ChangeShapes Go.WideShapes Go.ChangeAt Go.WideMaps Go.WideElems Go.RowKit Go.Deep
theorem array7'{c:Array Value}(h:c.size=7): ∃v0 v1 v2 v3 v4 v5 v6,c= #[v0,v1,v2,v3,v4,v5,v6]:=by
 rcases c with⟨l⟩
 match l,h with
 | [v0,v1,v2,v3,v4,v5,v6],_=>exact⟨v0,v1,v2,v3,v4,v5,v6,rfl⟩
theorem AH{H:Type}{enc:TypeId × Value->H}{P:Program}{w:World}{base:Nat}{spare:Nat->Bool}{held:Bool}{t:TypeId}{fuel:Nat}{v:Value}{x:DataW H × List MemPlace}(ht:P.underlying t=some .bool)(h:DataW.trod enc P w base spare held fuel t [v]=some x):
  ∃b,v=.bool b:=by
 cases fuel with
 | zero=>simp[DataW.trod]at h
 | succ n=>
  unfold DataW.trod at h
  rw[ht]at h
  split at h<;>simp_all
end
section
open Go.ChangeShapes Go.WideShapes Go.ChangeAt Go.WideMaps Go.WideElems Go.RowKit Go.Deep
namespace Sh
theorem trod_int{H:Type}{enc:TypeId × Value->H}{P:Program}{w:World}{base:Nat}{spare:Nat->Bool}{held:Bool}{t:TypeId}{fuel:Nat}{v:Value}{x:DataW H × List MemPlace}(ht:P.underlying t=some (.int .i64))(h:DataW.trod enc P w base spare held fuel t [v]=some x):
  ∃b,v=.int .i64 b/\(-9223372036854775808<=b/\b<=9223372036854775807):=by
 obtain⟨k,e,_,wf⟩:=DataW.trod_int ht h
 simp at e
 simp only[Lit.wf,Bool.and_eq_true,decide_eq_true_eq]at wf
 have q1:IntKind.i64.min= -9223372036854775808:=by decide
 have q2:IntKind.i64.max=9223372036854775807:=by decide
 rw[q1,q2]at wf
 exact⟨k,e,wf⟩
theorem tN{w:World}{a:Addr}{v:Value}(h:w.cell? a=some v):a.block<w.heap.size:=by
 by_cases c:a.block<w.heap.size
 ·exact c
 ·exfalso
  have:w.heap[a.block]? =none:=by simp;omega
  simp[World.cell?,this]at h
theorem qN{α:Type}{n:Nat}{R:Nat->α->Prop}(d:α)(h: ∀i,i<n-> ∃x,R i x): ∃f:Nat->α,∀i,i<n->R i (f i):=by
 have: ∀i,∃x,i<n->R i x:=fun i=>by
  by_cases c:i<n
  ·obtain⟨x,h1⟩:=h i c
   exact⟨x,fun _=>h1⟩
  ·exact⟨d,fun h=>absurd h c⟩
 exact⟨fun i=>(this i).choose,fun i hi=>(this i).choose_spec hi⟩
theorem vR{H:Type}{enc:TypeId × Value->H}{W:World}{cs:List Value}{fuel:Nat}{x:DataW H × List MemPlace}
  (hf:DataW.trod enc prog W 0 (fun _=>true) true fuel 46 cs=some x): ∃a0 len cap xs,cs=[.slice a0 len cap]/\IsI W a0 len xs/\len<=cap/\cap<=maxLen:=by
 rcases open_slice1 underlying46 (by kernel_rfl) hf with⟨hcs,_⟩ | ⟨a,l,c,m,n,V,D,Pl,hcs,_,hl,hm,hmm,_,hx⟩
 ·exact⟨none,0,0,fun _=>0,hcs,fun k hk=>by omega,Nat.le_refl _,Nat.zero_le _⟩
 ·simp only[if_true]at hmm
  have each: ∀i,i<l-> ∃x:Int,W.cell? (a.add i)=some (.int .i64 x)/\(-9223372036854775808<=x/\x<=9223372036854775807):=by
   intro i hi
   obtain⟨h1,h2⟩:=hx i (by omega)
   obtain⟨x,e,wx⟩:=trod_int underlying2 h2
   rw[e]at h1
   exact⟨x,h1,wx⟩
  obtain⟨f,hf⟩:=qN 0 each
  refine⟨some a,l,c,f,hcs,fun k hk=>⟨(hf k hk).2,?_⟩,hl,hm⟩
  have h0:=(hf k hk).1
  have z:=(hf 0 (by omega)).1
  obtain⟨b,off,spot⟩:=a
  have hspot:spot=none:=by simpa [Addr.add]using World.cell?_spot z
  subst hspot
  rw[lU]at h0
  exact⟨b,off,rfl,tN h0,h0⟩
end Sh
end
section
open Go.ChangeShapes Go.WideShapes Go.ChangeAt Go.WideMaps Go.WideElems Go.RowKit Go.Deep
namespace Rn
open Sh
theorem Db{H:Type}{enc:TypeId × Value->H}{w:World}{base n:Nat}{spare:Nat->Bool}{held:Bool}{v0 v1 v2 v3:Value}{x:DataW H × List MemPlace}(h:DataW.trod enc prog w base spare held n 145 [v0,v1,v2,v3]=some x):
  ∃r:Int × Int × Int × Int,(v0=.int .i64 r.1/\v1=.int .i64 r.2.1/\v2=.int .i64 r.2.2.1/\v3=.int .i64 r.2.2.2)/\W4 r:=by
 have k1:Tryz.prog.cellsOf 2=1:=by kernel_rfl
 have k2:Tryz.prog.cellsOf 3=1:=by kernel_rfl
 obtain⟨xs,m,_,hx,hlen,hn,hel⟩:=DataW.trod_struct underlying145 h
 match xs,hn with
 | [x0,x1,x2,x3],_=>
  have h0:=hel 0 _ rfl
  have h1:=hel 1 _ rfl
  have h2:=hel 2 _ rfl
  have h3:=hel 3 _ rfl
  simp[k1,k2]at h0 h1 h2 h3
  obtain⟨a0,e0,i0⟩:=trod_int underlying3 h0
  obtain⟨a1,e1,i1⟩:=trod_int underlying2 h1
  obtain⟨a2,e2,i2⟩:=trod_int underlying3 h2
  obtain⟨a3,e3,i3⟩:=trod_int underlying3 h3
  exact⟨(a0,a1,a2,a3),⟨e0,e1,e2,e3⟩,i0,i1,i2,i3⟩
theorem Dc{H:Type}{enc:TypeId × Value->H}{W:World}{cs:List Value}{fuel:Nat}{x:DataW H × List MemPlace}
  (hf:DataW.trod enc prog W 0 (fun _=>true) true fuel 43 cs=some x): ∃a0 len cap R,cs=[.slice a0 len cap]/\IsRn W a0 len R/\len<=cap/\(a0=none->len=0/\cap=0)/\(0<cap-> ∀b o sp,a0=some ⟨b,o,sp⟩->sp=none)/\((∀elems spare,x.1=.slice elems spare->(elems.length+spare.length)*32<=reachBytes)->cap<=17592186044416):=by
 rcases open_slice underlying43 hf with⟨hcs,_⟩ | ⟨a,l,c,m,n,D,Pl,hcs,_,hl,hm,hmm,hxx,hx⟩
 ·exact⟨none,0,0,fun _=>(0,0,0,0),hcs,IsRn.nil _ _ _,Nat.le_refl _,fun _=>⟨rfl,rfl⟩,fun h=>by omega,fun _=>by omega⟩
 ·simp only[if_true]at hmm
  have ce:Tryz.prog.cellsOf 145=4:=by kernel_rfl
  have each: ∀i,i<m-> ∃r:Int × Int × Int × Int,(W.cell? (a.add (i*4))=some (.int .i64 r.1)/\W.cell? (a.add (i*4+1))=some (.int .i64 r.2.1)/\W.cell? (a.add (i*4+2))=some (.int .i64 r.2.2.1)/\W.cell? (a.add (i*4+3))=some (.int .i64 r.2.2.2))/\W4 r:=by
   intro i hi
   obtain⟨cs',h1,h2⟩:=hx i hi
   rw[ce]at h1
   obtain⟨_,hlen,hcell⟩:=World.cells?_some h1
   match cs',hlen with
   | [v0,v1,v2,v3],_=>
    obtain⟨r,⟨rfl,rfl,rfl,rfl⟩,h4⟩:=Db h2
    have e0:=hcell 0 (by omega)
    have e1:=hcell 1 (by omega)
    have e2:=hcell 2 (by omega)
    have e3:=hcell 3 (by omega)
    rw[add_add]at e0 e1 e2 e3
    exact⟨r,⟨by simpa using e0,by simpa using e1,by simpa using e2,by simpa using e3⟩,h4⟩
  obtain⟨R,hR⟩:=qN (0,0,0,0) each
  subst hmm
  refine⟨some a,l,m,R,hcs,fun k hk=>⟨(hR k (by omega)).2,?_⟩,hl,fun h=>(by cases h),fun h b o sp e=> ?_,fun h=> ?_⟩
  ·have h0:=(hR k (by omega)).1
   obtain⟨b,off,spot⟩:=a
   have hspot:spot=none:=by simpa [Addr.add]using World.cell?_spot (hR 0 (by omega)).1.1
   subst hspot
   simp only[lU]at h0
   exact⟨b,off,rfl,tN h0.1,h0.1,by simpa only[Nat.add_assoc]using h0.2.1,by simpa only[Nat.add_assoc]using h0.2.2.1,by simpa only[Nat.add_assoc]using h0.2.2.2⟩
  ·have h0:=(hR 0 h).1
   cases e
   simpa [Addr.add]using World.cell?_spot h0.1
  ·have:=h _ _ (by rw[hxx])
   simp only[List.length_map,List.length_range,reachBytes]at this
   omega
theorem vS{H:Type}{P:Program}{ts:List TypeId}{ds:List (DataW H)}(h:(DataW.weightsEach P ts ds).all (· <=reachBytes)=true){j:Nat}{t:TypeId}{fs:Array Field}{parts:List (DataW H)}(ht:ts[j]? =some t)(hd:ds[j]? =some (.agg parts))(hu:P.underlying t=some (.struct fs)):
  (DataW.weightsEach P (fs.toList.map (·.type)) parts).all (· <=reachBytes)=true:=by
 refine List.all_eq_true.2 (fun n hn=> ?_)
 exact List.all_eq_true.1 h _ (DataW.weights_mem_each ht hd n (by simpa [DataW.weights,hu]using hn))
theorem bytesR18:Tryz.prog.bytesOf 145=32:=by kernel_rfl
end Rn
end
section
open Go.ChangeShapes Go.WideShapes Go.ChangeAt Go.WideMaps Go.WideElems Go.RowKit Go.Deep
namespace Ss
theorem AI:Tryz.prog.bytesOf 35=8:=by kernel_rfl
theorem AJ:Tryz.prog.bytesOf 2=8:=by kernel_rfl
end Ss
end
section
open Go.ChangeShapes Go.WideShapes Go.ChangeAt Go.WideMaps Go.WideElems Go.RowKit Go.Deep
namespace St
open Ss
theorem iK{H:Type}{enc:TypeId × Value->H}{W:World}{T E:TypeId}{a0:Option Addr}{len0 cap0:Nat}{fuel:Nat}{x:DataW H × List MemPlace}(hu:Tryz.prog.underlying T=some (.slice E))(h1:Tryz.prog.cellsOf E=1)
  (hf:DataW.trod enc prog W 0 (fun _=>true) true fuel T [.slice a0 len0 cap0]=some x) (hs: ∀elems spare,x.1=.slice elems spare->(elems.length+spare.length)*8<=reachBytes):len0<=17592186044416:=by
 rcases Go.Deep.open_slice1 hu h1 hf with⟨hcs,_⟩ | ⟨a,l,c,m,n,V,D,Pl,hcs,_,hl,hm,hmm,hx,_⟩
 ·simp at hcs
  obtain⟨rfl,rfl,rfl⟩:=hcs
  exact Nat.zero_le _
 ·simp at hcs
  obtain⟨rfl,rfl,rfl⟩:=hcs
  simp only[if_true]at hmm
  subst hmm
  have:=hs _ _ (by rw[hx])
  simp only[List.length_map,List.length_range,reachBytes]at this
  omega
theorem Dd{H:Type}{enc:TypeId × Value->H}{W:World}{r:Reach}{b0:Nat}{v:Value}{d:DataW H}{p:List MemPlace}(hv:Value.okWide prog W r b0 48 v)(h:DataW.Trod enc prog W 0 (fun _=>true) true 48 v d p)
  (hz: ∀parts,d=.agg parts->(DataW.weightsEach prog [38,46,46,38,2,3] parts).all (· <=reachBytes)=true):
  ∃pb lb cb B pw lw cw Wt pt lt ct Tr ps ls cs Sp sky st,v=.agg #[.slice pb lb cb,.slice pw lw cw,.slice pt lt ct,.slice ps ls cs,.int .i64 sky,.int .i64 st]/\(IsFl W pb lb B/\Sh.IsI W pw lw Wt/\Sh.IsI W pt lt Tr/\IsFl W ps ls Sp)/\(lb<=17592186044416/\lw<=17592186044416/\lt<=17592186044416/\ls<=17592186044416)/\Sh.W64 sky/\Sh.W64 st:=by
 have hC:Tryz.prog.cellsOf 48=6:=by kernel_rfl
 have k0:Tryz.prog.cellsOf 38=1:=by kernel_rfl
 have k1:Tryz.prog.cellsOf 46=1:=by kernel_rfl
 have k2:Tryz.prog.cellsOf 2=1:=by kernel_rfl
 have k3:Tryz.prog.cellsOf 3=1:=by kernel_rfl
 obtain⟨cs,rfl,hsz⟩:=okWide_struct underlying48 hv
 obtain⟨v0,v1,v2,v3,v4,v5,rfl⟩:=array6' (hsz.trans hC)
 obtain⟨fuel,hf⟩:=h
 have hf':DataW.trod enc prog W 0 (fun _=>true) true fuel 48 [v0,v1,v2,v3,v4,v5]=some (d,p):=by simpa [Value.cells]using hf
 obtain⟨xs,m,_,hx,hlen,hn,hel⟩:=DataW.trod_struct underlying48 hf'
 match xs,hn with
 | [x0,x1,x2,x3,x4,x5],_=>
  have h0:=hel 0 _ rfl
  have h1:=hel 1 _ rfl
  have h2:=hel 2 _ rfl
  have h3:=hel 3 _ rfl
  have h4:=hel 4 _ rfl
  have h5:=hel 5 _ rfl
  simp[k0,k1,k2,k3]at h0 h1 h2 h3 h4 h5
  have hzz:=hz _ (congrArg Prod.fst hx)
  obtain⟨pb,lb,cb,B,e0,i0,-,-⟩:=uU h0
  obtain⟨pw,lw,cw,Wt,e1,i1,-,-⟩:=Sh.vR h1
  obtain⟨pt,lt,ct,Tr,e2,i2,-,-⟩:=Sh.vR h2
  obtain⟨ps,ls,cs,Sp,e3,i3,-,-⟩:=uU h3
  obtain⟨sky,e4,g4⟩:=Sh.trod_int underlying2 h4
  obtain⟨st,e5,g5⟩:=Sh.trod_int underlying3 h5
  simp at e0 e1 e2 e3
  subst e0 e1 e2 e3 e4 e5
  exact⟨pb,lb,cb,B,pw,lw,cw,Wt,pt,lt,ct,Tr,ps,ls,cs,Sp,sky,st,rfl,⟨i0,i1,i2,i3⟩,⟨iK underlying38 (by kernel_rfl) h0 (fun elems spare e=>by have q:=sized_slice hzz (j:=0) (t:=38) (e:=35) (elems:=elems) (spare:=spare) rfl (by rw[<- e];rfl) underlying38;rw[AI]at q;exact q),iK underlying46 (by kernel_rfl) h1 (fun elems spare e=>by have q:=sized_slice hzz (j:=1) (t:=46) (e:=2) (elems:=elems) (spare:=spare) rfl (by rw[<- e];rfl) underlying46;rw[AJ]at q;exact q),iK underlying46 (by kernel_rfl) h2 (fun elems spare e=>by have q:=sized_slice hzz (j:=2) (t:=46) (e:=2) (elems:=elems) (spare:=spare) rfl (by rw[<- e];rfl) underlying46;rw[AJ]at q;exact q),iK underlying38 (by kernel_rfl) h3 (fun elems spare e=>by have q:=sized_slice hzz (j:=3) (t:=38) (e:=35) (elems:=elems) (spare:=spare) rfl (by rw[<- e];rfl) underlying38;rw[AI]at q;exact q)⟩,g4,g5⟩
theorem AM{H:Type}{enc:TypeId × Value->H}{W:World}{r:Reach}{b0:Nat}{v:Value}{d:DataW H}{p:List MemPlace}(hv:Value.okWide prog W r b0 45 v)(h:DataW.Trod enc prog W 0 (fun _=>true) true 45 v d p)
  (hz: ∀parts,d=.agg parts->(DataW.weightsEach prog [3,35,35,35,3,4,43] parts).all (· <=reachBytes)=true):
  ∃sd dt gr dr lim rv pr lr cr R,v=.agg #[.int .i64 sd,.float .f64 dt,.float .f64 gr,.float .f64 dr,.int .i64 lim,.bool rv,.slice pr lr cr]/\Sh.W64 sd/\Sh.W64 lim/\(dt<18446744073709551616/\gr<18446744073709551616/\dr<18446744073709551616)/\Rn.IsRn W pr lr R/\lr<=17592186044416:=by
 have hC:Tryz.prog.cellsOf 45=7:=by kernel_rfl
 obtain⟨cs,rfl,hsz⟩:=okWide_struct underlying45 hv
 obtain⟨v0,v1,v2,v3,v4,v5,v6,rfl⟩:=array7' (hsz.trans hC)
 obtain⟨fuel,hf⟩:=h
 have hf':DataW.trod enc prog W 0 (fun _=>true) true fuel 45 [v0,v1,v2,v3,v4,v5,v6]=some (d,p):=by simpa [Value.cells]using hf
 have k0:Tryz.prog.cellsOf 35=1:=by kernel_rfl
 have k1:Tryz.prog.cellsOf 4=1:=by kernel_rfl
 have k2:Tryz.prog.cellsOf 43=1:=by kernel_rfl
 have k3:Tryz.prog.cellsOf 3=1:=by kernel_rfl
 obtain⟨xs,m,_,hx,hlen,hn,hel⟩:=DataW.trod_struct underlying45 hf'
 match xs,hn with
 | [x0,x1,x2,x3,x4,x5,x6],_=>
  have h0:=hel 0 _ rfl
  have h1:=hel 1 _ rfl
  have h2:=hel 2 _ rfl
  have h3:=hel 3 _ rfl
  have h4:=hel 4 _ rfl
  have h5:=hel 5 _ rfl
  have h6:=hel 6 _ rfl
  simp[k0,k1,k2,k3]at h0 h1 h2 h3 h4 h5 h6
  obtain⟨sd,rfl,i0⟩:=Sh.trod_int underlying3 h0
  obtain⟨dt,rfl,i1⟩:=jQ underlying35 h1
  obtain⟨gr,rfl,i2⟩:=jQ underlying35 h2
  obtain⟨dr,rfl,i3⟩:=jQ underlying35 h3
  obtain⟨lim,rfl,i4⟩:=Sh.trod_int underlying3 h4
  obtain⟨rv,rfl⟩:=AH underlying4 h5
  obtain⟨pr,lr,cr,R,e6,ir,j6,-,-,z6⟩:=Rn.Dc h6
  simp at e6
  subst e6
  have hzz:=hz _ (congrArg Prod.fst hx)
  have sz:=z6 (fun elems spare e=>by have q:=sized_slice hzz (j:=6) (t:=43) (e:=145) (elems:=elems) (spare:=spare) rfl (by rw[<- e];rfl) underlying43;rw[Rn.bytesR18]at q;exact q)
  exact⟨_,_,_,_,_,_,_,_,_,R,rfl,i0,i4,⟨i1,i2,i3⟩,ir,by omega⟩
end St
end
end Go.Proofs.YtmhnilnaffjhmaaGreatDoor
