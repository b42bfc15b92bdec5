/-
  Some of the texts of this proof, one behind the other.
-/
import Derived.Laws.EntriesVeiled
import Derived.ProofKit
import Derived.OpenShut
import Derived.WalkLawsBesides
import Derived.Stop.Joined
import Derived.Carry
import Derived.Lib.SmallJoins
import Derived.Test.YtaphajlpbgcfjaaGreatDoorPa23
set_option maxRecDepth 100000
set_option maxHeartbeats 400000000
namespace Go.Proofs.YtaphajlpbgcfjaaGreatDoor
open _root_.Go.Proofs.Tryz
section
open Go.RowKit Go.Deep
namespace Rn
open Sh
theorem fall_go(pw:Option Addr)(lw cw:Nat)(W:Nat->Int)(s:Int)(pr:Option Addr)(lr cr:Nat)(R:Nat->Int × Int × Int × Int)(st:Int)(w:World)(h1:decide (st<0)=false)(h2:dK s=false)(hlr:lr<=1024)(hlw:lw<=17592186044416)(IW:Hid (IsI w pw lw W))(IR:Hid (IsRn w pr lr R))(HW:Hid (∀i,i<lw->dK (W i)=false))(HV:Hid (∀k,k<lr->vB (lw:Nat) (R k)=true))(HX:Hid (∀k,k<=lr->(∀i,i<lw->0<=(rnN st R (W,s) k).1 i/\(rnN st R (W,s) k).1 i<=4616189618054758400)/\0<=(rnN st R (W,s) k).2/\(rnN st R (W,s) k).2<=4616189618054758400))(h0:0<lw):
  Calls prog 24 #[.slice pw lw cw,.int .i64 s,.slice pr lr cr,.int .i64 st] w fun e w'=> ∃v,e=.returned (.tuple #[v,.int .i64 (rnN st R (W,s) lr).2,.int .i64 0])/\Below w.heap.size w w'/\Sh.Own w.heap.size v ((List.range lw).map (rnN st R (W,s) lr).1) w':=by
 have H2:=hid h2
 have HLW:=hid hlw
 clear h2 hlw
 have hmf: ∀(fn:Fn) (first cap:Array Value) (w:World),(Instr.makeFunc fn first cap).run prog w=.ok (.func fn first cap) w:=fun _ _ _ _=>rfl
 obtain⟨A0,R0⟩:=aO w (.cells #[.int .i64 s] 2)
 have CA:Hid (∀v,Ab w v->Calls prog 77 #[.int .i64 (lw:Nat),.slice pr lr cr] v fun e w'=>e=.returned (.bool true)/\Below v.heap.size v w'):=fun v a=>zF lw pr lr cr R v hlr (IR.out.below a) HV
 have HLR:=hid hlr
 clear hlr
 go_enter func24,ntmps24
 go_upto_region 1 with fail
 generalize hW:World.alloc w _=V0 at*
 obtain⟨gs,hgs⟩:=aD w.heap.size
 have HG:=hid hgs
 rw[hgs]at R0 ⊢
 clear hgs hW
 have x0:=aA 0 R0.out
 have CO:=hid (mA s V0)
 rw[H2.out]at CO
 have CC:=hid (CO.out)
 go_wp2_with fail
 refine CC.out.mono ?_
 rintro e9 v9 ⟨rfl,hv9⟩
 have hv8:=hv9.symm
 subst hv8
 clear CC
 have CC:=hid (oW pw lw cw W V0 HLW.out (IW.out.below A0.out) HW.out)
 go_wp2_with fail
 refine CC.out.mono ?_
 rintro e9 v9 ⟨rfl,hv9⟩
 have hv8:=hv9.symm
 subst hv8
 clear CC
 have CC:=hid (CA.out V0 A0.out)
 go_wp2_with fail
 refine CC.out.mono ?_
 rintro e9 V1 ⟨rfl,b1⟩
 have A1:Hid (Ab V0 V1):=b1
 clear CC b1
 have R1:=hid (Ab.heap A1.out R0.out)
 have CC:=hid (sZ pw lw cw W V1 HLW.out (IW.out.below (A0.out.trans A1.out)))
 go_wp2_with fail
 refine CC.out.mono ?_
 rintro e9 V2 ⟨hv,rfl,b2,o2⟩
 have A2:Hid (Ab V1 V2):=b2
 have O2:=hid o2
 have R2:=hid (Ab.heap A2.out R1.out)
 clear CC b2 o2 x0
 obtain⟨og,oc,F2,rfl,hog,hoc,hom,row,hF⟩:=FH O2.out h0
 have ogl:og<V2.heap.size:=row.lt
 go_upto_region 5 with fail
 obtain⟨A3,H3,M3⟩:=bM V2 (.cells #[.slice (some ⟨og,0,none⟩) lw oc] 27) (.cells #[.func (.func 79) #[] #[.pointer (some ⟨V2.heap.size,0,none⟩),.pointer (some ⟨gs,0,none⟩)]] 122)
 generalize hW:World.alloc (World.alloc V2 _) _=V3 at*
 have gsl:gs<V1.heap.size:=by
  have:=Below.size A0.out
  have e1:gs<V0.heap.size:=by
   rcases Nat.lt_or_ge gs V0.heap.size with h | h
   ·exact h
   ·have:=R0.out;rw[Array.getElem?_eq_none h]at this;cases this
  exact Nat.lt_of_lt_of_le e1 A1.out.size
 have DI:Hid (Ah gs V2.heap.size (V2.heap.size+1) og):=⟨by omega,by omega,by omega,by omega,by omega⟩
 have AT:Hid (jR gs V2.heap.size (V2.heap.size+1) og oc lw 122 s W V3):=⟨Ab.heap A3.out R2.out,H3.out,M3.out,F2,cW row A3.out,hF⟩
 have AW:Hid (Ab w V3):=A0.out.trans (A1.out.trans (A2.out.trans A3.out))
 have BG:Hid (gs<=og/\lw<=oc/\oc<=maxLen):=⟨by omega,hoc,hom⟩
 have H0:=hid h0
 obtain⟨gh,hgh⟩:=aD V2.heap.size
 rw[hgh]at DI AT ⊢
 obtain⟨gm,hgm⟩:=aD (gh+1)
 rw[hgm]at DI AT ⊢
 clear hgh hgm hW H3 M3 A3 A0 A1 A2 R0 R1 R2 O2 row hF hog hoc hom ogl gsl CO CA h0
 go_wp2
 go_loopw [41] (fun iv wz=> ∃c:Nat,c<=lr/\iv=.int .i64 (c:Nat)/\Ab w wz/\jR gs gh gm og oc lw 122 (rnN st R (W,s) c).2 (rnN st R (W,s) c).1 wz) (fun iv _=>lr - (intOf iv).toNat)
 case atStart=>exact⟨0,by omega,rfl,AW.out,AT.out⟩
 case round=>
  obtain⟨c,hc,rfl,ar,ow⟩:=hrel
  have AQ:=hid ar
  have OZ:=hid ow
  clear ar ow AW AT
  obtain⟨sk,hsk⟩:=aD ((rnN st R (W,s) c).2)
  have SK:=hid hsk
  have hb:=HX.out c hc
  rw[hsk]at hb OZ
  have s1:=hb.2.1
  have s2:=hb.2.2
  have XB:=hid hb.1
  clear hsk hb
  by_cases hcn:c<lr
  ·have HC:=hid hcn
   have hcI:(c:Int)<lr:=by omega
   have hcB:(c:Int)<=1024:=by have:=HLR.out;omega
   obtain⟨rb,ro,rfl⟩:=IR.out.some0 (show 0<lr by omega)
   obtain⟨r1,r2,r3,r4,hr⟩: ∃a b c' d,R c=(a,b,c',d):=⟨_,_,_,_,rfl⟩
   have at0:=((IR.out.below AQ.out).at0 hcn)
   rw[hr]at at0
   have y0:=at0.2.2.1
   have y1:=at0.2.2.2.1
   have y2:=at0.2.2.2.2.1
   have y3:=at0.2.2.2.2.2
   have RE:=hid hr
   clear at0 hr hcn hc
   have ok:=Bz.1 (HV.out c HC.out)
   rw[RE.out]at ok
   obtain⟨k,rfl⟩: ∃k:Nat,r1=(k:Nat):=⟨r1.toNat,by have:=ok.1;omega⟩
   have hk:k<lw:=by have:=ok.2.1;dsimp only at this;omega
   have HK:=hid hk
   have ra1:=ok.2.2.1
   have ra2:=ok.2.2.2.1
   dsimp only at ra1 ra2
   obtain⟨x,hx⟩:=aD ((rnN st R (W,s) c).1 k)
   have xb:=XB.out k hk
   rw[hx]at xb
   have xb1:=xb.1
   have xb2:=xb.2
   have XE:=hid hx
   clear hx xb ok hk
   obtain⟨gz,hgz⟩:=aD wr.heap.size
   go_upto_region 10 with fail
   have AL:=jA (bl1 wr (.cells #[.int .i64 (k:Nat),.int .i64 r2,.int .i64 r3,.int .i64 r4] 72))
   have RZ:Hid ((wr.alloc (.cells #[.int .i64 (k:Nat),.int .i64 r2,.int .i64 r3,.int .i64 r4] 72)).heap[gz]? =some (.cells #[.int .i64 (k:Nat),.int .i64 r2,.int .i64 r3,.int .i64 r4] 72)):=by rw[<- hgz];exact heap_alloc_new _ _
   generalize hW:World.alloc wr _=V4 at*
   clear hW hgz y0 y1 y2 y3
   have x0:=aA 0 RZ.out
   have x1:=aA 1 RZ.out
   have x2:=aA 2 RZ.out
   have x3:=aA 3 RZ.out
   have CF:=hid (falls_at (k:Nat) r2 r3 r4 st V4)
   have FE:Hid (fallB st ((k:Nat),r2,r3,r4)=(decide (r3<=st)&&decide (st<r4))):=rfl
   cases fb:fallB st ((k:Nat),r2,r3,r4)with
   | false=>
    have NX:Hid (rnN st R (W,s) (c+1)=rnN st R (W,s) c):=rn_skip RE.out (by
     rw[FE.out]at fb
     rcases Bool.and_eq_false_iff.1 fb with h | h
     ·have:=of_decide_eq_false h;exact .inl (by omega)
     ·have:=of_decide_eq_false h;exact .inr (by omega))
    rw[fb]at CF
    clear fb FE
    go_wp2_with fail
    refine CF.out.mono ?_
    rintro e9 V5 ⟨rfl,b5⟩
    have A5:Hid (Ab wr V5):=AL.out.trans b5
    clear b5
    go_wp2
    exact⟨⟨c+1,by have:=HC.out;omega,by simp,AQ.out.trans A5.out,by rw[NX.out,SK.out];exact OZ.out.to A5.out⟩,by have:=HC.out;simp[intOf];omega⟩
   | true=>
    have fb2:=fb
    rw[FE.out,Bool.and_eq_true,decide_eq_true_eq,decide_eq_true_eq]at fb2
    have NF:=hid (rn_fall RE.out (show¬st<r3 by omega) (show¬r4<=st by omega) SK.out XE.out)
    rw[fb]at CF
    clear fb fb2 FE
    have dI:=dn_in (a:=r2) s1 xb1
    have dB:=dn_bd (a:=r2) (m:=4503599627370496) s1 xb1 ⟨ra1,ra2⟩
    obtain⟨d,hd⟩:=aD (dn r2 sk x)
    rw[hd]at dI dB NF
    have DE:=hid hd
    have d1:=dI.1
    have d2:=dI.2
    have d3:=dB.1
    have d4:=dB.2
    clear hd dI dB
    go_wp2_with fail
    refine CF.out.mono ?_
    rintro e9 V5 ⟨rfl,b5⟩
    have A5:Hid (Ab wr V5):=AL.out.trans b5
    have R5:=hid (Ab.heap b5 RZ.out)
    clear b5 x0 x1 x2 x3
    have x0:=aA 0 R5.out
    have x1:=aA 1 R5.out
    have x2:=aA 2 R5.out
    have x3:=aA 3 R5.out
    have O5:=hid (OZ.out.to A5.out)
    by_cases f3:0<r2
    ·have e3:decide (0<r2)=true:=decide_eq_true f3
     have dq:(if sk<r2 then sk else r2)=d:=by
      rw[<- DE.out]
      unfold dn
      rw[if_neg (show¬r2<0 by omega)]
     have CG:=hid (fall18 gs gh gm og oc lw k 122 sk x d r2 r3 r4 _ V5 O5.out DI.out BG.out.2.1 HLW.out HK.out XE.out dq (by omega) (by omega) (by omega) (by omega))
     clear dq f3
     go_wp2_with fail
     refine CG.out.mono ?_
     rintro e8 V6 ⟨rfl,u6,a6,hv6⟩
     have A6:=hid a6
     have E6:=hid hv6
     clear a6 hv6 CG
     go_wp2
     refine⟨⟨c+1,by have:=HC.out;omega,by simp,?_,?_⟩,by have:=HC.out;simp[intOf];omega⟩
     ·rw[E6.out]
      exact mov_ab (AQ.out.trans (A5.out.trans A6.out)) (Nat.le_of_eq HG.out) (by rw[HG.out];exact BG.out.1)
     ·rw[E6.out,NF.out.1]
      exact((O5.out.to A6.out).mov DI.out k _ _).congr (fun i _=>(NF.out.2 i).symm)
    ·have e3:decide (0<r2)=false:=decide_eq_false f3
     by_cases f4:r2<0
     ·have e4:decide (r2<0)=true:=decide_eq_true f4
      obtain⟨q,hq⟩:=aD ((if x< -r2 then x else -r2))
      have dq:d= -q:=by
       rw[<- DE.out,<- hq]
       unfold dn
       rw[if_pos f4]
      have CG:=hid (up18 gs gh gm og oc lw k 122 sk x q r2 r3 r4 _ V5 O5.out DI.out BG.out.2.1 HLW.out HK.out XE.out hq (by omega) (by omega) (by omega) (by omega) (by omega) (by omega) (by omega) (by omega))
      clear hq f3 f4
      go_wp2_with fail
      refine CG.out.mono ?_
      rintro e8 V6 ⟨rfl,u6,a6,hv6⟩
      have A6:=hid a6
      have E6:=hid hv6
      clear a6 hv6 CG
      go_wp2
      refine⟨⟨c+1,by have:=HC.out;omega,by simp,?_,?_⟩,by have:=HC.out;simp[intOf];omega⟩
      ·rw[E6.out]
       exact mov_ab (AQ.out.trans (A5.out.trans A6.out)) (Nat.le_of_eq HG.out) (by rw[HG.out];exact BG.out.1)
      ·rw[E6.out,NF.out.1,dq]
       exact((O5.out.to A6.out).mov DI.out k _ _).congr (fun i _=>by rw[<- dq];exact(NF.out.2 i).symm)
     ·have e4:decide (r2<0)=false:=decide_eq_false f4
      have r20:r2=0:=by omega
      have d0:d=0:=by
       rw[<- DE.out,r20]
       unfold dn
       rw[if_neg (by decide)]
       split<;>omega
      clear f3 f4 r20
      go_wp2
      refine⟨⟨c+1,by have:=HC.out;omega,by simp,AQ.out.trans A5.out,?_⟩,by have:=HC.out;simp[intOf];omega⟩
      rw[NF.out.1,d0,Int.sub_zero]
      refine O5.out.congr (fun i _=> ?_)
      rw[NF.out.2 i,d0]
      by_cases e:i=k
      ·rw[if_pos e,e,XE.out]
       omega
      ·rw[if_neg e]
  ·have e6:lr=c:=by omega
   subst e6
   have x0:=aA 0 OZ.out.1
   have x1:=aA 0 OZ.out.2.1
   go_wp2
   go_region
   go_wp2
   go_ret3
   obtain⟨-,-,-,F9,r9,f9⟩:=OZ.out
   exact⟨_,by rw[SK.out];rfl,by exact AQ.out.drew,by rw[HG.out];exact FI r9.drew BG.out.1 BG.out.2.1 BG.out.2.2 f9⟩
theorem fall_go0(pw:Option Addr)(lw cw:Nat)(W:Nat->Int)(s:Int)(pr:Option Addr)(lr cr:Nat)(R:Nat->Int × Int × Int × Int)(st:Int)(w:World)(h1:decide (st<0)=false)(h2:dK s=false)(hlr:lr<=1024)(hlw:lw<=17592186044416)(IW:Hid (IsI w pw lw W))(IR:Hid (IsRn w pr lr R))(HW:Hid (∀i,i<lw->dK (W i)=false))(HV:Hid (∀k,k<lr->vB (lw:Nat) (R k)=true))(HZ:Hid (lw=0))(HY:Hid (lr=0)):
  Calls prog 24 #[.slice pw lw cw,.int .i64 s,.slice pr lr cr,.int .i64 st] w fun e w'=> ∃v,e=.returned (.tuple #[v,.int .i64 (rnN st R (W,s) lr).2,.int .i64 0])/\Below w.heap.size w w'/\Sh.Own w.heap.size v ((List.range lw).map (rnN st R (W,s) lr).1) w':=by
 have H2:=hid h2
 have HLW:=hid hlw
 clear h2 hlw
 have hmf: ∀(fn:Fn) (first cap:Array Value) (w:World),(Instr.makeFunc fn first cap).run prog w=.ok (.func fn first cap) w:=fun _ _ _ _=>rfl
 obtain⟨A0,R0⟩:=aO w (.cells #[.int .i64 s] 2)
 have CA:Hid (∀v,Ab w v->Calls prog 77 #[.int .i64 (lw:Nat),.slice pr lr cr] v fun e w'=>e=.returned (.bool true)/\Below v.heap.size v w'):=fun v a=>zF lw pr lr cr R v hlr (IR.out.below a) HV
 have HLR:=hid hlr
 clear hlr
 go_enter func24,ntmps24
 go_upto_region 1 with fail
 generalize hW:World.alloc w _=V0 at*
 obtain⟨gs,hgs⟩:=aD w.heap.size
 have HG:=hid hgs
 rw[hgs]at R0 ⊢
 clear hgs hW
 have x0:=aA 0 R0.out
 have CO:=hid (mA s V0)
 rw[H2.out]at CO
 have CC:=hid (CO.out)
 go_wp2_with fail
 refine CC.out.mono ?_
 rintro e9 v9 ⟨rfl,hv9⟩
 have hv8:=hv9.symm
 subst hv8
 clear CC
 have CC:=hid (oW pw lw cw W V0 HLW.out (IW.out.below A0.out) HW.out)
 go_wp2_with fail
 refine CC.out.mono ?_
 rintro e9 v9 ⟨rfl,hv9⟩
 have hv8:=hv9.symm
 subst hv8
 clear CC
 have CC:=hid (CA.out V0 A0.out)
 go_wp2_with fail
 refine CC.out.mono ?_
 rintro e9 V1 ⟨rfl,b1⟩
 have A1:Hid (Ab V0 V1):=b1
 clear CC b1
 have R1:=hid (Ab.heap A1.out R0.out)
 have CC:=hid (sZ pw lw cw W V1 HLW.out (IW.out.below (A0.out.trans A1.out)))
 go_wp2_with fail
 refine CC.out.mono ?_
 rintro e9 V2 ⟨hv,rfl,b2,o2⟩
 have A2:Hid (Ab V1 V2):=b2
 have O2:=hid o2
 have R2:=hid (Ab.heap A2.out R1.out)
 clear CC b2 o2 x0
 obtain⟨oa,oc,he⟩: ∃a0 cap,hv=.slice a0 lw cap:=by
  rcases O2.out.2 with⟨q,h0⟩ | ⟨g,cap,cur,q,_⟩
  ·refine⟨none,0,?_⟩
   rw[q]
   simp at h0
   rw[h0]
  ·refine⟨some ⟨g,0,none⟩,cap,?_⟩
   rw[q]
   simp
 subst he
 go_upto_region 5 with fail
 obtain⟨A3,H3,M3⟩:=bM V2 (.cells #[.slice oa lw oc] 27) (.cells #[.func (.func 79) #[] #[.pointer (some ⟨V2.heap.size,0,none⟩),.pointer (some ⟨gs,0,none⟩)]] 122)
 generalize hW:World.alloc (World.alloc V2 _) _=V3 at*
 have AW:Hid (Ab w V3):=A0.out.trans (A1.out.trans (A2.out.trans A3.out))
 have O3:=hid (O2.out.to A3.out)
 have R3:=hid (Ab.heap A3.out R2.out)
 have B1:Hid (w.heap.size<=V1.heap.size):=(A0.out.trans A1.out).size
 obtain⟨gh,hgh⟩:=aD V2.heap.size
 rw[hgh]at H3 ⊢
 have x0:=aA 0 R3.out
 have x1:=aA 0 H3.out
 have h00:=HY.out
 subst h00
 clear hgh hW M3 A3 A0 A1 A2 R0 R1 R2 O2 CO CA HY
 go_wp2
 go_loopw [41] (fun iv wz=>iv=.int .i64 0/\wz=V3) (fun _ _=>0)
 case atStart=>exact⟨rfl,rfl⟩
 case round=>
  obtain⟨rfl,hwr⟩:=hrel
  have hw2:=hwr.symm
  subst hw2
  go_wp2
  go_region
  go_wp2
  go_ret3
  refine⟨_,rfl,by exact AW.out.drew,?_⟩
  have o:=O3.out
  rw[HZ.out]at o ⊢
  rcases o.2 with⟨q,e⟩ | ⟨g,cap,cur,q,hb,rest⟩
  ·exact⟨o.1,.inl ⟨q,e⟩⟩
  ·exact⟨o.1,.inr ⟨g,cap,cur,q,Nat.le_trans B1.out hb,rest⟩⟩
theorem fallC:FallC:=fun pw lw cw W s pr lr cr R st w _ _ hlw hlr iw ir=>by
 by_cases h1:st<0
 ·exact⟨fun g=>absurd g.1 (by omega),fun _=>fall_no1 pw lw cw s pr lr cr st w (decide_eq_true h1)⟩
 ·cases h2:dK s with
  | true=>exact⟨fun g=>absurd (qN.2 g.2.1) (by rw[h2];decide),fun _=>fall_no2 pw lw cw s pr lr cr st w (decide_eq_false h1) h2⟩
  | false=>
   by_cases h5: ∀i,i<lw->dK (W i)=false
   ·by_cases h6:1024<lr\/ ¬ ∀k,k<lr->vB (lw:Nat) (R k)=true
    ·refine⟨fun g=> ?_,fun _=>fall_no4 pw lw cw W s pr lr cr R st w (decide_eq_false h1) h2 hlw iw ir h5 h6⟩
     rcases h6 with h | h
     ·exact absurd g.2.2.1 (by omega)
     ·exact absurd (fun k hk=>Bz.2 (g.2.2.2.2 k hk)) h
    ·have h7:lr<=1024:=by
      rcases Nat.lt_or_ge 1024 lr with h | h
      ·exact absurd (.inl h) h6
      ·exact h
     have h8: ∀k,k<lr->vB (lw:Nat) (R k)=true:=Classical.byContradiction fun h=>h6 (.inr h)
     have g:rR lw W s lr R st:=⟨by omega,qN.1 h2,h7,fun i hi=>qN.1 (h5 i hi),fun k hk=>Bz.1 (h8 k hk)⟩
     refine⟨fun _=> ?_,fun n=>absurd g n⟩
     rcases Nat.eq_zero_or_pos lw with h0 | h0
     ·refine fall_go0 pw lw cw W s pr lr cr R st w (decide_eq_false h1) h2 h7 hlw iw ir h5 h8 h0 ?_
      rcases Nat.eq_zero_or_pos lr with h | h
      ·exact h
      ·have:=g.2.2.2.2 0 h
       have a:=this.1
       have b:=this.2.1
       omega
     ·exact fall_go pw lw cw W s pr lr cr R st w (decide_eq_false h1) h2 h7 hlw iw ir h5 h8 (fun k hk=>Fm ⟨g.1,g.2.1,by omega,g.2.2.2.1,fun j hj=>g.2.2.2.2 j (by omega)⟩) h0
   ·exact⟨fun g=>absurd (fun i hi=>qN.2 (g.2.2.2.1 i hi)) h5,fun _=>fall_no3 pw lw cw W s pr lr cr st w (decide_eq_false h1) h2 hlw iw h5⟩
end Rn
end
section
open Go.RowKit Tf Cu Go.Deep
namespace St
open Ss Fc
theorem tA{n gb:Nat}{sd:Int}{dt gr dr:Nat}{lim:Int}{rv:Bool}{pr:Option Addr}{lr cr:Nat}{R:Nat->Int × Int × Int × Int}{pb:Option Addr}{lb cb:Nat}{B:Nat->Nat}{pw:Option Addr}{lw cw:Nat}{W:Nat->Int}{pt:Option Addr}{lt ct:Nat}{T:Nat->Int}{ps:Option Addr}{ls cs:Nat}{S:Nat->Nat}{sky st:Int}{w:World}(g:GridOf n gb w)(hf:dt<18446744073709551616/\gr<18446744073709551616/\dr<18446744073709551616)(ir:Rn.IsRn w pr lr R)(i1:IsFl w pb lb B)(i2:Sh.IsI w pw lw W)(i3:Sh.IsI w pt lt T)(i4:IsFl w ps ls S):
  Calls prog 55 #[.pointer (some ⟨gb,0,none⟩),.agg #[.int .i64 sd,.float .f64 dt,.float .f64 gr,.float .f64 dr,.int .i64 lim,.bool rv,.slice pr lr cr],.agg #[.slice pb lb cb,.slice pw lw cw,.slice pt lt ct,.slice ps ls cs,.int .i64 sky,.int .i64 st]] w fun e w'=>e=.returned (.int .i64 (erS n sd dt gr dr lim lr R lb lw lt ls B W T S sky st))/\Below w.heap.size w w':=by
 have CS: ∀v,Ab w v->Calls prog 109 #[.pointer (some ⟨gb,0,none⟩)] v fun e w'=>e=.returned (.int .i64 (n:Nat))/\Below v.heap.size v w':=fun v a=>(gSide_at (g.to a)).mono fun e w' h=>⟨h.1,by rw[h.2];exact Below.refl _ _⟩
 have CP:=fun v (a:Ab w v)=>El sd dt gr dr lim rv pr lr cr R v hf (ir.below a)
 have CC:=fun v (a:Ab w v)=>zK sd pb lb cb B pw lw cw W pt lt ct T ps ls cs S sky st v (i1.below a) (i2.below a) (i3.below a) (i4.below a)
 unfold erS
 by_cases a:sd=(n:Int)
 ·rw[if_neg (fun q=>q a)]
  by_cases b:plE sd dt gr dr lim lr R=0
  ·rw[if_neg (fun q=>q b)]
   exact zN n gb sd dt gr dr lim rv pr lr cr pb lb cb pw lw cw pt lt ct ps ls cs sky st _ _ _ w (by rw[a];simp) (by rw[b];rfl) CS CP CC
  ·rw[if_pos b]
   exact zM n gb sd dt gr dr lim rv pr lr cr pb lb cb pw lw cw pt lt ct ps ls cs sky st _ w (by rw[a];simp) (by simpa using b) CS CP
 ·rw[if_pos a]
  exact zL n gb sd dt gr dr lim rv pr lr cr pb lb cb pw lw cw pt lt ct ps ls cs sky st w (by simpa using Ne.symm a) CS
theorem vA{n gb:Nat}{sd:Int}{dt gr dr:Nat}{lim:Int}{rv:Bool}{pr:Option Addr}{lr cr:Nat}{R:Nat->Int × Int × Int × Int}{pb:Option Addr}{cb:Nat}{B:Nat->Nat}{pw:Option Addr}{cw:Nat}{W:Nat->Int}{pt:Option Addr}{ct:Nat}{T:Nat->Int}{ps:Option Addr}{cs:Nat}{S:Nat->Nat}{sky st:Int}{w:World}(hn:1<=n/\n<=32)(g:GridOf n gb w)(oP:okP n gr dt dr lr R)(oS:okS n B W T S sky st)(hf:dt<18446744073709551616/\gr<18446744073709551616/\dr<18446744073709551616)(i1:IsFl w pb (6*n*n) B)(i2:Sh.IsI w pw (6*n*n) W)(i3:Sh.IsI w pt (6*n*n) T)(i4:IsFl w ps (12*n*n) S):
  Calls prog 56 #[.pointer (some ⟨gb,0,none⟩),.agg #[.int .i64 sd,.float .f64 dt,.float .f64 gr,.float .f64 dr,.int .i64 lim,.bool rv,.slice pr lr cr],.agg #[.slice pb (6*n*n) cb,.slice pw (6*n*n) cw,.slice pt (6*n*n) ct,.slice ps (12*n*n) cs,.int .i64 sky,.int .i64 st]] w fun e w'=> ∃p0 c0 p1 c1 p2 c2,e=.returned (.tuple #[.slice p0 (12*n*n) c0,.agg #[.slice p1 (12*n*n) c1,.slice p2 (12*n*n) c2]])/\Below w.heap.size w w'/\OwnG w.heap.size (.slice p0 (12*n*n) c0) ((List.range (12*n*n)).map (spE n gr dt dr B W S)) w'/\Sh.Own w.heap.size (.slice p1 (12*n*n) c1) ((List.range (12*n*n)).map (waF n lim gr dt dr B W S)) w'/\Sh.Own w.heap.size (.slice p2 (12*n*n) c2) ((List.range (12*n*n)).map (trF n lim gr dt dr B W T S)) w'/\Dj (.slice p1 (12*n*n) c1) (.slice p2 (12*n*n) c2):=by
 have p1:n*n<=32*32:=Nat.mul_le_mul hn.2 hn.2
 have q6:6*n*n=6*(n*n):=Nat.mul_assoc _ _ _
 have q12:12*n*n=12*(n*n):=Nat.mul_assoc _ _ _
 have wi: ∀e,e<12*n*n->Sh.W64 (waF n lim gr dt dr B W S e):=fun e he=>by have:=wa_in (lim:=lim) oP oS he;unfold Sh.W64;omega
 refine zO gb sd dt gr dr lim rv pr lr cr (6*n*n) (12*n*n) pb cb pw cw pt ct ps cs sky st (spE n gr dt dr B W S) (wtF n lim gr dt dr B W S) (waF n lim gr dt dr B W S) (trF n lim gr dt dr B W T S) w ?_ ?_ ?_ ?_ ⟨fun e _=>(lV n gr dt dr B W S e).1,wi⟩
 ·exact fun v a=>(Fc.speedsC n gb sd dt gr dr lim rv pr lr cr pb _ cb B pw _ cw W pt _ ct ps _ cs S sky st v hn (g.to a) (i1.below a) (i2.below a) (i4.below a) hf).1 ⟨rfl,rfl,rfl,rfl⟩
 ·intro v p c a i
  refine((allC n gb sd dt gr dr lim rv pr lr cr pb _ cb B pw _ cw W pt _ ct p _ c (spE n gr dt dr B W S) sky st v hn (g.to a) (i1.below a) (i2.below a) i hf.1).1 ⟨rfl,rfl,rfl,rfl⟩).mono ?_
  rintro e w' ⟨b,rfl,b1,r,-⟩
  exact⟨b,rfl,b1,Sh.iA r (fun e he=>⟨Int.le_trans (by decide) (sE (lim:=lim) oP oS he).1,Int.le_trans (sE (lim:=lim) oP oS he).2 (by decide)⟩)⟩
 ·exact fun v p c a i=>(Sh.allC n gb pw _ cw W p _ c _ v hn (g.to a) (by omega) (by omega) (i2.below a) i).1 (wa_fit oP oS)
 ·exact fun v p c a i=>(Tr.flowsC n gb pw _ cw W pt _ ct T p _ c _ v hn (g.to a) (by omega) (by omega) (by omega) (i2.below a) (i3.below a) i).1 (tr_fit oP oS)
theorem flowC:FlowC:=fun n gb sd dt gr dr lim rv pr lr cr R pb lb cb B pw lw cw W pt lt ct T ps ls cs S sky st w hn g hF h64 hf hlr hl ir i1 i2 i3 i4=>by
 have CH:=fun v (a:Ab w v)=>tA (n:=n) (gb:=gb) (sd:=sd) (lim:=lim) (rv:=rv) (cr:=cr) (cb:=cb) (cw:=cw) (ct:=ct) (cs:=cs) (sky:=sky) (st:=st) (g.to a) hf (ir.below a) (i1.below a) (i2.below a) (i3.below a) (i4.below a)
 refine⟨fun e0=> ?_,fun e0=> ?_⟩
 ·obtain⟨rfl,-,-,⟨rfl,rfl,rfl,rfl⟩,oP,oS⟩:=er_ok e0 hf (fun i hi=>(i1 i hi).1) (fun i hi=>(i4 i hi).1)
  rw[e0]at CH
  exact flow21_2 gb n dt gr dr lim rv pr lr cr _ _ pb cb pw cw pt ct ps cs sky st (spE n gr dt dr B W S) _ _ w CH (fun v a=>vA hn (g.to a) oP oS hf (i1.below a) (i2.below a) (i3.below a) (i4.below a))
 ·exact flow21_1 gb sd dt gr dr lim rv pr lr cr pb lb cb pw lw cw pt lt ct ps ls cs sky st _ w (by simpa using e0) CH
theorem one_gen(rv:Bool)(RC:rv=true->Rv.RunC):OneB rv:=fun n gb sd dt gr dr lim pr lr cr R pb lb cb B pw lw cw W pt lt ct T ps ls cs S sky st w hn g hF h64 hf hlr hl ir i1 i2 i3 i4=>by
 have CH:=fun v (a:Ab w v)=>tA (n:=n) (gb:=gb) (sd:=sd) (lim:=lim) (rv:=rv) (cr:=cr) (cb:=cb) (cw:=cw) (ct:=ct) (cs:=cs) (sky:=sky) (st:=st) (g.to a) hf (ir.below a) (i1.below a) (i2.below a) (i3.below a) (i4.below a)
 refine⟨fun e0=> ?_,fun e0=> ?_⟩
 ·obtain⟨rfl,-,-,⟨rfl,rfl,rfl,rfl⟩,oP,oS⟩:=er_ok e0 hf (fun i hi=>(i1 i hi).1) (fun i hi=>(i4 i hi).1)
  rw[e0]at CH
  have p1:n*n<=32*32:=Nat.mul_le_mul hn.2 hn.2
  have q6:6*n*n=6*(n*n):=Nat.mul_assoc _ _ _
  have q12:12*n*n=12*(n*n):=Nat.mul_assoc _ _ _
  have wi: ∀e,e<12*n*n->Sh.W64 (waF n lim gr dt dr B W S e):=fun e he=>by have:=wa_in (lim:=lim) oP oS he;unfold Sh.W64;omega
  have ti: ∀e,e<12*n*n->Sh.W64 (trF n lim gr dt dr B W T S e):=fun e he=>by have:=tr_in (lim:=lim) oP oS he;unfold Sh.W64;omega
  have mw:=wP (lim:=lim) oP oS
  have mt:=(wQ (lim:=lim) oP oS).1
  have ra:=yX (lim:=lim) oP oS
  have ss:=oS.1.2.2.2.2.2
  have vI: ∀{F:Nat->Int},Rv.okV (6*n*n) F-> ∀c,c<6*n*n->0<=F c/\F c<=9223372036854775807:=fun{F} h c hc=>by
   have:=h.1 c hc
   have:=lX h.1 hc
   have:=h.2
   omega
  have mi: ∀c,c<6*n*n->Sh.W64 (mvW n lim gr dt dr B W S c):=fun c hc=>by have:=mw.1 c hc;unfold Sh.W64;omega
  have hi: ∀c,c<6*n*n->Sh.W64 (mvT n lim gr dt dr B W T S c):=fun c hc=>by have:=vI mt c hc;unfold Sh.W64;omega
  have ri: ∀c,c<6*n*n->Sh.W64 ((raX n lim gr dt dr lr R B W S sky st).1 c):=fun c hc=>by have:=vI ra.1 c hc;unfold Sh.W64;omega
  have s1:stN st=min (st+1) 4611686018427387904:=by
   unfold stN
   split<;>omega
  have PU:=fun v (a:Ab w v)=>vA (sd:=(n:Nat)) (lim:=lim) (rv:=rv) (pr:=pr) (cr:=cr) (cb:=cb) (cw:=cw) (ct:=ct) (cs:=cs) hn (g.to a) oP oS hf (i1.below a) (i2.below a) (i3.below a) (i4.below a)
  have CL:=fun v (a:Ab w v)=>cloneF pb (6*n*n) cb B w.heap.size v (by omega) (i1.below a) a.size
  have MW:=fun v p c (a:Ab w v) (i:Sh.IsI v p (12*n*n) (waF n lim gr dt dr B W S))=>(Ms.moveC n gb pw _ cw W p _ c _ v hn (g.to a) (by omega) (by omega) (i2.below a) i).1 ⟨rfl,rfl⟩ (fun c hc=>by have:=mw.1 c hc;unfold mvW at this;omega)
  have MT:=fun v p c (a:Ab w v) (i:Sh.IsI v p (12*n*n) (trF n lim gr dt dr B W T S))=>(Ms.moveC n gb pt _ ct T p _ c _ v hn (g.to a) (by omega) (by omega) (i3.below a) i).1 ⟨rfl,rfl⟩ (fun c hc=>vI mt c hc)
  have RA:=fun v p c (a:Ab w v) (i:Sh.IsI v p (6*n*n) (mvW n lim gr dt dr B W S))=>(Rn.fallC p _ c _ sky pr lr cr R st v h64.2.2.1 h64.2.2.2 (by omega) (by have:=oP.2.2.1;omega) i (ir.below a)).1 (Eb oP oS)
  have RI:=fun(z:rv=true) v p1 c1 p2 c2 p3 c3 p4 c4 (a:Ab w v) k1 k2 k3 k4=>(RC z n gb p1 _ c1 B p2 _ c2 (raX n lim gr dt dr lr R B W S sky st).1 p3 _ c3 (mvT n lim gr dt dr B W T S) p4 _ c4 (spE n gr dt dr B W S) (raX n lim gr dt dr lr R B W S sky st).2 (stN st) v hn (g.to a) k1 k2 k3 k4).1 (qK oP oS)
  exact one21_go gb n dt gr dr lim rv pr lr cr _ _ pb cb pw cw pt ct ps cs sky st B (spE n gr dt dr B W S) _ _ _ _ _ _ _ (riX n lim gr dt dr rv lr R B W T S sky st).1 (riX n lim gr dt dr rv lr R B W T S sky st).2 _ _ w ss s1 ⟨fun e=>by unfold riX;rw[if_neg (by rw[e];decide)];exact⟨rfl,rfl⟩,fun e=>by unfold riX;rw[if_pos e];exact⟨rfl,rfl⟩⟩ CH PU CL MW MT RA RI ⟨fun c hc=>oS.2.1 c hc,fun e _=>(lV n gr dt dr B W S e).1,wi,ti,mi,hi,ri⟩
 ·exact one21_1 gb sd dt gr dr lim rv pr lr cr pb lb cb pw lw cw pt lt ct ps ls cs sky st _ w (by simpa using e0) CH
theorem planB:PlanB:=fun sd dt gr dr lim rv pr lr cr R w _ _ hf _ ir=>El sd dt gr dr lim rv pr lr cr R w hf ir
theorem checkB:CheckB:=fun sd pb lb cb B pw lw cw W pt lt ct T ps ls cs S sky st w _ _ _ _ i1 i2 i3 i4=>zK sd pb lb cb B pw lw cw W pt lt ct T ps ls cs S sky st w i1 i2 i3 i4
end St
end
section
open Go.RowKit Tf Cu Go.Deep
attribute [local go_sem] aL aM aP aQ aR aV aW aF
namespace Rv
def pR(x y:Nat):Int:=if kb x<kb y then -1 else if kb y<kb x then 1 else 0
theorem Ex{x y:Nat}(h:kb x<kb y):pR x y= -1:=if_pos h
theorem Ey{x y:Nat}(h:kb y<kb x):pR x y=1:=by unfold pR;rw[if_neg (by omega),if_pos h]
theorem Ez{x y:Nat}(h:kb x=kb y):pR x y=0:=by unfold pR;rw[if_neg (by omega),if_neg (by omega)]
def dk(K nb:Nat->Nat)(c:Nat):Nat->Int
 | 0=> -1
 | k+1=>if K (bst K nb k)<K c then((bst K nb k:Nat):Int)else -1
theorem Ai(K nb:Nat->Nat)(k:Nat):bst K nb (k+1)=if lt2 K (nb (k+1)) (bst K nb k)=true then nb (k+1)else bst K nb k:=rfl
theorem dk_no{K nb:Nat->Nat}{c k:Nat}(h:dk K nb c k<0):dk K nb c k= -1/\dk K nb c (k+1)=if K (nb k)<K c then((nb k:Nat):Int)else -1:=by
 cases k with
 | zero=>exact⟨rfl,rfl⟩
 | succ k=>
  have h1: ¬K (bst K nb k)<K c:=fun q=>by
   have h2:(if K (bst K nb k)<K c then((bst K nb k:Nat):Int)else -1)<0:=h
   rw[if_pos q]at h2
   omega
  refine⟨if_neg h1,?_⟩
  show(if K (bst K nb (k+1))<K c then((bst K nb (k+1):Nat):Int)else -1)=_
  rw[Ai]
  by_cases q:lt2 K (nb (k+1)) (bst K nb k)=true
  ·rw[if_pos q]
  ·rw[if_neg q,if_neg h1,if_neg]
   intro q2
   exact q (qD.2 (.inl (by omega)))
theorem dk_yes{K nb:Nat->Nat}{c k m:Nat}(h:dk K nb c k=(m:Nat)):(∃s,s<k/\nb s=m)/\K m<K c/\dk K nb c (k+1)=if lt2 K (nb k) m=true then((nb k:Nat):Int)else((m:Nat):Int):=by
 cases k with
 | zero=>have h2:(-1:Int)=(m:Nat):=h;omega
 | succ k=>
  have h1:K (bst K nb k)<K c:=by
   rcases Nat.lt_or_ge (K (bst K nb k)) (K c)with q | q
   ·exact q
   ·have h2:(if K (bst K nb k)<K c then((bst K nb k:Nat):Int)else -1)=(m:Nat):=h
    rw[if_neg (by omega)]at h2
    omega
  have h2:bst K nb k=m:=by
   have h2:(if K (bst K nb k)<K c then((bst K nb k:Nat):Int)else -1)=(m:Nat):=h
   rw[if_pos h1]at h2
   omega
  obtain⟨s,l,e⟩:=Bl K nb k
  rw[h2]at h1 e
  refine⟨⟨s,by omega,e.symm⟩,h1,?_⟩
  show(if K (bst K nb (k+1))<K c then((bst K nb (k+1):Nat):Int)else -1)=_
  rw[Ai,h2]
  by_cases q:lt2 K (nb (k+1)) m=true
  ·rw[if_pos q,if_pos q,if_pos]
   rcases qD.1 q with q | q<;>omega
  ·rw[if_neg q,if_neg q,if_pos h1]
def lk(B nb:Nat->Nat)(c k:Nat):Nat:=if dk (kB B) nb c k<0 then B c else B (dk (kB B) nb c k).toNat
theorem jS(a b:Nat)(w:World)(ha:a<18446744073709551616)(hb:b<18446744073709551616):
  Calls prog 132 #[.float .f64 a,.float .f64 b] w fun e w'=>e=.returned (.int .i64 (pR a b))/\w'=w:=by
 obtain⟨x,hx⟩:=aD (canonB a)
 obtain⟨y,hy⟩:=aD (canonB b)
 have C1:=hid (mZ a x w ha hx)
 have C2:=hid (mZ b y w hb hy)
 have lx:x<18446744073709551616:=by rw[<- hx];exact dS ha
 have ly:y<18446744073709551616:=by rw[<- hy];exact dS hb
 obtain⟨o,ho⟩:=aD (orderB x y)
 have O:=hid (ord_at x y o w lx ly ho)
 have E:Hid (pR a b=o):=by
  show _=_
  unfold pR kb
  rw[hx,hy,<- ho]
  rfl
 clear ho hx hy ha hb lx ly
 go_enter func132,ntmps132
 go_wp2_with fail
 refine C1.out.mono ?_
 rintro e9 v9 ⟨rfl,hv9⟩
 have hv8:=hv9.symm
 subst hv8
 go_wp2_with fail
 refine C2.out.mono ?_
 rintro e9 v9 ⟨rfl,hv9⟩
 have hv8:=hv9.symm
 subst hv8
 go_wp2_with fail
 refine O.out.mono ?_
 rintro e9 v9 ⟨rfl,hv9⟩
 have hv8:=hv9.symm
 subst hv8
 go_wp2
 go_ret
 exact⟨by rw[E.out];rfl,rfl⟩
theorem around19{n gb c s:Nat}{v:World}(hn:1<=n/\n<=32)(hc:c<6*n*n)(hs:s<4)(g:GridOf n gb v):Calls prog 33 #[.pointer (some ⟨gb,0,none⟩),.int .i64 (c:Nat),.int .i64 (s:Nat)] v fun e w'=>e=.returned (.tuple #[.int .i64 (eE n (4*c+s):Nat),.int .i64 (eS n (4*c+s))])/\Below v.heap.size v w':=by
 have e:gT n (24*n*n) (c:Nat) (s:Nat)=(((eE n (4*c+s):Nat):Int),eS n (4*c+s)):=by
  have ht:=eT hc hs
  have hm:=cV hn.1 ht
  rw[jU,if_pos ⟨hc,hs⟩]
  unfold gN eE eS
  by_cases q:isL n (4*c+s)=true
  ·simp[q,ht]
  ·simp[q,hm]
 have b:c<6144:=by
  have h1:n*n<=32*32:=Nat.mul_le_mul hn.2 hn.2
  rw[Nat.mul_assoc]at hc
  omega
 have h:=lR (n:=n) (gb:=gb) (c:=(c:Nat)) (s:=(s:Nat)) (w:=v) ⟨by omega,by omega⟩ ⟨by omega,by omega⟩ g
 rwa [e]at h
theorem CJ(gb e l s r q:Nat)(cell over:Int)(w:World)
  (AR:Hid (∀v,Ab w v->Calls prog 33 #[.pointer (some ⟨gb,0,none⟩),.int .i64 cell,.int .i64 over] v fun e9 w'=>e9=.returned (.tuple #[.int .i64 (e:Nat),.int .i64 (1)])/\Below v.heap.size v w'))
  (ED:Hid (∀v,Ab w v->Calls prog 73 #[.pointer (some ⟨gb,0,none⟩),.int .i64 (e:Nat)] v fun e9 w'=>e9=.returned (.tuple #[.agg #[.int .i64 (l:Nat),.int .i64 (s:Nat),.int .i64 (r:Nat),.int .i64 (q:Nat)],.bool true])/\Below v.heap.size v w')):
  Calls prog 134 #[.pointer (some ⟨gb,0,none⟩),.int .i64 cell,.int .i64 over] w fun e9 w'=>e9=.returned (.int .i64 (r:Nat))/\Below w.heap.size w w':=by
 go_enter func134,ntmps134
 go_wp2_with fail
 refine(AR.out _ (Ab.refl w)).mono ?_
 rintro e9 v1 ⟨rfl,b1⟩
 have A1:Hid (Ab w v1):=b1
 clear b1
 go_wp2_with fail
 refine(ED.out _ A1.out).mono ?_
 rintro e9 v2 ⟨rfl,b2⟩
 have A2:Hid (Ab w v2):=A1.out.trans b2
 clear b2
 have A3:Hid (Ab w (v2.alloc (.cells #[.int .i64 0,.int .i64 0,.int .i64 0,.int .i64 0] 116))):=A2.out.trans (bl1 _ _)
 have c0:(v2.alloc (.cells #[.int .i64 (l:Nat),.int .i64 (s:Nat),.int .i64 (r:Nat),.int .i64 (q:Nat)] 116)).cell? ⟨v2.heap.size,0,none⟩=some (.int .i64 (l:Nat)):=aA 0 (heap_alloc_new _ _)
 have c2:(v2.alloc (.cells #[.int .i64 (l:Nat),.int .i64 (s:Nat),.int .i64 (r:Nat),.int .i64 (q:Nat)] 116)).cell? ⟨v2.heap.size,2,none⟩=some (.int .i64 (r:Nat)):=aA 2 (heap_alloc_new _ _)
 go_wp2
 go_ret
 exact⟨rfl,A2.out.trans (bl1 _ _)⟩
theorem CK(gb e l s r q:Nat)(cell over:Int)(w:World)
  (AR:Hid (∀v,Ab w v->Calls prog 33 #[.pointer (some ⟨gb,0,none⟩),.int .i64 cell,.int .i64 over] v fun e9 w'=>e9=.returned (.tuple #[.int .i64 (e:Nat),.int .i64 (-1)])/\Below v.heap.size v w'))
  (ED:Hid (∀v,Ab w v->Calls prog 73 #[.pointer (some ⟨gb,0,none⟩),.int .i64 (e:Nat)] v fun e9 w'=>e9=.returned (.tuple #[.agg #[.int .i64 (l:Nat),.int .i64 (s:Nat),.int .i64 (r:Nat),.int .i64 (q:Nat)],.bool true])/\Below v.heap.size v w')):
  Calls prog 134 #[.pointer (some ⟨gb,0,none⟩),.int .i64 cell,.int .i64 over] w fun e9 w'=>e9=.returned (.int .i64 (l:Nat))/\Below w.heap.size w w':=by
 go_enter func134,ntmps134
 go_wp2_with fail
 refine(AR.out _ (Ab.refl w)).mono ?_
 rintro e9 v1 ⟨rfl,b1⟩
 have A1:Hid (Ab w v1):=b1
 clear b1
 go_wp2_with fail
 refine(ED.out _ A1.out).mono ?_
 rintro e9 v2 ⟨rfl,b2⟩
 have A2:Hid (Ab w v2):=A1.out.trans b2
 clear b2
 have A3:Hid (Ab w (v2.alloc (.cells #[.int .i64 0,.int .i64 0,.int .i64 0,.int .i64 0] 116))):=A2.out.trans (bl1 _ _)
 have c0:(v2.alloc (.cells #[.int .i64 (l:Nat),.int .i64 (s:Nat),.int .i64 (r:Nat),.int .i64 (q:Nat)] 116)).cell? ⟨v2.heap.size,0,none⟩=some (.int .i64 (l:Nat)):=aA 0 (heap_alloc_new _ _)
 have c2:(v2.alloc (.cells #[.int .i64 (l:Nat),.int .i64 (s:Nat),.int .i64 (r:Nat),.int .i64 (q:Nat)] 116)).cell? ⟨v2.heap.size,2,none⟩=some (.int .i64 (r:Nat)):=aA 2 (heap_alloc_new _ _)
 go_wp2
 go_ret
 exact⟨rfl,A2.out.trans (bl1 _ _)⟩
theorem Aj(n gb c s:Nat)(w:World)(hn:1<=n/\n<=32)(hc:c<6*n*n)(hs:s<4)(g:GridOf n gb w):
  Calls prog 134 #[.pointer (some ⟨gb,0,none⟩),.int .i64 (c:Nat),.int .i64 (s:Nat)] w fun e9 w'=>e9=.returned (.int .i64 (bsC n c s:Nat))/\Below w.heap.size w w':=by
 have ht:4*c+s<24*n*n:=eT hc hs
 have hm:=cV hn.1 ht
 have e1:(4*c+s)/4=c:=by omega
 have e2:(4*c+s)%4=s:=by omega
 have ar:=fun v (a:Ab w v)=>around19 (v:=v) hn hc hs (g.to a)
 by_cases q:isL n (4*c+s)=true
 ·have ee:eE n (4*c+s)=eN n (4*c+s):=by unfold eE;rw[if_pos q]
  have es:eS n (4*c+s)=1:=by unfold eS;rw[if_pos q]
  rw[ee,es]at ar
  have ed:=fun v (a:Ab w v)=>gO (w:=v) hn ht q (g.to a)
  rw[e1,e2]at ed
  exact CJ gb _ _ _ _ _ _ _ w ar ed
 ·have ee:eE n (4*c+s)=eN n (mt n (4*c+s)):=by unfold eE;rw[if_neg q]
  have es:eS n (4*c+s)= -1:=by unfold eS;rw[if_neg q]
  rw[ee,es]at ar
  have q2:isL n (mt n (4*c+s))=true:=by rw[gI hn.1 ht];simpa using q
  have ed:=fun v (a:Ab w v)=>gO (w:=v) hn hm q2 (g.to a)
  have d:=(fP hn.1 ht).1
  rw[e1,e2]at d
  rw[d]at ed
  exact CK gb _ _ _ _ _ _ _ w ar ed
theorem down_len(n gb:Nat)(pb:Option Addr)(lb cb:Nat)(cell:Int)(w:World)(g:GridOf n gb w)(hl:lb≠6*n*n):
  Calls prog 86 #[.pointer (some ⟨gb,0,none⟩),.slice pb lb cb,.int .i64 cell] w fun e w'=>e=.returned (.int .i64 (-1))/\Below w.heap.size w w':=by
 have CC:=hid (cY g)
 generalize 6*n*n=N at*
 have e1:((lb:Int) != (N:Int))=true:=by simp;omega
 clear hl g
 go_enter func86,ntmps86
 go_wp2_with fail
 refine CC.out.mono ?_
 rintro e9 v9 ⟨rfl,hv9⟩
 have hv8:=hv9.symm
 subst hv8
 go_wp2
 go_ret
 exact⟨rfl,Below.refl _ _⟩
theorem down_out(n gb:Nat)(pb:Option Addr)(lb cb:Nat)(cell:Int)(w:World)(g:GridOf n gb w)(hl:lb=6*n*n)(hc: ¬(0<=cell/\cell<(lb:Nat))):
  Calls prog 86 #[.pointer (some ⟨gb,0,none⟩),.slice pb lb cb,.int .i64 cell] w fun e w'=>e=.returned (.int .i64 (-1))/\Below w.heap.size w w':=by
 have CC:=hid (cY g)
 rw[<- hl]at CC
 have e1:((lb:Int) != (lb:Int))=false:=by simp
 clear hl g
 by_cases c0:cell<0
 ·have e2:decide (cell<0)=true:=decide_eq_true c0
  clear hc c0
  go_enter func86,ntmps86
  go_wp2_with fail
  refine CC.out.mono ?_
  rintro e9 v9 ⟨rfl,hv9⟩
  have hv8:=hv9.symm
  subst hv8
  go_wp2
  go_ret
  exact⟨rfl,Below.refl _ _⟩
 ·have e2:decide (cell<0)=false:=decide_eq_false c0
  have e3:decide ((lb:Int)<=cell)=true:=decide_eq_true (by omega)
  clear hc c0
  go_enter func86,ntmps86
  go_wp2_with fail
  refine CC.out.mono ?_
  rintro e9 v9 ⟨rfl,hv9⟩
  have hv8:=hv9.symm
  subst hv8
  go_wp2
  go_ret
  exact⟨rfl,Below.refl _ _⟩
theorem down_go(N gb:Nat)(qb ob:Nat)(cb:Nat)(B:Nat->Nat)(nb:Nat->Nat)(c:Nat)(w:World)(hN:N<=6144)(hc:c<N)(IB:Hid (IsFl w (some ⟨qb,ob,none⟩) N B))
  (CC:Hid (Calls prog 28 #[.pointer (some ⟨gb,0,none⟩)] w fun e w'=>e=.returned (.int .i64 (N:Nat))/\w'=w))
  (BS:Hid (∀v s,Ab w v->s<4->Calls prog 134 #[.pointer (some ⟨gb,0,none⟩),.int .i64 (c:Nat),.int .i64 (s:Nat)] v fun e w'=>e=.returned (.int .i64 (nb s:Nat))/\Below v.heap.size v w'))
  (NL:Hid (∀s,s<4->nb s<N)):
  Calls prog 86 #[.pointer (some ⟨gb,0,none⟩),.slice (some ⟨qb,ob,none⟩) N cb,.int .i64 (c:Nat)] w fun e w'=>e=.returned (.int .i64 (dnI (kB B) nb c))/\Below w.heap.size w w':=by
 have e1:((N:Int) != (N:Int))=false:=by simp
 have e2:decide ((c:Int)<0)=false:=decide_eq_false (by omega)
 have e3:decide ((N:Int)<=(c:Int))=false:=decide_eq_false (by omega)
 have e4:decide (N<=c)=false:=decide_eq_false (by omega)
 have HN:=hid hN
 have HC:=hid hc
 have cI:(c:Int)<N:=by omega
 have cB:(c:Int)<=6144:=by omega
 obtain⟨xc,hxc⟩:=aD (B c)
 have XCC:=hid hxc
 have XC0:Hid (∀v,Ab w v->v.cell? ⟨qb,ob+c,none⟩=some (.float .f64 xc)):=fun v a=>by rw[<- hxc];exact((IB.out.below a).at0 hc).2.2
 clear hN hc hxc
 go_enter func86,ntmps86
 go_wp2_with fail
 refine CC.out.mono ?_
 rintro e9 v9 ⟨rfl,hv9⟩
 have hv8:=hv9.symm
 subst hv8
 go_upto_region 3 with fail
 obtain⟨UU,E,hF1,hF2⟩:=cls w
 have HU:=hid hF2
 have HU1:=hid hF1
 have y1: ∀u,(E u).cell? ⟨qb,ob+c,none⟩=some (.float .f64 xc):=fun u=>XC0.out _ (hF1 u)
 have DD0:=HU.out _ (Ab.refl w).drew
 clear hF1 hF2
 refine aK E (by kernel_rfl) (by kernel_rfl) DD0 ?_
 repeat(go_big_quiet_step (with_reducible rfl))
 refine wpQuiet_nil ?_
 intro v0 hwz
 obtain⟨u0,hu⟩:=hwz
 have A0:Hid (Ab w v0):=by rw[hu];exact HU1.out u0
 clear hu u0
 clear HU HU1 DD0 y1
 clear E UU
 go_wp2
 go_loopw [7,8,35] (fun bv lv iv wr=> ∃k:Nat,k<=4/\iv=.int .i64 (k:Nat)/\bv=.int .i64 (dk (kB B) nb c k)/\lv=.float .f64 (lk B nb c k)/\Ab w wr) (fun _ _ iv _=>4 - (intOf iv).toNat)
 case atStart=>exact⟨0,by omega,rfl,rfl,by rw[<- XCC.out];rfl,A0.out⟩
 case round=>
  obtain⟨k,hk,rfl,rfl,rfl,ar⟩:=hrel
  have AR:=hid ar
  clear ar
  by_cases hk4:k<4
  ·have HK:=hid hk4
   have kI:(k:Int)<4:=by omega
   obtain⟨cc,hcc⟩:=aD (nb k)
   have ccl:=NL.out k hk4
   rw[hcc]at ccl
   have HCC:=hid hcc
   have CL:=hid ccl
   have BB:=hid (BS.out wr k AR.out hk4)
   rw[hcc]at BB
   obtain⟨x,hx⟩:=aD (B cc)
   have XC:Hid (∀v,Ab w v->v.cell? ⟨qb,ob+cc,none⟩=some (.float .f64 x)):=fun v a=>by rw[<- hx];exact((IB.out.below a).at0 ccl).2.2
   have xl:x<18446744073709551616:=by rw[<- hx];exact(IB.out cc ccl).1
   have HX:=hid hx
   have ccI:(cc:Int)<N:=by omega
   have ccB:(cc:Int)<=6144:=by have:=HN.out;omega
   by_cases q0:dk (kB B) nb c k<0
   ·obtain⟨g1,g2⟩:=dk_no q0
    have el:lk B nb c k=xc:=by unfold lk;rw[if_pos q0];exact XCC.out
    have DN:Hid (dk (kB B) nb c (k+1)=if kb x<kb xc then((cc:Nat):Int)else -1):=by
     show _=_
     rw[g2,hcc]
     unfold kB
     rw[hx,XCC.out]
    rw[g1,el]
    have yl:xc<18446744073709551616:=by rw[<- XCC.out];exact(IB.out c HC.out).1
    have CM:=hid (fun v=>jS x xc v xl yl)
    have b0:decide ((cc:Int)< -1)=false:=decide_eq_false (by omega)
    clear hcc hx ccl xl yl q0 g1 g2 el hk hk4
    by_cases d1:kb x<kb xc
    ·have DQ:Hid (dk (kB B) nb c (k+1)=((cc:Nat):Int)):=by show _=_;rw[DN.out,if_pos d1]
     have LQ:Hid (lk B nb c (k+1)=x):=by show _=_;unfold lk;rw[DQ.out,if_neg (by omega),Int.toNat_natCast];exact HX.out
     rw[Ex d1]at CM
     clear d1
     go_wp2_with fail
     refine BB.out.mono ?_
     rintro e9 v1 ⟨rfl,b1⟩
     have A1:Hid (Ab w v1):=AR.out.trans b1
     clear b1
     have z1:=XC.out _ A1.out
     go_wp2_with fail
     refine(CM.out _).mono ?_
     rintro e9 v9 ⟨rfl,hv9⟩
     have hv8:=hv9.symm
     subst hv8
     clear z1
     go_upto_region 10 with fail
     obtain⟨UU,E,hF1,hF2⟩:=cls v1
     have HU:=hid hF2
     have HU1:=hid hF1
     have y1: ∀u,(E u).cell? ⟨qb,ob+cc,none⟩=some (.float .f64 x):=fun u=>XC.out _ (A1.out.trans (hF1 u))
     have DD0:=HU.out _ (Ab.refl v1).drew
     clear hF1 hF2
     refine aK E (by kernel_rfl) (by kernel_rfl) DD0 ?_
     repeat(go_big_quiet_step (with_reducible rfl))
     refine wpQuiet_nil ?_
     intro v2 hwz
     obtain⟨u0,hu⟩:=hwz
     have A2:Hid (Ab v1 v2):=by rw[hu];exact HU1.out u0
     clear hu u0
     clear HU HU1 DD0 y1
     clear E UU
     go_wp2
     exact⟨⟨k+1,by have:=HK.out;omega,by simp,by rw[DQ.out],by rw[LQ.out],A1.out.trans A2.out⟩,by have:=HK.out;simp[intOf];omega⟩
    ·have DQ:Hid (dk (kB B) nb c (k+1)= -1):=by show _=_;rw[DN.out,if_neg d1]
     have LQ:Hid (lk B nb c (k+1)=xc):=by show _=_;unfold lk;rw[DQ.out,if_pos (by decide)];exact XCC.out
     by_cases d2:kb xc<kb x
     ·rw[Ey d2]at CM
      clear d1 d2
      go_wp2_with fail
      refine BB.out.mono ?_
      rintro e9 v1 ⟨rfl,b1⟩
      have A1:Hid (Ab w v1):=AR.out.trans b1
      clear b1
      have z1:=XC.out _ A1.out
      go_wp2_with fail
      refine(CM.out _).mono ?_
      rintro e9 v9 ⟨rfl,hv9⟩
      have hv8:=hv9.symm
      subst hv8
      clear z1
      go_wp2
      exact⟨⟨k+1,by have:=HK.out;omega,by simp,by rw[DQ.out],by rw[LQ.out],A1.out⟩,by have:=HK.out;simp[intOf];omega⟩
     ·rw[Ez (show kb x=kb xc by omega)]at CM
      clear d1 d2
      go_wp2_with fail
      refine BB.out.mono ?_
      rintro e9 v1 ⟨rfl,b1⟩
      have A1:Hid (Ab w v1):=AR.out.trans b1
      clear b1
      have z1:=XC.out _ A1.out
      go_wp2_with fail
      refine(CM.out _).mono ?_
      rintro e9 v9 ⟨rfl,hv9⟩
      have hv8:=hv9.symm
      subst hv8
      clear z1
      go_wp2
      exact⟨⟨k+1,by have:=HK.out;omega,by simp,by rw[DQ.out],by rw[LQ.out],A1.out⟩,by have:=HK.out;simp[intOf];omega⟩
   ·obtain⟨m,hm⟩: ∃m:Nat,dk (kB B) nb c k=(m:Nat):=⟨(dk (kB B) nb c k).toNat,by omega⟩
    obtain⟨⟨s,s1,s2⟩,-,g3⟩:=dk_yes hm
    have ml:m<N:=by rw[<- s2];exact NL.out s (by omega)
    obtain⟨y,hy⟩:=aD (B m)
    have el:lk B nb c k=y:=by unfold lk;rw[if_neg q0,hm,Int.toNat_natCast];exact hy
    have LT:Hid (lt2 (kB B) cc m=(decide (kb x<kb y)||(decide (kb x=kb y)&&decide (cc<m)))):=by show lt2 _ _ _=_;unfold lt2 kB;rw[hx,hy]
    have DN:Hid (dk (kB B) nb c (k+1)=if lt2 (kB B) cc m=true then((cc:Nat):Int)else((m:Nat):Int)):=by
     show _=_
     rw[g3,hcc]
    have HY:=hid hy
    rw[hm,el]
    have yl:y<18446744073709551616:=by rw[<- hy];exact(IB.out m ml).1
    have CM:=hid (fun v=>jS x y v xl yl)
    have mI:(m:Int)<N:=by omega
    have mB:(m:Int)<=6144:=by have:=HN.out;omega
    have TK:Hid (lt2 (kB B) cc m=true->dk (kB B) nb c (k+1)=((cc:Nat):Int)/\lk B nb c (k+1)=x):=fun h=>by
     have e:dk (kB B) nb c (k+1)=((cc:Nat):Int):=by rw[DN.out,if_pos h]
     exact⟨e,by unfold lk;rw[e,if_neg (by omega),Int.toNat_natCast];exact HX.out⟩
    have LV:Hid (lt2 (kB B) cc m=false->dk (kB B) nb c (k+1)=((m:Nat):Int)/\lk B nb c (k+1)=y):=fun h=>by
     have e:dk (kB B) nb c (k+1)=((m:Nat):Int):=by rw[DN.out,if_neg (by rw[h];decide)]
     exact⟨e,by unfold lk;rw[e,if_neg (by omega),Int.toNat_natCast];exact HY.out⟩
    clear hcc hx hy ccl xl yl q0 g3 el hk hk4 s1 s2 ml hm DN
    by_cases d1:kb x<kb y
    ·have DQ:Hid (dk (kB B) nb c (k+1)=((cc:Nat):Int)):=(TK.out (LT.out.trans (by rw[decide_eq_true d1];rfl))).1
     have LQ:Hid (lk B nb c (k+1)=x):=(TK.out (LT.out.trans (by rw[decide_eq_true d1];rfl))).2
     rw[Ex d1]at CM
     clear d1 LT TK LV
     go_wp2_with fail
     refine BB.out.mono ?_
     rintro e9 v1 ⟨rfl,b1⟩
     have A1:Hid (Ab w v1):=AR.out.trans b1
     clear b1
     have z1:=XC.out _ A1.out
     go_wp2_with fail
     refine(CM.out _).mono ?_
     rintro e9 v9 ⟨rfl,hv9⟩
     have hv8:=hv9.symm
     subst hv8
     clear z1
     go_upto_region 10 with fail
     obtain⟨UU,E,hF1,hF2⟩:=cls v1
     have HU:=hid hF2
     have HU1:=hid hF1
     have y1: ∀u,(E u).cell? ⟨qb,ob+cc,none⟩=some (.float .f64 x):=fun u=>XC.out _ (A1.out.trans (hF1 u))
     have DD0:=HU.out _ (Ab.refl v1).drew
     clear hF1 hF2
     refine aK E (by kernel_rfl) (by kernel_rfl) DD0 ?_
     repeat(go_big_quiet_step (with_reducible rfl))
     refine wpQuiet_nil ?_
     intro v2 hwz
     obtain⟨u0,hu⟩:=hwz
     have A2:Hid (Ab v1 v2):=by rw[hu];exact HU1.out u0
     clear hu u0
     clear HU HU1 DD0 y1
     clear E UU
     go_wp2
     exact⟨⟨k+1,by have:=HK.out;omega,by simp,by rw[DQ.out],by rw[LQ.out],A1.out.trans A2.out⟩,by have:=HK.out;simp[intOf];omega⟩
    ·by_cases d2:kb y<kb x
     ·have lf:lt2 (kB B) cc m=false:=LT.out.trans (by rw[decide_eq_false d1,decide_eq_false (show¬kb x=kb y by omega)];rfl)
      have DQ:=hid (LV.out lf).1
      have LQ:=hid (LV.out lf).2
      rw[Ey d2]at CM
      clear d1 d2 LT TK LV lf
      go_wp2_with fail
      refine BB.out.mono ?_
      rintro e9 v1 ⟨rfl,b1⟩
      have A1:Hid (Ab w v1):=AR.out.trans b1
      clear b1
      have z1:=XC.out _ A1.out
      go_wp2_with fail
      refine(CM.out _).mono ?_
      rintro e9 v9 ⟨rfl,hv9⟩
      have hv8:=hv9.symm
      subst hv8
      clear z1
      go_wp2
      exact⟨⟨k+1,by have:=HK.out;omega,by simp,by rw[DQ.out],by rw[LQ.out],A1.out⟩,by have:=HK.out;simp[intOf];omega⟩
     ·have ke:kb x=kb y:=by omega
      rw[Ez ke]at CM
      by_cases d3:cc<m
      ·have d4:decide ((cc:Int)<(m:Int))=true:=decide_eq_true (by omega)
       have d5:decide (cc<m)=true:=decide_eq_true d3
       have lf:lt2 (kB B) cc m=true:=LT.out.trans (by rw[d5,decide_eq_true ke,Bool.and_true,Bool.or_true])
       have DQ:=hid (TK.out lf).1
       have LQ:=hid (TK.out lf).2
       clear d1 d2 d3 LT TK LV lf ke
       go_wp2_with fail
       refine BB.out.mono ?_
       rintro e9 v1 ⟨rfl,b1⟩
       have A1:Hid (Ab w v1):=AR.out.trans b1
       clear b1
       have z1:=XC.out _ A1.out
       go_wp2_with fail
       refine(CM.out _).mono ?_
       rintro e9 v9 ⟨rfl,hv9⟩
       have hv8:=hv9.symm
       subst hv8
       clear z1
       go_upto_region 10 with fail
       obtain⟨UU,E,hF1,hF2⟩:=cls v1
       have HU:=hid hF2
       have HU1:=hid hF1
       have y1: ∀u,(E u).cell? ⟨qb,ob+cc,none⟩=some (.float .f64 x):=fun u=>XC.out _ (A1.out.trans (hF1 u))
       have DD0:=HU.out _ (Ab.refl v1).drew
       clear hF1 hF2
       refine aK E (by kernel_rfl) (by kernel_rfl) DD0 ?_
       repeat(go_big_quiet_step (with_reducible rfl))
       refine wpQuiet_nil ?_
       intro v2 hwz
       obtain⟨u0,hu⟩:=hwz
       have A2:Hid (Ab v1 v2):=by rw[hu];exact HU1.out u0
       clear hu u0
       clear HU HU1 DD0 y1
       clear E UU
       go_wp2
       exact⟨⟨k+1,by have:=HK.out;omega,by simp,by rw[DQ.out],by rw[LQ.out],A1.out.trans A2.out⟩,by have:=HK.out;simp[intOf];omega⟩
      ·have d4:decide ((cc:Int)<(m:Int))=false:=decide_eq_false (by omega)
       have d5:decide (cc<m)=false:=decide_eq_false d3
       have lf:lt2 (kB B) cc m=false:=LT.out.trans (by rw[d5,decide_eq_false d1];simp)
       have DQ:=hid (LV.out lf).1
       have LQ:=hid (LV.out lf).2
       clear d1 d2 d3 LT TK LV lf ke
       go_wp2_with fail
       refine BB.out.mono ?_
       rintro e9 v1 ⟨rfl,b1⟩
       have A1:Hid (Ab w v1):=AR.out.trans b1
       clear b1
       have z1:=XC.out _ A1.out
       go_wp2_with fail
       refine(CM.out _).mono ?_
       rintro e9 v9 ⟨rfl,hv9⟩
       have hv8:=hv9.symm
       subst hv8
       clear z1
       go_wp2
       exact⟨⟨k+1,by have:=HK.out;omega,by simp,by rw[DQ.out],by rw[LQ.out],A1.out⟩,by have:=HK.out;simp[intOf];omega⟩
  ·have k4:k=4:=by omega
   subst k4
   go_wp2
   go_ret
   exact⟨rfl,AR.out⟩
theorem downC:DownC:=fun n gb pb lb cb B cell w hn g ib hw=>by
 by_cases hl:lb=6*n*n
 ·by_cases hc:0<=cell/\cell<(lb:Nat)
  ·obtain⟨c,rfl⟩: ∃c:Nat,cell=(c:Nat):=⟨cell.toNat,by omega⟩
   have hc2:c<lb:=by omega
   rw[if_pos ⟨hl,hc.1,by rw[<- hl];exact hc.2⟩,Int.toNat_natCast]
   obtain⟨qb,ob,rfl⟩:=ib.some0 (show 0<lb by omega)
   have nb:lb<=6144:=by
    have h1:n*n<=32*32:=Nat.mul_le_mul hn.2 hn.2
    rw[hl,Nat.mul_assoc]
    omega
   have cc:=cY g
   rw[<- hl]at cc
   exact down_go lb gb qb ob cb B (fun s=>bsC n c s) c w nb hc2 ib cc (fun v s a hs=>Aj n gb c s v hn (by omega) hs (g.to a)) (fun s hs=>by rw[hl];exact bsC_lt hn.1 (by omega) hs)
  ·rw[if_neg (by rw[<- hl];exact fun h=>hc h.2)]
   exact down_out n gb pb lb cb cell w g hl hc
 ·rw[if_neg (fun h=>hl h.1)]
  exact down_len n gb pb lb cb cell w g hl
end Rv
end
section
open Go.RowKit Tf Cu Go.Deep
attribute [local go_sem] aL aM aP aQ aR aV aW aF
namespace Rv
theorem fitw19(gb:Nat)(pb pw pt ps:Option Addr)(lb cb lw cw lt ct ls cs:Nat)(sky st:Int)(M N:Nat)(q:Bool)(w:World)
  (hq:(((lb:Int)==(M:Int))=false/\q=false)\/(((lb:Int)==(M:Int))=true/\((lw:Int)==(M:Int))=false/\q=false)\/(((lb:Int)==(M:Int))=true/\((lw:Int)==(M:Int))=true/\((lt:Int)==(M:Int))=false/\q=false)\/(((lb:Int)==(M:Int))=true/\((lw:Int)==(M:Int))=true/\((lt:Int)==(M:Int))=true/\((ls:Int)==(N:Int))=q))
  (CC:Hid (∀v,Ab w v->Calls prog 28 #[(.pointer (some ⟨gb,0,none⟩))] v fun e w'=>e=.returned (.int .i64 (M:Nat))/\Below v.heap.size v w'))
  (CE:Hid (∀v,Ab w v->Calls prog 32 #[(.pointer (some ⟨gb,0,none⟩))] v fun e w'=>e=.returned (.int .i64 (N:Nat))/\Below v.heap.size v w')):
  Calls prog 83 #[(.pointer (some ⟨gb,0,none⟩)),.agg #[.slice pb lb cb,.slice pw lw cw,.slice pt lt ct,.slice ps ls cs,.int .i64 sky,.int .i64 st]] w fun e w'=>e=.returned (.bool q)/\Below w.heap.size w w':=by
 obtain⟨A0,RO⟩:=aO w (.cells #[.slice pb lb cb,.slice pw lw cw,.slice pt lt ct,.slice ps ls cs,.int .i64 sky,.int .i64 st] 29)
 go_enter func83,ntmps83
 go_wp2_with fail
 refine(CC.out _ A0.out).mono ?_
 rintro e9 v1 ⟨rfl,b1⟩
 have A1:Hid (Ab w v1):=A0.out.call b1
 have R1:Hid (v1.heap[w.heap.size]? =some (.cells #[.slice pb lb cb,.slice pw lw cw,.slice pt lt ct,.slice ps ls cs,.int .i64 sky,.int .i64 st] 29)):=Ab.heap b1 RO.out
 clear b1 A0 RO
 go_upto_region 2 with fail
 obtain⟨gs,hgs⟩:=aD w.heap.size
 rw[hgs]at R1 ⊢
 clear hgs
 rcases hq with⟨q1,rfl⟩ | ⟨q1,q2,rfl⟩ | ⟨q1,q2,q3,rfl⟩ | ⟨q1,q2,q3,q4⟩
 ·obtain⟨UU,E,hF1,hF2⟩:=cls v1
  have HU:=hid hF2
  have HU1:=hid hF1
  have HX:Hid (∀u,Ab w (E u)):=fun u=>Ab.trans A1.out (hF1 u)
  have s0: ∀u,(E u).cell? ⟨gs,0,none⟩=some (.slice pb lb cb):=fun u=>aA 0 ((hF1 u).heap R1.out)
  have s1: ∀u,(E u).cell? ⟨gs,1,none⟩=some (.slice pw lw cw):=fun u=>aA 1 ((hF1 u).heap R1.out)
  have s2: ∀u,(E u).cell? ⟨gs,2,none⟩=some (.slice pt lt ct):=fun u=>aA 2 ((hF1 u).heap R1.out)
  have s3: ∀u,(E u).cell? ⟨gs,3,none⟩=some (.slice ps ls cs):=fun u=>aA 3 ((hF1 u).heap R1.out)
  have DD0:=HU.out _ (Ab.refl v1).drew
  clear hF1 hF2
  refine aK E (by kernel_rfl) (by kernel_rfl) DD0 ?_
  repeat(go_big_quiet_step (first
   | (with_reducible rfl)
   | (go_at_call 32;exact aH HU HU1 (CE.out _ (HX.out _)))))
  refine wpQuiet_nil ?_
  intro z hwz
  obtain⟨u0,hu⟩:=hwz
  have AZ:Hid (Ab w z):=by rw[hu];exact HX.out u0
  clear hu u0
  clear HU HU1 HX DD0 s0 s1 s2 s3
  clear E UU
  go_wp2
  go_ret
  exact⟨rfl,AZ.out⟩
 ·obtain⟨UU,E,hF1,hF2⟩:=cls v1
  have HU:=hid hF2
  have HU1:=hid hF1
  have HX:Hid (∀u,Ab w (E u)):=fun u=>Ab.trans A1.out (hF1 u)
  have s0: ∀u,(E u).cell? ⟨gs,0,none⟩=some (.slice pb lb cb):=fun u=>aA 0 ((hF1 u).heap R1.out)
  have s1: ∀u,(E u).cell? ⟨gs,1,none⟩=some (.slice pw lw cw):=fun u=>aA 1 ((hF1 u).heap R1.out)
  have s2: ∀u,(E u).cell? ⟨gs,2,none⟩=some (.slice pt lt ct):=fun u=>aA 2 ((hF1 u).heap R1.out)
  have s3: ∀u,(E u).cell? ⟨gs,3,none⟩=some (.slice ps ls cs):=fun u=>aA 3 ((hF1 u).heap R1.out)
  have DD0:=HU.out _ (Ab.refl v1).drew
  clear hF1 hF2
  refine aK E (by kernel_rfl) (by kernel_rfl) DD0 ?_
  repeat(go_big_quiet_step (first
   | (with_reducible rfl)
   | (go_at_call 32;exact aH HU HU1 (CE.out _ (HX.out _)))))
  refine wpQuiet_nil ?_
  intro z hwz
  obtain⟨u0,hu⟩:=hwz
  have AZ:Hid (Ab w z):=by rw[hu];exact HX.out u0
  clear hu u0
  clear HU HU1 HX DD0 s0 s1 s2 s3
  clear E UU
  go_wp2
  go_ret
  exact⟨rfl,AZ.out⟩
 ·obtain⟨UU,E,hF1,hF2⟩:=cls v1
  have HU:=hid hF2
  have HU1:=hid hF1
  have HX:Hid (∀u,Ab w (E u)):=fun u=>Ab.trans A1.out (hF1 u)
  have s0: ∀u,(E u).cell? ⟨gs,0,none⟩=some (.slice pb lb cb):=fun u=>aA 0 ((hF1 u).heap R1.out)
  have s1: ∀u,(E u).cell? ⟨gs,1,none⟩=some (.slice pw lw cw):=fun u=>aA 1 ((hF1 u).heap R1.out)
  have s2: ∀u,(E u).cell? ⟨gs,2,none⟩=some (.slice pt lt ct):=fun u=>aA 2 ((hF1 u).heap R1.out)
  have s3: ∀u,(E u).cell? ⟨gs,3,none⟩=some (.slice ps ls cs):=fun u=>aA 3 ((hF1 u).heap R1.out)
  have DD0:=HU.out _ (Ab.refl v1).drew
  clear hF1 hF2
  refine aK E (by kernel_rfl) (by kernel_rfl) DD0 ?_
  repeat(go_big_quiet_step (first
   | (with_reducible rfl)
   | (go_at_call 32;exact aH HU HU1 (CE.out _ (HX.out _)))))
  refine wpQuiet_nil ?_
  intro z hwz
  obtain⟨u0,hu⟩:=hwz
  have AZ:Hid (Ab w z):=by rw[hu];exact HX.out u0
  clear hu u0
  clear HU HU1 HX DD0 s0 s1 s2 s3
  clear E UU
  go_wp2
  go_ret
  exact⟨rfl,AZ.out⟩
 ·obtain⟨UU,E,hF1,hF2⟩:=cls v1
  have HU:=hid hF2
  have HU1:=hid hF1
  have HX:Hid (∀u,Ab w (E u)):=fun u=>Ab.trans A1.out (hF1 u)
  have s0: ∀u,(E u).cell? ⟨gs,0,none⟩=some (.slice pb lb cb):=fun u=>aA 0 ((hF1 u).heap R1.out)
  have s1: ∀u,(E u).cell? ⟨gs,1,none⟩=some (.slice pw lw cw):=fun u=>aA 1 ((hF1 u).heap R1.out)
  have s2: ∀u,(E u).cell? ⟨gs,2,none⟩=some (.slice pt lt ct):=fun u=>aA 2 ((hF1 u).heap R1.out)
  have s3: ∀u,(E u).cell? ⟨gs,3,none⟩=some (.slice ps ls cs):=fun u=>aA 3 ((hF1 u).heap R1.out)
  have DD0:=HU.out _ (Ab.refl v1).drew
  clear hF1 hF2
  refine aK E (by kernel_rfl) (by kernel_rfl) DD0 ?_
  repeat(go_big_quiet_step (first
   | (with_reducible rfl)
   | (go_at_call 32;exact aH HU HU1 (CE.out _ (HX.out _)))))
  refine wpQuiet_nil ?_
  intro z hwz
  obtain⟨u0,hu⟩:=hwz
  have AZ:Hid (Ab w z):=by rw[hu];exact HX.out u0
  clear hu u0
  clear HU HU1 HX DD0 s0 s1 s2 s3
  clear E UU
  go_wp2
  go_ret
  exact⟨rfl,AZ.out⟩
theorem GU(gb:Nat)(pb pw pt ps:Option Addr)(lb cb lw cw lt ct ls cs:Nat)(sky st:Int){n:Nat}(q:Bool)(w:World)(g:GridOf n gb w)(hq:q=true ↔ (lb=6*n*n/\lw=6*n*n/\lt=6*n*n/\ls=12*n*n)):
  Calls prog 83 #[.pointer (some ⟨gb,0,none⟩),.agg #[.slice pb lb cb,.slice pw lw cw,.slice pt lt ct,.slice ps ls cs,.int .i64 sky,.int .i64 st]] w fun e w'=>e=.returned (.bool q)/\Below w.heap.size w w':=by
 refine fitw19 gb pb pw pt ps lb cb lw cw lt ct ls cs sky st (6*n*n) (12*n*n) q w ?_ (fun v hv=>(cY (g.to hv)).mono fun _ _ h=>⟨h.1,by obtain⟨_,rfl⟩:=h;exact Below.refl _ _⟩) (fun v hv=>(cO (g.to hv)).mono fun _ _ h=>⟨h.1,by obtain⟨_,rfl⟩:=h;exact Below.refl _ _⟩)
 have e: ∀a b:Nat,((a:Int)==(b:Int))=decide (a=b):=fun a b=>by rw[Bool.eq_iff_iff];simp;omega
 have qf: ¬(lb=6*n*n/\lw=6*n*n/\lt=6*n*n/\ls=12*n*n)->q=false:=fun h=>by
  cases hc:q
  ·rfl
  ·exact absurd (hq.1 hc) h
 rw[e,e,e,e]
 by_cases c1:lb=6*n*n
 ·by_cases c2:lw=6*n*n
  ·by_cases c3:lt=6*n*n
   ·refine .inr (.inr (.inr ⟨decide_eq_true c1,decide_eq_true c2,decide_eq_true c3,?_⟩))
    rw[Bool.eq_iff_iff,decide_eq_true_eq,hq]
    exact⟨fun h=>⟨c1,c2,c3,h⟩,fun h=>h.2.2.2⟩
   ·exact .inr (.inr (.inl ⟨decide_eq_true c1,decide_eq_true c2,decide_eq_false c3,qf (fun h=>c3 h.2.2.1)⟩))
  ·exact .inr (.inl ⟨decide_eq_true c1,decide_eq_false c2,qf (fun h=>c2 h.2.1)⟩)
 ·exact .inl ⟨decide_eq_false c1,qf (fun h=>c1 h.1)⟩
theorem pA(p:Option Addr)(N c:Nat)(f:Nat->Int)(w:World)(hN:N<=6144)(hf:Sh.IsI w p N f)(OK:Hid (okV N f)):
  Calls prog 84 #[.slice p N c] w fun e w'=>e=.returned (.bool true)/\Below w.heap.size w w':=by
 have HF:=hid hf
 have HN:=hid hN
 clear hf hN
 go_enter func84,ntmps84
 go_wp2
 go_loopw [3,8] (fun sv iv wr=> ∃k:Nat,k<=N/\iv=.int .i64 (k:Nat)/\sv=.int .i64 (4503599627370496 - Sh.sumN f k)/\(0<=Sh.sumN f k/\Sh.sumN f k<=4503599627370496)/\wr=w) (fun _ iv _=>N - (intOf iv).toNat)
 case atStart=>exact⟨0,by omega,rfl,rfl,⟨Int.le_refl 0,by show(0:Int)<=_;omega⟩,rfl⟩
 case round=>
  obtain⟨k,hk,rfl,rfl,hb,hwr⟩:=hrel
  have hwr2:=hwr.symm
  subst hwr2
  have s1:=hb.1
  have s2:=hb.2
  obtain⟨s,hs⟩:=aD (4503599627370496 - Sh.sumN f k)
  have SE:=hid hs
  have s3:0<=s:=by omega
  have s4:s<=4503599627370496:=by omega
  rw[hs]
  clear hb
  by_cases hkn:k<N
  ·have HK:=hid hkn
   have kI:(k:Int)<N:=by omega
   have kB:(k:Int)<=6144:=by have:=HN.out;omega
   obtain⟨b0,o0,rfl⟩:=HF.out.some0 (show 0<N by omega)
   obtain⟨x,hx⟩:=aD (f k)
   have xc:=(HF.out.at0 hkn).2.2
   rw[hx]at xc
   have XE:=hid hx
   have m3:Sh.sumN f (k+1)=Sh.sumN f k+x:=by show Sh.sumN f k+f k=_;rw[hx]
   have M3:Hid (4503599627370496 - Sh.sumN f (k+1)=s - x):=by show _=_;rw[m3];omega
   have m1:=OK.out.1 k hkn
   have m2:=Sh.eI OK.out.1 (m:=k+1) (by omega)
   have m4:=OK.out.2
   rw[hx]at m1
   have n1:0<=s - x:=by omega
   have n2:Hid (0<=Sh.sumN f (k+1)/\Sh.sumN f (k+1)<=4503599627370496):=⟨by omega,by omega⟩
   have d1:decide (x<0)=false:=decide_eq_false (by omega)
   have d2:decide (s<x)=false:=decide_eq_false (by omega)
   clear hx hs m2 m3 m4 hkn hk s1 s2
   go_wp2
   exact⟨⟨k+1,by have:=HK.out;omega,by simp,by rw[M3.out],n2.out,by first | trivial | rfl⟩,by have:=HK.out;simp[intOf];omega⟩
  ·have e6:N=k:=by omega
   subst e6
   go_wp2
   go_ret
   exact⟨rfl,Below.refl _ _⟩
theorem Ak(p:Option Addr)(N c:Nat)(f:Nat->Int)(w:World)(hN:N<=6144)(hf:Sh.IsI w p N f)(NO:Hid (¬okV N f)):
  Calls prog 84 #[.slice p N c] w fun e w'=>e=.returned (.bool false)/\Below w.heap.size w w':=by
 have HF:=hid hf
 have HN:=hid hN
 clear hf hN
 go_enter func84,ntmps84
 go_wp2
 go_loopw [3,8] (fun sv iv wr=> ∃k:Nat,k<=N/\iv=.int .i64 (k:Nat)/\sv=.int .i64 (4503599627370496 - Sh.sumN f k)/\(0<=Sh.sumN f k/\Sh.sumN f k<=4503599627370496)/\(∀i,i<k->0<=f i)/\wr=w) (fun _ iv _=>N - (intOf iv).toNat)
 case atStart=>exact⟨0,by omega,rfl,rfl,⟨Int.le_refl 0,by show(0:Int)<=_;omega⟩,fun i hi=>absurd hi (Nat.not_lt_zero i),rfl⟩
 case round=>
  obtain⟨k,hk,rfl,rfl,hb,g1,hwr⟩:=hrel
  have hwr2:=hwr.symm
  subst hwr2
  have G1:=hid g1
  clear g1
  have s1:=hb.1
  have s2:=hb.2
  obtain⟨s,hs⟩:=aD (4503599627370496 - Sh.sumN f k)
  have SE:=hid hs
  have s3:0<=s:=by omega
  have s4:s<=4503599627370496:=by omega
  rw[hs]
  clear hb
  by_cases hkn:k<N
  ·have HK:=hid hkn
   have kI:(k:Int)<N:=by omega
   have kB:(k:Int)<=6144:=by have:=HN.out;omega
   obtain⟨b0,o0,rfl⟩:=HF.out.some0 (show 0<N by omega)
   obtain⟨x,hx⟩:=aD (f k)
   have xc:=(HF.out.at0 hkn).2.2
   rw[hx]at xc
   have XE:=hid hx
   have m3:Sh.sumN f (k+1)=Sh.sumN f k+x:=by show Sh.sumN f k+f k=_;rw[hx]
   have M3:Hid (4503599627370496 - Sh.sumN f (k+1)=s - x):=by show _=_;rw[m3];omega
   by_cases q1:x<0
   ·have d1:decide (x<0)=true:=decide_eq_true q1
    clear hx hs m3 hkn hk s1 s2
    go_wp2
    go_ret
    exact⟨rfl,Below.refl _ _⟩
   ·have d1:decide (x<0)=false:=decide_eq_false q1
    by_cases q2:s<x
    ·have d2:decide (s<x)=true:=decide_eq_true q2
     clear hx hs m3 hkn hk s1 s2
     go_wp2
     go_ret
     exact⟨rfl,Below.refl _ _⟩
    ·have d2:decide (s<x)=false:=decide_eq_false q2
     have n1:0<=s - x:=by omega
     have n2:Hid (0<=Sh.sumN f (k+1)/\Sh.sumN f (k+1)<=4503599627370496):=⟨by omega,by omega⟩
     have n3:0<=x:=by omega
     have G2:Hid (∀i,i<k+1->0<=f i):=fun i hi=>by
      by_cases l:i<k
      ·exact G1.out i l
      ·obtain rfl:i=k:=by omega
       rw[XE.out]
       omega
     clear q1 q2 hx hs m3 hkn hk s1 s2
     go_wp2
     exact⟨⟨k+1,by have:=HK.out;omega,by simp,by rw[M3.out],n2.out,G2.out,by first | trivial | rfl⟩,by have:=HK.out;simp[intOf];omega⟩
  ·have e6:N=k:=by omega
   subst e6
   exact absurd ⟨G1.out,s2⟩ NO.out
theorem GZ(x a:Int)(w:World)(h1: -9223372036854775808<=x/\x<=9223372036854775807)(h2:a<=9223372036854775807):
  Calls prog 87 #[.int .i64 x,.int .i64 a] w fun e w'=>e=.returned (.bool (decide (0<x)&&flt (dpB x a) 4602678819172646912))/\Below w.heap.size w w':=by
 have CD:=hid (iV x a w h1.2 h2)
 have dl:x<=4503599627370496->dpB x a<18446744073709551616:=fun h=>by
  have:=nJ (w:=x) (a:=a) (by omega) h2
  omega
 obtain⟨d,hd⟩:=aD (dpB x a)
 rw[hd]at CD
 rw[hd]
 clear hd dl
 cases e1:decide (0<x)with
 | false=>
  clear CD
  go_enter func87,ntmps87
  go_wp2
  go_ret
  exact⟨rfl,Below.refl _ _⟩
 | true=>
  go_enter func87,ntmps87
  go_wp2_with fail
  refine CD.out.mono ?_
  rintro e9 v9 ⟨rfl,k,rfl⟩
  go_wp2
  go_ret
  exact⟨rfl,Ab.drewN (Ab.refl w) k⟩
end Rv
end
section
open Go.ChangeShapes Go.WideShapes Go.ChangeAt Go.WideMaps Go.WideElems Go.RowKit Go.Deep
theorem array6'{c:Array Value}(h:c.size=6): ∃v0 v1 v2 v3 v4 v5,c= #[v0,v1,v2,v3,v4,v5]:=by
 rcases c with⟨l⟩
 match l,h with
 | [v0,v1,v2,v3,v4,v5],_=>exact⟨v0,v1,v2,v3,v4,v5,rfl⟩
end
section
open Go.ChangeShapes Go.WideShapes Go.ChangeAt Go.WideMaps Go.WideElems Go.RowKit Go.Deep
theorem array7'{c:Array Value}(h:c.size=7): ∃v0 v1 v2 v3 v4 v5 v6,c= #[v0,v1,v2,v3,v4,v5,v6]:=by
 rcases c with⟨l⟩
 match l,h with
 | [v0,v1,v2,v3,v4,v5,v6],_=>exact⟨v0,v1,v2,v3,v4,v5,v6,rfl⟩
theorem Al{H:Type}{enc:TypeId × Value->H}{P:Program}{w:World}{base:Nat}{spare:Nat->Bool}{held:Bool}{t:TypeId}{fuel:Nat}{v:Value}{x:DataW H × List MemPlace}(ht:P.underlying t=some .bool)(h:DataW.trod enc P w base spare held fuel t [v]=some x):
  ∃b,v=.bool b:=by
 cases fuel with
 | zero=>simp[DataW.trod]at h
 | succ n=>
  unfold DataW.trod at h
  rw[ht]at h
  split at h<;>simp_all
end
end Go.Proofs.YtaphajlpbgcfjaaGreatDoor
