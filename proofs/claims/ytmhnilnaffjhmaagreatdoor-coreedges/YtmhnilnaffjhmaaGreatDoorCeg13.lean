/-
  Some of the texts of this proof, one behind the other.
-/
import Derived.Test.YtmhnilnaffjhmaaGreatDoorCeg12
set_option maxRecDepth 100000
set_option maxHeartbeats 400000000
namespace Go.Proofs.YtmhnilnaffjhmaaGreatDoor
open _root_.Go.Proofs.Tryz
section
open Go.RowKit Tf Cu Go.Deep
attribute [local go_sem] aJ aK aN aO aP aQ aV aD
namespace Ss
theorem misfit_0(N:Nat)(pb:Option Addr)(lb cb:Nat)(pw:Option Addr)(lw cw:Nat)(pt:Option Addr)(lt ct:Nat)(ps:Option Addr)(ls cs:Nat)(sky st:Int)(w:World)(_hN:(N:Int)<=6144)(h0:((lb:Int) != (N:Int))=true):
  Calls prog 107 #[.int .i64 (N:Nat),.agg #[.slice pb lb cb,.slice pw lw cw,.slice pt lt ct,.slice ps ls cs,.int .i64 sky,.int .i64 st]] w fun e w'=>e=.returned (.int .i64 0)/\Below w.heap.size w w':=by
 obtain⟨A0,R0⟩:=aL w (.cells #[.slice pb lb cb,.slice pw lw cw,.slice pt lt ct,.slice ps ls cs,.int .i64 sky,.int .i64 st] 48)
 go_enter func107,ntmps107
 go_upto_region 1 with fail
 generalize hW:World.alloc w _=V0 at*
 obtain⟨gw,hgw⟩:=aB w.heap.size
 rw[hgw]at R0 ⊢
 clear hgw hW
 have x0:=aG R0.out
 go_wp2
 go_ret
 exact⟨rfl,A0.out⟩
theorem misfit_1(N:Nat)(pb:Option Addr)(lb cb:Nat)(pw:Option Addr)(lw cw:Nat)(pt:Option Addr)(lt ct:Nat)(ps:Option Addr)(ls cs:Nat)(sky st:Int)(w:World)(_hN:(N:Int)<=6144)(h0:((lb:Int) != (N:Int))=false)(h1:((lw:Int) != (N:Int))=true):
  Calls prog 107 #[.int .i64 (N:Nat),.agg #[.slice pb lb cb,.slice pw lw cw,.slice pt lt ct,.slice ps ls cs,.int .i64 sky,.int .i64 st]] w fun e w'=>e=.returned (.int .i64 1)/\Below w.heap.size w w':=by
 obtain⟨A0,R0⟩:=aL w (.cells #[.slice pb lb cb,.slice pw lw cw,.slice pt lt ct,.slice ps ls cs,.int .i64 sky,.int .i64 st] 48)
 go_enter func107,ntmps107
 go_upto_region 1 with fail
 generalize hW:World.alloc w _=V0 at*
 obtain⟨gw,hgw⟩:=aB w.heap.size
 rw[hgw]at R0 ⊢
 clear hgw hW
 have x0:=aG R0.out
 go_wp2
 go_ret
 exact⟨rfl,A0.out⟩
theorem misfit_2(N:Nat)(pb:Option Addr)(lb cb:Nat)(pw:Option Addr)(lw cw:Nat)(pt:Option Addr)(lt ct:Nat)(ps:Option Addr)(ls cs:Nat)(sky st:Int)(w:World)(_hN:(N:Int)<=6144)(h0:((lb:Int) != (N:Int))=false)(h1:((lw:Int) != (N:Int))=false)(h2:((lt:Int) != (N:Int))=true):
  Calls prog 107 #[.int .i64 (N:Nat),.agg #[.slice pb lb cb,.slice pw lw cw,.slice pt lt ct,.slice ps ls cs,.int .i64 sky,.int .i64 st]] w fun e w'=>e=.returned (.int .i64 2)/\Below w.heap.size w w':=by
 obtain⟨A0,R0⟩:=aL w (.cells #[.slice pb lb cb,.slice pw lw cw,.slice pt lt ct,.slice ps ls cs,.int .i64 sky,.int .i64 st] 48)
 go_enter func107,ntmps107
 go_upto_region 1 with fail
 generalize hW:World.alloc w _=V0 at*
 obtain⟨gw,hgw⟩:=aB w.heap.size
 rw[hgw]at R0 ⊢
 clear hgw hW
 have x0:=aG R0.out
 go_wp2
 go_ret
 exact⟨rfl,A0.out⟩
theorem misfit_3(N:Nat)(pb:Option Addr)(lb cb:Nat)(pw:Option Addr)(lw cw:Nat)(pt:Option Addr)(lt ct:Nat)(ps:Option Addr)(ls cs:Nat)(sky st:Int)(w:World)(hN:(N:Int)<=6144)(h0:((lb:Int) != (N:Int))=false)(h1:((lw:Int) != (N:Int))=false)(h2:((lt:Int) != (N:Int))=false)(h3:((ls:Int) != 2*(N:Int))=true):
  Calls prog 107 #[.int .i64 (N:Nat),.agg #[.slice pb lb cb,.slice pw lw cw,.slice pt lt ct,.slice ps ls cs,.int .i64 sky,.int .i64 st]] w fun e w'=>e=.returned (.int .i64 3)/\Below w.heap.size w w':=by
 obtain⟨A0,R0⟩:=aL w (.cells #[.slice pb lb cb,.slice pw lw cw,.slice pt lt ct,.slice ps ls cs,.int .i64 sky,.int .i64 st] 48)
 go_enter func107,ntmps107
 go_upto_region 1 with fail
 generalize hW:World.alloc w _=V0 at*
 obtain⟨gw,hgw⟩:=aB w.heap.size
 rw[hgw]at R0 ⊢
 clear hgw hW
 have x0:=aG R0.out
 go_wp2
 go_ret
 exact⟨rfl,A0.out⟩
theorem misfit_4(N:Nat)(pb:Option Addr)(lb cb:Nat)(pw:Option Addr)(lw cw:Nat)(pt:Option Addr)(lt ct:Nat)(ps:Option Addr)(ls cs:Nat)(sky st:Int)(w:World)(hN:(N:Int)<=6144)(h0:((lb:Int) != (N:Int))=false)(h1:((lw:Int) != (N:Int))=false)(h2:((lt:Int) != (N:Int))=false)(h3:((ls:Int) != 2*(N:Int))=false):
  Calls prog 107 #[.int .i64 (N:Nat),.agg #[.slice pb lb cb,.slice pw lw cw,.slice pt lt ct,.slice ps ls cs,.int .i64 sky,.int .i64 st]] w fun e w'=>e=.returned (.int .i64 (-1))/\Below w.heap.size w w':=by
 obtain⟨A0,R0⟩:=aL w (.cells #[.slice pb lb cb,.slice pw lw cw,.slice pt lt ct,.slice ps ls cs,.int .i64 sky,.int .i64 st] 48)
 go_enter func107,ntmps107
 go_upto_region 1 with fail
 generalize hW:World.alloc w _=V0 at*
 obtain⟨gw,hgw⟩:=aB w.heap.size
 rw[hgw]at R0 ⊢
 clear hgw hW
 have x0:=aG R0.out
 go_wp2
 go_ret
 exact⟨rfl,A0.out⟩
def nuB(dt gr dr:Nat)(lim:Int):Bool:=fgt dt 0&&(flt dt 4652218415073722368||feq dt 4652218415073722368)&&btw gr 0 4652218415073722368&&btw dr 0 4652218415073722368&&decide (0<=lim/\lim<=3)
theorem nuB_iff{dt gr dr:Nat}{lim:Int}(hd:dt<18446744073709551616):nuB dt gr dr lim=true ↔ (btw dt 0 4652218415073722368=true/\feq dt 0=false/\btw gr 0 4652218415073722368=true/\btw dr 0 4652218415073722368=true/\(0<=lim/\lim<=3)):=by
 have k1:fgt dt 0=true->feq dt 0=false/\dt≠9223372036854775808:=fun h=>by
  refine⟨?_,fun e=> ?_⟩
  ·rw[eT dt 0 hd (by omega)]at h
   rw[gQ dt 0 hd (by omega)]
   simp only[Bool.and_eq_true,decide_eq_true_eq]at h
   have:decide (rk dt=rk 0)=false:=decide_eq_false (by omega)
   rw[this]
   simp
  ·rw[e]at h
   exact absurd h (by decide+kernel)
 have e:btw dt 0 4652218415073722368=((fgt dt 0||feq dt 0)&&(flt dt 4652218415073722368||feq dt 4652218415073722368)&&decide (dt≠9223372036854775808)):=rfl
 unfold nuB
 rw[e]
 generalize(flt dt 4652218415073722368||feq dt 4652218415073722368)=d2
 constructor
 ·intro h
  simp only[Bool.and_eq_true,decide_eq_true_eq]at h
  obtain⟨⟨⟨⟨h1,h2⟩,h3⟩,h4⟩,h5⟩:=h
  obtain⟨q1,q2⟩:=k1 h1
  refine⟨?_,q1,h3,h4,h5⟩
  rw[h1,h2,decide_eq_true q2]
  rfl
 ·rintro⟨h1,h2,h3,h4,h5⟩
  rw[h2,Bool.or_false]at h1
  simp only[Bool.and_eq_true,decide_eq_true_eq]at h1
  rw[h1.1.1,h1.1.2,h3,h4,decide_eq_true h5]
  rfl
theorem nums_0(sd:Int)(dt gr dr:Nat)(lim:Int)(rv:Bool)(pr:Option Addr)(lr cr:Nat)(w:World)(h0:fgt dt 0=false):
  Calls prog 105 #[.agg #[.int .i64 sd,.float .f64 dt,.float .f64 gr,.float .f64 dr,.int .i64 lim,.bool rv,.slice pr lr cr]] w fun e w'=>e=.returned (.bool false)/\Below w.heap.size w w':=by
 obtain⟨A0,R0⟩:=aL w (.cells #[.int .i64 sd,.float .f64 dt,.float .f64 gr,.float .f64 dr,.int .i64 lim,.bool rv,.slice pr lr cr] 45)
 go_enter func105,ntmps105
 go_upto_region 1 with fail
 generalize hW:World.alloc w _=V0 at*
 obtain⟨gw,hgw⟩:=aB w.heap.size
 rw[hgw]at R0 ⊢
 clear hgw hW
 have x0:=aY R0.out
 go_wp2
 go_ret
 exact⟨rfl,A0.out⟩
theorem nums_1(sd:Int)(dt gr dr:Nat)(lim:Int)(rv:Bool)(pr:Option Addr)(lr cr:Nat)(w:World)(h0:fgt dt 0=true)(h1:(flt dt 4652218415073722368||feq dt 4652218415073722368)=false):
  Calls prog 105 #[.agg #[.int .i64 sd,.float .f64 dt,.float .f64 gr,.float .f64 dr,.int .i64 lim,.bool rv,.slice pr lr cr]] w fun e w'=>e=.returned (.bool false)/\Below w.heap.size w w':=by
 obtain⟨A0,R0⟩:=aL w (.cells #[.int .i64 sd,.float .f64 dt,.float .f64 gr,.float .f64 dr,.int .i64 lim,.bool rv,.slice pr lr cr] 45)
 go_enter func105,ntmps105
 go_upto_region 1 with fail
 generalize hW:World.alloc w _=V0 at*
 obtain⟨gw,hgw⟩:=aB w.heap.size
 rw[hgw]at R0 ⊢
 clear hgw hW
 have x0:=aY R0.out
 go_wp2
 go_ret
 exact⟨rfl,A0.out⟩
theorem nums_2(sd:Int)(dt gr dr:Nat)(lim:Int)(rv:Bool)(pr:Option Addr)(lr cr:Nat)(w:World)(hg:gr<18446744073709551616)(h0:fgt dt 0=true)(h1:(flt dt 4652218415073722368||feq dt 4652218415073722368)=true)(H2:Hid (btw gr 0 4652218415073722368=false)):
  Calls prog 105 #[.agg #[.int .i64 sd,.float .f64 dt,.float .f64 gr,.float .f64 dr,.int .i64 lim,.bool rv,.slice pr lr cr]] w fun e w'=>e=.returned (.bool false)/\Below w.heap.size w w':=by
 have C2:Hid (∀v,_):=fun v=>gM gr 0 4652218415073722368 _ v hg (by omega) H2.out
 clear hg
 obtain⟨A0,R0⟩:=aL w (.cells #[.int .i64 sd,.float .f64 dt,.float .f64 gr,.float .f64 dr,.int .i64 lim,.bool rv,.slice pr lr cr] 45)
 go_enter func105,ntmps105
 go_upto_region 1 with fail
 generalize hW:World.alloc w _=V0 at*
 obtain⟨gw,hgw⟩:=aB w.heap.size
 rw[hgw]at R0 ⊢
 clear hgw hW
 have x0:=aY R0.out
 go_wp2_with fail
 refine(C2.out V0).mono ?_
 rintro e9 v9 ⟨rfl,hv9⟩
 have hv8:=hv9.symm
 subst hv8
 go_wp2
 go_ret
 exact⟨rfl,A0.out⟩
theorem nums_3(sd:Int)(dt gr dr:Nat)(lim:Int)(rv:Bool)(pr:Option Addr)(lr cr:Nat)(w:World)(hg:gr<18446744073709551616)(hd:dr<18446744073709551616)(h0:fgt dt 0=true)(h1:(flt dt 4652218415073722368||feq dt 4652218415073722368)=true)(H2:Hid (btw gr 0 4652218415073722368=true))(H3:Hid (btw dr 0 4652218415073722368=false)):
  Calls prog 105 #[.agg #[.int .i64 sd,.float .f64 dt,.float .f64 gr,.float .f64 dr,.int .i64 lim,.bool rv,.slice pr lr cr]] w fun e w'=>e=.returned (.bool false)/\Below w.heap.size w w':=by
 have C2:Hid (∀v,_):=fun v=>gM gr 0 4652218415073722368 _ v hg (by omega) H2.out
 clear hg
 have C3:Hid (∀v,_):=fun v=>gM dr 0 4652218415073722368 _ v hd (by omega) H3.out
 clear hd
 obtain⟨A0,R0⟩:=aL w (.cells #[.int .i64 sd,.float .f64 dt,.float .f64 gr,.float .f64 dr,.int .i64 lim,.bool rv,.slice pr lr cr] 45)
 go_enter func105,ntmps105
 go_upto_region 1 with fail
 generalize hW:World.alloc w _=V0 at*
 obtain⟨gw,hgw⟩:=aB w.heap.size
 rw[hgw]at R0 ⊢
 clear hgw hW
 have x0:=aY R0.out
 go_wp2_with fail
 refine(C2.out V0).mono ?_
 rintro e9 v9 ⟨rfl,hv9⟩
 have hv8:=hv9.symm
 subst hv8
 go_wp2_with fail
 refine(C3.out V0).mono ?_
 rintro e9 v9 ⟨rfl,hv9⟩
 have hv8:=hv9.symm
 subst hv8
 go_wp2
 go_ret
 exact⟨rfl,A0.out⟩
theorem nums_4(sd:Int)(dt gr dr:Nat)(lim:Int)(rv:Bool)(pr:Option Addr)(lr cr:Nat)(w:World)(hg:gr<18446744073709551616)(hd:dr<18446744073709551616)(h0:fgt dt 0=true)(h1:(flt dt 4652218415073722368||feq dt 4652218415073722368)=true)(H2:Hid (btw gr 0 4652218415073722368=true))(H3:Hid (btw dr 0 4652218415073722368=true)):
  Calls prog 105 #[.agg #[.int .i64 sd,.float .f64 dt,.float .f64 gr,.float .f64 dr,.int .i64 lim,.bool rv,.slice pr lr cr]] w fun e w'=>e=.returned (.bool (decide (0<=lim/\lim<=3)))/\Below w.heap.size w w':=by
 have C2:Hid (∀v,_):=fun v=>gM gr 0 4652218415073722368 _ v hg (by omega) H2.out
 clear hg
 have C3:Hid (∀v,_):=fun v=>gM dr 0 4652218415073722368 _ v hd (by omega) H3.out
 clear hd
 obtain⟨lb,LB⟩: ∃b,decide (0<=lim/\lim<=3)=b:=⟨_,rfl⟩
 have C4:Hid (∀v,_):=fun v=>cV lim v
 rw[LB]at C4 ⊢
 clear LB
 obtain⟨A0,R0⟩:=aL w (.cells #[.int .i64 sd,.float .f64 dt,.float .f64 gr,.float .f64 dr,.int .i64 lim,.bool rv,.slice pr lr cr] 45)
 go_enter func105,ntmps105
 go_upto_region 1 with fail
 generalize hW:World.alloc w _=V0 at*
 obtain⟨gw,hgw⟩:=aB w.heap.size
 rw[hgw]at R0 ⊢
 clear hgw hW
 have x0:=aY R0.out
 go_wp2_with fail
 refine(C2.out V0).mono ?_
 rintro e9 v9 ⟨rfl,hv9⟩
 have hv8:=hv9.symm
 subst hv8
 go_wp2_with fail
 refine(C3.out V0).mono ?_
 rintro e9 v9 ⟨rfl,hv9⟩
 have hv8:=hv9.symm
 subst hv8
 go_wp2_with fail
 refine(C4.out V0).mono ?_
 rintro e9 v1 ⟨rfl,b1⟩
 have A1:Hid (Ab w v1):=A0.out.trans b1
 clear b1
 go_wp2
 go_ret
 exact⟨rfl,A1.out⟩
theorem DM(sd:Int)(dt gr dr:Nat)(lim:Int)(rv:Bool)(pr:Option Addr)(lr cr:Nat)(r:Bool)(w:World)(hg:gr<18446744073709551616)(hd:dr<18446744073709551616)(hr:nuB dt gr dr lim=r):
  Calls prog 105 #[.agg #[.int .i64 sd,.float .f64 dt,.float .f64 gr,.float .f64 dr,.int .i64 lim,.bool rv,.slice pr lr cr]] w fun e w'=>e=.returned (.bool r)/\Below w.heap.size w w':=by
 unfold nuB at hr
 cases h0:fgt dt 0 with
 | false=>
  rw[h0]at hr
  rw[<- hr]
  exact nums_0 sd dt gr dr lim rv pr lr cr w h0
 | true=>
  cases h1:(flt dt 4652218415073722368||feq dt 4652218415073722368)with
  | false=>
   rw[h0,h1]at hr
   rw[<- hr]
   exact nums_1 sd dt gr dr lim rv pr lr cr w h0 h1
  | true=>
   cases h2:btw gr 0 4652218415073722368 with
   | false=>
    rw[h0,h1,h2]at hr
    rw[<- hr]
    exact nums_2 sd dt gr dr lim rv pr lr cr w hg h0 h1 h2
   | true=>
    cases h3:btw dr 0 4652218415073722368 with
    | false=>
     rw[h0,h1,h2,h3]at hr
     rw[<- hr]
     exact nums_3 sd dt gr dr lim rv pr lr cr w hg hd h0 h1 h2 h3
    | true=>
     rw[h0,h1,h2,h3]at hr
     rw[<- hr]
     exact nums_4 sd dt gr dr lim rv pr lr cr w hg hd h0 h1 h2 h3
theorem Bq(N:Int)(pr:Option Addr)(lr cr:Nat)(w:World)(h:decide ((1024:Int)<(lr:Int))=true):
  Calls prog 106 #[.int .i64 N,.slice pr lr cr] w fun e w'=>e=.returned (.bool false)/\Below w.heap.size w w':=by
 go_enter func106,ntmps106
 go_wp2
 go_ret
 exact⟨rfl,Below.refl _ _⟩
theorem yZ(N:Nat)(pr:Option Addr)(lr cr:Nat)(R:Nat->Int × Int × Int × Int)(w:World)(hl:lr<=1024)(IR:Hid (Rn.IsRn w pr lr R))(an:Bool)(AY:Hid ((∀k,k<lr->rB (N:Nat) (R k)=true)->an=true))(AN:Hid ((¬ ∀k,k<lr->rB (N:Nat) (R k)=true)->an=false)):
  Calls prog 106 #[.int .i64 (N:Nat),.slice pr lr cr] w fun e w'=>e=.returned (.bool an)/\Below w.heap.size w w':=by
 have d3:decide ((1024:Int)<(lr:Int))=false:=decide_eq_false (by omega)
 have HL:=hid hl
 clear hl
 go_enter func106,ntmps106
 go_wp2
 go_loopw [12] (fun iv wr=> ∃k:Nat,k<=lr/\iv=.int .i64 (k:Nat)/\Ab w wr/\ ∀i,i<k->rB (N:Nat) (R i)=true) (fun iv _=>lr - (intOf iv).toNat)
 case atStart=>exact⟨0,by omega,rfl,Ab.refl w,fun i hi=>absurd hi (Nat.not_lt_zero i)⟩
 case round=>
  obtain⟨k,hk,rfl,ar,g1⟩:=hrel
  have AR:=hid ar
  have G1:=hid g1
  clear ar g1
  by_cases hkn:k<lr
  ·have HK:=hid hkn
   have kI:(k:Int)<lr:=by omega
   have kB:(k:Int)<=1024:=by have:=HL.out;omega
   obtain⟨rb,ro,rfl⟩:=IR.out.some0 (show 0<lr by omega)
   obtain⟨r1,r2,r3,r4,hr⟩: ∃a b c' d,R k=(a,b,c',d):=⟨_,_,_,_,rfl⟩
   have at0:=((IR.out.below AR.out).at0 hkn)
   rw[hr]at at0
   have y0:=at0.2.2.1
   have y1:=at0.2.2.2.1
   have y2:=at0.2.2.2.2.1
   have y3:=at0.2.2.2.2.2
   have CV:Hid (∀v,Calls prog 127 #[.int .i64 (N:Nat),.agg #[.int .i64 r1,.int .i64 r2,.int .i64 r3,.int .i64 r4]] v fun e w'=>e=.returned (.bool (rB (N:Nat) (R k)))/\Below v.heap.size v w'):=fun v=>by rw[hr];exact Rn.qF (N:Nat) r1 r2 r3 r4 v
   clear at0 hkn hk hr
   obtain⟨gz,hgz⟩:=aB wr.heap.size
   go_upto_region 6 with fail
   have AL:=jP (bl1 wr (.cells #[.int .i64 r1,.int .i64 r2,.int .i64 r3,.int .i64 r4] 145))
   have RZ:Hid ((wr.alloc (.cells #[.int .i64 r1,.int .i64 r2,.int .i64 r3,.int .i64 r4] 145)).heap[gz]? =some (.cells #[.int .i64 r1,.int .i64 r2,.int .i64 r3,.int .i64 r4] 145)):=by rw[<- hgz];exact heap_alloc_new _ _
   generalize hW:World.alloc wr _=V4 at*
   clear hW hgz y0 y1 y2 y3
   have x0:=aA 0 RZ.out
   have x1:=aA 1 RZ.out
   have x2:=aA 2 RZ.out
   have x3:=aA 3 RZ.out
   cases vb:rB (N:Nat) (R k)with
   | false=>
    rw[vb]at CV
    have E:Hid (an=false):=AN.out (fun q=>by have:=q k HK.out;rw[vb]at this;cases this)
    go_wp2_with fail
    refine(CV.out V4).mono ?_
    rintro e9 v5 ⟨rfl,b5⟩
    have A5:Hid (Ab wr v5):=AL.out.trans b5
    clear b5
    go_wp2
    go_ret
    exact⟨by rw[E.out];rfl,AR.out.trans A5.out⟩
   | true=>
    rw[vb]at CV
    have VB:=hid vb
    clear vb
    go_wp2_with fail
    refine(CV.out V4).mono ?_
    rintro e9 v5 ⟨rfl,b5⟩
    have A5:Hid (Ab wr v5):=AL.out.trans b5
    clear b5
    go_wp2
    refine⟨⟨k+1,by have:=HK.out;omega,by simp,AR.out.trans A5.out,fun i hi=> ?_⟩,by have:=HK.out;simp[intOf];omega⟩
    by_cases l:i<k
    ·exact G1.out i l
    ·obtain rfl:i=k:=by omega
     exact VB.out
  ·have e6:lr=k:=by omega
   subst e6
   have E:Hid (an=true):=AY.out G1.out
   go_wp2
   go_ret
   exact⟨by rw[E.out];rfl,AR.out⟩
end Ss
end
section
open Go.RowKit Tf Cu Go.Deep
attribute [local go_sem] aJ aK aN aO aP aQ aV aD
namespace Ss
theorem plan_0(sd:Int)(dt gr dr:Nat)(lim:Int)(rv:Bool)(pr:Option Addr)(lr cr:Nat)(nc:Int)(w:World)(h0:(nc==0)=true)
  (CC:Hid (∀v,Calls prog 24 #[.int .i64 sd] v fun e w'=>e=.returned (.int .i64 nc)/\w'=v)):
  Calls prog 71 #[.agg #[.int .i64 sd,.float .f64 dt,.float .f64 gr,.float .f64 dr,.int .i64 lim,.bool rv,.slice pr lr cr]] w fun e w'=>e=.returned (.int .i64 10)/\Below w.heap.size w w':=by
 obtain⟨A0,R0⟩:=aL w (.cells #[.int .i64 sd,.float .f64 dt,.float .f64 gr,.float .f64 dr,.int .i64 lim,.bool rv,.slice pr lr cr] 45)
 go_enter func71,ntmps71
 go_upto_region 1 with fail
 generalize hW:World.alloc w _=V0 at*
 obtain⟨gw,hgw⟩:=aB w.heap.size
 rw[hgw]at R0 ⊢
 clear hgw hW
 have x0:=aY R0.out
 go_wp2_with fail
 refine(CC.out V0).mono ?_
 rintro e9 v9 ⟨rfl,hv9⟩
 have hv8:=hv9.symm
 subst hv8
 go_wp2
 go_ret
 exact⟨rfl,A0.out⟩
theorem plan_1(sd:Int)(dt gr dr:Nat)(lim:Int)(rv:Bool)(pr:Option Addr)(lr cr:Nat)(nc:Int)(w:World)(h0:(nc==0)=false)
  (CC:Hid (∀v,Calls prog 24 #[.int .i64 sd] v fun e w'=>e=.returned (.int .i64 nc)/\w'=v))
  (CN:Hid (∀v,Calls prog 105 #[.agg #[.int .i64 sd,.float .f64 dt,.float .f64 gr,.float .f64 dr,.int .i64 lim,.bool rv,.slice pr lr cr]] v fun e w'=>e=.returned (.bool false)/\Below v.heap.size v w')):
  Calls prog 71 #[.agg #[.int .i64 sd,.float .f64 dt,.float .f64 gr,.float .f64 dr,.int .i64 lim,.bool rv,.slice pr lr cr]] w fun e w'=>e=.returned (.int .i64 11)/\Below w.heap.size w w':=by
 obtain⟨A0,R0⟩:=aL w (.cells #[.int .i64 sd,.float .f64 dt,.float .f64 gr,.float .f64 dr,.int .i64 lim,.bool rv,.slice pr lr cr] 45)
 go_enter func71,ntmps71
 go_upto_region 1 with fail
 generalize hW:World.alloc w _=V0 at*
 obtain⟨gw,hgw⟩:=aB w.heap.size
 rw[hgw]at R0 ⊢
 clear hgw hW
 have x0:=aY R0.out
 go_wp2_with fail
 refine(CC.out V0).mono ?_
 rintro e9 v9 ⟨rfl,hv9⟩
 have hv8:=hv9.symm
 subst hv8
 go_wp2_with fail
 refine(CN.out V0).mono ?_
 rintro e9 v1 ⟨rfl,b1⟩
 have A1:Hid (Ab w v1):=A0.out.trans b1
 have R1:=hid (Ab.heap b1 R0.out)
 clear b1 x0
 have x0:=aY R1.out
 go_wp2
 go_ret
 exact⟨rfl,A1.out⟩
theorem plan_2(sd:Int)(dt gr dr:Nat)(lim:Int)(rv:Bool)(pr:Option Addr)(lr cr:Nat)(nc:Int)(w:World)(h0:(nc==0)=false)
  (CC:Hid (∀v,Calls prog 24 #[.int .i64 sd] v fun e w'=>e=.returned (.int .i64 nc)/\w'=v))
  (CN:Hid (∀v,Calls prog 105 #[.agg #[.int .i64 sd,.float .f64 dt,.float .f64 gr,.float .f64 dr,.int .i64 lim,.bool rv,.slice pr lr cr]] v fun e w'=>e=.returned (.bool true)/\Below v.heap.size v w'))
  (CR:Hid (∀v,Ab w v->Calls prog 106 #[.int .i64 nc,.slice pr lr cr] v fun e w'=>e=.returned (.bool false)/\Below v.heap.size v w')):
  Calls prog 71 #[.agg #[.int .i64 sd,.float .f64 dt,.float .f64 gr,.float .f64 dr,.int .i64 lim,.bool rv,.slice pr lr cr]] w fun e w'=>e=.returned (.int .i64 18)/\Below w.heap.size w w':=by
 obtain⟨A0,R0⟩:=aL w (.cells #[.int .i64 sd,.float .f64 dt,.float .f64 gr,.float .f64 dr,.int .i64 lim,.bool rv,.slice pr lr cr] 45)
 go_enter func71,ntmps71
 go_upto_region 1 with fail
 generalize hW:World.alloc w _=V0 at*
 obtain⟨gw,hgw⟩:=aB w.heap.size
 rw[hgw]at R0 ⊢
 clear hgw hW
 have x0:=aY R0.out
 go_wp2_with fail
 refine(CC.out V0).mono ?_
 rintro e9 v9 ⟨rfl,hv9⟩
 have hv8:=hv9.symm
 subst hv8
 go_wp2_with fail
 refine(CN.out V0).mono ?_
 rintro e9 v1 ⟨rfl,b1⟩
 have A1:Hid (Ab w v1):=A0.out.trans b1
 have R1:=hid (Ab.heap b1 R0.out)
 clear b1 x0
 have x0:=aY R1.out
 go_wp2_with fail
 refine(CR.out v1 A1.out).mono ?_
 rintro e9 v2 ⟨rfl,b2⟩
 have A2:Hid (Ab w v2):=A1.out.trans b2
 clear b2 x0
 go_wp2
 go_ret
 exact⟨rfl,A2.out⟩
theorem plan_3(sd:Int)(dt gr dr:Nat)(lim:Int)(rv:Bool)(pr:Option Addr)(lr cr:Nat)(nc:Int)(w:World)(h0:(nc==0)=false)
  (CC:Hid (∀v,Calls prog 24 #[.int .i64 sd] v fun e w'=>e=.returned (.int .i64 nc)/\w'=v))
  (CN:Hid (∀v,Calls prog 105 #[.agg #[.int .i64 sd,.float .f64 dt,.float .f64 gr,.float .f64 dr,.int .i64 lim,.bool rv,.slice pr lr cr]] v fun e w'=>e=.returned (.bool true)/\Below v.heap.size v w'))
  (CR:Hid (∀v,Ab w v->Calls prog 106 #[.int .i64 nc,.slice pr lr cr] v fun e w'=>e=.returned (.bool true)/\Below v.heap.size v w')):
  Calls prog 71 #[.agg #[.int .i64 sd,.float .f64 dt,.float .f64 gr,.float .f64 dr,.int .i64 lim,.bool rv,.slice pr lr cr]] w fun e w'=>e=.returned (.int .i64 0)/\Below w.heap.size w w':=by
 obtain⟨A0,R0⟩:=aL w (.cells #[.int .i64 sd,.float .f64 dt,.float .f64 gr,.float .f64 dr,.int .i64 lim,.bool rv,.slice pr lr cr] 45)
 go_enter func71,ntmps71
 go_upto_region 1 with fail
 generalize hW:World.alloc w _=V0 at*
 obtain⟨gw,hgw⟩:=aB w.heap.size
 rw[hgw]at R0 ⊢
 clear hgw hW
 have x0:=aY R0.out
 go_wp2_with fail
 refine(CC.out V0).mono ?_
 rintro e9 v9 ⟨rfl,hv9⟩
 have hv8:=hv9.symm
 subst hv8
 go_wp2_with fail
 refine(CN.out V0).mono ?_
 rintro e9 v1 ⟨rfl,b1⟩
 have A1:Hid (Ab w v1):=A0.out.trans b1
 have R1:=hid (Ab.heap b1 R0.out)
 clear b1 x0
 have x0:=aY R1.out
 go_wp2_with fail
 refine(CR.out v1 A1.out).mono ?_
 rintro e9 v2 ⟨rfl,b2⟩
 have A2:Hid (Ab w v2):=A1.out.trans b2
 clear b2 x0
 go_wp2
 go_ret
 exact⟨rfl,A2.out⟩
theorem plan_at(sd:Int)(dt gr dr:Nat)(lim:Int)(rv:Bool)(pr:Option Addr)(lr cr:Nat)(R:Nat->Int × Int × Int × Int)(w:World)(hf:dt<18446744073709551616/\gr<18446744073709551616/\dr<18446744073709551616)(ir:Rn.IsRn w pr lr R):
  Calls prog 71 #[.agg #[.int .i64 sd,.float .f64 dt,.float .f64 gr,.float .f64 dr,.int .i64 lim,.bool rv,.slice pr lr cr]] w fun e w'=>e=.returned (.int .i64 (plE sd dt gr dr lim lr R))/\Below w.heap.size w w':=by
 have CC:=fun v=>iJ sd v
 unfold plE
 by_cases hs:1<=sd/\sd<=32
 ·rw[if_neg (fun q=>q hs)]
  obtain⟨n,rfl⟩: ∃n:Nat,sd=(n:Nat):=⟨sd.toNat,by omega⟩
  rw[pM (n:=n) (by omega)]at CC
  rw[Int.toNat_natCast]
  have p1:0<n*n:=Nat.mul_pos (by omega) (by omega)
  have q6:6*n*n=6*(n*n):=Nat.mul_assoc _ _ _
  obtain⟨N,hN⟩:=aB (6*n*n)
  rw[hN]at CC q6 ⊢
  have h0:((N:Int)==0)=false:=by simp;omega
  clear p1 q6 hN
  have iff:=nuB_iff (gr:=gr) (dr:=dr) (lim:=lim) hf.1
  by_cases hn:nuB dt gr dr lim=true
  ·rw[if_neg (fun q=>q (iff.1 hn))]
   have CN:=fun v=>DM n dt gr dr lim rv pr lr cr true v hf.2.1 hf.2.2 hn
   by_cases hr:lr<=1024
   ·by_cases ha: ∀k,k<lr->rB ((N:Nat):Int) (R k)=true
    ·rw[if_neg (fun q=>q ⟨hr,ha⟩)]
     exact plan_3 n dt gr dr lim rv pr lr cr _ w h0 CC CN (fun v a=>yZ N pr lr cr R v hr (ir.below a) true (fun _=>rfl) (fun q=>absurd ha q))
    ·rw[if_pos (fun q=>ha q.2)]
     exact plan_2 n dt gr dr lim rv pr lr cr _ w h0 CC CN (fun v a=>yZ N pr lr cr R v hr (ir.below a) false (fun q=>absurd q ha) (fun _=>rfl))
   ·rw[if_pos (fun q=>hr q.1)]
    exact plan_2 n dt gr dr lim rv pr lr cr _ w h0 CC CN (fun v a=>Bq N pr lr cr v (decide_eq_true (by omega)))
  ·rw[if_pos (fun q=>hn (iff.2 q))]
   have CN:=fun v=>DM n dt gr dr lim rv pr lr cr false v hf.2.1 hf.2.2 (by simpa using hn)
   exact plan_1 n dt gr dr lim rv pr lr cr _ w h0 CC CN
 ·rw[if_pos hs]
  exact plan_0 sd dt gr dr lim rv pr lr cr _ w (by unfold clN;rw[if_neg hs];rfl) CC
theorem zA(side:Int)(pb:Option Addr)(lb cb:Nat)(pw:Option Addr)(lw cw:Nat)(pt:Option Addr)(lt ct:Nat)(ps:Option Addr)(ls cs:Nat)(sky st:Int)(nc:Int)(w:World)(h0:(nc==0)=true)
  (CC:Hid (∀v,Calls prog 24 #[.int .i64 side] v fun e w'=>e=.returned (.int .i64 nc)/\w'=v)):
  Calls prog 72 #[.int .i64 side,.agg #[.slice pb lb cb,.slice pw lw cw,.slice pt lt ct,.slice ps ls cs,.int .i64 sky,.int .i64 st]] w fun e w'=>e=.returned (.tuple #[.int .i64 0,.int .i64 10])/\Below w.heap.size w w':=by
 obtain⟨A0,R0⟩:=aL w (.cells #[.slice pb lb cb,.slice pw lw cw,.slice pt lt ct,.slice ps ls cs,.int .i64 sky,.int .i64 st] 48)
 go_enter func72,ntmps72
 go_upto_region 1 with fail
 generalize hW:World.alloc w _=V0 at*
 obtain⟨gw,hgw⟩:=aB w.heap.size
 rw[hgw]at R0 ⊢
 clear hgw hW
 have x0:=aG R0.out
 go_wp2_with fail
 refine(CC.out V0).mono ?_
 rintro e9 v9 ⟨rfl,hv9⟩
 have hv8:=hv9.symm
 subst hv8
 go_wp2
 go_ret2
 exact⟨rfl,A0.out⟩
theorem jL(side:Int)(pb:Option Addr)(lb cb:Nat)(pw:Option Addr)(lw cw:Nat)(pt:Option Addr)(lt ct:Nat)(ps:Option Addr)(ls cs:Nat)(sky st:Int)(nc:Int)(ml:Int)(w:World)(h0:(nc==0)=false)(h1:(ml != -1)=true)
  (CC:Hid (∀v,Calls prog 24 #[.int .i64 side] v fun e w'=>e=.returned (.int .i64 nc)/\w'=v))
  (CM:Hid (∀v,Calls prog 107 #[.int .i64 nc,.agg #[.slice pb lb cb,.slice pw lw cw,.slice pt lt ct,.slice ps ls cs,.int .i64 sky,.int .i64 st]] v fun e w'=>e=.returned (.int .i64 ml)/\Below v.heap.size v w')):
  Calls prog 72 #[.int .i64 side,.agg #[.slice pb lb cb,.slice pw lw cw,.slice pt lt ct,.slice ps ls cs,.int .i64 sky,.int .i64 st]] w fun e w'=>e=.returned (.tuple #[.int .i64 ml,.int .i64 12])/\Below w.heap.size w w':=by
 obtain⟨A0,R0⟩:=aL w (.cells #[.slice pb lb cb,.slice pw lw cw,.slice pt lt ct,.slice ps ls cs,.int .i64 sky,.int .i64 st] 48)
 go_enter func72,ntmps72
 go_upto_region 1 with fail
 generalize hW:World.alloc w _=V0 at*
 obtain⟨gw,hgw⟩:=aB w.heap.size
 rw[hgw]at R0 ⊢
 clear hgw hW
 have x0:=aG R0.out
 go_wp2_with fail
 refine(CC.out V0).mono ?_
 rintro e9 v9 ⟨rfl,hv9⟩
 have hv8:=hv9.symm
 subst hv8
 go_wp2_with fail
 refine(CM.out V0).mono ?_
 rintro e9 v1 ⟨rfl,b1⟩
 have A1:Hid (Ab w v1):=A0.out.trans b1
 have R1:=hid (Ab.heap b1 R0.out)
 clear b1 x0
 have x0:=aG R1.out
 go_wp2
 go_ret2
 exact⟨rfl,A1.out⟩
theorem Fd(side:Int)(pb:Option Addr)(lb cb:Nat)(pw:Option Addr)(lw cw:Nat)(pt:Option Addr)(lt ct:Nat)(ps:Option Addr)(ls cs:Nat)(sky st:Int)(nc:Int)(ml:Int)(fb:Int)(w:World)(h0:(nc==0)=false)(h1:(ml != -1)=false)(h2:(fb != -1)=true)
  (CC:Hid (∀v,Calls prog 24 #[.int .i64 side] v fun e w'=>e=.returned (.int .i64 nc)/\w'=v))
  (CM:Hid (∀v,Calls prog 107 #[.int .i64 nc,.agg #[.slice pb lb cb,.slice pw lw cw,.slice pt lt ct,.slice ps ls cs,.int .i64 sky,.int .i64 st]] v fun e w'=>e=.returned (.int .i64 ml)/\Below v.heap.size v w'))
  (CB:Hid (∀v,Ab w v->Calls prog 108 #[.slice pb lb cb,.float .f64 4697254411347427328] v fun e w'=>e=.returned (.int .i64 fb)/\w'=v)):
  Calls prog 72 #[.int .i64 side,.agg #[.slice pb lb cb,.slice pw lw cw,.slice pt lt ct,.slice ps ls cs,.int .i64 sky,.int .i64 st]] w fun e w'=>e=.returned (.tuple #[.int .i64 fb,.int .i64 13])/\Below w.heap.size w w':=by
 obtain⟨A0,R0⟩:=aL w (.cells #[.slice pb lb cb,.slice pw lw cw,.slice pt lt ct,.slice ps ls cs,.int .i64 sky,.int .i64 st] 48)
 go_enter func72,ntmps72
 go_upto_region 1 with fail
 generalize hW:World.alloc w _=V0 at*
 obtain⟨gw,hgw⟩:=aB w.heap.size
 rw[hgw]at R0 ⊢
 clear hgw hW
 have x0:=aG R0.out
 go_wp2_with fail
 refine(CC.out V0).mono ?_
 rintro e9 v9 ⟨rfl,hv9⟩
 have hv8:=hv9.symm
 subst hv8
 go_wp2_with fail
 refine(CM.out V0).mono ?_
 rintro e9 v1 ⟨rfl,b1⟩
 have A1:Hid (Ab w v1):=A0.out.trans b1
 have R1:=hid (Ab.heap b1 R0.out)
 clear b1 x0
 have x0:=aG R1.out
 go_wp2_with fail
 refine(CB.out v1 A1.out).mono ?_
 rintro e9 v9 ⟨rfl,hv9⟩
 have hv8:=hv9.symm
 subst hv8
 go_wp2
 go_ret2
 exact⟨rfl,A1.out⟩
theorem Br(side:Int)(pb:Option Addr)(lb cb:Nat)(pw:Option Addr)(lw cw:Nat)(pt:Option Addr)(lt ct:Nat)(ps:Option Addr)(ls cs:Nat)(sky st:Int)(nc:Int)(ml:Int)(fb:Int)(w:World)(h0:(nc==0)=false)(h1:(ml != -1)=false)(h2:(fb != -1)=false)(h3:decide (sky<0)=true)
  (CC:Hid (∀v,Calls prog 24 #[.int .i64 side] v fun e w'=>e=.returned (.int .i64 nc)/\w'=v))
  (CM:Hid (∀v,Calls prog 107 #[.int .i64 nc,.agg #[.slice pb lb cb,.slice pw lw cw,.slice pt lt ct,.slice ps ls cs,.int .i64 sky,.int .i64 st]] v fun e w'=>e=.returned (.int .i64 ml)/\Below v.heap.size v w'))
  (CB:Hid (∀v,Ab w v->Calls prog 108 #[.slice pb lb cb,.float .f64 4697254411347427328] v fun e w'=>e=.returned (.int .i64 fb)/\w'=v)):
  Calls prog 72 #[.int .i64 side,.agg #[.slice pb lb cb,.slice pw lw cw,.slice pt lt ct,.slice ps ls cs,.int .i64 sky,.int .i64 st]] w fun e w'=>e=.returned (.tuple #[.int .i64 0,.int .i64 17])/\Below w.heap.size w w':=by
 obtain⟨A0,R0⟩:=aL w (.cells #[.slice pb lb cb,.slice pw lw cw,.slice pt lt ct,.slice ps ls cs,.int .i64 sky,.int .i64 st] 48)
 go_enter func72,ntmps72
 go_upto_region 1 with fail
 generalize hW:World.alloc w _=V0 at*
 obtain⟨gw,hgw⟩:=aB w.heap.size
 rw[hgw]at R0 ⊢
 clear hgw hW
 have x0:=aG R0.out
 go_wp2_with fail
 refine(CC.out V0).mono ?_
 rintro e9 v9 ⟨rfl,hv9⟩
 have hv8:=hv9.symm
 subst hv8
 go_wp2_with fail
 refine(CM.out V0).mono ?_
 rintro e9 v1 ⟨rfl,b1⟩
 have A1:Hid (Ab w v1):=A0.out.trans b1
 have R1:=hid (Ab.heap b1 R0.out)
 clear b1 x0
 have x0:=aG R1.out
 go_wp2_with fail
 refine(CB.out v1 A1.out).mono ?_
 rintro e9 v9 ⟨rfl,hv9⟩
 have hv8:=hv9.symm
 subst hv8
 go_wp2
 go_ret2
 exact⟨rfl,A1.out⟩
theorem Bs(side:Int)(pb:Option Addr)(lb cb:Nat)(pw:Option Addr)(lw cw:Nat)(pt:Option Addr)(lt ct:Nat)(ps:Option Addr)(ls cs:Nat)(sky st:Int)(nc:Int)(ml:Int)(fb:Int)(w:World)(h0:(nc==0)=false)(h1:(ml != -1)=false)(h2:(fb != -1)=false)(h3:decide (sky<0)=false)(h4:decide (4503599627370496<sky)=true)
  (CC:Hid (∀v,Calls prog 24 #[.int .i64 side] v fun e w'=>e=.returned (.int .i64 nc)/\w'=v))
  (CM:Hid (∀v,Calls prog 107 #[.int .i64 nc,.agg #[.slice pb lb cb,.slice pw lw cw,.slice pt lt ct,.slice ps ls cs,.int .i64 sky,.int .i64 st]] v fun e w'=>e=.returned (.int .i64 ml)/\Below v.heap.size v w'))
  (CB:Hid (∀v,Ab w v->Calls prog 108 #[.slice pb lb cb,.float .f64 4697254411347427328] v fun e w'=>e=.returned (.int .i64 fb)/\w'=v)):
  Calls prog 72 #[.int .i64 side,.agg #[.slice pb lb cb,.slice pw lw cw,.slice pt lt ct,.slice ps ls cs,.int .i64 sky,.int .i64 st]] w fun e w'=>e=.returned (.tuple #[.int .i64 0,.int .i64 17])/\Below w.heap.size w w':=by
 obtain⟨A0,R0⟩:=aL w (.cells #[.slice pb lb cb,.slice pw lw cw,.slice pt lt ct,.slice ps ls cs,.int .i64 sky,.int .i64 st] 48)
 go_enter func72,ntmps72
 go_upto_region 1 with fail
 generalize hW:World.alloc w _=V0 at*
 obtain⟨gw,hgw⟩:=aB w.heap.size
 rw[hgw]at R0 ⊢
 clear hgw hW
 have x0:=aG R0.out
 go_wp2_with fail
 refine(CC.out V0).mono ?_
 rintro e9 v9 ⟨rfl,hv9⟩
 have hv8:=hv9.symm
 subst hv8
 go_wp2_with fail
 refine(CM.out V0).mono ?_
 rintro e9 v1 ⟨rfl,b1⟩
 have A1:Hid (Ab w v1):=A0.out.trans b1
 have R1:=hid (Ab.heap b1 R0.out)
 clear b1 x0
 have x0:=aG R1.out
 go_wp2_with fail
 refine(CB.out v1 A1.out).mono ?_
 rintro e9 v9 ⟨rfl,hv9⟩
 have hv8:=hv9.symm
 subst hv8
 go_wp2
 go_ret2
 exact⟨rfl,A1.out⟩
theorem zB(side:Int)(pb:Option Addr)(lb cb:Nat)(pw:Option Addr)(lw cw:Nat)(pt:Option Addr)(lt ct:Nat)(ps:Option Addr)(ls cs:Nat)(sky st:Int)(nc:Int)(ml:Int)(fb:Int)(fw:Int)(w:World)(h0:(nc==0)=false)(h1:(ml != -1)=false)(h2:(fb != -1)=false)(h3:decide (sky<0)=false)(h4:decide (4503599627370496<sky)=false)(h5:(fw != -1)=true)
  (CC:Hid (∀v,Calls prog 24 #[.int .i64 side] v fun e w'=>e=.returned (.int .i64 nc)/\w'=v))
  (CM:Hid (∀v,Calls prog 107 #[.int .i64 nc,.agg #[.slice pb lb cb,.slice pw lw cw,.slice pt lt ct,.slice ps ls cs,.int .i64 sky,.int .i64 st]] v fun e w'=>e=.returned (.int .i64 ml)/\Below v.heap.size v w'))
  (CB:Hid (∀v,Ab w v->Calls prog 108 #[.slice pb lb cb,.float .f64 4697254411347427328] v fun e w'=>e=.returned (.int .i64 fb)/\w'=v))
  (CW:Hid (∀v,Ab w v->Calls prog 109 #[.slice pw lw cw,.int .i64 (4503599627370496 - sky)] v fun e w'=>e=.returned (.int .i64 fw)/\w'=v)):
  Calls prog 72 #[.int .i64 side,.agg #[.slice pb lb cb,.slice pw lw cw,.slice pt lt ct,.slice ps ls cs,.int .i64 sky,.int .i64 st]] w fun e w'=>e=.returned (.tuple #[.int .i64 fw,.int .i64 14])/\Below w.heap.size w w':=by
 have sk1:0<=sky:=by simpa using h3
 have sk2:sky<=4503599627370496:=by simpa using h4
 obtain⟨A0,R0⟩:=aL w (.cells #[.slice pb lb cb,.slice pw lw cw,.slice pt lt ct,.slice ps ls cs,.int .i64 sky,.int .i64 st] 48)
 go_enter func72,ntmps72
 go_upto_region 1 with fail
 generalize hW:World.alloc w _=V0 at*
 obtain⟨gw,hgw⟩:=aB w.heap.size
 rw[hgw]at R0 ⊢
 clear hgw hW
 have x0:=aG R0.out
 go_wp2_with fail
 refine(CC.out V0).mono ?_
 rintro e9 v9 ⟨rfl,hv9⟩
 have hv8:=hv9.symm
 subst hv8
 go_wp2_with fail
 refine(CM.out V0).mono ?_
 rintro e9 v1 ⟨rfl,b1⟩
 have A1:Hid (Ab w v1):=A0.out.trans b1
 have R1:=hid (Ab.heap b1 R0.out)
 clear b1 x0
 have x0:=aG R1.out
 go_wp2_with fail
 refine(CB.out v1 A1.out).mono ?_
 rintro e9 v9 ⟨rfl,hv9⟩
 have hv8:=hv9.symm
 subst hv8
 go_wp2_with fail
 refine(CW.out v1 A1.out).mono ?_
 rintro e9 v9 ⟨rfl,hv9⟩
 have hv8:=hv9.symm
 subst hv8
 go_wp2
 go_ret2
 exact⟨rfl,A1.out⟩
theorem wL(side:Int)(pb:Option Addr)(lb cb:Nat)(pw:Option Addr)(lw cw:Nat)(pt:Option Addr)(lt ct:Nat)(ps:Option Addr)(ls cs:Nat)(sky st:Int)(nc:Int)(ml:Int)(fb:Int)(fw:Int)(ft:Int)(w:World)(h0:(nc==0)=false)(h1:(ml != -1)=false)(h2:(fb != -1)=false)(h3:decide (sky<0)=false)(h4:decide (4503599627370496<sky)=false)(h5:(fw != -1)=false)(h6:(ft != -1)=true)
  (CC:Hid (∀v,Calls prog 24 #[.int .i64 side] v fun e w'=>e=.returned (.int .i64 nc)/\w'=v))
  (CM:Hid (∀v,Calls prog 107 #[.int .i64 nc,.agg #[.slice pb lb cb,.slice pw lw cw,.slice pt lt ct,.slice ps ls cs,.int .i64 sky,.int .i64 st]] v fun e w'=>e=.returned (.int .i64 ml)/\Below v.heap.size v w'))
  (CB:Hid (∀v,Ab w v->Calls prog 108 #[.slice pb lb cb,.float .f64 4697254411347427328] v fun e w'=>e=.returned (.int .i64 fb)/\w'=v))
  (CW:Hid (∀v,Ab w v->Calls prog 109 #[.slice pw lw cw,.int .i64 (4503599627370496 - sky)] v fun e w'=>e=.returned (.int .i64 fw)/\w'=v))
  (CT:Hid (∀v,Ab w v->Calls prog 109 #[.slice pt lt ct,.int .i64 4503599627370496] v fun e w'=>e=.returned (.int .i64 ft)/\w'=v)):
  Calls prog 72 #[.int .i64 side,.agg #[.slice pb lb cb,.slice pw lw cw,.slice pt lt ct,.slice ps ls cs,.int .i64 sky,.int .i64 st]] w fun e w'=>e=.returned (.tuple #[.int .i64 ft,.int .i64 15])/\Below w.heap.size w w':=by
 have sk1:0<=sky:=by simpa using h3
 have sk2:sky<=4503599627370496:=by simpa using h4
 obtain⟨A0,R0⟩:=aL w (.cells #[.slice pb lb cb,.slice pw lw cw,.slice pt lt ct,.slice ps ls cs,.int .i64 sky,.int .i64 st] 48)
 go_enter func72,ntmps72
 go_upto_region 1 with fail
 generalize hW:World.alloc w _=V0 at*
 obtain⟨gw,hgw⟩:=aB w.heap.size
 rw[hgw]at R0 ⊢
 clear hgw hW
 have x0:=aG R0.out
 go_wp2_with fail
 refine(CC.out V0).mono ?_
 rintro e9 v9 ⟨rfl,hv9⟩
 have hv8:=hv9.symm
 subst hv8
 go_wp2_with fail
 refine(CM.out V0).mono ?_
 rintro e9 v1 ⟨rfl,b1⟩
 have A1:Hid (Ab w v1):=A0.out.trans b1
 have R1:=hid (Ab.heap b1 R0.out)
 clear b1 x0
 have x0:=aG R1.out
 go_wp2_with fail
 refine(CB.out v1 A1.out).mono ?_
 rintro e9 v9 ⟨rfl,hv9⟩
 have hv8:=hv9.symm
 subst hv8
 go_wp2_with fail
 refine(CW.out v1 A1.out).mono ?_
 rintro e9 v9 ⟨rfl,hv9⟩
 have hv8:=hv9.symm
 subst hv8
 go_wp2_with fail
 refine(CT.out v1 A1.out).mono ?_
 rintro e9 v9 ⟨rfl,hv9⟩
 have hv8:=hv9.symm
 subst hv8
 go_wp2
 go_ret2
 exact⟨rfl,A1.out⟩
theorem zC(side:Int)(pb:Option Addr)(lb cb:Nat)(pw:Option Addr)(lw cw:Nat)(pt:Option Addr)(lt ct:Nat)(ps:Option Addr)(ls cs:Nat)(sky st:Int)(nc:Int)(ml:Int)(fb:Int)(fw:Int)(ft:Int)(fs:Int)(w:World)(h0:(nc==0)=false)(h1:(ml != -1)=false)(h2:(fb != -1)=false)(h3:decide (sky<0)=false)(h4:decide (4503599627370496<sky)=false)(h5:(fw != -1)=false)(h6:(ft != -1)=false)(h7:(fs != -1)=true)
  (CC:Hid (∀v,Calls prog 24 #[.int .i64 side] v fun e w'=>e=.returned (.int .i64 nc)/\w'=v))
  (CM:Hid (∀v,Calls prog 107 #[.int .i64 nc,.agg #[.slice pb lb cb,.slice pw lw cw,.slice pt lt ct,.slice ps ls cs,.int .i64 sky,.int .i64 st]] v fun e w'=>e=.returned (.int .i64 ml)/\Below v.heap.size v w'))
  (CB:Hid (∀v,Ab w v->Calls prog 108 #[.slice pb lb cb,.float .f64 4697254411347427328] v fun e w'=>e=.returned (.int .i64 fb)/\w'=v))
  (CW:Hid (∀v,Ab w v->Calls prog 109 #[.slice pw lw cw,.int .i64 (4503599627370496 - sky)] v fun e w'=>e=.returned (.int .i64 fw)/\w'=v))
  (CT:Hid (∀v,Ab w v->Calls prog 109 #[.slice pt lt ct,.int .i64 4503599627370496] v fun e w'=>e=.returned (.int .i64 ft)/\w'=v))
  (CS:Hid (∀v,Ab w v->Calls prog 108 #[.slice ps ls cs,.float .f64 4652218415073722368] v fun e w'=>e=.returned (.int .i64 fs)/\w'=v)):
  Calls prog 72 #[.int .i64 side,.agg #[.slice pb lb cb,.slice pw lw cw,.slice pt lt ct,.slice ps ls cs,.int .i64 sky,.int .i64 st]] w fun e w'=>e=.returned (.tuple #[.int .i64 fs,.int .i64 16])/\Below w.heap.size w w':=by
 have sk1:0<=sky:=by simpa using h3
 have sk2:sky<=4503599627370496:=by simpa using h4
 obtain⟨A0,R0⟩:=aL w (.cells #[.slice pb lb cb,.slice pw lw cw,.slice pt lt ct,.slice ps ls cs,.int .i64 sky,.int .i64 st] 48)
 go_enter func72,ntmps72
 go_upto_region 1 with fail
 generalize hW:World.alloc w _=V0 at*
 obtain⟨gw,hgw⟩:=aB w.heap.size
 rw[hgw]at R0 ⊢
 clear hgw hW
 have x0:=aG R0.out
 go_wp2_with fail
 refine(CC.out V0).mono ?_
 rintro e9 v9 ⟨rfl,hv9⟩
 have hv8:=hv9.symm
 subst hv8
 go_wp2_with fail
 refine(CM.out V0).mono ?_
 rintro e9 v1 ⟨rfl,b1⟩
 have A1:Hid (Ab w v1):=A0.out.trans b1
 have R1:=hid (Ab.heap b1 R0.out)
 clear b1 x0
 have x0:=aG R1.out
 go_wp2_with fail
 refine(CB.out v1 A1.out).mono ?_
 rintro e9 v9 ⟨rfl,hv9⟩
 have hv8:=hv9.symm
 subst hv8
 go_wp2_with fail
 refine(CW.out v1 A1.out).mono ?_
 rintro e9 v9 ⟨rfl,hv9⟩
 have hv8:=hv9.symm
 subst hv8
 go_wp2_with fail
 refine(CT.out v1 A1.out).mono ?_
 rintro e9 v9 ⟨rfl,hv9⟩
 have hv8:=hv9.symm
 subst hv8
 go_wp2_with fail
 refine(CS.out v1 A1.out).mono ?_
 rintro e9 v9 ⟨rfl,hv9⟩
 have hv8:=hv9.symm
 subst hv8
 go_wp2
 go_ret2
 exact⟨rfl,A1.out⟩
theorem Fe(side:Int)(pb:Option Addr)(lb cb:Nat)(pw:Option Addr)(lw cw:Nat)(pt:Option Addr)(lt ct:Nat)(ps:Option Addr)(ls cs:Nat)(sky st:Int)(nc:Int)(ml:Int)(fb:Int)(fw:Int)(ft:Int)(fs:Int)(w:World)(h0:(nc==0)=false)(h1:(ml != -1)=false)(h2:(fb != -1)=false)(h3:decide (sky<0)=false)(h4:decide (4503599627370496<sky)=false)(h5:(fw != -1)=false)(h6:(ft != -1)=false)(h7:(fs != -1)=false)(h8:decide (st<0)=true)
  (CC:Hid (∀v,Calls prog 24 #[.int .i64 side] v fun e w'=>e=.returned (.int .i64 nc)/\w'=v))
  (CM:Hid (∀v,Calls prog 107 #[.int .i64 nc,.agg #[.slice pb lb cb,.slice pw lw cw,.slice pt lt ct,.slice ps ls cs,.int .i64 sky,.int .i64 st]] v fun e w'=>e=.returned (.int .i64 ml)/\Below v.heap.size v w'))
  (CB:Hid (∀v,Ab w v->Calls prog 108 #[.slice pb lb cb,.float .f64 4697254411347427328] v fun e w'=>e=.returned (.int .i64 fb)/\w'=v))
  (CW:Hid (∀v,Ab w v->Calls prog 109 #[.slice pw lw cw,.int .i64 (4503599627370496 - sky)] v fun e w'=>e=.returned (.int .i64 fw)/\w'=v))
  (CT:Hid (∀v,Ab w v->Calls prog 109 #[.slice pt lt ct,.int .i64 4503599627370496] v fun e w'=>e=.returned (.int .i64 ft)/\w'=v))
  (CS:Hid (∀v,Ab w v->Calls prog 108 #[.slice ps ls cs,.float .f64 4652218415073722368] v fun e w'=>e=.returned (.int .i64 fs)/\w'=v)):
  Calls prog 72 #[.int .i64 side,.agg #[.slice pb lb cb,.slice pw lw cw,.slice pt lt ct,.slice ps ls cs,.int .i64 sky,.int .i64 st]] w fun e w'=>e=.returned (.tuple #[.int .i64 0,.int .i64 1])/\Below w.heap.size w w':=by
 have sk1:0<=sky:=by simpa using h3
 have sk2:sky<=4503599627370496:=by simpa using h4
 obtain⟨A0,R0⟩:=aL w (.cells #[.slice pb lb cb,.slice pw lw cw,.slice pt lt ct,.slice ps ls cs,.int .i64 sky,.int .i64 st] 48)
 go_enter func72,ntmps72
 go_upto_region 1 with fail
 generalize hW:World.alloc w _=V0 at*
 obtain⟨gw,hgw⟩:=aB w.heap.size
 rw[hgw]at R0 ⊢
 clear hgw hW
 have x0:=aG R0.out
 go_wp2_with fail
 refine(CC.out V0).mono ?_
 rintro e9 v9 ⟨rfl,hv9⟩
 have hv8:=hv9.symm
 subst hv8
 go_wp2_with fail
 refine(CM.out V0).mono ?_
 rintro e9 v1 ⟨rfl,b1⟩
 have A1:Hid (Ab w v1):=A0.out.trans b1
 have R1:=hid (Ab.heap b1 R0.out)
 clear b1 x0
 have x0:=aG R1.out
 go_wp2_with fail
 refine(CB.out v1 A1.out).mono ?_
 rintro e9 v9 ⟨rfl,hv9⟩
 have hv8:=hv9.symm
 subst hv8
 go_wp2_with fail
 refine(CW.out v1 A1.out).mono ?_
 rintro e9 v9 ⟨rfl,hv9⟩
 have hv8:=hv9.symm
 subst hv8
 go_wp2_with fail
 refine(CT.out v1 A1.out).mono ?_
 rintro e9 v9 ⟨rfl,hv9⟩
 have hv8:=hv9.symm
 subst hv8
 go_wp2_with fail
 refine(CS.out v1 A1.out).mono ?_
 rintro e9 v9 ⟨rfl,hv9⟩
 have hv8:=hv9.symm
 subst hv8
 go_wp2
 go_ret2
 exact⟨rfl,A1.out⟩
theorem Ff(side:Int)(pb:Option Addr)(lb cb:Nat)(pw:Option Addr)(lw cw:Nat)(pt:Option Addr)(lt ct:Nat)(ps:Option Addr)(ls cs:Nat)(sky st:Int)(nc:Int)(ml:Int)(fb:Int)(fw:Int)(ft:Int)(fs:Int)(w:World)(h0:(nc==0)=false)(h1:(ml != -1)=false)(h2:(fb != -1)=false)(h3:decide (sky<0)=false)(h4:decide (4503599627370496<sky)=false)(h5:(fw != -1)=false)(h6:(ft != -1)=false)(h7:(fs != -1)=false)(h8:decide (st<0)=false)(h9:decide (4611686018427387904<st)=true)
  (CC:Hid (∀v,Calls prog 24 #[.int .i64 side] v fun e w'=>e=.returned (.int .i64 nc)/\w'=v))
  (CM:Hid (∀v,Calls prog 107 #[.int .i64 nc,.agg #[.slice pb lb cb,.slice pw lw cw,.slice pt lt ct,.slice ps ls cs,.int .i64 sky,.int .i64 st]] v fun e w'=>e=.returned (.int .i64 ml)/\Below v.heap.size v w'))
  (CB:Hid (∀v,Ab w v->Calls prog 108 #[.slice pb lb cb,.float .f64 4697254411347427328] v fun e w'=>e=.returned (.int .i64 fb)/\w'=v))
  (CW:Hid (∀v,Ab w v->Calls prog 109 #[.slice pw lw cw,.int .i64 (4503599627370496 - sky)] v fun e w'=>e=.returned (.int .i64 fw)/\w'=v))
  (CT:Hid (∀v,Ab w v->Calls prog 109 #[.slice pt lt ct,.int .i64 4503599627370496] v fun e w'=>e=.returned (.int .i64 ft)/\w'=v))
  (CS:Hid (∀v,Ab w v->Calls prog 108 #[.slice ps ls cs,.float .f64 4652218415073722368] v fun e w'=>e=.returned (.int .i64 fs)/\w'=v)):
  Calls prog 72 #[.int .i64 side,.agg #[.slice pb lb cb,.slice pw lw cw,.slice pt lt ct,.slice ps ls cs,.int .i64 sky,.int .i64 st]] w fun e w'=>e=.returned (.tuple #[.int .i64 0,.int .i64 1])/\Below w.heap.size w w':=by
 have sk1:0<=sky:=by simpa using h3
 have sk2:sky<=4503599627370496:=by simpa using h4
 obtain⟨A0,R0⟩:=aL w (.cells #[.slice pb lb cb,.slice pw lw cw,.slice pt lt ct,.slice ps ls cs,.int .i64 sky,.int .i64 st] 48)
 go_enter func72,ntmps72
 go_upto_region 1 with fail
 generalize hW:World.alloc w _=V0 at*
 obtain⟨gw,hgw⟩:=aB w.heap.size
 rw[hgw]at R0 ⊢
 clear hgw hW
 have x0:=aG R0.out
 go_wp2_with fail
 refine(CC.out V0).mono ?_
 rintro e9 v9 ⟨rfl,hv9⟩
 have hv8:=hv9.symm
 subst hv8
 go_wp2_with fail
 refine(CM.out V0).mono ?_
 rintro e9 v1 ⟨rfl,b1⟩
 have A1:Hid (Ab w v1):=A0.out.trans b1
 have R1:=hid (Ab.heap b1 R0.out)
 clear b1 x0
 have x0:=aG R1.out
 go_wp2_with fail
 refine(CB.out v1 A1.out).mono ?_
 rintro e9 v9 ⟨rfl,hv9⟩
 have hv8:=hv9.symm
 subst hv8
 go_wp2_with fail
 refine(CW.out v1 A1.out).mono ?_
 rintro e9 v9 ⟨rfl,hv9⟩
 have hv8:=hv9.symm
 subst hv8
 go_wp2_with fail
 refine(CT.out v1 A1.out).mono ?_
 rintro e9 v9 ⟨rfl,hv9⟩
 have hv8:=hv9.symm
 subst hv8
 go_wp2_with fail
 refine(CS.out v1 A1.out).mono ?_
 rintro e9 v9 ⟨rfl,hv9⟩
 have hv8:=hv9.symm
 subst hv8
 go_wp2
 go_ret2
 exact⟨rfl,A1.out⟩
theorem check_ok(side:Int)(pb:Option Addr)(lb cb:Nat)(pw:Option Addr)(lw cw:Nat)(pt:Option Addr)(lt ct:Nat)(ps:Option Addr)(ls cs:Nat)(sky st:Int)(nc:Int)(ml:Int)(fb:Int)(fw:Int)(ft:Int)(fs:Int)(w:World)(h0:(nc==0)=false)(h1:(ml != -1)=false)(h2:(fb != -1)=false)(h3:decide (sky<0)=false)(h4:decide (4503599627370496<sky)=false)(h5:(fw != -1)=false)(h6:(ft != -1)=false)(h7:(fs != -1)=false)(h8:decide (st<0)=false)(h9:decide (4611686018427387904<st)=false)
  (CC:Hid (∀v,Calls prog 24 #[.int .i64 side] v fun e w'=>e=.returned (.int .i64 nc)/\w'=v))
  (CM:Hid (∀v,Calls prog 107 #[.int .i64 nc,.agg #[.slice pb lb cb,.slice pw lw cw,.slice pt lt ct,.slice ps ls cs,.int .i64 sky,.int .i64 st]] v fun e w'=>e=.returned (.int .i64 ml)/\Below v.heap.size v w'))
  (CB:Hid (∀v,Ab w v->Calls prog 108 #[.slice pb lb cb,.float .f64 4697254411347427328] v fun e w'=>e=.returned (.int .i64 fb)/\w'=v))
  (CW:Hid (∀v,Ab w v->Calls prog 109 #[.slice pw lw cw,.int .i64 (4503599627370496 - sky)] v fun e w'=>e=.returned (.int .i64 fw)/\w'=v))
  (CT:Hid (∀v,Ab w v->Calls prog 109 #[.slice pt lt ct,.int .i64 4503599627370496] v fun e w'=>e=.returned (.int .i64 ft)/\w'=v))
  (CS:Hid (∀v,Ab w v->Calls prog 108 #[.slice ps ls cs,.float .f64 4652218415073722368] v fun e w'=>e=.returned (.int .i64 fs)/\w'=v)):
  Calls prog 72 #[.int .i64 side,.agg #[.slice pb lb cb,.slice pw lw cw,.slice pt lt ct,.slice ps ls cs,.int .i64 sky,.int .i64 st]] w fun e w'=>e=.returned (.tuple #[.int .i64 0,.int .i64 0])/\Below w.heap.size w w':=by
 have sk1:0<=sky:=by simpa using h3
 have sk2:sky<=4503599627370496:=by simpa using h4
 obtain⟨A0,R0⟩:=aL w (.cells #[.slice pb lb cb,.slice pw lw cw,.slice pt lt ct,.slice ps ls cs,.int .i64 sky,.int .i64 st] 48)
 go_enter func72,ntmps72
 go_upto_region 1 with fail
 generalize hW:World.alloc w _=V0 at*
 obtain⟨gw,hgw⟩:=aB w.heap.size
 rw[hgw]at R0 ⊢
 clear hgw hW
 have x0:=aG R0.out
 go_wp2_with fail
 refine(CC.out V0).mono ?_
 rintro e9 v9 ⟨rfl,hv9⟩
 have hv8:=hv9.symm
 subst hv8
 go_wp2_with fail
 refine(CM.out V0).mono ?_
 rintro e9 v1 ⟨rfl,b1⟩
 have A1:Hid (Ab w v1):=A0.out.trans b1
 have R1:=hid (Ab.heap b1 R0.out)
 clear b1 x0
 have x0:=aG R1.out
 go_wp2_with fail
 refine(CB.out v1 A1.out).mono ?_
 rintro e9 v9 ⟨rfl,hv9⟩
 have hv8:=hv9.symm
 subst hv8
 go_wp2_with fail
 refine(CW.out v1 A1.out).mono ?_
 rintro e9 v9 ⟨rfl,hv9⟩
 have hv8:=hv9.symm
 subst hv8
 go_wp2_with fail
 refine(CT.out v1 A1.out).mono ?_
 rintro e9 v9 ⟨rfl,hv9⟩
 have hv8:=hv9.symm
 subst hv8
 go_wp2_with fail
 refine(CS.out v1 A1.out).mono ?_
 rintro e9 v9 ⟨rfl,hv9⟩
 have hv8:=hv9.symm
 subst hv8
 go_wp2
 go_ret2
 exact⟨rfl,A1.out⟩
theorem bed_fp{B:Nat->Nat}(i:Nat):bB B i= !btw (B i) 13920626448202203136 4697254411347427328:=rfl
theorem sp_fp{S:Nat->Nat}(i:Nat):bS S i= !btw (S i) 13875590451928498176 4652218415073722368:=rfl
theorem ne_m1{x:Int}(h:0<=x):(x != -1)=true:=by simp;omega
theorem ne_m2{x:Int}(h: ¬0<=x)(g: -1<=x):(x != -1)=false:=by simp;omega
theorem check_at(side:Int)(pb:Option Addr)(lb cb:Nat)(B:Nat->Nat)(pw:Option Addr)(lw cw:Nat)(W:Nat->Int)(pt:Option Addr)(lt ct:Nat)(T:Nat->Int)(ps:Option Addr)(ls cs:Nat)(S:Nat->Nat)(sky st:Int)(w:World)(i1:IsFl w pb lb B)(i2:Sh.IsI w pw lw W)(i3:Sh.IsI w pt lt T)(i4:IsFl w ps ls S):
  Calls prog 72 #[.int .i64 side,.agg #[.slice pb lb cb,.slice pw lw cw,.slice pt lt ct,.slice ps ls cs,.int .i64 sky,.int .i64 st]] w fun e w'=>e=.returned (.tuple #[.int .i64 (chk side lb lw lt ls B W T S sky st).1,.int .i64 (chk side lb lw lt ls B W T S sky st).2])/\Below w.heap.size w w':=by
 have CC:=fun v=>iJ side v
 unfold chk
 by_cases hs:1<=side/\side<=32
 ·rw[if_pos hs]
  obtain⟨n,rfl⟩: ∃n:Nat,side=(n:Nat):=⟨side.toNat,by omega⟩
  rw[pM (n:=n) (by omega)]at CC
  rw[Int.toNat_natCast]
  have p1:0<n*n:=Nat.mul_pos (by omega) (by omega)
  have p2:n*n<=32*32:=Nat.mul_le_mul (by omega) (by omega)
  have q6:6*n*n=6*(n*n):=Nat.mul_assoc _ _ _
  obtain⟨N,hN⟩:=aB (6*n*n)
  rw[hN]at CC q6 ⊢
  have N0:0<N:=by omega
  have N1:(N:Int)<=6144:=by omega
  have h0:((N:Int)==0)=false:=by simp;omega
  clear p1 p2 q6 hN
  have MF:=fun v=>misfit_4 N pb lb cb pw lw cw pt lt ct ps ls cs sky st v N1
  unfold chN
  by_cases e1:lb=N
  ·rw[if_neg (by omega)]
   by_cases e2:lw=N
   ·rw[if_neg (by omega)]
    by_cases e3:lt=N
    ·rw[if_neg (by omega)]
     by_cases e4:ls=2*N
     ·rw[if_neg (by omega)]
      have CM:=fun v=>MF v (by simp[e1]) (by simp[e2]) (by simp[e3]) (by simp[e4])
      have CB:=fun v (a:Ab w v)=>uJ pb lb cb B 4697254411347427328 13920626448202203136 (bB B) v (by decide+kernel) (by omega) (by omega) (i1.below a) (fun i _=>bed_fp i)
      have CS:=fun v (a:Ab w v)=>uJ ps ls cs S 4652218415073722368 13875590451928498176 (bS S) v (by decide+kernel) (by omega) (by omega) (i4.below a) (fun i _=>sp_fp i)
      have CT:=fun v (a:Ab w v)=>DH pt lt ct T 0 4503599627370496 v (by omega) (i3.below a) (by omega) (by omega)
      rw[e1]at CB
      rw[e4]at CS
      rw[e3]at CT
      obtain⟨fb,hfb⟩:=aB (fp (bB B) N)
      obtain⟨fs,hfs⟩:=aB (fp (bS S) (2*N))
      obtain⟨ft,hft⟩:=aB (fp (bQ T 0) N)
      have g1:=(fp_ge (bB B) N).1
      have g2:=(fp_ge (bS S) (2*N)).1
      have g3:=(fp_ge (bQ T 0) N).1
      rw[hfb]at CB g1 ⊢
      rw[hfs]at CS g2 ⊢
      rw[hft]at CT g3 ⊢
      rw[<- e1]at CB
      rw[<- e4]at CS
      rw[<- e3]at CT
      clear hfb hfs hft
      by_cases f2:0<=fb
      ·rw[if_pos f2]
       exact Fd n pb lb cb pw lw cw pt lt ct ps ls cs sky st _ _ _ w h0 (by decide) (ne_m1 f2) CC CM CB
      ·rw[if_neg f2]
       have k2:=ne_m2 f2 g1
       by_cases f3:sky<0
       ·rw[if_pos (.inl f3)]
        exact Br n pb lb cb pw lw cw pt lt ct ps ls cs sky st _ _ _ w h0 (by decide) k2 (decide_eq_true f3) CC CM CB
       ·have k3:=decide_eq_false f3
        by_cases f4:4503599627370496<sky
        ·rw[if_pos (.inr f4)]
         exact Bs n pb lb cb pw lw cw pt lt ct ps ls cs sky st _ _ _ w h0 (by decide) k2 k3 (decide_eq_true f4) CC CM CB
        ·rw[if_neg (by omega)]
         have k4:=decide_eq_false f4
         have CW:=fun v (a:Ab w v)=>DH pw lw cw W sky (4503599627370496 - sky) v (by omega) (i2.below a) (by omega) (by omega)
         rw[e2]at CW
         obtain⟨fw,hfw⟩:=aB (fp (bQ W sky) N)
         have g4:=(fp_ge (bQ W sky) N).1
         rw[hfw]at CW g4 ⊢
         rw[<- e2]at CW
         clear hfw
         by_cases f5:0<=fw
         ·rw[if_pos f5]
          exact zB n pb lb cb pw lw cw pt lt ct ps ls cs sky st _ _ _ _ w h0 (by decide) k2 k3 k4 (ne_m1 f5) CC CM CB CW
         ·rw[if_neg f5]
          have k5:=ne_m2 f5 g4
          by_cases f6:0<=ft
          ·rw[if_pos f6]
           exact wL n pb lb cb pw lw cw pt lt ct ps ls cs sky st _ _ _ _ _ w h0 (by decide) k2 k3 k4 k5 (ne_m1 f6) CC CM CB CW CT
          ·rw[if_neg f6]
           have k6:=ne_m2 f6 g3
           by_cases f7:0<=fs
           ·rw[if_pos f7]
            exact zC n pb lb cb pw lw cw pt lt ct ps ls cs sky st _ _ _ _ _ _ w h0 (by decide) k2 k3 k4 k5 k6 (ne_m1 f7) CC CM CB CW CT CS
           ·rw[if_neg f7]
            have k7:=ne_m2 f7 g2
            by_cases f8:st<0
            ·rw[if_pos (.inl f8)]
             exact Fe n pb lb cb pw lw cw pt lt ct ps ls cs sky st _ _ _ _ _ _ w h0 (by decide) k2 k3 k4 k5 k6 k7 (decide_eq_true f8) CC CM CB CW CT CS
            ·have k8:=decide_eq_false f8
             by_cases f9:4611686018427387904<st
             ·rw[if_pos (.inr f9)]
              exact Ff n pb lb cb pw lw cw pt lt ct ps ls cs sky st _ _ _ _ _ _ w h0 (by decide) k2 k3 k4 k5 k6 k7 k8 (decide_eq_true f9) CC CM CB CW CT CS
             ·rw[if_neg (by omega)]
              exact check_ok n pb lb cb pw lw cw pt lt ct ps ls cs sky st _ _ _ _ _ _ w h0 (by decide) k2 k3 k4 k5 k6 k7 k8 (decide_eq_false f9) CC CM CB CW CT CS
     ·rw[if_pos e4]
      exact jL n pb lb cb pw lw cw pt lt ct ps ls cs sky st _ _ w h0 (by decide) CC (fun v=>misfit_3 N pb lb cb pw lw cw pt lt ct ps ls cs sky st v N1 (by simp[e1]) (by simp[e2]) (by simp[e3]) (by simp;omega))
    ·rw[if_pos e3]
     exact jL n pb lb cb pw lw cw pt lt ct ps ls cs sky st _ _ w h0 (by decide) CC (fun v=>misfit_2 N pb lb cb pw lw cw pt lt ct ps ls cs sky st v N1 (by simp[e1]) (by simp[e2]) (by simp;omega))
   ·rw[if_pos e2]
    exact jL n pb lb cb pw lw cw pt lt ct ps ls cs sky st _ _ w h0 (by decide) CC (fun v=>misfit_1 N pb lb cb pw lw cw pt lt ct ps ls cs sky st v N1 (by simp[e1]) (by simp;omega))
  ·rw[if_pos e1]
   exact jL n pb lb cb pw lw cw pt lt ct ps ls cs sky st _ _ w h0 (by decide) CC (fun v=>misfit_0 N pb lb cb pw lw cw pt lt ct ps ls cs sky st v N1 (by simp;omega))
 ·rw[if_neg hs]
  exact zA side pb lb cb pw lw cw pt lt ct ps ls cs sky st _ w (by unfold clN;rw[if_neg hs];rfl) CC
end Ss
end
end Go.Proofs.YtmhnilnaffjhmaaGreatDoor
