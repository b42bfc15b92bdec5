/-
  Some of the texts of this proof, one behind the other.
-/
import Derived.Test.YtaphajlpbgcfjaaGreatDoorRa17
set_option maxRecDepth 100000
set_option maxHeartbeats 400000000
namespace Go.Proofs.YtaphajlpbgcfjaaGreatDoor
open _root_.Go.Proofs.Tryz
section
open Go.RowKit Tf Cu Go.Deep
attribute [local go_sem] aJ aK aP aQ aR aV aX aF
namespace Ss
theorem plan_0(sd:Int)(dt gr dr:Nat)(lim:Int)(rv:Bool)(pr:Option Addr)(lr cr:Nat)(nc:Int)(w:World)(h0:(nc==0)=true)
  (CC:Hid (∀v,Calls prog 41 #[.int .i64 sd] v fun e w'=>e=.returned (.int .i64 nc)/\w'=v)):
  Calls prog 11 #[.agg #[.int .i64 sd,.float .f64 dt,.float .f64 gr,.float .f64 dr,.int .i64 lim,.bool rv,.slice pr lr cr]] w fun e w'=>e=.returned (.int .i64 10)/\Below w.heap.size w w':=by
 obtain⟨A0,R0⟩:=aL w (.cells #[.int .i64 sd,.float .f64 dt,.float .f64 gr,.float .f64 dr,.int .i64 lim,.bool rv,.slice pr lr cr] 25)
 go_enter func11,ntmps11
 go_upto_region 1 with fail
 generalize hW:World.alloc w _=V0 at*
 obtain⟨gw,hgw⟩:=aB w.heap.size
 rw[hgw]at R0 ⊢
 clear hgw hW
 have x0:=aG R0.out
 go_wp2_with fail
 refine(CC.out V0).mono ?_
 rintro e9 v9 ⟨rfl,hv9⟩
 have hv8:=hv9.symm
 subst hv8
 go_wp2
 go_ret
 exact⟨rfl,A0.out⟩
theorem plan_1(sd:Int)(dt gr dr:Nat)(lim:Int)(rv:Bool)(pr:Option Addr)(lr cr:Nat)(nc:Int)(w:World)(h0:(nc==0)=false)
  (CC:Hid (∀v,Calls prog 41 #[.int .i64 sd] v fun e w'=>e=.returned (.int .i64 nc)/\w'=v))
  (CN:Hid (∀v,Calls prog 42 #[.agg #[.int .i64 sd,.float .f64 dt,.float .f64 gr,.float .f64 dr,.int .i64 lim,.bool rv,.slice pr lr cr]] v fun e w'=>e=.returned (.bool false)/\Below v.heap.size v w')):
  Calls prog 11 #[.agg #[.int .i64 sd,.float .f64 dt,.float .f64 gr,.float .f64 dr,.int .i64 lim,.bool rv,.slice pr lr cr]] w fun e w'=>e=.returned (.int .i64 11)/\Below w.heap.size w w':=by
 obtain⟨A0,R0⟩:=aL w (.cells #[.int .i64 sd,.float .f64 dt,.float .f64 gr,.float .f64 dr,.int .i64 lim,.bool rv,.slice pr lr cr] 25)
 go_enter func11,ntmps11
 go_upto_region 1 with fail
 generalize hW:World.alloc w _=V0 at*
 obtain⟨gw,hgw⟩:=aB w.heap.size
 rw[hgw]at R0 ⊢
 clear hgw hW
 have x0:=aG R0.out
 go_wp2_with fail
 refine(CC.out V0).mono ?_
 rintro e9 v9 ⟨rfl,hv9⟩
 have hv8:=hv9.symm
 subst hv8
 go_wp2_with fail
 refine(CN.out V0).mono ?_
 rintro e9 v1 ⟨rfl,b1⟩
 have A1:Hid (Ab w v1):=A0.out.trans b1
 have R1:=hid (Ab.heap b1 R0.out)
 clear b1 x0
 have x0:=aG R1.out
 go_wp2
 go_ret
 exact⟨rfl,A1.out⟩
theorem plan_2(sd:Int)(dt gr dr:Nat)(lim:Int)(rv:Bool)(pr:Option Addr)(lr cr:Nat)(nc:Int)(w:World)(h0:(nc==0)=false)
  (CC:Hid (∀v,Calls prog 41 #[.int .i64 sd] v fun e w'=>e=.returned (.int .i64 nc)/\w'=v))
  (CN:Hid (∀v,Calls prog 42 #[.agg #[.int .i64 sd,.float .f64 dt,.float .f64 gr,.float .f64 dr,.int .i64 lim,.bool rv,.slice pr lr cr]] v fun e w'=>e=.returned (.bool true)/\Below v.heap.size v w'))
  (CR:Hid (∀v,Ab w v->Calls prog 43 #[.int .i64 nc,.slice pr lr cr] v fun e w'=>e=.returned (.bool false)/\Below v.heap.size v w')):
  Calls prog 11 #[.agg #[.int .i64 sd,.float .f64 dt,.float .f64 gr,.float .f64 dr,.int .i64 lim,.bool rv,.slice pr lr cr]] w fun e w'=>e=.returned (.int .i64 18)/\Below w.heap.size w w':=by
 obtain⟨A0,R0⟩:=aL w (.cells #[.int .i64 sd,.float .f64 dt,.float .f64 gr,.float .f64 dr,.int .i64 lim,.bool rv,.slice pr lr cr] 25)
 go_enter func11,ntmps11
 go_upto_region 1 with fail
 generalize hW:World.alloc w _=V0 at*
 obtain⟨gw,hgw⟩:=aB w.heap.size
 rw[hgw]at R0 ⊢
 clear hgw hW
 have x0:=aG R0.out
 go_wp2_with fail
 refine(CC.out V0).mono ?_
 rintro e9 v9 ⟨rfl,hv9⟩
 have hv8:=hv9.symm
 subst hv8
 go_wp2_with fail
 refine(CN.out V0).mono ?_
 rintro e9 v1 ⟨rfl,b1⟩
 have A1:Hid (Ab w v1):=A0.out.trans b1
 have R1:=hid (Ab.heap b1 R0.out)
 clear b1 x0
 have x0:=aG R1.out
 go_wp2_with fail
 refine(CR.out v1 A1.out).mono ?_
 rintro e9 v2 ⟨rfl,b2⟩
 have A2:Hid (Ab w v2):=A1.out.trans b2
 clear b2 x0
 go_wp2
 go_ret
 exact⟨rfl,A2.out⟩
theorem plan_3(sd:Int)(dt gr dr:Nat)(lim:Int)(rv:Bool)(pr:Option Addr)(lr cr:Nat)(nc:Int)(w:World)(h0:(nc==0)=false)
  (CC:Hid (∀v,Calls prog 41 #[.int .i64 sd] v fun e w'=>e=.returned (.int .i64 nc)/\w'=v))
  (CN:Hid (∀v,Calls prog 42 #[.agg #[.int .i64 sd,.float .f64 dt,.float .f64 gr,.float .f64 dr,.int .i64 lim,.bool rv,.slice pr lr cr]] v fun e w'=>e=.returned (.bool true)/\Below v.heap.size v w'))
  (CR:Hid (∀v,Ab w v->Calls prog 43 #[.int .i64 nc,.slice pr lr cr] v fun e w'=>e=.returned (.bool true)/\Below v.heap.size v w')):
  Calls prog 11 #[.agg #[.int .i64 sd,.float .f64 dt,.float .f64 gr,.float .f64 dr,.int .i64 lim,.bool rv,.slice pr lr cr]] w fun e w'=>e=.returned (.int .i64 0)/\Below w.heap.size w w':=by
 obtain⟨A0,R0⟩:=aL w (.cells #[.int .i64 sd,.float .f64 dt,.float .f64 gr,.float .f64 dr,.int .i64 lim,.bool rv,.slice pr lr cr] 25)
 go_enter func11,ntmps11
 go_upto_region 1 with fail
 generalize hW:World.alloc w _=V0 at*
 obtain⟨gw,hgw⟩:=aB w.heap.size
 rw[hgw]at R0 ⊢
 clear hgw hW
 have x0:=aG R0.out
 go_wp2_with fail
 refine(CC.out V0).mono ?_
 rintro e9 v9 ⟨rfl,hv9⟩
 have hv8:=hv9.symm
 subst hv8
 go_wp2_with fail
 refine(CN.out V0).mono ?_
 rintro e9 v1 ⟨rfl,b1⟩
 have A1:Hid (Ab w v1):=A0.out.trans b1
 have R1:=hid (Ab.heap b1 R0.out)
 clear b1 x0
 have x0:=aG R1.out
 go_wp2_with fail
 refine(CR.out v1 A1.out).mono ?_
 rintro e9 v2 ⟨rfl,b2⟩
 have A2:Hid (Ab w v2):=A1.out.trans b2
 clear b2 x0
 go_wp2
 go_ret
 exact⟨rfl,A2.out⟩
theorem FG(sd:Int)(dt gr dr:Nat)(lim:Int)(rv:Bool)(pr:Option Addr)(lr cr:Nat)(R:Nat->Int × Int × Int × Int)(w:World)(hf:dt<18446744073709551616/\gr<18446744073709551616/\dr<18446744073709551616)(ir:Rn.IsRn w pr lr R):
  Calls prog 11 #[.agg #[.int .i64 sd,.float .f64 dt,.float .f64 gr,.float .f64 dr,.int .i64 lim,.bool rv,.slice pr lr cr]] w fun e w'=>e=.returned (.int .i64 (plE sd dt gr dr lim lr R))/\Below w.heap.size w w':=by
 have CC:=fun v=>jK sd v
 unfold plE
 by_cases hs:1<=sd/\sd<=32
 ·rw[if_neg (fun q=>q hs)]
  obtain⟨n,rfl⟩: ∃n:Nat,sd=(n:Nat):=⟨sd.toNat,by omega⟩
  rw[nL (n:=n) (by omega)]at CC
  rw[Int.toNat_natCast]
  have p1:0<n*n:=Nat.mul_pos (by omega) (by omega)
  have q6:6*n*n=6*(n*n):=Nat.mul_assoc _ _ _
  obtain⟨N,hN⟩:=aB (6*n*n)
  rw[hN]at CC q6 ⊢
  have h0:((N:Int)==0)=false:=by simp;omega
  clear p1 q6 hN
  have iff:=nuB_iff (gr:=gr) (dr:=dr) (lim:=lim) hf.1
  by_cases hn:nuB dt gr dr lim=true
  ·rw[if_neg (fun q=>q (iff.1 hn))]
   have CN:=fun v=>FF n dt gr dr lim rv pr lr cr true v hf.2.1 hf.2.2 hn
   by_cases hr:lr<=1024
   ·by_cases ha: ∀k,k<lr->rB ((N:Nat):Int) (R k)=true
    ·rw[if_neg (fun q=>q ⟨hr,ha⟩)]
     exact plan_3 n dt gr dr lim rv pr lr cr _ w h0 CC CN (fun v a=>Bi N pr lr cr R v hr (ir.below a) true (fun _=>rfl) (fun q=>absurd ha q))
    ·rw[if_pos (fun q=>ha q.2)]
     exact plan_2 n dt gr dr lim rv pr lr cr _ w h0 CC CN (fun v a=>Bi N pr lr cr R v hr (ir.below a) false (fun q=>absurd q ha) (fun _=>rfl))
   ·rw[if_pos (fun q=>hr q.1)]
    exact plan_2 n dt gr dr lim rv pr lr cr _ w h0 CC CN (fun v a=>DH N pr lr cr v (decide_eq_true (by omega)))
  ·rw[if_pos (fun q=>hn (iff.2 q))]
   have CN:=fun v=>FF n dt gr dr lim rv pr lr cr false v hf.2.1 hf.2.2 (by simpa using hn)
   exact plan_1 n dt gr dr lim rv pr lr cr _ w h0 CC CN
 ·rw[if_pos hs]
  exact plan_0 sd dt gr dr lim rv pr lr cr _ w (by unfold clN;rw[if_neg hs];rfl) CC
theorem Bj(side:Int)(pb:Option Addr)(lb cb:Nat)(pw:Option Addr)(lw cw:Nat)(pt:Option Addr)(lt ct:Nat)(ps:Option Addr)(ls cs:Nat)(sky st:Int)(nc:Int)(w:World)(h0:(nc==0)=true)
  (CC:Hid (∀v,Calls prog 41 #[.int .i64 side] v fun e w'=>e=.returned (.int .i64 nc)/\w'=v)):
  Calls prog 12 #[.int .i64 side,.agg #[.slice pb lb cb,.slice pw lw cw,.slice pt lt ct,.slice ps ls cs,.int .i64 sky,.int .i64 st]] w fun e w'=>e=.returned (.tuple #[.int .i64 0,.int .i64 10])/\Below w.heap.size w w':=by
 obtain⟨A0,R0⟩:=aL w (.cells #[.slice pb lb cb,.slice pw lw cw,.slice pt lt ct,.slice ps ls cs,.int .i64 sky,.int .i64 st] 29)
 go_enter func12,ntmps12
 go_upto_region 1 with fail
 generalize hW:World.alloc w _=V0 at*
 obtain⟨gw,hgw⟩:=aB w.heap.size
 rw[hgw]at R0 ⊢
 clear hgw hW
 have x0:=aE R0.out
 go_wp2_with fail
 refine(CC.out V0).mono ?_
 rintro e9 v9 ⟨rfl,hv9⟩
 have hv8:=hv9.symm
 subst hv8
 go_wp2
 go_ret2
 exact⟨rfl,A0.out⟩
theorem kP(side:Int)(pb:Option Addr)(lb cb:Nat)(pw:Option Addr)(lw cw:Nat)(pt:Option Addr)(lt ct:Nat)(ps:Option Addr)(ls cs:Nat)(sky st:Int)(nc:Int)(ml:Int)(w:World)(h0:(nc==0)=false)(h1:(ml != -1)=true)
  (CC:Hid (∀v,Calls prog 41 #[.int .i64 side] v fun e w'=>e=.returned (.int .i64 nc)/\w'=v))
  (CM:Hid (∀v,Calls prog 44 #[.int .i64 nc,.agg #[.slice pb lb cb,.slice pw lw cw,.slice pt lt ct,.slice ps ls cs,.int .i64 sky,.int .i64 st]] v fun e w'=>e=.returned (.int .i64 ml)/\Below v.heap.size v w')):
  Calls prog 12 #[.int .i64 side,.agg #[.slice pb lb cb,.slice pw lw cw,.slice pt lt ct,.slice ps ls cs,.int .i64 sky,.int .i64 st]] w fun e w'=>e=.returned (.tuple #[.int .i64 ml,.int .i64 12])/\Below w.heap.size w w':=by
 obtain⟨A0,R0⟩:=aL w (.cells #[.slice pb lb cb,.slice pw lw cw,.slice pt lt ct,.slice ps ls cs,.int .i64 sky,.int .i64 st] 29)
 go_enter func12,ntmps12
 go_upto_region 1 with fail
 generalize hW:World.alloc w _=V0 at*
 obtain⟨gw,hgw⟩:=aB w.heap.size
 rw[hgw]at R0 ⊢
 clear hgw hW
 have x0:=aE R0.out
 go_wp2_with fail
 refine(CC.out V0).mono ?_
 rintro e9 v9 ⟨rfl,hv9⟩
 have hv8:=hv9.symm
 subst hv8
 go_wp2_with fail
 refine(CM.out V0).mono ?_
 rintro e9 v1 ⟨rfl,b1⟩
 have A1:Hid (Ab w v1):=A0.out.trans b1
 have R1:=hid (Ab.heap b1 R0.out)
 clear b1 x0
 have x0:=aE R1.out
 go_wp2
 go_ret2
 exact⟨rfl,A1.out⟩
theorem Hy(side:Int)(pb:Option Addr)(lb cb:Nat)(pw:Option Addr)(lw cw:Nat)(pt:Option Addr)(lt ct:Nat)(ps:Option Addr)(ls cs:Nat)(sky st:Int)(nc:Int)(ml:Int)(fb:Int)(w:World)(h0:(nc==0)=false)(h1:(ml != -1)=false)(h2:(fb != -1)=true)
  (CC:Hid (∀v,Calls prog 41 #[.int .i64 side] v fun e w'=>e=.returned (.int .i64 nc)/\w'=v))
  (CM:Hid (∀v,Calls prog 44 #[.int .i64 nc,.agg #[.slice pb lb cb,.slice pw lw cw,.slice pt lt ct,.slice ps ls cs,.int .i64 sky,.int .i64 st]] v fun e w'=>e=.returned (.int .i64 ml)/\Below v.heap.size v w'))
  (CB:Hid (∀v,Ab w v->Calls prog 45 #[.slice pb lb cb,.float .f64 4697254411347427328] v fun e w'=>e=.returned (.int .i64 fb)/\w'=v)):
  Calls prog 12 #[.int .i64 side,.agg #[.slice pb lb cb,.slice pw lw cw,.slice pt lt ct,.slice ps ls cs,.int .i64 sky,.int .i64 st]] w fun e w'=>e=.returned (.tuple #[.int .i64 fb,.int .i64 13])/\Below w.heap.size w w':=by
 obtain⟨A0,R0⟩:=aL w (.cells #[.slice pb lb cb,.slice pw lw cw,.slice pt lt ct,.slice ps ls cs,.int .i64 sky,.int .i64 st] 29)
 go_enter func12,ntmps12
 go_upto_region 1 with fail
 generalize hW:World.alloc w _=V0 at*
 obtain⟨gw,hgw⟩:=aB w.heap.size
 rw[hgw]at R0 ⊢
 clear hgw hW
 have x0:=aE R0.out
 go_wp2_with fail
 refine(CC.out V0).mono ?_
 rintro e9 v9 ⟨rfl,hv9⟩
 have hv8:=hv9.symm
 subst hv8
 go_wp2_with fail
 refine(CM.out V0).mono ?_
 rintro e9 v1 ⟨rfl,b1⟩
 have A1:Hid (Ab w v1):=A0.out.trans b1
 have R1:=hid (Ab.heap b1 R0.out)
 clear b1 x0
 have x0:=aE R1.out
 go_wp2_with fail
 refine(CB.out v1 A1.out).mono ?_
 rintro e9 v9 ⟨rfl,hv9⟩
 have hv8:=hv9.symm
 subst hv8
 go_wp2
 go_ret2
 exact⟨rfl,A1.out⟩
theorem DM(side:Int)(pb:Option Addr)(lb cb:Nat)(pw:Option Addr)(lw cw:Nat)(pt:Option Addr)(lt ct:Nat)(ps:Option Addr)(ls cs:Nat)(sky st:Int)(nc:Int)(ml:Int)(fb:Int)(w:World)(h0:(nc==0)=false)(h1:(ml != -1)=false)(h2:(fb != -1)=false)(h3:decide (sky<0)=true)
  (CC:Hid (∀v,Calls prog 41 #[.int .i64 side] v fun e w'=>e=.returned (.int .i64 nc)/\w'=v))
  (CM:Hid (∀v,Calls prog 44 #[.int .i64 nc,.agg #[.slice pb lb cb,.slice pw lw cw,.slice pt lt ct,.slice ps ls cs,.int .i64 sky,.int .i64 st]] v fun e w'=>e=.returned (.int .i64 ml)/\Below v.heap.size v w'))
  (CB:Hid (∀v,Ab w v->Calls prog 45 #[.slice pb lb cb,.float .f64 4697254411347427328] v fun e w'=>e=.returned (.int .i64 fb)/\w'=v)):
  Calls prog 12 #[.int .i64 side,.agg #[.slice pb lb cb,.slice pw lw cw,.slice pt lt ct,.slice ps ls cs,.int .i64 sky,.int .i64 st]] w fun e w'=>e=.returned (.tuple #[.int .i64 0,.int .i64 17])/\Below w.heap.size w w':=by
 obtain⟨A0,R0⟩:=aL w (.cells #[.slice pb lb cb,.slice pw lw cw,.slice pt lt ct,.slice ps ls cs,.int .i64 sky,.int .i64 st] 29)
 go_enter func12,ntmps12
 go_upto_region 1 with fail
 generalize hW:World.alloc w _=V0 at*
 obtain⟨gw,hgw⟩:=aB w.heap.size
 rw[hgw]at R0 ⊢
 clear hgw hW
 have x0:=aE R0.out
 go_wp2_with fail
 refine(CC.out V0).mono ?_
 rintro e9 v9 ⟨rfl,hv9⟩
 have hv8:=hv9.symm
 subst hv8
 go_wp2_with fail
 refine(CM.out V0).mono ?_
 rintro e9 v1 ⟨rfl,b1⟩
 have A1:Hid (Ab w v1):=A0.out.trans b1
 have R1:=hid (Ab.heap b1 R0.out)
 clear b1 x0
 have x0:=aE R1.out
 go_wp2_with fail
 refine(CB.out v1 A1.out).mono ?_
 rintro e9 v9 ⟨rfl,hv9⟩
 have hv8:=hv9.symm
 subst hv8
 go_wp2
 go_ret2
 exact⟨rfl,A1.out⟩
theorem DN(side:Int)(pb:Option Addr)(lb cb:Nat)(pw:Option Addr)(lw cw:Nat)(pt:Option Addr)(lt ct:Nat)(ps:Option Addr)(ls cs:Nat)(sky st:Int)(nc:Int)(ml:Int)(fb:Int)(w:World)(h0:(nc==0)=false)(h1:(ml != -1)=false)(h2:(fb != -1)=false)(h3:decide (sky<0)=false)(h4:decide (4503599627370496<sky)=true)
  (CC:Hid (∀v,Calls prog 41 #[.int .i64 side] v fun e w'=>e=.returned (.int .i64 nc)/\w'=v))
  (CM:Hid (∀v,Calls prog 44 #[.int .i64 nc,.agg #[.slice pb lb cb,.slice pw lw cw,.slice pt lt ct,.slice ps ls cs,.int .i64 sky,.int .i64 st]] v fun e w'=>e=.returned (.int .i64 ml)/\Below v.heap.size v w'))
  (CB:Hid (∀v,Ab w v->Calls prog 45 #[.slice pb lb cb,.float .f64 4697254411347427328] v fun e w'=>e=.returned (.int .i64 fb)/\w'=v)):
  Calls prog 12 #[.int .i64 side,.agg #[.slice pb lb cb,.slice pw lw cw,.slice pt lt ct,.slice ps ls cs,.int .i64 sky,.int .i64 st]] w fun e w'=>e=.returned (.tuple #[.int .i64 0,.int .i64 17])/\Below w.heap.size w w':=by
 obtain⟨A0,R0⟩:=aL w (.cells #[.slice pb lb cb,.slice pw lw cw,.slice pt lt ct,.slice ps ls cs,.int .i64 sky,.int .i64 st] 29)
 go_enter func12,ntmps12
 go_upto_region 1 with fail
 generalize hW:World.alloc w _=V0 at*
 obtain⟨gw,hgw⟩:=aB w.heap.size
 rw[hgw]at R0 ⊢
 clear hgw hW
 have x0:=aE R0.out
 go_wp2_with fail
 refine(CC.out V0).mono ?_
 rintro e9 v9 ⟨rfl,hv9⟩
 have hv8:=hv9.symm
 subst hv8
 go_wp2_with fail
 refine(CM.out V0).mono ?_
 rintro e9 v1 ⟨rfl,b1⟩
 have A1:Hid (Ab w v1):=A0.out.trans b1
 have R1:=hid (Ab.heap b1 R0.out)
 clear b1 x0
 have x0:=aE R1.out
 go_wp2_with fail
 refine(CB.out v1 A1.out).mono ?_
 rintro e9 v9 ⟨rfl,hv9⟩
 have hv8:=hv9.symm
 subst hv8
 go_wp2
 go_ret2
 exact⟨rfl,A1.out⟩
theorem Bk(side:Int)(pb:Option Addr)(lb cb:Nat)(pw:Option Addr)(lw cw:Nat)(pt:Option Addr)(lt ct:Nat)(ps:Option Addr)(ls cs:Nat)(sky st:Int)(nc:Int)(ml:Int)(fb:Int)(fw:Int)(w:World)(h0:(nc==0)=false)(h1:(ml != -1)=false)(h2:(fb != -1)=false)(h3:decide (sky<0)=false)(h4:decide (4503599627370496<sky)=false)(h5:(fw != -1)=true)
  (CC:Hid (∀v,Calls prog 41 #[.int .i64 side] v fun e w'=>e=.returned (.int .i64 nc)/\w'=v))
  (CM:Hid (∀v,Calls prog 44 #[.int .i64 nc,.agg #[.slice pb lb cb,.slice pw lw cw,.slice pt lt ct,.slice ps ls cs,.int .i64 sky,.int .i64 st]] v fun e w'=>e=.returned (.int .i64 ml)/\Below v.heap.size v w'))
  (CB:Hid (∀v,Ab w v->Calls prog 45 #[.slice pb lb cb,.float .f64 4697254411347427328] v fun e w'=>e=.returned (.int .i64 fb)/\w'=v))
  (CW:Hid (∀v,Ab w v->Calls prog 46 #[.slice pw lw cw,.int .i64 (4503599627370496 - sky)] v fun e w'=>e=.returned (.int .i64 fw)/\w'=v)):
  Calls prog 12 #[.int .i64 side,.agg #[.slice pb lb cb,.slice pw lw cw,.slice pt lt ct,.slice ps ls cs,.int .i64 sky,.int .i64 st]] w fun e w'=>e=.returned (.tuple #[.int .i64 fw,.int .i64 14])/\Below w.heap.size w w':=by
 have sk1:0<=sky:=by simpa using h3
 have sk2:sky<=4503599627370496:=by simpa using h4
 obtain⟨A0,R0⟩:=aL w (.cells #[.slice pb lb cb,.slice pw lw cw,.slice pt lt ct,.slice ps ls cs,.int .i64 sky,.int .i64 st] 29)
 go_enter func12,ntmps12
 go_upto_region 1 with fail
 generalize hW:World.alloc w _=V0 at*
 obtain⟨gw,hgw⟩:=aB w.heap.size
 rw[hgw]at R0 ⊢
 clear hgw hW
 have x0:=aE R0.out
 go_wp2_with fail
 refine(CC.out V0).mono ?_
 rintro e9 v9 ⟨rfl,hv9⟩
 have hv8:=hv9.symm
 subst hv8
 go_wp2_with fail
 refine(CM.out V0).mono ?_
 rintro e9 v1 ⟨rfl,b1⟩
 have A1:Hid (Ab w v1):=A0.out.trans b1
 have R1:=hid (Ab.heap b1 R0.out)
 clear b1 x0
 have x0:=aE R1.out
 go_wp2_with fail
 refine(CB.out v1 A1.out).mono ?_
 rintro e9 v9 ⟨rfl,hv9⟩
 have hv8:=hv9.symm
 subst hv8
 go_wp2_with fail
 refine(CW.out v1 A1.out).mono ?_
 rintro e9 v9 ⟨rfl,hv9⟩
 have hv8:=hv9.symm
 subst hv8
 go_wp2
 go_ret2
 exact⟨rfl,A1.out⟩
theorem yO(side:Int)(pb:Option Addr)(lb cb:Nat)(pw:Option Addr)(lw cw:Nat)(pt:Option Addr)(lt ct:Nat)(ps:Option Addr)(ls cs:Nat)(sky st:Int)(nc:Int)(ml:Int)(fb:Int)(fw:Int)(ft:Int)(w:World)(h0:(nc==0)=false)(h1:(ml != -1)=false)(h2:(fb != -1)=false)(h3:decide (sky<0)=false)(h4:decide (4503599627370496<sky)=false)(h5:(fw != -1)=false)(h6:(ft != -1)=true)
  (CC:Hid (∀v,Calls prog 41 #[.int .i64 side] v fun e w'=>e=.returned (.int .i64 nc)/\w'=v))
  (CM:Hid (∀v,Calls prog 44 #[.int .i64 nc,.agg #[.slice pb lb cb,.slice pw lw cw,.slice pt lt ct,.slice ps ls cs,.int .i64 sky,.int .i64 st]] v fun e w'=>e=.returned (.int .i64 ml)/\Below v.heap.size v w'))
  (CB:Hid (∀v,Ab w v->Calls prog 45 #[.slice pb lb cb,.float .f64 4697254411347427328] v fun e w'=>e=.returned (.int .i64 fb)/\w'=v))
  (CW:Hid (∀v,Ab w v->Calls prog 46 #[.slice pw lw cw,.int .i64 (4503599627370496 - sky)] v fun e w'=>e=.returned (.int .i64 fw)/\w'=v))
  (CT:Hid (∀v,Ab w v->Calls prog 46 #[.slice pt lt ct,.int .i64 4503599627370496] v fun e w'=>e=.returned (.int .i64 ft)/\w'=v)):
  Calls prog 12 #[.int .i64 side,.agg #[.slice pb lb cb,.slice pw lw cw,.slice pt lt ct,.slice ps ls cs,.int .i64 sky,.int .i64 st]] w fun e w'=>e=.returned (.tuple #[.int .i64 ft,.int .i64 15])/\Below w.heap.size w w':=by
 have sk1:0<=sky:=by simpa using h3
 have sk2:sky<=4503599627370496:=by simpa using h4
 obtain⟨A0,R0⟩:=aL w (.cells #[.slice pb lb cb,.slice pw lw cw,.slice pt lt ct,.slice ps ls cs,.int .i64 sky,.int .i64 st] 29)
 go_enter func12,ntmps12
 go_upto_region 1 with fail
 generalize hW:World.alloc w _=V0 at*
 obtain⟨gw,hgw⟩:=aB w.heap.size
 rw[hgw]at R0 ⊢
 clear hgw hW
 have x0:=aE R0.out
 go_wp2_with fail
 refine(CC.out V0).mono ?_
 rintro e9 v9 ⟨rfl,hv9⟩
 have hv8:=hv9.symm
 subst hv8
 go_wp2_with fail
 refine(CM.out V0).mono ?_
 rintro e9 v1 ⟨rfl,b1⟩
 have A1:Hid (Ab w v1):=A0.out.trans b1
 have R1:=hid (Ab.heap b1 R0.out)
 clear b1 x0
 have x0:=aE R1.out
 go_wp2_with fail
 refine(CB.out v1 A1.out).mono ?_
 rintro e9 v9 ⟨rfl,hv9⟩
 have hv8:=hv9.symm
 subst hv8
 go_wp2_with fail
 refine(CW.out v1 A1.out).mono ?_
 rintro e9 v9 ⟨rfl,hv9⟩
 have hv8:=hv9.symm
 subst hv8
 go_wp2_with fail
 refine(CT.out v1 A1.out).mono ?_
 rintro e9 v9 ⟨rfl,hv9⟩
 have hv8:=hv9.symm
 subst hv8
 go_wp2
 go_ret2
 exact⟨rfl,A1.out⟩
theorem Bl(side:Int)(pb:Option Addr)(lb cb:Nat)(pw:Option Addr)(lw cw:Nat)(pt:Option Addr)(lt ct:Nat)(ps:Option Addr)(ls cs:Nat)(sky st:Int)(nc:Int)(ml:Int)(fb:Int)(fw:Int)(ft:Int)(fs:Int)(w:World)(h0:(nc==0)=false)(h1:(ml != -1)=false)(h2:(fb != -1)=false)(h3:decide (sky<0)=false)(h4:decide (4503599627370496<sky)=false)(h5:(fw != -1)=false)(h6:(ft != -1)=false)(h7:(fs != -1)=true)
  (CC:Hid (∀v,Calls prog 41 #[.int .i64 side] v fun e w'=>e=.returned (.int .i64 nc)/\w'=v))
  (CM:Hid (∀v,Calls prog 44 #[.int .i64 nc,.agg #[.slice pb lb cb,.slice pw lw cw,.slice pt lt ct,.slice ps ls cs,.int .i64 sky,.int .i64 st]] v fun e w'=>e=.returned (.int .i64 ml)/\Below v.heap.size v w'))
  (CB:Hid (∀v,Ab w v->Calls prog 45 #[.slice pb lb cb,.float .f64 4697254411347427328] v fun e w'=>e=.returned (.int .i64 fb)/\w'=v))
  (CW:Hid (∀v,Ab w v->Calls prog 46 #[.slice pw lw cw,.int .i64 (4503599627370496 - sky)] v fun e w'=>e=.returned (.int .i64 fw)/\w'=v))
  (CT:Hid (∀v,Ab w v->Calls prog 46 #[.slice pt lt ct,.int .i64 4503599627370496] v fun e w'=>e=.returned (.int .i64 ft)/\w'=v))
  (CS:Hid (∀v,Ab w v->Calls prog 45 #[.slice ps ls cs,.float .f64 4652218415073722368] v fun e w'=>e=.returned (.int .i64 fs)/\w'=v)):
  Calls prog 12 #[.int .i64 side,.agg #[.slice pb lb cb,.slice pw lw cw,.slice pt lt ct,.slice ps ls cs,.int .i64 sky,.int .i64 st]] w fun e w'=>e=.returned (.tuple #[.int .i64 fs,.int .i64 16])/\Below w.heap.size w w':=by
 have sk1:0<=sky:=by simpa using h3
 have sk2:sky<=4503599627370496:=by simpa using h4
 obtain⟨A0,R0⟩:=aL w (.cells #[.slice pb lb cb,.slice pw lw cw,.slice pt lt ct,.slice ps ls cs,.int .i64 sky,.int .i64 st] 29)
 go_enter func12,ntmps12
 go_upto_region 1 with fail
 generalize hW:World.alloc w _=V0 at*
 obtain⟨gw,hgw⟩:=aB w.heap.size
 rw[hgw]at R0 ⊢
 clear hgw hW
 have x0:=aE R0.out
 go_wp2_with fail
 refine(CC.out V0).mono ?_
 rintro e9 v9 ⟨rfl,hv9⟩
 have hv8:=hv9.symm
 subst hv8
 go_wp2_with fail
 refine(CM.out V0).mono ?_
 rintro e9 v1 ⟨rfl,b1⟩
 have A1:Hid (Ab w v1):=A0.out.trans b1
 have R1:=hid (Ab.heap b1 R0.out)
 clear b1 x0
 have x0:=aE R1.out
 go_wp2_with fail
 refine(CB.out v1 A1.out).mono ?_
 rintro e9 v9 ⟨rfl,hv9⟩
 have hv8:=hv9.symm
 subst hv8
 go_wp2_with fail
 refine(CW.out v1 A1.out).mono ?_
 rintro e9 v9 ⟨rfl,hv9⟩
 have hv8:=hv9.symm
 subst hv8
 go_wp2_with fail
 refine(CT.out v1 A1.out).mono ?_
 rintro e9 v9 ⟨rfl,hv9⟩
 have hv8:=hv9.symm
 subst hv8
 go_wp2_with fail
 refine(CS.out v1 A1.out).mono ?_
 rintro e9 v9 ⟨rfl,hv9⟩
 have hv8:=hv9.symm
 subst hv8
 go_wp2
 go_ret2
 exact⟨rfl,A1.out⟩
theorem Hz(side:Int)(pb:Option Addr)(lb cb:Nat)(pw:Option Addr)(lw cw:Nat)(pt:Option Addr)(lt ct:Nat)(ps:Option Addr)(ls cs:Nat)(sky st:Int)(nc:Int)(ml:Int)(fb:Int)(fw:Int)(ft:Int)(fs:Int)(w:World)(h0:(nc==0)=false)(h1:(ml != -1)=false)(h2:(fb != -1)=false)(h3:decide (sky<0)=false)(h4:decide (4503599627370496<sky)=false)(h5:(fw != -1)=false)(h6:(ft != -1)=false)(h7:(fs != -1)=false)(h8:decide (st<0)=true)
  (CC:Hid (∀v,Calls prog 41 #[.int .i64 side] v fun e w'=>e=.returned (.int .i64 nc)/\w'=v))
  (CM:Hid (∀v,Calls prog 44 #[.int .i64 nc,.agg #[.slice pb lb cb,.slice pw lw cw,.slice pt lt ct,.slice ps ls cs,.int .i64 sky,.int .i64 st]] v fun e w'=>e=.returned (.int .i64 ml)/\Below v.heap.size v w'))
  (CB:Hid (∀v,Ab w v->Calls prog 45 #[.slice pb lb cb,.float .f64 4697254411347427328] v fun e w'=>e=.returned (.int .i64 fb)/\w'=v))
  (CW:Hid (∀v,Ab w v->Calls prog 46 #[.slice pw lw cw,.int .i64 (4503599627370496 - sky)] v fun e w'=>e=.returned (.int .i64 fw)/\w'=v))
  (CT:Hid (∀v,Ab w v->Calls prog 46 #[.slice pt lt ct,.int .i64 4503599627370496] v fun e w'=>e=.returned (.int .i64 ft)/\w'=v))
  (CS:Hid (∀v,Ab w v->Calls prog 45 #[.slice ps ls cs,.float .f64 4652218415073722368] v fun e w'=>e=.returned (.int .i64 fs)/\w'=v)):
  Calls prog 12 #[.int .i64 side,.agg #[.slice pb lb cb,.slice pw lw cw,.slice pt lt ct,.slice ps ls cs,.int .i64 sky,.int .i64 st]] w fun e w'=>e=.returned (.tuple #[.int .i64 0,.int .i64 1])/\Below w.heap.size w w':=by
 have sk1:0<=sky:=by simpa using h3
 have sk2:sky<=4503599627370496:=by simpa using h4
 obtain⟨A0,R0⟩:=aL w (.cells #[.slice pb lb cb,.slice pw lw cw,.slice pt lt ct,.slice ps ls cs,.int .i64 sky,.int .i64 st] 29)
 go_enter func12,ntmps12
 go_upto_region 1 with fail
 generalize hW:World.alloc w _=V0 at*
 obtain⟨gw,hgw⟩:=aB w.heap.size
 rw[hgw]at R0 ⊢
 clear hgw hW
 have x0:=aE R0.out
 go_wp2_with fail
 refine(CC.out V0).mono ?_
 rintro e9 v9 ⟨rfl,hv9⟩
 have hv8:=hv9.symm
 subst hv8
 go_wp2_with fail
 refine(CM.out V0).mono ?_
 rintro e9 v1 ⟨rfl,b1⟩
 have A1:Hid (Ab w v1):=A0.out.trans b1
 have R1:=hid (Ab.heap b1 R0.out)
 clear b1 x0
 have x0:=aE R1.out
 go_wp2_with fail
 refine(CB.out v1 A1.out).mono ?_
 rintro e9 v9 ⟨rfl,hv9⟩
 have hv8:=hv9.symm
 subst hv8
 go_wp2_with fail
 refine(CW.out v1 A1.out).mono ?_
 rintro e9 v9 ⟨rfl,hv9⟩
 have hv8:=hv9.symm
 subst hv8
 go_wp2_with fail
 refine(CT.out v1 A1.out).mono ?_
 rintro e9 v9 ⟨rfl,hv9⟩
 have hv8:=hv9.symm
 subst hv8
 go_wp2_with fail
 refine(CS.out v1 A1.out).mono ?_
 rintro e9 v9 ⟨rfl,hv9⟩
 have hv8:=hv9.symm
 subst hv8
 go_wp2
 go_ret2
 exact⟨rfl,A1.out⟩
theorem H4(side:Int)(pb:Option Addr)(lb cb:Nat)(pw:Option Addr)(lw cw:Nat)(pt:Option Addr)(lt ct:Nat)(ps:Option Addr)(ls cs:Nat)(sky st:Int)(nc:Int)(ml:Int)(fb:Int)(fw:Int)(ft:Int)(fs:Int)(w:World)(h0:(nc==0)=false)(h1:(ml != -1)=false)(h2:(fb != -1)=false)(h3:decide (sky<0)=false)(h4:decide (4503599627370496<sky)=false)(h5:(fw != -1)=false)(h6:(ft != -1)=false)(h7:(fs != -1)=false)(h8:decide (st<0)=false)(h9:decide (4611686018427387904<st)=true)
  (CC:Hid (∀v,Calls prog 41 #[.int .i64 side] v fun e w'=>e=.returned (.int .i64 nc)/\w'=v))
  (CM:Hid (∀v,Calls prog 44 #[.int .i64 nc,.agg #[.slice pb lb cb,.slice pw lw cw,.slice pt lt ct,.slice ps ls cs,.int .i64 sky,.int .i64 st]] v fun e w'=>e=.returned (.int .i64 ml)/\Below v.heap.size v w'))
  (CB:Hid (∀v,Ab w v->Calls prog 45 #[.slice pb lb cb,.float .f64 4697254411347427328] v fun e w'=>e=.returned (.int .i64 fb)/\w'=v))
  (CW:Hid (∀v,Ab w v->Calls prog 46 #[.slice pw lw cw,.int .i64 (4503599627370496 - sky)] v fun e w'=>e=.returned (.int .i64 fw)/\w'=v))
  (CT:Hid (∀v,Ab w v->Calls prog 46 #[.slice pt lt ct,.int .i64 4503599627370496] v fun e w'=>e=.returned (.int .i64 ft)/\w'=v))
  (CS:Hid (∀v,Ab w v->Calls prog 45 #[.slice ps ls cs,.float .f64 4652218415073722368] v fun e w'=>e=.returned (.int .i64 fs)/\w'=v)):
  Calls prog 12 #[.int .i64 side,.agg #[.slice pb lb cb,.slice pw lw cw,.slice pt lt ct,.slice ps ls cs,.int .i64 sky,.int .i64 st]] w fun e w'=>e=.returned (.tuple #[.int .i64 0,.int .i64 1])/\Below w.heap.size w w':=by
 have sk1:0<=sky:=by simpa using h3
 have sk2:sky<=4503599627370496:=by simpa using h4
 obtain⟨A0,R0⟩:=aL w (.cells #[.slice pb lb cb,.slice pw lw cw,.slice pt lt ct,.slice ps ls cs,.int .i64 sky,.int .i64 st] 29)
 go_enter func12,ntmps12
 go_upto_region 1 with fail
 generalize hW:World.alloc w _=V0 at*
 obtain⟨gw,hgw⟩:=aB w.heap.size
 rw[hgw]at R0 ⊢
 clear hgw hW
 have x0:=aE R0.out
 go_wp2_with fail
 refine(CC.out V0).mono ?_
 rintro e9 v9 ⟨rfl,hv9⟩
 have hv8:=hv9.symm
 subst hv8
 go_wp2_with fail
 refine(CM.out V0).mono ?_
 rintro e9 v1 ⟨rfl,b1⟩
 have A1:Hid (Ab w v1):=A0.out.trans b1
 have R1:=hid (Ab.heap b1 R0.out)
 clear b1 x0
 have x0:=aE R1.out
 go_wp2_with fail
 refine(CB.out v1 A1.out).mono ?_
 rintro e9 v9 ⟨rfl,hv9⟩
 have hv8:=hv9.symm
 subst hv8
 go_wp2_with fail
 refine(CW.out v1 A1.out).mono ?_
 rintro e9 v9 ⟨rfl,hv9⟩
 have hv8:=hv9.symm
 subst hv8
 go_wp2_with fail
 refine(CT.out v1 A1.out).mono ?_
 rintro e9 v9 ⟨rfl,hv9⟩
 have hv8:=hv9.symm
 subst hv8
 go_wp2_with fail
 refine(CS.out v1 A1.out).mono ?_
 rintro e9 v9 ⟨rfl,hv9⟩
 have hv8:=hv9.symm
 subst hv8
 go_wp2
 go_ret2
 exact⟨rfl,A1.out⟩
theorem check_ok(side:Int)(pb:Option Addr)(lb cb:Nat)(pw:Option Addr)(lw cw:Nat)(pt:Option Addr)(lt ct:Nat)(ps:Option Addr)(ls cs:Nat)(sky st:Int)(nc:Int)(ml:Int)(fb:Int)(fw:Int)(ft:Int)(fs:Int)(w:World)(h0:(nc==0)=false)(h1:(ml != -1)=false)(h2:(fb != -1)=false)(h3:decide (sky<0)=false)(h4:decide (4503599627370496<sky)=false)(h5:(fw != -1)=false)(h6:(ft != -1)=false)(h7:(fs != -1)=false)(h8:decide (st<0)=false)(h9:decide (4611686018427387904<st)=false)
  (CC:Hid (∀v,Calls prog 41 #[.int .i64 side] v fun e w'=>e=.returned (.int .i64 nc)/\w'=v))
  (CM:Hid (∀v,Calls prog 44 #[.int .i64 nc,.agg #[.slice pb lb cb,.slice pw lw cw,.slice pt lt ct,.slice ps ls cs,.int .i64 sky,.int .i64 st]] v fun e w'=>e=.returned (.int .i64 ml)/\Below v.heap.size v w'))
  (CB:Hid (∀v,Ab w v->Calls prog 45 #[.slice pb lb cb,.float .f64 4697254411347427328] v fun e w'=>e=.returned (.int .i64 fb)/\w'=v))
  (CW:Hid (∀v,Ab w v->Calls prog 46 #[.slice pw lw cw,.int .i64 (4503599627370496 - sky)] v fun e w'=>e=.returned (.int .i64 fw)/\w'=v))
  (CT:Hid (∀v,Ab w v->Calls prog 46 #[.slice pt lt ct,.int .i64 4503599627370496] v fun e w'=>e=.returned (.int .i64 ft)/\w'=v))
  (CS:Hid (∀v,Ab w v->Calls prog 45 #[.slice ps ls cs,.float .f64 4652218415073722368] v fun e w'=>e=.returned (.int .i64 fs)/\w'=v)):
  Calls prog 12 #[.int .i64 side,.agg #[.slice pb lb cb,.slice pw lw cw,.slice pt lt ct,.slice ps ls cs,.int .i64 sky,.int .i64 st]] w fun e w'=>e=.returned (.tuple #[.int .i64 0,.int .i64 0])/\Below w.heap.size w w':=by
 have sk1:0<=sky:=by simpa using h3
 have sk2:sky<=4503599627370496:=by simpa using h4
 obtain⟨A0,R0⟩:=aL w (.cells #[.slice pb lb cb,.slice pw lw cw,.slice pt lt ct,.slice ps ls cs,.int .i64 sky,.int .i64 st] 29)
 go_enter func12,ntmps12
 go_upto_region 1 with fail
 generalize hW:World.alloc w _=V0 at*
 obtain⟨gw,hgw⟩:=aB w.heap.size
 rw[hgw]at R0 ⊢
 clear hgw hW
 have x0:=aE R0.out
 go_wp2_with fail
 refine(CC.out V0).mono ?_
 rintro e9 v9 ⟨rfl,hv9⟩
 have hv8:=hv9.symm
 subst hv8
 go_wp2_with fail
 refine(CM.out V0).mono ?_
 rintro e9 v1 ⟨rfl,b1⟩
 have A1:Hid (Ab w v1):=A0.out.trans b1
 have R1:=hid (Ab.heap b1 R0.out)
 clear b1 x0
 have x0:=aE R1.out
 go_wp2_with fail
 refine(CB.out v1 A1.out).mono ?_
 rintro e9 v9 ⟨rfl,hv9⟩
 have hv8:=hv9.symm
 subst hv8
 go_wp2_with fail
 refine(CW.out v1 A1.out).mono ?_
 rintro e9 v9 ⟨rfl,hv9⟩
 have hv8:=hv9.symm
 subst hv8
 go_wp2_with fail
 refine(CT.out v1 A1.out).mono ?_
 rintro e9 v9 ⟨rfl,hv9⟩
 have hv8:=hv9.symm
 subst hv8
 go_wp2_with fail
 refine(CS.out v1 A1.out).mono ?_
 rintro e9 v9 ⟨rfl,hv9⟩
 have hv8:=hv9.symm
 subst hv8
 go_wp2
 go_ret2
 exact⟨rfl,A1.out⟩
theorem bed_fp{B:Nat->Nat}(i:Nat):bB B i= !btw (B i) 13920626448202203136 4697254411347427328:=rfl
theorem sp_fp{S:Nat->Nat}(i:Nat):bS S i= !btw (S i) 13875590451928498176 4652218415073722368:=rfl
theorem wF{x:Int}(h:0<=x):(x != -1)=true:=by simp;omega
theorem wG{x:Int}(h: ¬0<=x)(g: -1<=x):(x != -1)=false:=by simp;omega
theorem Bm(side:Int)(pb:Option Addr)(lb cb:Nat)(B:Nat->Nat)(pw:Option Addr)(lw cw:Nat)(W:Nat->Int)(pt:Option Addr)(lt ct:Nat)(T:Nat->Int)(ps:Option Addr)(ls cs:Nat)(S:Nat->Nat)(sky st:Int)(w:World)(i1:IsFl w pb lb B)(i2:Sh.IsI w pw lw W)(i3:Sh.IsI w pt lt T)(i4:IsFl w ps ls S):
  Calls prog 12 #[.int .i64 side,.agg #[.slice pb lb cb,.slice pw lw cw,.slice pt lt ct,.slice ps ls cs,.int .i64 sky,.int .i64 st]] w fun e w'=>e=.returned (.tuple #[.int .i64 (chk side lb lw lt ls B W T S sky st).1,.int .i64 (chk side lb lw lt ls B W T S sky st).2])/\Below w.heap.size w w':=by
 have CC:=fun v=>jK side v
 unfold chk
 by_cases hs:1<=side/\side<=32
 ·rw[if_pos hs]
  obtain⟨n,rfl⟩: ∃n:Nat,side=(n:Nat):=⟨side.toNat,by omega⟩
  rw[nL (n:=n) (by omega)]at CC
  rw[Int.toNat_natCast]
  have p1:0<n*n:=Nat.mul_pos (by omega) (by omega)
  have p2:n*n<=32*32:=Nat.mul_le_mul (by omega) (by omega)
  have q6:6*n*n=6*(n*n):=Nat.mul_assoc _ _ _
  obtain⟨N,hN⟩:=aB (6*n*n)
  rw[hN]at CC q6 ⊢
  have N0:0<N:=by omega
  have N1:(N:Int)<=6144:=by omega
  have h0:((N:Int)==0)=false:=by simp;omega
  clear p1 p2 q6 hN
  have MF:=fun v=>misfit_4 N pb lb cb pw lw cw pt lt ct ps ls cs sky st v N1
  unfold chN
  by_cases e1:lb=N
  ·rw[if_neg (by omega)]
   by_cases e2:lw=N
   ·rw[if_neg (by omega)]
    by_cases e3:lt=N
    ·rw[if_neg (by omega)]
     by_cases e4:ls=2*N
     ·rw[if_neg (by omega)]
      have CM:=fun v=>MF v (by simp[e1]) (by simp[e2]) (by simp[e3]) (by simp[e4])
      have CB:=fun v (a:Ab w v)=>qH pb lb cb B 4697254411347427328 13920626448202203136 (bB B) v (by decide+kernel) (by omega) (by omega) (i1.below a) (fun i _=>bed_fp i)
      have CS:=fun v (a:Ab w v)=>qH ps ls cs S 4652218415073722368 13875590451928498176 (bS S) v (by decide+kernel) (by omega) (by omega) (i4.below a) (fun i _=>sp_fp i)
      have CT:=fun v (a:Ab w v)=>yN pt lt ct T 0 4503599627370496 v (by omega) (i3.below a) (by omega) (by omega)
      rw[e1]at CB
      rw[e4]at CS
      rw[e3]at CT
      obtain⟨fb,hfb⟩:=aB (fp (bB B) N)
      obtain⟨fs,hfs⟩:=aB (fp (bS S) (2*N))
      obtain⟨ft,hft⟩:=aB (fp (bQ T 0) N)
      have g1:=(vU (bB B) N).1
      have g2:=(vU (bS S) (2*N)).1
      have g3:=(vU (bQ T 0) N).1
      rw[hfb]at CB g1 ⊢
      rw[hfs]at CS g2 ⊢
      rw[hft]at CT g3 ⊢
      rw[<- e1]at CB
      rw[<- e4]at CS
      rw[<- e3]at CT
      clear hfb hfs hft
      by_cases f2:0<=fb
      ·rw[if_pos f2]
       exact Hy n pb lb cb pw lw cw pt lt ct ps ls cs sky st _ _ _ w h0 (by decide) (wF f2) CC CM CB
      ·rw[if_neg f2]
       have k2:=wG f2 g1
       by_cases f3:sky<0
       ·rw[if_pos (.inl f3)]
        exact DM n pb lb cb pw lw cw pt lt ct ps ls cs sky st _ _ _ w h0 (by decide) k2 (decide_eq_true f3) CC CM CB
       ·have k3:=decide_eq_false f3
        by_cases f4:4503599627370496<sky
        ·rw[if_pos (.inr f4)]
         exact DN n pb lb cb pw lw cw pt lt ct ps ls cs sky st _ _ _ w h0 (by decide) k2 k3 (decide_eq_true f4) CC CM CB
        ·rw[if_neg (by omega)]
         have k4:=decide_eq_false f4
         have CW:=fun v (a:Ab w v)=>yN pw lw cw W sky (4503599627370496 - sky) v (by omega) (i2.below a) (by omega) (by omega)
         rw[e2]at CW
         obtain⟨fw,hfw⟩:=aB (fp (bQ W sky) N)
         have g4:=(vU (bQ W sky) N).1
         rw[hfw]at CW g4 ⊢
         rw[<- e2]at CW
         clear hfw
         by_cases f5:0<=fw
         ·rw[if_pos f5]
          exact Bk n pb lb cb pw lw cw pt lt ct ps ls cs sky st _ _ _ _ w h0 (by decide) k2 k3 k4 (wF f5) CC CM CB CW
         ·rw[if_neg f5]
          have k5:=wG f5 g4
          by_cases f6:0<=ft
          ·rw[if_pos f6]
           exact yO n pb lb cb pw lw cw pt lt ct ps ls cs sky st _ _ _ _ _ w h0 (by decide) k2 k3 k4 k5 (wF f6) CC CM CB CW CT
          ·rw[if_neg f6]
           have k6:=wG f6 g3
           by_cases f7:0<=fs
           ·rw[if_pos f7]
            exact Bl n pb lb cb pw lw cw pt lt ct ps ls cs sky st _ _ _ _ _ _ w h0 (by decide) k2 k3 k4 k5 k6 (wF f7) CC CM CB CW CT CS
           ·rw[if_neg f7]
            have k7:=wG f7 g2
            by_cases f8:st<0
            ·rw[if_pos (.inl f8)]
             exact Hz n pb lb cb pw lw cw pt lt ct ps ls cs sky st _ _ _ _ _ _ w h0 (by decide) k2 k3 k4 k5 k6 k7 (decide_eq_true f8) CC CM CB CW CT CS
            ·have k8:=decide_eq_false f8
             by_cases f9:4611686018427387904<st
             ·rw[if_pos (.inr f9)]
              exact H4 n pb lb cb pw lw cw pt lt ct ps ls cs sky st _ _ _ _ _ _ w h0 (by decide) k2 k3 k4 k5 k6 k7 k8 (decide_eq_true f9) CC CM CB CW CT CS
             ·rw[if_neg (by omega)]
              exact check_ok n pb lb cb pw lw cw pt lt ct ps ls cs sky st _ _ _ _ _ _ w h0 (by decide) k2 k3 k4 k5 k6 k7 k8 (decide_eq_false f9) CC CM CB CW CT CS
     ·rw[if_pos e4]
      exact kP n pb lb cb pw lw cw pt lt ct ps ls cs sky st _ _ w h0 (by decide) CC (fun v=>misfit_3 N pb lb cb pw lw cw pt lt ct ps ls cs sky st v N1 (by simp[e1]) (by simp[e2]) (by simp[e3]) (by simp;omega))
    ·rw[if_pos e3]
     exact kP n pb lb cb pw lw cw pt lt ct ps ls cs sky st _ _ w h0 (by decide) CC (fun v=>misfit_2 N pb lb cb pw lw cw pt lt ct ps ls cs sky st v N1 (by simp[e1]) (by simp[e2]) (by simp;omega))
   ·rw[if_pos e2]
    exact kP n pb lb cb pw lw cw pt lt ct ps ls cs sky st _ _ w h0 (by decide) CC (fun v=>misfit_1 N pb lb cb pw lw cw pt lt ct ps ls cs sky st v N1 (by simp[e1]) (by simp;omega))
  ·rw[if_pos e1]
   exact kP n pb lb cb pw lw cw pt lt ct ps ls cs sky st _ _ w h0 (by decide) CC (fun v=>misfit_0 N pb lb cb pw lw cw pt lt ct ps ls cs sky st v N1 (by simp;omega))
 ·rw[if_neg hs]
  exact Bj side pb lb cb pw lw cw pt lt ct ps ls cs sky st _ w (by unfold clN;rw[if_neg hs];rfl) CC
end Ss
end
end Go.Proofs.YtaphajlpbgcfjaaGreatDoor
