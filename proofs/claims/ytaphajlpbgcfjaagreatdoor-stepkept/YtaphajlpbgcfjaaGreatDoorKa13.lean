/-
  Some of the texts of this proof, one behind the other.
-/
import Derived.Test.YtaphajlpbgcfjaaGreatDoorKa12
set_option maxRecDepth 100000
set_option maxHeartbeats 400000000
namespace Go.Proofs.YtaphajlpbgcfjaaGreatDoor
open _root_.Go.Proofs.Tryz
section
open Go.RowKit Tf Cu Go.Deep
attribute [local go_sem] aL aM aP aQ aR aV aW aF
namespace St
open Ss Fc
theorem Ef{g:Nat}{p1:Option Addr}{c1:Nat}{p2:Option Addr}{c2:Nat}{p3:Option Addr}{c3:Nat}{p4:Option Addr}{c4:Nat}{n1 n2 n3 n4:Nat}{A:Nat->Nat}{B C:Nat->Int}{D:Nat->Nat}{sk st:Int}{v v':World}(h:SeaP g p1 c1 p2 c2 p3 c3 p4 c4 n1 n2 n3 n4 A B C D sk st v)(a:Ab v v'):SeaP g p1 c1 p2 c2 p3 c3 p4 c4 n1 n2 n3 n4 A B C D sk st v':=⟨Ab.heap a h.1,h.2.1.below a,h.2.2.1.below a,h.2.2.2.1.below a,h.2.2.2.2.below a⟩
theorem Bw(sd:Int)(dt gr dr:Nat)(lim:Int)(rv:Bool)(pr:Option Addr)(lr cr:Nat)(pb:Option Addr)(lb cb:Nat)(pw:Option Addr)(lw cw:Nat)(pt:Option Addr)(lt ct:Nat)(ps:Option Addr)(ls cs:Nat)(sky st:Int)(pe:Int)(w:World)(h0:(pe==0)=false)(h1:pe=10)
  (LV:Hid (∀v,Ab w v->Calls prog 9 #[] v fun e w'=>e=.returned (.bool true)/\Below v.heap.size v w'))
  (GD:Hid (∀v,Ab w v->Calls prog 10 #[.agg #[.int .i64 sd,.float .f64 dt,.float .f64 gr,.float .f64 dr,.int .i64 lim,.bool rv,.slice pr lr cr],.agg #[.slice pb lb cb,.slice pw lw cw,.slice pt lt ct,.slice ps ls cs,.int .i64 sky,.int .i64 st]] v fun e w'=>e=.returned (.tuple #[.pointer none,.bool false])/\Below v.heap.size v w'))
  (CP:Hid (∀v,Ab w v->Calls prog 11 #[.agg #[.int .i64 sd,.float .f64 dt,.float .f64 gr,.float .f64 dr,.int .i64 lim,.bool rv,.slice pr lr cr]] v fun e w'=>e=.returned (.int .i64 pe)/\Below v.heap.size v w'))
  (NW:Hid (∀v,Ab w v->Calls prog 13 #[.int .i64 sd] v fun e w'=>e=.returned (.tuple #[.pointer none,.int .i64 10])/\Below v.heap.size v w')):
  Calls prog 3 #[.agg #[.int .i64 sd,.float .f64 dt,.float .f64 gr,.float .f64 dr,.int .i64 lim,.bool rv,.slice pr lr cr],.agg #[.slice pb lb cb,.slice pw lw cw,.slice pt lt ct,.slice ps ls cs,.int .i64 sky,.int .i64 st]] w fun e w'=>e=.returned (.bool true)/\Below w.heap.size w w':=by
 subst h1
 obtain⟨A0,R0,Q0⟩:=bJ w (.cells #[.int .i64 sd,.float .f64 dt,.float .f64 gr,.float .f64 dr,.int .i64 lim,.bool rv,.slice pr lr cr] 25) (.cells #[.slice pb lb cb,.slice pw lw cw,.slice pt lt ct,.slice ps ls cs,.int .i64 sky,.int .i64 st] 29)
 go_enter func3,ntmps3
 go_upto_region 1 with fail
 generalize hW:World.alloc (World.alloc w _) _=V0 at*
 obtain⟨ga,hga⟩:=aD w.heap.size
 obtain⟨gq,hgq⟩:=aD (w.heap.size+1)
 have HGQ:Hid (w.heap.size<=ga/\w.heap.size<=gq):=by show _/\_;omega
 rw[hgq]at Q0 ⊢
 rw[hga]at R0 ⊢
 clear hga hgq hW
 go_wp2_with fail
 refine(LV.out V0 A0.out).mono ?_
 rintro e9 v1 ⟨rfl,b1⟩
 have A1:Hid (Ab w v1):=A0.out.trans b1
 have R1:=hid (Ab.heap b1 R0.out)
 have Q1:=hid (Ab.heap b1 Q0.out)
 clear b1 A0 R0 Q0 LV
 have x0:=aJ R1.out
 have y0:=aE Q1.out
 go_wp2_with fail
 refine(GD.out v1 A1.out).mono ?_
 rintro e9 v2 ⟨rfl,b2⟩
 have A2:Hid (Ab w v2):=A1.out.trans b2
 have R2:=hid (Ab.heap b2 R1.out)
 have Q2:=hid (Ab.heap b2 Q1.out)
 clear b2 A1 R1 Q1 GD x0 y0
 have x0:=aJ R2.out
 go_wp2_with fail
 refine(CP.out v2 A2.out).mono ?_
 rintro e9 v3 ⟨rfl,b3⟩
 have A3:Hid (Ab w v3):=A2.out.trans b3
 have R3:=hid (Ab.heap b3 R2.out)
 have Q3:=hid (Ab.heap b3 Q2.out)
 clear A2 R2 Q2
 clear b3 x0
 have x0:=aJ R3.out
 go_wp2_with fail
 refine(NW.out v3 A3.out).mono ?_
 rintro e9 v4 ⟨rfl,b4⟩
 have A4:Hid (Ab w v4):=A3.out.trans b4
 have R4:=hid (Ab.heap b4 R3.out)
 have Q4:=hid (Ab.heap b4 Q3.out)
 clear A3 R3 Q3
 clear b4 x0
 go_wp2
 go_ret
 exact⟨rfl,A4.out⟩
theorem Bx(n:Nat)(sd:Int)(dt gr dr:Nat)(lim:Int)(rv:Bool)(pr:Option Addr)(lr cr:Nat)(pb:Option Addr)(lb cb:Nat)(pw:Option Addr)(lw cw:Nat)(pt:Option Addr)(lt ct:Nat)(ps:Option Addr)(ls cs:Nat)(sky st:Int)(pe:Int)(w:World)(h0:(pe==0)=false)
  (LV:Hid (∀v,Ab w v->Calls prog 9 #[] v fun e w'=>e=.returned (.bool true)/\Below v.heap.size v w'))
  (GD:Hid (∀v,Ab w v->Calls prog 10 #[.agg #[.int .i64 sd,.float .f64 dt,.float .f64 gr,.float .f64 dr,.int .i64 lim,.bool rv,.slice pr lr cr],.agg #[.slice pb lb cb,.slice pw lw cw,.slice pt lt ct,.slice ps ls cs,.int .i64 sky,.int .i64 st]] v fun e w'=>e=.returned (.tuple #[.pointer none,.bool false])/\Below v.heap.size v w'))
  (CP:Hid (∀v,Ab w v->Calls prog 11 #[.agg #[.int .i64 sd,.float .f64 dt,.float .f64 gr,.float .f64 dr,.int .i64 lim,.bool rv,.slice pr lr cr]] v fun e w'=>e=.returned (.int .i64 pe)/\Below v.heap.size v w'))
  (NW:Hid (∀v,Ab w v->Calls prog 13 #[.int .i64 sd] v fun e w'=> ∃gb,e=.returned (.tuple #[.pointer (some ⟨gb,0,none⟩),.int .i64 0])/\Below v.heap.size v w'/\GridOf n gb w'))
  (ON:Hid (∀v gb,Ab w v->GridOf n gb v->Calls prog 14 #[.pointer (some ⟨gb,0,none⟩),.agg #[.int .i64 sd,.float .f64 dt,.float .f64 gr,.float .f64 dr,.int .i64 lim,.bool rv,.slice pr lr cr],.agg #[.slice pb lb cb,.slice pw lw cw,.slice pt lt ct,.slice ps ls cs,.int .i64 sky,.int .i64 st]] v fun e w'=>e=.returned (.tuple #[.agg #[.slice none 0 0,.slice none 0 0,.slice none 0 0,.slice none 0 0,.int .i64 0,.int .i64 0],.int .i64 pe])/\Below v.heap.size v w')):
  Calls prog 3 #[.agg #[.int .i64 sd,.float .f64 dt,.float .f64 gr,.float .f64 dr,.int .i64 lim,.bool rv,.slice pr lr cr],.agg #[.slice pb lb cb,.slice pw lw cw,.slice pt lt ct,.slice ps ls cs,.int .i64 sky,.int .i64 st]] w fun e w'=>e=.returned (.bool true)/\Below w.heap.size w w':=by
 have ee:(pe==pe)=true:=by simp
 obtain⟨A0,R0,Q0⟩:=bJ w (.cells #[.int .i64 sd,.float .f64 dt,.float .f64 gr,.float .f64 dr,.int .i64 lim,.bool rv,.slice pr lr cr] 25) (.cells #[.slice pb lb cb,.slice pw lw cw,.slice pt lt ct,.slice ps ls cs,.int .i64 sky,.int .i64 st] 29)
 go_enter func3,ntmps3
 go_upto_region 1 with fail
 generalize hW:World.alloc (World.alloc w _) _=V0 at*
 obtain⟨ga,hga⟩:=aD w.heap.size
 obtain⟨gq,hgq⟩:=aD (w.heap.size+1)
 have HGQ:Hid (w.heap.size<=ga/\w.heap.size<=gq):=by show _/\_;omega
 rw[hgq]at Q0 ⊢
 rw[hga]at R0 ⊢
 clear hga hgq hW
 go_wp2_with fail
 refine(LV.out V0 A0.out).mono ?_
 rintro e9 v1 ⟨rfl,b1⟩
 have A1:Hid (Ab w v1):=A0.out.trans b1
 have R1:=hid (Ab.heap b1 R0.out)
 have Q1:=hid (Ab.heap b1 Q0.out)
 clear b1 A0 R0 Q0 LV
 have x0:=aJ R1.out
 have y0:=aE Q1.out
 go_wp2_with fail
 refine(GD.out v1 A1.out).mono ?_
 rintro e9 v2 ⟨rfl,b2⟩
 have A2:Hid (Ab w v2):=A1.out.trans b2
 have R2:=hid (Ab.heap b2 R1.out)
 have Q2:=hid (Ab.heap b2 Q1.out)
 clear b2 A1 R1 Q1 GD x0 y0
 have x0:=aJ R2.out
 go_wp2_with fail
 refine(CP.out v2 A2.out).mono ?_
 rintro e9 v3 ⟨rfl,b3⟩
 have A3:Hid (Ab w v3):=A2.out.trans b3
 have R3:=hid (Ab.heap b3 R2.out)
 have Q3:=hid (Ab.heap b3 Q2.out)
 clear A2 R2 Q2
 clear b3 x0
 have x0:=aJ R3.out
 go_wp2_with fail
 refine(NW.out v3 A3.out).mono ?_
 rintro e9 v4 ⟨gb,rfl,b4,g4⟩
 have G4:=hid g4
 have A4:Hid (Ab w v4):=A3.out.trans b4
 have R4:=hid (Ab.heap b4 R3.out)
 have Q4:=hid (Ab.heap b4 Q3.out)
 clear A3 R3 Q3
 clear b4 g4 x0
 have x0:=aJ R4.out
 have y0:=aE Q4.out
 go_wp2_with fail
 refine(ON.out v4 gb A4.out G4.out).mono ?_
 rintro e9 v5 ⟨rfl,b5⟩
 have A5:Hid (Ab w v5):=A4.out.trans b5
 clear b5 x0 y0
 go_wp2
 go_ret
 exact⟨rfl,A5.out.trans (bl1 _ _)⟩
theorem Bz(n:Nat)(sd:Int)(dt gr dr:Nat)(lim:Int)(rv:Bool)(pr:Option Addr)(lr cr:Nat)(pb:Option Addr)(lb cb:Nat)(pw:Option Addr)(lw cw:Nat)(pt:Option Addr)(lt ct:Nat)(ps:Option Addr)(ls cs:Nat)(sky st:Int)(pe ca ce:Int)(w:World)(h0:(pe==0)=true)
  (LV:Hid (∀v,Ab w v->Calls prog 9 #[] v fun e w'=>e=.returned (.bool true)/\Below v.heap.size v w'))
  (GD:Hid (∀v,Ab w v->Calls prog 10 #[.agg #[.int .i64 sd,.float .f64 dt,.float .f64 gr,.float .f64 dr,.int .i64 lim,.bool rv,.slice pr lr cr],.agg #[.slice pb lb cb,.slice pw lw cw,.slice pt lt ct,.slice ps ls cs,.int .i64 sky,.int .i64 st]] v fun e w'=>e=.returned (.tuple #[.pointer none,.bool false])/\Below v.heap.size v w'))
  (CP:Hid (∀v,Ab w v->Calls prog 11 #[.agg #[.int .i64 sd,.float .f64 dt,.float .f64 gr,.float .f64 dr,.int .i64 lim,.bool rv,.slice pr lr cr]] v fun e w'=>e=.returned (.int .i64 pe)/\Below v.heap.size v w'))
  (CC:Hid (∀v,Ab w v->Calls prog 12 #[.int .i64 sd,.agg #[.slice pb lb cb,.slice pw lw cw,.slice pt lt ct,.slice ps ls cs,.int .i64 sky,.int .i64 st]] v fun e w'=>e=.returned (.tuple #[.int .i64 ca,.int .i64 ce])/\Below v.heap.size v w'))
  (NW:Hid (∀v,Ab w v->Calls prog 13 #[.int .i64 sd] v fun e w'=> ∃gb,e=.returned (.tuple #[.pointer (some ⟨gb,0,none⟩),.int .i64 0])/\Below v.heap.size v w'/\GridOf n gb w'))
  (ON:Hid (∀v gb,Ab w v->GridOf n gb v->Calls prog 14 #[.pointer (some ⟨gb,0,none⟩),.agg #[.int .i64 sd,.float .f64 dt,.float .f64 gr,.float .f64 dr,.int .i64 lim,.bool rv,.slice pr lr cr],.agg #[.slice pb lb cb,.slice pw lw cw,.slice pt lt ct,.slice ps ls cs,.int .i64 sky,.int .i64 st]] v fun e w'=>e=.returned (.tuple #[.agg #[.slice none 0 0,.slice none 0 0,.slice none 0 0,.slice none 0 0,.int .i64 0,.int .i64 0],.int .i64 ce])/\Below v.heap.size v w')):
  Calls prog 3 #[.agg #[.int .i64 sd,.float .f64 dt,.float .f64 gr,.float .f64 dr,.int .i64 lim,.bool rv,.slice pr lr cr],.agg #[.slice pb lb cb,.slice pw lw cw,.slice pt lt ct,.slice ps ls cs,.int .i64 sky,.int .i64 st]] w fun e w'=>e=.returned (.bool true)/\Below w.heap.size w w':=by
 have ee:(ce==ce)=true:=by simp
 obtain⟨A0,R0,Q0⟩:=bJ w (.cells #[.int .i64 sd,.float .f64 dt,.float .f64 gr,.float .f64 dr,.int .i64 lim,.bool rv,.slice pr lr cr] 25) (.cells #[.slice pb lb cb,.slice pw lw cw,.slice pt lt ct,.slice ps ls cs,.int .i64 sky,.int .i64 st] 29)
 go_enter func3,ntmps3
 go_upto_region 1 with fail
 generalize hW:World.alloc (World.alloc w _) _=V0 at*
 obtain⟨ga,hga⟩:=aD w.heap.size
 obtain⟨gq,hgq⟩:=aD (w.heap.size+1)
 have HGQ:Hid (w.heap.size<=ga/\w.heap.size<=gq):=by show _/\_;omega
 rw[hgq]at Q0 ⊢
 rw[hga]at R0 ⊢
 clear hga hgq hW
 go_wp2_with fail
 refine(LV.out V0 A0.out).mono ?_
 rintro e9 v1 ⟨rfl,b1⟩
 have A1:Hid (Ab w v1):=A0.out.trans b1
 have R1:=hid (Ab.heap b1 R0.out)
 have Q1:=hid (Ab.heap b1 Q0.out)
 clear b1 A0 R0 Q0 LV
 have x0:=aJ R1.out
 have y0:=aE Q1.out
 go_wp2_with fail
 refine(GD.out v1 A1.out).mono ?_
 rintro e9 v2 ⟨rfl,b2⟩
 have A2:Hid (Ab w v2):=A1.out.trans b2
 have R2:=hid (Ab.heap b2 R1.out)
 have Q2:=hid (Ab.heap b2 Q1.out)
 clear b2 A1 R1 Q1 GD x0 y0
 have x0:=aJ R2.out
 go_wp2_with fail
 refine(CP.out v2 A2.out).mono ?_
 rintro e9 v3 ⟨rfl,b3⟩
 have A3:Hid (Ab w v3):=A2.out.trans b3
 have R3:=hid (Ab.heap b3 R2.out)
 have Q3:=hid (Ab.heap b3 Q2.out)
 clear A2 R2 Q2
 clear b3 x0
 have x0:=aJ R3.out
 have y0:=aE Q3.out
 go_wp2_with fail
 refine(CC.out v3 A3.out).mono ?_
 rintro e9 v4 ⟨rfl,b4⟩
 have A4:Hid (Ab w v4):=A3.out.trans b4
 have R4:=hid (Ab.heap b4 R3.out)
 have Q4:=hid (Ab.heap b4 Q3.out)
 clear A3 R3 Q3
 clear b4 x0 y0
 have x0:=aJ R4.out
 go_wp2_with fail
 refine(NW.out v4 A4.out).mono ?_
 rintro e9 v5 ⟨gb,rfl,b5,g5⟩
 have G5:=hid g5
 have A5:Hid (Ab w v5):=A4.out.trans b5
 have R5:=hid (Ab.heap b5 R4.out)
 have Q5:=hid (Ab.heap b5 Q4.out)
 clear A4 R4 Q4
 clear b5 g5 x0
 have x0:=aJ R5.out
 have y0:=aE Q5.out
 go_wp2_with fail
 refine(ON.out v5 gb A5.out G5.out).mono ?_
 rintro e9 v6 ⟨rfl,b6⟩
 have A6:Hid (Ab w v6):=A5.out.trans b6
 clear b6 x0 y0
 go_wp2
 go_ret
 exact⟨rfl,A6.out.trans (bl1 _ _)⟩
theorem FO(n:Nat)(sd:Int)(dt gr dr:Nat)(lim:Int)(rv:Bool)(pr:Option Addr)(lr cr:Nat)(pb:Option Addr)(lb cb:Nat)(B:Nat->Nat)(pw:Option Addr)(lw cw:Nat)(pt:Option Addr)(lt ct:Nat)(ps:Option Addr)(ls cs:Nat)(sky st:Int)(F2 F3:Nat->Int)(F4:Nat->Nat)(sk1 st1 a1 a2 a3:Int)(w:World)(k2:0<=a2+sky/\a2+sky<=9007199254740992)(eW:a1+sk1=a2+sky)(hs:0<=st/\st<4611686018427387904)(h1:st1=st+1)
  (LV:Hid (∀v,Ab w v->Calls prog 9 #[] v fun e w'=>e=.returned (.bool true)/\Below v.heap.size v w'))
  (GD:Hid (∀v,Ab w v->Calls prog 10 #[.agg #[.int .i64 sd,.float .f64 dt,.float .f64 gr,.float .f64 dr,.int .i64 lim,.bool rv,.slice pr lr cr],.agg #[.slice pb lb cb,.slice pw lw cw,.slice pt lt ct,.slice ps ls cs,.int .i64 sky,.int .i64 st]] v fun e w'=> ∃gb,e=.returned (.tuple #[.pointer (some ⟨gb,0,none⟩),.bool true])/\Below v.heap.size v w'/\GridOf n gb w'))
  (ON:Hid (∀v gb,Ab w v->GridOf n gb v->Calls prog 14 #[.pointer (some ⟨gb,0,none⟩),.agg #[.int .i64 sd,.float .f64 dt,.float .f64 gr,.float .f64 dr,.int .i64 lim,.bool rv,.slice pr lr cr],.agg #[.slice pb lb cb,.slice pw lw cw,.slice pt lt ct,.slice ps ls cs,.int .i64 sky,.int .i64 st]] v fun e w'=> ∃vv,e=.returned (.tuple #[vv,.int .i64 0])/\Below v.heap.size v w'/\OwnS v.heap.size vv lb lw lt ls B F2 F3 F4 sk1 st1 w'))
  (CC:Hid (∀v p1 c1 p2 c2 p3 c3 p4 c4,Ab w v->IsFl v p1 lb B->Sh.IsI v p2 lw F2->Sh.IsI v p3 lt F3->IsFl v p4 ls F4->Calls prog 12 #[.int .i64 sd,.agg #[.slice p1 lb c1,.slice p2 lw c2,.slice p3 lt c3,.slice p4 ls c4,.int .i64 sk1,.int .i64 st1]] v fun e w'=>e=.returned (.tuple #[.int .i64 0,.int .i64 0])/\Below v.heap.size v w'))
  (T1:Hid (∀v p c,Sh.IsI v p lw F2->Calls prog 15 #[.slice p lw c] v fun e w'=>e=.returned (.int .i64 a1)/\Below v.heap.size v w'))
  (T2:Hid (∀v,Ab w v->Calls prog 15 #[.slice pw lw cw] v fun e w'=>e=.returned (.int .i64 a2)/\Below v.heap.size v w'))
  (T3:Hid (∀v p c,Sh.IsI v p lt F3->Calls prog 15 #[.slice p lt c] v fun e w'=>e=.returned (.int .i64 a3)/\Below v.heap.size v w'))
  (T4:Hid (∀v,Ab w v->Calls prog 15 #[.slice pt lt ct] v fun e w'=>e=.returned (.int .i64 a3)/\Below v.heap.size v w'))
  (AL:Hid (∀v p c,Ab w v->IsFl v p lb B->Calls prog 16 #[.slice p lb c,.slice pb lb cb] v fun e w'=>e=.returned (.bool true)/\Below v.heap.size v w'))
  (BT:Hid (Bnd lb lw lt ls B F2 F3 F4)):
  Calls prog 3 #[.agg #[.int .i64 sd,.float .f64 dt,.float .f64 gr,.float .f64 dr,.int .i64 lim,.bool rv,.slice pr lr cr],.agg #[.slice pb lb cb,.slice pw lw cw,.slice pt lt ct,.slice ps ls cs,.int .i64 sky,.int .i64 st]] w fun e w'=>e=.returned (.bool true)/\Below w.heap.size w w':=by
 have eB:((a1+sk1)==(a2+sky))=true:=by rw[eW];simp
 have k3: -9223372036854775808<=a1+sk1:=by omega
 have k4:a1+sk1<=9223372036854775807:=by omega
 have k5: -9223372036854775808<=a2+sky:=by omega
 have k6:a2+sky<=9223372036854775807:=by omega
 subst h1
 have s1: -9223372036854775808<=st+1:=by omega
 have s2:st+1<=9223372036854775807:=by omega
 have s3:(st==4611686018427387904)=false:=by simp;omega
 have s4:(st+1==st+1)=true:=by simp
 clear eW k2 hs
 obtain⟨A0,R0,Q0⟩:=bJ w (.cells #[.int .i64 sd,.float .f64 dt,.float .f64 gr,.float .f64 dr,.int .i64 lim,.bool rv,.slice pr lr cr] 25) (.cells #[.slice pb lb cb,.slice pw lw cw,.slice pt lt ct,.slice ps ls cs,.int .i64 sky,.int .i64 st] 29)
 go_enter func3,ntmps3
 go_upto_region 1 with fail
 generalize hW:World.alloc (World.alloc w _) _=V0 at*
 obtain⟨ga,hga⟩:=aD w.heap.size
 obtain⟨gq,hgq⟩:=aD (w.heap.size+1)
 have HGQ:Hid (w.heap.size<=ga/\w.heap.size<=gq):=by show _/\_;omega
 rw[hgq]at Q0 ⊢
 rw[hga]at R0 ⊢
 clear hga hgq hW
 go_wp2_with fail
 refine(LV.out V0 A0.out).mono ?_
 rintro e9 v1 ⟨rfl,b1⟩
 have A1:Hid (Ab w v1):=A0.out.trans b1
 have R1:=hid (Ab.heap b1 R0.out)
 have Q1:=hid (Ab.heap b1 Q0.out)
 clear b1 A0 R0 Q0 LV
 have x0:=aJ R1.out
 obtain⟨y0,y1,y2,y3,y4,y5⟩:=aE Q1.out
 go_wp2_with fail
 refine(GD.out v1 A1.out).mono ?_
 rintro e9 v2 ⟨gb,rfl,b2,g2⟩
 have G2:=hid g2
 clear g2
 have A2:Hid (Ab w v2):=A1.out.trans b2
 have R2:=hid (Ab.heap b2 R1.out)
 have Q2:=hid (Ab.heap b2 Q1.out)
 clear b2 A1 R1 Q1 GD x0 y0 y1 y2 y3 y4 y5
 have x0:=aJ R2.out
 obtain⟨y0,y1,y2,y3,y4,y5⟩:=aE Q2.out
 go_wp2_with fail
 refine(ON.out v2 gb A2.out G2.out).mono ?_
 rintro e9 u3 ⟨vv,rfl,b3,os⟩
 obtain⟨tp1,tc1,tp2,tc2,tp3,tc3,tp4,tc4,rfl,sn⟩:=wH os BT.out
 have BB:Hid (Ab v2 (u3.alloc (.cells #[.slice tp1 lb tc1,.slice tp2 lw tc2,.slice tp3 lt tc3,.slice tp4 ls tc4,.int .i64 sk1,.int .i64 (st+1)] 29))):=(show Ab v2 u3 from b3).trans (bl1 _ _)
 have St3:Hid (SeaP u3.heap.size tp1 tc1 tp2 tc2 tp3 tc3 tp4 tc4 lb lw lt ls B F2 F3 F4 sk1 (st+1) (u3.alloc (.cells #[.slice tp1 lb tc1,.slice tp2 lw tc2,.slice tp3 lt tc3,.slice tp4 ls tc4,.int .i64 sk1,.int .i64 (st+1)] 29))):=⟨sn.1,sn.2.1⟩
 clear os sn b3 x0 y0 y1 y2 y3 y4 y5
 go_upto_region 14 with fail
 generalize hW:World.alloc u3 _=v3 at*
 obtain⟨gt,hg⟩:=aD u3.heap.size
 rw[hg]at St3 ⊢
 clear hg hW
 have A3:Hid (Ab w v3):=A2.out.trans BB.out
 have R3:=hid (Ab.heap BB.out R2.out)
 have Q3:=hid (Ab.heap BB.out Q2.out)
 have G3:=hid (G2.out.to BB.out)
 clear A2 R2 Q2 G2
 clear BB
 have x0:=aJ R3.out
 obtain⟨y0,y1,y2,y3,y4,y5⟩:=aE St3.out.1
 go_wp2_with fail
 refine(CC.out v3 tp1 tc1 tp2 tc2 tp3 tc3 tp4 tc4 A3.out St3.out.2.1 St3.out.2.2.1 St3.out.2.2.2.1 St3.out.2.2.2.2).mono ?_
 rintro e9 v4 ⟨rfl,b4⟩
 have A4:Hid (Ab w v4):=A3.out.trans b4
 have R4:=hid (Ab.heap b4 R3.out)
 have Q4:=hid (Ab.heap b4 Q3.out)
 have G4:=hid (G3.out.to b4)
 have St4:=hid (Ef St3.out b4)
 clear A3 R3 Q3 G3 St3
 clear b4 x0 y0 y1 y2 y3 y4 y5
 obtain⟨y0,y1,y2,y3,y4,y5⟩:=aE Q4.out
 go_upto_region 20 with fail
 clear y0 y1 y2 y3 y4 y5
 obtain⟨UU,E,hF1,hF2⟩:=cls v4
 have HU:=hid hF2
 have HU1:=hid hF1
 have y0: ∀u,(E u).cell? ⟨gt,0,none⟩=some (.slice tp1 lb tc1):=fun u=>aA 0 ((hF1 u).heap St4.out.1)
 have y1: ∀u,(E u).cell? ⟨gt,1,none⟩=some (.slice tp2 lw tc2):=fun u=>aA 1 ((hF1 u).heap St4.out.1)
 have y2: ∀u,(E u).cell? ⟨gt,2,none⟩=some (.slice tp3 lt tc3):=fun u=>aA 2 ((hF1 u).heap St4.out.1)
 have y3: ∀u,(E u).cell? ⟨gt,3,none⟩=some (.slice tp4 ls tc4):=fun u=>aA 3 ((hF1 u).heap St4.out.1)
 have y4: ∀u,(E u).cell? ⟨gt,4,none⟩=some (.int .i64 sk1):=fun u=>aA 4 ((hF1 u).heap St4.out.1)
 have y5: ∀u,(E u).cell? ⟨gt,5,none⟩=some (.int .i64 (st+1)):=fun u=>aA 5 ((hF1 u).heap St4.out.1)
 have z0: ∀u,(E u).cell? ⟨gq,0,none⟩=some (.slice pb lb cb):=fun u=>aA 0 ((hF1 u).heap Q4.out)
 have z1: ∀u,(E u).cell? ⟨gq,1,none⟩=some (.slice pw lw cw):=fun u=>aA 1 ((hF1 u).heap Q4.out)
 have z2: ∀u,(E u).cell? ⟨gq,2,none⟩=some (.slice pt lt ct):=fun u=>aA 2 ((hF1 u).heap Q4.out)
 have z3: ∀u,(E u).cell? ⟨gq,3,none⟩=some (.slice ps ls cs):=fun u=>aA 3 ((hF1 u).heap Q4.out)
 have z4: ∀u,(E u).cell? ⟨gq,4,none⟩=some (.int .i64 sky):=fun u=>aA 4 ((hF1 u).heap Q4.out)
 have z5: ∀u,(E u).cell? ⟨gq,5,none⟩=some (.int .i64 st):=fun u=>aA 5 ((hF1 u).heap Q4.out)
 have D1:Hid (∀u,Calls prog 15 #[.slice tp2 lw tc2] (E u) fun e w'=>e=.returned (.int .i64 a1)/\Below (E u).heap.size (E u) w'):=fun u=>T1.out _ _ _ (St4.out.2.2.1.below (hF1 u))
 have D2:Hid (∀u,Calls prog 15 #[.slice pw lw cw] (E u) fun e w'=>e=.returned (.int .i64 a2)/\Below (E u).heap.size (E u) w'):=fun u=>T2.out _ (A4.out.trans (hF1 u))
 have D3:Hid (∀u,Calls prog 15 #[.slice tp3 lt tc3] (E u) fun e w'=>e=.returned (.int .i64 a3)/\Below (E u).heap.size (E u) w'):=fun u=>T3.out _ _ _ (St4.out.2.2.2.1.below (hF1 u))
 have D4:Hid (∀u,Calls prog 15 #[.slice pt lt ct] (E u) fun e w'=>e=.returned (.int .i64 a3)/\Below (E u).heap.size (E u) w'):=fun u=>T4.out _ (A4.out.trans (hF1 u))
 have D5:Hid (∀u,Calls prog 16 #[.slice tp1 lb tc1,.slice pb lb cb] (E u) fun e w'=>e=.returned (.bool true)/\Below (E u).heap.size (E u) w'):=fun u=>AL.out _ _ _ (A4.out.trans (hF1 u)) (St4.out.2.1.below (hF1 u))
 have a33:(a3==a3)=true:=by simp
 have DD0:=HU.out _ (Ab.refl v4).drew
 clear hF1 hF2
 refine aK E (by kernel_rfl) (by kernel_rfl) DD0 ?_
 repeat(go_big_quiet_step (first
  | (go_at_call_of 15 (Value.slice tp2 lw tc2);exact aH HU HU1 (D1.out _))
  | (go_at_call_of 15 (Value.slice pw lw cw);exact aH HU HU1 (D2.out _))
  | (go_at_call_of 15 (Value.slice tp3 lt tc3);exact aH HU HU1 (D3.out _))
  | (go_at_call_of 15 (Value.slice pt lt ct);exact aH HU HU1 (D4.out _))
  | (go_at_call 16;exact aH HU HU1 (D5.out _))
  | (with_reducible rfl)))
 refine wpQuiet_nil ?_
 intro z9 hwz
 obtain⟨u0,hu⟩:=hwz
 have A9:Hid (Ab v4 z9):=by rw[hu];exact HU1.out u0
 clear hu u0
 clear HU HU1 DD0 D1 D2 D3 D4 D5 y0 y1 y2 y3 y4 y5 z0 z1 z2 z3 z4 z5
 clear E UU
 go_wp2
 go_ret
 exact⟨rfl,A4.out.trans A9.out⟩
theorem FP(n:Nat)(sd:Int)(dt gr dr:Nat)(lim:Int)(rv:Bool)(pr:Option Addr)(lr cr:Nat)(pb:Option Addr)(lb cb:Nat)(B:Nat->Nat)(pw:Option Addr)(lw cw:Nat)(pt:Option Addr)(lt ct:Nat)(ps:Option Addr)(ls cs:Nat)(sky st:Int)(F2 F3:Nat->Int)(F4:Nat->Nat)(sk1 st1 a1 a2 a3:Int)(w:World)(k2:0<=a2+sky/\a2+sky<=9007199254740992)(eW:a1+sk1=a2+sky)(hs:st=4611686018427387904)(h1:st1=st)
  (LV:Hid (∀v,Ab w v->Calls prog 9 #[] v fun e w'=>e=.returned (.bool true)/\Below v.heap.size v w'))
  (GD:Hid (∀v,Ab w v->Calls prog 10 #[.agg #[.int .i64 sd,.float .f64 dt,.float .f64 gr,.float .f64 dr,.int .i64 lim,.bool rv,.slice pr lr cr],.agg #[.slice pb lb cb,.slice pw lw cw,.slice pt lt ct,.slice ps ls cs,.int .i64 sky,.int .i64 st]] v fun e w'=> ∃gb,e=.returned (.tuple #[.pointer (some ⟨gb,0,none⟩),.bool true])/\Below v.heap.size v w'/\GridOf n gb w'))
  (ON:Hid (∀v gb,Ab w v->GridOf n gb v->Calls prog 14 #[.pointer (some ⟨gb,0,none⟩),.agg #[.int .i64 sd,.float .f64 dt,.float .f64 gr,.float .f64 dr,.int .i64 lim,.bool rv,.slice pr lr cr],.agg #[.slice pb lb cb,.slice pw lw cw,.slice pt lt ct,.slice ps ls cs,.int .i64 sky,.int .i64 st]] v fun e w'=> ∃vv,e=.returned (.tuple #[vv,.int .i64 0])/\Below v.heap.size v w'/\OwnS v.heap.size vv lb lw lt ls B F2 F3 F4 sk1 st1 w'))
  (CC:Hid (∀v p1 c1 p2 c2 p3 c3 p4 c4,Ab w v->IsFl v p1 lb B->Sh.IsI v p2 lw F2->Sh.IsI v p3 lt F3->IsFl v p4 ls F4->Calls prog 12 #[.int .i64 sd,.agg #[.slice p1 lb c1,.slice p2 lw c2,.slice p3 lt c3,.slice p4 ls c4,.int .i64 sk1,.int .i64 st1]] v fun e w'=>e=.returned (.tuple #[.int .i64 0,.int .i64 0])/\Below v.heap.size v w'))
  (T1:Hid (∀v p c,Sh.IsI v p lw F2->Calls prog 15 #[.slice p lw c] v fun e w'=>e=.returned (.int .i64 a1)/\Below v.heap.size v w'))
  (T2:Hid (∀v,Ab w v->Calls prog 15 #[.slice pw lw cw] v fun e w'=>e=.returned (.int .i64 a2)/\Below v.heap.size v w'))
  (T3:Hid (∀v p c,Sh.IsI v p lt F3->Calls prog 15 #[.slice p lt c] v fun e w'=>e=.returned (.int .i64 a3)/\Below v.heap.size v w'))
  (T4:Hid (∀v,Ab w v->Calls prog 15 #[.slice pt lt ct] v fun e w'=>e=.returned (.int .i64 a3)/\Below v.heap.size v w'))
  (AL:Hid (∀v p c,Ab w v->IsFl v p lb B->Calls prog 16 #[.slice p lb c,.slice pb lb cb] v fun e w'=>e=.returned (.bool true)/\Below v.heap.size v w'))
  (BT:Hid (Bnd lb lw lt ls B F2 F3 F4)):
  Calls prog 3 #[.agg #[.int .i64 sd,.float .f64 dt,.float .f64 gr,.float .f64 dr,.int .i64 lim,.bool rv,.slice pr lr cr],.agg #[.slice pb lb cb,.slice pw lw cw,.slice pt lt ct,.slice ps ls cs,.int .i64 sky,.int .i64 st]] w fun e w'=>e=.returned (.bool true)/\Below w.heap.size w w':=by
 have eB:((a1+sk1)==(a2+sky))=true:=by rw[eW];simp
 have k3: -9223372036854775808<=a1+sk1:=by omega
 have k4:a1+sk1<=9223372036854775807:=by omega
 have k5: -9223372036854775808<=a2+sky:=by omega
 have k6:a2+sky<=9223372036854775807:=by omega
 subst h1
 have s1: -9223372036854775808<=st1+1:=by omega
 have s2:st1+1<=9223372036854775807:=by omega
 have s3:(st1==4611686018427387904)=true:=by simpa using hs
 have s4:(st1==st1)=true:=by simp
 clear hs
 clear eW k2
 obtain⟨A0,R0,Q0⟩:=bJ w (.cells #[.int .i64 sd,.float .f64 dt,.float .f64 gr,.float .f64 dr,.int .i64 lim,.bool rv,.slice pr lr cr] 25) (.cells #[.slice pb lb cb,.slice pw lw cw,.slice pt lt ct,.slice ps ls cs,.int .i64 sky,.int .i64 st1] 29)
 go_enter func3,ntmps3
 go_upto_region 1 with fail
 generalize hW:World.alloc (World.alloc w _) _=V0 at*
 obtain⟨ga,hga⟩:=aD w.heap.size
 obtain⟨gq,hgq⟩:=aD (w.heap.size+1)
 have HGQ:Hid (w.heap.size<=ga/\w.heap.size<=gq):=by show _/\_;omega
 rw[hgq]at Q0 ⊢
 rw[hga]at R0 ⊢
 clear hga hgq hW
 go_wp2_with fail
 refine(LV.out V0 A0.out).mono ?_
 rintro e9 v1 ⟨rfl,b1⟩
 have A1:Hid (Ab w v1):=A0.out.trans b1
 have R1:=hid (Ab.heap b1 R0.out)
 have Q1:=hid (Ab.heap b1 Q0.out)
 clear b1 A0 R0 Q0 LV
 have x0:=aJ R1.out
 obtain⟨y0,y1,y2,y3,y4,y5⟩:=aE Q1.out
 go_wp2_with fail
 refine(GD.out v1 A1.out).mono ?_
 rintro e9 v2 ⟨gb,rfl,b2,g2⟩
 have G2:=hid g2
 clear g2
 have A2:Hid (Ab w v2):=A1.out.trans b2
 have R2:=hid (Ab.heap b2 R1.out)
 have Q2:=hid (Ab.heap b2 Q1.out)
 clear b2 A1 R1 Q1 GD x0 y0 y1 y2 y3 y4 y5
 have x0:=aJ R2.out
 obtain⟨y0,y1,y2,y3,y4,y5⟩:=aE Q2.out
 go_wp2_with fail
 refine(ON.out v2 gb A2.out G2.out).mono ?_
 rintro e9 u3 ⟨vv,rfl,b3,os⟩
 obtain⟨tp1,tc1,tp2,tc2,tp3,tc3,tp4,tc4,rfl,sn⟩:=wH os BT.out
 have BB:Hid (Ab v2 (u3.alloc (.cells #[.slice tp1 lb tc1,.slice tp2 lw tc2,.slice tp3 lt tc3,.slice tp4 ls tc4,.int .i64 sk1,.int .i64 st1] 29))):=(show Ab v2 u3 from b3).trans (bl1 _ _)
 have St3:Hid (SeaP u3.heap.size tp1 tc1 tp2 tc2 tp3 tc3 tp4 tc4 lb lw lt ls B F2 F3 F4 sk1 st1 (u3.alloc (.cells #[.slice tp1 lb tc1,.slice tp2 lw tc2,.slice tp3 lt tc3,.slice tp4 ls tc4,.int .i64 sk1,.int .i64 st1] 29))):=⟨sn.1,sn.2.1⟩
 clear os sn b3 x0 y0 y1 y2 y3 y4 y5
 go_upto_region 14 with fail
 generalize hW:World.alloc u3 _=v3 at*
 obtain⟨gt,hg⟩:=aD u3.heap.size
 rw[hg]at St3 ⊢
 clear hg hW
 have A3:Hid (Ab w v3):=A2.out.trans BB.out
 have R3:=hid (Ab.heap BB.out R2.out)
 have Q3:=hid (Ab.heap BB.out Q2.out)
 have G3:=hid (G2.out.to BB.out)
 clear A2 R2 Q2 G2
 clear BB
 have x0:=aJ R3.out
 obtain⟨y0,y1,y2,y3,y4,y5⟩:=aE St3.out.1
 go_wp2_with fail
 refine(CC.out v3 tp1 tc1 tp2 tc2 tp3 tc3 tp4 tc4 A3.out St3.out.2.1 St3.out.2.2.1 St3.out.2.2.2.1 St3.out.2.2.2.2).mono ?_
 rintro e9 v4 ⟨rfl,b4⟩
 have A4:Hid (Ab w v4):=A3.out.trans b4
 have R4:=hid (Ab.heap b4 R3.out)
 have Q4:=hid (Ab.heap b4 Q3.out)
 have G4:=hid (G3.out.to b4)
 have St4:=hid (Ef St3.out b4)
 clear A3 R3 Q3 G3 St3
 clear b4 x0 y0 y1 y2 y3 y4 y5
 obtain⟨y0,y1,y2,y3,y4,y5⟩:=aE Q4.out
 go_upto_region 20 with fail
 clear y0 y1 y2 y3 y4 y5
 obtain⟨UU,E,hF1,hF2⟩:=cls v4
 have HU:=hid hF2
 have HU1:=hid hF1
 have y0: ∀u,(E u).cell? ⟨gt,0,none⟩=some (.slice tp1 lb tc1):=fun u=>aA 0 ((hF1 u).heap St4.out.1)
 have y1: ∀u,(E u).cell? ⟨gt,1,none⟩=some (.slice tp2 lw tc2):=fun u=>aA 1 ((hF1 u).heap St4.out.1)
 have y2: ∀u,(E u).cell? ⟨gt,2,none⟩=some (.slice tp3 lt tc3):=fun u=>aA 2 ((hF1 u).heap St4.out.1)
 have y3: ∀u,(E u).cell? ⟨gt,3,none⟩=some (.slice tp4 ls tc4):=fun u=>aA 3 ((hF1 u).heap St4.out.1)
 have y4: ∀u,(E u).cell? ⟨gt,4,none⟩=some (.int .i64 sk1):=fun u=>aA 4 ((hF1 u).heap St4.out.1)
 have y5: ∀u,(E u).cell? ⟨gt,5,none⟩=some (.int .i64 st1):=fun u=>aA 5 ((hF1 u).heap St4.out.1)
 have z0: ∀u,(E u).cell? ⟨gq,0,none⟩=some (.slice pb lb cb):=fun u=>aA 0 ((hF1 u).heap Q4.out)
 have z1: ∀u,(E u).cell? ⟨gq,1,none⟩=some (.slice pw lw cw):=fun u=>aA 1 ((hF1 u).heap Q4.out)
 have z2: ∀u,(E u).cell? ⟨gq,2,none⟩=some (.slice pt lt ct):=fun u=>aA 2 ((hF1 u).heap Q4.out)
 have z3: ∀u,(E u).cell? ⟨gq,3,none⟩=some (.slice ps ls cs):=fun u=>aA 3 ((hF1 u).heap Q4.out)
 have z4: ∀u,(E u).cell? ⟨gq,4,none⟩=some (.int .i64 sky):=fun u=>aA 4 ((hF1 u).heap Q4.out)
 have z5: ∀u,(E u).cell? ⟨gq,5,none⟩=some (.int .i64 st1):=fun u=>aA 5 ((hF1 u).heap Q4.out)
 have D1:Hid (∀u,Calls prog 15 #[.slice tp2 lw tc2] (E u) fun e w'=>e=.returned (.int .i64 a1)/\Below (E u).heap.size (E u) w'):=fun u=>T1.out _ _ _ (St4.out.2.2.1.below (hF1 u))
 have D2:Hid (∀u,Calls prog 15 #[.slice pw lw cw] (E u) fun e w'=>e=.returned (.int .i64 a2)/\Below (E u).heap.size (E u) w'):=fun u=>T2.out _ (A4.out.trans (hF1 u))
 have D3:Hid (∀u,Calls prog 15 #[.slice tp3 lt tc3] (E u) fun e w'=>e=.returned (.int .i64 a3)/\Below (E u).heap.size (E u) w'):=fun u=>T3.out _ _ _ (St4.out.2.2.2.1.below (hF1 u))
 have D4:Hid (∀u,Calls prog 15 #[.slice pt lt ct] (E u) fun e w'=>e=.returned (.int .i64 a3)/\Below (E u).heap.size (E u) w'):=fun u=>T4.out _ (A4.out.trans (hF1 u))
 have D5:Hid (∀u,Calls prog 16 #[.slice tp1 lb tc1,.slice pb lb cb] (E u) fun e w'=>e=.returned (.bool true)/\Below (E u).heap.size (E u) w'):=fun u=>AL.out _ _ _ (A4.out.trans (hF1 u)) (St4.out.2.1.below (hF1 u))
 have a33:(a3==a3)=true:=by simp
 have DD0:=HU.out _ (Ab.refl v4).drew
 clear hF1 hF2
 refine aK E (by kernel_rfl) (by kernel_rfl) DD0 ?_
 repeat(go_big_quiet_step (first
  | (go_at_call_of 15 (Value.slice tp2 lw tc2);exact aH HU HU1 (D1.out _))
  | (go_at_call_of 15 (Value.slice pw lw cw);exact aH HU HU1 (D2.out _))
  | (go_at_call_of 15 (Value.slice tp3 lt tc3);exact aH HU HU1 (D3.out _))
  | (go_at_call_of 15 (Value.slice pt lt ct);exact aH HU HU1 (D4.out _))
  | (go_at_call 16;exact aH HU HU1 (D5.out _))
  | (with_reducible rfl)))
 refine wpQuiet_nil ?_
 intro z9 hwz
 obtain⟨u0,hu⟩:=hwz
 have A9:Hid (Ab v4 z9):=by rw[hu];exact HU1.out u0
 clear hu u0
 clear HU HU1 DD0 D1 D2 D3 D4 D5 y0 y1 y2 y3 y4 y5 z0 z1 z2 z3 z4 z5
 clear E UU
 go_wp2
 go_ret
 exact⟨rfl,A4.out.trans A9.out⟩
theorem okV_W{n:Nat}{B:Nat->Nat}{W T:Nat->Int}{S:Nat->Nat}{sky st:Int}(h:okS n B W T S sky st):Rv.okV (6*n*n) W/\Rv.okV (6*n*n) T:=by
 obtain⟨⟨-,⟨k1,k2⟩,⟨w1,w2⟩,t,-⟩,-,-⟩:=h
 exact⟨⟨w1,by omega⟩,t⟩
theorem BA(OC:OneC)(FC:FlowC)(PB:PlanB)(CB:CheckB){sd:Int}{dt gr dr:Nat}{lim:Int}{rv:Bool}{pr:Option Addr}{lr cr:Nat}{R:Nat->Int × Int × Int × Int}{pb:Option Addr}{lb cb:Nat}{B:Nat->Nat}{pw:Option Addr}{lw cw:Nat}{W:Nat->Int}{pt:Option Addr}{lt ct:Nat}{T:Nat->Int}{ps:Option Addr}{ls cs:Nat}{S:Nat->Nat}{sky st:Int}(w:World)(hF:Fr w)(h64:Sh.W64 sd/\Sh.W64 lim/\Sh.W64 sky/\Sh.W64 st)(hf:dt<18446744073709551616/\gr<18446744073709551616/\dr<18446744073709551616)(hlr:lr<=281474976710656)(hl:(lb<=281474976710656/\lw<=281474976710656/\lt<=281474976710656/\ls<=281474976710656))(ir:Rn.IsRn w pr lr R)(i1:IsFl w pb lb B)(i2:Sh.IsI w pw lw W)(i3:Sh.IsI w pt lt T)(i4:IsFl w ps ls S):
  Calls prog 3 #[.agg #[.int .i64 sd,.float .f64 dt,.float .f64 gr,.float .f64 dr,.int .i64 lim,.bool rv,.slice pr lr cr],.agg #[.slice pb lb cb,.slice pw lw cw,.slice pt lt ct,.slice ps ls cs,.int .i64 sky,.int .i64 st]] w fun e w'=>e=.returned (.bool true)/\Below w.heap.size w w':=by
 have LV:=fun v (a:Ab w v)=>Bv (oneF_of OC) FC v (hF.to a)
 have GD:=fun v (a:Ab w v)=>FM PB CB sd dt gr dr lim rv pr lr cr R pb lb cb B pw lw cw W pt lt ct T ps ls cs S sky st v (hF.to a) h64 hf hlr hl (ir.below a) (i1.below a) (i2.below a) (i3.below a) (i4.below a)
 by_cases q:er2 sd dt gr dr lim lr R lb lw lt ls B W T S sky st=0
 ·have hlp:=hl
  obtain⟨sd32,pl0,ck0⟩:=er2_side q
  obtain⟨n,rfl⟩: ∃n:Nat,sd=(n:Nat):=⟨sd.toNat,by omega⟩
  have hn:1<=n/\n<=32:=by omega
  have er0:=Ea (n:=n) (sd:=(n:Nat)) rfl pl0 ck0
  obtain⟨-,-,-,⟨l1,l2,l3,l4⟩,oP,oS⟩:=er_ok er0 hf (fun i hi=>(i1 i hi).1) (fun i hi=>(i4 i hi).1)
  have p1:n*n<=32*32:=Nat.mul_le_mul hn.2 hn.2
  have p0:0<n*n:=Nat.mul_pos (by omega) (by omega)
  have q6:6*n*n=6*(n*n):=Nat.mul_assoc _ _ _
  have q12:12*n*n=12*(n*n):=Nat.mul_assoc _ _ _
  have GY:=fun v (a:Ab w v)=>(GD v a).1 q
  simp only[Int.toNat_natCast]at GY
  have ON:=fun v gb (a:Ab w v) (g:GridOf n gb v)=>(OC n gb n dt gr dr lim rv pr lr cr R pb lb cb B pw lw cw W pt lt ct T ps ls cs S sky st v hn g (hF.to a) h64 hf hlr hl (ir.below a) (i1.below a) (i2.below a) (i3.below a) (i4.below a)).1 er0
  have o1:=Bp (lim:=lim) (rv:=rv) oP oS
  have k:=ri_ok (lim:=lim) (rv:=rv) oP oS
  have v0:=okV_W oS
  have v1:=okV_W o1
  have bt:=wL o1
  subst l1
  rw[show 12*n*n=ls from l4.symm]at bt
  subst l2
  subst l3
  have cc:chk (n:Nat) (6*n*n) (6*n*n) (6*n*n) ls B (riX n lim gr dt dr rv lr R B W T S sky st).1 (riX n lim gr dt dr rv lr R B W T S sky st).2 (spE n gr dt dr B W S) (raX n lim gr dt dr lr R B W S sky st).2 (stN st)=(0,0):=yR (by omega) (by rw[Int.toNat_natCast];exact⟨rfl,rfl,rfl,by omega⟩) (by rw[Int.toNat_natCast];exact o1.1)
  have CC:=fun v p1 c1 p2 c2 p3 c3 p4 c4 (a:Ab w v) k1 k2 k3 k4=>CB (n:Nat) p1 (6*n*n) c1 B p2 (6*n*n) c2 (riX n lim gr dt dr rv lr R B W T S sky st).1 p3 (6*n*n) c3 (riX n lim gr dt dr rv lr R B W T S sky st).2 p4 ls c4 (spE n gr dt dr B W S) (raX n lim gr dt dr lr R B W S sky st).2 (stN st) v h64.1 (by have:=o1.1.2.1;unfold Sh.W64;omega) (by have:=o1.1.2.2.2.2.2;unfold Sh.W64;omega) hlp k1 k2 k3 k4
  rw[cc]at CC
  have T1:=fun v p c (h:Sh.IsI v p (6*n*n) (riX n lim gr dt dr rv lr R B W T S sky st).1)=>jJ p (6*n*n) c _ _ v (by omega) h v1.1 rfl
  have T2:=fun v (a:Ab w v)=>jJ pw (6*n*n) cw W _ v (by omega) (i2.below a) v0.1 rfl
  have T3:=fun v p c (h:Sh.IsI v p (6*n*n) (riX n lim gr dt dr rv lr R B W T S sky st).2)=>jJ p (6*n*n) c _ _ v (by omega) h v1.2 k.2.2
  have T4:=fun v (a:Ab w v)=>jJ pt (6*n*n) ct T _ v (by omega) (i3.below a) v0.2 rfl
  have AL: ∀v p c,Ab w v->IsFl v p (6*n*n) B->Calls prog 16 #[.slice p (6*n*n) c,.slice pb (6*n*n) cb] v fun e w'=>e=.returned (.bool true)/\Below v.heap.size v w':=fun v p c a h=>by
   have z:=Br p pb (6*n*n) c (6*n*n) cb B B v (by omega) (by omega) h (i1.below a)
   rw[hJ (fun _ _=>rfl)]at z
   exact z
  have sk:=oS.1.2.1
  have wn:=Sh.eD oS.1.2.2.1.1
  have ws:=oS.1.2.2.1.2
  have ts:=oS.1.2.2.2.2.2
  by_cases mx:st=4611686018427387904
  ·exact FP n n dt gr dr lim rv pr lr cr pb _ cb B pw _ cw pt _ ct ps ls cs sky st _ _ _ _ _ _ _ _ w (by omega) k.2.1 mx (by rw[mx];rfl) LV GY ON CC T1 T2 T3 T4 AL bt
  ·exact FO n n dt gr dr lim rv pr lr cr pb _ cb B pw _ cw pt _ ct ps ls cs sky st _ _ _ _ _ _ _ _ w (by omega) k.2.1 (by omega) (by unfold stN;rw[if_pos (by omega)]) LV GY ON CC T1 T2 T3 T4 AL bt
 ·have GN:=fun v (a:Ab w v)=>(GD v a).2 q
  have CP:=fun v (a:Ab w v)=>PB sd dt gr dr lim rv pr lr cr R v h64.1 h64.2.1 hf hlr (ir.below a)
  have CC:=fun v (a:Ab w v)=>CB sd pb lb cb B pw lw cw W pt lt ct T ps ls cs S sky st v h64.1 h64.2.2.1 h64.2.2.2 hl (i1.below a) (i2.below a) (i3.below a) (i4.below a)
  by_cases hs:1<=sd/\sd<=32
  ·obtain⟨n,rfl⟩: ∃n:Nat,sd=(n:Nat):=⟨sd.toNat,by omega⟩
   have hn:1<=n/\n<=32:=by omega
   have NW: ∀v,Ab w v->Calls prog 13 #[.int .i64 (n:Nat)] v fun e w'=> ∃gb,e=.returned (.tuple #[.pointer (some ⟨gb,0,none⟩),.int .i64 0])/\Below v.heap.size v w'/\GridOf n gb w':=fun v a=>(AX n v hn (hF.to a)).mono fun e w' h=>by
    obtain⟨gb,rfl,a1,-,g⟩:=h
    exact⟨gb,rfl,a1,g⟩
   have OZ:=fun v gb (a:Ab w v) (g:GridOf n gb v)=>(OC n gb n dt gr dr lim rv pr lr cr R pb lb cb B pw lw cw W pt lt ct T ps ls cs S sky st v hn g (hF.to a) h64 hf hlr hl (ir.below a) (i1.below a) (i2.below a) (i3.below a) (i4.below a)).2
   by_cases hp:plE (n:Nat) dt gr dr lim lr R=0
   ·have e1:erS n n dt gr dr lim lr R lb lw lt ls B W T S sky st=(chk (n:Nat) lb lw lt ls B W T S sky st).2:=by
     unfold erS
     rw[if_neg (fun z=>z rfl),if_neg (fun z=>z hp)]
    have c0:(chk (n:Nat) lb lw lt ls B W T S sky st).2≠0:=fun z=>q (by unfold er2;rw[if_neg (fun y=>y hp),z])
    have ON:=fun v gb a g=>OZ v gb a g (by rw[e1];exact c0)
    rw[e1]at ON
    exact Bz n n dt gr dr lim rv pr lr cr pb lb cb pw lw cw pt lt ct ps ls cs sky st _ _ _ w (by rw[hp];rfl) LV GN CP CC NW ON
   ·have e1:erS n n dt gr dr lim lr R lb lw lt ls B W T S sky st=plE (n:Nat) dt gr dr lim lr R:=by
     unfold erS
     rw[if_neg (fun z=>z rfl),if_pos hp]
    have ON:=fun v gb a g=>OZ v gb a g (by rw[e1];exact hp)
    rw[e1]at ON
    exact Bx n n dt gr dr lim rv pr lr cr pb lb cb pw lw cw pt lt ct ps ls cs sky st _ w (by simpa using hp) LV GN CP NW ON
  ·have e1:plE sd dt gr dr lim lr R=10:=by unfold plE;rw[if_pos hs]
   exact Bw sd dt gr dr lim rv pr lr cr pb lb cb pw lw cw pt lt ct ps ls cs sky st _ w (by rw[e1];rfl) e1 LV GN CP (fun v _=>(new_no sd v hs).mono fun e w' h=>⟨h.1,by rw[h.2];exact Below.refl _ _⟩)
end St
end
end Go.Proofs.YtaphajlpbgcfjaaGreatDoor
