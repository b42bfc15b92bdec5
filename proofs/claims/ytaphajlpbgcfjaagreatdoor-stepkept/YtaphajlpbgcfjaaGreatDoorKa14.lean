/-
  Some of the texts of this proof, one behind the other.
-/
import Derived.Test.YtaphajlpbgcfjaaGreatDoorKa13
set_option maxRecDepth 100000
set_option maxHeartbeats 400000000
namespace Go.Proofs.YtaphajlpbgcfjaaGreatDoor
open Tryz
section
open Go.RowKit Tf Cu Go.Deep
attribute [local go_sem]aM aN aQ aR aV aW aX aG
namespace St
open Ss Fc
theorem Fv{g:Nat}{p1:Option Addr}{c1:Nat}{p2:Option Addr}{c2:Nat}{p3:Option Addr}{c3:Nat}{p4:Option Addr}{c4:Nat}{n1 n2 n3 n4:Nat}{A:Nat->Nat}{B C:Nat->Int}{D:Nat->Nat}{sk st:Int}{v v':World}(h:SeaP g p1 c1 p2 c2 p3 c3 p4 c4 n1 n2 n3 n4 A B C D sk st v)(a:Ab v v'):SeaP g p1 c1 p2 c2 p3 c3 p4 c4 n1 n2 n3 n4 A B C D sk st v':=⟨Ab.heap a h.1,h.2.1.below a,h.2.2.1.below a,h.2.2.2.1.below a,h.2.2.2.2.below a⟩
theorem C6(sd:Int)(dt gr dr:Nat)(lim:Int)(rv:Bool)(pr:Option Addr)(lr cr:Nat)(pb:Option Addr)(lb cb:Nat)(pw:Option Addr)(lw cw:Nat)(pt:Option Addr)(lt ct:Nat)(ps:Option Addr)(ls cs:Nat)(sky st:Int)(pe:Int)(w:World)(h0:(pe==0)=false)(h1:pe=10)
  (LV:Hid(∀v,Ab w v->Calls prog 9 #[]v fun e w'=>e=.returned(.bool true)/\Below v.heap.size v w'))
  (GD:Hid(∀v,Ab w v->Calls prog 10 #[.agg #[.int .i64 sd,.float .f64 dt,.float .f64 gr,.float .f64 dr,.int .i64 lim,.bool rv,.slice pr lr cr],.agg #[.slice pb lb cb,.slice pw lw cw,.slice pt lt ct,.slice ps ls cs,.int .i64 sky,.int .i64 st]]v fun e w'=>e=.returned(.tuple #[.pointer none,.bool false])/\Below v.heap.size v w'))
  (CP:Hid(∀v,Ab w v->Calls prog 11 #[.agg #[.int .i64 sd,.float .f64 dt,.float .f64 gr,.float .f64 dr,.int .i64 lim,.bool rv,.slice pr lr cr]]v fun e w'=>e=.returned(.int .i64 pe)/\Below v.heap.size v w'))
  (NW:Hid(∀v,Ab w v->Calls prog 13 #[.int .i64 sd]v fun e w'=>e=.returned(.tuple #[.pointer none,.int .i64 10])/\Below v.heap.size v w')):
  Calls prog 3 #[.agg #[.int .i64 sd,.float .f64 dt,.float .f64 gr,.float .f64 dr,.int .i64 lim,.bool rv,.slice pr lr cr],.agg #[.slice pb lb cb,.slice pw lw cw,.slice pt lt ct,.slice ps ls cs,.int .i64 sky,.int .i64 st]]w fun e w'=>e=.returned(.bool true)/\Below w.heap.size w w':=by
 subst h1
 obtain⟨A0,R0,Q0⟩:=bO w(.cells #[.int .i64 sd,.float .f64 dt,.float .f64 gr,.float .f64 dr,.int .i64 lim,.bool rv,.slice pr lr cr]25)(.cells #[.slice pb lb cb,.slice pw lw cw,.slice pt lt ct,.slice ps ls cs,.int .i64 sky,.int .i64 st]29)
 go_enter func3,ntmps3
 go_upto_region 1 with fail
 generalize hW:World.alloc(World.alloc w _)_=V0 at*
 obtain⟨ga,hga⟩:=aD w.heap.size
 obtain⟨gq,hgq⟩:=aD(w.heap.size+1)
 have HGQ:Hid(w.heap.size<=ga/\w.heap.size<=gq):=by show _/\_;omega
 rw[hgq]at Q0 ⊢
 rw[hga]at R0 ⊢
 clear hga hgq hW
 go_wp2_with fail
 refine(LV.out V0 A0.out).mono ?_
 rintro e9 v1⟨rfl,b1⟩
 have A1:Hid(Ab w v1):=A0.out.trans b1
 have R1:=hid(Ab.heap b1 R0.out)
 have Q1:=hid(Ab.heap b1 Q0.out)
 clear b1 A0 R0 Q0 LV
 have x0:=aK R1.out
 have y0:=aE Q1.out
 go_wp2_with fail
 refine(GD.out v1 A1.out).mono ?_
 rintro e9 v2⟨rfl,b2⟩
 have A2:Hid(Ab w v2):=A1.out.trans b2
 have R2:=hid(Ab.heap b2 R1.out)
 have Q2:=hid(Ab.heap b2 Q1.out)
 clear b2 A1 R1 Q1 GD x0 y0
 have x0:=aK R2.out
 go_wp2_with fail
 refine(CP.out v2 A2.out).mono ?_
 rintro e9 v3⟨rfl,b3⟩
 have A3:Hid(Ab w v3):=A2.out.trans b3
 have R3:=hid(Ab.heap b3 R2.out)
 have Q3:=hid(Ab.heap b3 Q2.out)
 clear A2 R2 Q2
 clear b3 x0
 have x0:=aK R3.out
 go_wp2_with fail
 refine(NW.out v3 A3.out).mono ?_
 rintro e9 v4⟨rfl,b4⟩
 have A4:Hid(Ab w v4):=A3.out.trans b4
 have R4:=hid(Ab.heap b4 R3.out)
 have Q4:=hid(Ab.heap b4 Q3.out)
 clear A3 R3 Q3
 clear b4 x0
 go_wp2
 go_ret
 exact⟨rfl,A4.out⟩
theorem C7(n:Nat)(sd:Int)(dt gr dr:Nat)(lim:Int)(rv:Bool)(pr:Option Addr)(lr cr:Nat)(pb:Option Addr)(lb cb:Nat)(pw:Option Addr)(lw cw:Nat)(pt:Option Addr)(lt ct:Nat)(ps:Option Addr)(ls cs:Nat)(sky st:Int)(pe:Int)(w:World)(h0:(pe==0)=false)
  (LV:Hid(∀v,Ab w v->Calls prog 9 #[]v fun e w'=>e=.returned(.bool true)/\Below v.heap.size v w'))
  (GD:Hid(∀v,Ab w v->Calls prog 10 #[.agg #[.int .i64 sd,.float .f64 dt,.float .f64 gr,.float .f64 dr,.int .i64 lim,.bool rv,.slice pr lr cr],.agg #[.slice pb lb cb,.slice pw lw cw,.slice pt lt ct,.slice ps ls cs,.int .i64 sky,.int .i64 st]]v fun e w'=>e=.returned(.tuple #[.pointer none,.bool false])/\Below v.heap.size v w'))
  (CP:Hid(∀v,Ab w v->Calls prog 11 #[.agg #[.int .i64 sd,.float .f64 dt,.float .f64 gr,.float .f64 dr,.int .i64 lim,.bool rv,.slice pr lr cr]]v fun e w'=>e=.returned(.int .i64 pe)/\Below v.heap.size v w'))
  (NW:Hid(∀v,Ab w v->Calls prog 13 #[.int .i64 sd]v fun e w'=> ∃gb,e=.returned(.tuple #[.pointer(some⟨gb,0,none⟩),.int .i64 0])/\Below v.heap.size v w'/\GridOf n gb w'))
  (ON:Hid(∀v gb,Ab w v->GridOf n gb v->Calls prog 14 #[.pointer(some⟨gb,0,none⟩),.agg #[.int .i64 sd,.float .f64 dt,.float .f64 gr,.float .f64 dr,.int .i64 lim,.bool rv,.slice pr lr cr],.agg #[.slice pb lb cb,.slice pw lw cw,.slice pt lt ct,.slice ps ls cs,.int .i64 sky,.int .i64 st]]v fun e w'=>e=.returned(.tuple #[.agg #[.slice none 0 0,.slice none 0 0,.slice none 0 0,.slice none 0 0,.int .i64 0,.int .i64 0],.int .i64 pe])/\Below v.heap.size v w')):
  Calls prog 3 #[.agg #[.int .i64 sd,.float .f64 dt,.float .f64 gr,.float .f64 dr,.int .i64 lim,.bool rv,.slice pr lr cr],.agg #[.slice pb lb cb,.slice pw lw cw,.slice pt lt ct,.slice ps ls cs,.int .i64 sky,.int .i64 st]]w fun e w'=>e=.returned(.bool true)/\Below w.heap.size w w':=by
 have ee:(pe==pe)=true:=by simp
 obtain⟨A0,R0,Q0⟩:=bO w(.cells #[.int .i64 sd,.float .f64 dt,.float .f64 gr,.float .f64 dr,.int .i64 lim,.bool rv,.slice pr lr cr]25)(.cells #[.slice pb lb cb,.slice pw lw cw,.slice pt lt ct,.slice ps ls cs,.int .i64 sky,.int .i64 st]29)
 go_enter func3,ntmps3
 go_upto_region 1 with fail
 generalize hW:World.alloc(World.alloc w _)_=V0 at*
 obtain⟨ga,hga⟩:=aD w.heap.size
 obtain⟨gq,hgq⟩:=aD(w.heap.size+1)
 have HGQ:Hid(w.heap.size<=ga/\w.heap.size<=gq):=by show _/\_;omega
 rw[hgq]at Q0 ⊢
 rw[hga]at R0 ⊢
 clear hga hgq hW
 go_wp2_with fail
 refine(LV.out V0 A0.out).mono ?_
 rintro e9 v1⟨rfl,b1⟩
 have A1:Hid(Ab w v1):=A0.out.trans b1
 have R1:=hid(Ab.heap b1 R0.out)
 have Q1:=hid(Ab.heap b1 Q0.out)
 clear b1 A0 R0 Q0 LV
 have x0:=aK R1.out
 have y0:=aE Q1.out
 go_wp2_with fail
 refine(GD.out v1 A1.out).mono ?_
 rintro e9 v2⟨rfl,b2⟩
 have A2:Hid(Ab w v2):=A1.out.trans b2
 have R2:=hid(Ab.heap b2 R1.out)
 have Q2:=hid(Ab.heap b2 Q1.out)
 clear b2 A1 R1 Q1 GD x0 y0
 have x0:=aK R2.out
 go_wp2_with fail
 refine(CP.out v2 A2.out).mono ?_
 rintro e9 v3⟨rfl,b3⟩
 have A3:Hid(Ab w v3):=A2.out.trans b3
 have R3:=hid(Ab.heap b3 R2.out)
 have Q3:=hid(Ab.heap b3 Q2.out)
 clear A2 R2 Q2
 clear b3 x0
 have x0:=aK R3.out
 go_wp2_with fail
 refine(NW.out v3 A3.out).mono ?_
 rintro e9 v4⟨gb,rfl,b4,g4⟩
 have G4:=hid g4
 have A4:Hid(Ab w v4):=A3.out.trans b4
 have R4:=hid(Ab.heap b4 R3.out)
 have Q4:=hid(Ab.heap b4 Q3.out)
 clear A3 R3 Q3
 clear b4 g4 x0
 have x0:=aK R4.out
 have y0:=aE Q4.out
 go_wp2_with fail
 refine(ON.out v4 gb A4.out G4.out).mono ?_
 rintro e9 v5⟨rfl,b5⟩
 have A5:Hid(Ab w v5):=A4.out.trans b5
 clear b5 x0 y0
 go_wp2
 go_ret
 exact⟨rfl,A5.out.trans(bl1 _ _)⟩
theorem C8(n:Nat)(sd:Int)(dt gr dr:Nat)(lim:Int)(rv:Bool)(pr:Option Addr)(lr cr:Nat)(pb:Option Addr)(lb cb:Nat)(pw:Option Addr)(lw cw:Nat)(pt:Option Addr)(lt ct:Nat)(ps:Option Addr)(ls cs:Nat)(sky st:Int)(pe ca ce:Int)(w:World)(h0:(pe==0)=true)
  (LV:Hid(∀v,Ab w v->Calls prog 9 #[]v fun e w'=>e=.returned(.bool true)/\Below v.heap.size v w'))
  (GD:Hid(∀v,Ab w v->Calls prog 10 #[.agg #[.int .i64 sd,.float .f64 dt,.float .f64 gr,.float .f64 dr,.int .i64 lim,.bool rv,.slice pr lr cr],.agg #[.slice pb lb cb,.slice pw lw cw,.slice pt lt ct,.slice ps ls cs,.int .i64 sky,.int .i64 st]]v fun e w'=>e=.returned(.tuple #[.pointer none,.bool false])/\Below v.heap.size v w'))
  (CP:Hid(∀v,Ab w v->Calls prog 11 #[.agg #[.int .i64 sd,.float .f64 dt,.float .f64 gr,.float .f64 dr,.int .i64 lim,.bool rv,.slice pr lr cr]]v fun e w'=>e=.returned(.int .i64 pe)/\Below v.heap.size v w'))
  (CC:Hid(∀v,Ab w v->Calls prog 12 #[.int .i64 sd,.agg #[.slice pb lb cb,.slice pw lw cw,.slice pt lt ct,.slice ps ls cs,.int .i64 sky,.int .i64 st]]v fun e w'=>e=.returned(.tuple #[.int .i64 ca,.int .i64 ce])/\Below v.heap.size v w'))
  (NW:Hid(∀v,Ab w v->Calls prog 13 #[.int .i64 sd]v fun e w'=> ∃gb,e=.returned(.tuple #[.pointer(some⟨gb,0,none⟩),.int .i64 0])/\Below v.heap.size v w'/\GridOf n gb w'))
  (ON:Hid(∀v gb,Ab w v->GridOf n gb v->Calls prog 14 #[.pointer(some⟨gb,0,none⟩),.agg #[.int .i64 sd,.float .f64 dt,.float .f64 gr,.float .f64 dr,.int .i64 lim,.bool rv,.slice pr lr cr],.agg #[.slice pb lb cb,.slice pw lw cw,.slice pt lt ct,.slice ps ls cs,.int .i64 sky,.int .i64 st]]v fun e w'=>e=.returned(.tuple #[.agg #[.slice none 0 0,.slice none 0 0,.slice none 0 0,.slice none 0 0,.int .i64 0,.int .i64 0],.int .i64 ce])/\Below v.heap.size v w')):
  Calls prog 3 #[.agg #[.int .i64 sd,.float .f64 dt,.float .f64 gr,.float .f64 dr,.int .i64 lim,.bool rv,.slice pr lr cr],.agg #[.slice pb lb cb,.slice pw lw cw,.slice pt lt ct,.slice ps ls cs,.int .i64 sky,.int .i64 st]]w fun e w'=>e=.returned(.bool true)/\Below w.heap.size w w':=by
 have ee:(ce==ce)=true:=by simp
 obtain⟨A0,R0,Q0⟩:=bO w(.cells #[.int .i64 sd,.float .f64 dt,.float .f64 gr,.float .f64 dr,.int .i64 lim,.bool rv,.slice pr lr cr]25)(.cells #[.slice pb lb cb,.slice pw lw cw,.slice pt lt ct,.slice ps ls cs,.int .i64 sky,.int .i64 st]29)
 go_enter func3,ntmps3
 go_upto_region 1 with fail
 generalize hW:World.alloc(World.alloc w _)_=V0 at*
 obtain⟨ga,hga⟩:=aD w.heap.size
 obtain⟨gq,hgq⟩:=aD(w.heap.size+1)
 have HGQ:Hid(w.heap.size<=ga/\w.heap.size<=gq):=by show _/\_;omega
 rw[hgq]at Q0 ⊢
 rw[hga]at R0 ⊢
 clear hga hgq hW
 go_wp2_with fail
 refine(LV.out V0 A0.out).mono ?_
 rintro e9 v1⟨rfl,b1⟩
 have A1:Hid(Ab w v1):=A0.out.trans b1
 have R1:=hid(Ab.heap b1 R0.out)
 have Q1:=hid(Ab.heap b1 Q0.out)
 clear b1 A0 R0 Q0 LV
 have x0:=aK R1.out
 have y0:=aE Q1.out
 go_wp2_with fail
 refine(GD.out v1 A1.out).mono ?_
 rintro e9 v2⟨rfl,b2⟩
 have A2:Hid(Ab w v2):=A1.out.trans b2
 have R2:=hid(Ab.heap b2 R1.out)
 have Q2:=hid(Ab.heap b2 Q1.out)
 clear b2 A1 R1 Q1 GD x0 y0
 have x0:=aK R2.out
 go_wp2_with fail
 refine(CP.out v2 A2.out).mono ?_
 rintro e9 v3⟨rfl,b3⟩
 have A3:Hid(Ab w v3):=A2.out.trans b3
 have R3:=hid(Ab.heap b3 R2.out)
 have Q3:=hid(Ab.heap b3 Q2.out)
 clear A2 R2 Q2
 clear b3 x0
 have x0:=aK R3.out
 have y0:=aE Q3.out
 go_wp2_with fail
 refine(CC.out v3 A3.out).mono ?_
 rintro e9 v4⟨rfl,b4⟩
 have A4:Hid(Ab w v4):=A3.out.trans b4
 have R4:=hid(Ab.heap b4 R3.out)
 have Q4:=hid(Ab.heap b4 Q3.out)
 clear A3 R3 Q3
 clear b4 x0 y0
 have x0:=aK R4.out
 go_wp2_with fail
 refine(NW.out v4 A4.out).mono ?_
 rintro e9 v5⟨gb,rfl,b5,g5⟩
 have G5:=hid g5
 have A5:Hid(Ab w v5):=A4.out.trans b5
 have R5:=hid(Ab.heap b5 R4.out)
 have Q5:=hid(Ab.heap b5 Q4.out)
 clear A4 R4 Q4
 clear b5 g5 x0
 have x0:=aK R5.out
 have y0:=aE Q5.out
 go_wp2_with fail
 refine(ON.out v5 gb A5.out G5.out).mono ?_
 rintro e9 v6⟨rfl,b6⟩
 have A6:Hid(Ab w v6):=A5.out.trans b6
 clear b6 x0 y0
 go_wp2
 go_ret
 exact⟨rfl,A6.out.trans(bl1 _ _)⟩
theorem Hv(n:Nat)(sd:Int)(dt gr dr:Nat)(lim:Int)(rv:Bool)(pr:Option Addr)(lr cr:Nat)(pb:Option Addr)(lb cb:Nat)(B:Nat->Nat)(pw:Option Addr)(lw cw:Nat)(pt:Option Addr)(lt ct:Nat)(ps:Option Addr)(ls cs:Nat)(sky st:Int)(F2 F3:Nat->Int)(F4:Nat->Nat)(sk1 st1 a1 a2 a3:Int)(w:World)(k2:0<=a2+sky/\a2+sky<=9007199254740992)(eW:a1+sk1=a2+sky)(hs:0<=st/\st<4611686018427387904)(h1:st1=st+1)
  (LV:Hid(∀v,Ab w v->Calls prog 9 #[]v fun e w'=>e=.returned(.bool true)/\Below v.heap.size v w'))
  (GD:Hid(∀v,Ab w v->Calls prog 10 #[.agg #[.int .i64 sd,.float .f64 dt,.float .f64 gr,.float .f64 dr,.int .i64 lim,.bool rv,.slice pr lr cr],.agg #[.slice pb lb cb,.slice pw lw cw,.slice pt lt ct,.slice ps ls cs,.int .i64 sky,.int .i64 st]]v fun e w'=> ∃gb,e=.returned(.tuple #[.pointer(some⟨gb,0,none⟩),.bool true])/\Below v.heap.size v w'/\GridOf n gb w'))
  (ON:Hid(∀v gb,Ab w v->GridOf n gb v->Calls prog 14 #[.pointer(some⟨gb,0,none⟩),.agg #[.int .i64 sd,.float .f64 dt,.float .f64 gr,.float .f64 dr,.int .i64 lim,.bool rv,.slice pr lr cr],.agg #[.slice pb lb cb,.slice pw lw cw,.slice pt lt ct,.slice ps ls cs,.int .i64 sky,.int .i64 st]]v fun e w'=> ∃vv,e=.returned(.tuple #[vv,.int .i64 0])/\Below v.heap.size v w'/\OwnS v.heap.size vv lb lw lt ls B F2 F3 F4 sk1 st1 w'))
  (CC:Hid(∀v p1 c1 p2 c2 p3 c3 p4 c4,Ab w v->IsFl v p1 lb B->Sh.IsI v p2 lw F2->Sh.IsI v p3 lt F3->IsFl v p4 ls F4->Calls prog 12 #[.int .i64 sd,.agg #[.slice p1 lb c1,.slice p2 lw c2,.slice p3 lt c3,.slice p4 ls c4,.int .i64 sk1,.int .i64 st1]]v fun e w'=>e=.returned(.tuple #[.int .i64 0,.int .i64 0])/\Below v.heap.size v w'))
  (T1:Hid(∀v p c,Sh.IsI v p lw F2->Calls prog 15 #[.slice p lw c]v fun e w'=>e=.returned(.int .i64 a1)/\Below v.heap.size v w'))
  (T2:Hid(∀v,Ab w v->Calls prog 15 #[.slice pw lw cw]v fun e w'=>e=.returned(.int .i64 a2)/\Below v.heap.size v w'))
  (T3:Hid(∀v p c,Sh.IsI v p lt F3->Calls prog 15 #[.slice p lt c]v fun e w'=>e=.returned(.int .i64 a3)/\Below v.heap.size v w'))
  (T4:Hid(∀v,Ab w v->Calls prog 15 #[.slice pt lt ct]v fun e w'=>e=.returned(.int .i64 a3)/\Below v.heap.size v w'))
  (AL:Hid(∀v p c,Ab w v->IsFl v p lb B->Calls prog 16 #[.slice p lb c,.slice pb lb cb]v fun e w'=>e=.returned(.bool true)/\Below v.heap.size v w'))
  (BT:Hid(Bnd lb lw lt ls B F2 F3 F4)):
  Calls prog 3 #[.agg #[.int .i64 sd,.float .f64 dt,.float .f64 gr,.float .f64 dr,.int .i64 lim,.bool rv,.slice pr lr cr],.agg #[.slice pb lb cb,.slice pw lw cw,.slice pt lt ct,.slice ps ls cs,.int .i64 sky,.int .i64 st]]w fun e w'=>e=.returned(.bool true)/\Below w.heap.size w w':=by
 have eB:((a1+sk1)==(a2+sky))=true:=by rw[eW];simp
 have k3: -9223372036854775808<=a1+sk1:=by omega
 have k4:a1+sk1<=9223372036854775807:=by omega
 have k5: -9223372036854775808<=a2+sky:=by omega
 have k6:a2+sky<=9223372036854775807:=by omega
 subst h1
 have s1: -9223372036854775808<=st+1:=by omega
 have s2:st+1<=9223372036854775807:=by omega
 have s3:(st==4611686018427387904)=false:=by simp;omega
 have s4:(st+1==st+1)=true:=by simp
 clear eW k2 hs
 obtain⟨A0,R0,Q0⟩:=bO w(.cells #[.int .i64 sd,.float .f64 dt,.float .f64 gr,.float .f64 dr,.int .i64 lim,.bool rv,.slice pr lr cr]25)(.cells #[.slice pb lb cb,.slice pw lw cw,.slice pt lt ct,.slice ps ls cs,.int .i64 sky,.int .i64 st]29)
 go_enter func3,ntmps3
 go_upto_region 1 with fail
 generalize hW:World.alloc(World.alloc w _)_=V0 at*
 obtain⟨ga,hga⟩:=aD w.heap.size
 obtain⟨gq,hgq⟩:=aD(w.heap.size+1)
 have HGQ:Hid(w.heap.size<=ga/\w.heap.size<=gq):=by show _/\_;omega
 rw[hgq]at Q0 ⊢
 rw[hga]at R0 ⊢
 clear hga hgq hW
 go_wp2_with fail
 refine(LV.out V0 A0.out).mono ?_
 rintro e9 v1⟨rfl,b1⟩
 have A1:Hid(Ab w v1):=A0.out.trans b1
 have R1:=hid(Ab.heap b1 R0.out)
 have Q1:=hid(Ab.heap b1 Q0.out)
 clear b1 A0 R0 Q0 LV
 have x0:=aK R1.out
 obtain⟨y0,y1,y2,y3,y4,y5⟩:=aE Q1.out
 go_wp2_with fail
 refine(GD.out v1 A1.out).mono ?_
 rintro e9 v2⟨gb,rfl,b2,g2⟩
 have G2:=hid g2
 clear g2
 have A2:Hid(Ab w v2):=A1.out.trans b2
 have R2:=hid(Ab.heap b2 R1.out)
 have Q2:=hid(Ab.heap b2 Q1.out)
 clear b2 A1 R1 Q1 GD x0 y0 y1 y2 y3 y4 y5
 have x0:=aK R2.out
 obtain⟨y0,y1,y2,y3,y4,y5⟩:=aE Q2.out
 go_wp2_with fail
 refine(ON.out v2 gb A2.out G2.out).mono ?_
 rintro e9 u3⟨vv,rfl,b3,os⟩
 obtain⟨tp1,tc1,tp2,tc2,tp3,tc3,tp4,tc4,rfl,sn⟩:=xS os BT.out
 have BB:Hid(Ab v2(u3.alloc(.cells #[.slice tp1 lb tc1,.slice tp2 lw tc2,.slice tp3 lt tc3,.slice tp4 ls tc4,.int .i64 sk1,.int .i64(st+1)]29))):=(show Ab v2 u3 from b3).trans(bl1 _ _)
 have St3:Hid(SeaP u3.heap.size tp1 tc1 tp2 tc2 tp3 tc3 tp4 tc4 lb lw lt ls B F2 F3 F4 sk1(st+1)(u3.alloc(.cells #[.slice tp1 lb tc1,.slice tp2 lw tc2,.slice tp3 lt tc3,.slice tp4 ls tc4,.int .i64 sk1,.int .i64(st+1)]29))):=⟨sn.1,sn.2.1⟩
 clear os sn b3 x0 y0 y1 y2 y3 y4 y5
 go_upto_region 14 with fail
 generalize hW:World.alloc u3 _=v3 at*
 obtain⟨gt,hg⟩:=aD u3.heap.size
 rw[hg]at St3 ⊢
 clear hg hW
 have A3:Hid(Ab w v3):=A2.out.trans BB.out
 have R3:=hid(Ab.heap BB.out R2.out)
 have Q3:=hid(Ab.heap BB.out Q2.out)
 have G3:=hid(G2.out.to BB.out)
 clear A2 R2 Q2 G2
 clear BB
 have x0:=aK R3.out
 obtain⟨y0,y1,y2,y3,y4,y5⟩:=aE St3.out.1
 go_wp2_with fail
 refine(CC.out v3 tp1 tc1 tp2 tc2 tp3 tc3 tp4 tc4 A3.out St3.out.2.1 St3.out.2.2.1 St3.out.2.2.2.1 St3.out.2.2.2.2).mono ?_
 rintro e9 v4⟨rfl,b4⟩
 have A4:Hid(Ab w v4):=A3.out.trans b4
 have R4:=hid(Ab.heap b4 R3.out)
 have Q4:=hid(Ab.heap b4 Q3.out)
 have G4:=hid(G3.out.to b4)
 have St4:=hid(Fv St3.out b4)
 clear A3 R3 Q3 G3 St3
 clear b4 x0 y0 y1 y2 y3 y4 y5
 obtain⟨y0,y1,y2,y3,y4,y5⟩:=aE Q4.out
 go_upto_region 20 with fail
 clear y0 y1 y2 y3 y4 y5
 obtain⟨UU,E,hF1,hF2⟩:=cls v4
 have HU:=hid hF2
 have HU1:=hid hF1
 have y0: ∀u,(E u).cell?⟨gt,0,none⟩=some(.slice tp1 lb tc1):=fun u=>aA 0((hF1 u).heap St4.out.1)
 have y1: ∀u,(E u).cell?⟨gt,1,none⟩=some(.slice tp2 lw tc2):=fun u=>aA 1((hF1 u).heap St4.out.1)
 have y2: ∀u,(E u).cell?⟨gt,2,none⟩=some(.slice tp3 lt tc3):=fun u=>aA 2((hF1 u).heap St4.out.1)
 have y3: ∀u,(E u).cell?⟨gt,3,none⟩=some(.slice tp4 ls tc4):=fun u=>aA 3((hF1 u).heap St4.out.1)
 have y4: ∀u,(E u).cell?⟨gt,4,none⟩=some(.int .i64 sk1):=fun u=>aA 4((hF1 u).heap St4.out.1)
 have y5: ∀u,(E u).cell?⟨gt,5,none⟩=some(.int .i64(st+1)):=fun u=>aA 5((hF1 u).heap St4.out.1)
 have z0: ∀u,(E u).cell?⟨gq,0,none⟩=some(.slice pb lb cb):=fun u=>aA 0((hF1 u).heap Q4.out)
 have z1: ∀u,(E u).cell?⟨gq,1,none⟩=some(.slice pw lw cw):=fun u=>aA 1((hF1 u).heap Q4.out)
 have z2: ∀u,(E u).cell?⟨gq,2,none⟩=some(.slice pt lt ct):=fun u=>aA 2((hF1 u).heap Q4.out)
 have z3: ∀u,(E u).cell?⟨gq,3,none⟩=some(.slice ps ls cs):=fun u=>aA 3((hF1 u).heap Q4.out)
 have z4: ∀u,(E u).cell?⟨gq,4,none⟩=some(.int .i64 sky):=fun u=>aA 4((hF1 u).heap Q4.out)
 have z5: ∀u,(E u).cell?⟨gq,5,none⟩=some(.int .i64 st):=fun u=>aA 5((hF1 u).heap Q4.out)
 have D1:Hid(∀u,Calls prog 15 #[.slice tp2 lw tc2](E u)fun e w'=>e=.returned(.int .i64 a1)/\Below(E u).heap.size(E u)w'):=fun u=>T1.out _ _ _(St4.out.2.2.1.below(hF1 u))
 have D2:Hid(∀u,Calls prog 15 #[.slice pw lw cw](E u)fun e w'=>e=.returned(.int .i64 a2)/\Below(E u).heap.size(E u)w'):=fun u=>T2.out _(A4.out.trans(hF1 u))
 have D3:Hid(∀u,Calls prog 15 #[.slice tp3 lt tc3](E u)fun e w'=>e=.returned(.int .i64 a3)/\Below(E u).heap.size(E u)w'):=fun u=>T3.out _ _ _(St4.out.2.2.2.1.below(hF1 u))
 have D4:Hid(∀u,Calls prog 15 #[.slice pt lt ct](E u)fun e w'=>e=.returned(.int .i64 a3)/\Below(E u).heap.size(E u)w'):=fun u=>T4.out _(A4.out.trans(hF1 u))
 have D5:Hid(∀u,Calls prog 16 #[.slice tp1 lb tc1,.slice pb lb cb](E u)fun e w'=>e=.returned(.bool true)/\Below(E u).heap.size(E u)w'):=fun u=>AL.out _ _ _(A4.out.trans(hF1 u))(St4.out.2.1.below(hF1 u))
 have a33:(a3==a3)=true:=by simp
 have DD0:=HU.out _(Ab.refl v4).drew
 clear hF1 hF2
 refine aL E(by kernel_rfl)(by kernel_rfl)DD0 ?_
 repeat(go_big_quiet_step(first
  | (go_at_call_of 15(Value.slice tp2 lw tc2);exact aJ HU HU1(D1.out _))
  | (go_at_call_of 15(Value.slice pw lw cw);exact aJ HU HU1(D2.out _))
  | (go_at_call_of 15(Value.slice tp3 lt tc3);exact aJ HU HU1(D3.out _))
  | (go_at_call_of 15(Value.slice pt lt ct);exact aJ HU HU1(D4.out _))
  | (go_at_call 16;exact aJ HU HU1(D5.out _))
  | (with_reducible rfl)))
 refine wpQuiet_nil ?_
 intro z9 hwz
 obtain⟨u0,hu⟩:=hwz
 have A9:Hid(Ab v4 z9):=by rw[hu];exact HU1.out u0
 clear hu u0
 clear HU HU1 DD0 D1 D2 D3 D4 D5 y0 y1 y2 y3 y4 y5 z0 z1 z2 z3 z4 z5
 clear E UU
 go_wp2
 go_ret
 exact⟨rfl,A4.out.trans A9.out⟩
theorem Hw(n:Nat)(sd:Int)(dt gr dr:Nat)(lim:Int)(rv:Bool)(pr:Option Addr)(lr cr:Nat)(pb:Option Addr)(lb cb:Nat)(B:Nat->Nat)(pw:Option Addr)(lw cw:Nat)(pt:Option Addr)(lt ct:Nat)(ps:Option Addr)(ls cs:Nat)(sky st:Int)(F2 F3:Nat->Int)(F4:Nat->Nat)(sk1 st1 a1 a2 a3:Int)(w:World)(k2:0<=a2+sky/\a2+sky<=9007199254740992)(eW:a1+sk1=a2+sky)(hs:st=4611686018427387904)(h1:st1=st)
  (LV:Hid(∀v,Ab w v->Calls prog 9 #[]v fun e w'=>e=.returned(.bool true)/\Below v.heap.size v w'))
  (GD:Hid(∀v,Ab w v->Calls prog 10 #[.agg #[.int .i64 sd,.float .f64 dt,.float .f64 gr,.float .f64 dr,.int .i64 lim,.bool rv,.slice pr lr cr],.agg #[.slice pb lb cb,.slice pw lw cw,.slice pt lt ct,.slice ps ls cs,.int .i64 sky,.int .i64 st]]v fun e w'=> ∃gb,e=.returned(.tuple #[.pointer(some⟨gb,0,none⟩),.bool true])/\Below v.heap.size v w'/\GridOf n gb w'))
  (ON:Hid(∀v gb,Ab w v->GridOf n gb v->Calls prog 14 #[.pointer(some⟨gb,0,none⟩),.agg #[.int .i64 sd,.float .f64 dt,.float .f64 gr,.float .f64 dr,.int .i64 lim,.bool rv,.slice pr lr cr],.agg #[.slice pb lb cb,.slice pw lw cw,.slice pt lt ct,.slice ps ls cs,.int .i64 sky,.int .i64 st]]v fun e w'=> ∃vv,e=.returned(.tuple #[vv,.int .i64 0])/\Below v.heap.size v w'/\OwnS v.heap.size vv lb lw lt ls B F2 F3 F4 sk1 st1 w'))
  (CC:Hid(∀v p1 c1 p2 c2 p3 c3 p4 c4,Ab w v->IsFl v p1 lb B->Sh.IsI v p2 lw F2->Sh.IsI v p3 lt F3->IsFl v p4 ls F4->Calls prog 12 #[.int .i64 sd,.agg #[.slice p1 lb c1,.slice p2 lw c2,.slice p3 lt c3,.slice p4 ls c4,.int .i64 sk1,.int .i64 st1]]v fun e w'=>e=.returned(.tuple #[.int .i64 0,.int .i64 0])/\Below v.heap.size v w'))
  (T1:Hid(∀v p c,Sh.IsI v p lw F2->Calls prog 15 #[.slice p lw c]v fun e w'=>e=.returned(.int .i64 a1)/\Below v.heap.size v w'))
  (T2:Hid(∀v,Ab w v->Calls prog 15 #[.slice pw lw cw]v fun e w'=>e=.returned(.int .i64 a2)/\Below v.heap.size v w'))
  (T3:Hid(∀v p c,Sh.IsI v p lt F3->Calls prog 15 #[.slice p lt c]v fun e w'=>e=.returned(.int .i64 a3)/\Below v.heap.size v w'))
  (T4:Hid(∀v,Ab w v->Calls prog 15 #[.slice pt lt ct]v fun e w'=>e=.returned(.int .i64 a3)/\Below v.heap.size v w'))
  (AL:Hid(∀v p c,Ab w v->IsFl v p lb B->Calls prog 16 #[.slice p lb c,.slice pb lb cb]v fun e w'=>e=.returned(.bool true)/\Below v.heap.size v w'))
  (BT:Hid(Bnd lb lw lt ls B F2 F3 F4)):
  Calls prog 3 #[.agg #[.int .i64 sd,.float .f64 dt,.float .f64 gr,.float .f64 dr,.int .i64 lim,.bool rv,.slice pr lr cr],.agg #[.slice pb lb cb,.slice pw lw cw,.slice pt lt ct,.slice ps ls cs,.int .i64 sky,.int .i64 st]]w fun e w'=>e=.returned(.bool true)/\Below w.heap.size w w':=by
 have eB:((a1+sk1)==(a2+sky))=true:=by rw[eW];simp
 have k3: -9223372036854775808<=a1+sk1:=by omega
 have k4:a1+sk1<=9223372036854775807:=by omega
 have k5: -9223372036854775808<=a2+sky:=by omega
 have k6:a2+sky<=9223372036854775807:=by omega
 subst h1
 have s1: -9223372036854775808<=st1+1:=by omega
 have s2:st1+1<=9223372036854775807:=by omega
 have s3:(st1==4611686018427387904)=true:=by simpa using hs
 have s4:(st1==st1)=true:=by simp
 clear hs
 clear eW k2
 obtain⟨A0,R0,Q0⟩:=bO w(.cells #[.int .i64 sd,.float .f64 dt,.float .f64 gr,.float .f64 dr,.int .i64 lim,.bool rv,.slice pr lr cr]25)(.cells #[.slice pb lb cb,.slice pw lw cw,.slice pt lt ct,.slice ps ls cs,.int .i64 sky,.int .i64 st1]29)
 go_enter func3,ntmps3
 go_upto_region 1 with fail
 generalize hW:World.alloc(World.alloc w _)_=V0 at*
 obtain⟨ga,hga⟩:=aD w.heap.size
 obtain⟨gq,hgq⟩:=aD(w.heap.size+1)
 have HGQ:Hid(w.heap.size<=ga/\w.heap.size<=gq):=by show _/\_;omega
 rw[hgq]at Q0 ⊢
 rw[hga]at R0 ⊢
 clear hga hgq hW
 go_wp2_with fail
 refine(LV.out V0 A0.out).mono ?_
 rintro e9 v1⟨rfl,b1⟩
 have A1:Hid(Ab w v1):=A0.out.trans b1
 have R1:=hid(Ab.heap b1 R0.out)
 have Q1:=hid(Ab.heap b1 Q0.out)
 clear b1 A0 R0 Q0 LV
 have x0:=aK R1.out
 obtain⟨y0,y1,y2,y3,y4,y5⟩:=aE Q1.out
 go_wp2_with fail
 refine(GD.out v1 A1.out).mono ?_
 rintro e9 v2⟨gb,rfl,b2,g2⟩
 have G2:=hid g2
 clear g2
 have A2:Hid(Ab w v2):=A1.out.trans b2
 have R2:=hid(Ab.heap b2 R1.out)
 have Q2:=hid(Ab.heap b2 Q1.out)
 clear b2 A1 R1 Q1 GD x0 y0 y1 y2 y3 y4 y5
 have x0:=aK R2.out
 obtain⟨y0,y1,y2,y3,y4,y5⟩:=aE Q2.out
 go_wp2_with fail
 refine(ON.out v2 gb A2.out G2.out).mono ?_
 rintro e9 u3⟨vv,rfl,b3,os⟩
 obtain⟨tp1,tc1,tp2,tc2,tp3,tc3,tp4,tc4,rfl,sn⟩:=xS os BT.out
 have BB:Hid(Ab v2(u3.alloc(.cells #[.slice tp1 lb tc1,.slice tp2 lw tc2,.slice tp3 lt tc3,.slice tp4 ls tc4,.int .i64 sk1,.int .i64 st1]29))):=(show Ab v2 u3 from b3).trans(bl1 _ _)
 have St3:Hid(SeaP u3.heap.size tp1 tc1 tp2 tc2 tp3 tc3 tp4 tc4 lb lw lt ls B F2 F3 F4 sk1 st1(u3.alloc(.cells #[.slice tp1 lb tc1,.slice tp2 lw tc2,.slice tp3 lt tc3,.slice tp4 ls tc4,.int .i64 sk1,.int .i64 st1]29))):=⟨sn.1,sn.2.1⟩
 clear os sn b3 x0 y0 y1 y2 y3 y4 y5
 go_upto_region 14 with fail
 generalize hW:World.alloc u3 _=v3 at*
 obtain⟨gt,hg⟩:=aD u3.heap.size
 rw[hg]at St3 ⊢
 clear hg hW
 have A3:Hid(Ab w v3):=A2.out.trans BB.out
 have R3:=hid(Ab.heap BB.out R2.out)
 have Q3:=hid(Ab.heap BB.out Q2.out)
 have G3:=hid(G2.out.to BB.out)
 clear A2 R2 Q2 G2
 clear BB
 have x0:=aK R3.out
 obtain⟨y0,y1,y2,y3,y4,y5⟩:=aE St3.out.1
 go_wp2_with fail
 refine(CC.out v3 tp1 tc1 tp2 tc2 tp3 tc3 tp4 tc4 A3.out St3.out.2.1 St3.out.2.2.1 St3.out.2.2.2.1 St3.out.2.2.2.2).mono ?_
 rintro e9 v4⟨rfl,b4⟩
 have A4:Hid(Ab w v4):=A3.out.trans b4
 have R4:=hid(Ab.heap b4 R3.out)
 have Q4:=hid(Ab.heap b4 Q3.out)
 have G4:=hid(G3.out.to b4)
 have St4:=hid(Fv St3.out b4)
 clear A3 R3 Q3 G3 St3
 clear b4 x0 y0 y1 y2 y3 y4 y5
 obtain⟨y0,y1,y2,y3,y4,y5⟩:=aE Q4.out
 go_upto_region 20 with fail
 clear y0 y1 y2 y3 y4 y5
 obtain⟨UU,E,hF1,hF2⟩:=cls v4
 have HU:=hid hF2
 have HU1:=hid hF1
 have y0: ∀u,(E u).cell?⟨gt,0,none⟩=some(.slice tp1 lb tc1):=fun u=>aA 0((hF1 u).heap St4.out.1)
 have y1: ∀u,(E u).cell?⟨gt,1,none⟩=some(.slice tp2 lw tc2):=fun u=>aA 1((hF1 u).heap St4.out.1)
 have y2: ∀u,(E u).cell?⟨gt,2,none⟩=some(.slice tp3 lt tc3):=fun u=>aA 2((hF1 u).heap St4.out.1)
 have y3: ∀u,(E u).cell?⟨gt,3,none⟩=some(.slice tp4 ls tc4):=fun u=>aA 3((hF1 u).heap St4.out.1)
 have y4: ∀u,(E u).cell?⟨gt,4,none⟩=some(.int .i64 sk1):=fun u=>aA 4((hF1 u).heap St4.out.1)
 have y5: ∀u,(E u).cell?⟨gt,5,none⟩=some(.int .i64 st1):=fun u=>aA 5((hF1 u).heap St4.out.1)
 have z0: ∀u,(E u).cell?⟨gq,0,none⟩=some(.slice pb lb cb):=fun u=>aA 0((hF1 u).heap Q4.out)
 have z1: ∀u,(E u).cell?⟨gq,1,none⟩=some(.slice pw lw cw):=fun u=>aA 1((hF1 u).heap Q4.out)
 have z2: ∀u,(E u).cell?⟨gq,2,none⟩=some(.slice pt lt ct):=fun u=>aA 2((hF1 u).heap Q4.out)
 have z3: ∀u,(E u).cell?⟨gq,3,none⟩=some(.slice ps ls cs):=fun u=>aA 3((hF1 u).heap Q4.out)
 have z4: ∀u,(E u).cell?⟨gq,4,none⟩=some(.int .i64 sky):=fun u=>aA 4((hF1 u).heap Q4.out)
 have z5: ∀u,(E u).cell?⟨gq,5,none⟩=some(.int .i64 st1):=fun u=>aA 5((hF1 u).heap Q4.out)
 have D1:Hid(∀u,Calls prog 15 #[.slice tp2 lw tc2](E u)fun e w'=>e=.returned(.int .i64 a1)/\Below(E u).heap.size(E u)w'):=fun u=>T1.out _ _ _(St4.out.2.2.1.below(hF1 u))
 have D2:Hid(∀u,Calls prog 15 #[.slice pw lw cw](E u)fun e w'=>e=.returned(.int .i64 a2)/\Below(E u).heap.size(E u)w'):=fun u=>T2.out _(A4.out.trans(hF1 u))
 have D3:Hid(∀u,Calls prog 15 #[.slice tp3 lt tc3](E u)fun e w'=>e=.returned(.int .i64 a3)/\Below(E u).heap.size(E u)w'):=fun u=>T3.out _ _ _(St4.out.2.2.2.1.below(hF1 u))
 have D4:Hid(∀u,Calls prog 15 #[.slice pt lt ct](E u)fun e w'=>e=.returned(.int .i64 a3)/\Below(E u).heap.size(E u)w'):=fun u=>T4.out _(A4.out.trans(hF1 u))
 have D5:Hid(∀u,Calls prog 16 #[.slice tp1 lb tc1,.slice pb lb cb](E u)fun e w'=>e=.returned(.bool true)/\Below(E u).heap.size(E u)w'):=fun u=>AL.out _ _ _(A4.out.trans(hF1 u))(St4.out.2.1.below(hF1 u))
 have a33:(a3==a3)=true:=by simp
 have DD0:=HU.out _(Ab.refl v4).drew
 clear hF1 hF2
 refine aL E(by kernel_rfl)(by kernel_rfl)DD0 ?_
 repeat(go_big_quiet_step(first
  | (go_at_call_of 15(Value.slice tp2 lw tc2);exact aJ HU HU1(D1.out _))
  | (go_at_call_of 15(Value.slice pw lw cw);exact aJ HU HU1(D2.out _))
  | (go_at_call_of 15(Value.slice tp3 lt tc3);exact aJ HU HU1(D3.out _))
  | (go_at_call_of 15(Value.slice pt lt ct);exact aJ HU HU1(D4.out _))
  | (go_at_call 16;exact aJ HU HU1(D5.out _))
  | (with_reducible rfl)))
 refine wpQuiet_nil ?_
 intro z9 hwz
 obtain⟨u0,hu⟩:=hwz
 have A9:Hid(Ab v4 z9):=by rw[hu];exact HU1.out u0
 clear hu u0
 clear HU HU1 DD0 D1 D2 D3 D4 D5 y0 y1 y2 y3 y4 y5 z0 z1 z2 z3 z4 z5
 clear E UU
 go_wp2
 go_ret
 exact⟨rfl,A4.out.trans A9.out⟩
theorem okV_W{n:Nat}{B:Nat->Nat}{W T:Nat->Int}{S:Nat->Nat}{sky st:Int}(h:okS n B W T S sky st):Rv.okV(6*n*n)W/\Rv.okV(6*n*n)T:=by
 obtain⟨⟨-,⟨k1,k2⟩,⟨w1,w2⟩,t,-⟩,-,-⟩:=h
 exact⟨⟨w1,by omega⟩,t⟩
theorem C9(OC:OneC)(FC:FlowC)(PB:PlanB)(CB:CheckB){sd:Int}{dt gr dr:Nat}{lim:Int}{rv:Bool}{pr:Option Addr}{lr cr:Nat}{R:Nat->Int × Int × Int × Int}{pb:Option Addr}{lb cb:Nat}{B:Nat->Nat}{pw:Option Addr}{lw cw:Nat}{W:Nat->Int}{pt:Option Addr}{lt ct:Nat}{T:Nat->Int}{ps:Option Addr}{ls cs:Nat}{S:Nat->Nat}{sky st:Int}(w:World)(hF:Fr w)(h64:Sh.W64 sd/\Sh.W64 lim/\Sh.W64 sky/\Sh.W64 st)(hf:dt<18446744073709551616/\gr<18446744073709551616/\dr<18446744073709551616)(hlr:lr<=281474976710656)(hl:(lb<=281474976710656/\lw<=281474976710656/\lt<=281474976710656/\ls<=281474976710656))(ir:Rn.IsRn w pr lr R)(i1:IsFl w pb lb B)(i2:Sh.IsI w pw lw W)(i3:Sh.IsI w pt lt T)(i4:IsFl w ps ls S):
  Calls prog 3 #[.agg #[.int .i64 sd,.float .f64 dt,.float .f64 gr,.float .f64 dr,.int .i64 lim,.bool rv,.slice pr lr cr],.agg #[.slice pb lb cb,.slice pw lw cw,.slice pt lt ct,.slice ps ls cs,.int .i64 sky,.int .i64 st]]w fun e w'=>e=.returned(.bool true)/\Below w.heap.size w w':=by
 have LV:=fun v(a:Ab w v)=>C0 OC FC v(hF.to a)
 have GD:=fun v(a:Ab w v)=>Hu PB CB sd dt gr dr lim rv pr lr cr R pb lb cb B pw lw cw W pt lt ct T ps ls cs S sky st v(hF.to a)h64 hf hlr hl(ir.below a)(i1.below a)(i2.below a)(i3.below a)(i4.below a)
 by_cases q:er2 sd dt gr dr lim lr R lb lw lt ls B W T S sky st=0
 ·have hlp:=hl
  obtain⟨sd32,pl0,ck0⟩:=er2_side q
  obtain⟨n,rfl⟩: ∃n:Nat,sd=(n:Nat):=⟨sd.toNat,by omega⟩
  have hn:1<=n/\n<=32:=by omega
  have er0:=Fo(n:=n)(sd:=(n:Nat))rfl pl0 ck0
  obtain⟨-,-,-,⟨l1,l2,l3,l4⟩,oP,oS⟩:=er_ok er0 hf(fun i hi=>(i1 i hi).1)(fun i hi=>(i4 i hi).1)
  have p1:n*n<=32*32:=Nat.mul_le_mul hn.2 hn.2
  have p0:0<n*n:=Nat.mul_pos(by omega)(by omega)
  have q6:6*n*n=6*(n*n):=Nat.mul_assoc _ _ _
  have q12:12*n*n=12*(n*n):=Nat.mul_assoc _ _ _
  have GY:=fun v(a:Ab w v)=>(GD v a).1 q
  simp only[Int.toNat_natCast]at GY
  have ON:=fun v gb(a:Ab w v)(g:GridOf n gb v)=>(OC n gb n dt gr dr lim rv pr lr cr R pb lb cb B pw lw cw W pt lt ct T ps ls cs S sky st v hn g(hF.to a)h64 hf hlr hl(ir.below a)(i1.below a)(i2.below a)(i3.below a)(i4.below a)).1 er0
  have o1:=Cx(lim:=lim)(rv:=rv)oP oS
  have k:=ri_ok(lim:=lim)(rv:=rv)oP oS
  have v0:=okV_W oS
  have v1:=okV_W o1
  have bt:=xU o1
  subst l1
  rw[show 12*n*n=ls from l4.symm]at bt
  subst l2
  subst l3
  have cc:chk(n:Nat)(6*n*n)(6*n*n)(6*n*n)ls B(riX n lim gr dt dr rv lr R B W T S sky st).1(riX n lim gr dt dr rv lr R B W T S sky st).2(spE n gr dt dr B W S)(raX n lim gr dt dr lr R B W S sky st).2(stN st)=(0,0):=Aj(by omega)(by rw[Int.toNat_natCast];exact⟨rfl,rfl,rfl,by omega⟩)(by rw[Int.toNat_natCast];exact o1.1)
  have CC:=fun v p1 c1 p2 c2 p3 c3 p4 c4(a:Ab w v)k1 k2 k3 k4=>CB(n:Nat)p1(6*n*n)c1 B p2(6*n*n)c2(riX n lim gr dt dr rv lr R B W T S sky st).1 p3(6*n*n)c3(riX n lim gr dt dr rv lr R B W T S sky st).2 p4 ls c4(spE n gr dt dr B W S)(raX n lim gr dt dr lr R B W S sky st).2(stN st)v h64.1(by have:=o1.1.2.1;unfold Sh.W64;omega)(by have:=o1.1.2.2.2.2.2;unfold Sh.W64;omega)hlp k1 k2 k3 k4
  rw[cc]at CC
  have T1:=fun v p c(h:Sh.IsI v p(6*n*n)(riX n lim gr dt dr rv lr R B W T S sky st).1)=>kD p(6*n*n)c _ _ v(by omega)h v1.1 rfl
  have T2:=fun v(a:Ab w v)=>kD pw(6*n*n)cw W _ v(by omega)(i2.below a)v0.1 rfl
  have T3:=fun v p c(h:Sh.IsI v p(6*n*n)(riX n lim gr dt dr rv lr R B W T S sky st).2)=>kD p(6*n*n)c _ _ v(by omega)h v1.2 k.2.2
  have T4:=fun v(a:Ab w v)=>kD pt(6*n*n)ct T _ v(by omega)(i3.below a)v0.2 rfl
  have AL: ∀v p c,Ab w v->IsFl v p(6*n*n)B->Calls prog 16 #[.slice p(6*n*n)c,.slice pb(6*n*n)cb]v fun e w'=>e=.returned(.bool true)/\Below v.heap.size v w':=fun v p c a h=>by
   have z:=Cz p pb(6*n*n)c(6*n*n)cb B B v(by omega)(by omega)h(i1.below a)
   rw[iM(fun _ _=>rfl)]at z
   exact z
  have sk:=oS.1.2.1
  have wn:=Sh.eU oS.1.2.2.1.1
  have ws:=oS.1.2.2.1.2
  have ts:=oS.1.2.2.2.2.2
  by_cases mx:st=4611686018427387904
  ·exact Hw n n dt gr dr lim rv pr lr cr pb _ cb B pw _ cw pt _ ct ps ls cs sky st _ _ _ _ _ _ _ _ w(by omega)k.2.1 mx(by rw[mx];rfl)LV GY ON CC T1 T2 T3 T4 AL bt
  ·exact Hv n n dt gr dr lim rv pr lr cr pb _ cb B pw _ cw pt _ ct ps ls cs sky st _ _ _ _ _ _ _ _ w(by omega)k.2.1(by omega)(by unfold stN;rw[if_pos(by omega)])LV GY ON CC T1 T2 T3 T4 AL bt
 ·have GN:=fun v(a:Ab w v)=>(GD v a).2 q
  have CP:=fun v(a:Ab w v)=>PB sd dt gr dr lim rv pr lr cr R v h64.1 h64.2.1 hf hlr(ir.below a)
  have CC:=fun v(a:Ab w v)=>CB sd pb lb cb B pw lw cw W pt lt ct T ps ls cs S sky st v h64.1 h64.2.2.1 h64.2.2.2 hl(i1.below a)(i2.below a)(i3.below a)(i4.below a)
  by_cases hs:1<=sd/\sd<=32
  ·obtain⟨n,rfl⟩: ∃n:Nat,sd=(n:Nat):=⟨sd.toNat,by omega⟩
   have hn:1<=n/\n<=32:=by omega
   have NW: ∀v,Ab w v->Calls prog 13 #[.int .i64(n:Nat)]v fun e w'=> ∃gb,e=.returned(.tuple #[.pointer(some⟨gb,0,none⟩),.int .i64 0])/\Below v.heap.size v w'/\GridOf n gb w':=fun v a=>(BZ n v hn(hF.to a)).mono fun e w' h=>by
    obtain⟨gb,rfl,a1,-,g⟩:=h
    exact⟨gb,rfl,a1,g⟩
   have OZ:=fun v gb(a:Ab w v)(g:GridOf n gb v)=>(OC n gb n dt gr dr lim rv pr lr cr R pb lb cb B pw lw cw W pt lt ct T ps ls cs S sky st v hn g(hF.to a)h64 hf hlr hl(ir.below a)(i1.below a)(i2.below a)(i3.below a)(i4.below a)).2
   by_cases hp:plE(n:Nat)dt gr dr lim lr R=0
   ·have e1:erS n n dt gr dr lim lr R lb lw lt ls B W T S sky st=(chk(n:Nat)lb lw lt ls B W T S sky st).2:=by
     unfold erS
     rw[if_neg(fun z=>z rfl),if_neg(fun z=>z hp)]
    have c0:(chk(n:Nat)lb lw lt ls B W T S sky st).2≠0:=fun z=>q(by unfold er2;rw[if_neg(fun y=>y hp),z])
    have ON:=fun v gb a g=>OZ v gb a g(by rw[e1];exact c0)
    rw[e1]at ON
    exact C8 n n dt gr dr lim rv pr lr cr pb lb cb pw lw cw pt lt ct ps ls cs sky st _ _ _ w(by rw[hp];rfl)LV GN CP CC NW ON
   ·have e1:erS n n dt gr dr lim lr R lb lw lt ls B W T S sky st=plE(n:Nat)dt gr dr lim lr R:=by
     unfold erS
     rw[if_neg(fun z=>z rfl),if_pos hp]
    have ON:=fun v gb a g=>OZ v gb a g(by rw[e1];exact hp)
    rw[e1]at ON
    exact C7 n n dt gr dr lim rv pr lr cr pb lb cb pw lw cw pt lt ct ps ls cs sky st _ w(by simpa using hp)LV GN CP NW ON
  ·have e1:plE sd dt gr dr lim lr R=10:=by unfold plE;rw[if_pos hs]
   exact C6 sd dt gr dr lim rv pr lr cr pb lb cb pw lw cw pt lt ct ps ls cs sky st _ w(by rw[e1];rfl)e1 LV GN CP(fun v _=>(new_no sd v hs).mono fun e w' h=>⟨h.1,by rw[h.2];exact Below.refl _ _⟩)
end St
end
section
open Go.RowKit
namespace Cg
abbrev Ix:=Option Nat × Nat
abbrev Sp:=Nat->Option((Ix->World->Prop) × (Ix->Value))
def Stable(sp:Sp):Prop:= ∀i R mk,sp i=some(R,mk)-> ∀x w w',R x w->Ab w w'->R x w'
def Fresh(W:World)(S:Nat->Option Ix)(x:Ix):Prop:= ∀b,x.1=some b->W.heap.size<=b/\ ∀i y,S i=some y->y.1≠some b
def putL(S:Nat->Option Ix)(i:Nat)(x:Ix):Nat->Option Ix:=fun k=>if k=i then some x else S k
def Has(W:World)(sp:Sp)(S:Nat->Option Ix)(w:World):Prop:=Ab W w/\ ∀i x,S i=some x->(∀b,x.1=some b->W.heap.size<=b/\b<w.heap.size)/\ ∃R mk,sp i=some(R,mk)/\R x w
theorem pR(S:Nat->Option Ix){i j:Nat}(b c:Ix)(h:i≠j):putL(putL S i b)j c=putL(putL S j c)i b:=by
 funext k
 unfold putL
 by_cases e:k=j
 ·subst e;simp[Ne.symm h]
 ·by_cases e2:k=i
  ·subst e2;simp[e]
  ·simp[e,e2]
theorem Fresh.put{W:World}{S:Nat->Option Ix}{i:Nat}{x y:Ix}(h:Fresh W S y)(n: ∀b,y.1=some b->x.1≠some b):Fresh W(putL S i x)y:=
 fun b hb=>⟨(h b hb).1,fun k z e=>by
  unfold putL at e
  by_cases q:k=i
  ·rw[if_pos q]at e;injection e with e;rw[<- e];exact n b hb
  ·rw[if_neg q]at e;exact(h b hb).2 k z e⟩
theorem Fresh.of_put{W:World}{S:Nat->Option Ix}{i:Nat}{x y:Ix}(h:Fresh W(putL S i x)y)(hi:S i=none):Fresh W S y/\ ∀b,y.1=some b->x.1≠some b:=by
 refine⟨fun b hb=>⟨(h b hb).1,fun k z e=>(h b hb).2 k z ?_⟩,fun b hb=>(h b hb).2 i x(by simp[putL])⟩
 unfold putL
 by_cases q:k=i
 ·subst q;rw[hi]at e;cases e
 ·rw[if_neg q];exact e
theorem Has.lay{W:World}{sp:Sp}(st:Stable sp){S:Nat->Option Ix}{w w1:World}(h:Has W sp S w){i:Nat}{x:Ix}{R:Ix->World->Prop}{mk:Ix->Value}(e:sp i=some(R,mk))(a:Ab w w1)(hb: ∀b,x.1=some b->w.heap.size<=b/\b<w1.heap.size)(ho:R x w1):Has W sp(putL S i x)w1:=
 ⟨h.1.trans a,fun k c q=>by
  unfold putL at q
  by_cases z:k=i
  ·subst z
   rw[if_pos rfl]at q
   injection q with q
   subst q
   exact⟨fun b e2=>⟨Nat.le_trans h.1.size(hb b e2).1,(hb b e2).2⟩,R,mk,e,ho⟩
  ·rw[if_neg z]at q
   obtain⟨h1,R',mk',h2,h3⟩:=h.2 k c q
   exact⟨fun b e2=>⟨(h1 b e2).1,Nat.lt_of_lt_of_le(h1 b e2).2 a.size⟩,R',mk',h2,st k R' mk' h2 c w w1 h3 a⟩⟩
theorem Has.freshb{W:World}{sp:Sp}{S:Nat->Option Ix}{w:World}(h:Has W sp S w){x:Ix}(hb: ∀b,x.1=some b->w.heap.size<=b):Fresh W S x:=
 fun b e=>⟨Nat.le_trans h.1.size(hb b e),fun i y e2 e3=>by
  have h1:=((h.2 i y e2).1 b e3).2
  have h2:=hb b e
  omega⟩
section
variable{P:Program}{ops:Array Oper}{md:Region.Mode}{W:World}{sp:Sp}
def YF(P:Program)(ops:Array Oper)(W:World)(o:Oper)(v:Value)(a:Act):Prop:=
 (Region.wanted o(yielded ops a.tmps)=true/\ ∀w,Ab W w->(execOp a.eval o).run P w=.ok(.value v)w)\/(Region.wanted o(yielded ops a.tmps)=false/\v=undef)
def LayR(P:Program)(w:World)(ob:Ix->World->Prop)(mk:Ix->Value):Result Next->Prop
 | .ok(.value u)w1=> ∃x,u=mk x/\Ab w w1/\(∀b,x.1=some b->w.heap.size<=b/\b<w1.heap.size)/\ob x w1
 | .ok(.enter f args)w1=>w1=w/\Calls P f args w(fun e w2=> ∃x,e=.returned(mk x)/\Ab w w2/\(∀b,x.1=some b->w.heap.size<=b/\b<w2.heap.size)/\ob x w2)
 | _=>False
def LF(P:Program)(ops:Array Oper)(W:World)(o:Oper)(ob:Ix->World->Prop)(mk:Ix->Value)(a:Act):Prop:=
 Region.wanted o(yielded ops a.tmps)=true/\ ∀w,Ab W w->LayR P w ob mk((execOp a.eval o).run P w)
theorem YF.same{o:Oper}{v:Value}{a a':Act}(h:YF P ops W o v a)(he:execOp a'.eval o=execOp a.eval o)(hw:Region.wanted o(yielded ops a'.tmps)=Region.wanted o(yielded ops a.tmps)):YF P ops W o v a':=by
 unfold YF at*
 rw[he,hw]
 exact h
theorem LF.same{o:Oper}{ob:Ix->World->Prop}{mk:Ix->Value}{a a':Act}(h:LF P ops W o ob mk a)(he:execOp a'.eval o=execOp a.eval o)(hw:Region.wanted o(yielded ops a'.tmps)=Region.wanted o(yielded ops a.tmps)):LF P ops W o ob mk a':=by
 unfold LF at*
 rw[he,hw]
 exact h
theorem YF.one{o:Oper}{v u:Value}{a:Act}(h:YF P ops W o v a)(k:YF P ops W o u a):v=u:=by
 rcases h with⟨w1,h⟩ | ⟨w1,rfl⟩
 ·rcases k with⟨_,k⟩ | ⟨w2,_⟩
  ·have:=(h W(Ab.refl W)).symm.trans(k W(Ab.refl W))
   injection this with e
   injection e
  ·rw[w1]at w2;cases w2
 ·rcases k with⟨w2,_⟩ | ⟨_,rfl⟩
  ·rw[w1]at w2;cases w2
  ·rfl
def fOp(P:Program)(ops:Array Oper)(W:World)(sp:Sp)(i:Nat)(K:Act->(Nat->Option Ix)->Prop)(a:Act)(S:Nat->Option Ix):Prop:=
 match ops[i]? with
 | none=>K a S
 | some o=>
  match sp i with
  | none=> ∃v,YF P ops W o v a/\K(a.put o.dst v)S
  | some(ob,mk)=>LF P ops W o ob mk a/\ ∀b,Fresh W S b->K(a.put o.dst(mk b))(putL S i b)
theorem lB{i:Nat}{K K':Act->(Nat->Option Ix)->Prop}{a:Act}{S:Nat->Option Ix}(h: ∀a S,K a S->K' a S)(hh:fOp P ops W sp i K a S):fOp P ops W sp i K' a S:=by
 unfold fOp at*
 cases ho:ops[i]? with
 | none=>simp only[ho]at hh ⊢;exact h _ _ hh
 | some o=>
  cases hs:sp i with
  | none=>
   simp only[ho,hs]at hh ⊢
   obtain⟨v,h1,h2⟩:=hh
   exact⟨v,h1,h _ _ h2⟩
  | some x=>
   simp only[ho,hs]at hh ⊢
   exact⟨hh.1,fun b hb=>h _ _(hh.2 b hb)⟩
def wpAnyF(P:Program)(md:Region.Mode)(ops:Array Oper)(W:World)(sp:Sp)(Q:Act->(Nat->Option Ix)->Prop):Nat->Array Bool->Act->(Nat->Option Ix)->Prop
 | 0,listed,a,S=>Region.ready md ops listed=[]/\Q a S
 | fuel+1,listed,a,S=>
  (Region.ready md ops listed=[]->Q a S)∧
  ∀i ∈ Region.ready md ops listed,fOp P ops W sp i(wpAnyF P md ops W sp Q fuel(listed.setIfInBounds i true))a S
def Tidy(listed:Array Bool)(S:Nat->Option Ix):Prop:= ∀k,listed.getD k true=false->S k=none
theorem vR(W:World)(S:Nat->Option Ix): ∃x,Fresh W S x:=⟨(none,0),fun b e=>by cases e⟩
theorem Tidy.set{listed:Array Bool}{S:Nat->Option Ix}(h:Tidy listed S)(j:Nat):Tidy(listed.setIfInBounds j true)S:=
 fun k hk=>by
  by_cases e:j=k
  ·subst e
   by_cases l:j<listed.size
   ·simp[l]at hk
   ·exact h j(by rw[Array.setIfInBounds_eq_of_size_le(by omega)]at hk;exact hk)
  ·rw[getD_set_ne true e]at hk;exact h k hk
theorem Tidy.lay{listed:Array Bool}{S:Nat->Option Ix}(h:Tidy listed S){j:Nat}(hj:listed.getD j true=false)(b:Ix):Tidy(listed.setIfInBounds j true)(putL S j b):=by
 refine fun k hk=> ?_
 by_cases e:j=k
 ·subst e
  by_cases l:j<listed.size
  ·simp[l]at hk
  ·simp[l]at hj
 ·rw[getD_set_ne true e]at hk
  unfold putL
  rw[if_neg(Ne.symm e)]
  exact h k hk
theorem tI{j:Nat}{oi oj:Oper}{v:Value}(hj:ops[j]? =some oj)(hap:oi.apart ops oj=true)(hsi: ∀cs b,oi.op≠ .select cs b)(hsj: ∀cs b,oj.op≠ .select cs b)
  {K:Act->(Nat->Option Ix)->Prop}{a:Act}{S:Nat->Option Ix}(hy:YF P ops W oi v a)(h:fOp P ops W sp j K(a.put oi.dst v)S):
  fOp P ops W sp j(fun a' S'=>YF P ops W oi v a'/\K(a'.put oi.dst v)S')a S:=by
 obtain⟨h1,h2,h3⟩:=Oper.apart_spec hap
 have keep: ∀u,YF P ops W oi v(a.put oj.dst u):=fun u=>hy.same(execOp_put oi hsi a oj.dst u h3)(wanted_put oi a oj.dst u h3)
 unfold fOp at*
 cases hs:sp j with
 | none=>
  simp only[hj,hs]at h ⊢
  obtain⟨u,hu,hk⟩:=h
  exact⟨u,hu.same(execOp_put oj hsj a oi.dst v h1).symm(wanted_put oj a oi.dst v h1).symm,keep u,by rw[<- Act.put_comm a v u h2];exact hk⟩
 | some x=>
  simp only[hj,hs]at h ⊢
  exact⟨h.1.same(execOp_put oj hsj a oi.dst v h1).symm(wanted_put oj a oi.dst v h1).symm,fun b hb=>⟨keep _,by rw[<- Act.put_comm a v _ h2];exact h.2 b hb⟩⟩
theorem tJ{i j:Nat}{oi oj:Oper}{ob:Ix->World->Prop}{mk:Ix->Value}(hij:i≠j)(hj:ops[j]? =some oj)(hap:oi.apart ops oj=true)(hsi: ∀cs b,oi.op≠ .select cs b)(hsj: ∀cs b,oj.op≠ .select cs b)
  {K:Act->(Nat->Option Ix)->Prop}{a:Act}{S:Nat->Option Ix}(hSj:S j=none)(hy:LF P ops W oi ob mk a)(h: ∀b,Fresh W S b->fOp P ops W sp j K(a.put oi.dst(mk b))(putL S i b)):
  fOp P ops W sp j(fun a' S'=>LF P ops W oi ob mk a'/\ ∀b,Fresh W S' b->K(a'.put oi.dst(mk b))(putL S' i b))a S:=by
 obtain⟨h1,h2,h3⟩:=Oper.apart_spec hap
 have keep: ∀u,LF P ops W oi ob mk(a.put oj.dst u):=fun u=>hy.same(execOp_put oi hsi a oj.dst u h3)(wanted_put oi a oj.dst u h3)
 obtain⟨b0,hb0⟩:=vR W S
 unfold fOp at*
 cases hs:sp j with
 | none=>
  simp only[hj,hs]at h ⊢
  obtain⟨u,hu,_⟩:=h b0 hb0
  have hu':YF P ops W oj u a:=hu.same(execOp_put oj hsj a oi.dst _ h1).symm(wanted_put oj a oi.dst _ h1).symm
  refine⟨u,hu',keep u,fun b hb=> ?_⟩
  obtain⟨u2,hu2,hk⟩:=h b hb
  have e:u2=u:=YF.one(hu2.same(execOp_put oj hsj a oi.dst _ h1).symm(wanted_put oj a oi.dst _ h1).symm)hu'
  subst e
  rw[<- Act.put_comm a(mk b)u2 h2]
  exact hk
 | some x=>
  simp only[hj,hs]at h ⊢
  refine⟨(h b0 hb0).1.same(execOp_put oj hsj a oi.dst _ h1).symm(wanted_put oj a oi.dst _ h1).symm,fun c hc=>⟨keep _,fun b hb=> ?_⟩⟩
  obtain⟨q1,q2⟩:=hb.of_put hSj
  have:=(h b q1).2 c(hc.put(fun d e e2=>q2 d e2 e))
  rw[pR S b c hij,Act.put_comm a(mk b)_ h2]at this
  exact this
theorem firstY{Q:Act->(Nat->Option Ix)->Prop}{i:Nat}{oi:Oper}{v:Value}(hi:ops[i]? =some oi)(hsp:sp i=none)(hsel: ∀(j:Nat)(o:Oper)cs b,ops[j]? =some o->o.op≠ .select cs b):
  ∀(fuel:Nat)(listed:Array Bool)(a:Act)(S:Nat->Option Ix),
   (∀j oj,ops[j]? =some oj->j≠i->listed.getD j true=false->(∀e ∈ oj.after,Region.binds md e=true->e.on≠i)->oi.apart ops oj=true)→
   i ∈ Region.ready md ops listed->YF P ops W oi v a→
   wpAnyF P md ops W sp Q fuel(listed.setIfInBounds i true)(a.put oi.dst v)S->wpAnyF P md ops W sp Q(fuel+1)listed a S:=by
 have go: ∀(K:Act->(Nat->Option Ix)->Prop)(a:Act)(S:Nat->Option Ix),YF P ops W oi v a->K(a.put oi.dst v)S->fOp P ops W sp i K a S:=fun K a S hy h=>by
  unfold fOp;simp only[hi,hsp];exact⟨v,hy,h⟩
 intro fuel
 induction fuel with
 | zero=>
  intro listed a S _ hr hy H
  refine⟨fun h=>(by rw[h]at hr;cases hr),fun j hj=> ?_⟩
  by_cases hji:j=i
  ·subst hji;exact go _ _ _ hy H
  ·have:=ready_mono hj hji
   rw[H.1]at this
   cases this
 | succ fuel ih=>
  intro listed a S hfree hr hy H
  refine⟨fun h=>(by rw[h]at hr;cases hr),fun j hj=> ?_⟩
  by_cases hji:j=i
  ·subst hji;exact go _ _ _ hy H
  ·have h1:=H.2 j(ready_mono hj hji)
   obtain⟨hjun,oj,hoj,hall⟩:=mem_ready.1 hj
   have hnot: ∀e ∈ oj.after,Region.binds md e=true->e.on≠i:=fun e he hb heq=>by
    have h1:=hall e he hb
    have h0:=(mem_ready.1 hr).1
    rw[heq]at h1
    rcases Nat.lt_or_ge i listed.size with h' | h'
    ·simp[h']at h0 h1;rw[h0]at h1;cases h1
    ·simp[Array.getElem?_eq_none h']at h1
   have h2:=tI hoj(hfree j oj hoj hji hjun hnot)(fun cs b=>hsel i oi cs b hi)(fun cs b=>hsel j oj cs b hoj)hy h1
   have hfree': ∀k ok,ops[k]? =some ok->k≠i->(listed.setIfInBounds j true).getD k true=false→
     (∀e ∈ ok.after,Region.binds md e=true->e.on≠i)->oi.apart ops ok=true:=fun k ok hk hki hun hno=>by
    refine hfree k ok hk hki ?_ hno
    by_cases hjk:j=k
    ·subst hjk;exact hjun
    ·rw[getD_set_ne true hjk]at hun;exact hun
   refine lB(fun a' S' h3=>ih(listed.setIfInBounds j true)a' S' hfree'(ready_mono hr(Ne.symm hji))h3.1 ?_)h2
   rw[Array.setIfInBounds_comm _ _ hji]
   exact h3.2
theorem firstL{Q:Act->(Nat->Option Ix)->Prop}{i:Nat}{oi:Oper}{ob:Ix->World->Prop}{mk:Ix->Value}(hi:ops[i]? =some oi)(hsp:sp i=some(ob,mk))(hsel: ∀(j:Nat)(o:Oper)cs b,ops[j]? =some o->o.op≠ .select cs b):
  ∀(fuel:Nat)(listed:Array Bool)(a:Act)(S:Nat->Option Ix),Tidy listed S→
   (∀j oj,ops[j]? =some oj->j≠i->listed.getD j true=false->(∀e ∈ oj.after,Region.binds md e=true->e.on≠i)->oi.apart ops oj=true)→
   i ∈ Region.ready md ops listed->LF P ops W oi ob mk a→
   (∀b,Fresh W S b->wpAnyF P md ops W sp Q fuel(listed.setIfInBounds i true)(a.put oi.dst(mk b))(putL S i b))->wpAnyF P md ops W sp Q(fuel+1)listed a S:=by
 have go: ∀(K:Act->(Nat->Option Ix)->Prop)(a:Act)(S:Nat->Option Ix),LF P ops W oi ob mk a->(∀b,Fresh W S b->K(a.put oi.dst(mk b))(putL S i b))->fOp P ops W sp i K a S:=fun K a S hy h=>by
  unfold fOp;simp only[hi,hsp];exact⟨hy,h⟩
 intro fuel
 induction fuel with
 | zero=>
  intro listed a S ty _ hr hy H
  refine⟨fun h=>(by rw[h]at hr;cases hr),fun j hj=> ?_⟩
  by_cases hji:j=i
  ·subst hji;exact go _ _ _ hy H
  ·obtain⟨b,hb⟩:=vR W S
   have:=ready_mono hj hji
   rw[(H b hb).1]at this
   cases this
 | succ fuel ih=>
  intro listed a S ty hfree hr hy H
  refine⟨fun h=>(by rw[h]at hr;cases hr),fun j hj=> ?_⟩
  by_cases hji:j=i
  ·subst hji;exact go _ _ _ hy H
  ·have h1:=fun b hb=>(H b hb).2 j(ready_mono hj hji)
   obtain⟨hjun,oj,hoj,hall⟩:=mem_ready.1 hj
   have hnot: ∀e ∈ oj.after,Region.binds md e=true->e.on≠i:=fun e he hb heq=>by
    have h1:=hall e he hb
    have h0:=(mem_ready.1 hr).1
    rw[heq]at h1
    rcases Nat.lt_or_ge i listed.size with h' | h'
    ·simp[h']at h0 h1;rw[h0]at h1;cases h1
    ·simp[Array.getElem?_eq_none h']at h1
   have hap:=hfree j oj hoj hji hjun hnot
   have hfree': ∀k ok,ops[k]? =some ok->k≠i->(listed.setIfInBounds j true).getD k true=false→
     (∀e ∈ ok.after,Region.binds md e=true->e.on≠i)->oi.apart ops ok=true:=fun k ok hk hki hun hno=>by
    refine hfree k ok hk hki ?_ hno
    by_cases hjk:j=k
    ·subst hjk;exact hjun
    ·rw[getD_set_ne true hjk]at hun;exact hun
   have h2:=tJ(Ne.symm hji)hoj hap(fun cs b=>hsel i oi cs b hi)(fun cs b=>hsel j oj cs b hoj)(ty j hjun)hy h1
   -- what j leaves is tidy
   have h4:fOp P ops W sp j(fun a' S'=>Tidy(listed.setIfInBounds j true)S'/\LF P ops W oi ob mk a'/\ ∀b,Fresh W S' b->wpAnyF P md ops W sp Q fuel((listed.setIfInBounds i true).setIfInBounds j true)(a'.put oi.dst(mk b))(putL S' i b))a S:=by
    unfold fOp at h2 ⊢
    cases hs:sp j with
    | none=>
     simp only[hoj,hs]at h2 ⊢
     obtain⟨u,hu,hk⟩:=h2
     exact⟨u,hu,ty.set j,hk⟩
    | some x=>
     simp only[hoj,hs]at h2 ⊢
     exact⟨h2.1,fun b hb=>⟨ty.lay hjun b,h2.2 b hb⟩⟩
   refine lB(fun a' S' h3=>ih(listed.setIfInBounds j true)a' S' h3.1 hfree'(ready_mono hr(Ne.symm hji))h3.2.1(fun b hb=> ?_))h4
   rw[Array.setIfInBounds_comm _ _ hji]
   exact h3.2.2 b hb
def wpFree(P:Program)(ops:Array Oper)(W:World)(sp:Sp)(Q:Act->(Nat->Option Ix)->Prop):List Oper->Nat->Act->(Nat->Option Ix)->Prop
 | [],_,a,S=>Q a S
 | o :: rest,k,a,S=>
  match sp k with
  | none=> ∃v,YF P ops W o v a/\wpFree P ops W sp Q rest(k+1)(a.put o.dst v)S
  | some(ob,mk)=>LF P ops W o ob mk a/\ ∀b,Fresh W S b->wpFree P ops W sp Q rest(k+1)(a.put o.dst(mk b))(putL S k b)
theorem fC{Q:Act->(Nat->Option Ix)->Prop}(hs:Region.noSelect ops=true): ∀(l:List Oper)(k:Nat)(listed:Array Bool)(a:Act)(S:Nat->Option Ix),(∀j,l[j]? =ops[k+j]?)->Tidy listed S→
  Region.lexFrom md ops l.length k listed=true->wpFree P ops W sp Q l k a S->wpAnyF P md ops W sp Q l.length listed a S
 | [],_,_,_,_,_,_,hB,h=>⟨by simpa[Region.lexFrom]using hB,h⟩
 | o :: l,k,listed,a,S,hl,ty,hB,h=>by
  have h0:ops[k]? =some o:=by simpa using(hl 0).symm
  simp only[List.length_cons,Region.lexFrom,Bool.and_eq_true]at hB
  obtain⟨⟨hr,hf⟩,hB'⟩:=hB
  have hr':k ∈ Region.ready md ops listed:=by simpa using hr
  have hl': ∀j,l[j]? =ops[k+1+j]? :=fun j=>by have:=hl(j+1);simpa[Nat.add_assoc,Nat.add_comm 1 j]using this
  cases hsp:sp k with
  | none=>
   simp only[wpFree,hsp]at h
   obtain⟨v,hy,hK⟩:=h
   exact firstY h0 hsp(Region.noSelect_spec hs)l.length listed a S(Region.free_spec h0 hf)hr' hy
    (fC hs l(k+1)_ _ _ hl'(ty.set k)hB' hK)
  | some x=>
   obtain⟨ob,mk⟩:=x
   simp only[wpFree,hsp]at h
   exact firstL h0 hsp(Region.noSelect_spec hs)l.length listed a S ty(Region.free_spec h0 hf)hr' h.1
    (fun b hb=>fC hs l(k+1)_ _ _ hl'(ty.lay(mem_ready.1 hr').1 b)hB'(h.2 b hb))
theorem lC(stb:Stable sp){i:Nat}{a:Act}{S:Nat->Option Ix}{K:Act->(Nat->Option Ix)->Prop}{K':Act->World->Prop}{Q':Exit->Act->World->Prop}{w:World}(hC:Has W sp S w)(h: ∀a S w',Has W sp S w'->K a S->K' a w')(hh:fOp P ops W sp i K a S):wpOp P ops Q' i K' a w:=by
 unfold fOp at hh
 unfold wpOp
 cases ho:ops[i]? with
 | none=>simp only[ho]at hh ⊢;exact h _ _ _ hC hh
 | some o=>
  cases hs:sp i with
  | none=>
   simp only[ho,hs]at hh ⊢
   obtain⟨v,hy,hk⟩:=hh
   rcases hy with⟨w1,hv⟩ | ⟨w1,rfl⟩
   ·rw[if_pos w1]
    refine .inl ?_
    unfold Oper.wp
    rw[hv w hC.1]
    exact h _ _ _ hC hk
   ·rw[if_neg(by rw[w1];exact Bool.false_ne_true)]
    exact h _ _ _ hC hk
  | some x=>
   obtain⟨ob,mk⟩:=x
   simp only[ho,hs]at hh ⊢
   obtain⟨⟨w1,hv⟩,hk⟩:=hh
   rw[if_pos w1]
   refine .inl ?_
   unfold Oper.wp
   have q:=hv w hC.1
   generalize(execOp a.eval o).run P w=r at q
   match r,q with
   | .ok(.value u)w2,⟨b,hu,ha,hb,ho2⟩=>
    subst hu
    exact h _ _ _(hC.lay stb hs ha hb ho2)(hk b(hC.freshb(fun d e=>(hb d e).1)))
   | .ok(.enter f args)w2,⟨e,hc⟩=>
    subst e
    refine Calls.mono hc ?_
    rintro e2 w3⟨b,rfl,ha,hb,ho2⟩
    exact h _ _ _(hC.lay stb hs ha hb ho2)(hk b(hC.freshb(fun d e=>(hb d e).1)))
end
theorem tK{P:Program}{md:Region.Mode}{ops hd:Array Oper}{W:World}{sp:Sp}{n:Nat}(hhd: ∀i,i<n->hd[i]? =ops[i]?)(hb:backB md ops n=true){i:Nat}(hi:i<n){K:Act->(Nat->Option Ix)->Prop}{a:Act}{S:Nat->Option Ix}(h:fOp P hd W sp i K a S):fOp P ops W sp i K a S:=by
 unfold fOp at*
 rw[hhd i hi]at h
 cases ho:ops[i]? with
 | none=>rw[ho]at h;exact h
 | some o=>
  have e:Region.wanted o(yielded hd a.tmps)=Region.wanted o(yielded ops a.tmps):=by
   unfold Region.wanted
   cases hg:o.guard with
   | none=>rfl
   | some jb=>
    obtain⟨j,b⟩:=jb
    have lt:=(jJ hb hi ho).2 j b hg
    show(yielded hd a.tmps j==some b)=(yielded ops a.tmps j==some b)
    unfold yielded
    rw[hhd j lt]
  simp only[ho]at h ⊢
  cases hs:sp i with
  | none=>
   simp only[hs]at h ⊢
   unfold YF at*
   rw[e]at h
   exact h
  | some x=>
   simp only[hs]at h ⊢
   unfold LF at*
   rw[e]at h
   exact h
theorem iE{P:Program}{md:Region.Mode}{ops hd:Array Oper}{W:World}{sp:Sp}(stb:Stable sp){n:Nat}{g:Nat}{Q1:Act->(Nat->Option Ix)->Prop}{Q':Exit->Act->World->Prop}(hhd: ∀i,i<n->hd[i]? =ops[i]?)(hsz:hd.size=n)(hn:n<ops.size)(hb:backB md ops n=true)(hs:Region.sinkB md ops n=true)(hc:Region.chainB md ops n=true)
  (hL: ∀a S w,Has W sp S w->Q1 a S->wpAny P md ops Q' g(finA ops.size n)a w):
  ∀(fuel:Nat)(listed lh:Array Bool)(a:Act)(S:Nat->Option Ix)(w:World),Has W sp S w->HeadInv md ops n listed->lh.size=n->(∀i,i<n->lh.getD i true=listed.getD i true)→
   wpAnyF P md hd W sp Q1 fuel lh a S->wpAny P md ops Q'(fuel+g)listed a w:=by
 intro fuel
 induction fuel with
 | zero=>
  intro listed lh a S w hC inv hl he h
  have hls:n<=listed.size:=by rw[inv.size];omega
  rcases eZ(by omega)hb hls with all | ⟨i,hi,hr⟩
  ·rw[Nat.zero_add,pG hn inv all]
   exact hL a S w hC h.2
  ·have:=(fX hhd hb hl hls he hi).2 hr
   rw[h.1]at this
   cases this
 | succ fuel ih=>
  intro listed lh a S w hC inv hl he h
  have hls:n<=listed.size:=by rw[inv.size];omega
  rcases eZ(by omega)hb hls with all | ⟨i0,hi0,hr0⟩
  ·have no:Region.ready md hd lh=[]:=by
    rw[List.eq_nil_iff_forall_not_mem]
    intro i hi
    obtain⟨u,o,ho,_⟩:=mem_ready.1 hi
    have lt:i<n:=by rw[<- hsz];exact(Array.getElem?_eq_some_iff.1 ho).1
    rw[he i lt,all i lt]at u
    cases u
   rw[Nat.add_comm(fuel+1)g,pG hn inv all]
   exact jU g(fuel+1)_ a w(hL a S w hC(h.1 no))
  ·rw[show fuel+1+g=(fuel+g)+1 by omega]
   refine⟨fun h0=>(by rw[h0]at hr0;cases hr0),fun i hi=> ?_⟩
   have lt:i<n:=by
    by_cases c:i<n
    ·exact c
    ·exact absurd hi(tail_waits hs hc hn inv _ i0 rfl hi0(mem_ready.1 hr0).1 i(by omega))
   have hq:=tK hhd hb lt(h.2 i((fX hhd hb hl hls he lt).2 hi))
   refine lC stb hC(fun a' S' w' hC' h'=>ih _ _ a' S' w' hC'(inv.set hi lt)(by simp[hl])(fun j hj=> ?_)h')hq
   by_cases e:i=j
   ·subst e
    simp[hl,lt,show i<listed.size by omega]
   ·rw[getD_set_ne true e,getD_set_ne true e,he j hj]
theorem lD{P:Program}{id:Nat}{Q:Exit->Act->World->Prop}{a:Act}{w:World}{l:List Oper}(n:Nat)(sp:Sp)(stb:Stable sp)(hm:P.follows .mixedOrders=true)(hB:Region.lexB .any(l.take n).toArray=true)(hT:tailB l.toArray n=true)
  (h:wpFree P(l.take n).toArray w.drew sp(fun a' S=> ∀w',Has w.drew sp S w'->wpList P l.toArray Q(l.drop n)a' w')(l.take n)0 a(fun _=>none)):(Code.region id l.toArray true).wp P Q a w:=by
 simp only[tailB,Bool.and_eq_true,decide_eq_true_eq]at hT
 obtain⟨⟨⟨⟨hn,hb⟩,hs⟩,hc⟩,hq⟩:=hT
 have hn':n<l.length:=by simpa using hn
 have htl:(l.take n).toArray.size=n:=by simp;omega
 have hdl:(l.drop n).length=l.toArray.size - n:=by simp
 refine wp_region_any hm ?_
 simp only[Region.lexB,Bool.and_eq_true]at hB
 have H:=fC(P:=P)(W:=w.drew)(sp:=sp)(md:=.any)hB.1(l.take n)0(Array.replicate(l.take n).toArray.size false)a(fun _=>none)(by simp)(fun _ _=>rfl)(by simpa using hB.2)h
 have inv0:HeadInv .any l.toArray n(Array.replicate l.toArray.size false):=
  ⟨by simp,fun j oj _ hl=>(by rw[getD_replicate_false]at hl;cases hl),fun t _ ht=>getD_in(by simpa using ht)(getD_replicate_false _ _)⟩
 have:=iE stb(P:=P)(Q':=Q)(g:=l.toArray.size - n)(hd:=(l.take n).toArray)(ops:=l.toArray)(fun i hi=>by simp[hi])htl hn hb hs hc
  (fun a' S' w' hC' h'=>by
   have:=wpAny_of_seq(P:=P)(md:=.any)(ops:=l.toArray)(Q':=Q)(l.drop n)n(finA l.toArray.size n)a' w'(fun j=>by simp)(by rw[hdl];exact hq)(h' w' hC')
   rwa [hdl]at this)
  (l.take n).length _ _ a(fun _=>none)w.drew⟨Ab.refl _,fun i b e=>by cases e⟩inv0(by simpa using htl)(fun i hi=>by
   rw[getD_in(listed:=Array.replicate l.toArray.size false)(by simp;omega)(getD_replicate_false _ _)]
   exact getD_in(by rw[Array.size_replicate];omega)(getD_replicate_false _ _))H
 have e:(l.take n).length+(l.toArray.size - n)=l.toArray.size:=by simp;omega
 rw[e]at this
 exact this
section
variable{P:Program}{ops:Array Oper}{W:World}{sp:Sp}{Q:Act->(Nat->Option Ix)->Prop}{o:Oper}{rest:List Oper}{k:Nat}{a:Act}{S:Nat->Option Ix}
theorem dT{U:Type}{F:U->World}(HF:Hid(∀w',Ab W w'-> ∃u,w'=F u))(hs:sp k=none)(hp:plainB o.op=true)(h:wpQuiet P ops(fun w'=> ∃u,w'=F u)(fun a'=>wpFree P ops W sp Q rest(k+1)a' S) [o]a):wpFree P ops W sp Q(o :: rest)k a S:=by
 simp only[wpFree,hs]
 simp only[wpQuiet]at h
 by_cases c:Region.wanted o(yielded ops a.tmps)=true
 ·rw[if_pos c]at h
  obtain⟨v,h1,h2⟩:=h
  refine⟨v,.inl⟨c,fun w hw=> ?_⟩,h2⟩
  have q:=h1 w(HF.out w hw)
  unfold Oper.quietAt at q
  cases e:(execOp a.eval o).run P w with
  | ok n w'=>
   obtain⟨x,rfl⟩:=qH hp e
   rw[e]at q
   obtain⟨q1,q2⟩:=q
   rw[q1,q2]
  | halt x w'=>rw[e]at q;exact absurd q(by simp[Oper.quietUpon])
 ·rw[if_neg c]at h
  exact⟨undef,.inr⟨by simpa using c,rfl⟩,h⟩
theorem dY{ob:Ix->World->Prop}{mk:Ix->Value}(hs:sp k=some(ob,mk))(hw:Region.wanted o(yielded ops a.tmps)=true)(hr: ∀w,Ab W w->LayR P w ob mk((execOp a.eval o).run P w))
  (h: ∀b,Fresh W S b->wpFree P ops W sp Q rest(k+1)(a.put o.dst(mk b))(putL S k b)):wpFree P ops W sp Q(o :: rest)k a S:=by
 simp only[wpFree,hs]
 exact⟨⟨hw,hr⟩,h⟩
theorem kC{ob:Ix->World->Prop}{mk:Ix->Value}{O:Obj}{c:Nat}(h: ∀w,Ab W w->(execOp a.eval o).run P w=.ok(.value(mk(some w.heap.size,c)))(w.alloc O))(hR: ∀w,Ab W w->ob(some w.heap.size,c)(w.alloc O)): ∀w,Ab W w->LayR P w ob mk((execOp a.eval o).run P w):=fun w hw=>by
 rw[h w hw]
 refine⟨(some w.heap.size,c),rfl,bl1 _ _,fun b e=> ?_,hR w hw⟩
 injection e with e
 subst e
 refine⟨Nat.le_refl _,?_⟩
 show _<(w.heap.push O).size
 simp
theorem lay_call{ob:Ix->World->Prop}{mk:Ix->Value}{f:FuncId}{args:Array Value}(h1: ∀w,(execOp a.eval o).run P w=.ok(.enter f args)w)(h2: ∀w,Ab W w->Calls P f args w(fun e w2=> ∃x,e=.returned(mk x)/\Ab w w2/\(∀b,x.1=some b->w.heap.size<=b/\b<w2.heap.size)/\ob x w2)): ∀w,Ab W w->LayR P w ob mk((execOp a.eval o).run P w):=fun w hw=>by
 rw[h1 w]
 exact⟨rfl,h2 w hw⟩
theorem rD{s:Sem Value}{w w':World}{x:Value}(h:s.run P w=.ok x w'):(do pure(Next.value(← s)):Sem Next).run P w=.ok(.value x)w':=by
 rw[Sem.run_bind,h]
 rfl
theorem Hx{t:TypeId}{u:Value}{w w':World}(ho:o.op=.alloc t)(M:(Instr.alloc t true(.tuple #[])).run P w=.ok u w'):(execOp a.eval o).run P w=.ok(.value u)w':=by
 unfold execOp
 rw[ho]
 exact rD M
theorem Da(v:Value)(hs:sp k=none)(hw:Region.wanted o(yielded ops a.tmps)=true)(hr: ∀w,(execOp a.eval o).run P w=.ok(.value v)w)
  (h:wpFree P ops W sp Q rest(k+1)(a.put o.dst v)S):wpFree P ops W sp Q(o :: rest)k a S:=by
 simp only[wpFree,hs]
 exact⟨v,.inl⟨hw,fun w _=>hr w⟩,h⟩
theorem jV(h:Q a S):wpFree P ops W sp Q []k a S:=h
end
theorem Has.at{W:World}{sp:Sp}{S:Nat->Option Ix}{w:World}(h:Has W sp S w){i:Nat}{x:Ix}{R:Ix->World->Prop}{mk:Ix->Value}(e:S i=some x)(s:sp i=some(R,mk)):R x w/\ ∀b,x.1=some b->W.heap.size<=b/\b<w.heap.size:=by
 obtain⟨h1,o,m,h2,h3⟩:=h.2 i x e
 rw[s]at h2
 injection h2 with h2
 injection h2 with h2
 subst h2
 exact⟨h3,h1⟩
end Cg
end
end Go.Proofs.YtaphajlpbgcfjaaGreatDoor
