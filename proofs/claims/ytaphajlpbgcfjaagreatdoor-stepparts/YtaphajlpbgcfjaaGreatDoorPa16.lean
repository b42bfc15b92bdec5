/-
  Some of the texts of this proof, one behind the other.
-/
import Derived.Test.YtaphajlpbgcfjaaGreatDoorPa15
set_option maxRecDepth 100000
set_option maxHeartbeats 400000000
namespace Go.Proofs.YtaphajlpbgcfjaaGreatDoor
open _root_.Go.Proofs.Tryz
section
open Go.RowKit Go.Deep
namespace Tr
open Sh
def oY(W h:Int)(n:Nat)(f:Nat->Int):Prop:=0<=W/\0<=h/\okA W f n
def tkL(W h:Int)(n:Nat)(f:Nat->Int):List Int:=(List.range n).map (tkA h W f)
def TakesC:Prop:= ∀(W h:Int) (p:Option Addr) (n c:Nat) (f:Nat->Int) (w:World),Sh.W64 W->Sh.W64 h->n<=65536->IsI w p n f->
 (oY W h n f->Calls prog 124 #[.int .i64 W,.int .i64 h,.slice p n c] w fun e w'=> ∃v,e=.returned (.tuple #[v,.int .i64 0])/\Below w.heap.size w w'/\Own w.heap.size v (tkL W h n f) w')/\
 (¬oY W h n f->Calls prog 124 #[.int .i64 W,.int .i64 h,.slice p n c] w fun e w'=>e=.returned (.tuple #[.slice none 0 0,.int .i64 1])/\Below w.heap.size w w')
theorem tk_w64{W h:Int}{n:Nat}{f:Nat->Int}(g:oY W h n f)(hh:Sh.W64 h){i:Nat}(hi:i<n):0<=tkA h W f i/\tkA h W f i<=h:=⟨tk_nn g.2.1 hh.2 g.2.2 hi,tk_in g.2.1 hh.2 g.2.2 hi⟩
end Tr
end
section
open Go.RowKit Go.Deep Cu
namespace Tr
open Sh
def FlowsC:Prop:= ∀(n gb:Nat) (pw:Option Addr) (lw cw:Nat) (W:Nat->Int) (ph:Option Addr) (lh ch:Nat) (H:Nat->Int) (pf:Option Addr) (lf cf:Nat) (F:Nat->Int) (w:World),(1<=n/\n<=32)->GridOf n gb w->lw<=65536->lh<=65536->lf<=65536->IsI w pw lw W->IsI w ph lh H->IsI w pf lf F->
 (Bu n lw W lh H lf F->Calls prog 21 #[.pointer (some ⟨gb,0,none⟩),.slice pw lw cw,.slice ph lh ch,.slice pf lf cf] w fun e w'=> ∃v,e=.returned (.tuple #[v,.int .i64 0])/\Below w.heap.size w w'/\Own w.heap.size v ((List.range (12*n*n)).map (flF n W H F)) w')/\
 (¬Bu n lw W lh H lf F->Calls prog 21 #[.pointer (some ⟨gb,0,none⟩),.slice pw lw cw,.slice ph lh ch,.slice pf lf cf] w fun e w'=>e=.returned (.tuple #[.slice none 0 0,.int .i64 1])/\Below w.heap.size w w')
end Tr
end
section
open Go.RowKit Go.Deep Cu
namespace Ms
open Sh
def W64(x:Int):Prop:= -9223372036854775808<=x/\x<=9223372036854775807
def fit2(n lw lf:Nat):Prop:=lw=6*n*n/\lf=12*n*n
def can(n:Nat)(W F:Nat->Int):Prop:= ∀c,c<6*n*n->0<=mv n W F c/\mv n W F c<=9223372036854775807
def MoveC:Prop:= ∀(n gb:Nat) (pw:Option Addr) (lw cw:Nat) (W:Nat->Int) (pf:Option Addr) (lf cf:Nat) (F:Nat->Int) (w:World),(1<=n/\n<=32)->GridOf n gb w->lw<=9223372036854775807->lf<=9223372036854775807->IsI w pw lw W->IsI w pf lf F->
 (fit2 n lw lf->can n W F->Calls prog 23 #[.pointer (some ⟨gb,0,none⟩),.slice pw lw cw,.slice pf lf cf] w fun e w'=> ∃v,e=.returned (.tuple #[v,.int .i64 0])/\Below w.heap.size w w'/\Own w.heap.size v ((List.range (6*n*n)).map (mv n W F)) w')/\
 (fit2 n lw lf-> ¬can n W F->Calls prog 23 #[.pointer (some ⟨gb,0,none⟩),.slice pw lw cw,.slice pf lf cf] w fun e w'=>e=.returned (.tuple #[.slice none 0 0,.int .i64 20])/\Below w.heap.size w w')/\
 (¬fit2 n lw lf->Calls prog 23 #[.pointer (some ⟨gb,0,none⟩),.slice pw lw cw,.slice pf lf cf] w fun e w'=>e=.returned (.tuple #[.slice none 0 0,.int .i64 1])/\Below w.heap.size w w')
end Ms
end
section
open Go.RowKit Tf Cu Go.Deep
attribute [local go_sem] aL aM aP aQ aR aV aW aF
namespace St
open Ss Fc
theorem BX(sd:Int)(dt gr dr:Nat)(lim:Int)(rv:Bool)(pr:Option Addr)(lr cr:Nat)(pb:Option Addr)(lb cb:Nat)(pw:Option Addr)(lw cw:Nat)(pt:Option Addr)(lt ct:Nat)(ps:Option Addr)(ls cs:Nat)(sky st:Int)(w:World)
  (LV:Hid (∀v,Ab w v->Calls prog 9 #[] v fun e w'=>e=.returned (.bool true)/\Below v.heap.size v w'))
  (GD:Hid (∀v,Ab w v->Calls prog 10 #[.agg #[.int .i64 sd,.float .f64 dt,.float .f64 gr,.float .f64 dr,.int .i64 lim,.bool rv,.slice pr lr cr],.agg #[.slice pb lb cb,.slice pw lw cw,.slice pt lt ct,.slice ps ls cs,.int .i64 sky,.int .i64 st]] v fun e w'=>e=.returned (.tuple #[.pointer none,.bool false])/\Below v.heap.size v w')):
  Calls prog 4 #[.agg #[.int .i64 sd,.float .f64 dt,.float .f64 gr,.float .f64 dr,.int .i64 lim,.bool rv,.slice pr lr cr],.agg #[.slice pb lb cb,.slice pw lw cw,.slice pt lt ct,.slice ps ls cs,.int .i64 sky,.int .i64 st]] w fun e w'=>e=.returned (.bool true)/\Below w.heap.size w w':=by
 obtain⟨A0,R0,Q0⟩:=bM w (.cells #[.int .i64 sd,.float .f64 dt,.float .f64 gr,.float .f64 dr,.int .i64 lim,.bool rv,.slice pr lr cr] 25) (.cells #[.slice pb lb cb,.slice pw lw cw,.slice pt lt ct,.slice ps ls cs,.int .i64 sky,.int .i64 st] 29)
 go_enter func4,ntmps4
 go_upto_region 1 with fail
 generalize hW:World.alloc (World.alloc w _) _=V0 at*
 obtain⟨ga,hga⟩:=aD w.heap.size
 obtain⟨gq,hgq⟩:=aD (w.heap.size+1)
 have HGQ:Hid (w.heap.size<=ga/\w.heap.size<=gq):=by show _/\_;omega
 rw[hgq]at Q0 ⊢
 rw[hga]at R0 ⊢
 clear hga hgq hW
 go_wp2_with fail
 refine(LV.out V0 A0.out).mono ?_
 rintro e9 v1 ⟨rfl,b1⟩
 have A1:Hid (Ab w v1):=A0.out.trans b1
 have R1:=hid (Ab.heap b1 R0.out)
 have Q1:=hid (Ab.heap b1 Q0.out)
 clear b1 A0 R0 Q0 LV
 have x0:=aJ R1.out
 have y0:=aE Q1.out
 go_wp2_with fail
 refine(GD.out v1 A1.out).mono ?_
 rintro e9 v2 ⟨rfl,b2⟩
 have A2:Hid (Ab w v2):=A1.out.trans b2
 have R2:=hid (Ab.heap b2 R1.out)
 have Q2:=hid (Ab.heap b2 Q1.out)
 clear b2 A1 R1 Q1 GD x0 y0
 go_wp2
 go_ret
 exact⟨rfl,A2.out⟩
theorem BZ(n:Nat)(sd:Int)(dt gr dr:Nat)(lim:Int)(pr:Option Addr)(lr cr:Nat)(pb:Option Addr)(lb cb:Nat)(pw:Option Addr)(lw cw:Nat)(pt:Option Addr)(lt ct:Nat)(ps:Option Addr)(ls cs:Nat)(sky st:Int)(N M:Nat)(B sp:Nat->Nat)(wt wa tr mw mt ra:Nat->Int)(sk1 st1:Int)(w:World)(hN:N<=12288)(hM:M<=12288)
  (LV:Hid (∀v,Ab w v->Calls prog 9 #[] v fun e w'=>e=.returned (.bool true)/\Below v.heap.size v w'))
  (GD:Hid (∀v,Ab w v->Calls prog 10 #[.agg #[.int .i64 sd,.float .f64 dt,.float .f64 gr,.float .f64 dr,.int .i64 lim,.bool false,.slice pr lr cr],.agg #[.slice pb lb cb,.slice pw lw cw,.slice pt lt ct,.slice ps ls cs,.int .i64 sky,.int .i64 st]] v fun e w'=> ∃gb,e=.returned (.tuple #[.pointer (some ⟨gb,0,none⟩),.bool true])/\Below v.heap.size v w'/\GridOf n gb w'))
  (ON:Hid (∀v gb,Ab w v->GridOf n gb v->Calls prog 14 #[.pointer (some ⟨gb,0,none⟩),.agg #[.int .i64 sd,.float .f64 dt,.float .f64 gr,.float .f64 dr,.int .i64 lim,.bool false,.slice pr lr cr],.agg #[.slice pb lb cb,.slice pw lw cw,.slice pt lt ct,.slice ps ls cs,.int .i64 sky,.int .i64 st]] v fun e w'=> ∃vv,e=.returned (.tuple #[vv,.int .i64 0])/\Below v.heap.size v w'/\OwnS v.heap.size vv lb N N M B ra mt sp sk1 st1 w'))
  (FL:Hid (∀v gb,Ab w v->GridOf n gb v->Calls prog 17 #[.pointer (some ⟨gb,0,none⟩),.agg #[.int .i64 sd,.float .f64 dt,.float .f64 gr,.float .f64 dr,.int .i64 lim,.bool false,.slice pr lr cr],.agg #[.slice pb lb cb,.slice pw lw cw,.slice pt lt ct,.slice ps ls cs,.int .i64 sky,.int .i64 st]] v fun e w'=> ∃p1 c1 p2 c2,e=.returned (.tuple #[.agg #[.slice p1 M c1,.slice p2 M c2],.int .i64 0])/\Below v.heap.size v w'/\Sh.IsI w' p1 M wa/\Sh.IsI w' p2 M tr))
  (SP:Hid (∀v gb,Ab w v->GridOf n gb v->Calls prog 18 #[.pointer (some ⟨gb,0,none⟩),.agg #[.int .i64 sd,.float .f64 dt,.float .f64 gr,.float .f64 dr,.int .i64 lim,.bool false,.slice pr lr cr],.agg #[.slice pb lb cb,.slice pw lw cw,.slice pt lt ct,.slice ps ls cs,.int .i64 sky,.int .i64 st]] v fun e w'=> ∃p1 c1,e=.returned (.tuple #[.slice p1 M c1,.int .i64 0])/\Below v.heap.size v w'/\IsFl w' p1 M sp))
  (FX:Hid (∀v gb p c,Ab w v->GridOf n gb v->IsFl v p M sp->Calls prog 19 #[.pointer (some ⟨gb,0,none⟩),.agg #[.int .i64 sd,.float .f64 dt,.float .f64 gr,.float .f64 dr,.int .i64 lim,.bool false,.slice pr lr cr],.agg #[.slice pb lb cb,.slice pw lw cw,.slice pt lt ct,.slice p M c,.int .i64 sky,.int .i64 st]] v fun e w'=> ∃p1 c1,e=.returned (.tuple #[.slice p1 M c1,.int .i64 0])/\Below v.heap.size v w'/\Sh.IsI w' p1 M wt))
  (SH:Hid (∀v gb p c,Ab w v->GridOf n gb v->Sh.IsI v p M wt->Calls prog 20 #[.pointer (some ⟨gb,0,none⟩),.slice pw lw cw,.slice p M c] v fun e w'=> ∃p1 c1,e=.returned (.tuple #[.slice p1 M c1,.int .i64 0])/\Below v.heap.size v w'/\Sh.IsI w' p1 M wa))
  (TR:Hid (∀v gb p c,Ab w v->GridOf n gb v->Sh.IsI v p M wa->Calls prog 21 #[.pointer (some ⟨gb,0,none⟩),.slice pw lw cw,.slice pt lt ct,.slice p M c] v fun e w'=> ∃p1 c1,e=.returned (.tuple #[.slice p1 M c1,.int .i64 0])/\Below v.heap.size v w'/\Sh.IsI w' p1 M tr))
  (MT:Hid (∀v gb p c,Ab w v->GridOf n gb v->Sh.IsI v p M tr->Calls prog 23 #[.pointer (some ⟨gb,0,none⟩),.slice pt lt ct,.slice p M c] v fun e w'=> ∃p1 c1,e=.returned (.tuple #[.slice p1 N c1,.int .i64 0])/\Below v.heap.size v w'/\Sh.IsI w' p1 N mt))
  (MW:Hid (∀v gb p c,Ab w v->GridOf n gb v->Sh.IsI v p M wa->Calls prog 23 #[.pointer (some ⟨gb,0,none⟩),.slice pw lw cw,.slice p M c] v fun e w'=> ∃p1 c1,e=.returned (.tuple #[.slice p1 N c1,.int .i64 0])/\Below v.heap.size v w'/\Sh.IsI w' p1 N mw))
  (RA:Hid (∀v p c,Ab w v->Sh.IsI v p N mw->Calls prog 24 #[.slice p N c,.int .i64 sky,.slice pr lr cr,.int .i64 st] v fun e w'=> ∃p1 c1,e=.returned (.tuple #[.slice p1 N c1,.int .i64 sk1,.int .i64 0])/\Below v.heap.size v w'/\Sh.IsI w' p1 N ra))
  (WH:Hid (∀v p q (k c d:Nat) (G:Nat->Int),k<=12288->Sh.IsI v p k G->Sh.IsI v q k G->Calls prog 22 #[.slice p k c,.slice q k d] v fun e w'=>e=.returned (.bool true)/\Below v.heap.size v w'))
  (AL:Hid (∀v p q (c d:Nat),IsFl v p M sp->IsFl v q M sp->Calls prog 16 #[.slice p M c,.slice q M d] v fun e w'=>e=.returned (.bool true)/\Below v.heap.size v w'))
  (BT:Hid (Bnd lb N N M B ra mt sp)):
  Calls prog 4 #[.agg #[.int .i64 sd,.float .f64 dt,.float .f64 gr,.float .f64 dr,.int .i64 lim,.bool false,.slice pr lr cr],.agg #[.slice pb lb cb,.slice pw lw cw,.slice pt lt ct,.slice ps ls cs,.int .i64 sky,.int .i64 st]] w fun e w'=>e=.returned (.bool true)/\Below w.heap.size w w':=by
 have NM:Hid (N<=12288/\M<=12288):=⟨hN,hM⟩
 have ss:(sk1 != sk1)=false:=by simp
 clear hN hM
 obtain⟨A0,R0,Q0⟩:=bM w (.cells #[.int .i64 sd,.float .f64 dt,.float .f64 gr,.float .f64 dr,.int .i64 lim,.bool false,.slice pr lr cr] 25) (.cells #[.slice pb lb cb,.slice pw lw cw,.slice pt lt ct,.slice ps ls cs,.int .i64 sky,.int .i64 st] 29)
 go_enter func4,ntmps4
 go_upto_region 1 with fail
 generalize hW:World.alloc (World.alloc w _) _=V0 at*
 obtain⟨ga,hga⟩:=aD w.heap.size
 obtain⟨gq,hgq⟩:=aD (w.heap.size+1)
 have HGQ:Hid (w.heap.size<=ga/\w.heap.size<=gq):=by show _/\_;omega
 rw[hgq]at Q0 ⊢
 rw[hga]at R0 ⊢
 clear hga hgq hW
 go_wp2_with fail
 refine(LV.out V0 A0.out).mono ?_
 rintro e9 v1 ⟨rfl,b1⟩
 have A1:Hid (Ab w v1):=A0.out.trans b1
 have R1:=hid (Ab.heap b1 R0.out)
 have Q1:=hid (Ab.heap b1 Q0.out)
 clear b1 A0 R0 Q0 LV
 obtain⟨x0,x1,x2,x3,x4,x5,x6⟩:=aJ R1.out
 obtain⟨y0,y1,y2,y3,y4,y5⟩:=aE Q1.out
 go_wp2_with fail
 refine(GD.out v1 A1.out).mono ?_
 rintro e9 v2 ⟨gb,rfl,b2,g2⟩
 have G2:=hid g2
 clear g2
 have A2:Hid (Ab w v2):=A1.out.trans b2
 have R2:=hid (Ab.heap b2 R1.out)
 have Q2:=hid (Ab.heap b2 Q1.out)
 clear b2 A1 R1 Q1 GD x0 x1 x2 x3 x4 x5 x6 y0 y1 y2 y3 y4 y5
 obtain⟨x0,x1,x2,x3,x4,x5,x6⟩:=aJ R2.out
 obtain⟨y0,y1,y2,y3,y4,y5⟩:=aE Q2.out
 go_wp2_with fail
 refine(ON.out v2 gb A2.out G2.out).mono ?_
 rintro e9 u3 ⟨vv,rfl,b3,os⟩
 obtain⟨tp1,tc1,tp2,tc2,tp3,tc3,tp4,tc4,rfl,sn⟩:=wT os BT.out
 have BB:Hid (Ab v2 (u3.alloc (.cells #[.slice tp1 lb tc1,.slice tp2 N tc2,.slice tp3 N tc3,.slice tp4 M tc4,.int .i64 sk1,.int .i64 st1] 29))):=(show Ab v2 u3 from b3).trans (bl1 _ _)
 have St3:Hid (SeaP u3.heap.size tp1 tc1 tp2 tc2 tp3 tc3 tp4 tc4 lb N N M B ra mt sp sk1 st1 (u3.alloc (.cells #[.slice tp1 lb tc1,.slice tp2 N tc2,.slice tp3 N tc3,.slice tp4 M tc4,.int .i64 sk1,.int .i64 st1] 29))):=⟨sn.1,sn.2.1⟩
 clear os sn b3 x0 x1 x2 x3 x4 x5 x6 y0 y1 y2 y3 y4 y5 ON BT
 go_upto_region 7 with fail
 generalize hW:World.alloc u3 _=v3 at*
 obtain⟨gt,hg⟩:=aD u3.heap.size
 rw[hg]at St3 ⊢
 clear hg hW
 have A3:Hid (Ab w v3):=A2.out.trans BB.out
 have R3:=hid (Ab.heap BB.out R2.out)
 have Q3:=hid (Ab.heap BB.out Q2.out)
 have G3:=hid (G2.out.to BB.out)
 clear A2 R2 Q2 G2
 clear BB
 obtain⟨x0,x1,x2,x3,x4,x5,x6⟩:=aJ R3.out
 obtain⟨y0,y1,y2,y3,y4,y5⟩:=aE Q3.out
 go_wp2_with fail
 refine(FL.out v3 gb A3.out G3.out).mono ?_
 rintro e9 u4 ⟨fp,fc,hp,hc,rfl,b4,i1,i2⟩
 have BB:Hid (Ab v3 (u4.alloc (.cells #[.slice fp M fc,.slice hp M hc] 46))):=(show Ab v3 u4 from b4).trans (bl1 _ _)
 have F4:=hid (heap_alloc_new u4 (.cells #[.slice fp M fc,.slice hp M hc] 46))
 have J4:=hid (i1.below (bl1 u4 (.cells #[.slice fp M fc,.slice hp M hc] 46)))
 have K4:=hid (i2.below (bl1 u4 (.cells #[.slice fp M fc,.slice hp M hc] 46)))
 clear b4 i1 i2 FL x0 x1 x2 x3 x4 x5 x6 y0 y1 y2 y3 y4 y5
 go_upto_region 8 with fail
 generalize hW:World.alloc u4 _=v4 at*
 obtain⟨gf,hg⟩:=aD u4.heap.size
 rw[hg]at F4 ⊢
 clear hg hW
 have A4:Hid (Ab w v4):=A3.out.trans BB.out
 have R4:=hid (Ab.heap BB.out R3.out)
 have Q4:=hid (Ab.heap BB.out Q3.out)
 have G4:=hid (G3.out.to BB.out)
 have St4:=hid (bJ St3.out BB.out)
 clear A3 R3 Q3 G3 St3
 clear BB
 obtain⟨x0,x1,x2,x3,x4,x5,x6⟩:=aJ R4.out
 obtain⟨y0,y1,y2,y3,y4,y5⟩:=aE Q4.out
 go_wp2_with fail
 refine(SP.out v4 gb A4.out G4.out).mono ?_
 rintro e9 v5 ⟨yp,yc,rfl,b5,iY⟩
 have Y5:=hid iY
 have J5:=hid (J4.out.below b5)
 clear J4
 have K5:=hid (K4.out.below b5)
 clear K4
 have F5:=hid (Ab.heap b5 F4.out)
 clear F4
 have A5:Hid (Ab w v5):=A4.out.trans b5
 have R5:=hid (Ab.heap b5 R4.out)
 have Q5:=hid (Ab.heap b5 Q4.out)
 have G5:=hid (G4.out.to b5)
 have St5:=hid (bJ St4.out b5)
 clear A4 R4 Q4 G4 St4
 clear b5 iY x0 x1 x2 x3 x4 x5 x6 y0 y1 y2 y3 y4 y5 SP
 obtain⟨y0,y1,y2,y3,y4,y5⟩:=aE Q5.out
 obtain⟨BB,M6⟩:=aO v5 (.cells #[.slice pb lb cb,.slice pw lw cw,.slice pt lt ct,.slice yp M yc,.int .i64 sky,.int .i64 st] 29)
 go_upto_region 13 with fail
 generalize hW:World.alloc v5 _=v6 at*
 obtain⟨gm,hg⟩:=aD v5.heap.size
 rw[hg]at M6 ⊢
 clear hg hW y0 y1 y2 y3 y4 y5
 have J6:=hid (J5.out.below BB.out)
 clear J5
 have K6:=hid (K5.out.below BB.out)
 clear K5
 have Y6:=hid (Y5.out.below BB.out)
 clear Y5
 have F6:=hid (Ab.heap BB.out F5.out)
 clear F5
 have A6:Hid (Ab w v6):=A5.out.trans BB.out
 have R6:=hid (Ab.heap BB.out R5.out)
 have Q6:=hid (Ab.heap BB.out Q5.out)
 have G6:=hid (G5.out.to BB.out)
 have St6:=hid (bJ St5.out BB.out)
 clear A5 R5 Q5 G5 St5
 clear BB
 obtain⟨x0,x1,x2,x3,x4,x5,x6⟩:=aJ R6.out
 obtain⟨y0,y1,y2,y3,y4,y5⟩:=aE M6.out
 go_wp2_with fail
 refine(FX.out v6 gb _ _ A6.out G6.out Y6.out).mono ?_
 rintro e9 v7 ⟨wp,wc,rfl,b7,iW⟩
 have W7:=hid iW
 have J7:=hid (J6.out.below b7)
 clear J6
 have K7:=hid (K6.out.below b7)
 clear K6
 have Y7:=hid (Y6.out.below b7)
 clear Y6
 have F7:=hid (Ab.heap b7 F6.out)
 clear F6
 have M7:=hid (Ab.heap b7 M6.out)
 clear M6
 have A7:Hid (Ab w v7):=A6.out.trans b7
 have R7:=hid (Ab.heap b7 R6.out)
 have Q7:=hid (Ab.heap b7 Q6.out)
 have G7:=hid (G6.out.to b7)
 have St7:=hid (bJ St6.out b7)
 clear A6 R6 Q6 G6 St6
 clear b7 iW x0 x1 x2 x3 x4 x5 x6 y0 y1 y2 y3 y4 y5 FX
 clear M7
 have y1:=aA 1 Q7.out
 go_wp2_with fail
 refine(SH.out v7 gb _ _ A7.out G7.out W7.out).mono ?_
 rintro e9 v8 ⟨up,uc,rfl,b8,iU⟩
 have U8:=hid iU
 have J8:=hid (J7.out.below b8)
 clear J7
 have K8:=hid (K7.out.below b8)
 clear K7
 have Y8:=hid (Y7.out.below b8)
 clear Y7
 have W8:=hid (W7.out.below b8)
 clear W7
 have F8:=hid (Ab.heap b8 F7.out)
 clear F7
 have A8:Hid (Ab w v8):=A7.out.trans b8
 have R8:=hid (Ab.heap b8 R7.out)
 have Q8:=hid (Ab.heap b8 Q7.out)
 have G8:=hid (G7.out.to b8)
 have St8:=hid (bJ St7.out b8)
 clear A7 R7 Q7 G7 St7
 clear b8 iU y1 SH
 clear W8
 have y1:=aA 1 Q8.out
 have y2:=aA 2 Q8.out
 go_wp2_with fail
 refine(TR.out v8 gb _ _ A8.out G8.out U8.out).mono ?_
 rintro e9 v9 ⟨zp,zc,rfl,b9,iZ⟩
 have Z9:=hid iZ
 have J9:=hid (J8.out.below b9)
 clear J8
 have K9:=hid (K8.out.below b9)
 clear K8
 have Y9:=hid (Y8.out.below b9)
 clear Y8
 have U9:=hid (U8.out.below b9)
 clear U8
 have F9:=hid (Ab.heap b9 F8.out)
 clear F8
 have A9:Hid (Ab w v9):=A8.out.trans b9
 have R9:=hid (Ab.heap b9 R8.out)
 have Q9:=hid (Ab.heap b9 Q8.out)
 have G9:=hid (G8.out.to b9)
 have St9:=hid (bJ St8.out b9)
 clear A8 R8 Q8 G8 St8
 clear b9 iZ y1 y2 TR
 have z0:=aA 0 F9.out
 go_wp2_with fail
 refine(WH.out v9 _ _ M _ _ _ NM.out.2 J9.out U9.out).mono ?_
 rintro e9 v10 ⟨rfl,b10⟩
 have J10:=hid (J9.out.below b10)
 clear J9
 have K10:=hid (K9.out.below b10)
 clear K9
 have Y10:=hid (Y9.out.below b10)
 clear Y9
 have U10:=hid (U9.out.below b10)
 clear U9
 have Z10:=hid (Z9.out.below b10)
 clear Z9
 have F10:=hid (Ab.heap b10 F9.out)
 clear F9
 have A10:Hid (Ab w v10):=A9.out.trans b10
 have R10:=hid (Ab.heap b10 R9.out)
 have Q10:=hid (Ab.heap b10 Q9.out)
 have G10:=hid (G9.out.to b10)
 have St10:=hid (bJ St9.out b10)
 clear A9 R9 Q9 G9 St9
 clear b10 z0
 have z1:=aA 1 F10.out
 go_wp2_with fail
 refine(WH.out v10 _ _ M _ _ _ NM.out.2 K10.out Z10.out).mono ?_
 rintro e9 v11 ⟨rfl,b11⟩
 have J11:=hid (J10.out.below b11)
 clear J10
 have K11:=hid (K10.out.below b11)
 clear K10
 have Y11:=hid (Y10.out.below b11)
 clear Y10
 have U11:=hid (U10.out.below b11)
 clear U10
 have Z11:=hid (Z10.out.below b11)
 clear Z10
 have F11:=hid (Ab.heap b11 F10.out)
 clear F10
 have A11:Hid (Ab w v11):=A10.out.trans b11
 have R11:=hid (Ab.heap b11 R10.out)
 have Q11:=hid (Ab.heap b11 Q10.out)
 have G11:=hid (G10.out.to b11)
 have St11:=hid (bJ St10.out b11)
 clear A10 R10 Q10 G10 St10
 clear b11 z1
 have n3:=aA 3 St11.out.1
 go_wp2_with fail
 refine(AL.out v11 _ _ _ _ St11.out.2.2.2.2 Y11.out).mono ?_
 rintro e9 v12 ⟨rfl,b12⟩
 have J12:=hid (J11.out.below b12)
 clear J11
 have K12:=hid (K11.out.below b12)
 clear K11
 have Y12:=hid (Y11.out.below b12)
 clear Y11
 have U12:=hid (U11.out.below b12)
 clear U11
 have Z12:=hid (Z11.out.below b12)
 clear Z11
 have F12:=hid (Ab.heap b12 F11.out)
 clear F11
 have A12:Hid (Ab w v12):=A11.out.trans b12
 have R12:=hid (Ab.heap b12 R11.out)
 have Q12:=hid (Ab.heap b12 Q11.out)
 have G12:=hid (G11.out.to b12)
 have St12:=hid (bJ St11.out b12)
 clear A11 R11 Q11 G11 St11
 clear b12 n3
 clear F12 J12 K12
 have y2:=aA 2 Q12.out
 go_wp2_with fail
 refine(MT.out v12 gb _ _ A12.out G12.out Z12.out).mono ?_
 rintro e9 v13 ⟨h_p,h_c,rfl,b13,iH⟩
 have H13:=hid iH
 have Y13:=hid (Y12.out.below b13)
 clear Y12
 have U13:=hid (U12.out.below b13)
 clear U12
 have Z13:=hid (Z12.out.below b13)
 clear Z12
 have A13:Hid (Ab w v13):=A12.out.trans b13
 have R13:=hid (Ab.heap b13 R12.out)
 have Q13:=hid (Ab.heap b13 Q12.out)
 have G13:=hid (G12.out.to b13)
 have St13:=hid (bJ St12.out b13)
 clear A12 R12 Q12 G12 St12
 clear b13 iH y2 MT
 clear Z13
 have y1:=aA 1 Q13.out
 go_wp2_with fail
 refine(MW.out v13 gb _ _ A13.out G13.out U13.out).mono ?_
 rintro e9 v14 ⟨lp,lc,rfl,b14,iL⟩
 have L14:=hid iL
 have Y14:=hid (Y13.out.below b14)
 clear Y13
 have U14:=hid (U13.out.below b14)
 clear U13
 have H14:=hid (H13.out.below b14)
 clear H13
 have A14:Hid (Ab w v14):=A13.out.trans b14
 have R14:=hid (Ab.heap b14 R13.out)
 have Q14:=hid (Ab.heap b14 Q13.out)
 have G14:=hid (G13.out.to b14)
 have St14:=hid (bJ St13.out b14)
 clear A13 R13 Q13 G13 St13
 clear b14 iL y1 MW
 clear U14
 have y4:=aA 4 Q14.out
 have x6:=aA 6 R14.out
 have y5:=aA 5 Q14.out
 go_wp2_with fail
 refine(RA.out v14 _ _ A14.out L14.out).mono ?_
 rintro e9 v15 ⟨ep,ec,rfl,b15,iE⟩
 have E15:=hid iE
 have Y15:=hid (Y14.out.below b15)
 clear Y14
 have H15:=hid (H14.out.below b15)
 clear H14
 have L15:=hid (L14.out.below b15)
 clear L14
 have A15:Hid (Ab w v15):=A14.out.trans b15
 have R15:=hid (Ab.heap b15 R14.out)
 have Q15:=hid (Ab.heap b15 Q14.out)
 have G15:=hid (G14.out.to b15)
 have St15:=hid (bJ St14.out b15)
 clear A14 R14 Q14 G14 St14
 clear b15 iE y4 x6 y5 RA
 clear L15
 have n4:=aA 4 St15.out.1
 have x5:=aA 5 R15.out
 have n1:=aA 1 St15.out.1
 go_wp2_with fail
 refine(WH.out v15 _ _ N _ _ _ NM.out.1 St15.out.2.2.1 E15.out).mono ?_
 rintro e9 v16 ⟨rfl,b16⟩
 have Y16:=hid (Y15.out.below b16)
 clear Y15
 have H16:=hid (H15.out.below b16)
 clear H15
 have E16:=hid (E15.out.below b16)
 clear E15
 have A16:Hid (Ab w v16):=A15.out.trans b16
 have R16:=hid (Ab.heap b16 R15.out)
 have Q16:=hid (Ab.heap b16 Q15.out)
 have G16:=hid (G15.out.to b16)
 have St16:=hid (bJ St15.out b16)
 clear A15 R15 Q15 G15 St15
 clear b16 n1
 have n2:=aA 2 St16.out.1
 go_wp2_with fail
 refine(WH.out v16 _ _ N _ _ _ NM.out.1 St16.out.2.2.2.1 H16.out).mono ?_
 rintro e9 v17 ⟨rfl,b17⟩
 have Y17:=hid (Y16.out.below b17)
 clear Y16
 have H17:=hid (H16.out.below b17)
 clear H16
 have E17:=hid (E16.out.below b17)
 clear E16
 have A17:Hid (Ab w v17):=A16.out.trans b17
 have R17:=hid (Ab.heap b17 R16.out)
 have Q17:=hid (Ab.heap b17 Q16.out)
 have G17:=hid (G16.out.to b17)
 have St17:=hid (bJ St16.out b17)
 clear A16 R16 Q16 G16 St16
 clear b17 n2
 go_wp2
 go_ret
 exact⟨rfl,A17.out⟩
theorem zP(n:Nat)(sd:Int)(dt gr dr:Nat)(lim:Int)(pr:Option Addr)(lr cr:Nat)(pb:Option Addr)(lb cb:Nat)(pw:Option Addr)(lw cw:Nat)(pt:Option Addr)(lt ct:Nat)(ps:Option Addr)(ls cs:Nat)(sky st:Int)(N M:Nat)(B sp:Nat->Nat)(wt wa tr mw mt ra r1 r2:Nat->Int)(sk1 st1:Int)(w:World)(hN:N<=12288)(hM:M<=12288)
  (LV:Hid (∀v,Ab w v->Calls prog 9 #[] v fun e w'=>e=.returned (.bool true)/\Below v.heap.size v w'))
  (GD:Hid (∀v,Ab w v->Calls prog 10 #[.agg #[.int .i64 sd,.float .f64 dt,.float .f64 gr,.float .f64 dr,.int .i64 lim,.bool true,.slice pr lr cr],.agg #[.slice pb lb cb,.slice pw lw cw,.slice pt lt ct,.slice ps ls cs,.int .i64 sky,.int .i64 st]] v fun e w'=> ∃gb,e=.returned (.tuple #[.pointer (some ⟨gb,0,none⟩),.bool true])/\Below v.heap.size v w'/\GridOf n gb w'))
  (ON:Hid (∀v gb,Ab w v->GridOf n gb v->Calls prog 14 #[.pointer (some ⟨gb,0,none⟩),.agg #[.int .i64 sd,.float .f64 dt,.float .f64 gr,.float .f64 dr,.int .i64 lim,.bool true,.slice pr lr cr],.agg #[.slice pb lb cb,.slice pw lw cw,.slice pt lt ct,.slice ps ls cs,.int .i64 sky,.int .i64 st]] v fun e w'=> ∃vv,e=.returned (.tuple #[vv,.int .i64 0])/\Below v.heap.size v w'/\OwnS v.heap.size vv lb N N M B r1 r2 sp sk1 st1 w'))
  (FL:Hid (∀v gb,Ab w v->GridOf n gb v->Calls prog 17 #[.pointer (some ⟨gb,0,none⟩),.agg #[.int .i64 sd,.float .f64 dt,.float .f64 gr,.float .f64 dr,.int .i64 lim,.bool true,.slice pr lr cr],.agg #[.slice pb lb cb,.slice pw lw cw,.slice pt lt ct,.slice ps ls cs,.int .i64 sky,.int .i64 st]] v fun e w'=> ∃p1 c1 p2 c2,e=.returned (.tuple #[.agg #[.slice p1 M c1,.slice p2 M c2],.int .i64 0])/\Below v.heap.size v w'/\Sh.IsI w' p1 M wa/\Sh.IsI w' p2 M tr))
  (SP:Hid (∀v gb,Ab w v->GridOf n gb v->Calls prog 18 #[.pointer (some ⟨gb,0,none⟩),.agg #[.int .i64 sd,.float .f64 dt,.float .f64 gr,.float .f64 dr,.int .i64 lim,.bool true,.slice pr lr cr],.agg #[.slice pb lb cb,.slice pw lw cw,.slice pt lt ct,.slice ps ls cs,.int .i64 sky,.int .i64 st]] v fun e w'=> ∃p1 c1,e=.returned (.tuple #[.slice p1 M c1,.int .i64 0])/\Below v.heap.size v w'/\IsFl w' p1 M sp))
  (FX:Hid (∀v gb p c,Ab w v->GridOf n gb v->IsFl v p M sp->Calls prog 19 #[.pointer (some ⟨gb,0,none⟩),.agg #[.int .i64 sd,.float .f64 dt,.float .f64 gr,.float .f64 dr,.int .i64 lim,.bool true,.slice pr lr cr],.agg #[.slice pb lb cb,.slice pw lw cw,.slice pt lt ct,.slice p M c,.int .i64 sky,.int .i64 st]] v fun e w'=> ∃p1 c1,e=.returned (.tuple #[.slice p1 M c1,.int .i64 0])/\Below v.heap.size v w'/\Sh.IsI w' p1 M wt))
  (SH:Hid (∀v gb p c,Ab w v->GridOf n gb v->Sh.IsI v p M wt->Calls prog 20 #[.pointer (some ⟨gb,0,none⟩),.slice pw lw cw,.slice p M c] v fun e w'=> ∃p1 c1,e=.returned (.tuple #[.slice p1 M c1,.int .i64 0])/\Below v.heap.size v w'/\Sh.IsI w' p1 M wa))
  (TR:Hid (∀v gb p c,Ab w v->GridOf n gb v->Sh.IsI v p M wa->Calls prog 21 #[.pointer (some ⟨gb,0,none⟩),.slice pw lw cw,.slice pt lt ct,.slice p M c] v fun e w'=> ∃p1 c1,e=.returned (.tuple #[.slice p1 M c1,.int .i64 0])/\Below v.heap.size v w'/\Sh.IsI w' p1 M tr))
  (MT:Hid (∀v gb p c,Ab w v->GridOf n gb v->Sh.IsI v p M tr->Calls prog 23 #[.pointer (some ⟨gb,0,none⟩),.slice pt lt ct,.slice p M c] v fun e w'=> ∃p1 c1,e=.returned (.tuple #[.slice p1 N c1,.int .i64 0])/\Below v.heap.size v w'/\Sh.IsI w' p1 N mt))
  (MW:Hid (∀v gb p c,Ab w v->GridOf n gb v->Sh.IsI v p M wa->Calls prog 23 #[.pointer (some ⟨gb,0,none⟩),.slice pw lw cw,.slice p M c] v fun e w'=> ∃p1 c1,e=.returned (.tuple #[.slice p1 N c1,.int .i64 0])/\Below v.heap.size v w'/\Sh.IsI w' p1 N mw))
  (RA:Hid (∀v p c,Ab w v->Sh.IsI v p N mw->Calls prog 24 #[.slice p N c,.int .i64 sky,.slice pr lr cr,.int .i64 st] v fun e w'=> ∃p1 c1,e=.returned (.tuple #[.slice p1 N c1,.int .i64 sk1,.int .i64 0])/\Below v.heap.size v w'/\Sh.IsI w' p1 N ra))
  (WH:Hid (∀v p q (k c d:Nat) (G:Nat->Int),k<=12288->Sh.IsI v p k G->Sh.IsI v q k G->Calls prog 22 #[.slice p k c,.slice q k d] v fun e w'=>e=.returned (.bool true)/\Below v.heap.size v w'))
  (AL:Hid (∀v p q (c d:Nat),IsFl v p M sp->IsFl v q M sp->Calls prog 16 #[.slice p M c,.slice q M d] v fun e w'=>e=.returned (.bool true)/\Below v.heap.size v w'))
  (BT:Hid (Bnd lb N N M B r1 r2 sp))
  (RI:Hid (∀v gb p2 c2 p3 c3 p4 c4,Ab w v->GridOf n gb v->Sh.IsI v p2 N ra->Sh.IsI v p3 N mt->IsFl v p4 M sp->Calls prog 25 #[.pointer (some ⟨gb,0,none⟩),.agg #[.slice pb lb cb,.slice p2 N c2,.slice p3 N c3,.slice p4 M c4,.int .i64 sk1,.int .i64 st]] v fun e w'=> ∃p1 c1 p2 c2,e=.returned (.tuple #[.slice p1 N c1,.slice p2 N c2,.int .i64 0])/\Below v.heap.size v w'/\Sh.IsI w' p1 N r1/\Sh.IsI w' p2 N r2)):
  Calls prog 4 #[.agg #[.int .i64 sd,.float .f64 dt,.float .f64 gr,.float .f64 dr,.int .i64 lim,.bool true,.slice pr lr cr],.agg #[.slice pb lb cb,.slice pw lw cw,.slice pt lt ct,.slice ps ls cs,.int .i64 sky,.int .i64 st]] w fun e w'=>e=.returned (.bool true)/\Below w.heap.size w w':=by
 have NM:Hid (N<=12288/\M<=12288):=⟨hN,hM⟩
 have ss:(sk1 != sk1)=false:=by simp
 clear hN hM
 obtain⟨A0,R0,Q0⟩:=bM w (.cells #[.int .i64 sd,.float .f64 dt,.float .f64 gr,.float .f64 dr,.int .i64 lim,.bool true,.slice pr lr cr] 25) (.cells #[.slice pb lb cb,.slice pw lw cw,.slice pt lt ct,.slice ps ls cs,.int .i64 sky,.int .i64 st] 29)
 go_enter func4,ntmps4
 go_upto_region 1 with fail
 generalize hW:World.alloc (World.alloc w _) _=V0 at*
 obtain⟨ga,hga⟩:=aD w.heap.size
 obtain⟨gq,hgq⟩:=aD (w.heap.size+1)
 have HGQ:Hid (w.heap.size<=ga/\w.heap.size<=gq):=by show _/\_;omega
 rw[hgq]at Q0 ⊢
 rw[hga]at R0 ⊢
 clear hga hgq hW
 go_wp2_with fail
 refine(LV.out V0 A0.out).mono ?_
 rintro e9 v1 ⟨rfl,b1⟩
 have A1:Hid (Ab w v1):=A0.out.trans b1
 have R1:=hid (Ab.heap b1 R0.out)
 have Q1:=hid (Ab.heap b1 Q0.out)
 clear b1 A0 R0 Q0 LV
 obtain⟨x0,x1,x2,x3,x4,x5,x6⟩:=aJ R1.out
 obtain⟨y0,y1,y2,y3,y4,y5⟩:=aE Q1.out
 go_wp2_with fail
 refine(GD.out v1 A1.out).mono ?_
 rintro e9 v2 ⟨gb,rfl,b2,g2⟩
 have G2:=hid g2
 clear g2
 have A2:Hid (Ab w v2):=A1.out.trans b2
 have R2:=hid (Ab.heap b2 R1.out)
 have Q2:=hid (Ab.heap b2 Q1.out)
 clear b2 A1 R1 Q1 GD x0 x1 x2 x3 x4 x5 x6 y0 y1 y2 y3 y4 y5
 obtain⟨x0,x1,x2,x3,x4,x5,x6⟩:=aJ R2.out
 obtain⟨y0,y1,y2,y3,y4,y5⟩:=aE Q2.out
 go_wp2_with fail
 refine(ON.out v2 gb A2.out G2.out).mono ?_
 rintro e9 u3 ⟨vv,rfl,b3,os⟩
 obtain⟨tp1,tc1,tp2,tc2,tp3,tc3,tp4,tc4,rfl,sn⟩:=wT os BT.out
 have BB:Hid (Ab v2 (u3.alloc (.cells #[.slice tp1 lb tc1,.slice tp2 N tc2,.slice tp3 N tc3,.slice tp4 M tc4,.int .i64 sk1,.int .i64 st1] 29))):=(show Ab v2 u3 from b3).trans (bl1 _ _)
 have St3:Hid (SeaP u3.heap.size tp1 tc1 tp2 tc2 tp3 tc3 tp4 tc4 lb N N M B r1 r2 sp sk1 st1 (u3.alloc (.cells #[.slice tp1 lb tc1,.slice tp2 N tc2,.slice tp3 N tc3,.slice tp4 M tc4,.int .i64 sk1,.int .i64 st1] 29))):=⟨sn.1,sn.2.1⟩
 clear os sn b3 x0 x1 x2 x3 x4 x5 x6 y0 y1 y2 y3 y4 y5 ON BT
 go_upto_region 7 with fail
 generalize hW:World.alloc u3 _=v3 at*
 obtain⟨gt,hg⟩:=aD u3.heap.size
 rw[hg]at St3 ⊢
 clear hg hW
 have A3:Hid (Ab w v3):=A2.out.trans BB.out
 have R3:=hid (Ab.heap BB.out R2.out)
 have Q3:=hid (Ab.heap BB.out Q2.out)
 have G3:=hid (G2.out.to BB.out)
 clear A2 R2 Q2 G2
 clear BB
 obtain⟨x0,x1,x2,x3,x4,x5,x6⟩:=aJ R3.out
 obtain⟨y0,y1,y2,y3,y4,y5⟩:=aE Q3.out
 go_wp2_with fail
 refine(FL.out v3 gb A3.out G3.out).mono ?_
 rintro e9 u4 ⟨fp,fc,hp,hc,rfl,b4,i1,i2⟩
 have BB:Hid (Ab v3 (u4.alloc (.cells #[.slice fp M fc,.slice hp M hc] 46))):=(show Ab v3 u4 from b4).trans (bl1 _ _)
 have F4:=hid (heap_alloc_new u4 (.cells #[.slice fp M fc,.slice hp M hc] 46))
 have J4:=hid (i1.below (bl1 u4 (.cells #[.slice fp M fc,.slice hp M hc] 46)))
 have K4:=hid (i2.below (bl1 u4 (.cells #[.slice fp M fc,.slice hp M hc] 46)))
 clear b4 i1 i2 FL x0 x1 x2 x3 x4 x5 x6 y0 y1 y2 y3 y4 y5
 go_upto_region 8 with fail
 generalize hW:World.alloc u4 _=v4 at*
 obtain⟨gf,hg⟩:=aD u4.heap.size
 rw[hg]at F4 ⊢
 clear hg hW
 have A4:Hid (Ab w v4):=A3.out.trans BB.out
 have R4:=hid (Ab.heap BB.out R3.out)
 have Q4:=hid (Ab.heap BB.out Q3.out)
 have G4:=hid (G3.out.to BB.out)
 have St4:=hid (bJ St3.out BB.out)
 clear A3 R3 Q3 G3 St3
 clear BB
 obtain⟨x0,x1,x2,x3,x4,x5,x6⟩:=aJ R4.out
 obtain⟨y0,y1,y2,y3,y4,y5⟩:=aE Q4.out
 go_wp2_with fail
 refine(SP.out v4 gb A4.out G4.out).mono ?_
 rintro e9 v5 ⟨yp,yc,rfl,b5,iY⟩
 have Y5:=hid iY
 have J5:=hid (J4.out.below b5)
 clear J4
 have K5:=hid (K4.out.below b5)
 clear K4
 have F5:=hid (Ab.heap b5 F4.out)
 clear F4
 have A5:Hid (Ab w v5):=A4.out.trans b5
 have R5:=hid (Ab.heap b5 R4.out)
 have Q5:=hid (Ab.heap b5 Q4.out)
 have G5:=hid (G4.out.to b5)
 have St5:=hid (bJ St4.out b5)
 clear A4 R4 Q4 G4 St4
 clear b5 iY x0 x1 x2 x3 x4 x5 x6 y0 y1 y2 y3 y4 y5 SP
 obtain⟨y0,y1,y2,y3,y4,y5⟩:=aE Q5.out
 obtain⟨BB,M6⟩:=aO v5 (.cells #[.slice pb lb cb,.slice pw lw cw,.slice pt lt ct,.slice yp M yc,.int .i64 sky,.int .i64 st] 29)
 go_upto_region 13 with fail
 generalize hW:World.alloc v5 _=v6 at*
 obtain⟨gm,hg⟩:=aD v5.heap.size
 rw[hg]at M6 ⊢
 clear hg hW y0 y1 y2 y3 y4 y5
 have J6:=hid (J5.out.below BB.out)
 clear J5
 have K6:=hid (K5.out.below BB.out)
 clear K5
 have Y6:=hid (Y5.out.below BB.out)
 clear Y5
 have F6:=hid (Ab.heap BB.out F5.out)
 clear F5
 have A6:Hid (Ab w v6):=A5.out.trans BB.out
 have R6:=hid (Ab.heap BB.out R5.out)
 have Q6:=hid (Ab.heap BB.out Q5.out)
 have G6:=hid (G5.out.to BB.out)
 have St6:=hid (bJ St5.out BB.out)
 clear A5 R5 Q5 G5 St5
 clear BB
 obtain⟨x0,x1,x2,x3,x4,x5,x6⟩:=aJ R6.out
 obtain⟨y0,y1,y2,y3,y4,y5⟩:=aE M6.out
 go_wp2_with fail
 refine(FX.out v6 gb _ _ A6.out G6.out Y6.out).mono ?_
 rintro e9 v7 ⟨wp,wc,rfl,b7,iW⟩
 have W7:=hid iW
 have J7:=hid (J6.out.below b7)
 clear J6
 have K7:=hid (K6.out.below b7)
 clear K6
 have Y7:=hid (Y6.out.below b7)
 clear Y6
 have F7:=hid (Ab.heap b7 F6.out)
 clear F6
 have M7:=hid (Ab.heap b7 M6.out)
 clear M6
 have A7:Hid (Ab w v7):=A6.out.trans b7
 have R7:=hid (Ab.heap b7 R6.out)
 have Q7:=hid (Ab.heap b7 Q6.out)
 have G7:=hid (G6.out.to b7)
 have St7:=hid (bJ St6.out b7)
 clear A6 R6 Q6 G6 St6
 clear b7 iW x0 x1 x2 x3 x4 x5 x6 y0 y1 y2 y3 y4 y5 FX
 clear M7
 have y1:=aA 1 Q7.out
 go_wp2_with fail
 refine(SH.out v7 gb _ _ A7.out G7.out W7.out).mono ?_
 rintro e9 v8 ⟨up,uc,rfl,b8,iU⟩
 have U8:=hid iU
 have J8:=hid (J7.out.below b8)
 clear J7
 have K8:=hid (K7.out.below b8)
 clear K7
 have Y8:=hid (Y7.out.below b8)
 clear Y7
 have W8:=hid (W7.out.below b8)
 clear W7
 have F8:=hid (Ab.heap b8 F7.out)
 clear F7
 have A8:Hid (Ab w v8):=A7.out.trans b8
 have R8:=hid (Ab.heap b8 R7.out)
 have Q8:=hid (Ab.heap b8 Q7.out)
 have G8:=hid (G7.out.to b8)
 have St8:=hid (bJ St7.out b8)
 clear A7 R7 Q7 G7 St7
 clear b8 iU y1 SH
 clear W8
 have y1:=aA 1 Q8.out
 have y2:=aA 2 Q8.out
 go_wp2_with fail
 refine(TR.out v8 gb _ _ A8.out G8.out U8.out).mono ?_
 rintro e9 v9 ⟨zp,zc,rfl,b9,iZ⟩
 have Z9:=hid iZ
 have J9:=hid (J8.out.below b9)
 clear J8
 have K9:=hid (K8.out.below b9)
 clear K8
 have Y9:=hid (Y8.out.below b9)
 clear Y8
 have U9:=hid (U8.out.below b9)
 clear U8
 have F9:=hid (Ab.heap b9 F8.out)
 clear F8
 have A9:Hid (Ab w v9):=A8.out.trans b9
 have R9:=hid (Ab.heap b9 R8.out)
 have Q9:=hid (Ab.heap b9 Q8.out)
 have G9:=hid (G8.out.to b9)
 have St9:=hid (bJ St8.out b9)
 clear A8 R8 Q8 G8 St8
 clear b9 iZ y1 y2 TR
 have z0:=aA 0 F9.out
 go_wp2_with fail
 refine(WH.out v9 _ _ M _ _ _ NM.out.2 J9.out U9.out).mono ?_
 rintro e9 v10 ⟨rfl,b10⟩
 have J10:=hid (J9.out.below b10)
 clear J9
 have K10:=hid (K9.out.below b10)
 clear K9
 have Y10:=hid (Y9.out.below b10)
 clear Y9
 have U10:=hid (U9.out.below b10)
 clear U9
 have Z10:=hid (Z9.out.below b10)
 clear Z9
 have F10:=hid (Ab.heap b10 F9.out)
 clear F9
 have A10:Hid (Ab w v10):=A9.out.trans b10
 have R10:=hid (Ab.heap b10 R9.out)
 have Q10:=hid (Ab.heap b10 Q9.out)
 have G10:=hid (G9.out.to b10)
 have St10:=hid (bJ St9.out b10)
 clear A9 R9 Q9 G9 St9
 clear b10 z0
 have z1:=aA 1 F10.out
 go_wp2_with fail
 refine(WH.out v10 _ _ M _ _ _ NM.out.2 K10.out Z10.out).mono ?_
 rintro e9 v11 ⟨rfl,b11⟩
 have J11:=hid (J10.out.below b11)
 clear J10
 have K11:=hid (K10.out.below b11)
 clear K10
 have Y11:=hid (Y10.out.below b11)
 clear Y10
 have U11:=hid (U10.out.below b11)
 clear U10
 have Z11:=hid (Z10.out.below b11)
 clear Z10
 have F11:=hid (Ab.heap b11 F10.out)
 clear F10
 have A11:Hid (Ab w v11):=A10.out.trans b11
 have R11:=hid (Ab.heap b11 R10.out)
 have Q11:=hid (Ab.heap b11 Q10.out)
 have G11:=hid (G10.out.to b11)
 have St11:=hid (bJ St10.out b11)
 clear A10 R10 Q10 G10 St10
 clear b11 z1
 have n3:=aA 3 St11.out.1
 go_wp2_with fail
 refine(AL.out v11 _ _ _ _ St11.out.2.2.2.2 Y11.out).mono ?_
 rintro e9 v12 ⟨rfl,b12⟩
 have J12:=hid (J11.out.below b12)
 clear J11
 have K12:=hid (K11.out.below b12)
 clear K11
 have Y12:=hid (Y11.out.below b12)
 clear Y11
 have U12:=hid (U11.out.below b12)
 clear U11
 have Z12:=hid (Z11.out.below b12)
 clear Z11
 have F12:=hid (Ab.heap b12 F11.out)
 clear F11
 have A12:Hid (Ab w v12):=A11.out.trans b12
 have R12:=hid (Ab.heap b12 R11.out)
 have Q12:=hid (Ab.heap b12 Q11.out)
 have G12:=hid (G11.out.to b12)
 have St12:=hid (bJ St11.out b12)
 clear A11 R11 Q11 G11 St11
 clear b12 n3
 clear F12 J12 K12
 have y2:=aA 2 Q12.out
 go_wp2_with fail
 refine(MT.out v12 gb _ _ A12.out G12.out Z12.out).mono ?_
 rintro e9 v13 ⟨h_p,h_c,rfl,b13,iH⟩
 have H13:=hid iH
 have Y13:=hid (Y12.out.below b13)
 clear Y12
 have U13:=hid (U12.out.below b13)
 clear U12
 have Z13:=hid (Z12.out.below b13)
 clear Z12
 have A13:Hid (Ab w v13):=A12.out.trans b13
 have R13:=hid (Ab.heap b13 R12.out)
 have Q13:=hid (Ab.heap b13 Q12.out)
 have G13:=hid (G12.out.to b13)
 have St13:=hid (bJ St12.out b13)
 clear A12 R12 Q12 G12 St12
 clear b13 iH y2 MT
 clear Z13
 have y1:=aA 1 Q13.out
 go_wp2_with fail
 refine(MW.out v13 gb _ _ A13.out G13.out U13.out).mono ?_
 rintro e9 v14 ⟨lp,lc,rfl,b14,iL⟩
 have L14:=hid iL
 have Y14:=hid (Y13.out.below b14)
 clear Y13
 have U14:=hid (U13.out.below b14)
 clear U13
 have H14:=hid (H13.out.below b14)
 clear H13
 have A14:Hid (Ab w v14):=A13.out.trans b14
 have R14:=hid (Ab.heap b14 R13.out)
 have Q14:=hid (Ab.heap b14 Q13.out)
 have G14:=hid (G13.out.to b14)
 have St14:=hid (bJ St13.out b14)
 clear A13 R13 Q13 G13 St13
 clear b14 iL y1 MW
 clear U14
 have y4:=aA 4 Q14.out
 have x6:=aA 6 R14.out
 have y5:=aA 5 Q14.out
 go_wp2_with fail
 refine(RA.out v14 _ _ A14.out L14.out).mono ?_
 rintro e9 v15 ⟨ep,ec,rfl,b15,iE⟩
 have E15:=hid iE
 have Y15:=hid (Y14.out.below b15)
 clear Y14
 have H15:=hid (H14.out.below b15)
 clear H14
 have L15:=hid (L14.out.below b15)
 clear L14
 have A15:Hid (Ab w v15):=A14.out.trans b15
 have R15:=hid (Ab.heap b15 R14.out)
 have Q15:=hid (Ab.heap b15 Q14.out)
 have G15:=hid (G14.out.to b15)
 have St15:=hid (bJ St14.out b15)
 clear A14 R14 Q14 G14 St14
 clear b15 iE y4 x6 y5 RA
 clear L15
 have n4:=aA 4 St15.out.1
 have x5:=aA 5 R15.out
 have y0:=aA 0 Q15.out
 have y5:=aA 5 Q15.out
 obtain⟨BB,D16⟩:=aO v15 (.cells #[.slice pb lb cb,.slice ep N ec,.slice h_p N h_c,.slice yp M yc,.int .i64 sk1,.int .i64 st] 29)
 go_upto_region 25 with fail
 generalize hW:World.alloc v15 _=v16 at*
 obtain⟨gu,hg⟩:=aD v15.heap.size
 rw[hg]at D16 ⊢
 clear hg hW y0 y5 n4 x5
 have Y16:=hid (Y15.out.below BB.out)
 clear Y15
 have H16:=hid (H15.out.below BB.out)
 clear H15
 have E16:=hid (E15.out.below BB.out)
 clear E15
 have A16:Hid (Ab w v16):=A15.out.trans BB.out
 have R16:=hid (Ab.heap BB.out R15.out)
 have Q16:=hid (Ab.heap BB.out Q15.out)
 have G16:=hid (G15.out.to BB.out)
 have St16:=hid (bJ St15.out BB.out)
 clear A15 R15 Q15 G15 St15
 clear BB
 have d0:=aE D16.out
 go_wp2_with fail
 refine(RI.out v16 gb _ _ _ _ _ _ A16.out G16.out E16.out H16.out Y16.out).mono ?_
 rintro e9 v17 ⟨op,oc,xp,xc,rfl,b17,iO,iX⟩
 have O17:=hid iO
 have X17:=hid iX
 have Y17:=hid (Y16.out.below b17)
 clear Y16
 have H17:=hid (H16.out.below b17)
 clear H16
 have E17:=hid (E16.out.below b17)
 clear E16
 have D17:=hid (Ab.heap b17 D16.out)
 clear D16
 have A17:Hid (Ab w v17):=A16.out.trans b17
 have R17:=hid (Ab.heap b17 R16.out)
 have Q17:=hid (Ab.heap b17 Q16.out)
 have G17:=hid (G16.out.to b17)
 have St17:=hid (bJ St16.out b17)
 clear A16 R16 Q16 G16 St16
 clear b17 iO iX d0 RI
 have n1:=aA 1 St17.out.1
 go_wp2_with fail
 refine(WH.out v17 _ _ N _ _ _ NM.out.1 St17.out.2.2.1 O17.out).mono ?_
 rintro e9 v18 ⟨rfl,b18⟩
 have Y18:=hid (Y17.out.below b18)
 clear Y17
 have H18:=hid (H17.out.below b18)
 clear H17
 have E18:=hid (E17.out.below b18)
 clear E17
 have O18:=hid (O17.out.below b18)
 clear O17
 have X18:=hid (X17.out.below b18)
 clear X17
 have D18:=hid (Ab.heap b18 D17.out)
 clear D17
 have A18:Hid (Ab w v18):=A17.out.trans b18
 have R18:=hid (Ab.heap b18 R17.out)
 have Q18:=hid (Ab.heap b18 Q17.out)
 have G18:=hid (G17.out.to b18)
 have St18:=hid (bJ St17.out b18)
 clear A17 R17 Q17 G17 St17
 clear b18 n1
 have n2:=aA 2 St18.out.1
 go_wp2_with fail
 refine(WH.out v18 _ _ N _ _ _ NM.out.1 St18.out.2.2.2.1 X18.out).mono ?_
 rintro e9 v19 ⟨rfl,b19⟩
 have Y19:=hid (Y18.out.below b19)
 clear Y18
 have H19:=hid (H18.out.below b19)
 clear H18
 have E19:=hid (E18.out.below b19)
 clear E18
 have O19:=hid (O18.out.below b19)
 clear O18
 have X19:=hid (X18.out.below b19)
 clear X18
 have D19:=hid (Ab.heap b19 D18.out)
 clear D18
 have A19:Hid (Ab w v19):=A18.out.trans b19
 have R19:=hid (Ab.heap b19 R18.out)
 have Q19:=hid (Ab.heap b19 Q18.out)
 have G19:=hid (G18.out.to b19)
 have St19:=hid (bJ St18.out b19)
 clear A18 R18 Q18 G18 St18
 clear b19 n2
 go_wp2
 go_ret
 exact⟨rfl,A19.out⟩
theorem own_isF{M n:Nat}{v:Value}{f:Nat->Nat}{w:World}(h:OwnG M v ((List.range n).map f) w)(hf: ∀i,i<n->f i<18446744073709551616): ∃p c,v=.slice p n c/\IsFl w p n f:=by
 obtain⟨p,c,rfl⟩: ∃p c,v=.slice p n c:=by
  obtain⟨p,c,e⟩:=fH h
  exact⟨p,c,by rw[e,List.length_map,List.length_range]⟩
 exact⟨p,c,rfl,wY h hf⟩
theorem zQ(OC:OneC)(FC:FlowC)(PB:PlanB)(CB:CheckB)(SPC:SpeedsC)(FXC:AllC)(SHC:Sh.AllC)(TRC:Tr.FlowsC)(MVC:Ms.MoveC)(FAC:Rn.FallC)(RUC:Rv.RunC){sd:Int}{dt gr dr:Nat}{lim:Int}{rv:Bool}{pr:Option Addr}{lr cr:Nat}{R:Nat->Int × Int × Int × Int}{pb:Option Addr}{lb cb:Nat}{B:Nat->Nat}{pw:Option Addr}{lw cw:Nat}{W:Nat->Int}{pt:Option Addr}{lt ct:Nat}{T:Nat->Int}{ps:Option Addr}{ls cs:Nat}{S:Nat->Nat}{sky st:Int}(w:World)(hF:Fr w)(h64:Sh.W64 sd/\Sh.W64 lim/\Sh.W64 sky/\Sh.W64 st)(hf:dt<18446744073709551616/\gr<18446744073709551616/\dr<18446744073709551616)(hlr:lr<=281474976710656)(hl:(lb<=281474976710656/\lw<=281474976710656/\lt<=281474976710656/\ls<=281474976710656))(ir:Rn.IsRn w pr lr R)(i1:IsFl w pb lb B)(i2:Sh.IsI w pw lw W)(i3:Sh.IsI w pt lt T)(i4:IsFl w ps ls S):
  Calls prog 4 #[.agg #[.int .i64 sd,.float .f64 dt,.float .f64 gr,.float .f64 dr,.int .i64 lim,.bool rv,.slice pr lr cr],.agg #[.slice pb lb cb,.slice pw lw cw,.slice pt lt ct,.slice ps ls cs,.int .i64 sky,.int .i64 st]] w fun e w'=>e=.returned (.bool true)/\Below w.heap.size w w':=by
 have LV:=fun v (a:Ab w v)=>BI (oneF_of OC) FC v (hF.to a)
 have GD:=fun v (a:Ab w v)=>FP PB CB sd dt gr dr lim rv pr lr cr R pb lb cb B pw lw cw W pt lt ct T ps ls cs S sky st v (hF.to a) h64 hf hlr hl (ir.below a) (i1.below a) (i2.below a) (i3.below a) (i4.below a)
 by_cases q:er2 sd dt gr dr lim lr R lb lw lt ls B W T S sky st=0
 ·have hlp:=hl
  obtain⟨sd32,pl0,ck0⟩:=er2_side q
  obtain⟨n,rfl⟩: ∃n:Nat,sd=(n:Nat):=⟨sd.toNat,by omega⟩
  have hn:1<=n/\n<=32:=by omega
  have er0:=Ed (n:=n) (sd:=(n:Nat)) rfl pl0 ck0
  obtain⟨-,-,-,⟨l1,l2,l3,l4⟩,oP,oS⟩:=er_ok er0 hf (fun i hi=>(i1 i hi).1) (fun i hi=>(i4 i hi).1)
  have p1:n*n<=32*32:=Nat.mul_le_mul hn.2 hn.2
  have p0:0<n*n:=Nat.mul_pos (by omega) (by omega)
  have q6:6*n*n=6*(n*n):=Nat.mul_assoc _ _ _
  have q12:12*n*n=12*(n*n):=Nat.mul_assoc _ _ _
  have GY:=fun v (a:Ab w v)=>(GD v a).1 q
  simp only[Int.toNat_natCast]at GY
  have ON:=fun v gb (a:Ab w v) (g:GridOf n gb v)=>(OC n gb n dt gr dr lim rv pr lr cr R pb lb cb B pw lw cw W pt lt ct T ps ls cs S sky st v hn g (hF.to a) h64 hf hlr hl (ir.below a) (i1.below a) (i2.below a) (i3.below a) (i4.below a)).1 er0
  have o1:=Bx (lim:=lim) (rv:=rv) oP oS
  have bt:=wW o1
  have FN:=fun v gb (a:Ab w v) (g:GridOf n gb v)=>(FC n gb n dt gr dr lim rv pr lr cr R pb lb cb B pw lw cw W pt lt ct T ps ls cs S sky st v hn g (hF.to a) h64 hf hlr hl (ir.below a) (i1.below a) (i2.below a) (i3.below a) (i4.below a)).1 er0
  subst l1
  subst l2
  subst l3
  subst l4
  have wi: ∀e,e<12*n*n->Sh.W64 (waF n lim gr dt dr B W S e):=fun e he=>by have:=wa_in (lim:=lim) oP oS he;unfold Sh.W64;omega
  have ti: ∀e,e<12*n*n->Sh.W64 (trF n lim gr dt dr B W T S e):=fun e he=>by have:=tr_in (lim:=lim) oP oS he;unfold Sh.W64;omega
  have si: ∀e,e<12*n*n->spE n gr dt dr B W S e<18446744073709551616:=fun e _=>(lV n gr dt dr B W S e).1
  have mw:=wP (lim:=lim) oP oS
  have mt:=(wQ (lim:=lim) oP oS).1
  have ra:=yX (lim:=lim) oP oS
  have vI: ∀{F:Nat->Int},Rv.okV (6*n*n) F-> ∀c,c<6*n*n->0<=F c/\F c<=9223372036854775807:=fun{F} h c hc=>by
   have:=h.1 c hc
   have:=lX h.1 hc
   have:=h.2
   omega
  have vW: ∀{F:Nat->Int},Rv.okV (6*n*n) F-> ∀c,c<6*n*n->Sh.W64 (F c):=fun{F} h c hc=>by have:=vI h c hc;unfold Sh.W64;omega
  have mi: ∀c,c<6*n*n->Sh.W64 (mvW n lim gr dt dr B W S c):=fun c hc=>by have:=mw.1 c hc;unfold Sh.W64;omega
  have FL: ∀v gb,Ab w v->GridOf n gb v->Calls prog 17 #[.pointer (some ⟨gb,0,none⟩),.agg #[.int .i64 (n:Nat),.float .f64 dt,.float .f64 gr,.float .f64 dr,.int .i64 lim,.bool rv,.slice pr lr cr],.agg #[.slice pb (6*n*n) cb,.slice pw (6*n*n) cw,.slice pt (6*n*n) ct,.slice ps (12*n*n) cs,.int .i64 sky,.int .i64 st]] v fun e w'=> ∃p1 c1 p2 c2,e=.returned (.tuple #[.agg #[.slice p1 (12*n*n) c1,.slice p2 (12*n*n) c2],.int .i64 0])/\Below v.heap.size v w'/\Sh.IsI w' p1 (12*n*n) (waF n lim gr dt dr B W S)/\Sh.IsI w' p2 (12*n*n) (trF n lim gr dt dr B W T S):=fun v gb a g=>(FN v gb a g).mono fun e w' k=>by
   obtain⟨v1,v2,rfl,k1,k2,k3,-⟩:=k
   obtain⟨q1,c1,rfl,j1,-⟩:=gD k2 wi
   obtain⟨q2,c2,rfl,j2,-⟩:=gD k3 ti
   exact⟨q1,c1,q2,c2,rfl,k1,j1,j2⟩
  have L: ∀{v w':World} {e:Ending} {m:Nat} {f:Nat->Int},(∀i,i<m->Sh.W64 (f i))->(∃vv,e=.returned (.tuple #[vv,.int .i64 0])/\Below v.heap.size v w'/\Sh.Own v.heap.size vv ((List.range m).map f) w')-> ∃p1 c1,e=.returned (.tuple #[.slice p1 m c1,.int .i64 0])/\Below v.heap.size v w'/\Sh.IsI w' p1 m f:=fun hb k=>by
   obtain⟨vv,rfl,k1,k2⟩:=k
   obtain⟨q1,c1,rfl,j1,-⟩:=gD k2 hb
   exact⟨q1,c1,rfl,k1,j1⟩
  have LS: ∀{v w':World} {e:Ending},(∃vv,e=.returned (.tuple #[vv,.int .i64 0])/\Below v.heap.size v w'/\OwnG v.heap.size vv ((List.range (12*n*n)).map (spE n gr dt dr B W S)) w')-> ∃p1 c1,e=.returned (.tuple #[.slice p1 (12*n*n) c1,.int .i64 0])/\Below v.heap.size v w'/\IsFl w' p1 (12*n*n) (spE n gr dt dr B W S):=fun k=>by
   obtain⟨vv,rfl,k1,k2⟩:=k
   obtain⟨q1,c1,rfl,j1⟩:=own_isF k2 si
   exact⟨q1,c1,rfl,k1,j1⟩
  have LX: ∀{v w':World} {e:Ending},(∃b,e=.returned (.tuple #[.slice (some ⟨b,0,none⟩) (12*n*n) (12*n*n),.int .i64 0])/\Below v.heap.size v w'/\w'.rowIs b 2 (12*n*n) (fun i=>.int .i64 (flB n lim B W (spE n gr dt dr B W S) dt i))/\v.heap.size<=b)-> ∃p1 c1,e=.returned (.tuple #[.slice p1 (12*n*n) c1,.int .i64 0])/\Below v.heap.size v w'/\Sh.IsI w' p1 (12*n*n) (wtF n lim gr dt dr B W S):=fun k=>by
   obtain⟨b,rfl,k1,r,-⟩:=k
   exact⟨_,_,rfl,k1,Sh.iA r (fun e he=>⟨Int.le_trans (by decide) (sE (lim:=lim) oP oS he).1,Int.le_trans (sE (lim:=lim) oP oS he).2 (by decide)⟩)⟩
  have LR: ∀{v w':World} {e:Ending},(∃vv,e=.returned (.tuple #[vv,.int .i64 (raX n lim gr dt dr lr R B W S sky st).2,.int .i64 0])/\Below v.heap.size v w'/\Sh.Own v.heap.size vv ((List.range (6*n*n)).map (raX n lim gr dt dr lr R B W S sky st).1) w')-> ∃p1 c1,e=.returned (.tuple #[.slice p1 (6*n*n) c1,.int .i64 (raX n lim gr dt dr lr R B W S sky st).2,.int .i64 0])/\Below v.heap.size v w'/\Sh.IsI w' p1 (6*n*n) (raX n lim gr dt dr lr R B W S sky st).1:=fun k=>by
   obtain⟨vv,rfl,k1,k2⟩:=k
   obtain⟨q1,c1,rfl,j1,-⟩:=gD k2 (vW ra.1)
   exact⟨q1,c1,rfl,k1,j1⟩
  have SP:=fun v gb (a:Ab w v) (g:GridOf n gb v)=>((SPC n gb n dt gr dr lim rv pr lr cr pb _ cb B pw _ cw W pt _ ct ps _ cs S sky st v hn g (i1.below a) (i2.below a) (i4.below a) hf).1 ⟨rfl,rfl,rfl,rfl⟩).mono (fun e w' k=>LS k)
  have FX:=fun v gb p c (a:Ab w v) (g:GridOf n gb v) i=>((FXC n gb n dt gr dr lim rv pr lr cr pb _ cb B pw _ cw W pt _ ct p _ c (spE n gr dt dr B W S) sky st v hn g (i1.below a) (i2.below a) i hf.1).1 ⟨rfl,rfl,rfl,rfl⟩).mono (fun e w' k=>LX k)
  have SH:=fun v gb p c (a:Ab w v) (g:GridOf n gb v) i=>((SHC n gb pw _ cw W p _ c (wtF n lim gr dt dr B W S) v hn g (by omega) (by omega) (i2.below a) i).1 (wa_fit oP oS)).mono (fun e w' k=>L wi k)
  have TR:=fun v gb p c (a:Ab w v) (g:GridOf n gb v) i=>((TRC n gb pw _ cw W pt _ ct T p _ c (waF n lim gr dt dr B W S) v hn g (by omega) (by omega) (by omega) (i2.below a) (i3.below a) i).1 (tr_fit oP oS)).mono (fun e w' k=>L ti k)
  have MW:=fun v gb p c (a:Ab w v) (g:GridOf n gb v) i=>((MVC n gb pw _ cw W p _ c (waF n lim gr dt dr B W S) v hn g (by omega) (by omega) (i2.below a) i).1 ⟨rfl,rfl⟩ (fun c hc=>by have:=mw.1 c hc;unfold mvW at this;omega)).mono (fun e w' k=>L mi k)
  have MT:=fun v gb p c (a:Ab w v) (g:GridOf n gb v) i=>((MVC n gb pt _ ct T p _ c (trF n lim gr dt dr B W T S) v hn g (by omega) (by omega) (i3.below a) i).1 ⟨rfl,rfl⟩ (fun c hc=>vI mt c hc)).mono (fun e w' k=>L (vW mt) k)
  have RA:=fun v p c (a:Ab w v) i=>((FAC p _ c (mvW n lim gr dt dr B W S) sky pr lr cr R st v h64.2.2.1 h64.2.2.2 (by omega) (by have:=oP.2.2.1;omega) i (ir.below a)).1 (Eb oP oS)).mono (fun e w' k=>LR k)
  have WH: ∀v p q (k c d:Nat) (G:Nat->Int),k<=12288->Sh.IsI v p k G->Sh.IsI v q k G->Calls prog 22 #[.slice p k c,.slice q k d] v fun e w'=>e=.returned (.bool true)/\Below v.heap.size v w':=fun v p q k c d G hk h1 h2=>by
   have z:=wh21 p q k c k d G G v (by omega) (by omega) h1 h2
   rw[gC (fun _ _=>rfl)]at z
   exact z
  have AL: ∀v p q (c d:Nat),IsFl v p (12*n*n) (spE n gr dt dr B W S)->IsFl v q (12*n*n) (spE n gr dt dr B W S)->Calls prog 16 #[.slice p (12*n*n) c,.slice q (12*n*n) d] v fun e w'=>e=.returned (.bool true)/\Below v.heap.size v w':=fun v p q c d h1 h2=>by
   have z:=BA p q (12*n*n) c (12*n*n) d _ _ v (by omega) (by omega) h1 h2
   rw[gC (fun _ _=>rfl)]at z
   exact z
  cases rv with
  | false=>
   have eR:riX n lim gr dt dr false lr R B W T S sky st=((raX n lim gr dt dr lr R B W S sky st).1,mvT n lim gr dt dr B W T S):=by unfold riX;rw[if_neg (by decide)]
   simp only[eR]at ON bt
   exact BZ n n dt gr dr lim pr lr cr pb _ cb pw _ cw pt _ ct ps _ cs sky st (6*n*n) (12*n*n) B (spE n gr dt dr B W S) (wtF n lim gr dt dr B W S) (waF n lim gr dt dr B W S) (trF n lim gr dt dr B W T S) (mvW n lim gr dt dr B W S) (mvT n lim gr dt dr B W T S) (raX n lim gr dt dr lr R B W S sky st).1 _ _ w (by omega) (by omega) LV GY ON FL SP FX SH TR MT MW RA WH AL bt
  | true=>
   have eR:riX n lim gr dt dr true lr R B W T S sky st=Rv.runR n B (raX n lim gr dt dr lr R B W S sky st).1 (mvT n lim gr dt dr B W T S):=by unfold riX;rw[if_pos rfl]
   simp only[eR]at ON bt
   have k:=Rv.D9 (B:=B) hn.1 (qK (lim:=lim) oP oS)
   have LI: ∀{v w':World} {e:Ending},(∃v1 u1,e=.returned (.tuple #[v1,u1,.int .i64 0])/\Below v.heap.size v w'/\Sh.Own v.heap.size v1 ((List.range (6*n*n)).map (Rv.runR n B (raX n lim gr dt dr lr R B W S sky st).1 (mvT n lim gr dt dr B W T S)).1) w'/\Sh.Own v.heap.size u1 ((List.range (6*n*n)).map (Rv.runR n B (raX n lim gr dt dr lr R B W S sky st).1 (mvT n lim gr dt dr B W T S)).2) w'/\ ∀k,v1.ownBlock=some k->u1.ownBlock≠some k)-> ∃p1 c1 p2 c2,e=.returned (.tuple #[.slice p1 (6*n*n) c1,.slice p2 (6*n*n) c2,.int .i64 0])/\Below v.heap.size v w'/\Sh.IsI w' p1 (6*n*n) (Rv.runR n B (raX n lim gr dt dr lr R B W S sky st).1 (mvT n lim gr dt dr B W T S)).1/\Sh.IsI w' p2 (6*n*n) (Rv.runR n B (raX n lim gr dt dr lr R B W S sky st).1 (mvT n lim gr dt dr B W T S)).2:=fun z=>by
    obtain⟨v1,v2,rfl,z1,z2,z3,-⟩:=z
    obtain⟨q1,c1,rfl,j1,-⟩:=gD z2 (vW k.1.1)
    obtain⟨q2,c2,rfl,j2,-⟩:=gD z3 (vW k.1.2)
    exact⟨q1,c1,q2,c2,rfl,z1,j1,j2⟩
   have RI:=fun v gb p2 c2 p3 c3 p4 c4 (a:Ab w v) (g:GridOf n gb v) k2 k3 k4=>((RUC n gb pb _ cb B p2 _ c2 (raX n lim gr dt dr lr R B W S sky st).1 p3 _ c3 (mvT n lim gr dt dr B W T S) p4 _ c4 (spE n gr dt dr B W S) (raX n lim gr dt dr lr R B W S sky st).2 st v hn g (i1.below a) k2 k3 k4).1 (qK oP oS)).mono (fun e w' k=>LI k)
   exact zP n n dt gr dr lim pr lr cr pb _ cb pw _ cw pt _ ct ps _ cs sky st (6*n*n) (12*n*n) B (spE n gr dt dr B W S) (wtF n lim gr dt dr B W S) (waF n lim gr dt dr B W S) (trF n lim gr dt dr B W T S) (mvW n lim gr dt dr B W S) (mvT n lim gr dt dr B W T S) (raX n lim gr dt dr lr R B W S sky st).1 _ _ _ _ w (by omega) (by omega) LV GY ON FL SP FX SH TR MT MW RA WH AL bt RI
 ·exact BX sd dt gr dr lim rv pr lr cr pb lb cb pw lw cw pt lt ct ps ls cs sky st w LV (fun v a=>(GD v a).2 q)
end St
end
section
open Go.RowKit
namespace Rl
def updV(x:Nat->Value)(i:Nat)(v:Value):Nat->Value:=fun j=>if j=i then v else x j
def putAll:List Oper->Nat->(Nat->Value)->Act->Act
 | [],_,_,a=>a
 | o :: r,i,x,a=>putAll r (i+1) x (a.put o.dst (x i))
def depB(o:Oper)(j:Nat):Bool:=o.after.any fun e=>e.on==j&&Region.binds .any e
def relAll(P:Program)(l:List Oper)(a:Act)(R:Nat->Value->Prop)(C:World->Prop)(Q:Exit->Act->World->Prop):Nat->List Oper->Prop
 | _,[]=>True
 | i,o :: rest=>(∀(x:Nat->Value) (w:World),C w->(∀j,depB o j=true->R j (x j))-> ∀K:Act->World->Prop,Hid (∀v w',R i v->C w'->K ((putAll l 0 x a).put o.dst v) w')->o.wp P (putAll l 0 x a) w K Q)/\relAll P l a R C Q (i+1) rest
theorem aX{P:Program}{l:List Oper}{a:Act}{R:Nat->Value->Prop}{C:World->Prop}{Q:Exit->Act->World->Prop}{i:Nat}{o:Oper}{rest:List Oper}(j:Nat)(Ri:Value->Prop)(hRi:R i=Ri)(hj:i+1=j)
  (h: ∀(x:Nat->Value) (w:World),C w->(∀k,depB o k=true->R k (x k))-> ∀K:Act->World->Prop,Hid (∀v w',Ri v->C w'->K ((putAll l 0 x a).put o.dst v) w')->o.wp P (putAll l 0 x a) w K Q)
  (t:relAll P l a R C Q j rest):relAll P l a R C Q i (o :: rest):=by
 subst hRi
 subst hj
 exact⟨h,t⟩
theorem wZ{P:Program}{l:List Oper}{a:Act}{R:Nat->Value->Prop}{C:World->Prop}{Q:Exit->Act->World->Prop}{i:Nat}:relAll P l a R C Q i []:=trivial
def plainB:List Oper->Bool
 | []=>true
 | o :: r=>o.guard.isNone&&(match o.dst with | some d=>r.all (fun p=>p.dst != some d) | none=>true)&&plainB r
theorem put_put(a:Act)(d:Option Tmp)(u v:Value):(a.put d u).put d v=a.put d v:=by
 cases d with
 | none=>rfl
 | some d=>simp[Act.put]
theorem jQ: ∀(l:List Oper) (i:Nat) (x:Nat->Value) (k:Nat) (v:Value) (a:Act),k<i->putAll l i (updV x k v) a=putAll l i x a
 | [],_,_,_,_,_,_=>rfl
 | o :: r,i,x,k,v,a,h=>by
  show putAll r (i+1) (updV x k v) (a.put o.dst (updV x k v i))=putAll r (i+1) x (a.put o.dst (x i))
  have e:updV x k v i=x i:=by unfold updV;rw[if_neg (by omega)]
  rw[e,jQ r (i+1) x k v _ (by omega)]
theorem sM: ∀(l:List Oper) (i:Nat) (x:Nat->Value) (a:Act) (d:Option Tmp) (v:Value),(∀t,d=some t->l.all (fun p=>p.dst != some t)=true)->putAll l i x (a.put d v)=(putAll l i x a).put d v
 | [],_,_,_,_,_,_=>rfl
 | o :: r,i,x,a,d,v,h=>by
  show putAll r (i+1) x ((a.put d v).put o.dst (x i))=(putAll r (i+1) x (a.put o.dst (x i))).put d v
  rw[Act.put_comm a v (x i) (fun t ht=>by have:=h t ht;simp at this;exact this.1)]
  exact sM r (i+1) x _ d v (fun t ht=>by have:=h t ht;simp at this ⊢;exact this.2)
theorem sO: ∀(l:List Oper) (i:Nat) (x:Nat->Value) (a:Act) (k:Nat) (o:Oper) (v:Value),plainB l=true->l[k]? =some o->putAll l i (updV x (i+k) v) a=(putAll l i x a).put o.dst v
 | [],_,_,_,_,_,_,_,h=>by simp at h
 | p :: r,i,x,a,0,o,v,hp,h=>by
  simp at h
  subst h
  show putAll r (i+1) (updV x i v) (a.put p.dst (updV x i v i))=(putAll r (i+1) x (a.put p.dst (x i))).put p.dst v
  have e:updV x i v i=v:=by unfold updV;rw[if_pos rfl]
  simp only[plainB,Bool.and_eq_true]at hp
  rw[e,jQ r (i+1) x i v _ (by omega),<- sM r (i+1) x _ p.dst v (fun t ht=>by have:=hp.1.2;rw[ht]at this;exact this),put_put]
 | p :: r,i,x,a,k+1,o,v,hp,h=>by
  simp at h
  simp only[plainB,Bool.and_eq_true]at hp
  show putAll r (i+1) (updV x (i+(k+1)) v) (a.put p.dst (updV x (i+(k+1)) v i))=(putAll r (i+1) x (a.put p.dst (x i))).put o.dst v
  have e:updV x (i+(k+1)) v i=x i:=by unfold updV;rw[if_neg (by omega)]
  rw[e,show i+(k+1)=i+1+k by omega]
  exact sO r (i+1) x _ k o v hp.2 h
theorem put_own(a:Act)(d:Option Tmp):a.put d (match d with | some t=>a.tmps.getD t undef | none=>undef)=a:=by
 cases d with
 | none=>rfl
 | some t=>
  show{a with tmps:=a.tmps.setIfInBounds t (a.tmps.getD t undef)}=a
  have:a.tmps.setIfInBounds t (a.tmps.getD t undef)=a.tmps:=by
   by_cases h:t<a.tmps.size
   ·refine Array.ext (by simp) fun i h1 h2=> ?_
    rw[Array.getElem_setIfInBounds (by simpa using h2)]
    split
    ·rename_i e;subst e;simp
    ·rfl
   ·exact Array.setIfInBounds_eq_of_size_le (Nat.le_of_not_lt h)
  rw[this]
theorem sP: ∀(l:List Oper) (i:Nat) (a:Act),∃x,putAll l i x a=a
 | [],_,_=>⟨fun _=>undef,rfl⟩
 | o :: r,i,a=>by
  obtain⟨x,hx⟩:=sP r (i+1) a
  refine⟨updV x i (match o.dst with | some t=>a.tmps.getD t undef | none=>undef),?_⟩
  show putAll r (i+1) _ (a.put o.dst (updV x i _ i))=a
  have e: ∀v,updV x i v i=v:=fun v=>by unfold updV;rw[if_pos rfl]
  rw[e,put_own,jQ r (i+1) x i _ _ (by omega),hx]
theorem uS{P:Program}{l:List Oper}{a:Act}{R:Nat->Value->Prop}{C:World->Prop}{Q:Exit->Act->World->Prop}: ∀(r:List Oper) (i k:Nat) (o:Oper),relAll P l a R C Q i r->r[k]? =some o->
  ∀(x:Nat->Value) (w:World),C w->(∀j,depB o j=true->R j (x j))-> ∀K:Act->World->Prop,(∀v w',R (i+k) v->C w'->K ((putAll l 0 x a).put o.dst v) w')->o.wp P (putAll l 0 x a) w K Q
 | [],_,_,_,_,h=>by simp at h
 | p :: r,i,0,o,h,he=>by
  simp at he
  subst he
  exact fun x w hC hR K hK=>h.1 x w hC hR K hK
 | p :: r,i,k+1,o,h,he=>by
  simp at he
  have:=uS r (i+1) k o h.2 he
  rw[show i+1+k=i+(k+1)by omega]at this
  exact this
def Inv(l:List Oper)(a:Act)(R:Nat->Value->Prop)(C:World->Prop)(listed:Array Bool)(b:Act)(w:World):Prop:=
 ∃x,b=putAll l 0 x a/\C w/\ ∀i,listed.getD i false=true->R i (x i)
theorem FZ{P:Program}{l:List Oper}{a:Act}{R:Nat->Value->Prop}{C:World->Prop}{Q:Exit->Act->World->Prop}(hp:plainB l=true)(hb:backB .any l.toArray l.length=true)
  (H:relAll P l a R C Q 0 l) (fin: ∀(x:Nat->Value) (w:World),C w->(∀i,i<l.length->R i (x i))->Q .normal (putAll l 0 x a) w):
  ∀(fuel:Nat) (listed:Array Bool) (b:Act) (w:World),listed.size=l.length->l.length<=fuel+(listed.toList.filter id).length->Inv l a R C listed b w->wpAny P .any l.toArray Q fuel listed b w:=by
 have guard: ∀{i:Nat} {o:Oper},l[i]? =some o->o.guard=none:=by
  intro i o h
  have aux: ∀(r:List Oper) (i:Nat),plainB r=true->r[i]? =some o->o.guard=none:=by
   intro r
   induction r with
   | nil=>intro i _ h;simp at h
   | cons p r ih=>
    intro i hp h
    simp only[plainB,Bool.and_eq_true]at hp
    cases i with
    | zero=>simp at h;subst h;simpa using hp.1.1
    | succ i=>simp at h;exact ih i hp.2 h
  exact aux l i hp h
 have allr: ∀{listed:Array Bool},listed.size=l.length->Region.ready .any l.toArray listed=[]-> ∀i,i<l.length->listed.getD i false=true:=by
  intro listed hs h0 i hi
  rcases eD (md:=.any) (ops:=l.toArray) (n:=l.length) (by simp) hb (listed:=listed) (by omega)with all | ⟨j,_,hj⟩
  ·rw[nK (d':=true) (by omega)];exact all i hi
  ·rw[h0]at hj;cases hj
 intro fuel
 induction fuel with
 | zero=>
  intro listed b w hs hc inv
  have full: ∀i,i<l.length->listed.getD i true=true:=by
   intro i hi
   have e:(listed.toList.filter id).length=listed.toList.length:=by
    have:=List.length_filter_le id listed.toList
    simp at hc this ⊢
    omega
   have e2:=List.length_filter_eq_length_iff.1 e
   have hm:listed.getD i true=listed[i]'(by omega):=by simp[show i<listed.size by omega]
   rw[hm]
   exact e2 _ (by simp)
  have h0:Region.ready .any l.toArray listed=[]:=by
   rw[List.eq_nil_iff_forall_not_mem]
   intro i hi
   obtain⟨u,o,ho,_⟩:=mem_ready.1 hi
   have lt:i<l.length:=by have:=(Array.getElem?_eq_some_iff.1 ho).1;simpa using this
   rw[full i lt]at u
   cases u
  obtain⟨x,rfl,hC,hR⟩:=inv
  exact⟨h0,fin x w hC (fun i hi=>hR i (by rw[nK (d':=true) (by omega)];exact full i hi))⟩
 | succ fuel ih=>
  intro listed b w hs hc inv
  obtain⟨x,rfl,hC,hR⟩:=inv
  refine⟨fun h0=>fin x w hC (fun i hi=>hR i (allr hs h0 i hi)),fun i hi=> ?_⟩
  obtain⟨u,o,ho,hd⟩:=mem_ready.1 hi
  have lt:i<l.length:=by have:=(Array.getElem?_eq_some_iff.1 ho).1;simpa using this
  have ho':l[i]? =some o:=by simpa using ho
  have cnt:l.length<=fuel+((listed.setIfInBounds i true).toList.filter id).length:=by
   have hf:listed.toList[i]? =some false:=by
    have:listed.getD i true=listed[i]'(by omega):=by simp[show i<listed.size by omega]
    rw[this]at u
    simp[show i<listed.size by omega,u]
   have aux: ∀(t:List Bool) (i:Nat),t[i]? =some false->((t.set i true).filter id).length=(t.filter id).length+1:=by
    intro t
    induction t with
    | nil=>intro i h;simp at h
    | cons b t ih=>
     intro i h
     cases i with
     | zero=>simp at h;subst h;simp
     | succ i=>
      simp at h
      have:=ih i h
      cases b<;>simp[this]
   have:=aux listed.toList i hf
   simp only[Array.toList_setIfInBounds]
   rw[this]
   omega
  unfold wpOp
  rw[ho]
  have hg:o.guard=none:=guard ho'
  have hw:Region.wanted o (yielded l.toArray (putAll l 0 x a).tmps)=true:=by simp[Region.wanted,hg]
  simp only[hw,if_true]
  left
  have step:=uS l 0 i o H ho' x w hC (fun j hj=>by
   unfold depB at hj
   rw[<- Array.any_toList]at hj
   obtain⟨e,he',h2⟩:=List.any_eq_true.1 hj
   have he:e ∈ o.after:=Array.mem_toList_iff.1 he'
   simp at h2
   have:=hd e he h2.2
   rw[h2.1]at this
   exact hR j this)
  rw[Nat.zero_add]at step
  refine step _ (fun v w' hv hC'=>ih _ _ w' (by simpa using hs) cnt ⟨updV x i v,?_,hC',fun j hj=> ?_⟩)
  ·have:=sO l 0 x a i o v hp ho'
   rw[Nat.zero_add]at this
   exact this.symm
  ·by_cases e:j=i
   ·subst e;unfold updV;rw[if_pos rfl];exact hv
   ·have:listed.getD j false=true:=by rw[getD_set_ne false (Ne.symm e)]at hj;exact hj
    unfold updV;rw[if_neg e];exact hR j this
theorem mC{P:Program}{id:Nat}{Q:Exit->Act->World->Prop}{a:Act}{w:World}{l:List Oper}(R:Nat->Value->Prop)(C:World->Prop)(hm:P.follows .mixedOrders=true)(hp:plainB l=true)(hb:backB .any l.toArray l.length=true)(hC:C w.drew)
  (H:relAll P l a R C Q 0 l) (fin: ∀(x:Nat->Value) (w:World),C w->(∀i,i<l.length->R i (x i))->Q .normal (putAll l 0 x a) w):(Code.region id l.toArray true).wp P Q a w:=by
 refine wp_region_any hm ?_
 obtain⟨x,hx⟩:=sP l 0 a
 exact FZ hp hb H fin _ _ a w.drew (by simp) (by simp) ⟨x,hx.symm,hC,fun i hi=>by rw[getD_replicate_false]at hi;cases hi⟩
end Rl
end
end Go.Proofs.YtaphajlpbgcfjaaGreatDoor
