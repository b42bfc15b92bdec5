/-
  Some of the texts of this proof, one behind the other.
-/
import Derived.ProofKit
import Derived.OpenShut
import Derived.WalkLawsBesides
import Derived.Stop.Joined
import Derived.Carry
import Derived.Lib.SmallJoins
import Derived.Deep.SlicePairs
import Derived.Deep.Slices
import Derived.SizedLaws
import Derived.Test.YtaphajlpbgcfjaaGreatDoorMa25
set_option maxRecDepth 100000
set_option maxHeartbeats 400000000
namespace Go.Proofs.YtaphajlpbgcfjaaGreatDoor
open _root_.Go.Proofs.Tryz
section
open Go.RowKit Tf Cu Go.Deep
namespace St
open Ss Fc
theorem tI{n gb:Nat}{sd:Int}{dt gr dr:Nat}{lim:Int}{rv:Bool}{pr:Option Addr}{lr cr:Nat}{R:Nat->Int × Int × Int × Int}{pb:Option Addr}{lb cb:Nat}{B:Nat->Nat}{pw:Option Addr}{lw cw:Nat}{W:Nat->Int}{pt:Option Addr}{lt ct:Nat}{T:Nat->Int}{ps:Option Addr}{ls cs:Nat}{S:Nat->Nat}{sky st:Int}{w:World}(g:GridOf n gb w)(hf:dt<18446744073709551616/\gr<18446744073709551616/\dr<18446744073709551616)(ir:Rn.IsRn w pr lr R)(i1:IsFl w pb lb B)(i2:Sh.IsI w pw lw W)(i3:Sh.IsI w pt lt T)(i4:IsFl w ps ls S):
  Calls prog 55 #[.pointer (some ⟨gb,0,none⟩),.agg #[.int .i64 sd,.float .f64 dt,.float .f64 gr,.float .f64 dr,.int .i64 lim,.bool rv,.slice pr lr cr],.agg #[.slice pb lb cb,.slice pw lw cw,.slice pt lt ct,.slice ps ls cs,.int .i64 sky,.int .i64 st]] w fun e w'=>e=.returned (.int .i64 (erS n sd dt gr dr lim lr R lb lw lt ls B W T S sky st))/\Below w.heap.size w w':=by
 have CS: ∀v,Ab w v->Calls prog 109 #[.pointer (some ⟨gb,0,none⟩)] v fun e w'=>e=.returned (.int .i64 (n:Nat))/\Below v.heap.size v w':=fun v a=>(gSide_at (g.to a)).mono fun e w' h=>⟨h.1,by rw[h.2];exact Below.refl _ _⟩
 have CP:=fun v (a:Ab w v)=>EK sd dt gr dr lim rv pr lr cr R v hf (ir.below a)
 have CC:=fun v (a:Ab w v)=>Af sd pb lb cb B pw lw cw W pt lt ct T ps ls cs S sky st v (i1.below a) (i2.below a) (i3.below a) (i4.below a)
 unfold erS
 by_cases a:sd=(n:Int)
 ·rw[if_neg (fun q=>q a)]
  by_cases b:plE sd dt gr dr lim lr R=0
  ·rw[if_neg (fun q=>q b)]
   exact Ai n gb sd dt gr dr lim rv pr lr cr pb lb cb pw lw cw pt lt ct ps ls cs sky st _ _ _ w (by rw[a];simp) (by rw[b];rfl) CS CP CC
  ·rw[if_pos b]
   exact Ah n gb sd dt gr dr lim rv pr lr cr pb lb cb pw lw cw pt lt ct ps ls cs sky st _ w (by rw[a];simp) (by simpa using b) CS CP
 ·rw[if_pos a]
  exact Ag n gb sd dt gr dr lim rv pr lr cr pb lb cb pw lw cw pt lt ct ps ls cs sky st w (by simpa using Ne.symm a) CS
theorem vL{n gb:Nat}{sd:Int}{dt gr dr:Nat}{lim:Int}{rv:Bool}{pr:Option Addr}{lr cr:Nat}{R:Nat->Int × Int × Int × Int}{pb:Option Addr}{cb:Nat}{B:Nat->Nat}{pw:Option Addr}{cw:Nat}{W:Nat->Int}{pt:Option Addr}{ct:Nat}{T:Nat->Int}{ps:Option Addr}{cs:Nat}{S:Nat->Nat}{sky st:Int}{w:World}(hn:1<=n/\n<=32)(g:GridOf n gb w)(oP:okP n gr dt dr lr R)(oS:okS n B W T S sky st)(hf:dt<18446744073709551616/\gr<18446744073709551616/\dr<18446744073709551616)(i1:IsFl w pb (6*n*n) B)(i2:Sh.IsI w pw (6*n*n) W)(i3:Sh.IsI w pt (6*n*n) T)(i4:IsFl w ps (12*n*n) S):
  Calls prog 56 #[.pointer (some ⟨gb,0,none⟩),.agg #[.int .i64 sd,.float .f64 dt,.float .f64 gr,.float .f64 dr,.int .i64 lim,.bool rv,.slice pr lr cr],.agg #[.slice pb (6*n*n) cb,.slice pw (6*n*n) cw,.slice pt (6*n*n) ct,.slice ps (12*n*n) cs,.int .i64 sky,.int .i64 st]] w fun e w'=> ∃p0 c0 p1 c1 p2 c2,e=.returned (.tuple #[.slice p0 (12*n*n) c0,.agg #[.slice p1 (12*n*n) c1,.slice p2 (12*n*n) c2]])/\Below w.heap.size w w'/\OwnG w.heap.size (.slice p0 (12*n*n) c0) ((List.range (12*n*n)).map (spE n gr dt dr B W S)) w'/\Sh.Own w.heap.size (.slice p1 (12*n*n) c1) ((List.range (12*n*n)).map (waF n lim gr dt dr B W S)) w'/\Sh.Own w.heap.size (.slice p2 (12*n*n) c2) ((List.range (12*n*n)).map (trF n lim gr dt dr B W T S)) w'/\Dj (.slice p1 (12*n*n) c1) (.slice p2 (12*n*n) c2):=by
 have p1:n*n<=32*32:=Nat.mul_le_mul hn.2 hn.2
 have q6:6*n*n=6*(n*n):=Nat.mul_assoc _ _ _
 have q12:12*n*n=12*(n*n):=Nat.mul_assoc _ _ _
 have wi: ∀e,e<12*n*n->Sh.W64 (waF n lim gr dt dr B W S e):=fun e he=>by have:=wa_in (lim:=lim) oP oS he;unfold Sh.W64;omega
 refine Aj gb sd dt gr dr lim rv pr lr cr (6*n*n) (12*n*n) pb cb pw cw pt ct ps cs sky st (spE n gr dt dr B W S) (wtF n lim gr dt dr B W S) (waF n lim gr dt dr B W S) (trF n lim gr dt dr B W T S) w ?_ ?_ ?_ ?_ ⟨fun e _=>(oQ n gr dt dr B W S e).1,wi⟩
 ·exact fun v a=>(Fc.speedsC n gb sd dt gr dr lim rv pr lr cr pb _ cb B pw _ cw W pt _ ct ps _ cs S sky st v hn (g.to a) (i1.below a) (i2.below a) (i4.below a) hf).1 ⟨rfl,rfl,rfl,rfl⟩
 ·intro v p c a i
  refine((allC n gb sd dt gr dr lim rv pr lr cr pb _ cb B pw _ cw W pt _ ct p _ c (spE n gr dt dr B W S) sky st v hn (g.to a) (i1.below a) (i2.below a) i hf.1).1 ⟨rfl,rfl,rfl,rfl⟩).mono ?_
  rintro e w' ⟨b,rfl,b1,r,-⟩
  exact⟨b,rfl,b1,Sh.jG r (fun e he=>⟨Int.le_trans (by decide) (zJ (lim:=lim) oP oS he).1,Int.le_trans (zJ (lim:=lim) oP oS he).2 (by decide)⟩)⟩
 ·exact fun v p c a i=>(Sh.allC n gb pw _ cw W p _ c _ v hn (g.to a) (by omega) (by omega) (i2.below a) i).1 (wa_fit oP oS)
 ·exact fun v p c a i=>(Tr.flowsC n gb pw _ cw W pt _ ct T p _ c _ v hn (g.to a) (by omega) (by omega) (by omega) (i2.below a) (i3.below a) i).1 (tr_fit oP oS)
theorem flowC:FlowC:=fun n gb sd dt gr dr lim rv pr lr cr R pb lb cb B pw lw cw W pt lt ct T ps ls cs S sky st w hn g hF h64 hf hlr hl ir i1 i2 i3 i4=>by
 have CH:=fun v (a:Ab w v)=>tI (n:=n) (gb:=gb) (sd:=sd) (lim:=lim) (rv:=rv) (cr:=cr) (cb:=cb) (cw:=cw) (ct:=ct) (cs:=cs) (sky:=sky) (st:=st) (g.to a) hf (ir.below a) (i1.below a) (i2.below a) (i3.below a) (i4.below a)
 refine⟨fun e0=> ?_,fun e0=> ?_⟩
 ·obtain⟨rfl,-,-,⟨rfl,rfl,rfl,rfl⟩,oP,oS⟩:=er_ok e0 hf (fun i hi=>(i1 i hi).1) (fun i hi=>(i4 i hi).1)
  rw[e0]at CH
  exact flow21_2 gb n dt gr dr lim rv pr lr cr _ _ pb cb pw cw pt ct ps cs sky st (spE n gr dt dr B W S) _ _ w CH (fun v a=>vL hn (g.to a) oP oS hf (i1.below a) (i2.below a) (i3.below a) (i4.below a))
 ·exact flow21_1 gb sd dt gr dr lim rv pr lr cr pb lb cb pw lw cw pt lt ct ps ls cs sky st _ w (by simpa using e0) CH
theorem one_gen(rv:Bool)(RC:rv=true->Rv.RunC):OneB rv:=fun n gb sd dt gr dr lim pr lr cr R pb lb cb B pw lw cw W pt lt ct T ps ls cs S sky st w hn g hF h64 hf hlr hl ir i1 i2 i3 i4=>by
 have CH:=fun v (a:Ab w v)=>tI (n:=n) (gb:=gb) (sd:=sd) (lim:=lim) (rv:=rv) (cr:=cr) (cb:=cb) (cw:=cw) (ct:=ct) (cs:=cs) (sky:=sky) (st:=st) (g.to a) hf (ir.below a) (i1.below a) (i2.below a) (i3.below a) (i4.below a)
 refine⟨fun e0=> ?_,fun e0=> ?_⟩
 ·obtain⟨rfl,-,-,⟨rfl,rfl,rfl,rfl⟩,oP,oS⟩:=er_ok e0 hf (fun i hi=>(i1 i hi).1) (fun i hi=>(i4 i hi).1)
  rw[e0]at CH
  have p1:n*n<=32*32:=Nat.mul_le_mul hn.2 hn.2
  have q6:6*n*n=6*(n*n):=Nat.mul_assoc _ _ _
  have q12:12*n*n=12*(n*n):=Nat.mul_assoc _ _ _
  have wi: ∀e,e<12*n*n->Sh.W64 (waF n lim gr dt dr B W S e):=fun e he=>by have:=wa_in (lim:=lim) oP oS he;unfold Sh.W64;omega
  have ti: ∀e,e<12*n*n->Sh.W64 (trF n lim gr dt dr B W T S e):=fun e he=>by have:=tr_in (lim:=lim) oP oS he;unfold Sh.W64;omega
  have mw:=Ca (lim:=lim) oP oS
  have mt:=(Cb (lim:=lim) oP oS).1
  have ra:=ra_ok (lim:=lim) oP oS
  have ss:=oS.1.2.2.2.2.2
  have vI: ∀{F:Nat->Int},Rv.okV (6*n*n) F-> ∀c,c<6*n*n->0<=F c/\F c<=9223372036854775807:=fun{F} h c hc=>by
   have:=h.1 c hc
   have:=oW h.1 hc
   have:=h.2
   omega
  have mi: ∀c,c<6*n*n->Sh.W64 (mvW n lim gr dt dr B W S c):=fun c hc=>by have:=mw.1 c hc;unfold Sh.W64;omega
  have hi: ∀c,c<6*n*n->Sh.W64 (mvT n lim gr dt dr B W T S c):=fun c hc=>by have:=vI mt c hc;unfold Sh.W64;omega
  have ri: ∀c,c<6*n*n->Sh.W64 ((raX n lim gr dt dr lr R B W S sky st).1 c):=fun c hc=>by have:=vI ra.1 c hc;unfold Sh.W64;omega
  have s1:stN st=min (st+1) 4611686018427387904:=by
   unfold stN
   split<;>omega
  have PU:=fun v (a:Ab w v)=>vL (sd:=(n:Nat)) (lim:=lim) (rv:=rv) (pr:=pr) (cr:=cr) (cb:=cb) (cw:=cw) (ct:=ct) (cs:=cs) hn (g.to a) oP oS hf (i1.below a) (i2.below a) (i3.below a) (i4.below a)
  have CL:=fun v (a:Ab w v)=>cloneF pb (6*n*n) cb B w.heap.size v (by omega) (i1.below a) a.size
  have MW:=fun v p c (a:Ab w v) (i:Sh.IsI v p (12*n*n) (waF n lim gr dt dr B W S))=>(Ms.moveC n gb pw _ cw W p _ c _ v hn (g.to a) (by omega) (by omega) (i2.below a) i).1 ⟨rfl,rfl⟩ (fun c hc=>by have:=mw.1 c hc;unfold mvW at this;omega)
  have MT:=fun v p c (a:Ab w v) (i:Sh.IsI v p (12*n*n) (trF n lim gr dt dr B W T S))=>(Ms.moveC n gb pt _ ct T p _ c _ v hn (g.to a) (by omega) (by omega) (i3.below a) i).1 ⟨rfl,rfl⟩ (fun c hc=>vI mt c hc)
  have RA:=fun v p c (a:Ab w v) (i:Sh.IsI v p (6*n*n) (mvW n lim gr dt dr B W S))=>(Rn.fallC p _ c _ sky pr lr cr R st v h64.2.2.1 h64.2.2.2 (by omega) (by have:=oP.2.2.1;omega) i (ir.below a)).1 (ra_good oP oS)
  have RI:=fun(z:rv=true) v p1 c1 p2 c2 p3 c3 p4 c4 (a:Ab w v) k1 k2 k3 k4=>(RC z n gb p1 _ c1 B p2 _ c2 (raX n lim gr dt dr lr R B W S sky st).1 p3 _ c3 (mvT n lim gr dt dr B W T S) p4 _ c4 (spE n gr dt dr B W S) (raX n lim gr dt dr lr R B W S sky st).2 (stN st) v hn (g.to a) k1 k2 k3 k4).1 (Eu oP oS)
  exact one21_go gb n dt gr dr lim rv pr lr cr _ _ pb cb pw cw pt ct ps cs sky st B (spE n gr dt dr B W S) _ _ _ _ _ _ _ (riX n lim gr dt dr rv lr R B W T S sky st).1 (riX n lim gr dt dr rv lr R B W T S sky st).2 _ _ w ss s1 ⟨fun e=>by unfold riX;rw[if_neg (by rw[e];decide)];exact⟨rfl,rfl⟩,fun e=>by unfold riX;rw[if_pos e];exact⟨rfl,rfl⟩⟩ CH PU CL MW MT RA RI ⟨fun c hc=>oS.2.1 c hc,fun e _=>(oQ n gr dt dr B W S e).1,wi,ti,mi,hi,ri⟩
 ·exact one21_1 gb sd dt gr dr lim rv pr lr cr pb lb cb pw lw cw pt lt ct ps ls cs sky st _ w (by simpa using e0) CH
theorem planB:PlanB:=fun sd dt gr dr lim rv pr lr cr R w _ _ hf _ ir=>EK sd dt gr dr lim rv pr lr cr R w hf ir
theorem checkB:CheckB:=fun sd pb lb cb B pw lw cw W pt lt ct T ps ls cs S sky st w _ _ _ _ i1 i2 i3 i4=>Af sd pb lb cb B pw lw cw W pt lt ct T ps ls cs S sky st w i1 i2 i3 i4
end St
end
section
open Go.RowKit Tf Cu Go.Deep
attribute [local go_sem] aK aL aP aQ aR aV aW aF
namespace Rv
def pW(x y:Nat):Int:=if kb x<kb y then -1 else if kb y<kb x then 1 else 0
theorem E5{x y:Nat}(h:kb x<kb y):pW x y= -1:=if_pos h
theorem E7{x y:Nat}(h:kb y<kb x):pW x y=1:=by unfold pW;rw[if_neg (by omega),if_pos h]
theorem E8{x y:Nat}(h:kb x=kb y):pW x y=0:=by unfold pW;rw[if_neg (by omega),if_neg (by omega)]
def dk(K nb:Nat->Nat)(c:Nat):Nat->Int
 | 0=> -1
 | k+1=>if K (bst K nb k)<K c then((bst K nb k:Nat):Int)else -1
theorem AH(K nb:Nat->Nat)(k:Nat):bst K nb (k+1)=if lt2 K (nb (k+1)) (bst K nb k)=true then nb (k+1)else bst K nb k:=rfl
theorem dk_no{K nb:Nat->Nat}{c k:Nat}(h:dk K nb c k<0):dk K nb c k= -1/\dk K nb c (k+1)=if K (nb k)<K c then((nb k:Nat):Int)else -1:=by
 cases k with
 | zero=>exact⟨rfl,rfl⟩
 | succ k=>
  have h1: ¬K (bst K nb k)<K c:=fun q=>by
   have h2:(if K (bst K nb k)<K c then((bst K nb k:Nat):Int)else -1)<0:=h
   rw[if_pos q]at h2
   omega
  refine⟨if_neg h1,?_⟩
  show(if K (bst K nb (k+1))<K c then((bst K nb (k+1):Nat):Int)else -1)=_
  rw[AH]
  by_cases q:lt2 K (nb (k+1)) (bst K nb k)=true
  ·rw[if_pos q]
  ·rw[if_neg q,if_neg h1,if_neg]
   intro q2
   exact q (qH.2 (.inl (by omega)))
theorem dk_yes{K nb:Nat->Nat}{c k m:Nat}(h:dk K nb c k=(m:Nat)):(∃s,s<k/\nb s=m)/\K m<K c/\dk K nb c (k+1)=if lt2 K (nb k) m=true then((nb k:Nat):Int)else((m:Nat):Int):=by
 cases k with
 | zero=>have h2:(-1:Int)=(m:Nat):=h;omega
 | succ k=>
  have h1:K (bst K nb k)<K c:=by
   rcases Nat.lt_or_ge (K (bst K nb k)) (K c)with q | q
   ·exact q
   ·have h2:(if K (bst K nb k)<K c then((bst K nb k:Nat):Int)else -1)=(m:Nat):=h
    rw[if_neg (by omega)]at h2
    omega
  have h2:bst K nb k=m:=by
   have h2:(if K (bst K nb k)<K c then((bst K nb k:Nat):Int)else -1)=(m:Nat):=h
   rw[if_pos h1]at h2
   omega
  obtain⟨s,l,e⟩:=BI K nb k
  rw[h2]at h1 e
  refine⟨⟨s,by omega,e.symm⟩,h1,?_⟩
  show(if K (bst K nb (k+1))<K c then((bst K nb (k+1):Nat):Int)else -1)=_
  rw[AH,h2]
  by_cases q:lt2 K (nb (k+1)) m=true
  ·rw[if_pos q,if_pos q,if_pos]
   rcases qH.1 q with q | q<;>omega
  ·rw[if_neg q,if_neg q,if_pos h1]
def lk(B nb:Nat->Nat)(c k:Nat):Nat:=if dk (kB B) nb c k<0 then B c else B (dk (kB B) nb c k).toNat
theorem jQ(a b:Nat)(w:World)(ha:a<18446744073709551616)(hb:b<18446744073709551616):
  Calls prog 132 #[.float .f64 a,.float .f64 b] w fun e w'=>e=.returned (.int .i64 (pW a b))/\w'=w:=by
 obtain⟨x,hx⟩:=aD (canonB a)
 obtain⟨y,hy⟩:=aD (canonB b)
 have C1:=hid (mV a x w ha hx)
 have C2:=hid (mV b y w hb hy)
 have lx:x<18446744073709551616:=by rw[<- hx];exact dS ha
 have ly:y<18446744073709551616:=by rw[<- hy];exact dS hb
 obtain⟨o,ho⟩:=aD (orderB x y)
 have O:=hid (ord_at x y o w lx ly ho)
 have E:Hid (pW a b=o):=by
  show _=_
  unfold pW kb
  rw[hx,hy,<- ho]
  rfl
 clear ho hx hy ha hb lx ly
 go_enter func132,ntmps132
 go_wp2_with fail
 refine C1.out.mono ?_
 rintro e9 v9 ⟨rfl,hv9⟩
 have hv8:=hv9.symm
 subst hv8
 go_wp2_with fail
 refine C2.out.mono ?_
 rintro e9 v9 ⟨rfl,hv9⟩
 have hv8:=hv9.symm
 subst hv8
 go_wp2_with fail
 refine O.out.mono ?_
 rintro e9 v9 ⟨rfl,hv9⟩
 have hv8:=hv9.symm
 subst hv8
 go_wp2
 go_ret
 exact⟨by rw[E.out];rfl,rfl⟩
theorem around19{n gb c s:Nat}{v:World}(hn:1<=n/\n<=32)(hc:c<6*n*n)(hs:s<4)(g:GridOf n gb v):Calls prog 33 #[.pointer (some ⟨gb,0,none⟩),.int .i64 (c:Nat),.int .i64 (s:Nat)] v fun e w'=>e=.returned (.tuple #[.int .i64 (eE n (4*c+s):Nat),.int .i64 (eS n (4*c+s))])/\Below v.heap.size v w':=by
 have e:gT n (24*n*n) (c:Nat) (s:Nat)=(((eE n (4*c+s):Nat):Int),eS n (4*c+s)):=by
  have ht:=eU hc hs
  have hm:=cV hn.1 ht
  rw[jS,if_pos ⟨hc,hs⟩]
  unfold gN eE eS
  by_cases q:isL n (4*c+s)=true
  ·simp[q,ht]
  ·simp[q,hm]
 have b:c<6144:=by
  have h1:n*n<=32*32:=Nat.mul_le_mul hn.2 hn.2
  rw[Nat.mul_assoc]at hc
  omega
 have h:=lQ (n:=n) (gb:=gb) (c:=(c:Nat)) (s:=(s:Nat)) (w:=v) ⟨by omega,by omega⟩ ⟨by omega,by omega⟩ g
 rwa [e]at h
theorem Dl(gb e l s r q:Nat)(cell over:Int)(w:World)
  (AR:Hid (∀v,Ab w v->Calls prog 33 #[.pointer (some ⟨gb,0,none⟩),.int .i64 cell,.int .i64 over] v fun e9 w'=>e9=.returned (.tuple #[.int .i64 (e:Nat),.int .i64 (1)])/\Below v.heap.size v w'))
  (ED:Hid (∀v,Ab w v->Calls prog 73 #[.pointer (some ⟨gb,0,none⟩),.int .i64 (e:Nat)] v fun e9 w'=>e9=.returned (.tuple #[.agg #[.int .i64 (l:Nat),.int .i64 (s:Nat),.int .i64 (r:Nat),.int .i64 (q:Nat)],.bool true])/\Below v.heap.size v w')):
  Calls prog 134 #[.pointer (some ⟨gb,0,none⟩),.int .i64 cell,.int .i64 over] w fun e9 w'=>e9=.returned (.int .i64 (r:Nat))/\Below w.heap.size w w':=by
 go_enter func134,ntmps134
 go_wp2_with fail
 refine(AR.out _ (Ab.refl w)).mono ?_
 rintro e9 v1 ⟨rfl,b1⟩
 have A1:Hid (Ab w v1):=b1
 clear b1
 go_wp2_with fail
 refine(ED.out _ A1.out).mono ?_
 rintro e9 v2 ⟨rfl,b2⟩
 have A2:Hid (Ab w v2):=A1.out.trans b2
 clear b2
 have A3:Hid (Ab w (v2.alloc (.cells #[.int .i64 0,.int .i64 0,.int .i64 0,.int .i64 0] 116))):=A2.out.trans (bl1 _ _)
 have c0:(v2.alloc (.cells #[.int .i64 (l:Nat),.int .i64 (s:Nat),.int .i64 (r:Nat),.int .i64 (q:Nat)] 116)).cell? ⟨v2.heap.size,0,none⟩=some (.int .i64 (l:Nat)):=aA 0 (heap_alloc_new _ _)
 have c2:(v2.alloc (.cells #[.int .i64 (l:Nat),.int .i64 (s:Nat),.int .i64 (r:Nat),.int .i64 (q:Nat)] 116)).cell? ⟨v2.heap.size,2,none⟩=some (.int .i64 (r:Nat)):=aA 2 (heap_alloc_new _ _)
 go_wp2
 go_ret
 exact⟨rfl,A2.out.trans (bl1 _ _)⟩
theorem Dm(gb e l s r q:Nat)(cell over:Int)(w:World)
  (AR:Hid (∀v,Ab w v->Calls prog 33 #[.pointer (some ⟨gb,0,none⟩),.int .i64 cell,.int .i64 over] v fun e9 w'=>e9=.returned (.tuple #[.int .i64 (e:Nat),.int .i64 (-1)])/\Below v.heap.size v w'))
  (ED:Hid (∀v,Ab w v->Calls prog 73 #[.pointer (some ⟨gb,0,none⟩),.int .i64 (e:Nat)] v fun e9 w'=>e9=.returned (.tuple #[.agg #[.int .i64 (l:Nat),.int .i64 (s:Nat),.int .i64 (r:Nat),.int .i64 (q:Nat)],.bool true])/\Below v.heap.size v w')):
  Calls prog 134 #[.pointer (some ⟨gb,0,none⟩),.int .i64 cell,.int .i64 over] w fun e9 w'=>e9=.returned (.int .i64 (l:Nat))/\Below w.heap.size w w':=by
 go_enter func134,ntmps134
 go_wp2_with fail
 refine(AR.out _ (Ab.refl w)).mono ?_
 rintro e9 v1 ⟨rfl,b1⟩
 have A1:Hid (Ab w v1):=b1
 clear b1
 go_wp2_with fail
 refine(ED.out _ A1.out).mono ?_
 rintro e9 v2 ⟨rfl,b2⟩
 have A2:Hid (Ab w v2):=A1.out.trans b2
 clear b2
 have A3:Hid (Ab w (v2.alloc (.cells #[.int .i64 0,.int .i64 0,.int .i64 0,.int .i64 0] 116))):=A2.out.trans (bl1 _ _)
 have c0:(v2.alloc (.cells #[.int .i64 (l:Nat),.int .i64 (s:Nat),.int .i64 (r:Nat),.int .i64 (q:Nat)] 116)).cell? ⟨v2.heap.size,0,none⟩=some (.int .i64 (l:Nat)):=aA 0 (heap_alloc_new _ _)
 have c2:(v2.alloc (.cells #[.int .i64 (l:Nat),.int .i64 (s:Nat),.int .i64 (r:Nat),.int .i64 (q:Nat)] 116)).cell? ⟨v2.heap.size,2,none⟩=some (.int .i64 (r:Nat)):=aA 2 (heap_alloc_new _ _)
 go_wp2
 go_ret
 exact⟨rfl,A2.out.trans (bl1 _ _)⟩
theorem AI(n gb c s:Nat)(w:World)(hn:1<=n/\n<=32)(hc:c<6*n*n)(hs:s<4)(g:GridOf n gb w):
  Calls prog 134 #[.pointer (some ⟨gb,0,none⟩),.int .i64 (c:Nat),.int .i64 (s:Nat)] w fun e9 w'=>e9=.returned (.int .i64 (bsC n c s:Nat))/\Below w.heap.size w w':=by
 have ht:4*c+s<24*n*n:=eU hc hs
 have hm:=cV hn.1 ht
 have e1:(4*c+s)/4=c:=by omega
 have e2:(4*c+s)%4=s:=by omega
 have ar:=fun v (a:Ab w v)=>around19 (v:=v) hn hc hs (g.to a)
 by_cases q:isL n (4*c+s)=true
 ·have ee:eE n (4*c+s)=eN n (4*c+s):=by unfold eE;rw[if_pos q]
  have es:eS n (4*c+s)=1:=by unfold eS;rw[if_pos q]
  rw[ee,es]at ar
  have ed:=fun v (a:Ab w v)=>gP (w:=v) hn ht q (g.to a)
  rw[e1,e2]at ed
  exact Dl gb _ _ _ _ _ _ _ w ar ed
 ·have ee:eE n (4*c+s)=eN n (mt n (4*c+s)):=by unfold eE;rw[if_neg q]
  have es:eS n (4*c+s)= -1:=by unfold eS;rw[if_neg q]
  rw[ee,es]at ar
  have q2:isL n (mt n (4*c+s))=true:=by rw[gJ hn.1 ht];simpa using q
  have ed:=fun v (a:Ab w v)=>gP (w:=v) hn hm q2 (g.to a)
  have d:=(fQ hn.1 ht).1
  rw[e1,e2]at d
  rw[d]at ed
  exact Dm gb _ _ _ _ _ _ _ w ar ed
theorem down_len(n gb:Nat)(pb:Option Addr)(lb cb:Nat)(cell:Int)(w:World)(g:GridOf n gb w)(hl:lb≠6*n*n):
  Calls prog 86 #[.pointer (some ⟨gb,0,none⟩),.slice pb lb cb,.int .i64 cell] w fun e w'=>e=.returned (.int .i64 (-1))/\Below w.heap.size w w':=by
 have CC:=hid (cY g)
 generalize 6*n*n=N at*
 have e1:((lb:Int) != (N:Int))=true:=by simp;omega
 clear hl g
 go_enter func86,ntmps86
 go_wp2_with fail
 refine CC.out.mono ?_
 rintro e9 v9 ⟨rfl,hv9⟩
 have hv8:=hv9.symm
 subst hv8
 go_wp2
 go_ret
 exact⟨rfl,Below.refl _ _⟩
theorem down_out(n gb:Nat)(pb:Option Addr)(lb cb:Nat)(cell:Int)(w:World)(g:GridOf n gb w)(hl:lb=6*n*n)(hc: ¬(0<=cell/\cell<(lb:Nat))):
  Calls prog 86 #[.pointer (some ⟨gb,0,none⟩),.slice pb lb cb,.int .i64 cell] w fun e w'=>e=.returned (.int .i64 (-1))/\Below w.heap.size w w':=by
 have CC:=hid (cY g)
 rw[<- hl]at CC
 have e1:((lb:Int) != (lb:Int))=false:=by simp
 clear hl g
 by_cases c0:cell<0
 ·have e2:decide (cell<0)=true:=decide_eq_true c0
  clear hc c0
  go_enter func86,ntmps86
  go_wp2_with fail
  refine CC.out.mono ?_
  rintro e9 v9 ⟨rfl,hv9⟩
  have hv8:=hv9.symm
  subst hv8
  go_wp2
  go_ret
  exact⟨rfl,Below.refl _ _⟩
 ·have e2:decide (cell<0)=false:=decide_eq_false c0
  have e3:decide ((lb:Int)<=cell)=true:=decide_eq_true (by omega)
  clear hc c0
  go_enter func86,ntmps86
  go_wp2_with fail
  refine CC.out.mono ?_
  rintro e9 v9 ⟨rfl,hv9⟩
  have hv8:=hv9.symm
  subst hv8
  go_wp2
  go_ret
  exact⟨rfl,Below.refl _ _⟩
theorem down_go(N gb:Nat)(qb ob:Nat)(cb:Nat)(B:Nat->Nat)(nb:Nat->Nat)(c:Nat)(w:World)(hN:N<=6144)(hc:c<N)(IB:Hid (IsFl w (some ⟨qb,ob,none⟩) N B))
  (CC:Hid (Calls prog 28 #[.pointer (some ⟨gb,0,none⟩)] w fun e w'=>e=.returned (.int .i64 (N:Nat))/\w'=w))
  (BS:Hid (∀v s,Ab w v->s<4->Calls prog 134 #[.pointer (some ⟨gb,0,none⟩),.int .i64 (c:Nat),.int .i64 (s:Nat)] v fun e w'=>e=.returned (.int .i64 (nb s:Nat))/\Below v.heap.size v w'))
  (NL:Hid (∀s,s<4->nb s<N)):
  Calls prog 86 #[.pointer (some ⟨gb,0,none⟩),.slice (some ⟨qb,ob,none⟩) N cb,.int .i64 (c:Nat)] w fun e w'=>e=.returned (.int .i64 (dnI (kB B) nb c))/\Below w.heap.size w w':=by
 have e1:((N:Int) != (N:Int))=false:=by simp
 have e2:decide ((c:Int)<0)=false:=decide_eq_false (by omega)
 have e3:decide ((N:Int)<=(c:Int))=false:=decide_eq_false (by omega)
 have e4:decide (N<=c)=false:=decide_eq_false (by omega)
 have HN:=hid hN
 have HC:=hid hc
 have cI:(c:Int)<N:=by omega
 have cB:(c:Int)<=6144:=by omega
 obtain⟨xc,hxc⟩:=aD (B c)
 have XCC:=hid hxc
 have XC0:Hid (∀v,Ab w v->v.cell? ⟨qb,ob+c,none⟩=some (.float .f64 xc)):=fun v a=>by rw[<- hxc];exact((IB.out.below a).at0 hc).2.2
 clear hN hc hxc
 go_enter func86,ntmps86
 go_wp2_with fail
 refine CC.out.mono ?_
 rintro e9 v9 ⟨rfl,hv9⟩
 have hv8:=hv9.symm
 subst hv8
 go_upto_region 3 with fail
 obtain⟨UU,E,hF1,hF2⟩:=cls w
 have HU:=hid hF2
 have HU1:=hid hF1
 have y1: ∀u,(E u).cell? ⟨qb,ob+c,none⟩=some (.float .f64 xc):=fun u=>XC0.out _ (hF1 u)
 have DD0:=HU.out _ (Ab.refl w).drew
 clear hF1 hF2
 refine aJ E (by kernel_rfl) (by kernel_rfl) DD0 ?_
 repeat(go_big_quiet_step (with_reducible rfl))
 refine wpQuiet_nil ?_
 intro v0 hwz
 obtain⟨u0,hu⟩:=hwz
 have A0:Hid (Ab w v0):=by rw[hu];exact HU1.out u0
 clear hu u0
 clear HU HU1 DD0 y1
 clear E UU
 go_wp2
 go_loopw [7,8,35] (fun bv lv iv wr=> ∃k:Nat,k<=4/\iv=.int .i64 (k:Nat)/\bv=.int .i64 (dk (kB B) nb c k)/\lv=.float .f64 (lk B nb c k)/\Ab w wr) (fun _ _ iv _=>4 - (intOf iv).toNat)
 case atStart=>exact⟨0,by omega,rfl,rfl,by rw[<- XCC.out];rfl,A0.out⟩
 case round=>
  obtain⟨k,hk,rfl,rfl,rfl,ar⟩:=hrel
  have AR:=hid ar
  clear ar
  by_cases hk4:k<4
  ·have HK:=hid hk4
   have kI:(k:Int)<4:=by omega
   obtain⟨cc,hcc⟩:=aD (nb k)
   have ccl:=NL.out k hk4
   rw[hcc]at ccl
   have HCC:=hid hcc
   have CL:=hid ccl
   have BB:=hid (BS.out wr k AR.out hk4)
   rw[hcc]at BB
   obtain⟨x,hx⟩:=aD (B cc)
   have XC:Hid (∀v,Ab w v->v.cell? ⟨qb,ob+cc,none⟩=some (.float .f64 x)):=fun v a=>by rw[<- hx];exact((IB.out.below a).at0 ccl).2.2
   have xl:x<18446744073709551616:=by rw[<- hx];exact(IB.out cc ccl).1
   have HX:=hid hx
   have ccI:(cc:Int)<N:=by omega
   have ccB:(cc:Int)<=6144:=by have:=HN.out;omega
   by_cases q0:dk (kB B) nb c k<0
   ·obtain⟨g1,g2⟩:=dk_no q0
    have el:lk B nb c k=xc:=by unfold lk;rw[if_pos q0];exact XCC.out
    have DN:Hid (dk (kB B) nb c (k+1)=if kb x<kb xc then((cc:Nat):Int)else -1):=by
     show _=_
     rw[g2,hcc]
     unfold kB
     rw[hx,XCC.out]
    rw[g1,el]
    have yl:xc<18446744073709551616:=by rw[<- XCC.out];exact(IB.out c HC.out).1
    have CM:=hid (fun v=>jQ x xc v xl yl)
    have b0:decide ((cc:Int)< -1)=false:=decide_eq_false (by omega)
    clear hcc hx ccl xl yl q0 g1 g2 el hk hk4
    by_cases d1:kb x<kb xc
    ·have DQ:Hid (dk (kB B) nb c (k+1)=((cc:Nat):Int)):=by show _=_;rw[DN.out,if_pos d1]
     have LQ:Hid (lk B nb c (k+1)=x):=by show _=_;unfold lk;rw[DQ.out,if_neg (by omega),Int.toNat_natCast];exact HX.out
     rw[E5 d1]at CM
     clear d1
     go_wp2_with fail
     refine BB.out.mono ?_
     rintro e9 v1 ⟨rfl,b1⟩
     have A1:Hid (Ab w v1):=AR.out.trans b1
     clear b1
     have z1:=XC.out _ A1.out
     go_wp2_with fail
     refine(CM.out _).mono ?_
     rintro e9 v9 ⟨rfl,hv9⟩
     have hv8:=hv9.symm
     subst hv8
     clear z1
     go_upto_region 10 with fail
     obtain⟨UU,E,hF1,hF2⟩:=cls v1
     have HU:=hid hF2
     have HU1:=hid hF1
     have y1: ∀u,(E u).cell? ⟨qb,ob+cc,none⟩=some (.float .f64 x):=fun u=>XC.out _ (A1.out.trans (hF1 u))
     have DD0:=HU.out _ (Ab.refl v1).drew
     clear hF1 hF2
     refine aJ E (by kernel_rfl) (by kernel_rfl) DD0 ?_
     repeat(go_big_quiet_step (with_reducible rfl))
     refine wpQuiet_nil ?_
     intro v2 hwz
     obtain⟨u0,hu⟩:=hwz
     have A2:Hid (Ab v1 v2):=by rw[hu];exact HU1.out u0
     clear hu u0
     clear HU HU1 DD0 y1
     clear E UU
     go_wp2
     exact⟨⟨k+1,by have:=HK.out;omega,by simp,by rw[DQ.out],by rw[LQ.out],A1.out.trans A2.out⟩,by have:=HK.out;simp[intOf];omega⟩
    ·have DQ:Hid (dk (kB B) nb c (k+1)= -1):=by show _=_;rw[DN.out,if_neg d1]
     have LQ:Hid (lk B nb c (k+1)=xc):=by show _=_;unfold lk;rw[DQ.out,if_pos (by decide)];exact XCC.out
     by_cases d2:kb xc<kb x
     ·rw[E7 d2]at CM
      clear d1 d2
      go_wp2_with fail
      refine BB.out.mono ?_
      rintro e9 v1 ⟨rfl,b1⟩
      have A1:Hid (Ab w v1):=AR.out.trans b1
      clear b1
      have z1:=XC.out _ A1.out
      go_wp2_with fail
      refine(CM.out _).mono ?_
      rintro e9 v9 ⟨rfl,hv9⟩
      have hv8:=hv9.symm
      subst hv8
      clear z1
      go_wp2
      exact⟨⟨k+1,by have:=HK.out;omega,by simp,by rw[DQ.out],by rw[LQ.out],A1.out⟩,by have:=HK.out;simp[intOf];omega⟩
     ·rw[E8 (show kb x=kb xc by omega)]at CM
      clear d1 d2
      go_wp2_with fail
      refine BB.out.mono ?_
      rintro e9 v1 ⟨rfl,b1⟩
      have A1:Hid (Ab w v1):=AR.out.trans b1
      clear b1
      have z1:=XC.out _ A1.out
      go_wp2_with fail
      refine(CM.out _).mono ?_
      rintro e9 v9 ⟨rfl,hv9⟩
      have hv8:=hv9.symm
      subst hv8
      clear z1
      go_wp2
      exact⟨⟨k+1,by have:=HK.out;omega,by simp,by rw[DQ.out],by rw[LQ.out],A1.out⟩,by have:=HK.out;simp[intOf];omega⟩
   ·obtain⟨m,hm⟩: ∃m:Nat,dk (kB B) nb c k=(m:Nat):=⟨(dk (kB B) nb c k).toNat,by omega⟩
    obtain⟨⟨s,s1,s2⟩,-,g3⟩:=dk_yes hm
    have ml:m<N:=by rw[<- s2];exact NL.out s (by omega)
    obtain⟨y,hy⟩:=aD (B m)
    have el:lk B nb c k=y:=by unfold lk;rw[if_neg q0,hm,Int.toNat_natCast];exact hy
    have LT:Hid (lt2 (kB B) cc m=(decide (kb x<kb y)||(decide (kb x=kb y)&&decide (cc<m)))):=by show lt2 _ _ _=_;unfold lt2 kB;rw[hx,hy]
    have DN:Hid (dk (kB B) nb c (k+1)=if lt2 (kB B) cc m=true then((cc:Nat):Int)else((m:Nat):Int)):=by
     show _=_
     rw[g3,hcc]
    have HY:=hid hy
    rw[hm,el]
    have yl:y<18446744073709551616:=by rw[<- hy];exact(IB.out m ml).1
    have CM:=hid (fun v=>jQ x y v xl yl)
    have mI:(m:Int)<N:=by omega
    have mB:(m:Int)<=6144:=by have:=HN.out;omega
    have TK:Hid (lt2 (kB B) cc m=true->dk (kB B) nb c (k+1)=((cc:Nat):Int)/\lk B nb c (k+1)=x):=fun h=>by
     have e:dk (kB B) nb c (k+1)=((cc:Nat):Int):=by rw[DN.out,if_pos h]
     exact⟨e,by unfold lk;rw[e,if_neg (by omega),Int.toNat_natCast];exact HX.out⟩
    have LV:Hid (lt2 (kB B) cc m=false->dk (kB B) nb c (k+1)=((m:Nat):Int)/\lk B nb c (k+1)=y):=fun h=>by
     have e:dk (kB B) nb c (k+1)=((m:Nat):Int):=by rw[DN.out,if_neg (by rw[h];decide)]
     exact⟨e,by unfold lk;rw[e,if_neg (by omega),Int.toNat_natCast];exact HY.out⟩
    clear hcc hx hy ccl xl yl q0 g3 el hk hk4 s1 s2 ml hm DN
    by_cases d1:kb x<kb y
    ·have DQ:Hid (dk (kB B) nb c (k+1)=((cc:Nat):Int)):=(TK.out (LT.out.trans (by rw[decide_eq_true d1];rfl))).1
     have LQ:Hid (lk B nb c (k+1)=x):=(TK.out (LT.out.trans (by rw[decide_eq_true d1];rfl))).2
     rw[E5 d1]at CM
     clear d1 LT TK LV
     go_wp2_with fail
     refine BB.out.mono ?_
     rintro e9 v1 ⟨rfl,b1⟩
     have A1:Hid (Ab w v1):=AR.out.trans b1
     clear b1
     have z1:=XC.out _ A1.out
     go_wp2_with fail
     refine(CM.out _).mono ?_
     rintro e9 v9 ⟨rfl,hv9⟩
     have hv8:=hv9.symm
     subst hv8
     clear z1
     go_upto_region 10 with fail
     obtain⟨UU,E,hF1,hF2⟩:=cls v1
     have HU:=hid hF2
     have HU1:=hid hF1
     have y1: ∀u,(E u).cell? ⟨qb,ob+cc,none⟩=some (.float .f64 x):=fun u=>XC.out _ (A1.out.trans (hF1 u))
     have DD0:=HU.out _ (Ab.refl v1).drew
     clear hF1 hF2
     refine aJ E (by kernel_rfl) (by kernel_rfl) DD0 ?_
     repeat(go_big_quiet_step (with_reducible rfl))
     refine wpQuiet_nil ?_
     intro v2 hwz
     obtain⟨u0,hu⟩:=hwz
     have A2:Hid (Ab v1 v2):=by rw[hu];exact HU1.out u0
     clear hu u0
     clear HU HU1 DD0 y1
     clear E UU
     go_wp2
     exact⟨⟨k+1,by have:=HK.out;omega,by simp,by rw[DQ.out],by rw[LQ.out],A1.out.trans A2.out⟩,by have:=HK.out;simp[intOf];omega⟩
    ·by_cases d2:kb y<kb x
     ·have lf:lt2 (kB B) cc m=false:=LT.out.trans (by rw[decide_eq_false d1,decide_eq_false (show¬kb x=kb y by omega)];rfl)
      have DQ:=hid (LV.out lf).1
      have LQ:=hid (LV.out lf).2
      rw[E7 d2]at CM
      clear d1 d2 LT TK LV lf
      go_wp2_with fail
      refine BB.out.mono ?_
      rintro e9 v1 ⟨rfl,b1⟩
      have A1:Hid (Ab w v1):=AR.out.trans b1
      clear b1
      have z1:=XC.out _ A1.out
      go_wp2_with fail
      refine(CM.out _).mono ?_
      rintro e9 v9 ⟨rfl,hv9⟩
      have hv8:=hv9.symm
      subst hv8
      clear z1
      go_wp2
      exact⟨⟨k+1,by have:=HK.out;omega,by simp,by rw[DQ.out],by rw[LQ.out],A1.out⟩,by have:=HK.out;simp[intOf];omega⟩
     ·have ke:kb x=kb y:=by omega
      rw[E8 ke]at CM
      by_cases d3:cc<m
      ·have d4:decide ((cc:Int)<(m:Int))=true:=decide_eq_true (by omega)
       have d5:decide (cc<m)=true:=decide_eq_true d3
       have lf:lt2 (kB B) cc m=true:=LT.out.trans (by rw[d5,decide_eq_true ke,Bool.and_true,Bool.or_true])
       have DQ:=hid (TK.out lf).1
       have LQ:=hid (TK.out lf).2
       clear d1 d2 d3 LT TK LV lf ke
       go_wp2_with fail
       refine BB.out.mono ?_
       rintro e9 v1 ⟨rfl,b1⟩
       have A1:Hid (Ab w v1):=AR.out.trans b1
       clear b1
       have z1:=XC.out _ A1.out
       go_wp2_with fail
       refine(CM.out _).mono ?_
       rintro e9 v9 ⟨rfl,hv9⟩
       have hv8:=hv9.symm
       subst hv8
       clear z1
       go_upto_region 10 with fail
       obtain⟨UU,E,hF1,hF2⟩:=cls v1
       have HU:=hid hF2
       have HU1:=hid hF1
       have y1: ∀u,(E u).cell? ⟨qb,ob+cc,none⟩=some (.float .f64 x):=fun u=>XC.out _ (A1.out.trans (hF1 u))
       have DD0:=HU.out _ (Ab.refl v1).drew
       clear hF1 hF2
       refine aJ E (by kernel_rfl) (by kernel_rfl) DD0 ?_
       repeat(go_big_quiet_step (with_reducible rfl))
       refine wpQuiet_nil ?_
       intro v2 hwz
       obtain⟨u0,hu⟩:=hwz
       have A2:Hid (Ab v1 v2):=by rw[hu];exact HU1.out u0
       clear hu u0
       clear HU HU1 DD0 y1
       clear E UU
       go_wp2
       exact⟨⟨k+1,by have:=HK.out;omega,by simp,by rw[DQ.out],by rw[LQ.out],A1.out.trans A2.out⟩,by have:=HK.out;simp[intOf];omega⟩
      ·have d4:decide ((cc:Int)<(m:Int))=false:=decide_eq_false (by omega)
       have d5:decide (cc<m)=false:=decide_eq_false d3
       have lf:lt2 (kB B) cc m=false:=LT.out.trans (by rw[d5,decide_eq_false d1];simp)
       have DQ:=hid (LV.out lf).1
       have LQ:=hid (LV.out lf).2
       clear d1 d2 d3 LT TK LV lf ke
       go_wp2_with fail
       refine BB.out.mono ?_
       rintro e9 v1 ⟨rfl,b1⟩
       have A1:Hid (Ab w v1):=AR.out.trans b1
       clear b1
       have z1:=XC.out _ A1.out
       go_wp2_with fail
       refine(CM.out _).mono ?_
       rintro e9 v9 ⟨rfl,hv9⟩
       have hv8:=hv9.symm
       subst hv8
       clear z1
       go_wp2
       exact⟨⟨k+1,by have:=HK.out;omega,by simp,by rw[DQ.out],by rw[LQ.out],A1.out⟩,by have:=HK.out;simp[intOf];omega⟩
  ·have k4:k=4:=by omega
   subst k4
   go_wp2
   go_ret
   exact⟨rfl,AR.out⟩
theorem downC:DownC:=fun n gb pb lb cb B cell w hn g ib hw=>by
 by_cases hl:lb=6*n*n
 ·by_cases hc:0<=cell/\cell<(lb:Nat)
  ·obtain⟨c,rfl⟩: ∃c:Nat,cell=(c:Nat):=⟨cell.toNat,by omega⟩
   have hc2:c<lb:=by omega
   rw[if_pos ⟨hl,hc.1,by rw[<- hl];exact hc.2⟩,Int.toNat_natCast]
   obtain⟨qb,ob,rfl⟩:=ib.some0 (show 0<lb by omega)
   have nb:lb<=6144:=by
    have h1:n*n<=32*32:=Nat.mul_le_mul hn.2 hn.2
    rw[hl,Nat.mul_assoc]
    omega
   have cc:=cY g
   rw[<- hl]at cc
   exact down_go lb gb qb ob cb B (fun s=>bsC n c s) c w nb hc2 ib cc (fun v s a hs=>AI n gb c s v hn (by omega) hs (g.to a)) (fun s hs=>by rw[hl];exact bsC_lt hn.1 (by omega) hs)
  ·rw[if_neg (by rw[<- hl];exact fun h=>hc h.2)]
   exact down_out n gb pb lb cb cell w g hl hc
 ·rw[if_neg (fun h=>hl h.1)]
  exact down_len n gb pb lb cb cell w g hl
end Rv
end
section
open Go.RowKit Tf Cu Go.Deep
attribute [local go_sem] aK aL aP aQ aR aV aW aF
namespace Rv
theorem fitw19(gb:Nat)(pb pw pt ps:Option Addr)(lb cb lw cw lt ct ls cs:Nat)(sky st:Int)(M N:Nat)(q:Bool)(w:World)
  (hq:(((lb:Int)==(M:Int))=false/\q=false)\/(((lb:Int)==(M:Int))=true/\((lw:Int)==(M:Int))=false/\q=false)\/(((lb:Int)==(M:Int))=true/\((lw:Int)==(M:Int))=true/\((lt:Int)==(M:Int))=false/\q=false)\/(((lb:Int)==(M:Int))=true/\((lw:Int)==(M:Int))=true/\((lt:Int)==(M:Int))=true/\((ls:Int)==(N:Int))=q))
  (CC:Hid (∀v,Ab w v->Calls prog 28 #[(.pointer (some ⟨gb,0,none⟩))] v fun e w'=>e=.returned (.int .i64 (M:Nat))/\Below v.heap.size v w'))
  (CE:Hid (∀v,Ab w v->Calls prog 32 #[(.pointer (some ⟨gb,0,none⟩))] v fun e w'=>e=.returned (.int .i64 (N:Nat))/\Below v.heap.size v w')):
  Calls prog 83 #[(.pointer (some ⟨gb,0,none⟩)),.agg #[.slice pb lb cb,.slice pw lw cw,.slice pt lt ct,.slice ps ls cs,.int .i64 sky,.int .i64 st]] w fun e w'=>e=.returned (.bool q)/\Below w.heap.size w w':=by
 obtain⟨A0,RO⟩:=aO w (.cells #[.slice pb lb cb,.slice pw lw cw,.slice pt lt ct,.slice ps ls cs,.int .i64 sky,.int .i64 st] 29)
 go_enter func83,ntmps83
 go_wp2_with fail
 refine(CC.out _ A0.out).mono ?_
 rintro e9 v1 ⟨rfl,b1⟩
 have A1:Hid (Ab w v1):=A0.out.call b1
 have R1:Hid (v1.heap[w.heap.size]? =some (.cells #[.slice pb lb cb,.slice pw lw cw,.slice pt lt ct,.slice ps ls cs,.int .i64 sky,.int .i64 st] 29)):=Ab.heap b1 RO.out
 clear b1 A0 RO
 go_upto_region 2 with fail
 obtain⟨gs,hgs⟩:=aD w.heap.size
 rw[hgs]at R1 ⊢
 clear hgs
 rcases hq with⟨q1,rfl⟩ | ⟨q1,q2,rfl⟩ | ⟨q1,q2,q3,rfl⟩ | ⟨q1,q2,q3,q4⟩
 ·obtain⟨UU,E,hF1,hF2⟩:=cls v1
  have HU:=hid hF2
  have HU1:=hid hF1
  have HX:Hid (∀u,Ab w (E u)):=fun u=>Ab.trans A1.out (hF1 u)
  have s0: ∀u,(E u).cell? ⟨gs,0,none⟩=some (.slice pb lb cb):=fun u=>aA 0 ((hF1 u).heap R1.out)
  have s1: ∀u,(E u).cell? ⟨gs,1,none⟩=some (.slice pw lw cw):=fun u=>aA 1 ((hF1 u).heap R1.out)
  have s2: ∀u,(E u).cell? ⟨gs,2,none⟩=some (.slice pt lt ct):=fun u=>aA 2 ((hF1 u).heap R1.out)
  have s3: ∀u,(E u).cell? ⟨gs,3,none⟩=some (.slice ps ls cs):=fun u=>aA 3 ((hF1 u).heap R1.out)
  have DD0:=HU.out _ (Ab.refl v1).drew
  clear hF1 hF2
  refine aJ E (by kernel_rfl) (by kernel_rfl) DD0 ?_
  repeat(go_big_quiet_step (first
   | (with_reducible rfl)
   | (go_at_call 32;exact aH HU HU1 (CE.out _ (HX.out _)))))
  refine wpQuiet_nil ?_
  intro z hwz
  obtain⟨u0,hu⟩:=hwz
  have AZ:Hid (Ab w z):=by rw[hu];exact HX.out u0
  clear hu u0
  clear HU HU1 HX DD0 s0 s1 s2 s3
  clear E UU
  go_wp2
  go_ret
  exact⟨rfl,AZ.out⟩
 ·obtain⟨UU,E,hF1,hF2⟩:=cls v1
  have HU:=hid hF2
  have HU1:=hid hF1
  have HX:Hid (∀u,Ab w (E u)):=fun u=>Ab.trans A1.out (hF1 u)
  have s0: ∀u,(E u).cell? ⟨gs,0,none⟩=some (.slice pb lb cb):=fun u=>aA 0 ((hF1 u).heap R1.out)
  have s1: ∀u,(E u).cell? ⟨gs,1,none⟩=some (.slice pw lw cw):=fun u=>aA 1 ((hF1 u).heap R1.out)
  have s2: ∀u,(E u).cell? ⟨gs,2,none⟩=some (.slice pt lt ct):=fun u=>aA 2 ((hF1 u).heap R1.out)
  have s3: ∀u,(E u).cell? ⟨gs,3,none⟩=some (.slice ps ls cs):=fun u=>aA 3 ((hF1 u).heap R1.out)
  have DD0:=HU.out _ (Ab.refl v1).drew
  clear hF1 hF2
  refine aJ E (by kernel_rfl) (by kernel_rfl) DD0 ?_
  repeat(go_big_quiet_step (first
   | (with_reducible rfl)
   | (go_at_call 32;exact aH HU HU1 (CE.out _ (HX.out _)))))
  refine wpQuiet_nil ?_
  intro z hwz
  obtain⟨u0,hu⟩:=hwz
  have AZ:Hid (Ab w z):=by rw[hu];exact HX.out u0
  clear hu u0
  clear HU HU1 HX DD0 s0 s1 s2 s3
  clear E UU
  go_wp2
  go_ret
  exact⟨rfl,AZ.out⟩
 ·obtain⟨UU,E,hF1,hF2⟩:=cls v1
  have HU:=hid hF2
  have HU1:=hid hF1
  have HX:Hid (∀u,Ab w (E u)):=fun u=>Ab.trans A1.out (hF1 u)
  have s0: ∀u,(E u).cell? ⟨gs,0,none⟩=some (.slice pb lb cb):=fun u=>aA 0 ((hF1 u).heap R1.out)
  have s1: ∀u,(E u).cell? ⟨gs,1,none⟩=some (.slice pw lw cw):=fun u=>aA 1 ((hF1 u).heap R1.out)
  have s2: ∀u,(E u).cell? ⟨gs,2,none⟩=some (.slice pt lt ct):=fun u=>aA 2 ((hF1 u).heap R1.out)
  have s3: ∀u,(E u).cell? ⟨gs,3,none⟩=some (.slice ps ls cs):=fun u=>aA 3 ((hF1 u).heap R1.out)
  have DD0:=HU.out _ (Ab.refl v1).drew
  clear hF1 hF2
  refine aJ E (by kernel_rfl) (by kernel_rfl) DD0 ?_
  repeat(go_big_quiet_step (first
   | (with_reducible rfl)
   | (go_at_call 32;exact aH HU HU1 (CE.out _ (HX.out _)))))
  refine wpQuiet_nil ?_
  intro z hwz
  obtain⟨u0,hu⟩:=hwz
  have AZ:Hid (Ab w z):=by rw[hu];exact HX.out u0
  clear hu u0
  clear HU HU1 HX DD0 s0 s1 s2 s3
  clear E UU
  go_wp2
  go_ret
  exact⟨rfl,AZ.out⟩
 ·obtain⟨UU,E,hF1,hF2⟩:=cls v1
  have HU:=hid hF2
  have HU1:=hid hF1
  have HX:Hid (∀u,Ab w (E u)):=fun u=>Ab.trans A1.out (hF1 u)
  have s0: ∀u,(E u).cell? ⟨gs,0,none⟩=some (.slice pb lb cb):=fun u=>aA 0 ((hF1 u).heap R1.out)
  have s1: ∀u,(E u).cell? ⟨gs,1,none⟩=some (.slice pw lw cw):=fun u=>aA 1 ((hF1 u).heap R1.out)
  have s2: ∀u,(E u).cell? ⟨gs,2,none⟩=some (.slice pt lt ct):=fun u=>aA 2 ((hF1 u).heap R1.out)
  have s3: ∀u,(E u).cell? ⟨gs,3,none⟩=some (.slice ps ls cs):=fun u=>aA 3 ((hF1 u).heap R1.out)
  have DD0:=HU.out _ (Ab.refl v1).drew
  clear hF1 hF2
  refine aJ E (by kernel_rfl) (by kernel_rfl) DD0 ?_
  repeat(go_big_quiet_step (first
   | (with_reducible rfl)
   | (go_at_call 32;exact aH HU HU1 (CE.out _ (HX.out _)))))
  refine wpQuiet_nil ?_
  intro z hwz
  obtain⟨u0,hu⟩:=hwz
  have AZ:Hid (Ab w z):=by rw[hu];exact HX.out u0
  clear hu u0
  clear HU HU1 HX DD0 s0 s1 s2 s3
  clear E UU
  go_wp2
  go_ret
  exact⟨rfl,AZ.out⟩
theorem Hr(gb:Nat)(pb pw pt ps:Option Addr)(lb cb lw cw lt ct ls cs:Nat)(sky st:Int){n:Nat}(q:Bool)(w:World)(g:GridOf n gb w)(hq:q=true ↔ (lb=6*n*n/\lw=6*n*n/\lt=6*n*n/\ls=12*n*n)):
  Calls prog 83 #[.pointer (some ⟨gb,0,none⟩),.agg #[.slice pb lb cb,.slice pw lw cw,.slice pt lt ct,.slice ps ls cs,.int .i64 sky,.int .i64 st]] w fun e w'=>e=.returned (.bool q)/\Below w.heap.size w w':=by
 refine fitw19 gb pb pw pt ps lb cb lw cw lt ct ls cs sky st (6*n*n) (12*n*n) q w ?_ (fun v hv=>(cY (g.to hv)).mono fun _ _ h=>⟨h.1,by obtain⟨_,rfl⟩:=h;exact Below.refl _ _⟩) (fun v hv=>(cP (g.to hv)).mono fun _ _ h=>⟨h.1,by obtain⟨_,rfl⟩:=h;exact Below.refl _ _⟩)
 have e: ∀a b:Nat,((a:Int)==(b:Int))=decide (a=b):=fun a b=>by rw[Bool.eq_iff_iff];simp;omega
 have qf: ¬(lb=6*n*n/\lw=6*n*n/\lt=6*n*n/\ls=12*n*n)->q=false:=fun h=>by
  cases hc:q
  ·rfl
  ·exact absurd (hq.1 hc) h
 rw[e,e,e,e]
 by_cases c1:lb=6*n*n
 ·by_cases c2:lw=6*n*n
  ·by_cases c3:lt=6*n*n
   ·refine .inr (.inr (.inr ⟨decide_eq_true c1,decide_eq_true c2,decide_eq_true c3,?_⟩))
    rw[Bool.eq_iff_iff,decide_eq_true_eq,hq]
    exact⟨fun h=>⟨c1,c2,c3,h⟩,fun h=>h.2.2.2⟩
   ·exact .inr (.inr (.inl ⟨decide_eq_true c1,decide_eq_true c2,decide_eq_false c3,qf (fun h=>c3 h.2.2.1)⟩))
  ·exact .inr (.inl ⟨decide_eq_true c1,decide_eq_false c2,qf (fun h=>c2 h.2.1)⟩)
 ·exact .inl ⟨decide_eq_false c1,qf (fun h=>c1 h.1)⟩
theorem pG(p:Option Addr)(N c:Nat)(f:Nat->Int)(w:World)(hN:N<=6144)(hf:Sh.IsI w p N f)(OK:Hid (okV N f)):
  Calls prog 84 #[.slice p N c] w fun e w'=>e=.returned (.bool true)/\Below w.heap.size w w':=by
 have HF:=hid hf
 have HN:=hid hN
 clear hf hN
 go_enter func84,ntmps84
 go_wp2
 go_loopw [3,8] (fun sv iv wr=> ∃k:Nat,k<=N/\iv=.int .i64 (k:Nat)/\sv=.int .i64 (4503599627370496 - Sh.sumN f k)/\(0<=Sh.sumN f k/\Sh.sumN f k<=4503599627370496)/\wr=w) (fun _ iv _=>N - (intOf iv).toNat)
 case atStart=>exact⟨0,by omega,rfl,rfl,⟨Int.le_refl 0,by show(0:Int)<=_;omega⟩,rfl⟩
 case round=>
  obtain⟨k,hk,rfl,rfl,hb,hwr⟩:=hrel
  have hwr2:=hwr.symm
  subst hwr2
  have s1:=hb.1
  have s2:=hb.2
  obtain⟨s,hs⟩:=aD (4503599627370496 - Sh.sumN f k)
  have SE:=hid hs
  have s3:0<=s:=by omega
  have s4:s<=4503599627370496:=by omega
  rw[hs]
  clear hb
  by_cases hkn:k<N
  ·have HK:=hid hkn
   have kI:(k:Int)<N:=by omega
   have kB:(k:Int)<=6144:=by have:=HN.out;omega
   obtain⟨b0,o0,rfl⟩:=HF.out.some0 (show 0<N by omega)
   obtain⟨x,hx⟩:=aD (f k)
   have xc:=(HF.out.at0 hkn).2.2
   rw[hx]at xc
   have XE:=hid hx
   have m3:Sh.sumN f (k+1)=Sh.sumN f k+x:=by show Sh.sumN f k+f k=_;rw[hx]
   have M3:Hid (4503599627370496 - Sh.sumN f (k+1)=s - x):=by show _=_;rw[m3];omega
   have m1:=OK.out.1 k hkn
   have m2:=Sh.eI OK.out.1 (m:=k+1) (by omega)
   have m4:=OK.out.2
   rw[hx]at m1
   have n1:0<=s - x:=by omega
   have n2:Hid (0<=Sh.sumN f (k+1)/\Sh.sumN f (k+1)<=4503599627370496):=⟨by omega,by omega⟩
   have d1:decide (x<0)=false:=decide_eq_false (by omega)
   have d2:decide (s<x)=false:=decide_eq_false (by omega)
   clear hx hs m2 m3 m4 hkn hk s1 s2
   go_wp2
   exact⟨⟨k+1,by have:=HK.out;omega,by simp,by rw[M3.out],n2.out,by first | trivial | rfl⟩,by have:=HK.out;simp[intOf];omega⟩
  ·have e6:N=k:=by omega
   subst e6
   go_wp2
   go_ret
   exact⟨rfl,Below.refl _ _⟩
theorem AJ(p:Option Addr)(N c:Nat)(f:Nat->Int)(w:World)(hN:N<=6144)(hf:Sh.IsI w p N f)(NO:Hid (¬okV N f)):
  Calls prog 84 #[.slice p N c] w fun e w'=>e=.returned (.bool false)/\Below w.heap.size w w':=by
 have HF:=hid hf
 have HN:=hid hN
 clear hf hN
 go_enter func84,ntmps84
 go_wp2
 go_loopw [3,8] (fun sv iv wr=> ∃k:Nat,k<=N/\iv=.int .i64 (k:Nat)/\sv=.int .i64 (4503599627370496 - Sh.sumN f k)/\(0<=Sh.sumN f k/\Sh.sumN f k<=4503599627370496)/\(∀i,i<k->0<=f i)/\wr=w) (fun _ iv _=>N - (intOf iv).toNat)
 case atStart=>exact⟨0,by omega,rfl,rfl,⟨Int.le_refl 0,by show(0:Int)<=_;omega⟩,fun i hi=>absurd hi (Nat.not_lt_zero i),rfl⟩
 case round=>
  obtain⟨k,hk,rfl,rfl,hb,g1,hwr⟩:=hrel
  have hwr2:=hwr.symm
  subst hwr2
  have G1:=hid g1
  clear g1
  have s1:=hb.1
  have s2:=hb.2
  obtain⟨s,hs⟩:=aD (4503599627370496 - Sh.sumN f k)
  have SE:=hid hs
  have s3:0<=s:=by omega
  have s4:s<=4503599627370496:=by omega
  rw[hs]
  clear hb
  by_cases hkn:k<N
  ·have HK:=hid hkn
   have kI:(k:Int)<N:=by omega
   have kB:(k:Int)<=6144:=by have:=HN.out;omega
   obtain⟨b0,o0,rfl⟩:=HF.out.some0 (show 0<N by omega)
   obtain⟨x,hx⟩:=aD (f k)
   have xc:=(HF.out.at0 hkn).2.2
   rw[hx]at xc
   have XE:=hid hx
   have m3:Sh.sumN f (k+1)=Sh.sumN f k+x:=by show Sh.sumN f k+f k=_;rw[hx]
   have M3:Hid (4503599627370496 - Sh.sumN f (k+1)=s - x):=by show _=_;rw[m3];omega
   by_cases q1:x<0
   ·have d1:decide (x<0)=true:=decide_eq_true q1
    clear hx hs m3 hkn hk s1 s2
    go_wp2
    go_ret
    exact⟨rfl,Below.refl _ _⟩
   ·have d1:decide (x<0)=false:=decide_eq_false q1
    by_cases q2:s<x
    ·have d2:decide (s<x)=true:=decide_eq_true q2
     clear hx hs m3 hkn hk s1 s2
     go_wp2
     go_ret
     exact⟨rfl,Below.refl _ _⟩
    ·have d2:decide (s<x)=false:=decide_eq_false q2
     have n1:0<=s - x:=by omega
     have n2:Hid (0<=Sh.sumN f (k+1)/\Sh.sumN f (k+1)<=4503599627370496):=⟨by omega,by omega⟩
     have n3:0<=x:=by omega
     have G2:Hid (∀i,i<k+1->0<=f i):=fun i hi=>by
      by_cases l:i<k
      ·exact G1.out i l
      ·obtain rfl:i=k:=by omega
       rw[XE.out]
       omega
     clear q1 q2 hx hs m3 hkn hk s1 s2
     go_wp2
     exact⟨⟨k+1,by have:=HK.out;omega,by simp,by rw[M3.out],n2.out,G2.out,by first | trivial | rfl⟩,by have:=HK.out;simp[intOf];omega⟩
  ·have e6:N=k:=by omega
   subst e6
   exact absurd ⟨G1.out,s2⟩ NO.out
theorem Hu(x a:Int)(w:World)(h1: -9223372036854775808<=x/\x<=9223372036854775807)(h2:a<=9223372036854775807):
  Calls prog 87 #[.int .i64 x,.int .i64 a] w fun e w'=>e=.returned (.bool (decide (0<x)&&flt (dpB x a) 4602678819172646912))/\Below w.heap.size w w':=by
 have CD:=hid (iT x a w h1.2 h2)
 have dl:x<=4503599627370496->dpB x a<18446744073709551616:=fun h=>by
  have:=nF (w:=x) (a:=a) (by omega) h2
  omega
 obtain⟨d,hd⟩:=aD (dpB x a)
 rw[hd]at CD
 rw[hd]
 clear hd dl
 cases e1:decide (0<x)with
 | false=>
  clear CD
  go_enter func87,ntmps87
  go_wp2
  go_ret
  exact⟨rfl,Below.refl _ _⟩
 | true=>
  go_enter func87,ntmps87
  go_wp2_with fail
  refine CD.out.mono ?_
  rintro e9 v9 ⟨rfl,k,rfl⟩
  go_wp2
  go_ret
  exact⟨rfl,Ab.drewN (Ab.refl w) k⟩
end Rv
end
section
open Go.ChangeShapes Go.WideShapes Go.ChangeAt Go.WideMaps Go.WideElems Go.RowKit Go.Deep
theorem array6'{c:Array Value}(h:c.size=6): ∃v0 v1 v2 v3 v4 v5,c= #[v0,v1,v2,v3,v4,v5]:=by
 rcases c with⟨l⟩
 match l,h with
 | [v0,v1,v2,v3,v4,v5],_=>exact⟨v0,v1,v2,v3,v4,v5,rfl⟩
end
section
open Go.ChangeShapes Go.WideShapes Go.ChangeAt Go.WideMaps Go.WideElems Go.RowKit Go.Deep
theorem array7'{c:Array Value}(h:c.size=7): ∃v0 v1 v2 v3 v4 v5 v6,c= #[v0,v1,v2,v3,v4,v5,v6]:=by
 rcases c with⟨l⟩
 match l,h with
 | [v0,v1,v2,v3,v4,v5,v6],_=>exact⟨v0,v1,v2,v3,v4,v5,v6,rfl⟩
theorem AM{H:Type}{enc:TypeId × Value->H}{P:Program}{w:World}{base:Nat}{spare:Nat->Bool}{held:Bool}{t:TypeId}{fuel:Nat}{v:Value}{x:DataW H × List MemPlace}(ht:P.underlying t=some .bool)(h:DataW.trod enc P w base spare held fuel t [v]=some x):
  ∃b,v=.bool b:=by
 cases fuel with
 | zero=>simp[DataW.trod]at h
 | succ n=>
  unfold DataW.trod at h
  rw[ht]at h
  split at h<;>simp_all
end
section
open Go.ChangeShapes Go.WideShapes Go.ChangeAt Go.WideMaps Go.WideElems Go.RowKit Go.Deep
namespace Sh
theorem trod_int{H:Type}{enc:TypeId × Value->H}{P:Program}{w:World}{base:Nat}{spare:Nat->Bool}{held:Bool}{t:TypeId}{fuel:Nat}{v:Value}{x:DataW H × List MemPlace}(ht:P.underlying t=some (.int .i64))(h:DataW.trod enc P w base spare held fuel t [v]=some x):
  ∃b,v=.int .i64 b/\(-9223372036854775808<=b/\b<=9223372036854775807):=by
 obtain⟨k,e,_,wf⟩:=DataW.trod_int ht h
 simp at e
 simp only[Lit.wf,Bool.and_eq_true,decide_eq_true_eq]at wf
 have q1:IntKind.i64.min= -9223372036854775808:=by decide
 have q2:IntKind.i64.max=9223372036854775807:=by decide
 rw[q1,q2]at wf
 exact⟨k,e,wf⟩
theorem tJ{w:World}{a:Addr}{v:Value}(h:w.cell? a=some v):a.block<w.heap.size:=by
 by_cases c:a.block<w.heap.size
 ·exact c
 ·exfalso
  have:w.heap[a.block]? =none:=by simp;omega
  simp[World.cell?,this]at h
theorem qK{α:Type}{n:Nat}{R:Nat->α->Prop}(d:α)(h: ∀i,i<n-> ∃x,R i x): ∃f:Nat->α,∀i,i<n->R i (f i):=by
 have: ∀i,∃x,i<n->R i x:=fun i=>by
  by_cases c:i<n
  ·obtain⟨x,h1⟩:=h i c
   exact⟨x,fun _=>h1⟩
  ·exact⟨d,fun h=>absurd h c⟩
 exact⟨fun i=>(this i).choose,fun i hi=>(this i).choose_spec hi⟩
theorem vM{H:Type}{enc:TypeId × Value->H}{W:World}{cs:List Value}{fuel:Nat}{x:DataW H × List MemPlace}
  (hf:DataW.trod enc prog W 0 (fun _=>true) true fuel 27 cs=some x): ∃a0 len cap xs,cs=[.slice a0 len cap]/\IsI W a0 len xs/\len<=cap/\cap<=maxLen:=by
 rcases open_slice1 underlying27 (by kernel_rfl) hf with⟨hcs,_⟩ | ⟨a,l,c,m,n,V,D,Pl,hcs,_,hl,hm,hmm,_,hx⟩
 ·exact⟨none,0,0,fun _=>0,hcs,fun k hk=>by omega,Nat.le_refl _,Nat.zero_le _⟩
 ·simp only[if_true]at hmm
  have each: ∀i,i<l-> ∃x:Int,W.cell? (a.add i)=some (.int .i64 x)/\(-9223372036854775808<=x/\x<=9223372036854775807):=by
   intro i hi
   obtain⟨h1,h2⟩:=hx i (by omega)
   obtain⟨x,e,wx⟩:=trod_int underlying2 h2
   rw[e]at h1
   exact⟨x,h1,wx⟩
  obtain⟨f,hf⟩:=qK 0 each
  refine⟨some a,l,c,f,hcs,fun k hk=>⟨(hf k hk).2,?_⟩,hl,hm⟩
  have h0:=(hf k hk).1
  have z:=(hf 0 (by omega)).1
  obtain⟨b,off,spot⟩:=a
  have hspot:spot=none:=by simpa [Addr.add]using World.cell?_spot z
  subst hspot
  rw[jF]at h0
  exact⟨b,off,rfl,tJ h0,h0⟩
end Sh
end
section
open Go.ChangeShapes Go.WideShapes Go.ChangeAt Go.WideMaps Go.WideElems Go.RowKit Go.Deep
namespace Rn
open Sh
theorem Dn{H:Type}{enc:TypeId × Value->H}{w:World}{base n:Nat}{spare:Nat->Bool}{held:Bool}{v0 v1 v2 v3:Value}{x:DataW H × List MemPlace}(h:DataW.trod enc prog w base spare held n 72 [v0,v1,v2,v3]=some x):
  ∃r:Int × Int × Int × Int,(v0=.int .i64 r.1/\v1=.int .i64 r.2.1/\v2=.int .i64 r.2.2.1/\v3=.int .i64 r.2.2.2)/\W4 r:=by
 have k1:Tryz.prog.cellsOf 2=1:=by kernel_rfl
 have k2:Tryz.prog.cellsOf 3=1:=by kernel_rfl
 obtain⟨xs,m,_,hx,hlen,hn,hel⟩:=DataW.trod_struct underlying72 h
 match xs,hn with
 | [x0,x1,x2,x3],_=>
  have h0:=hel 0 _ rfl
  have h1:=hel 1 _ rfl
  have h2:=hel 2 _ rfl
  have h3:=hel 3 _ rfl
  simp[k1,k2]at h0 h1 h2 h3
  obtain⟨a0,e0,i0⟩:=trod_int underlying3 h0
  obtain⟨a1,e1,i1⟩:=trod_int underlying2 h1
  obtain⟨a2,e2,i2⟩:=trod_int underlying3 h2
  obtain⟨a3,e3,i3⟩:=trod_int underlying3 h3
  exact⟨(a0,a1,a2,a3),⟨e0,e1,e2,e3⟩,i0,i1,i2,i3⟩
theorem Dq{H:Type}{enc:TypeId × Value->H}{W:World}{cs:List Value}{fuel:Nat}{x:DataW H × List MemPlace}
  (hf:DataW.trod enc prog W 0 (fun _=>true) true fuel 23 cs=some x): ∃a0 len cap R,cs=[.slice a0 len cap]/\IsRn W a0 len R/\len<=cap/\(a0=none->len=0/\cap=0)/\(0<cap-> ∀b o sp,a0=some ⟨b,o,sp⟩->sp=none)/\((∀elems spare,x.1=.slice elems spare->(elems.length+spare.length)*32<=reachBytes)->cap<=17592186044416):=by
 rcases open_slice underlying23 hf with⟨hcs,_⟩ | ⟨a,l,c,m,n,D,Pl,hcs,_,hl,hm,hmm,hxx,hx⟩
 ·exact⟨none,0,0,fun _=>(0,0,0,0),hcs,IsRn.nil _ _ _,Nat.le_refl _,fun _=>⟨rfl,rfl⟩,fun h=>by omega,fun _=>by omega⟩
 ·simp only[if_true]at hmm
  have ce:Tryz.prog.cellsOf 72=4:=by kernel_rfl
  have each: ∀i,i<m-> ∃r:Int × Int × Int × Int,(W.cell? (a.add (i*4))=some (.int .i64 r.1)/\W.cell? (a.add (i*4+1))=some (.int .i64 r.2.1)/\W.cell? (a.add (i*4+2))=some (.int .i64 r.2.2.1)/\W.cell? (a.add (i*4+3))=some (.int .i64 r.2.2.2))/\W4 r:=by
   intro i hi
   obtain⟨cs',h1,h2⟩:=hx i hi
   rw[ce]at h1
   obtain⟨_,hlen,hcell⟩:=World.cells?_some h1
   match cs',hlen with
   | [v0,v1,v2,v3],_=>
    obtain⟨r,⟨rfl,rfl,rfl,rfl⟩,h4⟩:=Dn h2
    have e0:=hcell 0 (by omega)
    have e1:=hcell 1 (by omega)
    have e2:=hcell 2 (by omega)
    have e3:=hcell 3 (by omega)
    rw[add_add]at e0 e1 e2 e3
    exact⟨r,⟨by simpa using e0,by simpa using e1,by simpa using e2,by simpa using e3⟩,h4⟩
  obtain⟨R,hR⟩:=qK (0,0,0,0) each
  subst hmm
  refine⟨some a,l,m,R,hcs,fun k hk=>⟨(hR k (by omega)).2,?_⟩,hl,fun h=>(by cases h),fun h b o sp e=> ?_,fun h=> ?_⟩
  ·have h0:=(hR k (by omega)).1
   obtain⟨b,off,spot⟩:=a
   have hspot:spot=none:=by simpa [Addr.add]using World.cell?_spot (hR 0 (by omega)).1.1
   subst hspot
   simp only[jF]at h0
   exact⟨b,off,rfl,tJ h0.1,h0.1,by simpa only[Nat.add_assoc]using h0.2.1,by simpa only[Nat.add_assoc]using h0.2.2.1,by simpa only[Nat.add_assoc]using h0.2.2.2⟩
  ·have h0:=(hR 0 h).1
   cases e
   simpa [Addr.add]using World.cell?_spot h0.1
  ·have:=h _ _ (by rw[hxx])
   simp only[List.length_map,List.length_range,reachBytes]at this
   omega
theorem vN{H:Type}{P:Program}{ts:List TypeId}{ds:List (DataW H)}(h:(DataW.weightsEach P ts ds).all (· <=reachBytes)=true){j:Nat}{t:TypeId}{fs:Array Field}{parts:List (DataW H)}(ht:ts[j]? =some t)(hd:ds[j]? =some (.agg parts))(hu:P.underlying t=some (.struct fs)):
  (DataW.weightsEach P (fs.toList.map (·.type)) parts).all (· <=reachBytes)=true:=by
 refine List.all_eq_true.2 (fun n hn=> ?_)
 exact List.all_eq_true.1 h _ (DataW.weights_mem_each ht hd n (by simpa [DataW.weights,hu]using hn))
theorem bytesR18:Tryz.prog.bytesOf 72=32:=by kernel_rfl
end Rn
end
section
open Go.ChangeShapes Go.WideShapes Go.ChangeAt Go.WideMaps Go.WideElems Go.RowKit Go.Deep
namespace Ss
theorem AO:Tryz.prog.bytesOf 22=8:=by kernel_rfl
theorem AP:Tryz.prog.bytesOf 2=8:=by kernel_rfl
end Ss
end
section
open Go.ChangeShapes Go.WideShapes Go.ChangeAt Go.WideMaps Go.WideElems Go.RowKit Go.Deep
namespace St
open Ss
theorem iB{H:Type}{enc:TypeId × Value->H}{W:World}{T E:TypeId}{a0:Option Addr}{len0 cap0:Nat}{fuel:Nat}{x:DataW H × List MemPlace}(hu:Tryz.prog.underlying T=some (.slice E))(h1:Tryz.prog.cellsOf E=1)
  (hf:DataW.trod enc prog W 0 (fun _=>true) true fuel T [.slice a0 len0 cap0]=some x) (hs: ∀elems spare,x.1=.slice elems spare->(elems.length+spare.length)*8<=reachBytes):len0<=17592186044416:=by
 rcases Go.Deep.open_slice1 hu h1 hf with⟨hcs,_⟩ | ⟨a,l,c,m,n,V,D,Pl,hcs,_,hl,hm,hmm,hx,_⟩
 ·simp at hcs
  obtain⟨rfl,rfl,rfl⟩:=hcs
  exact Nat.zero_le _
 ·simp at hcs
  obtain⟨rfl,rfl,rfl⟩:=hcs
  simp only[if_true]at hmm
  subst hmm
  have:=hs _ _ (by rw[hx])
  simp only[List.length_map,List.length_range,reachBytes]at this
  omega
theorem Dr{H:Type}{enc:TypeId × Value->H}{W:World}{r:Reach}{b0:Nat}{v:Value}{d:DataW H}{p:List MemPlace}(hv:Value.okWide prog W r b0 29 v)(h:DataW.Trod enc prog W 0 (fun _=>true) true 29 v d p)
  (hz: ∀parts,d=.agg parts->(DataW.weightsEach prog [26,27,27,26,2,3] parts).all (· <=reachBytes)=true):
  ∃pb lb cb B pw lw cw Wt pt lt ct Tr ps ls cs Sp sky st,v=.agg #[.slice pb lb cb,.slice pw lw cw,.slice pt lt ct,.slice ps ls cs,.int .i64 sky,.int .i64 st]/\(IsFl W pb lb B/\Sh.IsI W pw lw Wt/\Sh.IsI W pt lt Tr/\IsFl W ps ls Sp)/\(lb<=17592186044416/\lw<=17592186044416/\lt<=17592186044416/\ls<=17592186044416)/\Sh.W64 sky/\Sh.W64 st:=by
 have hC:Tryz.prog.cellsOf 29=6:=by kernel_rfl
 have k0:Tryz.prog.cellsOf 26=1:=by kernel_rfl
 have k1:Tryz.prog.cellsOf 27=1:=by kernel_rfl
 have k2:Tryz.prog.cellsOf 2=1:=by kernel_rfl
 have k3:Tryz.prog.cellsOf 3=1:=by kernel_rfl
 obtain⟨cs,rfl,hsz⟩:=okWide_struct underlying29 hv
 obtain⟨v0,v1,v2,v3,v4,v5,rfl⟩:=array6' (hsz.trans hC)
 obtain⟨fuel,hf⟩:=h
 have hf':DataW.trod enc prog W 0 (fun _=>true) true fuel 29 [v0,v1,v2,v3,v4,v5]=some (d,p):=by simpa [Value.cells]using hf
 obtain⟨xs,m,_,hx,hlen,hn,hel⟩:=DataW.trod_struct underlying29 hf'
 match xs,hn with
 | [x0,x1,x2,x3,x4,x5],_=>
  have h0:=hel 0 _ rfl
  have h1:=hel 1 _ rfl
  have h2:=hel 2 _ rfl
  have h3:=hel 3 _ rfl
  have h4:=hel 4 _ rfl
  have h5:=hel 5 _ rfl
  simp[k0,k1,k2,k3]at h0 h1 h2 h3 h4 h5
  have hzz:=hz _ (congrArg Prod.fst hx)
  obtain⟨pb,lb,cb,B,e0,i0,-,-⟩:=uR h0
  obtain⟨pw,lw,cw,Wt,e1,i1,-,-⟩:=Sh.vM h1
  obtain⟨pt,lt,ct,Tr,e2,i2,-,-⟩:=Sh.vM h2
  obtain⟨ps,ls,cs,Sp,e3,i3,-,-⟩:=uR h3
  obtain⟨sky,e4,g4⟩:=Sh.trod_int underlying2 h4
  obtain⟨st,e5,g5⟩:=Sh.trod_int underlying3 h5
  simp at e0 e1 e2 e3
  subst e0 e1 e2 e3 e4 e5
  exact⟨pb,lb,cb,B,pw,lw,cw,Wt,pt,lt,ct,Tr,ps,ls,cs,Sp,sky,st,rfl,⟨i0,i1,i2,i3⟩,⟨iB underlying26 (by kernel_rfl) h0 (fun elems spare e=>by have q:=sized_slice hzz (j:=0) (t:=26) (e:=22) (elems:=elems) (spare:=spare) rfl (by rw[<- e];rfl) underlying26;rw[AO]at q;exact q),iB underlying27 (by kernel_rfl) h1 (fun elems spare e=>by have q:=sized_slice hzz (j:=1) (t:=27) (e:=2) (elems:=elems) (spare:=spare) rfl (by rw[<- e];rfl) underlying27;rw[AP]at q;exact q),iB underlying27 (by kernel_rfl) h2 (fun elems spare e=>by have q:=sized_slice hzz (j:=2) (t:=27) (e:=2) (elems:=elems) (spare:=spare) rfl (by rw[<- e];rfl) underlying27;rw[AP]at q;exact q),iB underlying26 (by kernel_rfl) h3 (fun elems spare e=>by have q:=sized_slice hzz (j:=3) (t:=26) (e:=22) (elems:=elems) (spare:=spare) rfl (by rw[<- e];rfl) underlying26;rw[AO]at q;exact q)⟩,g4,g5⟩
theorem AX{H:Type}{enc:TypeId × Value->H}{W:World}{r:Reach}{b0:Nat}{v:Value}{d:DataW H}{p:List MemPlace}(hv:Value.okWide prog W r b0 25 v)(h:DataW.Trod enc prog W 0 (fun _=>true) true 25 v d p)
  (hz: ∀parts,d=.agg parts->(DataW.weightsEach prog [3,22,22,22,3,4,23] parts).all (· <=reachBytes)=true):
  ∃sd dt gr dr lim rv pr lr cr R,v=.agg #[.int .i64 sd,.float .f64 dt,.float .f64 gr,.float .f64 dr,.int .i64 lim,.bool rv,.slice pr lr cr]/\Sh.W64 sd/\Sh.W64 lim/\(dt<18446744073709551616/\gr<18446744073709551616/\dr<18446744073709551616)/\Rn.IsRn W pr lr R/\lr<=17592186044416:=by
 have hC:Tryz.prog.cellsOf 25=7:=by kernel_rfl
 obtain⟨cs,rfl,hsz⟩:=okWide_struct underlying25 hv
 obtain⟨v0,v1,v2,v3,v4,v5,v6,rfl⟩:=array7' (hsz.trans hC)
 obtain⟨fuel,hf⟩:=h
 have hf':DataW.trod enc prog W 0 (fun _=>true) true fuel 25 [v0,v1,v2,v3,v4,v5,v6]=some (d,p):=by simpa [Value.cells]using hf
 have k0:Tryz.prog.cellsOf 22=1:=by kernel_rfl
 have k1:Tryz.prog.cellsOf 4=1:=by kernel_rfl
 have k2:Tryz.prog.cellsOf 23=1:=by kernel_rfl
 have k3:Tryz.prog.cellsOf 3=1:=by kernel_rfl
 obtain⟨xs,m,_,hx,hlen,hn,hel⟩:=DataW.trod_struct underlying25 hf'
 match xs,hn with
 | [x0,x1,x2,x3,x4,x5,x6],_=>
  have h0:=hel 0 _ rfl
  have h1:=hel 1 _ rfl
  have h2:=hel 2 _ rfl
  have h3:=hel 3 _ rfl
  have h4:=hel 4 _ rfl
  have h5:=hel 5 _ rfl
  have h6:=hel 6 _ rfl
  simp[k0,k1,k2,k3]at h0 h1 h2 h3 h4 h5 h6
  obtain⟨sd,rfl,i0⟩:=Sh.trod_int underlying3 h0
  obtain⟨dt,rfl,i1⟩:=jC underlying22 h1
  obtain⟨gr,rfl,i2⟩:=jC underlying22 h2
  obtain⟨dr,rfl,i3⟩:=jC underlying22 h3
  obtain⟨lim,rfl,i4⟩:=Sh.trod_int underlying3 h4
  obtain⟨rv,rfl⟩:=AM underlying4 h5
  obtain⟨pr,lr,cr,R,e6,ir,j6,-,-,z6⟩:=Rn.Dq h6
  simp at e6
  subst e6
  have hzz:=hz _ (congrArg Prod.fst hx)
  have sz:=z6 (fun elems spare e=>by have q:=sized_slice hzz (j:=6) (t:=23) (e:=72) (elems:=elems) (spare:=spare) rfl (by rw[<- e];rfl) underlying23;rw[Rn.bytesR18]at q;exact q)
  exact⟨_,_,_,_,_,_,_,_,_,R,rfl,i0,i4,⟨i1,i2,i3⟩,ir,by omega⟩
end St
end
end Go.Proofs.YtaphajlpbgcfjaaGreatDoor
