/-
  Some of the texts of this proof, one behind the other.
-/
import Derived.Test.YtmhnilnaffjhmaaGreatDoorCeg22
set_option maxRecDepth 100000
set_option maxHeartbeats 400000000
namespace Go.Proofs.YtmhnilnaffjhmaaGreatDoor
open _root_.Go.Proofs.Tryz
section
open Go.RowKit Tf Cu Go.Deep
namespace St
open Ss Fc
theorem Cb{n gb:Nat}{sd:Int}{dt gr dr:Nat}{lim:Int}{rv:Bool}{pr:Option Addr}{lr cr:Nat}{R:Nat->Int × Int × Int × Int}{pb:Option Addr}{lb cb:Nat}{B:Nat->Nat}{pw:Option Addr}{lw cw:Nat}{W:Nat->Int}{pt:Option Addr}{lt ct:Nat}{T:Nat->Int}{ps:Option Addr}{ls cs:Nat}{S:Nat->Nat}{sky st:Int}{w:World}(g:GridOf n gb w)(hf:dt<18446744073709551616/\gr<18446744073709551616/\dr<18446744073709551616)(ir:Rn.IsRn w pr lr R)(i1:IsFl w pb lb B)(i2:Sh.IsI w pw lw W)(i3:Sh.IsI w pt lt T)(i4:IsFl w ps ls S):
  Calls prog 42 #[.pointer (some ⟨gb,0,none⟩),.agg #[.int .i64 sd,.float .f64 dt,.float .f64 gr,.float .f64 dr,.int .i64 lim,.bool rv,.slice pr lr cr],.agg #[.slice pb lb cb,.slice pw lw cw,.slice pt lt ct,.slice ps ls cs,.int .i64 sky,.int .i64 st]] w fun e w'=>e=.returned (.int .i64 (erS n sd dt gr dr lim lr R lb lw lt ls B W T S sky st))/\Below w.heap.size w w':=by
 have CS: ∀v,Ab w v->Calls prog 9 #[.pointer (some ⟨gb,0,none⟩)] v fun e w'=>e=.returned (.int .i64 (n:Nat))/\Below v.heap.size v w':=fun v a=>(yB (g.to a)).mono fun e w' h=>⟨h.1,by rw[h.2];exact Below.refl _ _⟩
 have CP:=fun v (a:Ab w v)=>plan_at sd dt gr dr lim rv pr lr cr R v hf (ir.below a)
 have CC:=fun v (a:Ab w v)=>check_at sd pb lb cb B pw lw cw W pt lt ct T ps ls cs S sky st v (i1.below a) (i2.below a) (i3.below a) (i4.below a)
 unfold erS
 by_cases a:sd=(n:Int)
 ·rw[if_neg (fun q=>q a)]
  by_cases b:plE sd dt gr dr lim lr R=0
  ·rw[if_neg (fun q=>q b)]
   exact zF n gb sd dt gr dr lim rv pr lr cr pb lb cb pw lw cw pt lt ct ps ls cs sky st _ _ _ w (by rw[a];simp) (by rw[b];rfl) CS CP CC
  ·rw[if_pos b]
   exact zE n gb sd dt gr dr lim rv pr lr cr pb lb cb pw lw cw pt lt ct ps ls cs sky st _ w (by rw[a];simp) (by simpa using b) CS CP
 ·rw[if_pos a]
  exact zD n gb sd dt gr dr lim rv pr lr cr pb lb cb pw lw cw pt lt ct ps ls cs sky st w (by simpa using Ne.symm a) CS
theorem FR{n gb:Nat}{sd:Int}{dt gr dr:Nat}{lim:Int}{rv:Bool}{pr:Option Addr}{lr cr:Nat}{R:Nat->Int × Int × Int × Int}{pb:Option Addr}{cb:Nat}{B:Nat->Nat}{pw:Option Addr}{cw:Nat}{W:Nat->Int}{pt:Option Addr}{ct:Nat}{T:Nat->Int}{ps:Option Addr}{cs:Nat}{S:Nat->Nat}{sky st:Int}{w:World}(hn:1<=n/\n<=32)(g:GridOf n gb w)(oP:okP n gr dt dr lr R)(oS:okS n B W T S sky st)(hf:dt<18446744073709551616/\gr<18446744073709551616/\dr<18446744073709551616)(i1:IsFl w pb (6*n*n) B)(i2:Sh.IsI w pw (6*n*n) W)(i3:Sh.IsI w pt (6*n*n) T)(i4:IsFl w ps (12*n*n) S):
  Calls prog 43 #[.pointer (some ⟨gb,0,none⟩),.agg #[.int .i64 sd,.float .f64 dt,.float .f64 gr,.float .f64 dr,.int .i64 lim,.bool rv,.slice pr lr cr],.agg #[.slice pb (6*n*n) cb,.slice pw (6*n*n) cw,.slice pt (6*n*n) ct,.slice ps (12*n*n) cs,.int .i64 sky,.int .i64 st]] w fun e w'=> ∃p0 c0 p1 c1 p2 c2,e=.returned (.tuple #[.slice p0 (12*n*n) c0,.agg #[.slice p1 (12*n*n) c1,.slice p2 (12*n*n) c2]])/\Below w.heap.size w w'/\OwnG w.heap.size (.slice p0 (12*n*n) c0) ((List.range (12*n*n)).map (spE n gr dt dr B W S)) w'/\Sh.Own w.heap.size (.slice p1 (12*n*n) c1) ((List.range (12*n*n)).map (waF n lim gr dt dr B W S)) w'/\Sh.Own w.heap.size (.slice p2 (12*n*n) c2) ((List.range (12*n*n)).map (trF n lim gr dt dr B W T S)) w'/\Dj (.slice p1 (12*n*n) c1) (.slice p2 (12*n*n) c2):=by
 have p1:n*n<=32*32:=Nat.mul_le_mul hn.2 hn.2
 have q6:6*n*n=6*(n*n):=Nat.mul_assoc _ _ _
 have q12:12*n*n=12*(n*n):=Nat.mul_assoc _ _ _
 have wi: ∀e,e<12*n*n->Sh.W64 (waF n lim gr dt dr B W S e):=fun e he=>by have:=wa_in (lim:=lim) oP oS he;unfold Sh.W64;omega
 refine zG gb sd dt gr dr lim rv pr lr cr (6*n*n) (12*n*n) pb cb pw cw pt ct ps cs sky st (spE n gr dt dr B W S) (wtF n lim gr dt dr B W S) (waF n lim gr dt dr B W S) (trF n lim gr dt dr B W T S) w ?_ ?_ ?_ ?_ ⟨fun e _=>(oB n gr dt dr B W S e).1,wi⟩
 ·exact fun v a=>(Fc.speedsC n gb sd dt gr dr lim rv pr lr cr pb _ cb B pw _ cw W pt _ ct ps _ cs S sky st v hn (g.to a) (i1.below a) (i2.below a) (i4.below a) hf).1 ⟨rfl,rfl,rfl,rfl⟩
 ·intro v p c a i
  refine((allC n gb sd dt gr dr lim rv pr lr cr pb _ cb B pw _ cw W pt _ ct p _ c (spE n gr dt dr B W S) sky st v hn (g.to a) (i1.below a) (i2.below a) i hf.1).1 ⟨rfl,rfl,rfl,rfl⟩).mono ?_
  rintro e w' ⟨b,rfl,b1,r,-⟩
  exact⟨b,rfl,b1,Sh.oG r (fun e he=>⟨Int.le_trans (by decide) (yR (lim:=lim) oP oS he).1,Int.le_trans (yR (lim:=lim) oP oS he).2 (by decide)⟩)⟩
 ·exact fun v p c a i=>(Sh.allC n gb pw _ cw W p _ c _ v hn (g.to a) (by omega) (by omega) (i2.below a) i).1 (wa_fit oP oS)
 ·exact fun v p c a i=>(Tr.flowsC n gb pw _ cw W pt _ ct T p _ c _ v hn (g.to a) (by omega) (by omega) (by omega) (i2.below a) (i3.below a) i).1 (tr_fit oP oS)
theorem one_gen(rv:Bool)(RC:rv=true->Rv.RunC):OneB rv:=fun n gb sd dt gr dr lim pr lr cr R pb lb cb B pw lw cw W pt lt ct T ps ls cs S sky st w hn g hF h64 hf hlr hl ir i1 i2 i3 i4=>by
 have CH:=fun v (a:Ab w v)=>Cb (n:=n) (gb:=gb) (sd:=sd) (lim:=lim) (rv:=rv) (cr:=cr) (cb:=cb) (cw:=cw) (ct:=ct) (cs:=cs) (sky:=sky) (st:=st) (g.to a) hf (ir.below a) (i1.below a) (i2.below a) (i3.below a) (i4.below a)
 refine⟨fun e0=> ?_,fun e0=> ?_⟩
 ·obtain⟨rfl,-,-,⟨rfl,rfl,rfl,rfl⟩,oP,oS⟩:=er_ok e0 hf (fun i hi=>(i1 i hi).1) (fun i hi=>(i4 i hi).1)
  rw[e0]at CH
  have p1:n*n<=32*32:=Nat.mul_le_mul hn.2 hn.2
  have q6:6*n*n=6*(n*n):=Nat.mul_assoc _ _ _
  have q12:12*n*n=12*(n*n):=Nat.mul_assoc _ _ _
  have wi: ∀e,e<12*n*n->Sh.W64 (waF n lim gr dt dr B W S e):=fun e he=>by have:=wa_in (lim:=lim) oP oS he;unfold Sh.W64;omega
  have ti: ∀e,e<12*n*n->Sh.W64 (trF n lim gr dt dr B W T S e):=fun e he=>by have:=tr_in (lim:=lim) oP oS he;unfold Sh.W64;omega
  have mw:=Bh (lim:=lim) oP oS
  have mt:=(Bi (lim:=lim) oP oS).1
  have ra:=ra_ok (lim:=lim) oP oS
  have ss:=oS.1.2.2.2.2.2
  have vI: ∀{F:Nat->Int},Rv.okV (6*n*n) F-> ∀c,c<6*n*n->0<=F c/\F c<=9223372036854775807:=fun{F} h c hc=>by
   have:=h.1 c hc
   have:=sB h.1 hc
   have:=h.2
   omega
  have mi: ∀c,c<6*n*n->Sh.W64 (mvW n lim gr dt dr B W S c):=fun c hc=>by have:=mw.1 c hc;unfold Sh.W64;omega
  have hi: ∀c,c<6*n*n->Sh.W64 (mvT n lim gr dt dr B W T S c):=fun c hc=>by have:=vI mt c hc;unfold Sh.W64;omega
  have ri: ∀c,c<6*n*n->Sh.W64 ((raX n lim gr dt dr lr R B W S sky st).1 c):=fun c hc=>by have:=vI ra.1 c hc;unfold Sh.W64;omega
  have s1:stN st=min (st+1) 4611686018427387904:=by
   unfold stN
   split<;>omega
  have PU:=fun v (a:Ab w v)=>FR (sd:=(n:Nat)) (lim:=lim) (rv:=rv) (pr:=pr) (cr:=cr) (cb:=cb) (cw:=cw) (ct:=ct) (cs:=cs) hn (g.to a) oP oS hf (i1.below a) (i2.below a) (i3.below a) (i4.below a)
  have CL:=fun v (a:Ab w v)=>cloneF pb (6*n*n) cb B w.heap.size v (by omega) (i1.below a) a.size
  have MW:=fun v p c (a:Ab w v) (i:Sh.IsI v p (12*n*n) (waF n lim gr dt dr B W S))=>(Ms.moveC n gb pw _ cw W p _ c _ v hn (g.to a) (by omega) (by omega) (i2.below a) i).1 ⟨rfl,rfl⟩ (fun c hc=>by have:=mw.1 c hc;unfold mvW at this;omega)
  have MT:=fun v p c (a:Ab w v) (i:Sh.IsI v p (12*n*n) (trF n lim gr dt dr B W T S))=>(Ms.moveC n gb pt _ ct T p _ c _ v hn (g.to a) (by omega) (by omega) (i3.below a) i).1 ⟨rfl,rfl⟩ (fun c hc=>vI mt c hc)
  have RA:=fun v p c (a:Ab w v) (i:Sh.IsI v p (6*n*n) (mvW n lim gr dt dr B W S))=>(Rn.fallC p _ c _ sky pr lr cr R st v h64.2.2.1 h64.2.2.2 (by omega) (by have:=oP.2.2.1;omega) i (ir.below a)).1 (ra_good oP oS)
  have RI:=fun(z:rv=true) v p1 c1 p2 c2 p3 c3 p4 c4 (a:Ab w v) k1 k2 k3 k4=>(RC z n gb p1 _ c1 B p2 _ c2 (raX n lim gr dt dr lr R B W S sky st).1 p3 _ c3 (mvT n lim gr dt dr B W T S) p4 _ c4 (spE n gr dt dr B W S) (raX n lim gr dt dr lr R B W S sky st).2 (stN st) v hn (g.to a) k1 k2 k3 k4).1 (Dz oP oS)
  exact one21_go gb n dt gr dr lim rv pr lr cr _ _ pb cb pw cw pt ct ps cs sky st B (spE n gr dt dr B W S) _ _ _ _ _ _ _ (riX n lim gr dt dr rv lr R B W T S sky st).1 (riX n lim gr dt dr rv lr R B W T S sky st).2 _ _ w ss s1 ⟨fun e=>by unfold riX;rw[if_neg (by rw[e];decide)];exact⟨rfl,rfl⟩,fun e=>by unfold riX;rw[if_pos e];exact⟨rfl,rfl⟩⟩ CH PU CL MW MT RA RI ⟨fun c hc=>oS.2.1 c hc,fun e _=>(oB n gr dt dr B W S e).1,wi,ti,mi,hi,ri⟩
 ·exact one21_1 gb sd dt gr dr lim rv pr lr cr pb lb cb pw lw cw pt lt ct ps ls cs sky st _ w (by simpa using e0) CH
theorem oneF:OneF:=one_gen false (fun h=>by cases h)
end St
end
end Go.Proofs.YtmhnilnaffjhmaaGreatDoor
