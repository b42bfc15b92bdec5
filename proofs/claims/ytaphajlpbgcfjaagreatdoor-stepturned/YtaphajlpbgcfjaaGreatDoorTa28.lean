/-
  Some of the texts of this proof, one behind the other.
-/
import Derived.SizedLaws
import Derived.ProofKit
import Derived.OpenShut
import Derived.WalkLawsBesides
import Derived.Stop.Joined
import Derived.Carry
import Derived.Lib.SmallJoins
import Derived.Test.YtaphajlpbgcfjaaGreatDoorTa27
set_option maxRecDepth 100000
set_option maxHeartbeats 400000000
namespace Go.Proofs.YtaphajlpbgcfjaaGreatDoor
open _root_.Go.Proofs.Tryz
section
open Go.RowKit Tf Cu Go.Deep
namespace St
open Ss Fc
theorem uZ{n gb:Nat}{sd:Int}{dt gr dr:Nat}{lim:Int}{rv:Bool}{pr:Option Addr}{lr cr:Nat}{R:Nat->Int × Int × Int × Int}{pb:Option Addr}{lb cb:Nat}{B:Nat->Nat}{pw:Option Addr}{lw cw:Nat}{W:Nat->Int}{pt:Option Addr}{lt ct:Nat}{T:Nat->Int}{ps:Option Addr}{ls cs:Nat}{S:Nat->Nat}{sky st:Int}{w:World}(g:GridOf n gb w)(hf:dt<18446744073709551616/\gr<18446744073709551616/\dr<18446744073709551616)(ir:Rn.IsRn w pr lr R)(i1:IsFl w pb lb B)(i2:Sh.IsI w pw lw W)(i3:Sh.IsI w pt lt T)(i4:IsFl w ps ls S):
  Calls prog 55 #[.pointer (some ⟨gb,0,none⟩),.agg #[.int .i64 sd,.float .f64 dt,.float .f64 gr,.float .f64 dr,.int .i64 lim,.bool rv,.slice pr lr cr],.agg #[.slice pb lb cb,.slice pw lw cw,.slice pt lt ct,.slice ps ls cs,.int .i64 sky,.int .i64 st]] w fun e w'=>e=.returned (.int .i64 (erS n sd dt gr dr lim lr R lb lw lt ls B W T S sky st))/\Below w.heap.size w w':=by
 have CS: ∀v,Ab w v->Calls prog 109 #[.pointer (some ⟨gb,0,none⟩)] v fun e w'=>e=.returned (.int .i64 (n:Nat))/\Below v.heap.size v w':=fun v a=>(Be (g.to a)).mono fun e w' h=>⟨h.1,by rw[h.2];exact Below.refl _ _⟩
 have CP:=fun v (a:Ab w v)=>GO sd dt gr dr lim rv pr lr cr R v hf (ir.below a)
 have CC:=fun v (a:Ab w v)=>uK sd pb lb cb B pw lw cw W pt lt ct T ps ls cs S sky st v (i1.below a) (i2.below a) (i3.below a) (i4.below a)
 unfold erS
 by_cases a:sd=(n:Int)
 ·rw[if_neg (fun q=>q a)]
  by_cases b:plE sd dt gr dr lim lr R=0
  ·rw[if_neg (fun q=>q b)]
   exact Ci n gb sd dt gr dr lim rv pr lr cr pb lb cb pw lw cw pt lt ct ps ls cs sky st _ _ _ w (by rw[a];simp) (by rw[b];rfl) CS CP CC
  ·rw[if_pos b]
   exact Ch n gb sd dt gr dr lim rv pr lr cr pb lb cb pw lw cw pt lt ct ps ls cs sky st _ w (by rw[a];simp) (by simpa using b) CS CP
 ·rw[if_pos a]
  exact Ce n gb sd dt gr dr lim rv pr lr cr pb lb cb pw lw cw pt lt ct ps ls cs sky st w (by simpa using Ne.symm a) CS
theorem xS{n gb:Nat}{sd:Int}{dt gr dr:Nat}{lim:Int}{rv:Bool}{pr:Option Addr}{lr cr:Nat}{R:Nat->Int × Int × Int × Int}{pb:Option Addr}{cb:Nat}{B:Nat->Nat}{pw:Option Addr}{cw:Nat}{W:Nat->Int}{pt:Option Addr}{ct:Nat}{T:Nat->Int}{ps:Option Addr}{cs:Nat}{S:Nat->Nat}{sky st:Int}{w:World}(hn:1<=n/\n<=32)(g:GridOf n gb w)(oP:okP n gr dt dr lr R)(oS:okS n B W T S sky st)(hf:dt<18446744073709551616/\gr<18446744073709551616/\dr<18446744073709551616)(i1:IsFl w pb (6*n*n) B)(i2:Sh.IsI w pw (6*n*n) W)(i3:Sh.IsI w pt (6*n*n) T)(i4:IsFl w ps (12*n*n) S):
  Calls prog 56 #[.pointer (some ⟨gb,0,none⟩),.agg #[.int .i64 sd,.float .f64 dt,.float .f64 gr,.float .f64 dr,.int .i64 lim,.bool rv,.slice pr lr cr],.agg #[.slice pb (6*n*n) cb,.slice pw (6*n*n) cw,.slice pt (6*n*n) ct,.slice ps (12*n*n) cs,.int .i64 sky,.int .i64 st]] w fun e w'=> ∃p0 c0 p1 c1 p2 c2,e=.returned (.tuple #[.slice p0 (12*n*n) c0,.agg #[.slice p1 (12*n*n) c1,.slice p2 (12*n*n) c2]])/\Below w.heap.size w w'/\OwnG w.heap.size (.slice p0 (12*n*n) c0) ((List.range (12*n*n)).map (spE n gr dt dr B W S)) w'/\Sh.Own w.heap.size (.slice p1 (12*n*n) c1) ((List.range (12*n*n)).map (waF n lim gr dt dr B W S)) w'/\Sh.Own w.heap.size (.slice p2 (12*n*n) c2) ((List.range (12*n*n)).map (trF n lim gr dt dr B W T S)) w'/\Dj (.slice p1 (12*n*n) c1) (.slice p2 (12*n*n) c2):=by
 have p1:n*n<=32*32:=Nat.mul_le_mul hn.2 hn.2
 have q6:6*n*n=6*(n*n):=Nat.mul_assoc _ _ _
 have q12:12*n*n=12*(n*n):=Nat.mul_assoc _ _ _
 have wi: ∀e,e<12*n*n->Sh.W64 (waF n lim gr dt dr B W S e):=fun e he=>by have:=wa_in (lim:=lim) oP oS he;unfold Sh.W64;omega
 refine Cj gb sd dt gr dr lim rv pr lr cr (6*n*n) (12*n*n) pb cb pw cw pt ct ps cs sky st (spE n gr dt dr B W S) (wtF n lim gr dt dr B W S) (waF n lim gr dt dr B W S) (trF n lim gr dt dr B W T S) w ?_ ?_ ?_ ?_ ⟨fun e _=>(qH n gr dt dr B W S e).1,wi⟩
 ·exact fun v a=>(Fc.speedsC n gb sd dt gr dr lim rv pr lr cr pb _ cb B pw _ cw W pt _ ct ps _ cs S sky st v hn (g.to a) (i1.below a) (i2.below a) (i4.below a) hf).1 ⟨rfl,rfl,rfl,rfl⟩
 ·intro v p c a i
  refine((allC n gb sd dt gr dr lim rv pr lr cr pb _ cb B pw _ cw W pt _ ct p _ c (spE n gr dt dr B W S) sky st v hn (g.to a) (i1.below a) (i2.below a) i hf.1).1 ⟨rfl,rfl,rfl,rfl⟩).mono ?_
  rintro e w' ⟨b,rfl,b1,r,-⟩
  exact⟨b,rfl,b1,Sh.jD r (fun e he=>⟨Int.le_trans (by decide) (Bx (lim:=lim) oP oS he).1,Int.le_trans (Bx (lim:=lim) oP oS he).2 (by decide)⟩)⟩
 ·exact fun v p c a i=>(Sh.allC n gb pw _ cw W p _ c _ v hn (g.to a) (by omega) (by omega) (i2.below a) i).1 (wa_fit oP oS)
 ·exact fun v p c a i=>(Tr.flowsC n gb pw _ cw W pt _ ct T p _ c _ v hn (g.to a) (by omega) (by omega) (by omega) (i2.below a) (i3.below a) i).1 (tr_fit oP oS)
theorem flowC:FlowC:=fun n gb sd dt gr dr lim rv pr lr cr R pb lb cb B pw lw cw W pt lt ct T ps ls cs S sky st w hn g hF h64 hf hlr hl ir i1 i2 i3 i4=>by
 have CH:=fun v (a:Ab w v)=>uZ (n:=n) (gb:=gb) (sd:=sd) (lim:=lim) (rv:=rv) (cr:=cr) (cb:=cb) (cw:=cw) (ct:=ct) (cs:=cs) (sky:=sky) (st:=st) (g.to a) hf (ir.below a) (i1.below a) (i2.below a) (i3.below a) (i4.below a)
 refine⟨fun e0=> ?_,fun e0=> ?_⟩
 ·obtain⟨rfl,-,-,⟨rfl,rfl,rfl,rfl⟩,oP,oS⟩:=er_ok e0 hf (fun i hi=>(i1 i hi).1) (fun i hi=>(i4 i hi).1)
  rw[e0]at CH
  exact flow21_2 gb n dt gr dr lim rv pr lr cr _ _ pb cb pw cw pt ct ps cs sky st (spE n gr dt dr B W S) _ _ w CH (fun v a=>xS hn (g.to a) oP oS hf (i1.below a) (i2.below a) (i3.below a) (i4.below a))
 ·exact flow21_1 gb sd dt gr dr lim rv pr lr cr pb lb cb pw lw cw pt lt ct ps ls cs sky st _ w (by simpa using e0) CH
theorem one_gen(rv:Bool)(RC:rv=true->Rv.RunC):OneB rv:=fun n gb sd dt gr dr lim pr lr cr R pb lb cb B pw lw cw W pt lt ct T ps ls cs S sky st w hn g hF h64 hf hlr hl ir i1 i2 i3 i4=>by
 have CH:=fun v (a:Ab w v)=>uZ (n:=n) (gb:=gb) (sd:=sd) (lim:=lim) (rv:=rv) (cr:=cr) (cb:=cb) (cw:=cw) (ct:=ct) (cs:=cs) (sky:=sky) (st:=st) (g.to a) hf (ir.below a) (i1.below a) (i2.below a) (i3.below a) (i4.below a)
 refine⟨fun e0=> ?_,fun e0=> ?_⟩
 ·obtain⟨rfl,-,-,⟨rfl,rfl,rfl,rfl⟩,oP,oS⟩:=er_ok e0 hf (fun i hi=>(i1 i hi).1) (fun i hi=>(i4 i hi).1)
  rw[e0]at CH
  have p1:n*n<=32*32:=Nat.mul_le_mul hn.2 hn.2
  have q6:6*n*n=6*(n*n):=Nat.mul_assoc _ _ _
  have q12:12*n*n=12*(n*n):=Nat.mul_assoc _ _ _
  have wi: ∀e,e<12*n*n->Sh.W64 (waF n lim gr dt dr B W S e):=fun e he=>by have:=wa_in (lim:=lim) oP oS he;unfold Sh.W64;omega
  have ti: ∀e,e<12*n*n->Sh.W64 (trF n lim gr dt dr B W T S e):=fun e he=>by have:=tr_in (lim:=lim) oP oS he;unfold Sh.W64;omega
  have mw:=Eb (lim:=lim) oP oS
  have mt:=(zL (lim:=lim) oP oS).1
  have ra:=ra_ok (lim:=lim) oP oS
  have ss:=oS.1.2.2.2.2.2
  have vI: ∀{F:Nat->Int},Rv.okV (6*n*n) F-> ∀c,c<6*n*n->0<=F c/\F c<=9223372036854775807:=fun{F} h c hc=>by
   have:=h.1 c hc
   have:=nK h.1 hc
   have:=h.2
   omega
  have mi: ∀c,c<6*n*n->Sh.W64 (mvW n lim gr dt dr B W S c):=fun c hc=>by have:=mw.1 c hc;unfold Sh.W64;omega
  have hi: ∀c,c<6*n*n->Sh.W64 (mvT n lim gr dt dr B W T S c):=fun c hc=>by have:=vI mt c hc;unfold Sh.W64;omega
  have ri: ∀c,c<6*n*n->Sh.W64 ((raX n lim gr dt dr lr R B W S sky st).1 c):=fun c hc=>by have:=vI ra.1 c hc;unfold Sh.W64;omega
  have s1:stN st=min (st+1) 4611686018427387904:=by
   unfold stN
   split<;>omega
  have PU:=fun v (a:Ab w v)=>xS (sd:=(n:Nat)) (lim:=lim) (rv:=rv) (pr:=pr) (cr:=cr) (cb:=cb) (cw:=cw) (ct:=ct) (cs:=cs) hn (g.to a) oP oS hf (i1.below a) (i2.below a) (i3.below a) (i4.below a)
  have CL:=fun v (a:Ab w v)=>cloneF pb (6*n*n) cb B w.heap.size v (by omega) (i1.below a) a.size
  have MW:=fun v p c (a:Ab w v) (i:Sh.IsI v p (12*n*n) (waF n lim gr dt dr B W S))=>(Ms.moveC n gb pw _ cw W p _ c _ v hn (g.to a) (by omega) (by omega) (i2.below a) i).1 ⟨rfl,rfl⟩ (fun c hc=>by have:=mw.1 c hc;unfold mvW at this;omega)
  have MT:=fun v p c (a:Ab w v) (i:Sh.IsI v p (12*n*n) (trF n lim gr dt dr B W T S))=>(Ms.moveC n gb pt _ ct T p _ c _ v hn (g.to a) (by omega) (by omega) (i3.below a) i).1 ⟨rfl,rfl⟩ (fun c hc=>vI mt c hc)
  have RA:=fun v p c (a:Ab w v) (i:Sh.IsI v p (6*n*n) (mvW n lim gr dt dr B W S))=>(Rn.fallC p _ c _ sky pr lr cr R st v h64.2.2.1 h64.2.2.2 (by omega) (by have:=oP.2.2.1;omega) i (ir.below a)).1 (ra_good oP oS)
  have RI:=fun(z:rv=true) v p1 c1 p2 c2 p3 c3 p4 c4 (a:Ab w v) k1 k2 k3 k4=>(RC z n gb p1 _ c1 B p2 _ c2 (raX n lim gr dt dr lr R B W S sky st).1 p3 _ c3 (mvT n lim gr dt dr B W T S) p4 _ c4 (spE n gr dt dr B W S) (raX n lim gr dt dr lr R B W S sky st).2 (stN st) v hn (g.to a) k1 k2 k3 k4).1 (Gw oP oS)
  exact one21_go gb n dt gr dr lim rv pr lr cr _ _ pb cb pw cw pt ct ps cs sky st B (spE n gr dt dr B W S) _ _ _ _ _ _ _ (riX n lim gr dt dr rv lr R B W T S sky st).1 (riX n lim gr dt dr rv lr R B W T S sky st).2 _ _ w ss s1 ⟨fun e=>by unfold riX;rw[if_neg (by rw[e];decide)];exact⟨rfl,rfl⟩,fun e=>by unfold riX;rw[if_pos e];exact⟨rfl,rfl⟩⟩ CH PU CL MW MT RA RI ⟨fun c hc=>oS.2.1 c hc,fun e _=>(qH n gr dt dr B W S e).1,wi,ti,mi,hi,ri⟩
 ·exact one21_1 gb sd dt gr dr lim rv pr lr cr pb lb cb pw lw cw pt lt ct ps ls cs sky st _ w (by simpa using e0) CH
theorem oneF:OneF:=one_gen false (fun h=>by cases h)
theorem planB:PlanB:=fun sd dt gr dr lim rv pr lr cr R w _ _ hf _ ir=>GO sd dt gr dr lim rv pr lr cr R w hf ir
theorem checkB:CheckB:=fun sd pb lb cb B pw lw cw W pt lt ct T ps ls cs S sky st w _ _ _ _ i1 i2 i3 i4=>uK sd pb lb cb B pw lw cw W pt lt ct T ps ls cs S sky st w i1 i2 i3 i4
end St
end
section
open Go.ChangeShapes Go.WideShapes Go.ChangeAt Go.WideMaps Go.WideElems Go.RowKit Go.Deep
theorem array6'{c:Array Value}(h:c.size=6): ∃v0 v1 v2 v3 v4 v5,c= #[v0,v1,v2,v3,v4,v5]:=by
 rcases c with⟨l⟩
 match l,h with
 | [v0,v1,v2,v3,v4,v5],_=>exact⟨v0,v1,v2,v3,v4,v5,rfl⟩
end
section
open Go.ChangeShapes Go.WideShapes Go.ChangeAt Go.WideMaps Go.WideElems Go.RowKit Go.Deep
theorem array7'{c:Array Value}(h:c.size=7): ∃v0 v1 v2 v3 v4 v5 v6,c= #[v0,v1,v2,v3,v4,v5,v6]:=by
 rcases c with⟨l⟩
 match l,h with
 | [v0,v1,v2,v3,v4,v5,v6],_=>exact⟨v0,v1,v2,v3,v4,v5,v6,rfl⟩
theorem CI{H:Type}{enc:TypeId × Value->H}{P:Program}{w:World}{base:Nat}{spare:Nat->Bool}{held:Bool}{t:TypeId}{fuel:Nat}{v:Value}{x:DataW H × List MemPlace}(ht:P.underlying t=some .bool)(h:DataW.trod enc P w base spare held fuel t [v]=some x):
  ∃b,v=.bool b:=by
 cases fuel with
 | zero=>simp[DataW.trod]at h
 | succ n=>
  unfold DataW.trod at h
  rw[ht]at h
  split at h<;>simp_all
end
section
open Go.ChangeShapes Go.WideShapes Go.ChangeAt Go.WideMaps Go.WideElems Go.RowKit Go.Deep
namespace Rn
open Sh
theorem Fg{H:Type}{enc:TypeId × Value->H}{w:World}{base n:Nat}{spare:Nat->Bool}{held:Bool}{v0 v1 v2 v3:Value}{x:DataW H × List MemPlace}(h:DataW.trod enc prog w base spare held n 72 [v0,v1,v2,v3]=some x):
  ∃r:Int × Int × Int × Int,(v0=.int .i64 r.1/\v1=.int .i64 r.2.1/\v2=.int .i64 r.2.2.1/\v3=.int .i64 r.2.2.2)/\W4 r:=by
 have k1:Tryz.prog.cellsOf 2=1:=by kernel_rfl
 have k2:Tryz.prog.cellsOf 3=1:=by kernel_rfl
 obtain⟨xs,m,_,hx,hlen,hn,hel⟩:=DataW.trod_struct underlying72 h
 match xs,hn with
 | [x0,x1,x2,x3],_=>
  have h0:=hel 0 _ rfl
  have h1:=hel 1 _ rfl
  have h2:=hel 2 _ rfl
  have h3:=hel 3 _ rfl
  simp[k1,k2]at h0 h1 h2 h3
  obtain⟨a0,e0,i0⟩:=trod_int underlying3 h0
  obtain⟨a1,e1,i1⟩:=trod_int underlying2 h1
  obtain⟨a2,e2,i2⟩:=trod_int underlying3 h2
  obtain⟨a3,e3,i3⟩:=trod_int underlying3 h3
  exact⟨(a0,a1,a2,a3),⟨e0,e1,e2,e3⟩,i0,i1,i2,i3⟩
theorem Fh{H:Type}{enc:TypeId × Value->H}{W:World}{cs:List Value}{fuel:Nat}{x:DataW H × List MemPlace}
  (hf:DataW.trod enc prog W 0 (fun _=>true) true fuel 23 cs=some x): ∃a0 len cap R,cs=[.slice a0 len cap]/\IsRn W a0 len R/\len<=cap/\(a0=none->len=0/\cap=0)/\(0<cap-> ∀b o sp,a0=some ⟨b,o,sp⟩->sp=none)/\((∀elems spare,x.1=.slice elems spare->(elems.length+spare.length)*32<=reachBytes)->cap<=17592186044416):=by
 rcases open_slice underlying23 hf with⟨hcs,_⟩ | ⟨a,l,c,m,n,D,Pl,hcs,_,hl,hm,hmm,hxx,hx⟩
 ·exact⟨none,0,0,fun _=>(0,0,0,0),hcs,IsRn.nil _ _ _,Nat.le_refl _,fun _=>⟨rfl,rfl⟩,fun h=>by omega,fun _=>by omega⟩
 ·simp only[if_true]at hmm
  have ce:Tryz.prog.cellsOf 72=4:=by kernel_rfl
  have each: ∀i,i<m-> ∃r:Int × Int × Int × Int,(W.cell? (a.add (i*4))=some (.int .i64 r.1)/\W.cell? (a.add (i*4+1))=some (.int .i64 r.2.1)/\W.cell? (a.add (i*4+2))=some (.int .i64 r.2.2.1)/\W.cell? (a.add (i*4+3))=some (.int .i64 r.2.2.2))/\W4 r:=by
   intro i hi
   obtain⟨cs',h1,h2⟩:=hx i hi
   rw[ce]at h1
   obtain⟨_,hlen,hcell⟩:=World.cells?_some h1
   match cs',hlen with
   | [v0,v1,v2,v3],_=>
    obtain⟨r,⟨rfl,rfl,rfl,rfl⟩,h4⟩:=Fg h2
    have e0:=hcell 0 (by omega)
    have e1:=hcell 1 (by omega)
    have e2:=hcell 2 (by omega)
    have e3:=hcell 3 (by omega)
    rw[add_add]at e0 e1 e2 e3
    exact⟨r,⟨by simpa using e0,by simpa using e1,by simpa using e2,by simpa using e3⟩,h4⟩
  obtain⟨R,hR⟩:=rR (0,0,0,0) each
  subst hmm
  refine⟨some a,l,m,R,hcs,fun k hk=>⟨(hR k (by omega)).2,?_⟩,hl,fun h=>(by cases h),fun h b o sp e=> ?_,fun h=> ?_⟩
  ·have h0:=(hR k (by omega)).1
   obtain⟨b,off,spot⟩:=a
   have hspot:spot=none:=by simpa [Addr.add]using World.cell?_spot (hR 0 (by omega)).1.1
   subst hspot
   simp only[kK]at h0
   exact⟨b,off,rfl,uM h0.1,h0.1,by simpa only[Nat.add_assoc]using h0.2.1,by simpa only[Nat.add_assoc]using h0.2.2.1,by simpa only[Nat.add_assoc]using h0.2.2.2⟩
  ·have h0:=(hR 0 h).1
   cases e
   simpa [Addr.add]using World.cell?_spot h0.1
  ·have:=h _ _ (by rw[hxx])
   simp only[List.length_map,List.length_range,reachBytes]at this
   omega
theorem xT{H:Type}{P:Program}{ts:List TypeId}{ds:List (DataW H)}(h:(DataW.weightsEach P ts ds).all (· <=reachBytes)=true){j:Nat}{t:TypeId}{fs:Array Field}{parts:List (DataW H)}(ht:ts[j]? =some t)(hd:ds[j]? =some (.agg parts))(hu:P.underlying t=some (.struct fs)):
  (DataW.weightsEach P (fs.toList.map (·.type)) parts).all (· <=reachBytes)=true:=by
 refine List.all_eq_true.2 (fun n hn=> ?_)
 exact List.all_eq_true.1 h _ (DataW.weights_mem_each ht hd n (by simpa [DataW.weights,hu]using hn))
theorem bytesR18:Tryz.prog.bytesOf 72=32:=by kernel_rfl
end Rn
end
section
open Go.ChangeShapes Go.WideShapes Go.ChangeAt Go.WideMaps Go.WideElems Go.RowKit Go.Deep
namespace Ss
theorem CJ:Tryz.prog.bytesOf 22=8:=by kernel_rfl
theorem CU:Tryz.prog.bytesOf 2=8:=by kernel_rfl
end Ss
end
section
open Go.ChangeShapes Go.WideShapes Go.ChangeAt Go.WideMaps Go.WideElems Go.RowKit Go.Deep
namespace St
open Ss
theorem iX{H:Type}{enc:TypeId × Value->H}{W:World}{T E:TypeId}{a0:Option Addr}{len0 cap0:Nat}{fuel:Nat}{x:DataW H × List MemPlace}(hu:Tryz.prog.underlying T=some (.slice E))(h1:Tryz.prog.cellsOf E=1)
  (hf:DataW.trod enc prog W 0 (fun _=>true) true fuel T [.slice a0 len0 cap0]=some x) (hs: ∀elems spare,x.1=.slice elems spare->(elems.length+spare.length)*8<=reachBytes):len0<=17592186044416:=by
 rcases Go.Deep.open_slice1 hu h1 hf with⟨hcs,_⟩ | ⟨a,l,c,m,n,V,D,Pl,hcs,_,hl,hm,hmm,hx,_⟩
 ·simp at hcs
  obtain⟨rfl,rfl,rfl⟩:=hcs
  exact Nat.zero_le _
 ·simp at hcs
  obtain⟨rfl,rfl,rfl⟩:=hcs
  simp only[if_true]at hmm
  subst hmm
  have:=hs _ _ (by rw[hx])
  simp only[List.length_map,List.length_range,reachBytes]at this
  omega
theorem Fi{H:Type}{enc:TypeId × Value->H}{W:World}{r:Reach}{b0:Nat}{v:Value}{d:DataW H}{p:List MemPlace}(hv:Value.okWide prog W r b0 29 v)(h:DataW.Trod enc prog W 0 (fun _=>true) true 29 v d p)
  (hz: ∀parts,d=.agg parts->(DataW.weightsEach prog [26,27,27,26,2,3] parts).all (· <=reachBytes)=true):
  ∃pb lb cb B pw lw cw Wt pt lt ct Tr ps ls cs Sp sky st,v=.agg #[.slice pb lb cb,.slice pw lw cw,.slice pt lt ct,.slice ps ls cs,.int .i64 sky,.int .i64 st]/\(IsFl W pb lb B/\Sh.IsI W pw lw Wt/\Sh.IsI W pt lt Tr/\IsFl W ps ls Sp)/\(lb<=17592186044416/\lw<=17592186044416/\lt<=17592186044416/\ls<=17592186044416)/\Sh.W64 sky/\Sh.W64 st:=by
 have hC:Tryz.prog.cellsOf 29=6:=by kernel_rfl
 have k0:Tryz.prog.cellsOf 26=1:=by kernel_rfl
 have k1:Tryz.prog.cellsOf 27=1:=by kernel_rfl
 have k2:Tryz.prog.cellsOf 2=1:=by kernel_rfl
 have k3:Tryz.prog.cellsOf 3=1:=by kernel_rfl
 obtain⟨cs,rfl,hsz⟩:=okWide_struct underlying29 hv
 obtain⟨v0,v1,v2,v3,v4,v5,rfl⟩:=array6' (hsz.trans hC)
 obtain⟨fuel,hf⟩:=h
 have hf':DataW.trod enc prog W 0 (fun _=>true) true fuel 29 [v0,v1,v2,v3,v4,v5]=some (d,p):=by simpa [Value.cells]using hf
 obtain⟨xs,m,_,hx,hlen,hn,hel⟩:=DataW.trod_struct underlying29 hf'
 match xs,hn with
 | [x0,x1,x2,x3,x4,x5],_=>
  have h0:=hel 0 _ rfl
  have h1:=hel 1 _ rfl
  have h2:=hel 2 _ rfl
  have h3:=hel 3 _ rfl
  have h4:=hel 4 _ rfl
  have h5:=hel 5 _ rfl
  simp[k0,k1,k2,k3]at h0 h1 h2 h3 h4 h5
  have hzz:=hz _ (congrArg Prod.fst hx)
  obtain⟨pb,lb,cb,B,e0,i0,-,-⟩:=wY h0
  obtain⟨pw,lw,cw,Wt,e1,i1,-,-⟩:=Sh.xJ h1
  obtain⟨pt,lt,ct,Tr,e2,i2,-,-⟩:=Sh.xJ h2
  obtain⟨ps,ls,cs,Sp,e3,i3,-,-⟩:=wY h3
  obtain⟨sky,e4,g4⟩:=Sh.trod_int underlying2 h4
  obtain⟨st,e5,g5⟩:=Sh.trod_int underlying3 h5
  simp at e0 e1 e2 e3
  subst e0 e1 e2 e3 e4 e5
  exact⟨pb,lb,cb,B,pw,lw,cw,Wt,pt,lt,ct,Tr,ps,ls,cs,Sp,sky,st,rfl,⟨i0,i1,i2,i3⟩,⟨iX underlying26 (by kernel_rfl) h0 (fun elems spare e=>by have q:=sized_slice hzz (j:=0) (t:=26) (e:=22) (elems:=elems) (spare:=spare) rfl (by rw[<- e];rfl) underlying26;rw[CJ]at q;exact q),iX underlying27 (by kernel_rfl) h1 (fun elems spare e=>by have q:=sized_slice hzz (j:=1) (t:=27) (e:=2) (elems:=elems) (spare:=spare) rfl (by rw[<- e];rfl) underlying27;rw[CU]at q;exact q),iX underlying27 (by kernel_rfl) h2 (fun elems spare e=>by have q:=sized_slice hzz (j:=2) (t:=27) (e:=2) (elems:=elems) (spare:=spare) rfl (by rw[<- e];rfl) underlying27;rw[CU]at q;exact q),iX underlying26 (by kernel_rfl) h3 (fun elems spare e=>by have q:=sized_slice hzz (j:=3) (t:=26) (e:=22) (elems:=elems) (spare:=spare) rfl (by rw[<- e];rfl) underlying26;rw[CJ]at q;exact q)⟩,g4,g5⟩
theorem C0{H:Type}{enc:TypeId × Value->H}{W:World}{r:Reach}{b0:Nat}{v:Value}{d:DataW H}{p:List MemPlace}(hv:Value.okWide prog W r b0 25 v)(h:DataW.Trod enc prog W 0 (fun _=>true) true 25 v d p)
  (hz: ∀parts,d=.agg parts->(DataW.weightsEach prog [3,22,22,22,3,4,23] parts).all (· <=reachBytes)=true):
  ∃sd dt gr dr lim rv pr lr cr R,v=.agg #[.int .i64 sd,.float .f64 dt,.float .f64 gr,.float .f64 dr,.int .i64 lim,.bool rv,.slice pr lr cr]/\Sh.W64 sd/\Sh.W64 lim/\(dt<18446744073709551616/\gr<18446744073709551616/\dr<18446744073709551616)/\Rn.IsRn W pr lr R/\lr<=17592186044416:=by
 have hC:Tryz.prog.cellsOf 25=7:=by kernel_rfl
 obtain⟨cs,rfl,hsz⟩:=okWide_struct underlying25 hv
 obtain⟨v0,v1,v2,v3,v4,v5,v6,rfl⟩:=array7' (hsz.trans hC)
 obtain⟨fuel,hf⟩:=h
 have hf':DataW.trod enc prog W 0 (fun _=>true) true fuel 25 [v0,v1,v2,v3,v4,v5,v6]=some (d,p):=by simpa [Value.cells]using hf
 have k0:Tryz.prog.cellsOf 22=1:=by kernel_rfl
 have k1:Tryz.prog.cellsOf 4=1:=by kernel_rfl
 have k2:Tryz.prog.cellsOf 23=1:=by kernel_rfl
 have k3:Tryz.prog.cellsOf 3=1:=by kernel_rfl
 obtain⟨xs,m,_,hx,hlen,hn,hel⟩:=DataW.trod_struct underlying25 hf'
 match xs,hn with
 | [x0,x1,x2,x3,x4,x5,x6],_=>
  have h0:=hel 0 _ rfl
  have h1:=hel 1 _ rfl
  have h2:=hel 2 _ rfl
  have h3:=hel 3 _ rfl
  have h4:=hel 4 _ rfl
  have h5:=hel 5 _ rfl
  have h6:=hel 6 _ rfl
  simp[k0,k1,k2,k3]at h0 h1 h2 h3 h4 h5 h6
  obtain⟨sd,rfl,i0⟩:=Sh.trod_int underlying3 h0
  obtain⟨dt,rfl,i1⟩:=kF underlying22 h1
  obtain⟨gr,rfl,i2⟩:=kF underlying22 h2
  obtain⟨dr,rfl,i3⟩:=kF underlying22 h3
  obtain⟨lim,rfl,i4⟩:=Sh.trod_int underlying3 h4
  obtain⟨rv,rfl⟩:=CI underlying4 h5
  obtain⟨pr,lr,cr,R,e6,ir,j6,-,-,z6⟩:=Rn.Fh h6
  simp at e6
  subst e6
  have hzz:=hz _ (congrArg Prod.fst hx)
  have sz:=z6 (fun elems spare e=>by have q:=sized_slice hzz (j:=6) (t:=23) (e:=72) (elems:=elems) (spare:=spare) rfl (by rw[<- e];rfl) underlying23;rw[Rn.bytesR18]at q;exact q)
  exact⟨_,_,_,_,_,_,_,_,_,R,rfl,i0,i4,⟨i1,i2,i3⟩,ir,by omega⟩
end St
end
end Go.Proofs.YtaphajlpbgcfjaaGreatDoor
