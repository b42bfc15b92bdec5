/-
  Some of the texts of this proof, one behind the other.
-/
import Derived.Deep.RegionWith
import Derived.Deep.RegionHeld3
import Derived.Test.YtmhnilnaffjhmaaGreatDoorCeg10
set_option maxRecDepth 100000
set_option maxHeartbeats 400000000
namespace Go.Proofs.YtmhnilnaffjhmaaGreatDoor
open _root_.Go.Proofs.Tryz
section
open Go.RowKit Tf Cu Go.Deep
namespace St
open Ss Fc
def erS(n:Nat)(sd:Int)(dt gr dr:Nat)(lim:Int)(lr:Nat)(R:Nat->Int × Int × Int × Int)(lb lw lt ls:Nat)(B:Nat->Nat)(W T:Nat->Int)(S:Nat->Nat)(sky st:Int):Int:=
 if sd≠(n:Int)then 1 else if plE sd dt gr dr lim lr R≠0 then plE sd dt gr dr lim lr R else(chk sd lb lw lt ls B W T S sky st).2
def OneB(rv:Bool):Prop:= ∀(n gb:Nat) (sd:Int) (dt gr dr:Nat) (lim:Int) (pr:Option Addr) (lr cr:Nat) (R:Nat->Int × Int × Int × Int) (pb:Option Addr) (lb cb:Nat) (B:Nat->Nat) (pw:Option Addr) (lw cw:Nat) (W:Nat->Int) (pt:Option Addr) (lt ct:Nat) (T:Nat->Int) (ps:Option Addr) (ls cs:Nat) (S:Nat->Nat) (sky st:Int) (w:World),(1<=n/\n<=32)->GridOf n gb w->Fr w->(Sh.W64 sd/\Sh.W64 lim/\Sh.W64 sky/\Sh.W64 st)->(dt<18446744073709551616/\gr<18446744073709551616/\dr<18446744073709551616)->lr<=281474976710656->(lb<=281474976710656/\lw<=281474976710656/\lt<=281474976710656/\ls<=281474976710656)->Rn.IsRn w pr lr R->IsFl w pb lb B->Sh.IsI w pw lw W->Sh.IsI w pt lt T->IsFl w ps ls S->
 ((erS n sd dt gr dr lim lr R lb lw lt ls B W T S sky st)=0->Calls prog 21 #[.pointer (some ⟨gb,0,none⟩),.agg #[.int .i64 sd,.float .f64 dt,.float .f64 gr,.float .f64 dr,.int .i64 lim,.bool rv,.slice pr lr cr],.agg #[.slice pb lb cb,.slice pw lw cw,.slice pt lt ct,.slice ps ls cs,.int .i64 sky,.int .i64 st]] w fun e w'=> ∃v,e=.returned (.tuple #[v,.int .i64 0])/\Below w.heap.size w w'/\OwnS w.heap.size v lb lw lt ls B (riX n lim gr dt dr rv lr R B W T S sky st).1 (riX n lim gr dt dr rv lr R B W T S sky st).2 (spE n gr dt dr B W S) (raX n lim gr dt dr lr R B W S sky st).2 (stN st) w')/\
 ((erS n sd dt gr dr lim lr R lb lw lt ls B W T S sky st)≠0->Calls prog 21 #[.pointer (some ⟨gb,0,none⟩),.agg #[.int .i64 sd,.float .f64 dt,.float .f64 gr,.float .f64 dr,.int .i64 lim,.bool rv,.slice pr lr cr],.agg #[.slice pb lb cb,.slice pw lw cw,.slice pt lt ct,.slice ps ls cs,.int .i64 sky,.int .i64 st]] w fun e w'=>e=.returned (.tuple #[.agg #[.slice none 0 0,.slice none 0 0,.slice none 0 0,.slice none 0 0,.int .i64 0,.int .i64 0],.int .i64 (erS n sd dt gr dr lim lr R lb lw lt ls B W T S sky st)])/\Below w.heap.size w w')
def OneF:Prop:=OneB false
theorem rB_ok{m:Nat}{r:Int × Int × Int × Int}(h:rB (m:Int) r=true):Rn.okR m r:=by
 unfold rB at h
 simp only[Bool.and_eq_true,decide_eq_true_eq]at h
 unfold Rn.okR
 omega
theorem plE_ok{sd:Int}{dt gr dr:Nat}{lim:Int}{lr:Nat}{R:Nat->Int × Int × Int × Int}(h:plE sd dt gr dr lim lr R=0):(1<=sd/\sd<=32)/\lr<=1024/\ ∀k,k<lr->Rn.okR (6*sd.toNat*sd.toNat) (R k):=by
 unfold plE at h
 by_cases a:1<=sd/\sd<=32
 ·rw[if_neg (fun q=>q a)]at h
  split at h
  ·exact absurd h (by decide)
  ·by_cases c:lr<=1024/\ ∀k,k<lr->rB ((6*sd.toNat*sd.toNat:Nat):Int) (R k)=true
   ·exact⟨a,c.1,fun k hk=>rB_ok (c.2 k hk)⟩
   ·rw[if_pos c]at h
    exact absurd h (by decide)
 ·rw[if_pos a]at h
  exact absurd h (by decide)
theorem chk_ok{side:Int}{lb lw lt ls:Nat}{B:Nat->Nat}{W T:Nat->Int}{S:Nat->Nat}{sky st:Int}(c:(chk side lb lw lt ls B W T S sky st).2=0):(1<=side/\side<=32)/\(lb=6*side.toNat*side.toNat/\lw=6*side.toNat*side.toNat/\lt=6*side.toNat*side.toNat/\ls=2*(6*side.toNat*side.toNat))/\okN (6*side.toNat*side.toNat) B W T S sky st:=by
 unfold chk at c
 by_cases q:1<=side/\side<=32
 ·rw[if_pos q]at c
  obtain⟨a,b⟩:=chN_ok.1 c
  exact⟨q,a,b⟩
 ·rw[if_neg q]at c
  exact absurd c (by decide)
theorem er_ok{n:Nat}{sd:Int}{dt gr dr:Nat}{lim:Int}{lr:Nat}{R:Nat->Int × Int × Int × Int}{lb lw lt ls:Nat}{B:Nat->Nat}{W T:Nat->Int}{S:Nat->Nat}{sky st:Int}(h:(erS n sd dt gr dr lim lr R lb lw lt ls B W T S sky st)=0)(hf:dt<18446744073709551616/\gr<18446744073709551616/\dr<18446744073709551616)(hB: ∀i,i<lb->B i<18446744073709551616)(hS: ∀i,i<ls->S i<18446744073709551616):
  sd=(n:Int)/\plE sd dt gr dr lim lr R=0/\(chk sd lb lw lt ls B W T S sky st).2=0/\(lb=6*n*n/\lw=6*n*n/\lt=6*n*n/\ls=12*n*n)/\okP n gr dt dr lr R/\okS n B W T S sky st:=by
 unfold erS at h
 by_cases a:sd=(n:Int)
 ·rw[if_neg (fun q=>q a)]at h
  by_cases b:plE sd dt gr dr lim lr R=0
  ·rw[if_neg (fun q=>q b)]at h
   obtain⟨p1,p2,p3⟩:=plE_ok b
   obtain⟨-,s2,s3⟩:=chk_ok h
   have e2:2*(6*n*n)=12*n*n:=by rw[Nat.mul_assoc,Nat.mul_assoc];omega
   rw[a,Int.toNat_natCast]at p3 s2 s3
   rw[e2]at s2
   refine⟨a,b,h,s2,⟨by omega,⟨hf.2.1,hf.1,hf.2.2⟩,p2,p3⟩,s3,fun c hc=>hB c (by omega),fun e he=>hS e (by omega)⟩
  ·rw[if_pos b]at h
   exact absurd h b
 ·rw[if_pos a]at h
  exact absurd h (by decide)
theorem er_zero{n:Nat}{sd:Int}{dt gr dr:Nat}{lim:Int}{lr:Nat}{R:Nat->Int × Int × Int × Int}{lb lw lt ls:Nat}{B:Nat->Nat}{W T:Nat->Int}{S:Nat->Nat}{sky st:Int}(a:sd=(n:Int))(b:plE sd dt gr dr lim lr R=0)(c:(chk sd lb lw lt ls B W T S sky st).2=0):(erS n sd dt gr dr lim lr R lb lw lt ls B W T S sky st)=0:=by
 unfold erS
 rw[if_neg (fun q=>q a),if_neg (fun q=>q b),c]
end St
end
section
open Go.RowKit Tf Cu Go.Deep
attribute [local go_sem] aJ aK aN aO aP aQ aV aD
namespace St
open Ss Fc
theorem yV:(Tryz.prog.info? 35).map (fun i=>(i.zero,i.size,i.bytes))=some (some (.float .f64 0),1,8):=by kernel_rfl
end St
end
section
open Go.RowKit Tf Cu Go.Deep
namespace St
open Ss Fc
theorem aw_pl(R:Nat->Int × Int × Int × Int):plE 1 4602678819172646912 4607182418800017408 0 0 0 R=0:=by
 unfold plE
 rw[if_neg (by omega),if_neg (fun q=>q ⟨by decide+kernel,by decide+kernel,by decide+kernel,by decide+kernel,by omega,by omega⟩),if_neg (fun q=>q ⟨by omega,fun k hk=>absurd hk (Nat.not_lt_zero k)⟩)]
theorem aw_okP(R:Nat->Int × Int × Int × Int):okP 1 4607182418800017408 4602678819172646912 0 0 R:=⟨by omega,⟨by omega,by omega,by omega⟩,by omega,fun k hk=>absurd hk (Nat.not_lt_zero k)⟩
theorem aw_okN{W:Nat->Int}(h0: ∀i,i<6->0<=W i)(h1:Sh.sumN W 6<=4503599627370496):okN 6 (fun _=>0) W (fun _=>0) (fun _=>0) 0 0:=
 ⟨fun _ _=>by show(!btw 0 13920626448202203136 4697254411347427328)=false;decide+kernel,by omega,⟨h0,by omega⟩,⟨fun _ _=>Int.le_refl 0,by decide⟩,fun _ _=>by show(!btw 0 13875590451928498176 4652218415073722368)=false;decide+kernel,by omega,by omega⟩
theorem aw_s{W:Nat->Int}(h:okN 6 (fun _=>0) W (fun _=>0) (fun _=>0) 0 0):okS 1 (fun _=>0) W (fun _=>0) (fun _=>0) 0 0:=⟨h,fun _ _=>(by show 0<_;omega),fun _ _=>(by show 0<_;omega)⟩
theorem aw_er{W:Nat->Int}(h:okN 6 (fun _=>0) W (fun _=>0) (fun _=>0) 0 0)(R:Nat->Int × Int × Int × Int):erS 1 1 4602678819172646912 4607182418800017408 0 0 0 R 6 6 6 12 (fun _=>0) W (fun _=>0) (fun _=>0) 0 0=0:=
 er_zero (by rfl) (aw_pl R) (congrArg Prod.snd (chk_zero (side:=1) (lb:=6) (lw:=6) (lt:=6) (ls:=12) (by omega) ⟨rfl,rfl,rfl,rfl⟩ h))
theorem ri_0{n:Nat}{lim:Int}{G dt D:Nat}{R:Nat->Int × Int × Int × Int}{B:Nat->Nat}{W T:Nat->Int}{S:Nat->Nat}{sky st:Int}:riX n lim G dt D false 0 R B W T S sky st=(mvW n lim G dt D B W S,mvT n lim G dt D B W T S):=by
 unfold riX raX
 rw[if_neg (by decide)]
 rfl
end St
end
section
open Go.RowKit Tf Cu Go.Deep
attribute [local go_sem] aJ aK aN aO aP aQ aV aD
namespace Ss
def SeaP(g:Nat)(p1:Option Addr)(c1:Nat)(p2:Option Addr)(c2:Nat)(p3:Option Addr)(c3:Nat)(p4:Option Addr)(c4:Nat)(n1 n2 n3 n4:Nat)(A:Nat->Nat)(B C:Nat->Int)(D:Nat->Nat)(sk st:Int)(v:World):Prop:=v.heap[g]? =some (.cells #[.slice p1 n1 c1,.slice p2 n2 c2,.slice p3 n3 c3,.slice p4 n4 c4,.int .i64 sk,.int .i64 st] 48)/\IsFl v p1 n1 A/\Sh.IsI v p2 n2 B/\Sh.IsI v p3 n3 C/\IsFl v p4 n4 D
end Ss
end
section
open Go.RowKit Tf Cu Go.Deep
attribute [local go_sem] aJ aK aN aO aP aQ aV aD
namespace St
open Ss Fc
def LkR(W:Nat->Int)(b1 b2 b3 b4:Nat)(v:World):Prop:=v.rowIs b1 35 6 (fun _=>.float .f64 0)/\v.rowIs b2 2 6 (fun i=>.int .i64 (W i))/\v.rowIs b3 2 6 (fun _=>.int .i64 0)/\v.rowIs b4 35 12 (fun _=>.float .f64 0)
theorem LkR.to{W:Nat->Int}{b1 b2 b3 b4:Nat}{v v':World}(h:LkR W b1 b2 b3 b4 v)(a:Ab v v'):LkR W b1 b2 b3 b4 v':=⟨rowIs.ab h.1 a,rowIs.ab h.2.1 a,rowIs.ab h.2.2.1 a,rowIs.ab h.2.2.2 a⟩
theorem bnd_ok{n:Nat}{B:Nat->Nat}{W T:Nat->Int}{S:Nat->Nat}{sky st:Int}(h:okS n B W T S sky st):Bnd (6*n*n) (6*n*n) (6*n*n) (12*n*n) B W T S:=by
 obtain⟨⟨-,⟨k1,k2⟩,⟨w1,w2⟩,⟨t1,t2⟩,-⟩,hb,hs⟩:=h
 refine⟨hb,fun i hi=> ?_,fun i hi=> ?_,hs⟩
 ·have h1:=w1 i hi
  have h2:=sB w1 hi
  unfold Sh.W64
  omega
 ·have h1:=t1 i hi
  have h2:=sB t1 hi
  unfold Sh.W64
  omega
theorem own_isI{M n:Nat}{v:Value}{f:Nat->Int}{w:World}(h:Sh.Own M v ((List.range n).map f) w)(hf: ∀i,i<n->Sh.W64 (f i)): ∃p c,v=.slice p n c/\Sh.IsI w p n f/\ ∀b o,p=some ⟨b,o,none⟩->M<=b:=by
 obtain⟨p,c,rfl,hi⟩:=h.in (fun x hx=>by
  obtain⟨i,hi,rfl⟩:=List.mem_map.1 hx
  exact hf i (List.mem_range.1 hi))
 rw[List.length_map,List.length_range]at hi
 refine⟨p,c,by rw[List.length_map,List.length_range],hi.congr (fun k hk=>by simp[List.getD,hk]),fun b o e=> ?_⟩
 subst e
 exact(World.ownsRow.lt h b rfl).1
end St
end
section
open Go.RowKit Tf Cu Go.Deep
attribute [local go_sem] aJ aK aN aO aP aQ aV aD
namespace Co
open Ss Fc St
theorem E9{P:Program}{fn:Func}{p q:Tmp}{tp tq:TypeId}(h:fn.results= #[.cell p tp,.cell q tq])(tmps:Array Value)(w:World)(g0 g1:Nat)(t0 t1:TypeId)(c0 c1:Array Value)(d0 d1:TypeDesc)
  (hp:tmps.getD p undef=.pointer (some ⟨g0,0,none⟩)) (hq:tmps.getD q undef=.pointer (some ⟨g1,0,none⟩)) (h0:w.heap[g0]? =some (.cells c0 t0)) (h1:w.heap[g1]? =some (.cells c1 t1))
  (u0:P.underlying tp=some d0) (u1:P.underlying tq=some d1) (k0:(match d0 with | .struct _ | .array _ _=>true | _=>false)=true) (k1:(match d1 with | .struct _ | .array _ _=>true | _=>false)=true) (i0:(P.info? tp).map (·.size)=some c0.size) (i1:(P.info? tq).map (·.size)=some c1.size):
  (results fn tmps).run P w=.ok (.tuple #[.agg c0,.agg c1]) w:=by
 have hp':tmps[p]?.getD undef=.pointer (some ⟨g0,0,none⟩):=by simpa using hp
 have hq':tmps[q]?.getD undef=.pointer (some ⟨g1,0,none⟩):=by simpa using hq
 simp[results,h,hp',hq',asAddr,run_loadVar_row w g0 t0 tp c0 (0,0) d0 h0 u0 k0 i0,run_loadVar_row w g1 t1 tq c1 (0,0) d1 h1 u1 k1 i1]
theorem row7{w:World}{g:Nat}{a0 a1 a2 a3 a4 a5 a6 p0 p1 p2 p3 p4 p5 p6:Value}{T:TypeId}(h:w.heap[g]? =some (.cells #[a0,a1,a2,a3,a4,a5,a6] T)):(((((((w.setCell ⟨g,0,none⟩ p0).setCell ⟨g,1,none⟩ p1).setCell ⟨g,2,none⟩ p2).setCell ⟨g,3,none⟩ p3).setCell ⟨g,4,none⟩ p4).setCell ⟨g,5,none⟩ p5).setCell ⟨g,6,none⟩ p6).heap[g]? =some (.cells #[p0,p1,p2,p3,p4,p5,p6] T):=by
 have h0:=aI (v:=p0) (k:=0) h
 have h1:=aI (v:=p1) (k:=1) h0
 have h2:=aI (v:=p2) (k:=2) h1
 have h3:=aI (v:=p3) (k:=3) h2
 have h4:=aI (v:=p4) (k:=4) h3
 have h5:=aI (v:=p5) (k:=5) h4
 have h6:=aI (v:=p6) (k:=6) h5
 simpa using h6
def Box2(V:World)(g0 g1:Nat)(c0 c1:Array Value)(T0 T1:TypeId)(w:World):Prop:=w.heap[g0]? =some (.cells c0 T0)/\w.heap[g1]? =some (.cells c1 T1)/\(∀b o,b≠g0->b≠g1->V.heap[b]? =some o->w.heap[b]? =some o)/\ ∀W,Ab W V->W.heap.size<=g0->W.heap.size<=g1->Ab W w
theorem box_a{V:World}{g0 g1:Nat}{a0 a1 a2 a3 a4 a5 a6 p0 p1 p2 p3 p4 p5 p6 b0 b1 b2 b3 b4 b5 q0 q1 q2 q3 q4 q5:Value}{T0 T1:TypeId}(hg:g0≠g1)(h0:V.heap[g0]? =some (.cells #[a0,a1,a2,a3,a4,a5,a6] T0))(h1:V.heap[g1]? =some (.cells #[b0,b1,b2,b3,b4,b5] T1)):Box2 V g0 g1 #[p0,p1,p2,p3,p4,p5,p6] #[q0,q1,q2,q3,q4,q5] T0 T1 (((((((((((((V.setCell ⟨g0,0,none⟩ p0).setCell ⟨g0,1,none⟩ p1).setCell ⟨g0,2,none⟩ p2).setCell ⟨g0,3,none⟩ p3).setCell ⟨g0,4,none⟩ p4).setCell ⟨g0,5,none⟩ p5).setCell ⟨g0,6,none⟩ p6).setCell ⟨g1,0,none⟩ q0).setCell ⟨g1,1,none⟩ q1).setCell ⟨g1,2,none⟩ q2).setCell ⟨g1,3,none⟩ q3).setCell ⟨g1,4,none⟩ q4).setCell ⟨g1,5,none⟩ q5):=by
 refine⟨?_,?_,fun b o n0 n1 h=> ?_,fun W a s0 s1=> ?_⟩
 ·rw[aE hg,aE hg,aE hg,aE hg,aE hg,aE hg]
  exact row7 h0
 ·exact row6 (show(((((((V.setCell ⟨g0,0,none⟩ p0).setCell ⟨g0,1,none⟩ p1).setCell ⟨g0,2,none⟩ p2).setCell ⟨g0,3,none⟩ p3).setCell ⟨g0,4,none⟩ p4).setCell ⟨g0,5,none⟩ p5).setCell ⟨g0,6,none⟩ p6).heap[g1]? =_ by rw[aE (Ne.symm hg),aE (Ne.symm hg),aE (Ne.symm hg),aE (Ne.symm hg),aE (Ne.symm hg),aE (Ne.symm hg),aE (Ne.symm hg)];exact h1)
 ·rw[aE n1,aE n1,aE n1,aE n1,aE n1,aE n1,aE n0,aE n0,aE n0,aE n0,aE n0,aE n0,aE n0]
  exact h
 ·exact((((((((((((a.setk s0 _).setk s0 _).setk s0 _).setk s0 _).setk s0 _).setk s0 _).setk s0 _).setk s1 _).setk s1 _).setk s1 _).setk s1 _).setk s1 _).setk s1 _
theorem Box2.drew{V:World}{g0 g1:Nat}{c0 c1:Array Value}{T0 T1:TypeId}{w:World}(h:Box2 V g0 g1 c0 c1 T0 T1 w):Box2 V g0 g1 c0 c1 T0 T1 w.drew:=⟨h.1,h.2.1,h.2.2.1,fun W a s t=>(h.2.2.2 W a s t).drew⟩
theorem fin_a{V:World}{g0 g1:Nat}{a0 a1 a2 a3 a4 a5 a6 p0 p1 p2 p3 p4 p5 p6 b0 b1 b2 b3 b4 b5 q0 q1 q2 q3 q4 q5:Value}{T0 T1:TypeId}{Q:World->Prop}(hg:g0≠g1)(h0:V.heap[g0]? =some (.cells #[a0,a1,a2,a3,a4,a5,a6] T0))(h1:V.heap[g1]? =some (.cells #[b0,b1,b2,b3,b4,b5] T1))(h: ∀w,Box2 V g0 g1 #[p0,p1,p2,p3,p4,p5,p6] #[q0,q1,q2,q3,q4,q5] T0 T1 w->Q w):Q ((((((((((((((V.setCell ⟨g0,0,none⟩ p0).setCell ⟨g0,1,none⟩ p1).setCell ⟨g0,2,none⟩ p2).setCell ⟨g0,3,none⟩ p3).setCell ⟨g0,4,none⟩ p4).setCell ⟨g0,5,none⟩ p5).setCell ⟨g0,6,none⟩ p6).setCell ⟨g1,0,none⟩ q0).setCell ⟨g1,1,none⟩ q1).setCell ⟨g1,2,none⟩ q2).setCell ⟨g1,3,none⟩ q3).setCell ⟨g1,4,none⟩ q4).setCell ⟨g1,5,none⟩ q5)).drew:=by
 have b:Box2 V g0 g1 #[p0,p1,p2,p3,p4,p5,p6] #[q0,q1,q2,q3,q4,q5] T0 T1 (((((((((((((V.setCell ⟨g0,0,none⟩ p0).setCell ⟨g0,1,none⟩ p1).setCell ⟨g0,2,none⟩ p2).setCell ⟨g0,3,none⟩ p3).setCell ⟨g0,4,none⟩ p4).setCell ⟨g0,5,none⟩ p5).setCell ⟨g0,6,none⟩ p6).setCell ⟨g1,0,none⟩ q0).setCell ⟨g1,1,none⟩ q1).setCell ⟨g1,2,none⟩ q2).setCell ⟨g1,3,none⟩ q3).setCell ⟨g1,4,none⟩ q4).setCell ⟨g1,5,none⟩ q5):=box_a hg h0 h1
 exact h _ b.drew
theorem Box2.row{V:World}{g0 g1:Nat}{c0 c1:Array Value}{T0 T1:TypeId}{w:World}(h:Box2 V g0 g1 c0 c1 T0 T1 w){b n:Nat}{t:TypeId}{f:Nat->Value}(n0:b≠g0)(n1:b≠g1)(r:V.rowIs b t n f):w.rowIs b t n f:=by
 obtain⟨cur,hc,r2⟩:=r
 exact⟨cur,h.2.2.1 b _ n0 n1 hc,r2⟩
theorem pond_at(w:World):
  Calls prog 22 #[] w fun e w'=> ∃b1 b2 b3 b4,e=.returned (.tuple #[.agg #[.int .i64 1,.float .f64 4602678819172646912,.float .f64 4607182418800017408,.float .f64 0,.int .i64 0,.bool false,.slice none 0 0],.agg #[.slice (some ⟨b1,0,none⟩) 6 6,.slice (some ⟨b2,0,none⟩) 6 6,.slice (some ⟨b3,0,none⟩) 6 6,.slice (some ⟨b4,0,none⟩) 12 12,.int .i64 0,.int .i64 0]])/\Below w.heap.size w w'/\St.LkR w3 b1 b2 b3 b4 w'/\(w.heap.size<=b1/\w.heap.size<=b2/\w.heap.size<=b3/\w.heap.size<=b4):=by
 have GA:Hid (∀v (c:Nat),c<6->Calls prog 18 #[.int .i64 1,.int .i64 (c:Nat)] v fun e w'=>e=.returned (.int .i64 1431655765)/\Below v.heap.size v w'):=fun v c hc=>(vQ 1 c v (by omega) (by omega)).mono fun e w' h=>⟨by rw[h.1];have:=aw_ar c hc;unfold arC at this;rw[this],h.2⟩
 have M1: ∀v:World,(Instr.makeSlice 38 (.int .i64 6) (.int .i64 6)).run prog v=.ok (.slice (some ⟨v.heap.size,0,none⟩) 6 6) (v.alloc (Obj.cells (madeCells #[.float .f64 0] 6) 35)):=fun v=>by
  have h:=run_make_row' (P:=prog) 38 35 (.float .f64 0) 8 underlying38 yV rfl .i64 .i64 6 (by omega) (by omega) v
  simpa using h
 have M2: ∀v:World,(Instr.makeSlice 46 (.int .i64 6) (.int .i64 6)).run prog v=.ok (.slice (some ⟨v.heap.size,0,none⟩) 6 6) (v.alloc (Obj.cells (madeCells #[.int .i64 0] 6) 2)):=fun v=>by
  have h:=run_make_row' (P:=prog) 46 2 (.int .i64 0) 8 underlying46 Sh.eW rfl .i64 .i64 6 (by omega) (by omega) v
  simpa using h
 have M4: ∀v:World,(Instr.makeSlice 38 (.int .i64 12) (.int .i64 12)).run prog v=.ok (.slice (some ⟨v.heap.size,0,none⟩) 12 12) (v.alloc (Obj.cells (madeCells #[.float .f64 0] 12) 35)):=fun v=>by
  have h:=run_make_row' (P:=prog) 38 35 (.float .f64 0) 8 underlying38 yV rfl .i64 .i64 12 (by omega) (by omega) v
  simpa using h
 have AL: ∀v:World,(Instr.alloc 48 true (.tuple #[])).run prog v=.ok (.pointer (some ⟨v.heap.size,0,none⟩)) (v.alloc (.cells #[.slice none 0 0,.slice none 0 0,.slice none 0 0,.slice none 0 0,.int .i64 0,.int .i64 0] 48)):=fun v=>by
  simp[go_sem]
 have A0:Hid (Ab w (((w.alloc (.cells #[.int .i64 0,.float .f64 0,.float .f64 0,.float .f64 0,.int .i64 0,.bool false,.slice none 0 0] 45)).alloc (.cells #[.slice none 0 0,.slice none 0 0,.slice none 0 0,.slice none 0 0,.int .i64 0,.int .i64 0] 48)).alloc (.cells #[.int .i64 1,.float .f64 4602678819172646912,.float .f64 4607182418800017408,.float .f64 0,.int .i64 0,.bool false,.slice none 0 0] 45))):=(show Ab w _ from bl2 _ _ _).trans (bl1 _ _)
 have P0:Hid ((((w.alloc (.cells #[.int .i64 0,.float .f64 0,.float .f64 0,.float .f64 0,.int .i64 0,.bool false,.slice none 0 0] 45)).alloc (.cells #[.slice none 0 0,.slice none 0 0,.slice none 0 0,.slice none 0 0,.int .i64 0,.int .i64 0] 48)).alloc (.cells #[.int .i64 1,.float .f64 4602678819172646912,.float .f64 4607182418800017408,.float .f64 0,.int .i64 0,.bool false,.slice none 0 0] 45)).heap[w.heap.size]? =some (.cells #[.int .i64 0,.float .f64 0,.float .f64 0,.float .f64 0,.int .i64 0,.bool false,.slice none 0 0] 45)):=Ab.heap (bl1 _ _) (heap_alloc2_old _ _ _)
 have Q0:Hid ((((w.alloc (.cells #[.int .i64 0,.float .f64 0,.float .f64 0,.float .f64 0,.int .i64 0,.bool false,.slice none 0 0] 45)).alloc (.cells #[.slice none 0 0,.slice none 0 0,.slice none 0 0,.slice none 0 0,.int .i64 0,.int .i64 0] 48)).alloc (.cells #[.int .i64 1,.float .f64 4602678819172646912,.float .f64 4607182418800017408,.float .f64 0,.int .i64 0,.bool false,.slice none 0 0] 45)).heap[w.heap.size+1]? =some (.cells #[.slice none 0 0,.slice none 0 0,.slice none 0 0,.slice none 0 0,.int .i64 0,.int .i64 0] 48)):=Ab.heap (bl1 _ _) (heap_alloc2_new _ _ _)
 have R0:Hid ((((w.alloc (.cells #[.int .i64 0,.float .f64 0,.float .f64 0,.float .f64 0,.int .i64 0,.bool false,.slice none 0 0] 45)).alloc (.cells #[.slice none 0 0,.slice none 0 0,.slice none 0 0,.slice none 0 0,.int .i64 0,.int .i64 0] 48)).alloc (.cells #[.int .i64 1,.float .f64 4602678819172646912,.float .f64 4607182418800017408,.float .f64 0,.int .i64 0,.bool false,.slice none 0 0] 45)).heap[w.heap.size+1+1]? =some (.cells #[.int .i64 1,.float .f64 4602678819172646912,.float .f64 4607182418800017408,.float .f64 0,.int .i64 0,.bool false,.slice none 0 0] 45)):=by
  have h:=heap_alloc_new ((w.alloc (.cells #[.int .i64 0,.float .f64 0,.float .f64 0,.float .f64 0,.int .i64 0,.bool false,.slice none 0 0] 45)).alloc (.cells #[.slice none 0 0,.slice none 0 0,.slice none 0 0,.slice none 0 0,.int .i64 0,.int .i64 0] 48)) (.cells #[.int .i64 1,.float .f64 4602678819172646912,.float .f64 4607182418800017408,.float .f64 0,.int .i64 0,.bool false,.slice none 0 0] 45)
  have e:((w.alloc (.cells #[.int .i64 0,.float .f64 0,.float .f64 0,.float .f64 0,.int .i64 0,.bool false,.slice none 0 0] 45)).alloc (.cells #[.slice none 0 0,.slice none 0 0,.slice none 0 0,.slice none 0 0,.int .i64 0,.int .i64 0] 48)).heap.size=w.heap.size+1+1:=by simp
  rw[e]at h
  exact h
 go_enter func22,ntmps22
 go_upto_region 2 with fail
 generalize hW:World.alloc (World.alloc (World.alloc w _) _) _=V0 at*
 obtain⟨g0,hg0⟩:=aB w.heap.size
 obtain⟨g1,hg1⟩:=aB (w.heap.size+1)
 obtain⟨g2,hg2⟩:=aB (w.heap.size+1+1)
 have HG:Hid (w.heap.size<=g0/\w.heap.size<=g1/\g0≠g1):=by show _/\_;omega
 have HG2:Hid (g2≠g0/\g2≠g1):=by show _/\_;omega
 rw[hg1]at Q0
 rw[hg2]at R0
 rw[hg0]at P0
 try rw[hg2]
 try rw[hg1]
 try rw[hg0]
 clear hg0 hg1 hg2 hW
 go_cut [3]from 6 to 10 (fun s3 wx=> ∃g5 b1 b2 b3 b4,s3=.pointer (some ⟨g5,0,none⟩)/\Ab V0 wx/\wx.heap[g5]? =some (.cells #[.slice (some ⟨b1,0,none⟩) 6 6,.slice (some ⟨b2,0,none⟩) 6 6,.slice (some ⟨b3,0,none⟩) 6 6,.slice (some ⟨b4,0,none⟩) 12 12,.int .i64 0,.int .i64 0] 48)/\wx.heap[b1]? =some (Obj.cells (madeCells #[.float .f64 0] 6) 35)/\wx.heap[b2]? =some (Obj.cells (madeCells #[.int .i64 0] 6) 2)/\wx.heap[b3]? =some (Obj.cells (madeCells #[.int .i64 0] 6) 2)/\wx.heap[b4]? =some (Obj.cells (madeCells #[.float .f64 0] 12) 35)/\(V0.heap.size<=b1/\V0.heap.size<=b2/\V0.heap.size<=b3/\V0.heap.size<=b4/\V0.heap.size<=g5)/\(b1≠b2/\b1≠b3/\b1≠b4/\b2≠b3/\b2≠b4/\b3≠b4)/\(b1≠g5/\b2≠g5/\b3≠g5/\b4≠g5))
 case first=>
  obtain⟨UU,E,hF1,hF2⟩:=cls V0.drew
  have HU:=hid hF2
  clear hF1 hF2
  refine Cf.kF 6 (fun k=>if k=0 then some ((Obj.cells (madeCells #[.float .f64 0] 6) 35),fun b=>.slice (some ⟨b,0,none⟩) 6 6)else if k=1 then some ((Obj.cells (madeCells #[.int .i64 0] 6) 2),fun b=>.slice (some ⟨b,0,none⟩) 6 6)else if k=2 then some ((Obj.cells (madeCells #[.int .i64 0] 6) 2),fun b=>.slice (some ⟨b,0,none⟩) 6 6)else if k=3 then some ((Obj.cells (madeCells #[.float .f64 0] 12) 35),fun b=>.slice (some ⟨b,0,none⟩) 12 12)else if k=5 then some ((.cells #[.slice none 0 0,.slice none 0 0,.slice none 0 0,.slice none 0 0,.int .i64 0,.int .i64 0] 48),fun b=>.pointer (some ⟨b,0,none⟩))else none) (by kernel_rfl) (by kernel_rfl) (by kernel_rfl) ?_
  simp only[List.take_succ_cons,List.take_zero]
  refine Cf.dP (ob:=(Obj.cells (madeCells #[.float .f64 0] 6) 35)) (mk:=fun b=>.slice (some ⟨b,0,none⟩) 6 6) (by rfl) (by kernel_rfl) ?_ ?_
  ·refine Cf.jK (mS (vx:=.int .i64 6) (vy:=.int .i64 6) (ob:=(Obj.cells (madeCells #[.float .f64 0] 6) 35)) (mk:=fun b=>.slice (some ⟨b,0,none⟩) 6 6) rfl ?_ ?_ ?_)
   ·rfl
   ·rfl
   ·exact M1
  intro b1 fb1
  simp only[Act.put,List.setIfInBounds_toArray,List.set_cons_succ,List.set_cons_zero]
  refine Cf.dP (ob:=(Obj.cells (madeCells #[.int .i64 0] 6) 2)) (mk:=fun b=>.slice (some ⟨b,0,none⟩) 6 6) (by rfl) (by kernel_rfl) ?_ ?_
  ·refine Cf.jK (mS (vx:=.int .i64 6) (vy:=.int .i64 6) (ob:=(Obj.cells (madeCells #[.int .i64 0] 6) 2)) (mk:=fun b=>.slice (some ⟨b,0,none⟩) 6 6) rfl ?_ ?_ ?_)
   ·rfl
   ·rfl
   ·exact M2
  intro b2 fb2
  simp only[Act.put,List.setIfInBounds_toArray,List.set_cons_succ,List.set_cons_zero]
  refine Cf.dP (ob:=(Obj.cells (madeCells #[.int .i64 0] 6) 2)) (mk:=fun b=>.slice (some ⟨b,0,none⟩) 6 6) (by rfl) (by kernel_rfl) ?_ ?_
  ·refine Cf.jK (mS (vx:=.int .i64 6) (vy:=.int .i64 6) (ob:=(Obj.cells (madeCells #[.int .i64 0] 6) 2)) (mk:=fun b=>.slice (some ⟨b,0,none⟩) 6 6) rfl ?_ ?_ ?_)
   ·rfl
   ·rfl
   ·exact M2
  intro b3 fb3
  simp only[Act.put,List.setIfInBounds_toArray,List.set_cons_succ,List.set_cons_zero]
  refine Cf.dP (ob:=(Obj.cells (madeCells #[.float .f64 0] 12) 35)) (mk:=fun b=>.slice (some ⟨b,0,none⟩) 12 12) (by rfl) (by kernel_rfl) ?_ ?_
  ·refine Cf.jK (mS (vx:=.int .i64 12) (vy:=.int .i64 12) (ob:=(Obj.cells (madeCells #[.float .f64 0] 12) 35)) (mk:=fun b=>.slice (some ⟨b,0,none⟩) 12 12) rfl ?_ ?_ ?_)
   ·rfl
   ·rfl
   ·exact M4
  intro b4 fb4
  simp only[Act.put,List.setIfInBounds_toArray,List.set_cons_succ,List.set_cons_zero]
  refine Cf.dF HU (by rfl) (by rfl) ?_
  go_big_quiet_step (with_reducible rfl)
  refine wpQuiet_nil ?_
  refine Cf.dP (ob:=(.cells #[.slice none 0 0,.slice none 0 0,.slice none 0 0,.slice none 0 0,.int .i64 0,.int .i64 0] 48)) (mk:=fun b=>.pointer (some ⟨b,0,none⟩)) (by rfl) (by kernel_rfl) ?_ ?_
  ·refine Cf.jK (EJ (ob:=(.cells #[.slice none 0 0,.slice none 0 0,.slice none 0 0,.slice none 0 0,.int .i64 0,.int .i64 0] 48)) (mk:=fun b=>.pointer (some ⟨b,0,none⟩)) rfl ?_)
   exact AL
  intro g5 fg5
  simp only[Act.put,List.setIfInBounds_toArray,List.set_cons_succ,List.set_cons_zero]
  refine Cf.lS ?_
  intro wz hz
  have h1:=hz.at (i:=0) (b:=b1) (ob:=(Obj.cells (madeCells #[.float .f64 0] 6) 35)) (by rfl) (by rfl)
  have h2:=hz.at (i:=1) (b:=b2) (ob:=(Obj.cells (madeCells #[.int .i64 0] 6) 2)) (by rfl) (by rfl)
  have h3:=hz.at (i:=2) (b:=b3) (ob:=(Obj.cells (madeCells #[.int .i64 0] 6) 2)) (by rfl) (by rfl)
  have h4:=hz.at (i:=3) (b:=b4) (ob:=(Obj.cells (madeCells #[.float .f64 0] 12) 35)) (by rfl) (by rfl)
  have h5:=hz.at (i:=5) (b:=g5) (ob:=(.cells #[.slice none 0 0,.slice none 0 0,.slice none 0 0,.slice none 0 0,.int .i64 0,.int .i64 0] 48)) (by rfl) (by rfl)
  have n12:b1≠b2:=fb2.2 0 b1 (by rfl)
  have n13:b1≠b3:=fb3.2 0 b1 (by rfl)
  have n14:b1≠b4:=fb4.2 0 b1 (by rfl)
  have n15:b1≠g5:=fg5.2 0 b1 (by rfl)
  have n23:b2≠b3:=fb3.2 1 b2 (by rfl)
  have n24:b2≠b4:=fb4.2 1 b2 (by rfl)
  have n25:b2≠g5:=fg5.2 1 b2 (by rfl)
  have n34:b3≠b4:=fb4.2 2 b3 (by rfl)
  have n35:b3≠g5:=fg5.2 2 b3 (by rfl)
  have n45:b4≠g5:=fg5.2 3 b4 (by rfl)
  have AZ:Ab V0 wz:=(Ab.refl V0).drew.trans hz.1
  have RZ:=hid h5.1
  have HH:=hid (And.intro h1 (And.intro h2 (And.intro h3 (And.intro h4 h5))))
  have NN:=hid (And.intro (And.intro n12 (And.intro n13 (And.intro n14 (And.intro n23 (And.intro n24 n34))))) (And.intro n15 (And.intro n25 (And.intro n35 n45))))
  have HAZ:=hid AZ
  clear hz fb1 fb2 fb3 fb4 fg5 h1 h2 h3 h4 h5 n12 n13 n14 n15 n23 n24 n25 n34 n35 n45 AZ HU
  clear E UU
  have t0:=aG RZ.out
  obtain⟨f0,f1,f2,f3,f4,f5⟩:=iE RZ.out
  simp only[List.drop_succ_cons,List.drop_zero]
  go_wp2_with fail
  go_meet
  obtain⟨⟨k1,l1⟩,⟨k2,l2⟩,⟨k3,l3⟩,⟨k4,l4⟩,⟨k5,l5⟩⟩:=HH.out
  have st_: ∀(b:Nat) (o:Obj),b≠g5->wz.heap[b]? =some o-> ∀x0 x1 x2 x3 x4 x5,((((((wz.setCell ⟨g5,0,none⟩ x0).setCell ⟨g5,1,none⟩ x1).setCell ⟨g5,2,none⟩ x2).setCell ⟨g5,3,none⟩ x3).setCell ⟨g5,4,none⟩ x4).setCell ⟨g5,5,none⟩ x5).heap[b]? =some o:=fun b o hb h x0 x1 x2 x3 x4 x5=>by
   rw[aE hb,aE hb,aE hb,aE hb,aE hb,aE hb]
   exact h
  refine⟨g5,b1,b2,b3,b4,rfl,?_,row6 k5,st_ b1 _ NN.out.2.1 k1 _ _ _ _ _ _,st_ b2 _ NN.out.2.2.1 k2 _ _ _ _ _ _,st_ b3 _ NN.out.2.2.2.1 k3 _ _ _ _ _ _,st_ b4 _ NN.out.2.2.2.2 k4 _ _ _ _ _ _,⟨l1,l2,l3,l4,l5⟩,NN.out.1,NN.out.2⟩
  exact(((((HAZ.out.setk l5 _).setk l5 _).setk l5 _).setk l5 _).setk l5 _).setk l5 _
 case rest=>
  obtain⟨g5,b1,b2,b3,b4,rfl,a3,r5,m1',m2',m3,m4,hl,hne,hng⟩:=hcut
  rename World=>v3
  have A3:Hid (Ab V0 v3):=a3
  have R5:=hid r5
  have N1:Hid (v3.rowIs b1 35 6 (fun _=>.float .f64 0)):=jZ m1'
  have N2:Hid (v3.rowIs b2 2 6 (fun _=>.int .i64 0)):=jZ m2'
  have N3:Hid (v3.rowIs b3 2 6 (fun _=>.int .i64 0)):=jZ m3
  have N4:Hid (v3.rowIs b4 35 12 (fun _=>.float .f64 0)):=jZ m4
  have LL:=hid hl
  have NN:=hid hne
  have NG:=hid hng
  clear a3 r5 m1' m2' m3 m4 hl hne hng M1 M2 M4 AL
  have x1:=aA 1 R5.out
  go_wp2
  clear x1
  go_loopw [14] (fun iv wr=> ∃(k:Nat),k<=6/\iv=.int .i64 (k:Nat)/\Ab V0 wr/\wr.heap[g5]? =some (.cells #[.slice (some ⟨b1,0,none⟩) 6 6,.slice (some ⟨b2,0,none⟩) 6 6,.slice (some ⟨b3,0,none⟩) 6 6,.slice (some ⟨b4,0,none⟩) 12 12,.int .i64 0,.int .i64 0] 48)/\wr.rowIs b1 35 6 (fun _=>.float .f64 0)/\wr.rowIs b2 2 6 (fun i=>.int .i64 (if i<k then 1431655765 else 0))/\wr.rowIs b3 2 6 (fun _=>.int .i64 0)/\wr.rowIs b4 35 12 (fun _=>.float .f64 0)) (fun iv _=>6 - (intOf iv).toNat)
  case atStart=>exact⟨0,by omega,rfl,A3.out,R5.out,N1.out,N2.out.congr (fun i _=>by simp),N3.out,N4.out⟩
  case round=>
   obtain⟨k,hk,rfl,ar',h5,r1,r2,r3,r4⟩:=hrel
   have AW:=hid ar'
   have H5:=hid h5
   have P1:=hid r1
   have P2:=hid r2
   have P3:=hid r3
   have P4:=hid r4
   clear ar' h5 r1 r2 r3 r4 N1 N2 N3 N4 R5 A3
   by_cases hkn:k<6
   ·have HK:=hid hkn
    have kI:(k:Int)<6:=by omega
    have CA:Hid (∀v,Calls prog 18 #[.int .i64 1,.int .i64 (k:Nat)] v fun e w'=>e=.returned (.int .i64 1431655765)/\Below v.heap.size v w'):=fun v=>GA.out v k hkn
    clear hkn hk
    go_upto_region 6 with fail
    obtain⟨UU,E,hF1,hF2⟩:=cls wr
    have HU:=hid hF2
    have HU1:=hid hF1
    have y0: ∀u,(E u).cell? ⟨g5,1,none⟩=some (.slice (some ⟨b2,0,none⟩) 6 6):=fun u=>aA 1 ((hF1 u).heap H5.out)
    have DD0:=HU.out _ (Ab.refl wr).drew
    clear hF1 hF2
    refine cH 6 E (by kernel_rfl) (by kernel_rfl) (by kernel_rfl) DD0 ?_
    simp only[List.take_succ_cons,List.take_zero,List.drop_succ_cons,List.drop_zero]
    repeat(go_big_quiet_step (first | (go_at_call 18;exact aH HU HU1 (CA.out _)) | (with_reducible rfl)))
    refine wpQuiet_nil ?_
    intro z hwz
    obtain⟨u0,hu⟩:=hwz
    have AZ:Hid (Ab wr z):=by rw[hu];exact HU1.out u0
    clear hu u0
    clear HU HU1 DD0 y0
    clear E UU
    have z1:=(rowIs.ab P2.out AZ.out).cell HK.out
    have z2:=(rowIs.ab P2.out AZ.out).frozen k
    go_wp2_with fail
    refine⟨⟨k+1,by have:=HK.out;omega,by simp,(AW.out.trans AZ.out).setk LL.out.2.1 _,(aE (Ne.symm NG.out.2.1)).trans (Ab.heap AZ.out H5.out),(rowIs.ab P1.out AZ.out).setOther (a:=⟨b2,k,none⟩) NN.out.1 _,((rowIs.ab P2.out AZ.out).set k _).congr (fun i _=> ?_),(rowIs.ab P3.out AZ.out).setOther (a:=⟨b2,k,none⟩) (Ne.symm NN.out.2.2.2.1) _,(rowIs.ab P4.out AZ.out).setOther (a:=⟨b2,k,none⟩) (Ne.symm NN.out.2.2.2.2.1) _⟩,by have:=HK.out;simp[intOf];omega⟩
    by_cases e:i=k
    ·subst e;simp
    ·have e2:(i<k+1) ↔ i<k:=by omega
     simp[e,e2]
   ·have e6:k=6:=by omega
    subst e6
    clear hkn hk
    have y1:=aA 1 H5.out
    have y2:=P2.out.cell (show 0<6 by omega)
    go_upto_region 8 with fail
    clear y1 y2
    obtain⟨UU,E,hF1,hF2⟩:=cls wr
    have HU:=hid hF2
    have HU1:=hid hF1
    have y0: ∀u,(E u).cell? ⟨g5,1,none⟩=some (.slice (some ⟨b2,0,none⟩) 6 6):=fun u=>aA 1 ((hF1 u).heap H5.out)
    have y1: ∀u,(E u).cell? ⟨b2,0,none⟩=some (.int .i64 1431655765):=fun u=>(rowIs.ab P2.out (hF1 u)).cell (show 0<6 by omega)
    have DD0:=HU.out _ (Ab.refl wr).drew
    clear hF1 hF2
    refine cH 11 E (by kernel_rfl) (by kernel_rfl) (by kernel_rfl) DD0 ?_
    simp only[List.take_succ_cons,List.take_zero,List.drop_succ_cons,List.drop_zero]
    repeat(go_big_quiet_step (with_reducible rfl))
    refine wpQuiet_nil ?_
    intro z hwz
    obtain⟨u0,hu⟩:=hwz
    have AZ:Hid (Ab wr z):=by rw[hu];exact HU1.out u0
    clear hu u0
    clear HU HU1 DD0 y0 y1
    clear E UU
    have z1:=(rowIs.ab P2.out AZ.out).cell (show 0<6 by omega)
    have z2:=(rowIs.ab P2.out AZ.out).frozen 0
    go_upto_region 9 with fail
    clear z1 z2
    have A9:Hid (Ab w (z.setCell ⟨b2,0,none⟩ (.int .i64 1433053866))):=(A0.out.trans (AW.out.trans AZ.out)).setk (Nat.le_trans A0.out.size LL.out.2.1) _
    have S9:Hid ((z.setCell ⟨b2,0,none⟩ (.int .i64 1433053866)).heap[g5]? =some (.cells #[.slice (some ⟨b1,0,none⟩) 6 6,.slice (some ⟨b2,0,none⟩) 6 6,.slice (some ⟨b3,0,none⟩) 6 6,.slice (some ⟨b4,0,none⟩) 12 12,.int .i64 0,.int .i64 0] 48)):=(aE (Ne.symm NG.out.2.1)).trans (Ab.heap AZ.out H5.out)
    have NB:Hid (g0≠b2/\g1≠b2/\g2≠b2/\g0<V0.heap.size/\g1<V0.heap.size):=by
     have h0:=Rv.bX P0.out
     have h1:=Rv.bX Q0.out
     have h2:=Rv.bX R0.out
     have h3:=LL.out.2.1
     show _/\_
     omega
    have P9:Hid ((z.setCell ⟨b2,0,none⟩ (.int .i64 1433053866)).heap[g0]? =some (.cells #[.int .i64 0,.float .f64 0,.float .f64 0,.float .f64 0,.int .i64 0,.bool false,.slice none 0 0] 45)):=(aE NB.out.1).trans (Ab.heap (AW.out.trans AZ.out) P0.out)
    have Q9:Hid ((z.setCell ⟨b2,0,none⟩ (.int .i64 1433053866)).heap[g1]? =some (.cells #[.slice none 0 0,.slice none 0 0,.slice none 0 0,.slice none 0 0,.int .i64 0,.int .i64 0] 48)):=(aE NB.out.2.1).trans (Ab.heap (AW.out.trans AZ.out) Q0.out)
    have R9:Hid ((z.setCell ⟨b2,0,none⟩ (.int .i64 1433053866)).heap[g2]? =some (.cells #[.int .i64 1,.float .f64 4602678819172646912,.float .f64 4607182418800017408,.float .f64 0,.int .i64 0,.bool false,.slice none 0 0] 45)):=(aE NB.out.2.2.1).trans (Ab.heap (AW.out.trans AZ.out) R0.out)
    have L9:Hid (St.LkR w3 b1 b2 b3 b4 (z.setCell ⟨b2,0,none⟩ (.int .i64 1433053866))):=by
     refine⟨(rowIs.ab P1.out AZ.out).setOther (a:=⟨b2,0,none⟩) NN.out.1 _,((rowIs.ab P2.out AZ.out).set 0 _).congr (fun i hi=> ?_),(rowIs.ab P3.out AZ.out).setOther (a:=⟨b2,0,none⟩) (Ne.symm NN.out.2.2.2.1) _,(rowIs.ab P4.out AZ.out).setOther (a:=⟨b2,0,none⟩) (Ne.symm NN.out.2.2.2.2.1) _⟩
     unfold w3
     by_cases e:i=0
     ·subst e;simp
     ·simp[e,hi]
    have LB:Hid (V0.heap.size<=b1/\V0.heap.size<=b2/\V0.heap.size<=b3/\V0.heap.size<=b4/\w.heap.size<=V0.heap.size/\V0.heap.size<=g5):=⟨LL.out.1,LL.out.2.1,LL.out.2.2.1,LL.out.2.2.2.1,A0.out.size,LL.out.2.2.2.2⟩
    clear H5 P1 P2 P3 P4 AW AZ A0 P0 Q0 R0 LL NN NG
    generalize World.setCell z _ _=V9 at*
    clear z
    obtain⟨x0,x1,x2,x3,x4,x5,x6⟩:=aY R9.out
    obtain⟨y0,y1,y2,y3,y4,y5⟩:=aG S9.out
    obtain⟨a0,a1,a2,a3,a4,a5,a6⟩:=aY P9.out
    have f0:=aF P9.out 0
    have f1:=aF P9.out 1
    have f2:=aF P9.out 2
    have f3:=aF P9.out 3
    have f4:=aF P9.out 4
    have f5:=aF P9.out 5
    have f6:=aF P9.out 6
    have c0:=aG Q9.out
    obtain⟨h0,h1,h2,h3,h4,h5⟩:=iE Q9.out
    have n01:=HG.out.2.2
    have n10:=Ne.symm n01
    have n50:g5≠g0:=by have:=LB.out;have:=NB.out;omega
    have n51:g5≠g1:=by have:=LB.out;have:=NB.out;omega
    have n20:=HG2.out.1
    have n21:=HG2.out.2
    have n05:=Ne.symm n50
    have n15:=Ne.symm n51
    have n02:=Ne.symm n20
    have n12:=Ne.symm n21
    go_region
    all_goals(try go_wp2_with fail)
    all_goals(try simp only[Exit.inBlock,Exit.then])
    all_goals
     refine fin_a (Q:=bodyPost _ _ _ _ _) HG.out.2.2 P9.out Q9.out (fun z9 B9=> ?_)
     refine bodyPost_ret (v:=.tuple #[.agg #[.int .i64 1,.float .f64 4602678819172646912,.float .f64 4607182418800017408,.float .f64 0,.int .i64 0,.bool false,.slice none 0 0],.agg #[.slice (some ⟨b1,0,none⟩) 6 6,.slice (some ⟨b2,0,none⟩) 6 6,.slice (some ⟨b3,0,none⟩) 6 6,.slice (some ⟨b4,0,none⟩) 12 12,.int .i64 0,.int .i64 0]]) ?_ rfl ?_
     ·exact E9 results22 _ _ g0 g1 _ _ _ _ _ _ rfl rfl B9.1 B9.2.1 underlying45 underlying48 rfl rfl (by kernel_rfl) (by kernel_rfl)
     obtain⟨l1,l2,l3,l4,l5,-⟩:=LB.out
     obtain⟨-,-,-,n4,n5⟩:=NB.out
     exact⟨b1,b2,b3,b4,rfl,B9.2.2.2 w A9.out HG.out.1 HG.out.2.1,⟨B9.row (by omega) (by omega) L9.out.1,B9.row (by omega) (by omega) L9.out.2.1,B9.row (by omega) (by omega) L9.out.2.2.1,B9.row (by omega) (by omega) L9.out.2.2.2⟩,by omega,by omega,by omega,by omega⟩
end Co
end
section
open Go.RowKit Tf Cu Go.Deep
attribute [local go_sem] aJ aK aN aO aP aQ aV aD
namespace Co
open Ss Fc St
theorem sG{w:World}{a:Addr}{v:Value}(h:w.cell? a=some v):a.block<w.heap.size:=by
 rcases Nat.lt_or_ge a.block w.heap.size with h1 | h1
 ·exact h1
 ·simp[World.cell?,Array.getElem?_eq_none h1]at h
theorem moves_go(F1:Nat->Nat)(F2 F3:Nat->Int)(F4:Nat->Nat)(w:World)
  (PO:Hid (∀v,Calls prog 22 #[] v fun e w'=> ∃b1 b2 b3 b4,e=.returned (.tuple #[.agg #[.int .i64 1,.float .f64 4602678819172646912,.float .f64 4607182418800017408,.float .f64 0,.int .i64 0,.bool false,.slice none 0 0],.agg #[.slice (some ⟨b1,0,none⟩) 6 6,.slice (some ⟨b2,0,none⟩) 6 6,.slice (some ⟨b3,0,none⟩) 6 6,.slice (some ⟨b4,0,none⟩) 12 12,.int .i64 0,.int .i64 0]])/\Below v.heap.size v w'/\St.LkR w3 b1 b2 b3 b4 w'/\(v.heap.size<=b1/\v.heap.size<=b2/\v.heap.size<=b3/\v.heap.size<=b4)))
  (NW:Hid (∀v,Ab w v->Calls prog 6 #[.int .i64 1] v fun e w'=> ∃gb,e=.returned (.tuple #[.pointer (some ⟨gb,0,none⟩),.int .i64 0])/\Below v.heap.size v w'/\GridOf 1 gb w'))
  (ON:Hid (∀v gb b1 b2 b3 b4,Ab w v->GridOf 1 gb v->St.LkR w3 b1 b2 b3 b4 v->Calls prog 21 #[.pointer (some ⟨gb,0,none⟩),.agg #[.int .i64 1,.float .f64 4602678819172646912,.float .f64 4607182418800017408,.float .f64 0,.int .i64 0,.bool false,.slice none 0 0],.agg #[.slice (some ⟨b1,0,none⟩) 6 6,.slice (some ⟨b2,0,none⟩) 6 6,.slice (some ⟨b3,0,none⟩) 6 6,.slice (some ⟨b4,0,none⟩) 12 12,.int .i64 0,.int .i64 0]] v fun e w'=> ∃vv,e=.returned (.tuple #[vv,.int .i64 0])/\Below v.heap.size v w'/\OwnS v.heap.size vv 6 6 6 12 F1 F2 F3 F4 0 1 w'))
  (GE':Hid (∀v gb,GridOf 1 gb v->Calls prog 8 #[.pointer (some ⟨gb,0,none⟩)] v fun e w'=>e=.returned (.int .i64 12)/\Below v.heap.size v w'))
  (ED:Hid (∀v gb (i:Nat),GridOf 1 gb v->i<12->Calls prog 10 #[.pointer (some ⟨gb,0,none⟩),.int .i64 (i:Nat)] v fun e w'=> ∃xa xb xc,e=.returned (.tuple #[.agg #[.int .i64 (eL 1 i:Nat),.int .i64 xa,.int .i64 xb,.int .i64 xc],.bool true])/\Below v.heap.size v w'))
  (BF:Hid (Bnd 6 6 6 12 F1 F2 F3 F4)) (EW:Hid (F2 0=1432196870)) (ES:Hid (∀i,i<12->F4 i=sp3 i)) (LE:Hid (∀i,i<12->decide (eL 1 i=0)=decide (i<4))):
  Calls prog 5 #[] w fun e w'=>e=.returned (.bool true)/\Below w.heap.size w w':=by
 go_enter func5,ntmps5
 go_wp2_with fail
 refine(PO.out w).mono ?_
 rintro e9 u1 ⟨b1,b2,b3,b4,rfl,k1,l1,-⟩
 have A1:Hid (Ab w ((u1.alloc (.cells #[.int .i64 1,.float .f64 4602678819172646912,.float .f64 4607182418800017408,.float .f64 0,.int .i64 0,.bool false,.slice none 0 0] 45)).alloc (.cells #[.slice (some ⟨b1,0,none⟩) 6 6,.slice (some ⟨b2,0,none⟩) 6 6,.slice (some ⟨b3,0,none⟩) 6 6,.slice (some ⟨b4,0,none⟩) 12 12,.int .i64 0,.int .i64 0] 48))):=(show Ab w u1 from k1).trans (bl2 _ _ _)
 have L1:=hid (l1.to (bl2 u1 (.cells #[.int .i64 1,.float .f64 4602678819172646912,.float .f64 4607182418800017408,.float .f64 0,.int .i64 0,.bool false,.slice none 0 0] 45) (.cells #[.slice (some ⟨b1,0,none⟩) 6 6,.slice (some ⟨b2,0,none⟩) 6 6,.slice (some ⟨b3,0,none⟩) 6 6,.slice (some ⟨b4,0,none⟩) 12 12,.int .i64 0,.int .i64 0] 48)))
 have P1:=hid (heap_alloc2_old u1 (.cells #[.int .i64 1,.float .f64 4602678819172646912,.float .f64 4607182418800017408,.float .f64 0,.int .i64 0,.bool false,.slice none 0 0] 45) (.cells #[.slice (some ⟨b1,0,none⟩) 6 6,.slice (some ⟨b2,0,none⟩) 6 6,.slice (some ⟨b3,0,none⟩) 6 6,.slice (some ⟨b4,0,none⟩) 12 12,.int .i64 0,.int .i64 0] 48))
 have Q1:=hid (heap_alloc2_new u1 (.cells #[.int .i64 1,.float .f64 4602678819172646912,.float .f64 4607182418800017408,.float .f64 0,.int .i64 0,.bool false,.slice none 0 0] 45) (.cells #[.slice (some ⟨b1,0,none⟩) 6 6,.slice (some ⟨b2,0,none⟩) 6 6,.slice (some ⟨b3,0,none⟩) 6 6,.slice (some ⟨b4,0,none⟩) 12 12,.int .i64 0,.int .i64 0] 48))
 clear k1 l1
 go_upto_region 2 with fail
 generalize hW:World.alloc (World.alloc u1 _) _=v1 at*
 obtain⟨gp,hgp⟩:=aB u1.heap.size
 obtain⟨gs,hgs⟩:=aB (u1.heap.size+1)
 rw[hgs]at Q1
 try rw[hgs]
 rw[hgp]at P1
 try rw[hgp]
 clear hgp hgs hW
 go_wp2_with fail
 refine(NW.out v1 A1.out).mono ?_
 rintro e9 v2 ⟨gb,rfl,k2,g2⟩
 have A2:Hid (Ab w v2):=A1.out.trans k2
 have L2:=hid (L1.out.to k2)
 have P2:=hid (Ab.heap k2 P1.out)
 have Q2:=hid (Ab.heap k2 Q1.out)
 have G2:=hid g2
 clear k2 g2 A1 L1 P1 Q1
 go_upto_region 3 with fail
 obtain⟨UU,E,hF1,hF2⟩:=cls v2
 have HU:=hid hF2
 have HU1:=hid hF1
 have x1: ∀u,(E u).cell? ⟨gs,1,none⟩=some (.slice (some ⟨b2,0,none⟩) 6 6):=fun u=>aA 1 (Ab.heap (hF1 u) Q2.out)
 have y0: ∀u,(E u).cell? ⟨b2,0,none⟩=some (.int .i64 1433053866):=fun u=>(L2.out.to (hF1 u)).2.1.cell (show 0<6 by omega)
 have y1: ∀u,(E u).cell? ⟨b2,1,none⟩=some (.int .i64 1431655765):=fun u=>(L2.out.to (hF1 u)).2.1.cell (show 1<6 by omega)
 have DD0:=HU.out _ (Ab.refl v2).drew
 clear hF1 hF2
 refine aM E (by kernel_rfl) (by kernel_rfl) DD0 ?_
 repeat(go_big_quiet_step (with_reducible rfl))
 refine wpQuiet_nil ?_
 intro z2 hwz
 obtain⟨u0,hu⟩:=hwz
 have AZ:Hid (Ab v2 z2):=by rw[hu];exact HU1.out u0
 clear hu u0
 clear HU HU1 DD0 x1 y0 y1
 clear E UU
 have A2z:Hid (Ab w z2):=A2.out.trans AZ.out
 have L2z:=hid (L2.out.to AZ.out)
 have P2z:=hid (Ab.heap AZ.out P2.out)
 have Q2z:=hid (Ab.heap AZ.out Q2.out)
 have G2z:=hid (G2.out.to AZ.out)
 clear A2 L2 P2 Q2 G2 AZ
 obtain⟨x0,x1,x2,x3,x4,x5,x6⟩:=aY P2z.out
 obtain⟨y0,y1,y2,y3,y4,y5⟩:=aG Q2z.out
 go_wp2_with fail
 refine(ON.out z2 gb b1 b2 b3 b4 A2z.out G2z.out L2z.out).mono ?_
 rintro e9 u3 ⟨vv,rfl,k3,os⟩
 obtain⟨tp1,tc1,tp2,tc2,tp3,tc3,tp4,tc4,rfl,sn⟩:=sea_new os BF.out
 obtain⟨s1,-,s2,-,s4⟩:=(show SeaP u3.heap.size tp1 tc1 tp2 tc2 tp3 tc3 tp4 tc4 6 6 6 12 F1 F2 F3 F4 0 1 _ from⟨sn.1,sn.2.1⟩)
 obtain⟨qw,ow,rfl⟩:=Sh.IsI.some0 s2 (by omega)
 obtain⟨qs,oz,rfl⟩:=s4.some0 (show 0<12 by omega)
 have BB:Hid (Ab z2 (u3.alloc (.cells #[.slice tp1 6 tc1,.slice (some ⟨qw,ow,none⟩) 6 tc2,.slice tp3 6 tc3,.slice (some ⟨qs,oz,none⟩) 12 tc4,.int .i64 0,.int .i64 1] 48))):=(show Ab z2 u3 from k3).trans (bl1 _ _)
 have T3:=hid s1
 have I3:=hid s2
 have S3:=hid s4
 clear os sn s1 s2 s4 k3 x0 x1 x2 x3 x4 x5 x6 y0 y1 y2 y3 y4 y5
 go_upto_region 6 with fail
 generalize hW:World.alloc u3 _=v3 at*
 obtain⟨gt,hg⟩:=aB u3.heap.size
 rw[hg]at T3 ⊢
 clear hg hW
 have A3:Hid (Ab w v3):=A2z.out.trans BB.out
 have L3:=hid (L2z.out.to BB.out)
 have Q3:=hid (Ab.heap BB.out Q2z.out)
 have G3:=hid (G2z.out.to BB.out)
 clear BB A2z L2z P2z Q2z G2z
 go_upto_region 6 with fail
 obtain⟨UU,E,hF1,hF2⟩:=cls v3
 have HU:=hid hF2
 have HU1:=hid hF1
 have x1: ∀u,(E u).cell? ⟨gs,1,none⟩=some (.slice (some ⟨b2,0,none⟩) 6 6):=fun u=>aA 1 (Ab.heap (hF1 u) Q3.out)
 have x5: ∀u,(E u).cell? ⟨gt,5,none⟩=some (.int .i64 1):=fun u=>aA 5 (Ab.heap (hF1 u) T3.out)
 have t1: ∀u,(E u).cell? ⟨gt,1,none⟩=some (.slice (some ⟨qw,ow,none⟩) 6 tc2):=fun u=>aA 1 (Ab.heap (hF1 u) T3.out)
 have y0: ∀u,(E u).cell? ⟨b2,0,none⟩=some (.int .i64 1433053866):=fun u=>(L3.out.to (hF1 u)).2.1.cell (show 0<6 by omega)
 have y1: ∀u,(E u).cell? ⟨qw,ow,none⟩=some (.int .i64 1432196870):=fun u=>by have h:=((I3.out.below (hF1 u)).at0 (show 0<6 by omega)).2.2;rw[EW.out]at h;simpa using h
 have DD0:=HU.out _ (Ab.refl v3).drew
 clear hF1 hF2
 refine aM E (by kernel_rfl) (by kernel_rfl) DD0 ?_
 repeat(go_big_quiet_step (with_reducible rfl))
 refine wpQuiet_nil ?_
 intro z3 hwz
 obtain⟨u0,hu⟩:=hwz
 have AZ:Hid (Ab v3 z3):=by rw[hu];exact HU1.out u0
 clear hu u0
 clear HU HU1 DD0 x1 x5 t1 y0 y1
 clear E UU
 go_wp2
 go_loopw [6] (fun iv wr=> ∃c:Nat,c<=12/\iv=.int .i64 (c:Nat)/\Ab v3 wr) (fun iv _=>12 - (intOf iv).toNat)
 case atStart=>exact⟨0,by omega,rfl,AZ.out⟩
 case round=>
  obtain⟨c,hc,rfl,ar'⟩:=hrel
  have AR:=hid ar'
  clear ar'
  go_wp2_with fail
  refine(GE'.out wr gb (G3.out.to AR.out)).mono ?_
  rintro e9 u1 ⟨rfl,k1⟩
  have AU:Hid (Ab v3 u1):=AR.out.trans k1
  clear k1 AR
  by_cases hcn:c<12
  ·have HC:=hid hcn
   have cI:(c:Int)<12:=by omega
   have dN:decide (c<12)=true:=decide_eq_true hcn
   have CE:=hid (ED.out u1 gb c (G3.out.to AU.out) hcn)
   have ls:=LE.out c hcn
   have fs:=ES.out c hcn
   have sp:=(S3.out.below AU.out).at0 hcn
   rw[fs]at sp
   obtain⟨l,hl⟩:=aB (eL 1 c)
   rw[hl]at CE ls
   have SP:=hid sp.2.2
   have LS:=hid ls
   clear hl fs ls sp hcn hc
   go_wp2_with fail
   refine CE.out.mono ?_
   rintro e9 u2 ⟨xa,xb,xc,rfl,k2⟩
   have kk:Ab u1 (u2.alloc (.cells #[.int .i64 (l:Nat),.int .i64 xa,.int .i64 xb,.int .i64 xc] 30)):=(show Ab u1 u2 from k2).trans (bl1 _ _)
   have BX:Hid (Ab v3 (u2.alloc (.cells #[.int .i64 (l:Nat),.int .i64 xa,.int .i64 xb,.int .i64 xc] 30))):=AU.out.trans kk
   have E2:=hid (heap_alloc_new u2 (.cells #[.int .i64 (l:Nat),.int .i64 xa,.int .i64 xb,.int .i64 xc] 30))
   have SX:Hid ((u2.alloc (.cells #[.int .i64 (l:Nat),.int .i64 xa,.int .i64 xb,.int .i64 xc] 30)).cell? ⟨qs,oz+c,none⟩=some (.float .f64 (sp3 c))):=(Below.cell kk (sG SP.out)).trans SP.out
   clear k2 kk CE SP
   go_upto_region 12 with fail
   generalize hW:World.alloc u2 _=v4 at*
   obtain⟨ge,hg⟩:=aB u2.heap.size
   rw[hg]at E2 ⊢
   clear hg hW
   have T4:=hid (Ab.heap BX.out T3.out)
   have c12:(c:Int)<12:=cI
   by_cases h4:c<4
   ·have l0:l=0:=by have h:=LS.out;rw[decide_eq_true h4]at h;simpa using h
    subst l0
    have e1:sp3 c=4555004673799709393:=if_pos h4
    have g1:=po_gt.1
    go_upto_region 12 with fail
    obtain⟨UU,E,hF1,hF2⟩:=cls v4
    have HU:=hid hF2
    have HU1:=hid hF1
    have x0: ∀u,(E u).cell? ⟨ge,0,none⟩=some (.int .i64 (0:Nat)):=fun u=>aA 0 (Ab.heap (hF1 u) E2.out)
    have t3: ∀u,(E u).cell? ⟨gt,3,none⟩=some (.slice (some ⟨qs,oz,none⟩) 12 tc4):=fun u=>aA 3 (Ab.heap (hF1 u) T4.out)
    have z0: ∀u,(E u).cell? ⟨qs,oz+c,none⟩=some (.float .f64 4555004673799709393):=fun u=>by have h:=(Below.cell (hF1 u) (sG SX.out)).trans SX.out;rw[e1]at h;exact h
    have DD0:=HU.out _ (Ab.refl v4).drew
    clear hF1 hF2
    refine aM E (by kernel_rfl) (by kernel_rfl) DD0 ?_
    repeat(go_big_quiet_step (with_reducible rfl))
    refine wpQuiet_nil ?_
    intro z4 hwz
    obtain⟨u0,hu⟩:=hwz
    have AZ4:Hid (Ab v4 z4):=by rw[hu];exact HU1.out u0
    clear hu u0
    clear HU HU1 DD0 x0 t3 z0
    clear E UU
    go_wp2
    exact⟨⟨c+1,by have:=HC.out;omega,by simp,BX.out.trans AZ4.out⟩,by have:=HC.out;simp[intOf];omega⟩
   ·have l0:l≠0:=by have h:=LS.out;rw[decide_eq_false h4]at h;simpa using h
    have lz:((l:Int)==0)=false:=by simpa using l0
    have ln:((l:Int) != 0)=true:=by simpa using l0
    have e1:sp3 c=0:=if_neg h4
    have g1:=po_gt.2
    clear l0
    go_upto_region 12 with fail
    obtain⟨UU,E,hF1,hF2⟩:=cls v4
    have HU:=hid hF2
    have HU1:=hid hF1
    have x0: ∀u,(E u).cell? ⟨ge,0,none⟩=some (.int .i64 (l:Nat)):=fun u=>aA 0 (Ab.heap (hF1 u) E2.out)
    have t3: ∀u,(E u).cell? ⟨gt,3,none⟩=some (.slice (some ⟨qs,oz,none⟩) 12 tc4):=fun u=>aA 3 (Ab.heap (hF1 u) T4.out)
    have z0: ∀u,(E u).cell? ⟨qs,oz+c,none⟩=some (.float .f64 0):=fun u=>by have h:=(Below.cell (hF1 u) (sG SX.out)).trans SX.out;rw[e1]at h;exact h
    have DD0:=HU.out _ (Ab.refl v4).drew
    clear hF1 hF2
    refine aM E (by kernel_rfl) (by kernel_rfl) DD0 ?_
    repeat(go_big_quiet_step (with_reducible rfl))
    refine wpQuiet_nil ?_
    intro z4 hwz
    obtain⟨u0,hu⟩:=hwz
    have AZ4:Hid (Ab v4 z4):=by rw[hu];exact HU1.out u0
    clear hu u0
    clear HU HU1 DD0 x0 t3 z0
    clear E UU
    go_wp2
    exact⟨⟨c+1,by have:=HC.out;omega,by simp,BX.out.trans AZ4.out⟩,by have:=HC.out;simp[intOf];omega⟩
  ·have e6:c=12:=by omega
   subst e6
   clear hcn hc
   go_wp2
   go_ret
   exact⟨rfl,A3.out.trans AU.out⟩
theorem gEdgeN{n gb i:Nat}{w:World}(hn:1<=n/\n<=32)(hi:i<12*n*n)(g:GridOf n gb w):
  Calls prog 10 #[.pointer (some ⟨gb,0,none⟩),.int .i64 (i:Nat)] w fun e w'=>e=.returned (.tuple #[.agg #[.int .i64 (eL n i:Nat),.int .i64 (edT n i%4:Nat),.int .i64 (eR n i:Nat),.int .i64 (bsS n (edT n i/4) (edT n i%4):Nat)],.bool true])/\Below w.heap.size w w':=by
 obtain⟨t1,t2,t3⟩:=bM hn.1 hi
 have h:=iV hn t1 t2 g
 rw[t3]at h
 have e:eR n i=bsC n (edT n i/4) (edT n i%4):=by unfold eR;exact(eO hn.1 t1).1
 rw[e]
 exact h
theorem moves_at(OF:OneF)(w:World)(hF:Fr w):
  Calls prog 5 #[] w fun e w'=>e=.returned (.bool true)/\Below w.heap.size w w':=by
 have R0:Nat->Int × Int × Int × Int:=fun _=>(0,0,0,0)
 have ok3:okN 6 (fun _=>0) w3 (fun _=>0) (fun _=>0) 0 0:=aw_okN (fun i _=>by unfold w3;split<;>omega) (by decide)
 have p1:=aw_okP R0
 have s3:=aw_s ok3
 have z64:Sh.W64 0:=by unfold Sh.W64;omega
 have o64:Sh.W64 1:=by unfold Sh.W64;omega
 have n3:=one_ok (lim:=0) (rv:=false) p1 s3
 refine moves_go (fun _=>0) _ _ _ w (fun v=>pond_at v) (fun v a=>(new_at 1 v (by omega) (hF.to a)).mono fun e w' h=> ?_) (fun v gb b1 b2 b3 b4 a g h=>(OF 1 gb 1 4602678819172646912 4607182418800017408 0 0 none 0 0 R0 (some ⟨b1,0,none⟩) 6 6 (fun _=>0) (some ⟨b2,0,none⟩) 6 6 w3 (some ⟨b3,0,none⟩) 6 6 (fun _=>0) (some ⟨b4,0,none⟩) 12 12 (fun _=>0) 0 0 v (by omega) g (hF.to a) ⟨o64,z64,z64,z64⟩ (by omega) (by omega) (by omega) (fun k hk=>absurd hk (Nat.not_lt_zero k)) (rowIs.fl h.1 (fun _ _=>(by show 0<_;omega))) (Sh.oG h.2.1 (fun i hi=>(bnd_ok s3).2.1 i hi)) (Sh.oG h.2.2.1 (fun _ _=>(by show _<=(0:Int)/\(0:Int)<=_;omega))) (rowIs.fl h.2.2.2 (fun _ _=>(by show 0<_;omega)))).1 (aw_er ok3 R0)) (fun v gb g=>(bZ g).mono fun e w' h=>⟨h.1,by rw[h.2];exact Below.refl _ _⟩) (fun v gb i g hi=>(gEdgeN (n:=1) (by omega) hi g).mono fun e w' h=>⟨_,_,_,h.1,h.2⟩) (bnd_ok n3) ?_ (fun i hi=>po_sp i hi) (fun i hi=>po_eL i hi)
 ·obtain⟨gb,rfl,a1,-,g⟩:=h
  exact⟨gb,rfl,a1,g⟩
 ·show(riX 1 0 4607182418800017408 4602678819172646912 0 false 0 R0 (fun _=>0) w3 (fun _=>0) (fun _=>0) 0 0).1 0=1432196870
  rw[ri_0]
  exact po_mvW
end Co
end
end Go.Proofs.YtmhnilnaffjhmaaGreatDoor
