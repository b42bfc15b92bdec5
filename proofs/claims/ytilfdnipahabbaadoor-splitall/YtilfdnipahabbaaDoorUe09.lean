/-
  Some of the texts of this proof, one behind the other.
-/
import Derived.Deep.QuietTactic
import Derived.StillTail
import Derived.Test.YtilfdnipahabbaaDoorUe08
set_option maxRecDepth 100000
set_option maxHeartbeats 400000000
namespace Go.Proofs.YtilfdnipahabbaaDoor
open _root_.Go.Proofs.Tryd
section
open Go.RowKit Tf Cu Go.Deep
namespace Spl
theorem infoP:(Tryd.prog.info? 39).map (fun i=>(i.zero,i.size,i.bytes))=some (some (.agg #[.slice none 0 0,.slice none 0 0,.slice none 0 0]),3,72):=by kernel_rfl
theorem infoP_i: ∃i,Tryd.prog.info? 39=some i/\i.zero=some (.agg #[.slice none 0 0,.slice none 0 0,.slice none 0 0])/\i.size=3/\i.bytes=72:=by
 have h:=infoP
 cases e:Tryd.prog.info? 39 with
 | none=>rw[e]at h;cases h
 | some i=>
  rw[e]at h
  injection h with h
  injection h with h1 h2
  injection h2 with h2 h3
  exact⟨i,rfl,h1,h2,h3⟩
theorem OwnN.val{B:Nat}{v:Value}{l:List Nat}{w:World}(h:OwnN B v l w): ∃p c,v=.slice p l.length c:=by
 rcases h.2 with⟨q,e⟩ | ⟨g,cap,cur,q,hb,rest⟩
 ·exact⟨none,0,by rw[q,e]⟩
 ·exact⟨_,cap,q⟩
theorem OwnN.mono{B C:Nat}{v:Value}{l:List Nat}{w:World}(h:OwnN B v l w)(hc:C<=B):OwnN C v l w:=OT.toN (OT.mono (OT.ofN h) hc)
theorem OwnN.other{B:Nat}{v:Value}{l:List Nat}{w:World}(h:OwnN B v l w){g c:Nat}(u:Value)(hg:v.ownBlock≠some g):OwnN B v l (w.setCell ⟨g,c,none⟩ u):=OT.toN (OT.other (OT.ofN h) u hg)
theorem OwnN.blk{B:Nat}{v:Value}{l:List Nat}{w:World}(h:OwnN B v l w){k:Nat}(hk:v.ownBlock=some k):B<=k/\k<w.heap.size:=World.ownsRow.lt h k hk
theorem OwnN.blkeq{B:Nat}{v:Value}{l:List Nat}{w w':World}(h:OwnN B v l w)(e: ∀k,v.ownBlock=some k->w'.heap[k]? =w.heap[k]?):OwnN B v l w':=OT.toN (OT.blkeq (OT.ofN h) e)
theorem PsX.step{B S gl gc ge k:Nat}{a z:Nat->Nat}{H:Nat->List Nat}{X:Nat->Value}{w w':World}{u:Value}(h:PsX B gl gc ge k a z H X w)(keep: ∀b,b<w.heap.size->b≠gl->w'.heap[b]? =w.heap[b]?)(o:OwnN S u (H k) w')(hS:w.heap.size<=S)(hB:B<=S)(h1:gl<w.heap.size)(h2:gc<w.heap.size)(h3:ge<w.heap.size):
  PsX B gl gc ge (k+1) a z H (fun i=>if i=k*3 then win gc (a k) (a (k+1))else if i=k*3+1 then win ge (z k) (z (k+1))else if i=k*3+2 then u else X i) w':=by
 intro j hj
 have e0: ∀m,m<k->(fun i=>if i=k*3 then win gc (a k) (a (k+1))else if i=k*3+1 then win ge (z k) (z (k+1))else if i=k*3+2 then u else X i) (m*3+2)=X (m*3+2):=fun m hm=>by
  dsimp only
  rw[if_neg (by omega),if_neg (by omega),if_neg (by omega)]
 by_cases q:j<k
 ·obtain⟨k1,k2,k3,k4,k5⟩:=h j q
  refine⟨?_,?_,?_,?_,?_⟩
  ·dsimp only
   rw[if_neg (by omega),if_neg (by omega),if_neg (by omega)]
   exact k1
  ·dsimp only
   rw[if_neg (by omega),if_neg (by omega),if_neg (by omega)]
   exact k2
  ·rw[e0 j q]
   exact k3.blkeq (fun b hb=>keep b (k3.blk hb).2 (k4 b hb).1)
  ·rw[e0 j q]
   exact k4
  ·intro m hm
   rw[e0 j q,e0 m (by omega)]
   exact k5 m hm
 ·have e:j=k:=by omega
  subst e
  have ej:(fun i=>if i=j*3 then win gc (a j) (a (j+1))else if i=j*3+1 then win ge (z j) (z (j+1))else if i=j*3+2 then u else X i) (j*3+2)=u:=by
   dsimp only
   rw[if_neg (by omega),if_neg (by omega),if_pos rfl]
  refine⟨?_,?_,?_,?_,?_⟩
  ·dsimp only
   rw[if_pos rfl]
  ·dsimp only
   rw[if_neg (by omega),if_pos rfl]
  ·rw[ej]
   exact o.mono hB
  ·rw[ej]
   intro b hb
   have:=(o.blk hb).1
   exact⟨by omega,by omega,by omega⟩
  ·intro m hm
   rw[ej,e0 m hm]
   intro b hb hc
   have h4:=(o.blk hb).1
   have h5:=((h m hm).2.2.1.blk hc).2
   omega
theorem make_p(P:Nat)(hP:P<=64)(w:World):(Instr.makeSlice 23 (.int .i64 (P:Nat)) (.int .i64 (P:Nat))).run prog w=.ok (.slice (some ⟨w.heap.size,0,none⟩) P P) (w.alloc (.cells (madeCells #[.slice none 0 0,.slice none 0 0,.slice none 0 0] (P*3)) 39)):=by
 obtain⟨i,hi,h1,h2,h3⟩:=infoP_i
 have h:=run_make (P:=prog) w 23 39 i (.agg #[.slice none 0 0,.slice none 0 0,.slice none 0 0]) underlying23 hi h1 .i64 .i64 (P:Int) (P:Int) (by omega) (by omega) (by rw[h3];omega) (by omega)
 rw[h2,Int.toNat_natCast]at h
 exact h
theorem made_p(w:World)(P:Nat):(w.alloc (.cells (madeCells #[.slice none 0 0,.slice none 0 0,.slice none 0 0] (P*3)) 39)).rowIs w.heap.size 39 (P*3) (fun _=>.slice none 0 0):=by
 refine⟨_,heap_alloc_new _ _,size_madeCells _ _,fun i hi=> ?_⟩
 have e: ∀j,j<3->(#[.slice none 0 0,.slice none 0 0,.slice none 0 0]:Array Value)[j]! =.slice none 0 0:=fun j hj=>by
  match j,hj with
  | 0,_=>rfl
  | 1,_=>rfl
  | 2,_=>rfl
 unfold madeCells
 rw[Array.getElem?_map,Array.getElem?_range,if_pos hi]
 simp only[Option.map_some]
 rw[show(#[.slice none 0 0,.slice none 0 0,.slice none 0 0]:Array Value).size=3 from rfl,e (i%3) (by omega)]
theorem split_go(gb N M P:Nat)(a z:Nat->Nat)(H:Nat->List Nat)(w:World)(hN:0<N/\N<=6144)(hM:M<=12288)(hP:1<=P/\P<=64)(a0:a 0=0)(z0:z 0=0)
  (HA:Hid (∀k,k<P->a (k+1)=(k+1)*N/P/\a k<=a (k+1)/\a (k+1)<=N/\z k<=z (k+1)/\z (k+1)<=M))
  (CC:Hid (∀v,Ab w v->Calls prog 14 #[.pointer (some ⟨gb,0,none⟩)] v fun e w'=>e=.returned (.int .i64 (N:Nat))/\w'=v))
  (CE:Hid (∀v,Ab w v->Calls prog 15 #[.pointer (some ⟨gb,0,none⟩)] v fun e w'=>e=.returned (.int .i64 (M:Nat))/\w'=v))
  (NU:Hid (∀v (m:Nat),m<=12288->Calls prog 13 #[.int .i64 (m:Nat)] v fun e w'=> ∃b,e=.returned (.slice (some ⟨b,0,none⟩) m m)/\Ab v w'/\v.heap.size<=b/\upR b m w'))
  (CA:Hid (∀v k,Ab w v->k<P->Calls prog 16 #[.pointer (some ⟨gb,0,none⟩),.int .i64 (z k:Nat),.int .i64 (a (k+1):Nat)] v fun e w'=>e=.returned (.int .i64 (z (k+1):Nat))/\Ab v w'))
  (CH:Hid (∀v k gc ge,Ab w v->k<P->upR gc N v->upR ge M v->Calls prog 17 #[.pointer (some ⟨gb,0,none⟩),.agg #[.slice (some ⟨gc,wo (a k) (a (k+1)),none⟩) (a (k+1) - a k) (a (k+1) - a k),.slice (some ⟨ge,wo (z k) (z (k+1)),none⟩) (z (k+1) - z k) (z (k+1) - z k),.slice none 0 0]] v fun e w'=> ∃u,e=.returned u/\Ab v w'/\OwnN v.heap.size u (H k) w')):
  Calls prog 5 #[.pointer (some ⟨gb,0,none⟩),.int .i64 (P:Nat)] w fun e w'=> ∃gl gc ge X,e=.returned (.tuple #[.slice (some ⟨gl,0,none⟩) P P,.int .i64 0])/\Ab w w'/\w'.rowIs gl 39 (P*3) X/\upR gc N w'/\upR ge M w'/\(w.heap.size<=gl/\w.heap.size<=gc/\w.heap.size<=ge/\gl≠gc/\gl≠ge/\gc≠ge)/\PsX w.heap.size gl gc ge P a z H X w':=by
 have MP:=make_p P hP.2
 have HN:=hid (And.intro hN (And.intro hM hP))
 have nB:(N:Int)<=6144:=by omega
 have pB:(P:Int)<=64:=by omega
 have pA:1<=(P:Int):=by omega
 have pC:decide ((P:Int)<1)=false:=decide_eq_false (by omega)
 have pD:decide ((64:Int)<(P:Int))=false:=decide_eq_false (by omega)
 have A0:=hid (Ab.refl w)
 have Z0:=hid (And.intro a0 z0)
 clear hN hM hP a0 z0
 go_enter func5,ntmps5
 go_wp2_with fail
 refine(CC.out w A0.out).mono ?_
 rintro e9 v1 ⟨rfl,hw⟩
 have hw2:=hw.symm
 subst hw2
 clear CC
 go_wp2_with fail
 refine(NU.out w N (by have:=HN.out;omega)).mono ?_
 rintro e9 v1 ⟨gc,rfl,a1,l1,u1⟩
 have A1:=hid a1
 have L1:=hid l1
 have U1:=hid u1
 clear a1 l1 u1 A0
 go_wp2_with fail
 refine(CE.out v1 A1.out).mono ?_
 rintro e9 v2 ⟨rfl,hw⟩
 have hw2:=hw.symm
 subst hw2
 clear CE
 go_wp2_with fail
 refine(NU.out v1 M (by have:=HN.out;omega)).mono ?_
 rintro e9 v2 ⟨ge,rfl,a2,l2,u2⟩
 have NE:Hid (gc≠ge):=by have h1:=U1.out.lt;show _≠_;omega
 have L2:Hid (w.heap.size<=ge):=by have h1:=A1.out.size;show _<=_;omega
 have A2:Hid (Ab w v2):=A1.out.trans a2
 have U2:Hid (upR gc N v2):=rowIs.ab U1.out a2
 have V2:Hid (upR ge M v2):=u2
 clear a2 l2 u2 U1 A1 NU
 have A3:Hid (Ab w (v2.alloc (.cells (madeCells #[.slice none 0 0,.slice none 0 0,.slice none 0 0] (P*3)) 39))):=A2.out.trans (bl1 _ _)
 have U3:Hid (upR gc N (v2.alloc (.cells (madeCells #[.slice none 0 0,.slice none 0 0,.slice none 0 0] (P*3)) 39))):=rowIs.ab U2.out (bl1 _ _)
 have V3:Hid (upR ge M (v2.alloc (.cells (madeCells #[.slice none 0 0,.slice none 0 0,.slice none 0 0] (P*3)) 39))):=rowIs.ab V2.out (bl1 _ _)
 have N3:=hid (made_p v2 P)
 have LT:Hid (gc<v2.heap.size/\ge<v2.heap.size/\w.heap.size<=v2.heap.size):=⟨U2.out.lt,V2.out.lt,A2.out.size⟩
 go_upto_region 7 with fail
 generalize hW:World.alloc v2 _=V at*
 obtain⟨gl,hb⟩:=aC v2.heap.size
 rw[hb]at N3 LT ⊢
 clear hb hW MP A2 U2 V2
 go_wp2_with fail
 go_loopw [9,10,33] (fun cv ev iv wr=> ∃(k:Nat) (X:Nat->Value),k<=P/\cv=.int .i64 (a k:Nat)/\ev=.int .i64 (z k:Nat)/\iv=.int .i64 (k:Nat)/\Ab w wr/\upR gc N wr/\upR ge M wr/\wr.rowIs gl 39 (P*3) (fun i=>if i<k*3 then X i else .slice none 0 0)/\PsX w.heap.size gl gc ge k a z H X wr) (fun _ _ iv _=>P - (intOf iv).toNat)
 case atStart=>exact⟨0,fun _=>.slice none 0 0,by omega,by rw[Z0.out.1];rfl,by rw[Z0.out.2];rfl,rfl,A3.out,U3.out,V3.out,N3.out.congr (fun i _=>by simp),fun k hk=>by omega⟩
 case round=>
  obtain⟨k,X,hk,rfl,rfl,rfl,ar',u',v',r',p'⟩:=hrel
  have AW:=hid ar'
  have UW:=hid u'
  have VW:=hid v'
  have RW:=hid r'
  have PW:=hid p'
  have HKL:=hid hk
  have kB:(k:Int)<=64:=by have:=HN.out;omega
  clear ar' u' v' r' p' hk A3 U3 V3 N3
  by_cases hkn:k<P
  ·have HK:=hid hkn
   have kI:(k:Int)<P:=by omega
   obtain⟨h1,h2,h3,h4,h5⟩:=HA.out k hkn
   have C1:=hid (fun v b=>CA.out v k b hkn)
   have C2:=hid (fun v b=>CH.out v k gc ge b hkn)
   obtain⟨m,hm⟩:=aC ((k+1)*N)
   have mB:m<=393216:=by rw[<- hm];exact Nat.le_trans (Nat.mul_le_mul (show k+1<=64 by have:=HN.out;omega) (show N<=6144 by omega)) (by decide)
   have mE:((k:Int)+1)*(N:Int)=(m:Int):=by rw[<- hm];simp
   have mI:(m:Int)<=393216:=by omega
   rw[hm]at h1
   obtain⟨x,hx⟩:=aC (a k)
   obtain⟨y,hy⟩:=aC (a (k+1))
   obtain⟨s,hs⟩:=aC (z k)
   obtain⟨r,hr⟩:=aC (z (k+1))
   rw[hx,hy,hs,hr]at C2
   rw[hs,hy,hr]at C1
   rw[hy]at h1 h2 h3
   rw[hr]at h4 h5
   rw[hx]at h2 ⊢
   rw[hs]at h4 ⊢
   have HX:=hid (And.intro hx (And.intro hy (And.intro hs hr)))
   have xy:(x:Int)<=y:=by omega
   have yN:(y:Int)<=N:=by omega
   have sr:(s:Int)<=r:=by omega
   have rM:(r:Int)<=M:=by omega
   have MB:(M:Int)<=12288:=by have:=HN.out;omega
   have dE:(m:Int).tdiv (P:Int)=(y:Int):=by rw[h1,Int.tdiv_eq_ediv_of_nonneg (by omega)];simp
   have pz:((P:Int)==0)=false:=by simp;omega
   clear hm hx hy hs hr h1 h2 h3 h4 h5 mB hkn
   go_wp2_with fail
   refine(C1.out wr AW.out).mono ?_
   rintro e9 v4 ⟨rfl,b4⟩
   have A4:Hid (Ab wr v4):=b4
   clear b4 C1
   have IX:Hid ((if y=x then some (⟨gc,0,none⟩:Addr)else some ⟨gc,x,none⟩)=some ⟨gc,wo x y,none⟩):=by show _=_;unfold wo;split<;>rfl
   have IS:Hid ((if r=s then some (⟨ge,0,none⟩:Addr)else some ⟨ge,s,none⟩)=some ⟨ge,wo s r,none⟩):=by show _=_;unfold wo;split<;>rfl
   have EX:Hid (win gc x y=.slice (some ⟨gc,wo x y,none⟩) (y - x) (y - x)/\win ge s r=.slice (some ⟨ge,wo s r,none⟩) (r - s) (r - s)):=⟨rfl,rfl⟩
   obtain⟨xo,hxo⟩:=aC (wo x y)
   obtain⟨so,hso⟩:=aC (wo s r)
   rw[hxo]at IX EX C2
   rw[hso]at IS EX C2
   clear hxo hso
   have R5:Hid ((v4.alloc (.cells #[.slice (some ⟨gc,xo,none⟩) (y - x) (y - x),.slice (some ⟨ge,so,none⟩) (r - s) (r - s),.slice none 0 0] 39)).drew.heap[v4.heap.size]? =some (.cells #[.slice (some ⟨gc,xo,none⟩) (y - x) (y - x),.slice (some ⟨ge,so,none⟩) (r - s) (r - s),.slice none 0 0] 39)):=heap_alloc_new _ _
   have A5:Hid (Ab wr (v4.alloc (.cells #[.slice (some ⟨gc,xo,none⟩) (y - x) (y - x),.slice (some ⟨ge,so,none⟩) (r - s) (r - s),.slice none 0 0] 39)).drew):=Ab.drew (A4.out.trans (bl1 _ _))
   have L5:Hid (wr.heap.size<=v4.heap.size):=A4.out.size
   go_upto_region 13 with fail
   go_region
   rw[IX.out,IS.out]
   generalize hW:World.drew _=v5 at*
   obtain⟨g,hg⟩:=aC v4.heap.size
   rw[hg]at R5 L5 ⊢
   clear hg hW A4 IX IS
   have x0:=aA 0 R5.out
   have x1:=aA 1 R5.out
   have x2:=aA 2 R5.out
   have C3:=hid (C2.out v5 (AW.out.trans A5.out) (rowIs.ab UW.out A5.out) (rowIs.ab VW.out A5.out))
   clear C2
   go_wp2_with fail
   refine C3.out.mono ?_
   rintro e9 v6 ⟨uh,rfl,b6,o6⟩
   have A6:Hid (Ab wr v6):=A5.out.trans b6
   have B6:Hid (Ab v5 v6):=b6
   obtain⟨hp,hc,rfl⟩:=OwnN.val o6
   have O6:=hid o6
   obtain⟨lh,hlh⟩:=aC ((H k).length)
   rw[hlh]at O6 ⊢
   have LH:=hid hlh
   have R6:=hid (Ab.heap b6 R5.out)
   have L6:Hid (g<v5.heap.size):=lt_of_block R5.out
   clear b6 o6 R5 A5 C3 x0 x1 x2 hlh
   have x2:=aA 2 R6.out
   have f2:=aE R6.out 2
   have R7:Hid ((v6.setCell ⟨g,2,none⟩ (.slice hp lh hc)).heap[g]? =some (.cells #[.slice (some ⟨gc,xo,none⟩) (y - x) (y - x),.slice (some ⟨ge,so,none⟩) (r - s) (r - s),.slice hp lh hc] 39)):=by exact aI (v:=.slice hp lh hc) (k:=2) R6.out
   have A7:Hid (Ab wr (v6.setCell ⟨g,2,none⟩ (.slice hp lh hc))):=A6.out.setk L5.out _
   have O7:Hid (OwnN v5.heap.size (.slice hp lh hc) (H k) (v6.setCell ⟨g,2,none⟩ (.slice hp lh hc))):=O6.out.other _ (fun h=>by have h1:=(O6.out.blk h).1;have h2:=L6.out;omega)
   have S5:Hid (wr.heap.size<=v5.heap.size):=by have h2:=L6.out;have h3:=L5.out;show _<=_;omega
   have NG:Hid (g≠gl/\g≠gc/\g≠ge):=by have h1:=RW.out.lt;have h2:=UW.out.lt;have h3:=VW.out.lt;have h4:=L5.out;exact⟨by omega,by omega,by omega⟩
   go_upto_region 15 with fail
   generalize hW:v6.setCell _ _=v7 at*
   clear hW x2 f2 R6
   have x0:=aA 0 R7.out
   have x1:=aA 1 R7.out
   have x2:=aA 2 R7.out
   have S0:=hid (rowIs.ab RW.out A7.out)
   have S1:=hid (S0.out.set (k*3) (.slice (some ⟨gc,xo,none⟩) (y - x) (y - x)))
   have S2:=hid (S1.out.set (k*3+1) (.slice (some ⟨ge,so,none⟩) (r - s) (r - s)))
   have S3:=hid (S2.out.set (k*3+2) (.slice hp lh hc))
   have k3:k*3<P*3/\k*3+1<P*3/\k*3+2<P*3:=by have:=HK.out;omega
   obtain⟨q1,c1⟩: ∃q,v7.cell? ⟨gl,k*3,none⟩=some q:=⟨_,S0.out.cell k3.1⟩
   obtain⟨q2,c2⟩: ∃q,(v7.setCell ⟨gl,k*3,none⟩ (.slice (some ⟨gc,xo,none⟩) (y - x) (y - x))).cell? ⟨gl,k*3+1,none⟩=some q:=⟨_,S1.out.cell k3.2.1⟩
   obtain⟨q3,c3⟩: ∃q,((v7.setCell ⟨gl,k*3,none⟩ (.slice (some ⟨gc,xo,none⟩) (y - x) (y - x))).setCell ⟨gl,k*3+1,none⟩ (.slice (some ⟨ge,so,none⟩) (r - s) (r - s))).cell? ⟨gl,k*3+2,none⟩=some q:=⟨_,S2.out.cell k3.2.2⟩
   obtain⟨q4,c4⟩: ∃q,v7.cell? ⟨gl,k*3+1,none⟩=some q:=⟨_,S0.out.cell k3.2.1⟩
   obtain⟨q5,c5⟩: ∃q,v7.cell? ⟨gl,k*3+2,none⟩=some q:=⟨_,S0.out.cell k3.2.2⟩
   have f0:=S0.out.frozen (k*3)
   have f1:=S1.out.frozen (k*3+1)
   have f2:=S2.out.frozen (k*3+2)
   have f3:=S0.out.frozen (k*3+1)
   have f4:=S0.out.frozen (k*3+2)
   clear k3
   go_wp2_with fail
   clear x0 x1 x2 c1 c2 c3 c4 c5 f0 f1 f2 f3 f4
   have LG:Hid (w.heap.size<=gl):=LT.out.2.2
   have O8:Hid (OwnN v5.heap.size (.slice hp lh hc) (H k) (((v7.setCell ⟨gl,k*3,none⟩ (.slice (some ⟨gc,xo,none⟩) (y - x) (y - x))).setCell ⟨gl,k*3+1,none⟩ (.slice (some ⟨ge,so,none⟩) (r - s) (r - s))).setCell ⟨gl,k*3+2,none⟩ (.slice hp lh hc))):=by
    have nb:(Value.slice hp lh hc).ownBlock≠some gl:=fun h=>by have h1:=(O7.out.blk h).1;have h2:=S5.out;have h3:=RW.out.lt;omega
    exact((O7.out.other _ nb).other _ nb).other _ nb
   have KP:Hid (∀b,b<wr.heap.size->b≠gl->(((v7.setCell ⟨gl,k*3,none⟩ (.slice (some ⟨gc,xo,none⟩) (y - x) (y - x))).setCell ⟨gl,k*3+1,none⟩ (.slice (some ⟨ge,so,none⟩) (r - s) (r - s))).setCell ⟨gl,k*3+2,none⟩ (.slice hp lh hc)).heap[b]? =wr.heap[b]?):=fun b hb hn=>(aH hn).trans ((aH hn).trans ((aH hn).trans (A7.out.block b hb)))
   have PS:=hid (PW.out.step KP.out O8.out S5.out (by have h1:=AW.out.size;have h2:=S5.out;omega) RW.out.lt UW.out.lt VW.out.lt)
   obtain⟨hx,hy,hs,hr⟩:=HX.out
   have U8:Hid (upR gc N (((v7.setCell ⟨gl,k*3,none⟩ (.slice (some ⟨gc,xo,none⟩) (y - x) (y - x))).setCell ⟨gl,k*3+1,none⟩ (.slice (some ⟨ge,so,none⟩) (r - s) (r - s))).setCell ⟨gl,k*3+2,none⟩ (.slice hp lh hc))):=UW.out.of_block (KP.out gc UW.out.lt (by have:=LT.out;omega))
   have V8:Hid (upR ge M (((v7.setCell ⟨gl,k*3,none⟩ (.slice (some ⟨gc,xo,none⟩) (y - x) (y - x))).setCell ⟨gl,k*3+1,none⟩ (.slice (some ⟨ge,so,none⟩) (r - s) (r - s))).setCell ⟨gl,k*3+2,none⟩ (.slice hp lh hc))):=VW.out.of_block (KP.out ge VW.out.lt (by have:=LT.out;omega))
   have A8:Hid (Ab w (((v7.setCell ⟨gl,k*3,none⟩ (.slice (some ⟨gc,xo,none⟩) (y - x) (y - x))).setCell ⟨gl,k*3+1,none⟩ (.slice (some ⟨ge,so,none⟩) (r - s) (r - s))).setCell ⟨gl,k*3+2,none⟩ (.slice hp lh hc))):=(((AW.out.trans A7.out).setk LG.out _).setk LG.out _).setk LG.out _
   rw[hx,hy,hs,hr,EX.out.1,EX.out.2]at PS
   refine⟨⟨k+1,_,by have:=HK.out;omega,by rw[hy],by rw[hr],by simp,A8.out,U8.out,V8.out,S3.out.congr (fun i hi=> ?_),PS.out⟩,by have:=HK.out;simp[intOf];omega⟩
   by_cases e0:i=k*3
   ·subst e0
    rw[if_neg (by omega),if_neg (by omega),if_pos rfl,if_pos (by omega),if_pos rfl]
   ·by_cases e1:i=k*3+1
    ·subst e1
     rw[if_neg (by omega),if_pos rfl,if_pos (by omega),if_neg (by omega),if_pos rfl]
    ·by_cases e2:i=k*3+2
     ·subst e2
      rw[if_pos rfl,if_pos (by omega),if_neg (by omega),if_neg (by omega),if_pos rfl]
     ·rw[if_neg e2,if_neg e1,if_neg e0,if_neg e0,if_neg e1,if_neg e2]
      by_cases l:i<k*3
      ·rw[if_pos l,if_pos (by omega)]
      ·rw[if_neg l,if_neg (by omega)]
  ·have e6:k=P:=by have:=HKL.out;omega
   subst e6
   go_wp2
   refine bodyPost_ret (v:=.tuple #[.slice (some ⟨gl,0,none⟩) k k,.int .i64 0]) ?_ rfl ?_
   ·simp[results,results5,go_sem]
   ·exact⟨gl,gc,ge,X,rfl,AW.out,RW.out.congr (fun i hi=>if_pos hi),UW.out,VW.out,⟨LT.out.2.2,L1.out,L2.out,by have:=LT.out;omega,by have:=LT.out;omega,NE.out⟩,PW.out⟩
theorem splitC:SplitC:=by
 intro n gb parts w hn g h64
 have n1:=n12 hn
 have n2:6*n*n<=6144:=by
  have h1:6*n<=6*32:=Nat.mul_le_mul_left _ hn.2
  exact Nat.le_trans (Nat.mul_le_mul h1 hn.2) (by decide)
 have n0:0<6*n*n:=Nat.mul_pos (Nat.mul_pos (by decide) hn.1) hn.1
 refine⟨fun hp=> ?_,fun hp=> ?_⟩
 ·obtain⟨P,rfl⟩: ∃P:Nat,parts=(P:Nat):=⟨parts.toNat,by omega⟩
  rw[Int.toNat_natCast]
  have hP:1<=P/\P<=64:=by omega
  refine(split_go gb (6*n*n) (12*n*n) P (cO n P) (eO n P) (hlP n P) w ⟨n0,n2⟩ n1 hP (rE _ _) (by unfold eO;rw[rE];rfl) (hid (fun k hk=> ?_)) (hid (fun v a=>dT (g.to a))) (hid (fun v a=>cY (g.to a))) (hid (fun v m hm=>pW m v hm)) (hid (fun v k a hk=> ?_)) (hid (fun v k gc ge a hk u v'=>halo_at hn hk (g.to a) u v'))).mono ?_
  ·have c1:=iJ (N:=6*n*n) (P:=P) (k:=k+1) (by omega) (by omega)
   exact⟨rfl,cB _ _ _,c1,fI (cB _ _ _),oB hn.1 c1⟩
  ·have c1:=iJ (N:=6*n*n) (P:=P) (k:=k+1) (by omega) (by omega)
   exact ahead_at hn c1 (fI (cB _ _ _)) (g.to a)
  ·rintro e w' ⟨gl,gc,ge,X,rfl,a1,r1,u1,v1,l1,p1⟩
   exact⟨gl,gc,ge,X,rfl,a1,r1,u1,v1,l1,p1⟩
 ·have h:(decide (parts<1)||decide (64<parts))=true:=by simp;omega
  clear h64 n0 n1 n2 hn g
  by_cases q:parts<1
  ·have d1:decide (parts<1)=true:=decide_eq_true q
   go_enter func5,ntmps5
   go_wp2
   refine bodyPost_ret (v:=.tuple #[.slice none 0 0,.int .i64 1]) ?_ rfl ?_
   ·simp[results,results5,go_sem]
   ·exact⟨rfl,Below.refl _ _⟩
  ·have d1:decide (parts<1)=false:=decide_eq_false q
   have d2:decide (64<parts)=true:=decide_eq_true (by omega)
   go_enter func5,ntmps5
   go_wp2
   refine bodyPost_ret (v:=.tuple #[.slice none 0 0,.int .i64 1]) ?_ rfl ?_
   ·simp[results,results5,go_sem]
   ·exact⟨rfl,Below.refl _ _⟩
theorem splitN:SplitN:=by
 intro parts w
 go_enter func5,ntmps5
 go_wp2
 refine bodyPost_ret (v:=.tuple #[.slice none 0 0,.int .i64 2]) ?_ rfl ?_
 ·simp[results,results5,go_sem]
 ·exact⟨rfl,Below.refl _ _⟩
end Spl
end
section
open Go.RowKit
def backB(md:Region.Mode)(ops:Array Oper)(n:Nat):Bool:=
 (List.range n).all fun i=>match ops[i]? with
  | some o=>o.after.all (fun e=> !Region.binds md e||decide (e.on<i))&&(match o.guard with | none=>true | some (j,_)=>decide (j<n))
  | none=>true
def finA(m n:Nat):Array Bool:=Array.replicate n true++Array.replicate (m - n) false
theorem cZ{md:Region.Mode}{ops:Array Oper}{n:Nat}(h:backB md ops n=true){i:Nat}{o:Oper}(hi:i<n)(ho:ops[i]? =some o):
  (∀e ∈ o.after,Region.binds md e=true->e.on<i)/\(∀j b,o.guard=some (j,b)->j<n):=by
 have a:=List.all_eq_true.1 h i (List.mem_range.2 hi)
 simp only[ho,Bool.and_eq_true]at a
 refine⟨fun e he hb=> ?_,fun j b hg=> ?_⟩
 ·have:=Array.all_eq_true_iff_forall_mem.1 a.1 e he
  simpa [hb]using this
 ·have:=a.2
  rw[hg]at this
  simpa using this
theorem mC{l:Array Bool}{i:Nat}(h:i<l.size)(d d':Bool):l.getD i d=l.getD i d':=by simp[h]
theorem dB{P:Program}{md:Region.Mode}{ops:Array Oper}{Q:Exit->Act->World->Prop}: ∀(g k:Nat) (listed:Array Bool) (a:Act) (w:World),wpAny P md ops Q g listed a w->wpAny P md ops Q (g+k) listed a w
 | 0,0,_,_,_,h=>h
 | 0,k+1,listed,a,w,h=>by
  rw[Nat.zero_add]
  exact⟨fun _=>h.2,fun i hi=>by rw[h.1]at hi;cases hi⟩
 | g+1,k,listed,a,w,h=>by
  rw[show g+1+k=(g+k)+1 by omega]
  exact⟨h.1,fun i hi=>wpOp_mono (fun a' w' h'=>dB g k _ a' w' h') (h.2 i hi)⟩
section
variable {P:Program} {md:Region.Mode} {ops hd:Array Oper} {C:World->Prop} {n:Nat}
theorem bN(hhd: ∀i,i<n->hd[i]? =ops[i]?)(hb:backB md ops n=true){listed lh:Array Bool}(hl:lh.size=n)(hls:n<=listed.size)(he: ∀i,i<n->lh.getD i true=listed.getD i true){i:Nat}(hi:i<n):
  i ∈ Region.ready md hd lh ↔ i ∈ Region.ready md ops listed:=by
 rw[mem_ready,mem_ready,he i hi,hhd i hi]
 refine and_congr Iff.rfl (exists_congr fun o=>and_congr_right fun ho=>forall_congr' fun e=>forall_congr' fun hm=>forall_congr' fun hbd=> ?_)
 have lt:=(cZ hb hi ho).1 e hm hbd
 rw[mC (d:=false) (d':=true) (by omega),mC (l:=listed) (d:=false) (d':=true) (by omega),he _ (by omega)]
theorem bO(hsz:n<=ops.size)(hb:backB md ops n=true){listed:Array Bool}(hls:n<=listed.size):
  (∀i,i<n->listed.getD i true=true)\/ ∃i,i<n/\i ∈ Region.ready md ops listed:=by
 have key: ∀k,k<=n->(∀i,i<k->listed.getD i true=true)\/ ∃i,i<n/\i ∈ Region.ready md ops listed:=by
  intro k
  induction k with
  | zero=>exact fun _=>.inl (fun i hi=>by omega)
  | succ k ih=>
   intro hk
   rcases ih (by omega)with h | h
   ·cases c:listed.getD k true
    ·right
     refine⟨k,by omega,mem_ready.2 ⟨c,ops[k]'(by omega),by simp,fun e he hbd=> ?_⟩⟩
     have lt:=(cZ hb (i:=k) (o:=ops[k]'(by omega)) (by omega) (by simp)).1 e he hbd
     rw[mC (d:=false) (d':=true) (by omega)]
     exact h _ lt
    ·left
     intro i hi
     by_cases e:i=k
     ·rw[e];exact c
     ·exact h i (by omega)
   ·exact .inr h
 exact key n (Nat.le_refl _)
theorem qOp_head(hhd: ∀i,i<n->hd[i]? =ops[i]?)(hb:backB md ops n=true){i:Nat}(hi:i<n){K:Act->Prop}{a:Act}(h:qOp P hd C i K a):qOp P ops C i K a:=by
 unfold qOp at*
 rw[hhd i hi]at h
 cases ho:ops[i]? with
 | none=>rw[ho]at h;exact h
 | some o=>
  rw[ho]at h
  have e:Region.wanted o (yielded hd a.tmps)=Region.wanted o (yielded ops a.tmps):=by
   unfold Region.wanted
   cases hg:o.guard with
   | none=>rfl
   | some jb=>
    obtain⟨j,b⟩:=jb
    have lt:=(cZ hb hi ho).2 j b hg
    show(yielded hd a.tmps j==some b)=(yielded ops a.tmps j==some b)
    unfold yielded
    rw[hhd j lt]
  simp only[e]at h
  exact h
theorem eU{listed:Array Bool}(hn:n<ops.size)(inv:HeadInv md ops n listed)(h: ∀i,i<n->listed.getD i true=true):listed=finA ops.size n:=by
 have s:=inv.size
 unfold finA
 refine Array.ext (by simp;omega) fun i h1 h2=> ?_
 by_cases c:i<n
 ·have:=h i c
  rw[Array.getElem_append_left (by simpa using c)]
  simp[h1]at this
  simpa using this
 ·have:=inv.tail i (by omega) (by omega)
  rw[Array.getElem_append_right (by simp;omega)]
  simp[h1]at this
  simpa using this
theorem kA{g:Nat}{Q1:Act->Prop}{Q':Exit->Act->World->Prop}(hhd: ∀i,i<n->hd[i]? =ops[i]?)(hsz:hd.size=n)(hn:n<ops.size)(hb:backB md ops n=true)(hs:Region.sinkB md ops n=true)(hc:Region.chainB md ops n=true)
  (hL: ∀a w,C w->Q1 a->wpAny P md ops Q' g (finA ops.size n) a w):
  ∀(fuel:Nat) (listed lh:Array Bool) (a:Act) (w:World),C w->HeadInv md ops n listed->lh.size=n->(∀i,i<n->lh.getD i true=listed.getD i true)->
   wpAnyQ P md hd C Q1 fuel lh a->wpAny P md ops Q' (fuel+g) listed a w:=by
 intro fuel
 induction fuel with
 | zero=>
  intro listed lh a w hC inv hl he h
  have hls:n<=listed.size:=by rw[inv.size];omega
  rcases bO (by omega) hb hls with all | ⟨i,hi,hr⟩
  ·rw[Nat.zero_add,eU hn inv all]
   exact hL a w hC h.2
  ·have:=(bN hhd hb hl hls he hi).2 hr
   rw[h.1]at this
   cases this
 | succ fuel ih=>
  intro listed lh a w hC inv hl he h
  have hls:n<=listed.size:=by rw[inv.size];omega
  rcases bO (by omega) hb hls with all | ⟨i0,hi0,hr0⟩
  ·have no:Region.ready md hd lh=[]:=by
    rw[List.eq_nil_iff_forall_not_mem]
    intro i hi
    obtain⟨u,o,ho,_⟩:=mem_ready.1 hi
    have lt:i<n:=by rw[<- hsz];exact(Array.getElem?_eq_some_iff.1 ho).1
    rw[he i lt,all i lt]at u
    cases u
   rw[Nat.add_comm (fuel+1) g,eU hn inv all]
   exact dB g (fuel+1) _ a w (hL a w hC (h.1 no))
  ·rw[show fuel+1+g=(fuel+g)+1 by omega]
   refine⟨fun h0=>(by rw[h0]at hr0;cases hr0),fun i hi=> ?_⟩
   have lt:i<n:=by
    by_cases c:i<n
    ·exact c
    ·exact absurd hi (tail_waits hs hc hn inv _ i0 rfl hi0 (mem_ready.1 hr0).1 i (by omega))
   have hq:=qOp_head hhd hb lt (h.2 i ((bN hhd hb hl hls he lt).2 hi))
   refine wpOp_of_qOp hC (fun a' w' hC' h'=>ih _ _ a' w' hC' (inv.set hi lt) (by simp[hl]) (fun j hj=> ?_) h') hq
   by_cases e:i=j
   ·subst e
    simp[hl,lt,show i<listed.size by omega]
   ·rw[getD_set_ne true e,getD_set_ne true e,he j hj]
end
def tailB(ops:Array Oper)(n:Nat):Bool:=
 decide (n<ops.size)&&backB .any ops n&&Region.sinkB .any ops n&&Region.chainB .any ops n&&Region.seqB .any ops (ops.size - n) n (finA ops.size n)
theorem iK{P:Program}{id:Nat}{Q:Exit->Act->World->Prop}{a:Act}{w:World}{l:List Oper}{U:Type}(n:Nat)(F:U->World)(hm:P.follows .mixedOrders=true)(hB:Region.lexB .any (l.take n).toArray=true)(hT:tailB l.toArray n=true)
  (hC: ∃u,w.drew=F u)
  (h:wpQuiet P (l.take n).toArray (fun w'=> ∃u,w'=F u) (fun a'=> ∀w',(∃u,w'=F u)->wpList P l.toArray Q (l.drop n) a' w') (l.take n) a):(Code.region id l.toArray true).wp P Q a w:=by
 simp only[tailB,Bool.and_eq_true,decide_eq_true_eq]at hT
 obtain⟨⟨⟨⟨hn,hb⟩,hs⟩,hc⟩,hq⟩:=hT
 have hn':n<l.length:=by simpa using hn
 have htl:(l.take n).toArray.size=n:=by simp;omega
 have hdl:(l.drop n).length=l.toArray.size - n:=by simp
 refine wp_region_any hm ?_
 simp only[Region.lexB,Bool.and_eq_true]at hB
 have H:=wpAnyQ_lex (P:=P) (C:=fun w'=> ∃u,w'=F u) (md:=.any) hB.1 (l.take n) 0 (Array.replicate (l.take n).toArray.size false) a (by simp) (by simpa using hB.2) h
 have inv0:HeadInv .any l.toArray n (Array.replicate l.toArray.size false):=
  ⟨by simp,fun j oj _ hl=>(by rw[getD_replicate_false]at hl;cases hl),fun t _ ht=>getD_in (by simpa using ht) (getD_replicate_false _ _)⟩
 have:=kA (P:=P) (Q':=Q) (g:=l.toArray.size - n) (hd:=(l.take n).toArray) (ops:=l.toArray) (fun i hi=>by simp[hi]) htl hn hb hs hc
  (fun a' w' hC' h'=>by
   have:=wpAny_of_seq (P:=P) (md:=.any) (ops:=l.toArray) (Q':=Q) (l.drop n) n (finA l.toArray.size n) a' w' (fun j=>by simp) (by rw[hdl];exact hq) (h' w' hC')
   rwa [hdl]at this)
  (l.take n).length _ _ a w.drew hC inv0 (by simpa using htl) (fun i hi=>by
   rw[getD_in (listed:=Array.replicate l.toArray.size false) (by simp;omega) (getD_replicate_false _ _)]
   exact getD_in (by rw[Array.size_replicate];omega) (getD_replicate_false _ _)) H
 have e:(l.take n).length+(l.toArray.size - n)=l.toArray.size:=by simp;omega
 rw[e]at this
 exact this
end
section
open Go.RowKit Tf Cu Go.Deep
attribute [local go_sem] aG
namespace Spl
theorem oC(gb:Nat)(pb pw pt ps:Option Addr)(lb cb lw cw lt ct ls cs:Nat)(sky st:Int)(M N:Nat)(q:Bool)(w:World)
  (hq:(((lb:Int)==(M:Int))=false/\q=false)\/(((lb:Int)==(M:Int))=true/\((lw:Int)==(M:Int))=false/\q=false)\/(((lb:Int)==(M:Int))=true/\((lw:Int)==(M:Int))=true/\((lt:Int)==(M:Int))=false/\q=false)\/(((lb:Int)==(M:Int))=true/\((lw:Int)==(M:Int))=true/\((lt:Int)==(M:Int))=true/\((ls:Int)==(N:Int))=q))
  (CC:Hid (∀v,Ab w v->Calls prog 14 #[(.pointer (some ⟨gb,0,none⟩))] v fun e w'=>e=.returned (.int .i64 (M:Nat))/\Below v.heap.size v w'))
  (CE:Hid (∀v,Ab w v->Calls prog 15 #[(.pointer (some ⟨gb,0,none⟩))] v fun e w'=>e=.returned (.int .i64 (N:Nat))/\Below v.heap.size v w')):
  Calls prog 31 #[(.pointer (some ⟨gb,0,none⟩)),.agg #[.slice pb lb cb,.slice pw lw cw,.slice pt lt ct,.slice ps ls cs,.int .i64 sky,.int .i64 st]] w fun e w'=>e=.returned (.bool q)/\Below w.heap.size w w':=by
 obtain⟨A0,RO⟩:=qF w (.cells #[.slice pb lb cb,.slice pw lw cw,.slice pt lt ct,.slice ps ls cs,.int .i64 sky,.int .i64 st] 45)
 go_enter func31,ntmps31
 go_wp2_with fail
 refine(CC.out _ A0.out).mono ?_
 rintro e9 v1 ⟨rfl,b1⟩
 have A1:Hid (Ab w v1):=A0.out.call b1
 have R1:Hid (v1.heap[w.heap.size]? =some (.cells #[.slice pb lb cb,.slice pw lw cw,.slice pt lt ct,.slice ps ls cs,.int .i64 sky,.int .i64 st] 45)):=Ab.heap b1 RO.out
 clear b1 A0 RO
 go_upto_region 2 with fail
 obtain⟨gs,hgs⟩:=aC w.heap.size
 rw[hgs]at R1 ⊢
 clear hgs
 rcases hq with⟨q1,rfl⟩ | ⟨q1,q2,rfl⟩ | ⟨q1,q2,q3,rfl⟩ | ⟨q1,q2,q3,q4⟩
 ·obtain⟨UU,E,hF1,hF2⟩:=cls v1
  have HU:=hid hF2
  have HU1:=hid hF1
  have HX:Hid (∀u,Ab w (E u)):=fun u=>Ab.trans A1.out (hF1 u)
  have s0: ∀u,(E u).cell? ⟨gs,0,none⟩=some (.slice pb lb cb):=fun u=>aA 0 ((hF1 u).heap R1.out)
  have s1: ∀u,(E u).cell? ⟨gs,1,none⟩=some (.slice pw lw cw):=fun u=>aA 1 ((hF1 u).heap R1.out)
  have s2: ∀u,(E u).cell? ⟨gs,2,none⟩=some (.slice pt lt ct):=fun u=>aA 2 ((hF1 u).heap R1.out)
  have s3: ∀u,(E u).cell? ⟨gs,3,none⟩=some (.slice ps ls cs):=fun u=>aA 3 ((hF1 u).heap R1.out)
  have DD0:=HU.out _ (Ab.refl v1).drew
  clear hF1 hF2
  refine aK E (by kernel_rfl) (by kernel_rfl) DD0 ?_
  repeat(go_big_quiet_step (first
   | (with_reducible rfl)
   | (go_at_call 15;exact aF HU HU1 (CE.out _ (HX.out _)))))
  refine wpQuiet_nil ?_
  intro z hwz
  obtain⟨u0,hu⟩:=hwz
  have AZ:Hid (Ab w z):=by rw[hu];exact HX.out u0
  clear hu u0
  clear HU HU1 HX DD0 s0 s1 s2 s3
  clear E UU
  go_wp2
  go_ret
  exact⟨rfl,AZ.out⟩
 ·obtain⟨UU,E,hF1,hF2⟩:=cls v1
  have HU:=hid hF2
  have HU1:=hid hF1
  have HX:Hid (∀u,Ab w (E u)):=fun u=>Ab.trans A1.out (hF1 u)
  have s0: ∀u,(E u).cell? ⟨gs,0,none⟩=some (.slice pb lb cb):=fun u=>aA 0 ((hF1 u).heap R1.out)
  have s1: ∀u,(E u).cell? ⟨gs,1,none⟩=some (.slice pw lw cw):=fun u=>aA 1 ((hF1 u).heap R1.out)
  have s2: ∀u,(E u).cell? ⟨gs,2,none⟩=some (.slice pt lt ct):=fun u=>aA 2 ((hF1 u).heap R1.out)
  have s3: ∀u,(E u).cell? ⟨gs,3,none⟩=some (.slice ps ls cs):=fun u=>aA 3 ((hF1 u).heap R1.out)
  have DD0:=HU.out _ (Ab.refl v1).drew
  clear hF1 hF2
  refine aK E (by kernel_rfl) (by kernel_rfl) DD0 ?_
  repeat(go_big_quiet_step (first
   | (with_reducible rfl)
   | (go_at_call 15;exact aF HU HU1 (CE.out _ (HX.out _)))))
  refine wpQuiet_nil ?_
  intro z hwz
  obtain⟨u0,hu⟩:=hwz
  have AZ:Hid (Ab w z):=by rw[hu];exact HX.out u0
  clear hu u0
  clear HU HU1 HX DD0 s0 s1 s2 s3
  clear E UU
  go_wp2
  go_ret
  exact⟨rfl,AZ.out⟩
 ·obtain⟨UU,E,hF1,hF2⟩:=cls v1
  have HU:=hid hF2
  have HU1:=hid hF1
  have HX:Hid (∀u,Ab w (E u)):=fun u=>Ab.trans A1.out (hF1 u)
  have s0: ∀u,(E u).cell? ⟨gs,0,none⟩=some (.slice pb lb cb):=fun u=>aA 0 ((hF1 u).heap R1.out)
  have s1: ∀u,(E u).cell? ⟨gs,1,none⟩=some (.slice pw lw cw):=fun u=>aA 1 ((hF1 u).heap R1.out)
  have s2: ∀u,(E u).cell? ⟨gs,2,none⟩=some (.slice pt lt ct):=fun u=>aA 2 ((hF1 u).heap R1.out)
  have s3: ∀u,(E u).cell? ⟨gs,3,none⟩=some (.slice ps ls cs):=fun u=>aA 3 ((hF1 u).heap R1.out)
  have DD0:=HU.out _ (Ab.refl v1).drew
  clear hF1 hF2
  refine aK E (by kernel_rfl) (by kernel_rfl) DD0 ?_
  repeat(go_big_quiet_step (first
   | (with_reducible rfl)
   | (go_at_call 15;exact aF HU HU1 (CE.out _ (HX.out _)))))
  refine wpQuiet_nil ?_
  intro z hwz
  obtain⟨u0,hu⟩:=hwz
  have AZ:Hid (Ab w z):=by rw[hu];exact HX.out u0
  clear hu u0
  clear HU HU1 HX DD0 s0 s1 s2 s3
  clear E UU
  go_wp2
  go_ret
  exact⟨rfl,AZ.out⟩
 ·obtain⟨UU,E,hF1,hF2⟩:=cls v1
  have HU:=hid hF2
  have HU1:=hid hF1
  have HX:Hid (∀u,Ab w (E u)):=fun u=>Ab.trans A1.out (hF1 u)
  have s0: ∀u,(E u).cell? ⟨gs,0,none⟩=some (.slice pb lb cb):=fun u=>aA 0 ((hF1 u).heap R1.out)
  have s1: ∀u,(E u).cell? ⟨gs,1,none⟩=some (.slice pw lw cw):=fun u=>aA 1 ((hF1 u).heap R1.out)
  have s2: ∀u,(E u).cell? ⟨gs,2,none⟩=some (.slice pt lt ct):=fun u=>aA 2 ((hF1 u).heap R1.out)
  have s3: ∀u,(E u).cell? ⟨gs,3,none⟩=some (.slice ps ls cs):=fun u=>aA 3 ((hF1 u).heap R1.out)
  have DD0:=HU.out _ (Ab.refl v1).drew
  clear hF1 hF2
  refine aK E (by kernel_rfl) (by kernel_rfl) DD0 ?_
  repeat(go_big_quiet_step (first
   | (with_reducible rfl)
   | (go_at_call 15;exact aF HU HU1 (CE.out _ (HX.out _)))))
  refine wpQuiet_nil ?_
  intro z hwz
  obtain⟨u0,hu⟩:=hwz
  have AZ:Hid (Ab w z):=by rw[hu];exact HX.out u0
  clear hu u0
  clear HU HU1 HX DD0 s0 s1 s2 s3
  clear E UU
  go_wp2
  go_ret
  exact⟨rfl,AZ.out⟩
theorem kZ(p:Option Addr)(L c N:Nat)(f:Nat->Int)(q:Bool)(w:World)(hL:L<=281474976710656)(hN:N<=12288)(i0:Sh.IsI w p L f)(hq:q=true ↔ wi L f N):Calls prog 32 #[.slice p L c,.int .i64 (N:Nat)] w fun e w'=>e=.returned (.bool q)/\w'=w:=by
 have I0:=hid i0
 have HQ:=hid hq
 have HN:=hid (And.intro hL hN)
 have nB:(N:Int)<=12288:=by omega
 have lB:(L:Int)<=281474976710656:=by omega
 clear i0 hq hL hN
 go_enter func32,ntmps32
 go_wp2
 go_loopw [9] (fun iv wr=> ∃k:Nat,k<=L/\iv=.int .i64 (k:Nat)/\wr=w/\wi k f N) (fun iv _=>L - (intOf iv).toNat)
 case atStart=>exact⟨0,by omega,rfl,by first | trivial | rfl,fun i hi=>by omega⟩
 case round=>
  obtain⟨k,hk,rfl,hw,hi⟩:=hrel
  subst hw
  have HI:=hid hi
  have HKL:=hid hk
  have kB:(k:Int)<=281474976710656:=by have:=HN.out;omega
  clear hi hk
  by_cases hkn:k<L
  ·have HK:=hid hkn
   have kI:(k:Int)<L:=by omega
   obtain⟨b,o,rfl⟩:=I0.out.some0 (show 0<L by omega)
   obtain⟨h1,h2,y1⟩:=I0.out.at0 hkn
   obtain⟨x,hx⟩:=aC (f k)
   rw[hx]at y1 h1
   have HX:=hid hx
   have H1:=hid h1
   clear hx h1 h2 hkn
   by_cases a1:x<0
   ·have d1:decide (x<0)=true:=decide_eq_true a1
    have QF:q=false:=by
     have h:=HQ.out
     cases q
     ·rfl
     ·have:=(h.1 rfl) k HK.out
      rw[HX.out]at this
      omega
    subst QF
    clear a1
    go_wp2
    go_ret
    first | exact⟨rfl,rfl⟩ | exact rfl
   ·have d1:decide (x<0)=false:=decide_eq_false a1
    by_cases a2:x<N
    ·have d2:decide (x≥(N:Int))=false:=decide_eq_false (by omega)
     have d3: ¬(N:Int)<=x:=by omega
     have HS:Hid (wi (k+1) f N):=fun i hi=>by
      by_cases e:i=k
      ·subst e;rw[HX.out];omega
      ·exact HI.out i (by omega)
     clear a1 a2
     go_wp2_with fail
     exact⟨⟨k+1,by have:=HK.out;omega,by simp,by first | trivial | rfl,HS.out⟩,by have:=HK.out;simp[intOf];omega⟩
    ·have d2:decide (x≥(N:Int))=true:=decide_eq_true (by omega)
     have d3:(N:Int)<=x:=by omega
     have QF:q=false:=by
      have h:=HQ.out
      cases q
      ·rfl
      ·have:=(h.1 rfl) k HK.out
       rw[HX.out]at this
       omega
     subst QF
     clear a1 a2
     go_wp2
     go_ret
     first | exact⟨rfl,rfl⟩ | exact rfl
  ·have e6:k=L:=by have:=HKL.out;omega
   subst e6
   have QT:q=true:=HQ.out.2 HI.out
   subst QT
   go_wp2
   go_ret
   first | exact⟨rfl,rfl⟩ | exact rfl
theorem fl_at0{w:World}{b o len k:Nat}{xs:Nat->Nat}(h:IsFl w (some ⟨b,o,none⟩) len xs)(hk:k<len):w.cell? ⟨b,o+k,none⟩=some (.float .f64 (xs k)):=by
 obtain⟨h1,b',o',h2,h3,h4⟩:=h k hk
 cases h2
 exact h4
def hsF(ln:Nat->Nat)(C:Nat->Nat->Int)(J c:Nat):Bool:=(List.range J).any fun j=>hs (ln j) (C j) c
theorem oD(ln:Nat->Nat)(C:Nat->Nat->Int)(J c:Nat):hsF ln C (J+1) c=(hsF ln C J c||hs (ln J) (C J) c):=by
 unfold hsF;rw[List.range_succ,List.any_append];simp
theorem rG(f:Nat->Int)(K c:Nat):hs (K+1) f c=(hs K f c||f K==(c:Int)):=by
 unfold hs;rw[List.range_succ,List.any_append];simp
theorem rH(f:Nat->Int)(c:Nat):hs 0 f c=false:=rfl
def Plc(w:World)(gp np N:Nat)(pl:Nat->Option Addr)(ln cp:Nat->Nat)(C:Nat->Nat->Int):Prop:= ∀j,j<np->ln j<=281474976710656/\w.cell? ⟨gp,j,none⟩=some (.slice (pl j) (ln j) (cp j))/\gp<w.heap.size/\Sh.IsI w (pl j) (ln j) (C j)/\wi (ln j) (C j) N
theorem Plc.to{w w':World}{gp np N:Nat}{pl:Nat->Option Addr}{ln cp:Nat->Nat}{C:Nat->Nat->Int}(h:Plc w gp np N pl ln cp C)(a:Ab w w'):Plc w' gp np N pl ln cp C:=fun j hj=>by
 obtain⟨h1,h2,h3,h4,h5⟩:=h j hj
 exact⟨h1,(Below.cell a h3).trans h2,Nat.lt_of_lt_of_le h3 a.size,h4.below a,h5⟩
theorem infoF22:(Tryd.prog.info? 66).map (fun i=>(i.zero,i.size,i.bytes))=some (some (.float .f64 0),1,8):=by kernel_rfl
theorem infoI22:(Tryd.prog.info? 2).map (fun i=>(i.zero,i.size,i.bytes))=some (some (.int .i64 0),1,8):=by kernel_rfl
theorem oE(gp np N qb ob cb:Nat)(pl:Nat->Option Addr)(ln cp:Nat->Nat)(C:Nat->Nat->Int)(B:Nat->Nat)(w:World)(hN:0<N/\N<=12288)(hp:np<=2)(PL:Hid (Plc w gp np N pl ln cp C))(IB:Hid (IsFl w (some ⟨qb,ob,none⟩) N B)):
  Calls prog 33 #[.slice (some ⟨qb,ob,none⟩) N cb,.slice (some ⟨gp,0,none⟩) np np] w fun e w'=> ∃b,e=.returned (.slice (some ⟨b,0,none⟩) N N)/\Ab w w'/\w.heap.size<=b/\w'.rowIs b 66 N (fun i=>.float .f64 (if hsF ln C np i=true then B i else 0)):=by
 have M2: ∀v:World,(Instr.makeSlice 42 (.int .i64 (N:Nat)) (.int .i64 (N:Nat))).run prog v=.ok (.slice (some ⟨v.heap.size,0,none⟩) N N) (v.alloc (Obj.cells (madeCells #[.float .f64 0] N) 66)):=fun v=>run_make_row' (P:=prog) 42 66 (.float .f64 0) 8 underlying42 infoF22 rfl .i64 .i64 N (by omega) (by omega) v
 have HN:=hid (And.intro hN hp)
 have nB:(N:Int)<=12288:=by omega
 have pB:(np:Int)<=2:=by omega
 clear hN hp
 have A1:=gQ (bl1 w (Obj.cells (madeCells #[.float .f64 0] N) 66))
 have N1:Hid ((w.alloc (Obj.cells (madeCells #[.float .f64 0] N) 66)).rowIs w.heap.size 66 N (fun _=>.float .f64 0)):=bV (heap_alloc_new _ _)
 go_enter func33,ntmps33
 go_upto_region 2 with fail
 generalize hW:World.alloc w _=V1 at*
 obtain⟨b,hb⟩:=aC w.heap.size
 have LE:Hid (w.heap.size<=b):=by show _<=_;omega
 rw[hb]at N1 ⊢
 clear hb hW M2
 go_wp2
 go_loopw [15] (fun iv wr=> ∃j:Nat,j<=np/\iv=.int .i64 (j:Nat)/\Ab w wr/\wr.rowIs b 66 N (fun i=>.float .f64 (if hsF ln C j i=true then B i else 0))) (fun iv _=>np - (intOf iv).toNat)
 case atStart=>exact⟨0,by omega,rfl,A1.out,N1.out.congr (fun i _=>by simp[hsF])⟩
 case round=>
  obtain⟨j,hj,rfl,ar',r2⟩:=hrel
  have AW:=hid ar'
  have P2:=hid r2
  have HJL:=hid hj
  have jB:(j:Int)<=2:=by have:=HN.out;omega
  clear ar' r2 N1 A1 hj
  by_cases hjn:j<np
  ·have HJ:=hid hjn
   have jI:(j:Int)<np:=by omega
   obtain⟨l1,_,_,il,wl⟩:=PL.out j hjn
   have y1:=(PL.out.to AW.out j hjn).2.1
   have IL:=hid il
   have WL:=hid wl
   have SF:=hid (fun c=>oD ln C j c)
   obtain⟨p,hp⟩:=aC (pl j)
   obtain⟨L,hL⟩:=aC (ln j)
   obtain⟨cc,hcc⟩:=aC (cp j)
   obtain⟨f,hf⟩:=aC (C j)
   rw[hL]at l1 y1 IL WL SF
   rw[hp]at y1 IL
   rw[hcc]at y1
   rw[hf]at IL WL SF
   have lB:(L:Int)<=281474976710656:=by omega
   have HL:=hid l1
   clear hp hL hcc hf il wl hjn l1
   go_wp2_with fail
   rename World=>wq
   go_loopw [21] (fun iv wr=> ∃k:Nat,k<=L/\iv=.int .i64 (k:Nat)/\Ab w wr/\wr.rowIs b 66 N (fun i=>.float .f64 (if(hsF ln C j i||hs k f i)=true then B i else 0))) (fun iv _=>L - (intOf iv).toNat)
   case atStart=>exact⟨0,by omega,rfl,AW.out,P2.out.congr (fun i _=>by simp[rH])⟩
   case round=>
    obtain⟨k,hk,rfl,ar',r2⟩:=hrel
    have AX:=hid ar'
    have P3:=hid r2
    have I3:=hid (IL.out.below AX.out)
    have HKL:=hid hk
    have kB:(k:Int)<=281474976710656:=by have:=HL.out;omega
    clear ar' r2 AW P2 y1 hk
    by_cases hkn:k<L
    ·have HK:=hid hkn
     have kI:(k:Int)<L:=by omega
     have SK:=hid (fun c=>rG f k c)
     obtain⟨pb,po,e9⟩:=I3.out.some0 (show 0<L by omega)
     subst e9
     obtain⟨h1,h2,y1⟩:=I3.out.at0 hkn
     have hx:=WL.out k hkn
     obtain⟨x,hx2⟩: ∃x:Nat,f k=(x:Nat):=⟨(f k).toNat,by omega⟩
     rw[hx2]at y1 hx SK
     have xI:(x:Int)<N:=hx.2
     have xN:x<N:=by omega
     have yb:wr.cell? ⟨qb,ob+x,none⟩=some (.float .f64 (B x)):=(fl_at0 (IB.out.below AX.out) xN)
     have z1:=P3.out.cell xN
     have z2:=P3.out.frozen x
     obtain⟨u,hu⟩:=aC (B x)
     rw[hu]at yb
     have HU:=hid hu
     clear h1 h2 hx hx2 xN hu hkn
     go_wp2_with fail
     refine⟨⟨k+1,by have:=HK.out;omega,by simp,AX.out.setk LE.out _,(P3.out.set x _).congr (fun i _=> ?_)⟩,by have:=HK.out;simp[intOf];omega⟩
     rw[SK.out i]
     by_cases e:i=x
     ·subst e;simp[HU.out]
     ·have e2:((x:Int)==(i:Int))=false:=by simp;omega
      rw[e2]
      simp[e]
    ·have e6:k=L:=by have:=HKL.out;omega
     subst e6
     go_wp2_with fail
     refine⟨⟨j+1,by have:=HJ.out;omega,by simp,AX.out,P3.out.congr (fun i _=>by rw[SF.out i])⟩,by have:=HJ.out;simp[intOf];omega⟩
  ·have e6:j=np:=by have:=HJL.out;omega
   subst e6
   go_wp2
   go_ret
   exact⟨b,rfl,AW.out,LE.out,P2.out⟩
theorem oG(gp np N qb ob cb:Nat)(pl:Nat->Option Addr)(ln cp:Nat->Nat)(C:Nat->Nat->Int)(B:Nat->Int)(w:World)(hN:0<N/\N<=12288)(hp:np<=2)(PL:Hid (Plc w gp np N pl ln cp C))(IB:Hid (Sh.IsI w (some ⟨qb,ob,none⟩) N B)):
  Calls prog 34 #[.slice (some ⟨qb,ob,none⟩) N cb,.slice (some ⟨gp,0,none⟩) np np] w fun e w'=> ∃b,e=.returned (.slice (some ⟨b,0,none⟩) N N)/\Ab w w'/\w.heap.size<=b/\w'.rowIs b 2 N (fun i=>.int .i64 (if hsF ln C np i=true then B i else 0)):=by
 have M2: ∀v:World,(Instr.makeSlice 43 (.int .i64 (N:Nat)) (.int .i64 (N:Nat))).run prog v=.ok (.slice (some ⟨v.heap.size,0,none⟩) N N) (v.alloc (Obj.cells (madeCells #[.int .i64 0] N) 2)):=fun v=>run_make_row' (P:=prog) 43 2 (.int .i64 0) 8 underlying43 infoI22 rfl .i64 .i64 N (by omega) (by omega) v
 have HN:=hid (And.intro hN hp)
 have nB:(N:Int)<=12288:=by omega
 have pB:(np:Int)<=2:=by omega
 clear hN hp
 have A1:=gQ (bl1 w (Obj.cells (madeCells #[.int .i64 0] N) 2))
 have N1:Hid ((w.alloc (Obj.cells (madeCells #[.int .i64 0] N) 2)).rowIs w.heap.size 2 N (fun _=>.int .i64 0)):=bV (heap_alloc_new _ _)
 go_enter func34,ntmps34
 go_upto_region 2 with fail
 generalize hW:World.alloc w _=V1 at*
 obtain⟨b,hb⟩:=aC w.heap.size
 have LE:Hid (w.heap.size<=b):=by show _<=_;omega
 rw[hb]at N1 ⊢
 clear hb hW M2
 go_wp2
 go_loopw [15] (fun iv wr=> ∃j:Nat,j<=np/\iv=.int .i64 (j:Nat)/\Ab w wr/\wr.rowIs b 2 N (fun i=>.int .i64 (if hsF ln C j i=true then B i else 0))) (fun iv _=>np - (intOf iv).toNat)
 case atStart=>exact⟨0,by omega,rfl,A1.out,N1.out.congr (fun i _=>by simp[hsF])⟩
 case round=>
  obtain⟨j,hj,rfl,ar',r2⟩:=hrel
  have AW:=hid ar'
  have P2:=hid r2
  have HJL:=hid hj
  have jB:(j:Int)<=2:=by have:=HN.out;omega
  clear ar' r2 N1 A1 hj
  by_cases hjn:j<np
  ·have HJ:=hid hjn
   have jI:(j:Int)<np:=by omega
   obtain⟨l1,_,_,il,wl⟩:=PL.out j hjn
   have y1:=(PL.out.to AW.out j hjn).2.1
   have IL:=hid il
   have WL:=hid wl
   have SF:=hid (fun c=>oD ln C j c)
   obtain⟨p,hp⟩:=aC (pl j)
   obtain⟨L,hL⟩:=aC (ln j)
   obtain⟨cc,hcc⟩:=aC (cp j)
   obtain⟨f,hf⟩:=aC (C j)
   rw[hL]at l1 y1 IL WL SF
   rw[hp]at y1 IL
   rw[hcc]at y1
   rw[hf]at IL WL SF
   have lB:(L:Int)<=281474976710656:=by omega
   have HL:=hid l1
   clear hp hL hcc hf il wl hjn l1
   go_wp2_with fail
   rename World=>wq
   go_loopw [21] (fun iv wr=> ∃k:Nat,k<=L/\iv=.int .i64 (k:Nat)/\Ab w wr/\wr.rowIs b 2 N (fun i=>.int .i64 (if(hsF ln C j i||hs k f i)=true then B i else 0))) (fun iv _=>L - (intOf iv).toNat)
   case atStart=>exact⟨0,by omega,rfl,AW.out,P2.out.congr (fun i _=>by simp[rH])⟩
   case round=>
    obtain⟨k,hk,rfl,ar',r2⟩:=hrel
    have AX:=hid ar'
    have P3:=hid r2
    have I3:=hid (IL.out.below AX.out)
    have HKL:=hid hk
    have kB:(k:Int)<=281474976710656:=by have:=HL.out;omega
    clear ar' r2 AW P2 y1 hk
    by_cases hkn:k<L
    ·have HK:=hid hkn
     have kI:(k:Int)<L:=by omega
     have SK:=hid (fun c=>rG f k c)
     obtain⟨pb,po,e9⟩:=I3.out.some0 (show 0<L by omega)
     subst e9
     obtain⟨h1,h2,y1⟩:=I3.out.at0 hkn
     have hx:=WL.out k hkn
     obtain⟨x,hx2⟩: ∃x:Nat,f k=(x:Nat):=⟨(f k).toNat,by omega⟩
     rw[hx2]at y1 hx SK
     have xI:(x:Int)<N:=hx.2
     have xN:x<N:=by omega
     have yb:wr.cell? ⟨qb,ob+x,none⟩=some (.int .i64 (B x)):=((IB.out.below AX.out).at0 xN).2.2
     have z1:=P3.out.cell xN
     have z2:=P3.out.frozen x
     obtain⟨u,hu⟩:=aC (B x)
     rw[hu]at yb
     have HU:=hid hu
     clear h1 h2 hx hx2 xN hu hkn
     go_wp2_with fail
     refine⟨⟨k+1,by have:=HK.out;omega,by simp,AX.out.setk LE.out _,(P3.out.set x _).congr (fun i _=> ?_)⟩,by have:=HK.out;simp[intOf];omega⟩
     rw[SK.out i]
     by_cases e:i=x
     ·subst e;simp[HU.out]
     ·have e2:((x:Int)==(i:Int))=false:=by simp;omega
      rw[e2]
      simp[e]
    ·have e6:k=L:=by have:=HKL.out;omega
     subst e6
     go_wp2_with fail
     refine⟨⟨j+1,by have:=HJ.out;omega,by simp,AX.out,P3.out.congr (fun i _=>by rw[SF.out i])⟩,by have:=HJ.out;simp[intOf];omega⟩
  ·have e6:j=np:=by have:=HJL.out;omega
   subst e6
   go_wp2
   go_ret
   exact⟨b,rfl,AW.out,LE.out,P2.out⟩
end Spl
end
end Go.Proofs.YtilfdnipahabbaaDoor
