/-
  Some of the texts of this proof, one behind the other.
-/
import Derived.Deep.QuietTactic
import Derived.Test.YtjheiemgfibgpaaDoorUf07
set_option maxRecDepth 100000
set_option maxHeartbeats 400000000
namespace Go.Proofs.YtjheiemgfibgpaaDoor
open _root_.Go.Proofs.Tryd
section
open Go.RowKit Tf Cu Go.Deep
namespace Spl
theorem qN(m:Nat)(w:World)(hm:m<=12288):Calls prog 31 #[.int .i64 (m:Nat)] w fun e w'=> ∃b,e=.returned (.slice (some ⟨b,0,none⟩) m m)/\Ab w w'/\w.heap.size<=b/\upR b m w':=by
 have M2: ∀v:World,(Instr.makeSlice 32 (.int .i64 (m:Nat)) (.int .i64 (m:Nat))).run prog v=.ok (.slice (some ⟨v.heap.size,0,none⟩) m m) (v.alloc (Obj.cells (madeCells #[.int .i64 0] m) 3)):=fun v=>run_make_row' (P:=prog) 32 3 (.int .i64 0) 8 underlying32 infoN rfl .i64 .i64 m (by omega) (by omega) v
 have HN:=hid hm
 have nB:(m:Int)<=12288:=by omega
 clear hm
 have A1:=kZ (bl1 w (Obj.cells (madeCells #[.int .i64 0] m) 3))
 have N1:Hid ((w.alloc (Obj.cells (madeCells #[.int .i64 0] m) 3)).rowIs w.heap.size 3 m (fun _=>.int .i64 0)):=bX (heap_alloc_new _ _)
 go_enter func31,ntmps31
 go_upto_region 2 with fail
 generalize hW:World.alloc w _=V1 at*
 obtain⟨b,hb⟩:=aB w.heap.size
 have LE:Hid (w.heap.size<=b):=by show _<=_;omega
 rw[hb]at N1 ⊢
 clear hb hW M2
 go_wp2
 go_loopw [9] (fun iv wr=> ∃k:Nat,k<=m/\iv=.int .i64 (k:Nat)/\Ab w wr/\wr.rowIs b 3 m (fun i=>.int .i64 (if i<k then(i:Int)else 0))) (fun iv _=>m - (intOf iv).toNat)
 case atStart=>exact⟨0,by omega,rfl,A1.out,N1.out.congr (fun i _=>by simp)⟩
 case round=>
  obtain⟨k,hk,rfl,ar',r2⟩:=hrel
  have AW:=hid ar'
  have P2:=hid r2
  clear ar' r2 N1 A1
  by_cases hkn:k<m
  ·have HK:=hid hkn
   have kI:(k:Int)<m:=by omega
   have kB:(k:Int)<=12288:=by omega
   have z1:=P2.out.cell hkn
   have z2:=P2.out.frozen k
   clear hk hkn
   go_wp2_with fail
   refine⟨⟨k+1,by have:=HK.out;omega,by simp,AW.out.setk LE.out _,(P2.out.set k _).congr (fun i _=> ?_)⟩,by have:=HK.out;simp[intOf];omega⟩
   by_cases e:i=k
   ·subst e;simp
   ·have e2:(i<k+1) ↔ i<k:=by omega
    simp[e,e2]
  ·have e6:m=k:=by omega
   subst e6
   go_wp2
   go_ret
   exact⟨b,rfl,AW.out,LE.out,P2.out.congr (fun i hi=>by simp[hi])⟩
def rt(n e:Nat):Nat:=bsC n (edT n e/4) (edT n e%4)
theorem edge22{n gb e:Nat}{w:World}(hn:1<=n/\n<=32)(he:e<12*n*n)(g:GridOf n gb w):
  Calls prog 35 #[.pointer (some ⟨gb,0,none⟩),.int .i64 (e:Nat)] w fun r w'=>r=.returned (.tuple #[.agg #[.int .i64 (lf n e:Nat),.int .i64 (edT n e%4:Nat),.int .i64 (rt n e:Nat),.int .i64 (bsS n (edT n e/4) (edT n e%4):Nat)],.bool true])/\Below w.heap.size w w':=by
 obtain⟨h1,h2,h3⟩:=bW hn.1 he
 have h:=gEdge_ok hn h1 h2 g
 rw[h3]at h
 exact h
theorem ahead_go(gb M L c a:Nat)(lfF s1F rtF s2F:Nat->Nat)(w:World)(hM:M<=12288)(hL:L<=M)(ha:a<=L)(hc:c<=12288)
  (CE:Hid (∀v,Ab w v->Calls prog 32 #[.pointer (some ⟨gb,0,none⟩)] v fun e w'=>e=.returned (.int .i64 (M:Nat))/\w'=v))
  (CG:Hid (∀v (k:Nat),Ab w v->k<M->Calls prog 35 #[.pointer (some ⟨gb,0,none⟩),.int .i64 (k:Nat)] v fun e w'=>e=.returned (.tuple #[.agg #[.int .i64 (lfF k:Nat),.int .i64 (s1F k:Nat),.int .i64 (rtF k:Nat),.int .i64 (s2F k:Nat)],.bool true])/\Below v.heap.size v w'))
  (CL:Hid (∀k,k<M->(lfF k<c ↔ k<L))):
  Calls prog 33 #[.pointer (some ⟨gb,0,none⟩),.int .i64 (a:Nat),.int .i64 (c:Nat)] w fun e w'=>e=.returned (.int .i64 (L:Nat))/\Ab w w':=by
 have HN:=hid (And.intro hM (And.intro hL (And.intro ha hc)))
 have nB:(M:Int)<=12288:=by omega
 have A1:=hid (Ab.refl w)
 clear hM hL ha hc
 go_enter func33,ntmps33
 go_wp2
 go_loopw [1] (fun iv wr=> ∃k:Nat,k<=L/\iv=.int .i64 (k:Nat)/\Ab w wr) (fun iv _=>M - (intOf iv).toNat)
 case atStart=>exact⟨a,by have:=HN.out;omega,rfl,A1.out⟩
 case round=>
  obtain⟨k,hk,rfl,ar'⟩:=hrel
  have AW:=hid ar'
  have HKL:=hid hk
  have kB:(k:Int)<=12288:=by have:=HN.out;omega
  clear ar' A1 hk
  go_wp2_with fail
  refine(CE.out wr AW.out).mono ?_
  rintro e9 v1 ⟨rfl,hw⟩
  have hw2:=hw.symm
  subst hw2
  by_cases hkn:k<M
  ·have HK:=hid hkn
   have kI:(k:Int)<M:=by omega
   have C2:=hid (CG.out wr k AW.out hkn)
   have C3:=hid (CL.out k hkn)
   obtain⟨x,hx⟩:=aB (lfF k)
   obtain⟨s1,hs1⟩:=aB (s1F k)
   obtain⟨y,hy⟩:=aB (rtF k)
   obtain⟨s2,hs2⟩:=aB (s2F k)
   rw[hx,hs1,hy,hs2]at C2
   rw[hx]at C3
   clear hx hs1 hy hs2 hkn
   go_wp2_with fail
   refine C2.out.mono ?_
   rintro e9 v4 ⟨rfl,b4⟩
   have A4:Hid (Ab w v4):=AW.out.trans b4
   clear b4 C2 AW
   have R5:=hid (heap_alloc_new v4 (.cells #[.int .i64 (x:Nat),.int .i64 (s1:Nat),.int .i64 (y:Nat),.int .i64 (s2:Nat)] 71))
   have A5:Hid (Ab w (v4.alloc (.cells #[.int .i64 (x:Nat),.int .i64 (s1:Nat),.int .i64 (y:Nat),.int .i64 (s2:Nat)] 71))):=A4.out.trans (bl1 _ _)
   go_upto_region 3 with fail
   generalize hW:World.alloc v4 _=v5 at*
   obtain⟨g,hg⟩:=aB v4.heap.size
   rw[hg]at R5 ⊢
   clear hg hW A4
   have x0:=aA 0 R5.out
   by_cases hl:x<c
   ·have d:decide ((x:Int)≥(c:Int))=false:=decide_eq_false (by omega)
    have d2:decide (x≥c)=false:=decide_eq_false (by omega)
    have d3: ¬c<=x:=by omega
    have HL:=hid (C3.out.1 hl)
    clear hl
    go_wp2_with fail
    exact⟨⟨k+1,HL.out,by simp,A5.out⟩,by have:=HK.out;simp[intOf];omega⟩
   ·have d:decide ((x:Int)≥(c:Int))=true:=decide_eq_true (by omega)
    have d2:decide (x≥c)=true:=decide_eq_true (by omega)
    have d3:c<=x:=by omega
    have e6:L=k:=by
     have h1:=C3.out
     have h2:=HKL.out
     rcases Nat.lt_or_ge k L with q | q
     ·exact absurd (h1.2 q) hl
     ·omega
    subst e6
    clear hl
    go_wp2
    go_ret
    exact⟨rfl,A5.out⟩
  ·have e6:M=k:=by have:=HN.out;have:=HKL.out;omega
   subst e6
   have e7:L=M:=by have:=HN.out;have:=HKL.out;omega
   subst e7
   go_wp2
   go_ret
   exact⟨rfl,AW.out⟩
theorem ahead_at{n gb a c:Nat}{w:World}(hn:1<=n/\n<=32)(hc:c<=6*n*n)(ha:a<=eB n c)(g:GridOf n gb w):
  Calls prog 33 #[.pointer (some ⟨gb,0,none⟩),.int .i64 (a:Nat),.int .i64 (c:Nat)] w fun e w'=>e=.returned (.int .i64 (eB n c:Nat))/\Ab w w':=by
 have n1:=n12 hn
 have n2:6*n*n<=12*n*n:=Nat.mul_le_mul_right _ (Nat.mul_le_mul_right _ (by decide))
 exact ahead_go gb (12*n*n) (eB n c) c a (lf n) (fun e=>edT n e%4) (rt n) (fun e=>bsS n (edT n e/4) (edT n e%4)) w n1 (kP hn.1 hc) ha (by omega) (hid (fun v b=>cT (g.to b))) (hid (fun v k b hk=>edge22 hn hk (g.to b))) (hid (fun k hk=>lf_lt hn.1 hk))
end Spl
end
section
open Go.RowKit Tf Cu Go.Deep
namespace Spl
def mk4(x y a b eI:Nat->Nat)(K c:Nat):Bool:=(List.range K).any fun i=>c==x (eI i)||c==y (eI i)||c==a (eI i)||c==b (eI i)
def ow(cI:Nat->Nat)(K c:Nat):Bool:=(List.range K).any fun i=>c==cI i
theorem mk4_step(x y a b eI:Nat->Nat)(K c:Nat):mk4 x y a b eI (K+1) c=(mk4 x y a b eI K c||(c==x (eI K)||c==y (eI K)||c==a (eI K)||c==b (eI K))):=by
 unfold mk4;rw[List.range_succ,List.any_append];simp
theorem ow_step(cI:Nat->Nat)(K c:Nat):ow cI (K+1) c=(ow cI K c||c==cI K):=by
 unfold ow;rw[List.range_succ,List.any_append];simp
theorem infoB:(Tryd.prog.info? 4).map (fun i=>(i.zero,i.size,i.bytes))=some (some (.bool false),1,1):=by kernel_rfl
theorem tM(q:Nat->Bool)(k:Nat):(List.range (k+1)).filter q=(List.range k).filter q++(if q k=true then [k]else []):=by
 rw[List.range_succ,List.filter_append]
 cases h:q k<;>simp[h]
theorem halo_go(gb N M qc oc lc cc qe oe le ce:Nat)(cI eI:Nat->Nat)(lfF s1F rtF s2F bl br:Nat->Nat)(w:World)(hN:0<N/\N<=6144)(hM:M<=12288)(hl:lc<=12288/\le<=12288)
  (IC:Hid (Sh.IsI w (some ⟨qc,oc,none⟩) lc (fun i=>((cI i:Nat):Int)))) (IE:Hid (Sh.IsI w (some ⟨qe,oe,none⟩) le (fun i=>((eI i:Nat):Int))))
  (HC:Hid (∀i,i<lc->cI i<N)) (HE:Hid (∀i,i<le->eI i<M)) (HB:Hid (∀k,k<M->lfF k<N/\rtF k<N/\bl k<N/\br k<N))
  (CC:Hid (∀v,Ab w v->Calls prog 9 #[.pointer (some ⟨gb,0,none⟩)] v fun e w'=>e=.returned (.int .i64 (N:Nat))/\w'=v))
  (CG:Hid (∀v (k:Nat),Ab w v->k<M->Calls prog 35 #[.pointer (some ⟨gb,0,none⟩),.int .i64 (k:Nat)] v fun e w'=>e=.returned (.tuple #[.agg #[.int .i64 (lfF k:Nat),.int .i64 (s1F k:Nat),.int .i64 (rtF k:Nat),.int .i64 (s2F k:Nat)],.bool true])/\Below v.heap.size v w'))
  (CB:Hid (∀v (k:Nat),Ab w v->k<M->Calls prog 36 #[.pointer (some ⟨gb,0,none⟩),.int .i64 (k:Nat)] v fun e w'=>e=.returned (.tuple #[.int .i64 (bl k:Nat),.int .i64 (br k:Nat),.bool true])/\Below v.heap.size v w')):
  Calls prog 34 #[.pointer (some ⟨gb,0,none⟩),.agg #[.slice (some ⟨qc,oc,none⟩) lc cc,.slice (some ⟨qe,oe,none⟩) le ce,.slice none 0 0]] w fun e w'=> ∃v,e=.returned v/\Ab w w'/\OwnN w.heap.size v ((List.range N).filter fun c=>mk4 lfF rtF bl br eI le c&& !ow cI lc c) w':=by
 have M2: ∀v:World,(Instr.makeSlice 31 (.int .i64 (N:Nat)) (.int .i64 (N:Nat))).run prog v=.ok (.slice (some ⟨v.heap.size,0,none⟩) N N) (v.alloc (Obj.cells (madeCells #[.bool false] N) 4)):=fun v=>run_make_row' (P:=prog) 31 4 (.bool false) 1 underlying31 infoB rfl .i64 .i64 N (by omega) (by omega) v
 have HN:=hid (And.intro hN (And.intro hM hl))
 have nB:(N:Int)<=6144:=by omega
 have lB:(lc:Int)<=12288:=by omega
 have mB:(le:Int)<=12288:=by omega
 clear hN hM hl
 obtain⟨A0,Q0⟩:=dT w (.cells #[.slice (some ⟨qc,oc,none⟩) lc cc,.slice (some ⟨qe,oe,none⟩) le ce,.slice none 0 0] 34)
 go_enter func34,ntmps34
 go_upto_region 1 with fail
 generalize hW:World.alloc w _=V0 at*
 obtain⟨ga,hga⟩:=aB w.heap.size
 have LA:Hid (w.heap.size<=ga/\ga<V0.heap.size):=by have h1:=lt_of_block Q0.out;show _/\_;omega
 have HG:=hid hga
 rw[hga]at Q0 ⊢
 clear hga hW
 go_wp2_with fail
 refine(CC.out V0 A0.out).mono ?_
 rintro e9 v1 ⟨rfl,hw⟩
 have hw2:=hw.symm
 subst hw2
 have A1:Hid (Ab w (V0.alloc (Obj.cells (madeCells #[.bool false] N) 4))):=A0.out.trans (bl1 _ _)
 have Q1:Hid ((V0.alloc (Obj.cells (madeCells #[.bool false] N) 4)).heap[ga]? =some (.cells #[.slice (some ⟨qc,oc,none⟩) lc cc,.slice (some ⟨qe,oe,none⟩) le ce,.slice none 0 0] 34)):=Ab.heap (bl1 _ _) Q0.out
 have N1:Hid ((V0.alloc (Obj.cells (madeCells #[.bool false] N) 4)).rowIs V0.heap.size 4 N (fun _=>.bool false)):=bX (heap_alloc_new _ _)
 go_upto_region 2 with fail
 generalize hW:World.alloc V0 _=V1 at*
 obtain⟨b,hb⟩:=aB V0.heap.size
 have LE:Hid (w.heap.size<=b/\ga≠b):=by have:=LA.out;show _/\_;omega
 rw[hb]at N1 ⊢
 clear hb hW M2 A0 Q0 CC LA
 have x0:=aA 0 Q1.out
 have x1:=aA 1 Q1.out
 go_wp2_with fail
 go_loopw [24] (fun iv wr=> ∃k:Nat,k<=le/\iv=.int .i64 (k:Nat)/\Ab w wr/\wr.heap[ga]? =some (.cells #[.slice (some ⟨qc,oc,none⟩) lc cc,.slice (some ⟨qe,oe,none⟩) le ce,.slice none 0 0] 34)/\wr.rowIs b 4 N (fun c=>.bool (mk4 lfF rtF bl br eI k c))) (fun iv _=>le - (intOf iv).toNat)
 case atStart=>exact⟨0,by omega,rfl,A1.out,Q1.out,N1.out.congr (fun i _=>by simp[mk4])⟩
 case round=>
  obtain⟨k,hk,rfl,ar',q2,r2⟩:=hrel
  have AW:=hid ar'
  have P2:=hid r2
  have Q2:=hid q2
  have HKL:=hid hk
  have kB:(k:Int)<=12288:=by have:=HN.out;omega
  clear ar' r2 q2 N1 A1 Q1 x0 x1 hk
  by_cases hkn:k<le
  ·have HK:=hid hkn
   have kI:(k:Int)<le:=by omega
   have hm:=HE.out k hkn
   have C1:=hid (fun v a=>CG.out v (eI k) a hm)
   have C2:=hid (fun v a=>CB.out v (eI k) a hm)
   have ye:wr.cell? ⟨qe,oe+k,none⟩=some (.int .i64 (eI k:Nat)):=((IE.out.below AW.out).at0 hkn).2.2
   have hb4:=HB.out _ hm
   have ST:=hid (fun c=>mk4_step lfF rtF bl br eI k c)
   obtain⟨e,he⟩:=aB (eI k)
   rw[he]at C1 C2 ye hb4 ST
   obtain⟨x,hx⟩:=aB (lfF e)
   obtain⟨s1,hs1⟩:=aB (s1F e)
   obtain⟨y,hy⟩:=aB (rtF e)
   obtain⟨s2,hs2⟩:=aB (s2F e)
   obtain⟨z,hz⟩:=aB (bl e)
   obtain⟨u,hu⟩:=aB (br e)
   rw[hx,hs1,hy,hs2]at C1
   rw[hz,hu]at C2
   rw[hx,hy,hz,hu]at hb4 ST
   have xI:(x:Int)<N:=by omega
   have yI:(y:Int)<N:=by omega
   have zI:(z:Int)<N:=by omega
   have uI:(u:Int)<N:=by omega
   have H4:=hid hb4
   clear he hx hs1 hy hs2 hz hu hkn hm hb4
   go_wp2_with fail
   refine(C1.out wr AW.out).mono ?_
   rintro e9 v4 ⟨rfl,b4⟩
   have A4:Hid (Ab wr v4):=b4
   clear b4 C1 ye
   have R5:=hid (heap_alloc_new v4 (.cells #[.int .i64 (x:Nat),.int .i64 (s1:Nat),.int .i64 (y:Nat),.int .i64 (s2:Nat)] 71))
   have A5:Hid (Ab wr (v4.alloc (.cells #[.int .i64 (x:Nat),.int .i64 (s1:Nat),.int .i64 (y:Nat),.int .i64 (s2:Nat)] 71))):=A4.out.trans (bl1 _ _)
   have L5:Hid (wr.heap.size<=v4.heap.size):=A4.out.size
   go_upto_region 6 with fail
   generalize hW:World.alloc v4 _=v5 at*
   obtain⟨g,hg⟩:=aB v4.heap.size
   rw[hg]at R5 L5 ⊢
   clear hg hW A4
   go_wp2_with fail
   refine(C2.out v5 (AW.out.trans A5.out)).mono ?_
   rintro e9 v6 ⟨rfl,b6⟩
   have A6:Hid (Ab wr v6):=A5.out.trans b6
   have R6:=hid (Ab.heap b6 R5.out)
   have P6:=hid (rowIs.ab P2.out A6.out)
   clear b6 R5 A5 C2
   have LT:Hid (g≠b):=by have h1:=P2.out.lt;have h2:=L5.out;show _≠_;omega
   have gb1:g≠b:=LT.out
   have gb2:b≠g:=fun h=>LT.out h.symm
   have y0:=aA 0 R6.out
   have y2:=aA 2 R6.out
   have z1:=P6.out.cell H4.out.1
   have z2:=P6.out.cell H4.out.2.1
   have z3:=P6.out.frozen x
   have z4:=P6.out.frozen y
   have S1:=hid (P6.out.set x (.bool true))
   have S2:=hid (S1.out.set y (.bool true))
   obtain⟨q5,z5⟩: ∃q,(v6.setCell ⟨b,x,none⟩ (.bool true)).cell? ⟨b,y,none⟩=some q:=⟨_,S1.out.cell H4.out.2.1⟩
   have z6:=S1.out.frozen y
   have S7:=hid S2.out.drew
   have A7:Hid (Ab w ((v6.setCell ⟨b,x,none⟩ (.bool true)).setCell ⟨b,y,none⟩ (.bool true)).drew):=Ab.drew (((AW.out.trans A6.out).setk LE.out.1 _).setk LE.out.1 _)
   have Q7:Hid (((v6.setCell ⟨b,x,none⟩ (.bool true)).setCell ⟨b,y,none⟩ (.bool true)).drew.heap[ga]? =some (.cells #[.slice (some ⟨qc,oc,none⟩) lc cc,.slice (some ⟨qe,oe,none⟩) le ce,.slice none 0 0] 34)):=(aH LE.out.2).trans ((aH LE.out.2).trans (Ab.heap A6.out Q2.out))
   go_upto_region 7 with fail
   go_region
   generalize hW:World.drew _=v7 at*
   clear hW y0 y2 z1 z2 z3 z4 z5 z6 S1 S2 R6 P6 A6 Q2 P2 AW
   have z1:=S7.out.cell H4.out.2.2.1
   have z3:=S7.out.frozen z
   have S8:=hid (S7.out.set z (.bool true))
   have S9:=hid (S8.out.set u (.bool true))
   obtain⟨q5,z5⟩: ∃q,(v7.setCell ⟨b,z,none⟩ (.bool true)).cell? ⟨b,u,none⟩=some q:=⟨_,S8.out.cell H4.out.2.2.2⟩
   have z6:=S8.out.frozen u
   go_wp2_with fail
   refine⟨⟨k+1,by have:=HK.out;omega,by simp,(A7.out.setk LE.out.1 _).setk LE.out.1 _,(aH LE.out.2).trans ((aH LE.out.2).trans Q7.out),S9.out.congr (fun i _=> ?_)⟩,by have:=HK.out;simp[intOf];omega⟩
   rw[ST.out i]
   by_cases e1:i=u
   ·subst e1;simp
   ·by_cases e2:i=z
    ·subst e2;simp
    ·by_cases e3:i=y
     ·subst e3;simp
     ·by_cases e4:i=x
      ·subst e4;simp
      ·simp[e1,e2,e3,e4]
  ·have e6:k=le:=by have:=HKL.out;omega
   subst e6
   have x0:=aA 0 Q2.out
   clear CG CB HE HB IE
   go_wp2_with fail
   go_loopw [59] (fun iv wr=> ∃j:Nat,j<=lc/\iv=.int .i64 (j:Nat)/\Ab w wr/\wr.rowIs b 4 N (fun c=>.bool (mk4 lfF rtF bl br eI k c&& !ow cI j c))) (fun iv _=>lc - (intOf iv).toNat)
   case atStart=>exact⟨0,by omega,rfl,AW.out,P2.out.congr (fun i _=>by simp[ow])⟩
   case round=>
    obtain⟨j,hj,rfl,ar',r2⟩:=hrel
    have AX:=hid ar'
    have P3:=hid r2
    have HJL:=hid hj
    have jB:(j:Int)<=12288:=by have:=HN.out;omega
    clear ar' r2 AW P2 Q2 x0 hj
    by_cases hjn:j<lc
    ·have HJ:=hid hjn
     have jI:(j:Int)<lc:=by omega
     have ST:=hid (fun c=>ow_step cI j c)
     have hm:=HC.out j hjn
     have ye:wr.cell? ⟨qc,oc+j,none⟩=some (.int .i64 (cI j:Nat)):=((IC.out.below AX.out).at0 hjn).2.2
     obtain⟨x,hx⟩:=aB (cI j)
     rw[hx]at ye hm ST
     have xI:(x:Int)<N:=by omega
     have z1:=P3.out.cell hm
     have z2:=P3.out.frozen x
     clear hx hjn hm
     go_wp2_with fail
     refine⟨⟨j+1,by have:=HJ.out;omega,by simp,AX.out.setk LE.out.1 _,(P3.out.set x _).congr (fun i _=> ?_)⟩,by have:=HJ.out;simp[intOf];omega⟩
     rw[ST.out i]
     by_cases e1:i=x
     ·subst e1;simp
     ·have e2:(i==x)=false:=by simp[e1]
      rw[e2];simp[e1]
    ·have e6:j=lc:=by have:=HJL.out;omega
     subst e6
     go_wp2_with fail
     rename World=>wq
     obtain⟨q,hq⟩: ∃q:Nat->Bool,(fun c=>(mk4 lfF rtF bl br eI k c&& !ow cI j c))=q:=⟨_,rfl⟩
     have P4:Hid (wq.rowIs b 4 N (fun c=>.bool (q c))):=by rw[<- hq];exact P3.out
     have HQ:=hid hq
     clear P3 hq HJL HKL
     have News:Hid (∀(v:World) (x:Nat) (j:Nat) (u:Value),(([(x:Int)]:List Int).map (Value.int .i64))[j]? =some u->(v.alloc (.cells #[.int .i64 (x:Nat)] 3)).cell? ((⟨v.heap.size,0,none⟩:Addr).add j)=some u):=fun v x=>World.news_of_block (cs:= #[.int .i64 (x:Nat)]) (t:=3) (fr:=(0,0)) (heap_alloc_new v _)
     have O0:Hid (OT 3 wq.heap.size (.slice none 0 0) (cst ((List.range 0).filter q)) wq):=⟨by simp[cst],.inl ⟨rfl,rfl⟩⟩
     obtain⟨g0,hg0⟩:=aB wq.heap.size
     have HG0:=hid hg0
     rw[hg0]at O0
     clear hg0
     go_loopw [15,69] (fun ov iv wr=> ∃m:Nat,m<=N/\iv=.int .i64 (m:Nat)/\Ab wq wr/\OT 3 g0 ov (cst ((List.range m).filter q)) wr) (fun _ iv _=>N - (intOf iv).toNat)
     case atStart=>exact⟨0,by omega,rfl,Ab.refl wq,O0.out⟩
     case round=>
      obtain⟨m,hm,rfl,ar',o2⟩:=hrel
      have AR:=hid ar'
      have OV:=hid o2
      have HML:=hid hm
      have SB:=hid (tM q m)
      have mBd:(m:Int)<=6144:=by omega
      have HL:Hid ((cst ((List.range m).filter q)).length+1<=1048576):=by
       have h1:=HML.out
       have h2:=HN.out
       have h3:=List.length_filter_le q (List.range m)
       show _<=_
       rw[cst_len]
       rw[List.length_range]at h3
       omega
      have P5:=hid (rowIs.ab P4.out AR.out)
      clear ar' o2 hm O0
      by_cases hmn:m<N
      ·have HM:=hid hmn
       have mI:(m:Int)<N:=by omega
       have z1:=P5.out.cell hmn
       obtain⟨qv,hqv⟩:=aB (q m)
       rw[hqv]at z1 SB
       obtain⟨out,hout⟩:=aB ((List.range m).filter q)
       rw[hout]at OV SB HL
       clear hqv hout hmn
       cases qv with
       | false=>
        go_wp2_with fail
        refine⟨⟨m+1,by have:=HM.out;omega,by simp,AR.out,?_⟩,by have:=HM.out;simp[intOf];omega⟩
        rw[SB.out]
        simpa using OV.out
       | true=>
        have SE:Hid ((List.range (m+1)).filter q=out++[m]):=by show _=_;rw[SB.out];rfl
        clear SB
        have SZ:Hid ((wr.alloc (.cells #[.int .i64 (m:Nat)] 3)).heap.size=wr.heap.size+1):=cY _ _
        go_wp2_with (at_builtin;refine oJ rfl (.tmp 75) (.tmp 77) rfl g0 _ (cst out) rfl (OV.out.to (bl1 wr (.cells #[.int .i64 (m:Nat)] 3))) ⟨wr.heap.size,0,none⟩ 1 1 [(m:Int)] rfl rfl (News.out wr m) (by decide) HL.out (by have h1:=AR.out.size;have h2:=SZ.out;have h3:=HG0.out;omega) ((cst out).length+1) rfl ?_;intro g7 c7 w7 o7 a7 _ _;have O7:=hid o7;have A7:Hid (Ab wq w7):=(AR.out.trans (bl1 wr (.cells #[.int .i64 (m:Nat)] 3)):Below _ _ _).grown a7 (by have h1:=AR.out.size;have h2:=SZ.out;omega) (fun k hk=>by have:=(World.ownsRow.lt OV.out k hk).1;rw[HG0.out];exact this);clear o7 a7)
        refine⟨⟨m+1,by have:=HM.out;omega,by simp,A7.out,?_⟩,by have:=HM.out;simp[intOf];omega⟩
        rw[SE.out,<- cst_app]
        exact O7.out
      ·have e6:m=N:=by have:=HML.out;omega
       subst e6
       go_wp2
       go_ret
       refine⟨_,rfl,AX.out.trans AR.out,?_⟩
       rw[HQ.out]
       refine OT.toN (OT.mono OV.out ?_)
       rw[<- HG0.out]
       exact AX.out.size
theorem behind22{n gb e:Nat}{w:World}(hn:1<=n/\n<=32)(he:e<12*n*n)(g:GridOf n gb w):
  Calls prog 36 #[.pointer (some ⟨gb,0,none⟩),.int .i64 (e:Nat)] w fun r w'=>r=.returned (.tuple #[.int .i64 (bsC n (edT n e/4) ((edT n e%4+2)%4):Nat),.int .i64 (bsC n (bsC n (edT n e/4) (edT n e%4)) ((bsS n (edT n e/4) (edT n e%4)+2)%4):Nat),.bool true])/\Below w.heap.size w w':=by
 obtain⟨h1,h2,h3⟩:=bW hn.1 he
 have h:=qI hn h1 h2 g
 rw[h3]at h
 exact h
theorem four_lt{n e:Nat}(hn:1<=n)(he:e<12*n*n):lf n e<6*n*n/\rt n e<6*n*n/\bsC n (edT n e/4) ((edT n e%4+2)%4)<6*n*n/\bsC n (bsC n (edT n e/4) (edT n e%4)) ((bsS n (edT n e/4) (edT n e%4)+2)%4)<6*n*n:=by
 obtain⟨h1,-,-⟩:=bW hn he
 have c1:=cD h1
 have c2:=(fI hn c1 (s:=edT n e%4) (Nat.mod_lt _ (by decide))).1
 exact⟨c1,c2,(fI hn c1 (Nat.mod_lt _ (by decide))).1,(fI hn c2 (Nat.mod_lt _ (by decide))).1⟩
theorem tN{n P k:Nat}(hn:1<=n)(hk:k<P):((List.range (6*n*n)).filter fun c=>mk4 (lf n) (rt n) (fun e=>bsC n (edT n e/4) ((edT n e%4+2)%4)) (fun e=>bsC n (bsC n (edT n e/4) (edT n e%4)) ((bsS n (edT n e/4) (edT n e%4)+2)%4)) (fun i=>eO n P k+i) (eO n P (k+1) - eO n P k) c&& !ow (fun i=>cO n P k+i) (cO n P (k+1) - cO n P k) c)=hlP n P k:=by
 unfold hlP
 refine List.filter_congr (fun c _=> ?_)
 have e1:mk4 (lf n) (rt n) (fun e=>bsC n (edT n e/4) ((edT n e%4+2)%4)) (fun e=>bsC n (bsC n (edT n e/4) (edT n e%4)) ((bsS n (edT n e/4) (edT n e%4)+2)%4)) (fun i=>eO n P k+i) (eO n P (k+1) - eO n P k) c=ask n P k c:=by
  unfold ask
  rw[qK hn hk,List.range'_eq_map_range,List.any_map]
  rfl
 have e2:ow (fun i=>cO n P k+i) (cO n P (k+1) - cO n P k) c=inP (6*n*n) P k c:=by
  have s:=cP (6*n*n) P k
  rw[Bool.eq_iff_iff,iL]
  unfold ow cO
  rw[List.any_eq_true]
  constructor
  ·rintro⟨i,h1,h2⟩
   have h1:=List.mem_range.1 h1
   have h2:c=lo (6*n*n) P k+i:=by simpa using h2
   omega
  ·rintro⟨h1,h2⟩
   refine⟨c - lo (6*n*n) P k,List.mem_range.2 (by omega),?_⟩
   simp
   omega
 rw[e1,e2]
theorem halo_at{n gb P k gc ge:Nat}{w:World}(hn:1<=n/\n<=32)(hk:k<P)(g:GridOf n gb w)(u:upR gc (6*n*n) w)(v:upR ge (12*n*n) w):
  Calls prog 34 #[.pointer (some ⟨gb,0,none⟩),.agg #[win gc (cO n P k) (cO n P (k+1)),win ge (eO n P k) (eO n P (k+1)),.slice none 0 0]] w fun e w'=> ∃v,e=.returned v/\Ab w w'/\OwnN w.heap.size v (hlP n P k) w':=by
 have n1:=n12 hn
 have n2:6*n*n<=6144:=by
  have h1:6*n<=6*32:=Nat.mul_le_mul_left _ hn.2
  exact Nat.le_trans (Nat.mul_le_mul h1 hn.2) (by decide)
 have n0:0<6*n*n:=Nat.mul_pos (Nat.mul_pos (by decide) hn.1) hn.1
 have c1:=hO (N:=6*n*n) (P:=P) (k:=k+1) (by omega) (by omega)
 have c2:=cP (6*n*n) P k
 have d1:=kP hn.1 c1
 have d2:=dG (n:=n) c2
 have h:=halo_go gb (6*n*n) (12*n*n) gc (wo (cO n P k) (cO n P (k+1))) (cO n P (k+1) - cO n P k) (cO n P (k+1) - cO n P k) ge (wo (eO n P k) (eO n P (k+1))) (eO n P (k+1) - eO n P k) (eO n P (k+1) - eO n P k) (fun i=>cO n P k+i) (fun i=>eO n P k+i) (lf n) (fun e=>edT n e%4) (rt n) (fun e=>bsS n (edT n e/4) (edT n e%4)) (fun e=>bsC n (edT n e/4) ((edT n e%4+2)%4)) (fun e=>bsC n (bsC n (edT n e/4) (edT n e%4)) ((bsS n (edT n e/4) (edT n e%4)+2)%4)) w ⟨n0,n2⟩ n1 (by unfold cO eO;omega)
  (hid ((mC u (by unfold cO;omega) (by omega)).congr (fun i hi=>by unfold rd;rw[lX hi]))) (hid ((mC v (by unfold eO;omega) (by omega)).congr (fun i hi=>by unfold rd;rw[lX hi])))
  (hid (fun i hi=>by unfold cO at*;omega)) (hid (fun i hi=>by unfold eO at*;omega)) (hid (fun e he=>four_lt hn.1 he))
  (hid (fun v a=>dQ (g.to a))) (hid (fun v k a hk=>edge22 hn hk (g.to a))) (hid (fun v k a hk=>behind22 hn hk (g.to a)))
 rw[tN hn.1 hk]at h
 exact h
end Spl
end
section
open Go.RowKit Tf Cu Go.Deep
namespace Spl
theorem infoP:(Tryd.prog.info? 34).map (fun i=>(i.zero,i.size,i.bytes))=some (some (.agg #[.slice none 0 0,.slice none 0 0,.slice none 0 0]),3,72):=by kernel_rfl
theorem infoP_i: ∃i,Tryd.prog.info? 34=some i/\i.zero=some (.agg #[.slice none 0 0,.slice none 0 0,.slice none 0 0])/\i.size=3/\i.bytes=72:=by
 have h:=infoP
 cases e:Tryd.prog.info? 34 with
 | none=>rw[e]at h;cases h
 | some i=>
  rw[e]at h
  injection h with h
  injection h with h1 h2
  injection h2 with h2 h3
  exact⟨i,rfl,h1,h2,h3⟩
theorem OwnN.val{B:Nat}{v:Value}{l:List Nat}{w:World}(h:OwnN B v l w): ∃p c,v=.slice p l.length c:=by
 rcases h.2 with⟨q,e⟩ | ⟨g,cap,cur,q,hb,rest⟩
 ·exact⟨none,0,by rw[q,e]⟩
 ·exact⟨_,cap,q⟩
theorem OwnN.mono{B C:Nat}{v:Value}{l:List Nat}{w:World}(h:OwnN B v l w)(hc:C<=B):OwnN C v l w:=OT.toN (OT.mono (OT.ofN h) hc)
theorem OwnN.other{B:Nat}{v:Value}{l:List Nat}{w:World}(h:OwnN B v l w){g c:Nat}(u:Value)(hg:v.ownBlock≠some g):OwnN B v l (w.setCell ⟨g,c,none⟩ u):=OT.toN (OT.other (OT.ofN h) u hg)
theorem OwnN.blk{B:Nat}{v:Value}{l:List Nat}{w:World}(h:OwnN B v l w){k:Nat}(hk:v.ownBlock=some k):B<=k/\k<w.heap.size:=World.ownsRow.lt h k hk
theorem OwnN.blkeq{B:Nat}{v:Value}{l:List Nat}{w w':World}(h:OwnN B v l w)(e: ∀k,v.ownBlock=some k->w'.heap[k]? =w.heap[k]?):OwnN B v l w':=OT.toN (OT.blkeq (OT.ofN h) e)
theorem PsX.step{B S gl gc ge k:Nat}{a z:Nat->Nat}{H:Nat->List Nat}{X:Nat->Value}{w w':World}{u:Value}(h:PsX B gl gc ge k a z H X w)(keep: ∀b,b<w.heap.size->b≠gl->w'.heap[b]? =w.heap[b]?)(o:OwnN S u (H k) w')(hS:w.heap.size<=S)(hB:B<=S)(h1:gl<w.heap.size)(h2:gc<w.heap.size)(h3:ge<w.heap.size):
  PsX B gl gc ge (k+1) a z H (fun i=>if i=k*3 then win gc (a k) (a (k+1))else if i=k*3+1 then win ge (z k) (z (k+1))else if i=k*3+2 then u else X i) w':=by
 intro j hj
 have e0: ∀m,m<k->(fun i=>if i=k*3 then win gc (a k) (a (k+1))else if i=k*3+1 then win ge (z k) (z (k+1))else if i=k*3+2 then u else X i) (m*3+2)=X (m*3+2):=fun m hm=>by
  dsimp only
  rw[if_neg (by omega),if_neg (by omega),if_neg (by omega)]
 by_cases q:j<k
 ·obtain⟨k1,k2,k3,k4,k5⟩:=h j q
  refine⟨?_,?_,?_,?_,?_⟩
  ·dsimp only
   rw[if_neg (by omega),if_neg (by omega),if_neg (by omega)]
   exact k1
  ·dsimp only
   rw[if_neg (by omega),if_neg (by omega),if_neg (by omega)]
   exact k2
  ·rw[e0 j q]
   exact k3.blkeq (fun b hb=>keep b (k3.blk hb).2 (k4 b hb).1)
  ·rw[e0 j q]
   exact k4
  ·intro m hm
   rw[e0 j q,e0 m (by omega)]
   exact k5 m hm
 ·have e:j=k:=by omega
  subst e
  have ej:(fun i=>if i=j*3 then win gc (a j) (a (j+1))else if i=j*3+1 then win ge (z j) (z (j+1))else if i=j*3+2 then u else X i) (j*3+2)=u:=by
   dsimp only
   rw[if_neg (by omega),if_neg (by omega),if_pos rfl]
  refine⟨?_,?_,?_,?_,?_⟩
  ·dsimp only
   rw[if_pos rfl]
  ·dsimp only
   rw[if_neg (by omega),if_pos rfl]
  ·rw[ej]
   exact o.mono hB
  ·rw[ej]
   intro b hb
   have:=(o.blk hb).1
   exact⟨by omega,by omega,by omega⟩
  ·intro m hm
   rw[ej,e0 m hm]
   intro b hb hc
   have h4:=(o.blk hb).1
   have h5:=((h m hm).2.2.1.blk hc).2
   omega
theorem make_p(P:Nat)(hP:P<=64)(w:World):(Instr.makeSlice 27 (.int .i64 (P:Nat)) (.int .i64 (P:Nat))).run prog w=.ok (.slice (some ⟨w.heap.size,0,none⟩) P P) (w.alloc (.cells (madeCells #[.slice none 0 0,.slice none 0 0,.slice none 0 0] (P*3)) 34)):=by
 obtain⟨i,hi,h1,h2,h3⟩:=infoP_i
 have h:=run_make (P:=prog) w 27 34 i (.agg #[.slice none 0 0,.slice none 0 0,.slice none 0 0]) underlying27 hi h1 .i64 .i64 (P:Int) (P:Int) (by omega) (by omega) (by rw[h3];omega) (by omega)
 rw[h2,Int.toNat_natCast]at h
 exact h
theorem made_p(w:World)(P:Nat):(w.alloc (.cells (madeCells #[.slice none 0 0,.slice none 0 0,.slice none 0 0] (P*3)) 34)).rowIs w.heap.size 34 (P*3) (fun _=>.slice none 0 0):=by
 refine⟨_,heap_alloc_new _ _,size_madeCells _ _,fun i hi=> ?_⟩
 have e: ∀j,j<3->(#[.slice none 0 0,.slice none 0 0,.slice none 0 0]:Array Value)[j]! =.slice none 0 0:=fun j hj=>by
  match j,hj with
  | 0,_=>rfl
  | 1,_=>rfl
  | 2,_=>rfl
 unfold madeCells
 rw[Array.getElem?_map,Array.getElem?_range,if_pos hi]
 simp only[Option.map_some]
 rw[show(#[.slice none 0 0,.slice none 0 0,.slice none 0 0]:Array Value).size=3 from rfl,e (i%3) (by omega)]
theorem split_go(gb N M P:Nat)(a z:Nat->Nat)(H:Nat->List Nat)(w:World)(hN:0<N/\N<=6144)(hM:M<=12288)(hP:1<=P/\P<=64)(a0:a 0=0)(z0:z 0=0)
  (HA:Hid (∀k,k<P->a (k+1)=(k+1)*N/P/\a k<=a (k+1)/\a (k+1)<=N/\z k<=z (k+1)/\z (k+1)<=M))
  (CC:Hid (∀v,Ab w v->Calls prog 9 #[.pointer (some ⟨gb,0,none⟩)] v fun e w'=>e=.returned (.int .i64 (N:Nat))/\w'=v))
  (CE:Hid (∀v,Ab w v->Calls prog 32 #[.pointer (some ⟨gb,0,none⟩)] v fun e w'=>e=.returned (.int .i64 (M:Nat))/\w'=v))
  (NU:Hid (∀v (m:Nat),m<=12288->Calls prog 31 #[.int .i64 (m:Nat)] v fun e w'=> ∃b,e=.returned (.slice (some ⟨b,0,none⟩) m m)/\Ab v w'/\v.heap.size<=b/\upR b m w'))
  (CA:Hid (∀v k,Ab w v->k<P->Calls prog 33 #[.pointer (some ⟨gb,0,none⟩),.int .i64 (z k:Nat),.int .i64 (a (k+1):Nat)] v fun e w'=>e=.returned (.int .i64 (z (k+1):Nat))/\Ab v w'))
  (CH:Hid (∀v k gc ge,Ab w v->k<P->upR gc N v->upR ge M v->Calls prog 34 #[.pointer (some ⟨gb,0,none⟩),.agg #[.slice (some ⟨gc,wo (a k) (a (k+1)),none⟩) (a (k+1) - a k) (a (k+1) - a k),.slice (some ⟨ge,wo (z k) (z (k+1)),none⟩) (z (k+1) - z k) (z (k+1) - z k),.slice none 0 0]] v fun e w'=> ∃u,e=.returned u/\Ab v w'/\OwnN v.heap.size u (H k) w')):
  Calls prog 8 #[.pointer (some ⟨gb,0,none⟩),.int .i64 (P:Nat)] w fun e w'=> ∃gl gc ge X,e=.returned (.tuple #[.slice (some ⟨gl,0,none⟩) P P,.int .i64 0])/\Ab w w'/\w'.rowIs gl 34 (P*3) X/\upR gc N w'/\upR ge M w'/\(w.heap.size<=gl/\w.heap.size<=gc/\w.heap.size<=ge/\gl≠gc/\gl≠ge/\gc≠ge)/\PsX w.heap.size gl gc ge P a z H X w':=by
 have MP:=make_p P hP.2
 have HN:=hid (And.intro hN (And.intro hM hP))
 have nB:(N:Int)<=6144:=by omega
 have pB:(P:Int)<=64:=by omega
 have pA:1<=(P:Int):=by omega
 have pC:decide ((P:Int)<1)=false:=decide_eq_false (by omega)
 have pD:decide ((64:Int)<(P:Int))=false:=decide_eq_false (by omega)
 have A0:=hid (Ab.refl w)
 have Z0:=hid (And.intro a0 z0)
 clear hN hM hP a0 z0
 go_enter func8,ntmps8
 go_wp2_with fail
 refine(CC.out w A0.out).mono ?_
 rintro e9 v1 ⟨rfl,hw⟩
 have hw2:=hw.symm
 subst hw2
 clear CC
 go_wp2_with fail
 refine(NU.out w N (by have:=HN.out;omega)).mono ?_
 rintro e9 v1 ⟨gc,rfl,a1,l1,u1⟩
 have A1:=hid a1
 have L1:=hid l1
 have U1:=hid u1
 clear a1 l1 u1 A0
 go_wp2_with fail
 refine(CE.out v1 A1.out).mono ?_
 rintro e9 v2 ⟨rfl,hw⟩
 have hw2:=hw.symm
 subst hw2
 clear CE
 go_wp2_with fail
 refine(NU.out v1 M (by have:=HN.out;omega)).mono ?_
 rintro e9 v2 ⟨ge,rfl,a2,l2,u2⟩
 have NE:Hid (gc≠ge):=by have h1:=U1.out.lt;show _≠_;omega
 have L2:Hid (w.heap.size<=ge):=by have h1:=A1.out.size;show _<=_;omega
 have A2:Hid (Ab w v2):=A1.out.trans a2
 have U2:Hid (upR gc N v2):=rowIs.ab U1.out a2
 have V2:Hid (upR ge M v2):=u2
 clear a2 l2 u2 U1 A1 NU
 have A3:Hid (Ab w (v2.alloc (.cells (madeCells #[.slice none 0 0,.slice none 0 0,.slice none 0 0] (P*3)) 34))):=A2.out.trans (bl1 _ _)
 have U3:Hid (upR gc N (v2.alloc (.cells (madeCells #[.slice none 0 0,.slice none 0 0,.slice none 0 0] (P*3)) 34))):=rowIs.ab U2.out (bl1 _ _)
 have V3:Hid (upR ge M (v2.alloc (.cells (madeCells #[.slice none 0 0,.slice none 0 0,.slice none 0 0] (P*3)) 34))):=rowIs.ab V2.out (bl1 _ _)
 have N3:=hid (made_p v2 P)
 have LT:Hid (gc<v2.heap.size/\ge<v2.heap.size/\w.heap.size<=v2.heap.size):=⟨U2.out.lt,V2.out.lt,A2.out.size⟩
 go_upto_region 7 with fail
 generalize hW:World.alloc v2 _=V at*
 obtain⟨gl,hb⟩:=aB v2.heap.size
 rw[hb]at N3 LT ⊢
 clear hb hW MP A2 U2 V2
 go_wp2_with fail
 go_loopw [9,10,33] (fun cv ev iv wr=> ∃(k:Nat) (X:Nat->Value),k<=P/\cv=.int .i64 (a k:Nat)/\ev=.int .i64 (z k:Nat)/\iv=.int .i64 (k:Nat)/\Ab w wr/\upR gc N wr/\upR ge M wr/\wr.rowIs gl 34 (P*3) (fun i=>if i<k*3 then X i else .slice none 0 0)/\PsX w.heap.size gl gc ge k a z H X wr) (fun _ _ iv _=>P - (intOf iv).toNat)
 case atStart=>exact⟨0,fun _=>.slice none 0 0,by omega,by rw[Z0.out.1];rfl,by rw[Z0.out.2];rfl,rfl,A3.out,U3.out,V3.out,N3.out.congr (fun i _=>by simp),fun k hk=>by omega⟩
 case round=>
  obtain⟨k,X,hk,rfl,rfl,rfl,ar',u',v',r',p'⟩:=hrel
  have AW:=hid ar'
  have UW:=hid u'
  have VW:=hid v'
  have RW:=hid r'
  have PW:=hid p'
  have HKL:=hid hk
  have kB:(k:Int)<=64:=by have:=HN.out;omega
  clear ar' u' v' r' p' hk A3 U3 V3 N3
  by_cases hkn:k<P
  ·have HK:=hid hkn
   have kI:(k:Int)<P:=by omega
   obtain⟨h1,h2,h3,h4,h5⟩:=HA.out k hkn
   have C1:=hid (fun v b=>CA.out v k b hkn)
   have C2:=hid (fun v b=>CH.out v k gc ge b hkn)
   obtain⟨m,hm⟩:=aB ((k+1)*N)
   have mB:m<=393216:=by rw[<- hm];exact Nat.le_trans (Nat.mul_le_mul (show k+1<=64 by have:=HN.out;omega) (show N<=6144 by omega)) (by decide)
   have mE:((k:Int)+1)*(N:Int)=(m:Int):=by rw[<- hm];simp
   have mI:(m:Int)<=393216:=by omega
   rw[hm]at h1
   obtain⟨x,hx⟩:=aB (a k)
   obtain⟨y,hy⟩:=aB (a (k+1))
   obtain⟨s,hs⟩:=aB (z k)
   obtain⟨r,hr⟩:=aB (z (k+1))
   rw[hx,hy,hs,hr]at C2
   rw[hs,hy,hr]at C1
   rw[hy]at h1 h2 h3
   rw[hr]at h4 h5
   rw[hx]at h2 ⊢
   rw[hs]at h4 ⊢
   have HX:=hid (And.intro hx (And.intro hy (And.intro hs hr)))
   have xy:(x:Int)<=y:=by omega
   have yN:(y:Int)<=N:=by omega
   have sr:(s:Int)<=r:=by omega
   have rM:(r:Int)<=M:=by omega
   have MB:(M:Int)<=12288:=by have:=HN.out;omega
   have dE:(m:Int).tdiv (P:Int)=(y:Int):=by rw[h1,Int.tdiv_eq_ediv_of_nonneg (by omega)];simp
   have pz:((P:Int)==0)=false:=by simp;omega
   clear hm hx hy hs hr h1 h2 h3 h4 h5 mB hkn
   go_wp2_with fail
   refine(C1.out wr AW.out).mono ?_
   rintro e9 v4 ⟨rfl,b4⟩
   have A4:Hid (Ab wr v4):=b4
   clear b4 C1
   have IX:Hid ((if y=x then some (⟨gc,0,none⟩:Addr)else some ⟨gc,x,none⟩)=some ⟨gc,wo x y,none⟩):=by show _=_;unfold wo;split<;>rfl
   have IS:Hid ((if r=s then some (⟨ge,0,none⟩:Addr)else some ⟨ge,s,none⟩)=some ⟨ge,wo s r,none⟩):=by show _=_;unfold wo;split<;>rfl
   have EX:Hid (win gc x y=.slice (some ⟨gc,wo x y,none⟩) (y - x) (y - x)/\win ge s r=.slice (some ⟨ge,wo s r,none⟩) (r - s) (r - s)):=⟨rfl,rfl⟩
   obtain⟨xo,hxo⟩:=aB (wo x y)
   obtain⟨so,hso⟩:=aB (wo s r)
   rw[hxo]at IX EX C2
   rw[hso]at IS EX C2
   clear hxo hso
   have R5:Hid ((v4.alloc (.cells #[.slice (some ⟨gc,xo,none⟩) (y - x) (y - x),.slice (some ⟨ge,so,none⟩) (r - s) (r - s),.slice none 0 0] 34)).drew.heap[v4.heap.size]? =some (.cells #[.slice (some ⟨gc,xo,none⟩) (y - x) (y - x),.slice (some ⟨ge,so,none⟩) (r - s) (r - s),.slice none 0 0] 34)):=heap_alloc_new _ _
   have A5:Hid (Ab wr (v4.alloc (.cells #[.slice (some ⟨gc,xo,none⟩) (y - x) (y - x),.slice (some ⟨ge,so,none⟩) (r - s) (r - s),.slice none 0 0] 34)).drew):=Ab.drew (A4.out.trans (bl1 _ _))
   have L5:Hid (wr.heap.size<=v4.heap.size):=A4.out.size
   go_upto_region 13 with fail
   go_region
   rw[IX.out,IS.out]
   generalize hW:World.drew _=v5 at*
   obtain⟨g,hg⟩:=aB v4.heap.size
   rw[hg]at R5 L5 ⊢
   clear hg hW A4 IX IS
   have x0:=aA 0 R5.out
   have x1:=aA 1 R5.out
   have x2:=aA 2 R5.out
   have C3:=hid (C2.out v5 (AW.out.trans A5.out) (rowIs.ab UW.out A5.out) (rowIs.ab VW.out A5.out))
   clear C2
   go_wp2_with fail
   refine C3.out.mono ?_
   rintro e9 v6 ⟨uh,rfl,b6,o6⟩
   have A6:Hid (Ab wr v6):=A5.out.trans b6
   have B6:Hid (Ab v5 v6):=b6
   obtain⟨hp,hc,rfl⟩:=OwnN.val o6
   have O6:=hid o6
   obtain⟨lh,hlh⟩:=aB ((H k).length)
   rw[hlh]at O6 ⊢
   have LH:=hid hlh
   have R6:=hid (Ab.heap b6 R5.out)
   have L6:Hid (g<v5.heap.size):=lt_of_block R5.out
   clear b6 o6 R5 A5 C3 x0 x1 x2 hlh
   have x2:=aA 2 R6.out
   have f2:=aC R6.out 2
   have R7:Hid ((v6.setCell ⟨g,2,none⟩ (.slice hp lh hc)).heap[g]? =some (.cells #[.slice (some ⟨gc,xo,none⟩) (y - x) (y - x),.slice (some ⟨ge,so,none⟩) (r - s) (r - s),.slice hp lh hc] 34)):=by exact aI (v:=.slice hp lh hc) (k:=2) R6.out
   have A7:Hid (Ab wr (v6.setCell ⟨g,2,none⟩ (.slice hp lh hc))):=A6.out.setk L5.out _
   have O7:Hid (OwnN v5.heap.size (.slice hp lh hc) (H k) (v6.setCell ⟨g,2,none⟩ (.slice hp lh hc))):=O6.out.other _ (fun h=>by have h1:=(O6.out.blk h).1;have h2:=L6.out;omega)
   have S5:Hid (wr.heap.size<=v5.heap.size):=by have h2:=L6.out;have h3:=L5.out;show _<=_;omega
   have NG:Hid (g≠gl/\g≠gc/\g≠ge):=by have h1:=RW.out.lt;have h2:=UW.out.lt;have h3:=VW.out.lt;have h4:=L5.out;exact⟨by omega,by omega,by omega⟩
   go_upto_region 15 with fail
   generalize hW:v6.setCell _ _=v7 at*
   clear hW x2 f2 R6
   have x0:=aA 0 R7.out
   have x1:=aA 1 R7.out
   have x2:=aA 2 R7.out
   have S0:=hid (rowIs.ab RW.out A7.out)
   have S1:=hid (S0.out.set (k*3) (.slice (some ⟨gc,xo,none⟩) (y - x) (y - x)))
   have S2:=hid (S1.out.set (k*3+1) (.slice (some ⟨ge,so,none⟩) (r - s) (r - s)))
   have S3:=hid (S2.out.set (k*3+2) (.slice hp lh hc))
   have k3:k*3<P*3/\k*3+1<P*3/\k*3+2<P*3:=by have:=HK.out;omega
   obtain⟨q1,c1⟩: ∃q,v7.cell? ⟨gl,k*3,none⟩=some q:=⟨_,S0.out.cell k3.1⟩
   obtain⟨q2,c2⟩: ∃q,(v7.setCell ⟨gl,k*3,none⟩ (.slice (some ⟨gc,xo,none⟩) (y - x) (y - x))).cell? ⟨gl,k*3+1,none⟩=some q:=⟨_,S1.out.cell k3.2.1⟩
   obtain⟨q3,c3⟩: ∃q,((v7.setCell ⟨gl,k*3,none⟩ (.slice (some ⟨gc,xo,none⟩) (y - x) (y - x))).setCell ⟨gl,k*3+1,none⟩ (.slice (some ⟨ge,so,none⟩) (r - s) (r - s))).cell? ⟨gl,k*3+2,none⟩=some q:=⟨_,S2.out.cell k3.2.2⟩
   obtain⟨q4,c4⟩: ∃q,v7.cell? ⟨gl,k*3+1,none⟩=some q:=⟨_,S0.out.cell k3.2.1⟩
   obtain⟨q5,c5⟩: ∃q,v7.cell? ⟨gl,k*3+2,none⟩=some q:=⟨_,S0.out.cell k3.2.2⟩
   have f0:=S0.out.frozen (k*3)
   have f1:=S1.out.frozen (k*3+1)
   have f2:=S2.out.frozen (k*3+2)
   have f3:=S0.out.frozen (k*3+1)
   have f4:=S0.out.frozen (k*3+2)
   clear k3
   go_wp2_with fail
   clear x0 x1 x2 c1 c2 c3 c4 c5 f0 f1 f2 f3 f4
   have LG:Hid (w.heap.size<=gl):=LT.out.2.2
   have O8:Hid (OwnN v5.heap.size (.slice hp lh hc) (H k) (((v7.setCell ⟨gl,k*3,none⟩ (.slice (some ⟨gc,xo,none⟩) (y - x) (y - x))).setCell ⟨gl,k*3+1,none⟩ (.slice (some ⟨ge,so,none⟩) (r - s) (r - s))).setCell ⟨gl,k*3+2,none⟩ (.slice hp lh hc))):=by
    have nb:(Value.slice hp lh hc).ownBlock≠some gl:=fun h=>by have h1:=(O7.out.blk h).1;have h2:=S5.out;have h3:=RW.out.lt;omega
    exact((O7.out.other _ nb).other _ nb).other _ nb
   have KP:Hid (∀b,b<wr.heap.size->b≠gl->(((v7.setCell ⟨gl,k*3,none⟩ (.slice (some ⟨gc,xo,none⟩) (y - x) (y - x))).setCell ⟨gl,k*3+1,none⟩ (.slice (some ⟨ge,so,none⟩) (r - s) (r - s))).setCell ⟨gl,k*3+2,none⟩ (.slice hp lh hc)).heap[b]? =wr.heap[b]?):=fun b hb hn=>(aH hn).trans ((aH hn).trans ((aH hn).trans (A7.out.block b hb)))
   have PS:=hid (PW.out.step KP.out O8.out S5.out (by have h1:=AW.out.size;have h2:=S5.out;omega) RW.out.lt UW.out.lt VW.out.lt)
   obtain⟨hx,hy,hs,hr⟩:=HX.out
   have U8:Hid (upR gc N (((v7.setCell ⟨gl,k*3,none⟩ (.slice (some ⟨gc,xo,none⟩) (y - x) (y - x))).setCell ⟨gl,k*3+1,none⟩ (.slice (some ⟨ge,so,none⟩) (r - s) (r - s))).setCell ⟨gl,k*3+2,none⟩ (.slice hp lh hc))):=UW.out.of_block (KP.out gc UW.out.lt (by have:=LT.out;omega))
   have V8:Hid (upR ge M (((v7.setCell ⟨gl,k*3,none⟩ (.slice (some ⟨gc,xo,none⟩) (y - x) (y - x))).setCell ⟨gl,k*3+1,none⟩ (.slice (some ⟨ge,so,none⟩) (r - s) (r - s))).setCell ⟨gl,k*3+2,none⟩ (.slice hp lh hc))):=VW.out.of_block (KP.out ge VW.out.lt (by have:=LT.out;omega))
   have A8:Hid (Ab w (((v7.setCell ⟨gl,k*3,none⟩ (.slice (some ⟨gc,xo,none⟩) (y - x) (y - x))).setCell ⟨gl,k*3+1,none⟩ (.slice (some ⟨ge,so,none⟩) (r - s) (r - s))).setCell ⟨gl,k*3+2,none⟩ (.slice hp lh hc))):=(((AW.out.trans A7.out).setk LG.out _).setk LG.out _).setk LG.out _
   rw[hx,hy,hs,hr,EX.out.1,EX.out.2]at PS
   refine⟨⟨k+1,_,by have:=HK.out;omega,by rw[hy],by rw[hr],by simp,A8.out,U8.out,V8.out,S3.out.congr (fun i hi=> ?_),PS.out⟩,by have:=HK.out;simp[intOf];omega⟩
   by_cases e0:i=k*3
   ·subst e0
    rw[if_neg (by omega),if_neg (by omega),if_pos rfl,if_pos (by omega),if_pos rfl]
   ·by_cases e1:i=k*3+1
    ·subst e1
     rw[if_neg (by omega),if_pos rfl,if_pos (by omega),if_neg (by omega),if_pos rfl]
    ·by_cases e2:i=k*3+2
     ·subst e2
      rw[if_pos rfl,if_pos (by omega),if_neg (by omega),if_neg (by omega),if_pos rfl]
     ·rw[if_neg e2,if_neg e1,if_neg e0,if_neg e0,if_neg e1,if_neg e2]
      by_cases l:i<k*3
      ·rw[if_pos l,if_pos (by omega)]
      ·rw[if_neg l,if_neg (by omega)]
  ·have e6:k=P:=by have:=HKL.out;omega
   subst e6
   go_wp2
   refine bodyPost_ret (v:=.tuple #[.slice (some ⟨gl,0,none⟩) k k,.int .i64 0]) ?_ rfl ?_
   ·simp[results,results8,go_sem]
   ·exact⟨gl,gc,ge,X,rfl,AW.out,RW.out.congr (fun i hi=>if_pos hi),UW.out,VW.out,⟨LT.out.2.2,L1.out,L2.out,by have:=LT.out;omega,by have:=LT.out;omega,NE.out⟩,PW.out⟩
theorem splitC:SplitC:=by
 intro n gb parts w hn g h64
 have n1:=n12 hn
 have n2:6*n*n<=6144:=by
  have h1:6*n<=6*32:=Nat.mul_le_mul_left _ hn.2
  exact Nat.le_trans (Nat.mul_le_mul h1 hn.2) (by decide)
 have n0:0<6*n*n:=Nat.mul_pos (Nat.mul_pos (by decide) hn.1) hn.1
 refine⟨fun hp=> ?_,fun hp=> ?_⟩
 ·obtain⟨P,rfl⟩: ∃P:Nat,parts=(P:Nat):=⟨parts.toNat,by omega⟩
  rw[Int.toNat_natCast]
  have hP:1<=P/\P<=64:=by omega
  refine(split_go gb (6*n*n) (12*n*n) P (cO n P) (eO n P) (hlP n P) w ⟨n0,n2⟩ n1 hP (rU _ _) (by unfold eO;rw[rU];rfl) (hid (fun k hk=> ?_)) (hid (fun v a=>dQ (g.to a))) (hid (fun v a=>cT (g.to a))) (hid (fun v m hm=>qN m v hm)) (hid (fun v k a hk=> ?_)) (hid (fun v k gc ge a hk u v'=>halo_at hn hk (g.to a) u v'))).mono ?_
  ·have c1:=hO (N:=6*n*n) (P:=P) (k:=k+1) (by omega) (by omega)
   exact⟨rfl,cP _ _ _,c1,dG (cP _ _ _),kP hn.1 c1⟩
  ·have c1:=hO (N:=6*n*n) (P:=P) (k:=k+1) (by omega) (by omega)
   exact ahead_at hn c1 (dG (cP _ _ _)) (g.to a)
  ·rintro e w' ⟨gl,gc,ge,X,rfl,a1,r1,u1,v1,l1,p1⟩
   exact⟨gl,gc,ge,X,rfl,a1,r1,u1,v1,l1,p1⟩
 ·have h:(decide (parts<1)||decide (64<parts))=true:=by simp;omega
  clear h64 n0 n1 n2 hn g
  by_cases q:parts<1
  ·have d1:decide (parts<1)=true:=decide_eq_true q
   go_enter func8,ntmps8
   go_wp2
   refine bodyPost_ret (v:=.tuple #[.slice none 0 0,.int .i64 1]) ?_ rfl ?_
   ·simp[results,results8,go_sem]
   ·exact⟨rfl,Below.refl _ _⟩
  ·have d1:decide (parts<1)=false:=decide_eq_false q
   have d2:decide (64<parts)=true:=decide_eq_true (by omega)
   go_enter func8,ntmps8
   go_wp2
   refine bodyPost_ret (v:=.tuple #[.slice none 0 0,.int .i64 1]) ?_ rfl ?_
   ·simp[results,results8,go_sem]
   ·exact⟨rfl,Below.refl _ _⟩
end Spl
end
section
open Go.RowKit Tf Cu Go.Deep
attribute [local go_sem] aE
namespace Spl
theorem oK(gb:Nat)(pb pw pt ps:Option Addr)(lb cb lw cw lt ct ls cs:Nat)(sky st:Int)(M N:Nat)(q:Bool)(w:World)
  (hq:(((lb:Int)==(M:Int))=false/\q=false)\/(((lb:Int)==(M:Int))=true/\((lw:Int)==(M:Int))=false/\q=false)\/(((lb:Int)==(M:Int))=true/\((lw:Int)==(M:Int))=true/\((lt:Int)==(M:Int))=false/\q=false)\/(((lb:Int)==(M:Int))=true/\((lw:Int)==(M:Int))=true/\((lt:Int)==(M:Int))=true/\((ls:Int)==(N:Int))=q))
  (CC:Hid (∀v,Ab w v->Calls prog 9 #[(.pointer (some ⟨gb,0,none⟩))] v fun e w'=>e=.returned (.int .i64 (M:Nat))/\Below v.heap.size v w'))
  (CE:Hid (∀v,Ab w v->Calls prog 32 #[(.pointer (some ⟨gb,0,none⟩))] v fun e w'=>e=.returned (.int .i64 (N:Nat))/\Below v.heap.size v w')):
  Calls prog 37 #[(.pointer (some ⟨gb,0,none⟩)),.agg #[.slice pb lb cb,.slice pw lw cw,.slice pt lt ct,.slice ps ls cs,.int .i64 sky,.int .i64 st]] w fun e w'=>e=.returned (.bool q)/\Below w.heap.size w w':=by
 obtain⟨A0,RO⟩:=dT w (.cells #[.slice pb lb cb,.slice pw lw cw,.slice pt lt ct,.slice ps ls cs,.int .i64 sky,.int .i64 st] 41)
 go_enter func37,ntmps37
 go_wp2_with fail
 refine(CC.out _ A0.out).mono ?_
 rintro e9 v1 ⟨rfl,b1⟩
 have A1:Hid (Ab w v1):=A0.out.call b1
 have R1:Hid (v1.heap[w.heap.size]? =some (.cells #[.slice pb lb cb,.slice pw lw cw,.slice pt lt ct,.slice ps ls cs,.int .i64 sky,.int .i64 st] 41)):=Ab.heap b1 RO.out
 clear b1 A0 RO
 go_upto_region 2 with fail
 obtain⟨gs,hgs⟩:=aB w.heap.size
 rw[hgs]at R1 ⊢
 clear hgs
 rcases hq with⟨q1,rfl⟩ | ⟨q1,q2,rfl⟩ | ⟨q1,q2,q3,rfl⟩ | ⟨q1,q2,q3,q4⟩
 ·obtain⟨UU,E,hF1,hF2⟩:=cls v1
  have HU:=hid hF2
  have HU1:=hid hF1
  have HX:Hid (∀u,Ab w (E u)):=fun u=>Ab.trans A1.out (hF1 u)
  have s0: ∀u,(E u).cell? ⟨gs,0,none⟩=some (.slice pb lb cb):=fun u=>aA 0 ((hF1 u).heap R1.out)
  have s1: ∀u,(E u).cell? ⟨gs,1,none⟩=some (.slice pw lw cw):=fun u=>aA 1 ((hF1 u).heap R1.out)
  have s2: ∀u,(E u).cell? ⟨gs,2,none⟩=some (.slice pt lt ct):=fun u=>aA 2 ((hF1 u).heap R1.out)
  have s3: ∀u,(E u).cell? ⟨gs,3,none⟩=some (.slice ps ls cs):=fun u=>aA 3 ((hF1 u).heap R1.out)
  have DD0:=HU.out _ (Ab.refl v1).drew
  clear hF1 hF2
  refine aJ E (by kernel_rfl) (by kernel_rfl) DD0 ?_
  repeat(go_big_quiet_step (first
   | (with_reducible rfl)
   | (go_at_call 32;exact aF HU HU1 (CE.out _ (HX.out _)))))
  refine wpQuiet_nil ?_
  intro z hwz
  obtain⟨u0,hu⟩:=hwz
  have AZ:Hid (Ab w z):=by rw[hu];exact HX.out u0
  clear hu u0
  clear HU HU1 HX DD0 s0 s1 s2 s3
  clear E UU
  go_wp2
  go_ret
  exact⟨rfl,AZ.out⟩
 ·obtain⟨UU,E,hF1,hF2⟩:=cls v1
  have HU:=hid hF2
  have HU1:=hid hF1
  have HX:Hid (∀u,Ab w (E u)):=fun u=>Ab.trans A1.out (hF1 u)
  have s0: ∀u,(E u).cell? ⟨gs,0,none⟩=some (.slice pb lb cb):=fun u=>aA 0 ((hF1 u).heap R1.out)
  have s1: ∀u,(E u).cell? ⟨gs,1,none⟩=some (.slice pw lw cw):=fun u=>aA 1 ((hF1 u).heap R1.out)
  have s2: ∀u,(E u).cell? ⟨gs,2,none⟩=some (.slice pt lt ct):=fun u=>aA 2 ((hF1 u).heap R1.out)
  have s3: ∀u,(E u).cell? ⟨gs,3,none⟩=some (.slice ps ls cs):=fun u=>aA 3 ((hF1 u).heap R1.out)
  have DD0:=HU.out _ (Ab.refl v1).drew
  clear hF1 hF2
  refine aJ E (by kernel_rfl) (by kernel_rfl) DD0 ?_
  repeat(go_big_quiet_step (first
   | (with_reducible rfl)
   | (go_at_call 32;exact aF HU HU1 (CE.out _ (HX.out _)))))
  refine wpQuiet_nil ?_
  intro z hwz
  obtain⟨u0,hu⟩:=hwz
  have AZ:Hid (Ab w z):=by rw[hu];exact HX.out u0
  clear hu u0
  clear HU HU1 HX DD0 s0 s1 s2 s3
  clear E UU
  go_wp2
  go_ret
  exact⟨rfl,AZ.out⟩
 ·obtain⟨UU,E,hF1,hF2⟩:=cls v1
  have HU:=hid hF2
  have HU1:=hid hF1
  have HX:Hid (∀u,Ab w (E u)):=fun u=>Ab.trans A1.out (hF1 u)
  have s0: ∀u,(E u).cell? ⟨gs,0,none⟩=some (.slice pb lb cb):=fun u=>aA 0 ((hF1 u).heap R1.out)
  have s1: ∀u,(E u).cell? ⟨gs,1,none⟩=some (.slice pw lw cw):=fun u=>aA 1 ((hF1 u).heap R1.out)
  have s2: ∀u,(E u).cell? ⟨gs,2,none⟩=some (.slice pt lt ct):=fun u=>aA 2 ((hF1 u).heap R1.out)
  have s3: ∀u,(E u).cell? ⟨gs,3,none⟩=some (.slice ps ls cs):=fun u=>aA 3 ((hF1 u).heap R1.out)
  have DD0:=HU.out _ (Ab.refl v1).drew
  clear hF1 hF2
  refine aJ E (by kernel_rfl) (by kernel_rfl) DD0 ?_
  repeat(go_big_quiet_step (first
   | (with_reducible rfl)
   | (go_at_call 32;exact aF HU HU1 (CE.out _ (HX.out _)))))
  refine wpQuiet_nil ?_
  intro z hwz
  obtain⟨u0,hu⟩:=hwz
  have AZ:Hid (Ab w z):=by rw[hu];exact HX.out u0
  clear hu u0
  clear HU HU1 HX DD0 s0 s1 s2 s3
  clear E UU
  go_wp2
  go_ret
  exact⟨rfl,AZ.out⟩
 ·obtain⟨UU,E,hF1,hF2⟩:=cls v1
  have HU:=hid hF2
  have HU1:=hid hF1
  have HX:Hid (∀u,Ab w (E u)):=fun u=>Ab.trans A1.out (hF1 u)
  have s0: ∀u,(E u).cell? ⟨gs,0,none⟩=some (.slice pb lb cb):=fun u=>aA 0 ((hF1 u).heap R1.out)
  have s1: ∀u,(E u).cell? ⟨gs,1,none⟩=some (.slice pw lw cw):=fun u=>aA 1 ((hF1 u).heap R1.out)
  have s2: ∀u,(E u).cell? ⟨gs,2,none⟩=some (.slice pt lt ct):=fun u=>aA 2 ((hF1 u).heap R1.out)
  have s3: ∀u,(E u).cell? ⟨gs,3,none⟩=some (.slice ps ls cs):=fun u=>aA 3 ((hF1 u).heap R1.out)
  have DD0:=HU.out _ (Ab.refl v1).drew
  clear hF1 hF2
  refine aJ E (by kernel_rfl) (by kernel_rfl) DD0 ?_
  repeat(go_big_quiet_step (first
   | (with_reducible rfl)
   | (go_at_call 32;exact aF HU HU1 (CE.out _ (HX.out _)))))
  refine wpQuiet_nil ?_
  intro z hwz
  obtain⟨u0,hu⟩:=hwz
  have AZ:Hid (Ab w z):=by rw[hu];exact HX.out u0
  clear hu u0
  clear HU HU1 HX DD0 s0 s1 s2 s3
  clear E UU
  go_wp2
  go_ret
  exact⟨rfl,AZ.out⟩
theorem kT(p:Option Addr)(L c N:Nat)(f:Nat->Int)(q:Bool)(w:World)(hL:L<=281474976710656)(hN:N<=12288)(i0:Sh.IsI w p L f)(hq:q=true ↔ wi L f N):Calls prog 38 #[.slice p L c,.int .i64 (N:Nat)] w fun e w'=>e=.returned (.bool q)/\w'=w:=by
 have I0:=hid i0
 have HQ:=hid hq
 have HN:=hid (And.intro hL hN)
 have nB:(N:Int)<=12288:=by omega
 have lB:(L:Int)<=281474976710656:=by omega
 clear i0 hq hL hN
 go_enter func38,ntmps38
 go_wp2
 go_loopw [9] (fun iv wr=> ∃k:Nat,k<=L/\iv=.int .i64 (k:Nat)/\wr=w/\wi k f N) (fun iv _=>L - (intOf iv).toNat)
 case atStart=>exact⟨0,by omega,rfl,by first | trivial | rfl,fun i hi=>by omega⟩
 case round=>
  obtain⟨k,hk,rfl,hw,hi⟩:=hrel
  subst hw
  have HI:=hid hi
  have HKL:=hid hk
  have kB:(k:Int)<=281474976710656:=by have:=HN.out;omega
  clear hi hk
  by_cases hkn:k<L
  ·have HK:=hid hkn
   have kI:(k:Int)<L:=by omega
   obtain⟨b,o,rfl⟩:=I0.out.some0 (show 0<L by omega)
   obtain⟨h1,h2,y1⟩:=I0.out.at0 hkn
   obtain⟨x,hx⟩:=aB (f k)
   rw[hx]at y1 h1
   have HX:=hid hx
   have H1:=hid h1
   clear hx h1 h2 hkn
   by_cases a1:x<0
   ·have d1:decide (x<0)=true:=decide_eq_true a1
    have QF:q=false:=by
     have h:=HQ.out
     cases q
     ·rfl
     ·have:=(h.1 rfl) k HK.out
      rw[HX.out]at this
      omega
    subst QF
    clear a1
    go_wp2
    go_ret
    first | exact⟨rfl,rfl⟩ | exact rfl
   ·have d1:decide (x<0)=false:=decide_eq_false a1
    by_cases a2:x<N
    ·have d2:decide (x≥(N:Int))=false:=decide_eq_false (by omega)
     have d3: ¬(N:Int)<=x:=by omega
     have HS:Hid (wi (k+1) f N):=fun i hi=>by
      by_cases e:i=k
      ·subst e;rw[HX.out];omega
      ·exact HI.out i (by omega)
     clear a1 a2
     go_wp2_with fail
     exact⟨⟨k+1,by have:=HK.out;omega,by simp,by first | trivial | rfl,HS.out⟩,by have:=HK.out;simp[intOf];omega⟩
    ·have d2:decide (x≥(N:Int))=true:=decide_eq_true (by omega)
     have d3:(N:Int)<=x:=by omega
     have QF:q=false:=by
      have h:=HQ.out
      cases q
      ·rfl
      ·have:=(h.1 rfl) k HK.out
       rw[HX.out]at this
       omega
     subst QF
     clear a1 a2
     go_wp2
     go_ret
     first | exact⟨rfl,rfl⟩ | exact rfl
  ·have e6:k=L:=by have:=HKL.out;omega
   subst e6
   have QT:q=true:=HQ.out.2 HI.out
   subst QT
   go_wp2
   go_ret
   first | exact⟨rfl,rfl⟩ | exact rfl
theorem fl_at0{w:World}{b o len k:Nat}{xs:Nat->Nat}(h:IsFl w (some ⟨b,o,none⟩) len xs)(hk:k<len):w.cell? ⟨b,o+k,none⟩=some (.float .f64 (xs k)):=by
 obtain⟨h1,b',o',h2,h3,h4⟩:=h k hk
 cases h2
 exact h4
def hsF(ln:Nat->Nat)(C:Nat->Nat->Int)(J c:Nat):Bool:=(List.range J).any fun j=>hs (ln j) (C j) c
theorem oL(ln:Nat->Nat)(C:Nat->Nat->Int)(J c:Nat):hsF ln C (J+1) c=(hsF ln C J c||hs (ln J) (C J) c):=by
 unfold hsF;rw[List.range_succ,List.any_append];simp
theorem sB(f:Nat->Int)(K c:Nat):hs (K+1) f c=(hs K f c||f K==(c:Int)):=by
 unfold hs;rw[List.range_succ,List.any_append];simp
theorem sC(f:Nat->Int)(c:Nat):hs 0 f c=false:=rfl
def Plc(w:World)(gp np N:Nat)(pl:Nat->Option Addr)(ln cp:Nat->Nat)(C:Nat->Nat->Int):Prop:= ∀j,j<np->ln j<=281474976710656/\w.cell? ⟨gp,j,none⟩=some (.slice (pl j) (ln j) (cp j))/\gp<w.heap.size/\Sh.IsI w (pl j) (ln j) (C j)/\wi (ln j) (C j) N
theorem Plc.to{w w':World}{gp np N:Nat}{pl:Nat->Option Addr}{ln cp:Nat->Nat}{C:Nat->Nat->Int}(h:Plc w gp np N pl ln cp C)(a:Ab w w'):Plc w' gp np N pl ln cp C:=fun j hj=>by
 obtain⟨h1,h2,h3,h4,h5⟩:=h j hj
 exact⟨h1,(Below.cell a h3).trans h2,Nat.lt_of_lt_of_le h3 a.size,h4.below a,h5⟩
theorem infoF22:(Tryd.prog.info? 45).map (fun i=>(i.zero,i.size,i.bytes))=some (some (.float .f64 0),1,8):=by kernel_rfl
theorem infoI22:(Tryd.prog.info? 2).map (fun i=>(i.zero,i.size,i.bytes))=some (some (.int .i64 0),1,8):=by kernel_rfl
theorem oM(gp np N qb ob cb:Nat)(pl:Nat->Option Addr)(ln cp:Nat->Nat)(C:Nat->Nat->Int)(B:Nat->Nat)(w:World)(hN:0<N/\N<=12288)(hp:np<=2)(PL:Hid (Plc w gp np N pl ln cp C))(IB:Hid (IsFl w (some ⟨qb,ob,none⟩) N B)):
  Calls prog 39 #[.slice (some ⟨qb,ob,none⟩) N cb,.slice (some ⟨gp,0,none⟩) np np] w fun e w'=> ∃b,e=.returned (.slice (some ⟨b,0,none⟩) N N)/\Ab w w'/\w.heap.size<=b/\w'.rowIs b 45 N (fun i=>.float .f64 (if hsF ln C np i=true then B i else 0)):=by
 have M2: ∀v:World,(Instr.makeSlice 38 (.int .i64 (N:Nat)) (.int .i64 (N:Nat))).run prog v=.ok (.slice (some ⟨v.heap.size,0,none⟩) N N) (v.alloc (Obj.cells (madeCells #[.float .f64 0] N) 45)):=fun v=>run_make_row' (P:=prog) 38 45 (.float .f64 0) 8 underlying38 infoF22 rfl .i64 .i64 N (by omega) (by omega) v
 have HN:=hid (And.intro hN hp)
 have nB:(N:Int)<=12288:=by omega
 have pB:(np:Int)<=2:=by omega
 clear hN hp
 have A1:=kZ (bl1 w (Obj.cells (madeCells #[.float .f64 0] N) 45))
 have N1:Hid ((w.alloc (Obj.cells (madeCells #[.float .f64 0] N) 45)).rowIs w.heap.size 45 N (fun _=>.float .f64 0)):=bX (heap_alloc_new _ _)
 go_enter func39,ntmps39
 go_upto_region 2 with fail
 generalize hW:World.alloc w _=V1 at*
 obtain⟨b,hb⟩:=aB w.heap.size
 have LE:Hid (w.heap.size<=b):=by show _<=_;omega
 rw[hb]at N1 ⊢
 clear hb hW M2
 go_wp2
 go_loopw [15] (fun iv wr=> ∃j:Nat,j<=np/\iv=.int .i64 (j:Nat)/\Ab w wr/\wr.rowIs b 45 N (fun i=>.float .f64 (if hsF ln C j i=true then B i else 0))) (fun iv _=>np - (intOf iv).toNat)
 case atStart=>exact⟨0,by omega,rfl,A1.out,N1.out.congr (fun i _=>by simp[hsF])⟩
 case round=>
  obtain⟨j,hj,rfl,ar',r2⟩:=hrel
  have AW:=hid ar'
  have P2:=hid r2
  have HJL:=hid hj
  have jB:(j:Int)<=2:=by have:=HN.out;omega
  clear ar' r2 N1 A1 hj
  by_cases hjn:j<np
  ·have HJ:=hid hjn
   have jI:(j:Int)<np:=by omega
   obtain⟨l1,_,_,il,wl⟩:=PL.out j hjn
   have y1:=(PL.out.to AW.out j hjn).2.1
   have IL:=hid il
   have WL:=hid wl
   have SF:=hid (fun c=>oL ln C j c)
   obtain⟨p,hp⟩:=aB (pl j)
   obtain⟨L,hL⟩:=aB (ln j)
   obtain⟨cc,hcc⟩:=aB (cp j)
   obtain⟨f,hf⟩:=aB (C j)
   rw[hL]at l1 y1 IL WL SF
   rw[hp]at y1 IL
   rw[hcc]at y1
   rw[hf]at IL WL SF
   have lB:(L:Int)<=281474976710656:=by omega
   have HL:=hid l1
   clear hp hL hcc hf il wl hjn l1
   go_wp2_with fail
   rename World=>wq
   go_loopw [21] (fun iv wr=> ∃k:Nat,k<=L/\iv=.int .i64 (k:Nat)/\Ab w wr/\wr.rowIs b 45 N (fun i=>.float .f64 (if(hsF ln C j i||hs k f i)=true then B i else 0))) (fun iv _=>L - (intOf iv).toNat)
   case atStart=>exact⟨0,by omega,rfl,AW.out,P2.out.congr (fun i _=>by simp[sC])⟩
   case round=>
    obtain⟨k,hk,rfl,ar',r2⟩:=hrel
    have AX:=hid ar'
    have P3:=hid r2
    have I3:=hid (IL.out.below AX.out)
    have HKL:=hid hk
    have kB:(k:Int)<=281474976710656:=by have:=HL.out;omega
    clear ar' r2 AW P2 y1 hk
    by_cases hkn:k<L
    ·have HK:=hid hkn
     have kI:(k:Int)<L:=by omega
     have SK:=hid (fun c=>sB f k c)
     obtain⟨pb,po,e9⟩:=I3.out.some0 (show 0<L by omega)
     subst e9
     obtain⟨h1,h2,y1⟩:=I3.out.at0 hkn
     have hx:=WL.out k hkn
     obtain⟨x,hx2⟩: ∃x:Nat,f k=(x:Nat):=⟨(f k).toNat,by omega⟩
     rw[hx2]at y1 hx SK
     have xI:(x:Int)<N:=hx.2
     have xN:x<N:=by omega
     have yb:wr.cell? ⟨qb,ob+x,none⟩=some (.float .f64 (B x)):=(fl_at0 (IB.out.below AX.out) xN)
     have z1:=P3.out.cell xN
     have z2:=P3.out.frozen x
     obtain⟨u,hu⟩:=aB (B x)
     rw[hu]at yb
     have HU:=hid hu
     clear h1 h2 hx hx2 xN hu hkn
     go_wp2_with fail
     refine⟨⟨k+1,by have:=HK.out;omega,by simp,AX.out.setk LE.out _,(P3.out.set x _).congr (fun i _=> ?_)⟩,by have:=HK.out;simp[intOf];omega⟩
     rw[SK.out i]
     by_cases e:i=x
     ·subst e;simp[HU.out]
     ·have e2:((x:Int)==(i:Int))=false:=by simp;omega
      rw[e2]
      simp[e]
    ·have e6:k=L:=by have:=HKL.out;omega
     subst e6
     go_wp2_with fail
     refine⟨⟨j+1,by have:=HJ.out;omega,by simp,AX.out,P3.out.congr (fun i _=>by rw[SF.out i])⟩,by have:=HJ.out;simp[intOf];omega⟩
  ·have e6:j=np:=by have:=HJL.out;omega
   subst e6
   go_wp2
   go_ret
   exact⟨b,rfl,AW.out,LE.out,P2.out⟩
theorem oO(gp np N qb ob cb:Nat)(pl:Nat->Option Addr)(ln cp:Nat->Nat)(C:Nat->Nat->Int)(B:Nat->Int)(w:World)(hN:0<N/\N<=12288)(hp:np<=2)(PL:Hid (Plc w gp np N pl ln cp C))(IB:Hid (Sh.IsI w (some ⟨qb,ob,none⟩) N B)):
  Calls prog 40 #[.slice (some ⟨qb,ob,none⟩) N cb,.slice (some ⟨gp,0,none⟩) np np] w fun e w'=> ∃b,e=.returned (.slice (some ⟨b,0,none⟩) N N)/\Ab w w'/\w.heap.size<=b/\w'.rowIs b 2 N (fun i=>.int .i64 (if hsF ln C np i=true then B i else 0)):=by
 have M2: ∀v:World,(Instr.makeSlice 39 (.int .i64 (N:Nat)) (.int .i64 (N:Nat))).run prog v=.ok (.slice (some ⟨v.heap.size,0,none⟩) N N) (v.alloc (Obj.cells (madeCells #[.int .i64 0] N) 2)):=fun v=>run_make_row' (P:=prog) 39 2 (.int .i64 0) 8 underlying39 infoI22 rfl .i64 .i64 N (by omega) (by omega) v
 have HN:=hid (And.intro hN hp)
 have nB:(N:Int)<=12288:=by omega
 have pB:(np:Int)<=2:=by omega
 clear hN hp
 have A1:=kZ (bl1 w (Obj.cells (madeCells #[.int .i64 0] N) 2))
 have N1:Hid ((w.alloc (Obj.cells (madeCells #[.int .i64 0] N) 2)).rowIs w.heap.size 2 N (fun _=>.int .i64 0)):=bX (heap_alloc_new _ _)
 go_enter func40,ntmps40
 go_upto_region 2 with fail
 generalize hW:World.alloc w _=V1 at*
 obtain⟨b,hb⟩:=aB w.heap.size
 have LE:Hid (w.heap.size<=b):=by show _<=_;omega
 rw[hb]at N1 ⊢
 clear hb hW M2
 go_wp2
 go_loopw [15] (fun iv wr=> ∃j:Nat,j<=np/\iv=.int .i64 (j:Nat)/\Ab w wr/\wr.rowIs b 2 N (fun i=>.int .i64 (if hsF ln C j i=true then B i else 0))) (fun iv _=>np - (intOf iv).toNat)
 case atStart=>exact⟨0,by omega,rfl,A1.out,N1.out.congr (fun i _=>by simp[hsF])⟩
 case round=>
  obtain⟨j,hj,rfl,ar',r2⟩:=hrel
  have AW:=hid ar'
  have P2:=hid r2
  have HJL:=hid hj
  have jB:(j:Int)<=2:=by have:=HN.out;omega
  clear ar' r2 N1 A1 hj
  by_cases hjn:j<np
  ·have HJ:=hid hjn
   have jI:(j:Int)<np:=by omega
   obtain⟨l1,_,_,il,wl⟩:=PL.out j hjn
   have y1:=(PL.out.to AW.out j hjn).2.1
   have IL:=hid il
   have WL:=hid wl
   have SF:=hid (fun c=>oL ln C j c)
   obtain⟨p,hp⟩:=aB (pl j)
   obtain⟨L,hL⟩:=aB (ln j)
   obtain⟨cc,hcc⟩:=aB (cp j)
   obtain⟨f,hf⟩:=aB (C j)
   rw[hL]at l1 y1 IL WL SF
   rw[hp]at y1 IL
   rw[hcc]at y1
   rw[hf]at IL WL SF
   have lB:(L:Int)<=281474976710656:=by omega
   have HL:=hid l1
   clear hp hL hcc hf il wl hjn l1
   go_wp2_with fail
   rename World=>wq
   go_loopw [21] (fun iv wr=> ∃k:Nat,k<=L/\iv=.int .i64 (k:Nat)/\Ab w wr/\wr.rowIs b 2 N (fun i=>.int .i64 (if(hsF ln C j i||hs k f i)=true then B i else 0))) (fun iv _=>L - (intOf iv).toNat)
   case atStart=>exact⟨0,by omega,rfl,AW.out,P2.out.congr (fun i _=>by simp[sC])⟩
   case round=>
    obtain⟨k,hk,rfl,ar',r2⟩:=hrel
    have AX:=hid ar'
    have P3:=hid r2
    have I3:=hid (IL.out.below AX.out)
    have HKL:=hid hk
    have kB:(k:Int)<=281474976710656:=by have:=HL.out;omega
    clear ar' r2 AW P2 y1 hk
    by_cases hkn:k<L
    ·have HK:=hid hkn
     have kI:(k:Int)<L:=by omega
     have SK:=hid (fun c=>sB f k c)
     obtain⟨pb,po,e9⟩:=I3.out.some0 (show 0<L by omega)
     subst e9
     obtain⟨h1,h2,y1⟩:=I3.out.at0 hkn
     have hx:=WL.out k hkn
     obtain⟨x,hx2⟩: ∃x:Nat,f k=(x:Nat):=⟨(f k).toNat,by omega⟩
     rw[hx2]at y1 hx SK
     have xI:(x:Int)<N:=hx.2
     have xN:x<N:=by omega
     have yb:wr.cell? ⟨qb,ob+x,none⟩=some (.int .i64 (B x)):=((IB.out.below AX.out).at0 xN).2.2
     have z1:=P3.out.cell xN
     have z2:=P3.out.frozen x
     obtain⟨u,hu⟩:=aB (B x)
     rw[hu]at yb
     have HU:=hid hu
     clear h1 h2 hx hx2 xN hu hkn
     go_wp2_with fail
     refine⟨⟨k+1,by have:=HK.out;omega,by simp,AX.out.setk LE.out _,(P3.out.set x _).congr (fun i _=> ?_)⟩,by have:=HK.out;simp[intOf];omega⟩
     rw[SK.out i]
     by_cases e:i=x
     ·subst e;simp[HU.out]
     ·have e2:((x:Int)==(i:Int))=false:=by simp;omega
      rw[e2]
      simp[e]
    ·have e6:k=L:=by have:=HKL.out;omega
     subst e6
     go_wp2_with fail
     refine⟨⟨j+1,by have:=HJ.out;omega,by simp,AX.out,P3.out.congr (fun i _=>by rw[SF.out i])⟩,by have:=HJ.out;simp[intOf];omega⟩
  ·have e6:j=np:=by have:=HJL.out;omega
   subst e6
   go_wp2
   go_ret
   exact⟨b,rfl,AW.out,LE.out,P2.out⟩
end Spl
end
end Go.Proofs.YtjheiemgfibgpaaDoor
