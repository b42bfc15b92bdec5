/-
  Some of the texts of this proof, one behind the other.
-/
import Derived.WalkKit
import Derived.Laws.StructEq
import Derived.Test.YtaphajlpbgcfjaaGreatDoorMa05
set_option maxRecDepth 100000
set_option maxHeartbeats 400000000
namespace Go.Proofs.YtaphajlpbgcfjaaGreatDoor
open _root_.Go.Proofs.Tryz
section
open Go.RowKit Cu Tf
theorem yT(gb mb eb cap c s x y:Nat)(sg:Int)(w:World)(M:Nat)(hk:(x:Int)<M)(lg:gb<w.heap.size)(le:eb<w.heap.size)
  (c1:w.cell? ⟨gb,1,none⟩=some (.slice (some ⟨eb,0,none⟩) M cap)) (c2:w.cell? ⟨gb,2,none⟩=some (.map (some mb)))
  (LK:(Instr.lookup 84 (.map (some mb)) (.agg #[.int .i64 c,.int .i64 s]) false).run prog w=.ok (.agg #[.int .i64 x,.int .i64 sg]) w)
  (HY:Hid ((sg=1/\w.cell? ⟨eb,x*4+2,none⟩=some (.int .i64 y))\/(sg= -1/\w.cell? ⟨eb,x*4,none⟩=some (.int .i64 y)))):
  Calls prog 105 #[.pointer (some ⟨gb,0,none⟩),.int .i64 c,.int .i64 s] w fun e w'=>e=.returned (.int .i64 y)/\Below w.heap.size w w':=by
 rcases HY.out with⟨rfl,hy⟩ | ⟨rfl,hy⟩
 ·clear HY
  go_enter func105,ntmps105
  go_upto_region 3 with fail
  go_region
  go_wp2
  go_ret
  exact⟨rfl,by first | exact bl1 w _ | exact Below.drew (bl1 w _)⟩
 ·clear HY
  go_enter func105,ntmps105
  go_upto_region 4 with fail
  go_region
  go_wp2
  go_ret
  exact⟨rfl,by first | exact bl1 w _ | exact Below.drew (bl1 w _)⟩
theorem pP(n gb mb eb cap m c s:Nat)(v3 v4 v5 v6:Value)(w:World)(hn:1<=n/\n<=32)(hc:c<6*n*n)(hs:s<4)(G:GX n gb mb eb cap m v3 v4 v5 v6 w):
  Calls prog 105 #[.pointer (some ⟨gb,0,none⟩),.int .i64 c,.int .i64 s] w fun e w'=>e=.returned (.int .i64 (bsC n c s:Nat))/\Below w.heap.size w w':=by
 have ht:=eU hc hs
 have hd:=lZ (c:=c) hs
 have h12:=n12 hn
 have LK:=G.2.2.1.look (c:=c) (s:=s) (by unfold W64;omega) (by unfold W64;omega)
 rw[gT_end hn.1 hc hs]at LK
 refine yT gb mb eb cap c s (eE n (4*c+s)) (bsC n c s) (eS n (4*c+s)) w (12*n*n) (by have:=eV hn.1 ht;omega) (lt_of_block G.1) G.2.1.1 G.cells.2.1 G.cells.2.2.1 LK ?_
 show _\/_
 unfold eE eS
 cases hl:isL n (4*c+s)with
 | true=>
  refine .inl ⟨rfl,?_⟩
  have h:=(G.2.1.2 _ ht hl).2.2.1
  rw[hd.1,hd.2]at h
  exact h
 | false=>
  refine .inr ⟨rfl,?_⟩
  have h:=(G.2.1.2 _ (cV hn.1 ht) (by rw[gJ hn.1 ht,hl];rfl)).1
  rw[(fQ hn.1 ht).1,hd.1,hd.2]at h
  exact h
theorem set2{W w:World}{g:Nat}{x y:Value}{T:TypeId}(h:Abx W g 2 T w):((w.setCell ⟨g,0,none⟩ x).setCell ⟨g,1,none⟩ y).heap[g]? =some (.cells #[x,y] T):=by
 obtain⟨_,cs,h6,h⟩:=h
 obtain⟨a,b,rfl⟩: ∃a b,cs= #[a,b]:=by
  rcases cs with⟨l⟩
  match l,h6 with
  | [a,b],_=>exact⟨a,b,rfl⟩
 have h1:=aM (v:=x) (k:=0) h
 have h2:=aM (v:=y) (k:=1) h1
 simpa using h2
theorem rS(n gb mb eb cap m t:Nat)(v3 v4 v5 v6:Value)(w:World)(hn:1<=n/\n<=32)(ht:t<24*n*n)(hl:isL n t=true)(G:GX n gb mb eb cap m v3 v4 v5 v6 w):
  Calls prog 51 #[.pointer (some ⟨gb,0,none⟩),.int .i64 (eN n t:Nat)] w fun e w'=>e=.returned (.agg #[.int .i64 (bsC n (t/4) ((t%4+2)%4):Nat),.int .i64 (bsC n (bsC n (t/4) (t%4)) ((bsS n (t/4) (t%4)+2)%4):Nat)])/\Below w.heap.size w w':=by
 obtain⟨b1,b2⟩:=tV hn.1 (aZ ht) (s:=t%4) (by omega)
 have O1:=hid (fun u=>pO (t%4) u (by omega))
 have O2:=hid (fun u=>pO (bsS n (t/4) (t%4)) u b2)
 have C1:=hid (fun u (hu:Ab w u)=>pP n gb mb eb cap m (t/4) ((t%4+2)%4) v3 v4 v5 v6 u hn (aZ ht) (by omega) (G.to hu))
 have C2:=hid (fun u (hu:Ab w u)=>pP n gb mb eb cap m (bsC n (t/4) (t%4)) ((bsS n (t/4) (t%4)+2)%4) v3 v4 v5 v6 u hn b1 (by omega) (G.to hu))
 have c1:=G.cells.2.1
 obtain⟨y0,y1,y2,y3⟩:=G.2.1.2 t ht hl
 have kN:=lJ hn.1 ht hl
 have kM:=(n12 hn).1
 have hcap:=G.2.2.2.1
 have lg:=lt_of_block G.1
 have le:=G.2.1.1
 have h1:=hid (heap_alloc_new w (.cells #[.int .i64 0,.int .i64 0] 93))
 generalize bsC n (bsC n (t/4) (t%4)) ((bsS n (t/4) (t%4)+2)%4)=q2 at*
 generalize bsC n (t/4) ((t%4+2)%4)=q1 at*
 generalize(bsS n (t/4) (t%4)+2)%4=o2 at*
 generalize(t%4+2)%4=o1 at*
 generalize bsC n (t/4) (t%4)=d at*
 generalize bsS n (t/4) (t%4)=b at*
 generalize t/4=c at*
 generalize t%4=s at*
 generalize 12*n*n=M at*
 generalize eN n t=k at*
 have hk1:(k:Int)<M:=by omega
 have hk2:(M:Int)<=12288:=by omega
 clear hn ht hl G kN kM b1 b2
 go_enter func51,ntmps51
 go_upto_region 2 with fail
 generalize hW:World.alloc _ _=W
 have ra:W.heap[w.heap.size]? =some (.cells #[.int .i64 0,.int .i64 0] 93):=by rw[<- hW];exact heap_alloc2_old _ _ _
 have rb:W.heap[w.heap.size+1]? =some (.cells #[.int .i64 c,.int .i64 s,.int .i64 d,.int .i64 b] 116):=by rw[<- hW];exact heap_alloc2_new _ _ _
 have AW:Hid (Ab w W):=by rw[<- hW];exact bl2 _ _ _
 have KS:Hid (∀w',Abx W w.heap.size 2 93 w'->Abx W w.heap.size 2 93 w'/\w'.cell? ⟨w.heap.size+1,0,none⟩=some (.int .i64 c)/\w'.cell? ⟨w.heap.size+1,1,none⟩=some (.int .i64 s)/\w'.cell? ⟨w.heap.size+1,2,none⟩=some (.int .i64 d)/\w'.cell? ⟨w.heap.size+1,3,none⟩=some (.int .i64 b)/\w'.frozen? ⟨w.heap.size,0,none⟩=false/\w'.frozen? ⟨w.heap.size,1,none⟩=false/\w'.cell? ⟨w.heap.size,0,none⟩=some (rv w' w.heap.size 0)/\w'.cell? ⟨w.heap.size,1,none⟩=some (rv w' w.heap.size 1)):=by
  intro w' hw
  have h:=hw.heap (k:=w.heap.size+1) (by omega) rb
  exact⟨hw,aA 0 h,aA 1 h,aA 2 h,aA 3 h,hw.free 0,hw.free 1,hw.some (by omega),hw.some (by omega)⟩
 have A1:Abx W w.heap.size 2 93 W:=(Ab.refl W).x rfl ra
 have D1:Hid (∀u,Abx W w.heap.size 2 93 u->Calls prog 105 #[.pointer (some ⟨gb,0,none⟩),.int .i64 c,.int .i64 o1] u fun e w'=>e=.returned (.int .i64 q1)/\Below u.heap.size u w'):=fun u hu=>C1.out u (hu.ab AW.out (Nat.le_refl _))
 have D2:Hid (∀u,Abx W w.heap.size 2 93 u->Calls prog 105 #[.pointer (some ⟨gb,0,none⟩),.int .i64 d,.int .i64 o2] u fun e w'=>e=.returned (.int .i64 q2)/\Below u.heap.size u w'):=fun u hu=>C2.out u (hu.ab AW.out (Nat.le_refl _))
 clear ra rb hW h1 y0 y1 y2 y3 c1 C1 C2
 go_region_held3 (fun w'=>Abx W w.heap.size 2 93 w'/\w'.cell? ⟨w.heap.size+1,0,none⟩=some (.int .i64 c)/\w'.cell? ⟨w.heap.size+1,1,none⟩=some (.int .i64 s)/\w'.cell? ⟨w.heap.size+1,2,none⟩=some (.int .i64 d)/\w'.cell? ⟨w.heap.size+1,3,none⟩=some (.int .i64 b)/\w'.frozen? ⟨w.heap.size,0,none⟩=false/\w'.frozen? ⟨w.heap.size,1,none⟩=false/\w'.cell? ⟨w.heap.size,0,none⟩=some (rv w' w.heap.size 0)/\w'.cell? ⟨w.heap.size,1,none⟩=some (rv w' w.heap.size 1)) ((refine KS.out _ ?_;(with_reducible (repeat(first | assumption | apply Abx.drew | apply Abx.set | (refine Abx.call ?_ (by assumption)))));done)) (first
  | (go_at_call_of 106 s;refine(O1.out _).mono ?_;rintro e w2 ⟨rfl,rfl⟩)
  | (go_at_call_of 106 b;refine(O2.out _).mono ?_;rintro e w2 ⟨rfl,rfl⟩)
  | (go_at_call_of 105 o1;refine(D1.out _ ?_).mono ?_;(exact And.left (by assumption));rintro e w3 ⟨rfl,b3⟩)
  | (go_at_call_of 105 o2;refine(D2.out _ ?_).mono ?_;(exact And.left (by assumption));rintro e w4 ⟨rfl,b4⟩))
 have A4:Abx W w.heap.size 2 93 w4:=Abx.call (Abx.call A1.drew b3) b4
 clear KS A1 b3 b4
 go_wp2
 refine bodyPost_ret ?_ rfl ⟨rfl,?_⟩
 ·exact results_cell_row results51 _ _ w.heap.size _ _ (0,0) _ rfl (set2 A4) underlying93 rfl (by kernel_rfl)
 ·exact((A4.set 0 _).set 1 _).ab AW.out (Nat.le_refl _)
end
section
open Go.RowKit Cu Tf
def edT(n k:Nat):Nat:=((List.range (24*n*n)).find? (fun t=>isL n t&&eN n t==k)).getD 0
theorem bK{n k:Nat}(hn:1<=n)(hk:k<12*n*n):edT n k<24*n*n/\isL n (edT n k)=true/\eN n (edT n k)=k:=by
 obtain⟨t,h1,h2,h3⟩:=ed_ex hn hk
 unfold edT
 cases h:(List.range (24*n*n)).find? (fun t=>isL n t&&eN n t==k)with
 | none=>
  have:=List.find?_eq_none.1 h t (List.mem_range.2 h1)
  simp[h2,h3]at this
 | some u=>
  have h4:=List.find?_some h
  have h5:=List.mem_range.1 (List.mem_of_find?_eq_some h)
  simp at h4
  exact⟨h5,h4.1,h4.2⟩
theorem lP{n t:Nat}(hn:1<=n)(ht:t<24*n*n)(hl:isL n t=true):edT n (eN n t)=t:=by
 obtain⟨h1,h2,h3⟩:=bK hn (lJ hn ht hl)
 exact eN_inj h2 hl h3
theorem made_two(w:World)(N:Nat):(w.alloc (.cells (madeCells #[.int .i64 0,.int .i64 0] (N*2)) 93)).rowIs w.heap.size 93 (N*2) (fun _=>.int .i64 0):=by
 refine⟨_,heap_alloc_new _ _,size_madeCells _ _,fun i hi=> ?_⟩
 have h2:i%2=0\/i%2=1:=by omega
 rcases h2 with h2 | h2<;>simp[madeCells,hi,h2]
theorem BA(N gb:Nat)(f g:Nat->Int)(w:World)(hN:(N:Int)<=12288)
  (H:Hid (∀k:Nat,k<N-> ∀w',Ab w w'->Calls prog 51 #[.pointer (some ⟨gb,0,none⟩),.int .i64 k] w' fun e w''=>e=.returned (.agg #[.int .i64 (f k),.int .i64 (g k)])/\Below w'.heap.size w' w'')):
  Calls prog 50 #[.int .i64 N,.func (.func 51) #[.pointer (some ⟨gb,0,none⟩)] #[]] w fun e w'=>e=.returned (.slice (some ⟨w.heap.size,0,none⟩) N N)/\Below w.heap.size w w'/\w'.rowIs w.heap.size 93 (N*2) (fun i=>.int .i64 (if i%2=0 then f (i/2)else g (i/2))):=by
 obtain⟨i0,hi,hz0,hz1,hz2⟩:=info_parts infoTwo
 have MK:=run_make (P:=prog) w 86 93 i0 (.agg #[.int .i64 0,.int .i64 0]) underlying86 hi hz0 .i64 .i64 N N (by omega) (Int.le_refl _) (by rw[hz2];omega) (by omega)
 rw[hz1]at MK
 simp only[Int.toNat_natCast]at MK
 have e0:(Value.agg #[.int .i64 0,.int .i64 0]).cells= #[.int .i64 0,.int .i64 0]:=rfl
 rw[e0]at MK
 clear hi hz0 hz1 hz2 e0
 obtain⟨ob,hob⟩:=aD w.heap.size
 have RW:Hid ((w.alloc (.cells (madeCells #[.int .i64 0,.int .i64 0] (N*2)) 93)).rowIs ob 93 (N*2) (fun _=>.int .i64 0)):=by rw[<- hob];exact made_two _ _
 have A0:Hid (Ab w (w.alloc (.cells (madeCells #[.int .i64 0,.int .i64 0] (N*2)) 93))):=bl1 w _
 have HO:Hid (w.heap.size<=ob):=Nat.le_of_eq hob
 generalize w.alloc (.cells (madeCells #[.int .i64 0,.int .i64 0] (N*2)) 93)=wm at*
 go_enter func50,ntmps50
 go_wp2
 have HB:=hid hob
 clear MK hob
 go_loopw [11] (fun iv wr=> ∃k:Nat,k<=N/\iv=.int .i64 (k:Nat)/\Ab w wr/\wr.rowIs ob 93 (N*2) (fun i=>.int .i64 (if i/2<k then(if i%2=0 then f (i/2)else g (i/2))else 0))) (fun iv _=>N - (intOf iv).toNat)
 case atStart=>exact⟨0,by omega,rfl,A0.out,RW.out.congr (fun i _=>by simp)⟩
 case round=>
  obtain⟨k,hk,rfl,A,R⟩:=hrel
  have A1:=hid A
  have R1:=hid R
  clear A R A0 RW
  by_cases hkN:k<N
  ·have hkN':(k:Int)<N:=by omega
   have C:=hid (H.out k hkN wr A1.out)
   have HK:=hid hkN
   go_wp2_with fail
   refine C.out.mono ?_
   rintro e w1 ⟨rfl,b1⟩
   have A2:Hid (Ab w w1):=A1.out.call b1
   have R2:=hid (rowIs.ab R1.out b1)
   have x1:=R2.out.cell (i:=k*2) (by omega)
   have x2:=R2.out.frozen (k*2)
   have x3:=R2.out.cell (i:=k*2+1) (by omega)
   have x4:=R2.out.frozen (k*2+1)
   clear b1 C A1 R1 hkN
   go_wp2
   go_roundw
   case rel=>
    refine⟨k+1,by omega,by simp,Ab.setk (Ab.setk A2.out HO.out _) HO.out _,((R2.out.set (k*2) (.int .i64 (f k))).set (k*2+1) (.int .i64 (g k))).congr (fun i _=> ?_)⟩
    have q1:(k*2)/2=k:=by omega
    have q2:(k*2+1)/2=k:=by omega
    by_cases e1:i=k*2+1
    ·subst e1
     simp[q2]
    ·by_cases e2:i=k*2
     ·subst e2;simp[q1]
     ·have e3:(i/2<k+1) ↔ i/2<k:=by omega
      simp[e1,e2,e3]
   case measure=>have:=HK.out;simp[intOf];omega
  ·obtain rfl:k=N:=by omega
   go_wp2
   go_ret
   rw[HB.out]
   refine⟨rfl,by have h:=A1.out;unfold Ab at h;rw[HB.out]at h;exact h,R1.out.congr (fun i hi=> ?_)⟩
   have:i/2<k:=by omega
   simp[this]
end
section
open Go.RowKit Cu Tf
def bhC(n i:Nat):Int:=if i%2=0 then(bsC n (edT n (i/2)/4) ((edT n (i/2)%4+2)%4):Nat)else(bsC n (bsC n (edT n (i/2)/4) (edT n (i/2)%4)) ((bsS n (edT n (i/2)/4) (edT n (i/2)%4)+2)%4):Nat)
def GridOf(n gb:Nat)(w:World):Prop:=
 ∃mb eb cap m bb ab lb pb,GX n gb mb eb cap m (.slice (some ⟨bb,0,none⟩) (12*n*n) (12*n*n)) (.slice (some ⟨ab,0,none⟩) (6*n*n) (6*n*n)) (.slice (some ⟨lb,0,none⟩) (12*n*n) (12*n*n)) (.slice (some ⟨pb,0,none⟩) (12*n*n) (12*n*n)) w/\
  w.rowIs bb 93 (12*n*n*2) (fun i=>.int .i64 (bhC n i))/\w.rowIs ab 2 (6*n*n) (fun k=>.int .i64 (arI (ArC n k)))/\
  w.rowIs lb 22 (12*n*n) (fun k=>.float .f64 (LnC n (edT n k/4) (edT n k%4)))/\w.rowIs pb 22 (12*n*n) (fun k=>.float .f64 (GpC n (edT n k/4) (edT n k%4)))
theorem GridOf.to{n gb:Nat}{w w':World}(h:GridOf n gb w)(a:Ab w w'):GridOf n gb w':=by
 obtain⟨mb,eb,cap,m,bb,ab,lb,pb,h1,h2,h3,h4,h5⟩:=h
 exact⟨mb,eb,cap,m,bb,ab,lb,pb,h1.to a,rowIs.ab h2 a,rowIs.ab h3 a,rowIs.ab h4 a,rowIs.ab h5 a⟩
theorem EG.set{w:World}{n eb gb k:Nat}{v:Value}(h:EG w n eb)(hne:gb≠eb):EG (w.setCell ⟨gb,k,none⟩ v) n eb:=by
 have hb:(w.setCell ⟨gb,k,none⟩ v).heap[eb]? =w.heap[eb]? :=Below.heap_setCell _ _ _ _ (fun e=>hne e.symm)
 refine⟨by simpa [World.setCell]using h.1,fun t ht hl=> ?_⟩
 have hc: ∀j,(w.setCell ⟨gb,k,none⟩ v).cell? ⟨eb,j,none⟩=w.cell? ⟨eb,j,none⟩:=fun j=>World.cell?_of_block (by exact hb)
 simp only[hc]
 exact h.2 t ht hl
theorem GX.put3{n gb mb eb cap m:Nat}{v3 v4 v5 v6:Value}{w:World}(h:GX n gb mb eb cap m v3 v4 v5 v6 w)(v:Value):GX n gb mb eb cap m v v4 v5 v6 (w.setCell ⟨gb,3,none⟩ v):=by
 obtain⟨h1,h2,h3,h4,h5,h6,h7⟩:=h
 refine⟨?_,h2.set h7,h3.block (Below.heap_setCell _ _ _ _ (fun e=>h6 e.symm)),h4,h5,h6,h7⟩
 have:=aM (v:=v) (k:=3) h1
 simpa using this
theorem GX.put4{n gb mb eb cap m:Nat}{v3 v4 v5 v6:Value}{w:World}(h:GX n gb mb eb cap m v3 v4 v5 v6 w)(v:Value):GX n gb mb eb cap m v3 v v5 v6 (w.setCell ⟨gb,4,none⟩ v):=by
 obtain⟨h1,h2,h3,h4,h5,h6,h7⟩:=h
 refine⟨?_,h2.set h7,h3.block (Below.heap_setCell _ _ _ _ (fun e=>h6 e.symm)),h4,h5,h6,h7⟩
 have:=aM (v:=v) (k:=4) h1
 simpa using this
theorem GX.put5{n gb mb eb cap m:Nat}{v3 v4 v5 v6:Value}{w:World}(h:GX n gb mb eb cap m v3 v4 v5 v6 w)(v:Value):GX n gb mb eb cap m v3 v4 v v6 (w.setCell ⟨gb,5,none⟩ v):=by
 obtain⟨h1,h2,h3,h4,h5,h6,h7⟩:=h
 refine⟨?_,h2.set h7,h3.block (Below.heap_setCell _ _ _ _ (fun e=>h6 e.symm)),h4,h5,h6,h7⟩
 have:=aM (v:=v) (k:=5) h1
 simpa using this
theorem GX.put6{n gb mb eb cap m:Nat}{v3 v4 v5 v6:Value}{w:World}(h:GX n gb mb eb cap m v3 v4 v5 v6 w)(v:Value):GX n gb mb eb cap m v3 v4 v5 v (w.setCell ⟨gb,6,none⟩ v):=by
 obtain⟨h1,h2,h3,h4,h5,h6,h7⟩:=h
 refine⟨?_,h2.set h7,h3.block (Below.heap_setCell _ _ _ _ (fun e=>h6 e.symm)),h4,h5,h6,h7⟩
 have:=aM (v:=v) (k:=6) h1
 simpa using this
theorem GX.fr{n gb mb eb cap m:Nat}{v3 v4 v5 v6:Value}{w:World}(h:GX n gb mb eb cap m v3 v4 v5 v6 w)(k:Nat):w.frozen? ⟨gb,k,none⟩=false:=aG h.1 k
theorem BD(k:Int)(w:World):(Instr.makeMap 84 (some (.int .i64 k))).run prog w=.ok (.map (some w.heap.size)) (w.alloc (.map #[] 0)):=by
 simp[Instr.makeMap,run_underlying underlying84,asInt,asIntOf]
theorem ge_start(n:Nat)(w:World):GE w.heap.size n 0 (w.heap.size+1) w.heap.size (.slice none 0 0) (.slice none 0 0) (.slice none 0 0) (.slice none 0 0) (.slice none 0 0) ((w.alloc (.map #[] 0)).alloc (.cells #[.int .i64 n,.slice none 0 0,.map (some w.heap.size),.slice none 0 0,.slice none 0 0,.slice none 0 0,.slice none 0 0] 88)):=by
 refine⟨heap_alloc2_new _ _ _,World.ownsRow_nil _ _ _ _,?_,⟨by omega,by omega,by omega⟩,by simp[Value.ownBlock],by simp[Value.ownBlock]⟩
 have h:=(MapIs.made w).congr (g':=gT n 0) (fun c s _ _=>(gT_zero n c s).symm)
 exact h.block (Below.heap_alloc _ _ _ (by simp))
theorem yU(n:Nat)(w:World):Ab w ((w.alloc (.map #[] 0)).alloc (.cells #[.int .i64 n,.slice none 0 0,.map (some w.heap.size),.slice none 0 0,.slice none 0 0,.slice none 0 0,.slice none 0 0] 88)):=bl2 _ _ _
theorem new_at(n:Nat)(w:World)(hn:1<=n/\n<=32)(hF:Fr w):
  Calls prog 13 #[.int .i64 n] w fun e w'=> ∃gb,e=.returned (.tuple #[.pointer (some ⟨gb,0,none⟩),.int .i64 0])/\Ab w w'/\w.heap.size<=gb/\GridOf n gb w':=by
 have CE:=hid (fun u=>Ff n hn u)
 have h12:=n12 hn
 obtain⟨N,hN⟩:=aD (6*n*n)
 rw[hN]at CE
 have hN1:(N:Int)<=6144:=by omega
 have hN0:(N:Int)≠0:=by omega
 have HF:=hid hF
 have Hn:=hid hn
 have HN:=hid hN
 have H12:=hid h12
 have hmm:=BD (4*(N:Int))
 have AE:=hid (xX n N (w.heap.size+1) w.heap.size (.slice none 0 0) (.slice none 0 0) (.slice none 0 0) (.slice none 0 0) w _ hn hN.symm hF (yU n w) (ge_start n w))
 clear hn hF hN h12
 go_enter func13,ntmps13
 go_wp2_with (go_at_call 41;refine(CE.out _).mono ?_;rintro e w' ⟨rfl,hw⟩;have hw2:=hw.symm;subst hw2)
 refine AE.out.mono ?_
 rintro e w1 ⟨rfl,A1,es,G1⟩
 obtain⟨eb,cap,-,rfl,G2⟩:=G1.all Hn.out.1
 have G:=hid G2
 have A:=hid A1
 obtain⟨M,hM⟩:=aD (12*n*n)
 have HM:=hid hM
 have hM1:(M:Int)<=12288:=by have:=H12.out.1;omega
 clear A1 G1 G2 AE CE hmm hM
 have LL:=hid (yR N (w.heap.size+1) (fun k=>arI (ArC n k)) w1 (by omega) (fun k hk u hu=>FK n (w.heap.size+1) k u Hn.out (by rw[HN.out];exact hk) (G.out.to hu).cells.1))
 go_wp2_with fail
 refine LL.out.mono ?_
 rintro e w2 ⟨rfl,b2,R2⟩
 obtain⟨bA,hbA⟩:=aD w1.heap.size
 have hlt:=lt_of_block G.out.1
 have HA:Hid (bA≠w.heap.size+1):=by show _≠_;omega
 rw[hbA]at R2
 rw[hbA]
 have x1:=(G.out.to b2).cells.2.2.2.2.1
 have x2:=(G.out.to b2).fr 4
 go_upto_region 7 with fail
 obtain⟨uA,huA⟩:=aD (w2.setCell ⟨w.heap.size+1,4,none⟩ (.slice (some ⟨bA,0,none⟩) N N))
 rw[huA]
 have G':=hid ((G.out.to b2).put4 (.slice (some ⟨bA,0,none⟩) N N))
 have RA:=hid (R2.setOther (a:=⟨w.heap.size+1,4,none⟩) HA.out (.slice (some ⟨bA,0,none⟩) N N))
 have A':=hid (Ab.setk (A.out.call b2) (g:=w.heap.size+1) (k:=4) (by omega) (.slice (some ⟨bA,0,none⟩) N N))
 rw[huA]at G' RA A'
 clear LL R2 hlt G A hbA x1 x2 b2 huA
 clear w2 w1
 have G:=G'
 have A:=A'
 clear G' A'
 have c1:=G.out.cells.2.1
 rw[HM.out]at c1
 have LL:=hid (BA M (w.heap.size+1) (fun k=>(bsC n (edT n k/4) ((edT n k%4+2)%4):Nat)) (fun k=>(bsC n (bsC n (edT n k/4) (edT n k%4)) ((bsS n (edT n k/4) (edT n k%4)+2)%4):Nat)) uA (by omega) (fun k hk u hu=>by obtain⟨e1,e2,e3⟩:=bK Hn.out.1 (k:=k) (by rw[HM.out];exact hk);have h:=rS n _ _ _ _ _ (edT n k) _ _ _ _ u Hn.out e1 e2 (G.out.to hu);rw[e3]at h;exact h))
 go_wp2_with fail
 refine LL.out.mono ?_
 rintro e w2 ⟨rfl,b2,R2⟩
 clear c1
 obtain⟨bB,hbB⟩:=aD uA.heap.size
 have hlt:=lt_of_block G.out.1
 have HB:Hid (bB≠w.heap.size+1):=by show _≠_;omega
 rw[hbB]at R2
 rw[hbB]
 have x1:=(G.out.to b2).cells.2.2.2.1
 have x2:=(G.out.to b2).fr 3
 go_upto_region 8 with fail
 obtain⟨uB,huB⟩:=aD (w2.setCell ⟨w.heap.size+1,3,none⟩ (.slice (some ⟨bB,0,none⟩) M M))
 rw[huB]
 have G':=hid ((G.out.to b2).put3 (.slice (some ⟨bB,0,none⟩) M M))
 have RB:=hid (R2.setOther (a:=⟨w.heap.size+1,3,none⟩) HB.out (.slice (some ⟨bB,0,none⟩) M M))
 have RA':=hid ((rowIs.ab RA.out b2).setOther (a:=⟨w.heap.size+1,3,none⟩) HA.out (.slice (some ⟨bB,0,none⟩) M M))
 have A':=hid (Ab.setk (A.out.call b2) (g:=w.heap.size+1) (k:=3) (by omega) (.slice (some ⟨bB,0,none⟩) M M))
 rw[huB]at G' RB A' RA'
 clear LL R2 hlt G A hbB x1 x2 b2 huB RA
 clear w2 uA
 have G:=G'
 have A:=A'
 have RA:=RA'
 clear G' A' RA'
 have c1:=G.out.cells.2.1
 rw[HM.out]at c1
 have LL:=hid (Bx M (w.heap.size+1) (fun k=>LnC n (edT n k/4) (edT n k%4)) uB (by omega) (fun k hk u hu=>by obtain⟨e1,e2,e3⟩:=bK Hn.out.1 (k:=k) (by rw[HM.out];exact hk);have h:=yS n _ _ _ _ _ (edT n k) _ _ _ _ u Hn.out e1 e2 (HF.out.to (A.out.trans hu)) (G.out.to hu);rw[e3]at h;exact h))
 go_wp2_with fail
 refine LL.out.mono ?_
 rintro e w2 ⟨rfl,b2,R2⟩
 clear c1
 obtain⟨bL,hbL⟩:=aD uB.heap.size
 have hlt:=lt_of_block G.out.1
 have HL:Hid (bL≠w.heap.size+1):=by show _≠_;omega
 rw[hbL]at R2
 rw[hbL]
 have x1:=(G.out.to b2).cells.2.2.2.2.2.1
 have x2:=(G.out.to b2).fr 5
 go_upto_region 9 with fail
 obtain⟨uL,huL⟩:=aD (w2.setCell ⟨w.heap.size+1,5,none⟩ (.slice (some ⟨bL,0,none⟩) M M))
 rw[huL]
 have G':=hid ((G.out.to b2).put5 (.slice (some ⟨bL,0,none⟩) M M))
 have RL:=hid (R2.setOther (a:=⟨w.heap.size+1,5,none⟩) HL.out (.slice (some ⟨bL,0,none⟩) M M))
 have RA':=hid ((rowIs.ab RA.out b2).setOther (a:=⟨w.heap.size+1,5,none⟩) HA.out (.slice (some ⟨bL,0,none⟩) M M))
 have RB':=hid ((rowIs.ab RB.out b2).setOther (a:=⟨w.heap.size+1,5,none⟩) HB.out (.slice (some ⟨bL,0,none⟩) M M))
 have A':=hid (Ab.setk (A.out.call b2) (g:=w.heap.size+1) (k:=5) (by omega) (.slice (some ⟨bL,0,none⟩) M M))
 rw[huL]at G' RL A' RA' RB'
 clear LL R2 hlt G A hbL x1 x2 b2 huL RA RB
 clear w2 uB
 have G:=G'
 have A:=A'
 have RA:=RA'
 have RB:=RB'
 clear G' A' RA' RB'
 have c1:=G.out.cells.2.1
 rw[HM.out]at c1
 have LL:=hid (Bz M (w.heap.size+1) (fun k=>GpC n (edT n k/4) (edT n k%4)) uL (by omega) (fun k hk u hu=>by obtain⟨e1,e2,e3⟩:=bK Hn.out.1 (k:=k) (by rw[HM.out];exact hk);have h:=gapOf_at n _ _ _ _ _ (edT n k) _ _ _ _ u Hn.out e1 e2 (HF.out.to (A.out.trans hu)) (G.out.to hu);rw[e3]at h;exact h))
 go_wp2_with fail
 refine LL.out.mono ?_
 rintro e w2 ⟨rfl,b2,R2⟩
 clear c1
 obtain⟨bP,hbP⟩:=aD uL.heap.size
 have hlt:=lt_of_block G.out.1
 have HP:Hid (bP≠w.heap.size+1):=by show _≠_;omega
 rw[hbP]at R2
 rw[hbP]
 have x1:=(G.out.to b2).cells.2.2.2.2.2.2
 have x2:=(G.out.to b2).fr 6
 go_upto_region 10 with fail
 obtain⟨uP,huP⟩:=aD (w2.setCell ⟨w.heap.size+1,6,none⟩ (.slice (some ⟨bP,0,none⟩) M M))
 rw[huP]
 have G':=hid ((G.out.to b2).put6 (.slice (some ⟨bP,0,none⟩) M M))
 have RP:=hid (R2.setOther (a:=⟨w.heap.size+1,6,none⟩) HP.out (.slice (some ⟨bP,0,none⟩) M M))
 have RA':=hid ((rowIs.ab RA.out b2).setOther (a:=⟨w.heap.size+1,6,none⟩) HA.out (.slice (some ⟨bP,0,none⟩) M M))
 have RB':=hid ((rowIs.ab RB.out b2).setOther (a:=⟨w.heap.size+1,6,none⟩) HB.out (.slice (some ⟨bP,0,none⟩) M M))
 have RL':=hid ((rowIs.ab RL.out b2).setOther (a:=⟨w.heap.size+1,6,none⟩) HL.out (.slice (some ⟨bP,0,none⟩) M M))
 have A':=hid (Ab.setk (A.out.call b2) (g:=w.heap.size+1) (k:=6) (by omega) (.slice (some ⟨bP,0,none⟩) M M))
 rw[huP]at G' RP A' RA' RB' RL'
 clear LL R2 hlt G A hbP x1 x2 b2 huP RA RB RL
 clear w2 uL
 have G:=G'
 have A:=A'
 have RA:=RA'
 have RB:=RB'
 have RL:=RL'
 clear G' A' RA' RB' RL'
 go_wp2
 go_ret2
 refine⟨w.heap.size+1,rfl,A.out,by omega,?_⟩
 have hN:=HN.out
 have hM:=HM.out
 subst hN hM
 exact⟨w.heap.size,eb,cap,_,bB,bA,bL,bP,G.out,RB.out.congr (fun i _=>by unfold bhC;rfl),RA.out,RL.out,RP.out⟩
end
section
open Go.RowKit Cu Tf
attribute [local go_sem] aF
theorem eZ(k n:Int)(w:World):Calls prog 121 #[.int .i64 k,.int .i64 n] w fun e w'=>e=.returned (.bool (inR k n))/\w'=w:=by
 by_cases h:0<=k
 ·go_enter func121,ntmps121
  go_wp2
  go_ret
  exact⟨by simp[inR,h],rfl⟩
 ·go_enter func121,ntmps121
  go_wp2
  go_ret
  exact⟨by simp[inR];omega,rfl⟩
theorem gSide_at{n gb:Nat}{w:World}(g:GridOf n gb w):Calls prog 109 #[.pointer (some ⟨gb,0,none⟩)] w fun e w'=>e=.returned (.int .i64 n)/\w'=w:=by
 obtain⟨mb,eb,cap,m,bb,ab,lb,pb,h1,-⟩:=g
 obtain⟨c0,-⟩:=h1.cells
 clear h1
 go_enter func109,ntmps109
 go_wp2
 go_ret
 exact⟨rfl,rfl⟩
theorem cY{n gb:Nat}{w:World}(g:GridOf n gb w):Calls prog 28 #[.pointer (some ⟨gb,0,none⟩)] w fun e w'=>e=.returned (.int .i64 (6*n*n:Nat))/\w'=w:=by
 obtain⟨mb,eb,cap,m,bb,ab,lb,pb,h1,-⟩:=g
 obtain⟨-,-,-,-,c4,-⟩:=h1.cells
 generalize 6*n*n=N at*
 clear h1
 go_enter func28,ntmps28
 go_wp2
 go_ret
 exact⟨rfl,rfl⟩
theorem cP{n gb:Nat}{w:World}(g:GridOf n gb w):Calls prog 32 #[.pointer (some ⟨gb,0,none⟩)] w fun e w'=>e=.returned (.int .i64 (12*n*n:Nat))/\w'=w:=by
 obtain⟨mb,eb,cap,m,bb,ab,lb,pb,h1,-⟩:=g
 obtain⟨-,c1,-⟩:=h1.cells
 clear h1
 generalize 12*n*n=M at*
 go_enter func32,ntmps32
 go_wp2
 go_ret
 exact⟨rfl,rfl⟩
theorem iP{k N:Nat}(h:k<N):inR (k:Int) (N:Int)=true:=by rw[dG];omega
theorem gP{n gb t:Nat}{w:World}(hn:1<=n/\n<=32)(ht:t<24*n*n)(hl:isL n t=true)(g:GridOf n gb w):
  Calls prog 73 #[.pointer (some ⟨gb,0,none⟩),.int .i64 (eN n t:Nat)] w fun e w'=>e=.returned (.tuple #[.agg #[.int .i64 (t/4:Nat),.int .i64 (t%4:Nat),.int .i64 (bsC n (t/4) (t%4):Nat),.int .i64 (bsS n (t/4) (t%4):Nat)],.bool true])/\Below w.heap.size w w':=by
 have E1:=hid (cP (g.to (bl1 w (.cells #[.int .i64 0,.int .i64 0,.int .i64 0,.int .i64 0] 116))))
 have C1:=hid (fun u=>eZ (eN n t:Nat) (12*n*n:Nat) u)
 rw[iP (lJ hn.1 ht hl)]at C1
 obtain⟨mb,eb,cap,m,bb,ab,lb,pb,h1,-⟩:=g
 obtain⟨-,c1,-⟩:=h1.cells
 obtain⟨y0,y1,y2,y3⟩:=h1.2.1.2 t ht hl
 have lg:=lt_of_block h1.1
 have le:=h1.2.1.1
 have kN:=lJ hn.1 ht hl
 have R0:=hid (heap_alloc_new w (.cells #[.int .i64 0,.int .i64 0,.int .i64 0,.int .i64 0] 116))
 have A0:=hid (bl1 w (.cells #[.int .i64 0,.int .i64 0,.int .i64 0,.int .i64 0] 116))
 generalize bsC n (t/4) (t%4)=d at*
 generalize bsS n (t/4) (t%4)=b at*
 generalize t/4=c at*
 generalize t%4=s at*
 generalize eN n t=k at*
 generalize 12*n*n=M at*
 have hk1:(k:Int)<M:=by omega
 clear h1 hn ht hl
 go_enter func73,ntmps73
 go_wp2_with (first
  | (go_at_call 32;refine(E1.out).mono ?_;rintro e w' ⟨rfl,hw⟩;have hw2:=hw.symm;subst hw2)
  | (go_at_call 121;refine(C1.out _).mono ?_;rintro e w' ⟨rfl,hw⟩;have hw2:=hw.symm;subst hw2))
 refine bodyPost_ret ?_ rfl ⟨rfl,?_⟩
 ·exact dA results73 _ _ w.heap.size _ _ (0,0) _ _ rfl rfl (heap_alloc_new w _) underlying116 rfl (by kernel_rfl)
 ·exact bl1 w _
theorem yV{n gb:Nat}{k:Int}{w:World}(hk:inR k (12*n*n:Nat)=false)(g:GridOf n gb w):
  Calls prog 73 #[.pointer (some ⟨gb,0,none⟩),.int .i64 k] w fun e w'=>e=.returned (.tuple #[.agg #[.int .i64 0,.int .i64 0,.int .i64 0,.int .i64 0],.bool false])/\Below w.heap.size w w':=by
 have E1:=hid (cP (g.to (bl1 w (.cells #[.int .i64 0,.int .i64 0,.int .i64 0,.int .i64 0] 116))))
 have C1:=hid (fun u=>eZ k (12*n*n:Nat) u)
 rw[hk]at C1
 generalize 12*n*n=M at*
 clear hk g
 go_enter func73,ntmps73
 go_wp2_with (first
  | (go_at_call 32;refine(E1.out).mono ?_;rintro e w' ⟨rfl,hw⟩;have hw2:=hw.symm;subst hw2)
  | (go_at_call 121;refine(C1.out _).mono ?_;rintro e w' ⟨rfl,hw⟩;have hw2:=hw.symm;subst hw2))
 refine bodyPost_ret ?_ rfl ⟨rfl,?_⟩
 ·exact dA results73 _ _ w.heap.size _ _ (0,0) _ _ rfl rfl (heap_alloc_new w _) underlying116 rfl (by kernel_rfl)
 ·exact bl1 w _
theorem lQ{n gb:Nat}{c s:Int}{w:World}(hc:W64 c)(hs:W64 s)(g:GridOf n gb w):
  Calls prog 33 #[.pointer (some ⟨gb,0,none⟩),.int .i64 c,.int .i64 s] w fun e w'=>e=.returned (.tuple #[.int .i64 (gT n (24*n*n) c s).1,.int .i64 (gT n (24*n*n) c s).2])/\Below w.heap.size w w':=by
 obtain⟨mb,eb,cap,m,bb,ab,lb,pb,h1,-⟩:=g
 obtain⟨-,-,c2,-⟩:=h1.cells
 have LK:=h1.2.2.1.look hc hs
 generalize(gT n (24*n*n) c s).1=x at*
 generalize(gT n (24*n*n) c s).2=y at*
 clear h1 hc hs
 go_enter func33,ntmps33
 go_upto_region 4 with fail
 go_region
 go_wp2
 go_ret2
 exact⟨rfl,by first | exact bl1 w _ | exact Below.drew (bl1 w _)⟩
theorem lR{n gb t:Nat}{w:World}(hn:1<=n/\n<=32)(ht:t<24*n*n)(hl:isL n t=true)(g:GridOf n gb w):
  Calls prog 170 #[.pointer (some ⟨gb,0,none⟩),.int .i64 (eN n t:Nat)] w fun e w'=>e=.returned (.tuple #[.int .i64 (bsC n (t/4) ((t%4+2)%4):Nat),.int .i64 (bsC n (bsC n (t/4) (t%4)) ((bsS n (t/4) (t%4)+2)%4):Nat),.bool true])/\Below w.heap.size w w':=by
 have E1:=hid (cP g)
 have C1:=hid (fun u=>eZ (eN n t:Nat) (12*n*n:Nat) u)
 have kN:=lJ hn.1 ht hl
 rw[iP kN]at C1
 obtain⟨mb,eb,cap,m,bb,ab,lb,pb,h1,h2,-⟩:=g
 obtain⟨-,-,-,c3,-⟩:=h1.cells
 have y0:=h2.cell (i:=eN n t*2) (by omega)
 have y1:=h2.cell (i:=eN n t*2+1) (by omega)
 have e0:bhC n (eN n t*2)=(bsC n (t/4) ((t%4+2)%4):Nat):=by
  unfold bhC
  rw[if_pos (by omega),show eN n t*2/2=eN n t by omega,lP hn.1 ht hl]
 have e1:bhC n (eN n t*2+1)=(bsC n (bsC n (t/4) (t%4)) ((bsS n (t/4) (t%4)+2)%4):Nat):=by
  unfold bhC
  rw[if_neg (by omega),show(eN n t*2+1)/2=eN n t by omega,lP hn.1 ht hl]
 rw[e0]at y0
 rw[e1]at y1
 have lg:=lt_of_block h1.1
 have le:=h2.lt
 clear e0 e1 h2
 generalize bsC n (bsC n (t/4) (t%4)) ((bsS n (t/4) (t%4)+2)%4)=q2 at*
 generalize bsC n (t/4) ((t%4+2)%4)=q1 at*
 generalize eN n t=k at*
 generalize 12*n*n=M at*
 have hk1:(k:Int)<M:=by omega
 clear h1 hn ht hl
 go_enter func170,ntmps170
 go_upto_region 4 with(first
  | (go_at_call 32;refine(E1.out).mono ?_;rintro e w' ⟨rfl,hw⟩;have hw2:=hw.symm;subst hw2)
  | (go_at_call 121;refine(C1.out _).mono ?_;rintro e w' ⟨rfl,hw⟩;have hw2:=hw.symm;subst hw2))
 go_region
 go_wp2
 refine bodyPost_ret ?_ rfl ⟨rfl,?_⟩
 ·simp[results,results170,go_sem]
 ·first | exact bl1 w _ | exact Below.drew (bl1 w _)
theorem eO{n gb k:Nat}{w:World}(hn:1<=n/\n<=32)(hk:k<6*n*n)(g:GridOf n gb w):
  Calls prog 88 #[.pointer (some ⟨gb,0,none⟩),.int .i64 k] w fun e w'=>e=.returned (.int .i64 (arI (ArC n k)))/\Below w.heap.size w w':=by
 have E1:=hid (cY g)
 have C1:=hid (fun u=>eZ (k:Nat) (6*n*n:Nat) u)
 have hN:=(n12 hn)
 rw[iP hk]at C1
 obtain⟨mb,eb,cap,m,bb,ab,lb,pb,h1,-,hr,-⟩:=g
 have c0:=h1.cells.2.2.2.2.1
 have y0:=hr.cell hk
 have lg:=lt_of_block h1.1
 have le:=hr.lt
 clear hr
 generalize arI (ArC n k)=V at*
 have hk2:((6*n*n:Nat):Int)<=12288:=by omega
 generalize 6*n*n=M at*
 have hk1:(k:Int)<M:=by omega
 clear h1 hn hN hk
 go_enter func88,ntmps88
 go_wp2_with (first
  | (go_at_call 28;refine(E1.out).mono ?_;rintro e w' ⟨rfl,hw⟩;have hw2:=hw.symm;subst hw2)
  | (go_at_call 121;refine(C1.out _).mono ?_;rintro e w' ⟨rfl,hw⟩;have hw2:=hw.symm;subst hw2))
 go_ret
 exact⟨rfl,Below.refl _ _⟩
theorem BH{n gb k:Nat}{w:World}(hn:1<=n/\n<=32)(hk:k<12*n*n)(g:GridOf n gb w):
  Calls prog 63 #[.pointer (some ⟨gb,0,none⟩),.int .i64 k] w fun e w'=>e=.returned (.float .f64 (LnC n (edT n k/4) (edT n k%4)))/\Below w.heap.size w w':=by
 have E1:=hid (cP g)
 have C1:=hid (fun u=>eZ (k:Nat) (12*n*n:Nat) u)
 have hN:=(n12 hn)
 rw[iP hk]at C1
 obtain⟨mb,eb,cap,m,bb,ab,lb,pb,h1,-,-,hr,-⟩:=g
 have c0:=h1.cells.2.2.2.2.2.1
 have y0:=hr.cell hk
 have lg:=lt_of_block h1.1
 have le:=hr.lt
 clear hr
 generalize LnC n (edT n k/4) (edT n k%4)=V at*
 have hk2:((12*n*n:Nat):Int)<=12288:=by omega
 generalize 12*n*n=M at*
 have hk1:(k:Int)<M:=by omega
 clear h1 hn hN hk
 go_enter func63,ntmps63
 go_wp2_with (first
  | (go_at_call 32;refine(E1.out).mono ?_;rintro e w' ⟨rfl,hw⟩;have hw2:=hw.symm;subst hw2)
  | (go_at_call 121;refine(C1.out _).mono ?_;rintro e w' ⟨rfl,hw⟩;have hw2:=hw.symm;subst hw2))
 go_ret
 exact⟨rfl,Below.refl _ _⟩
theorem gGap_ok{n gb k:Nat}{w:World}(hn:1<=n/\n<=32)(hk:k<12*n*n)(g:GridOf n gb w):
  Calls prog 163 #[.pointer (some ⟨gb,0,none⟩),.int .i64 k] w fun e w'=>e=.returned (.float .f64 (GpC n (edT n k/4) (edT n k%4)))/\Below w.heap.size w w':=by
 have E1:=hid (cP g)
 have C1:=hid (fun u=>eZ (k:Nat) (12*n*n:Nat) u)
 have hN:=(n12 hn)
 rw[iP hk]at C1
 obtain⟨mb,eb,cap,m,bb,ab,lb,pb,h1,-,-,-,hr⟩:=g
 have c0:=h1.cells.2.2.2.2.2.2
 have y0:=hr.cell hk
 have lg:=lt_of_block h1.1
 have le:=hr.lt
 clear hr
 generalize GpC n (edT n k/4) (edT n k%4)=V at*
 have hk2:((12*n*n:Nat):Int)<=12288:=by omega
 generalize 12*n*n=M at*
 have hk1:(k:Int)<M:=by omega
 clear h1 hn hN hk
 go_enter func163,ntmps163
 go_wp2_with (first
  | (go_at_call 32;refine(E1.out).mono ?_;rintro e w' ⟨rfl,hw⟩;have hw2:=hw.symm;subst hw2)
  | (go_at_call 121;refine(C1.out _).mono ?_;rintro e w' ⟨rfl,hw⟩;have hw2:=hw.symm;subst hw2))
 go_ret
 exact⟨rfl,Below.refl _ _⟩
end
section
open Tf Ieee Cu
def mgF(a:Nat):Nat:=a%9223372036854775808
def pe(a:Nat):Nat:=mgF a/4503599627370496 - 1
end
section
open Tf Ieee Cu
def nl(n:Nat)(v:P3):Nat:=lnB (px n v) (py n v) (pz n v)
def a0(n:Nat)(k h:Int):Nat:=ar n (n,k,h) (n,k+2,h) (n,k+2,h+2) (n,k,h+2)
end
namespace Sh
def part(x y z:Int):Int:=if x<0\/y<0\/z<=0 then 0 else if 9223372036854775807<x*y/z then 9223372036854775807 else x*y/z
theorem gC(x y z:Int):0<=part x y z/\part x y z<=9223372036854775807:=by
 unfold part
 split
 ·omega
 ·rename_i h
  have q:0<=x*y/z:=Int.ediv_nonneg (Int.mul_nonneg (by omega) (by omega)) (by omega)
  split<;>omega
theorem wH{x y z:Int}(hx:0<=x)(hz:0<z)(h:y<=z):x*y/z<=x:=by
 have h1:x*y<=x*z:=Int.mul_le_mul_of_nonneg_left h hx
 exact Int.ediv_le_of_le_mul hz h1
theorem jA{x y z:Int}(hx:0<=x)(hx2:x<=9223372036854775807)(hy:0<=y)(hz:0<z)(h:y<=z):part x y z=x*y/z/\0<=part x y z/\part x y z<=x:=by
 have l:=wH hx hz h
 have n: ¬(x<0\/y<0\/z<=0):=by omega
 have n2: ¬9223372036854775807<x*y/z:=by omega
 have e:part x y z=x*y/z:=by unfold part;rw[if_neg n,if_neg n2]
 exact⟨e,by rw[e];exact Int.ediv_nonneg (Int.mul_nonneg hx hy) (by omega),by rw[e];exact l⟩
theorem nC{a z:Int}(hz:0<z):z*(a/z)<=a/\a<z*(a/z)+z:=by
 have h1:=Int.mul_ediv_add_emod a z
 have h2:=Int.emod_nonneg a (show z≠0 by omega)
 have h3:=Int.emod_lt_of_pos a hz
 constructor<;>omega
def sumN(f:Nat->Int):Nat->Int
 | 0=>0
 | n+1=>sumN f n+f n
theorem cQ{f g:Nat->Int}: ∀{n:Nat},(∀i,i<n->f i=g i)->sumN f n=sumN g n
 | 0,_=>rfl
 | n+1,h=>by
  show sumN f n+f n=sumN g n+g n
  rw[cQ (n:=n) (fun i hi=>h i (by omega)),h n (by omega)]
theorem fH{f:Nat->Int}: ∀{n:Nat},(∀i,i<n->0<=f i)->0<=sumN f n
 | 0,_=>by show(0:Int)<=0;omega
 | n+1,h=>by
  show 0<=sumN f n+f n
  have a:=fH (n:=n) (fun i hi=>h i (by omega))
  have b:=h n (by omega)
  omega
theorem eI{f:Nat->Int}{n:Nat}(h: ∀i,i<n->0<=f i): ∀{m:Nat},m<=n->sumN f m<=sumN f n:=by
 intro m hm
 induction n with
 | zero=>
    obtain rfl:m=0:=by omega
    omega
 | succ n ih=>
  by_cases e:m=n+1
  ·subst e;omega
  ·have a:=ih (fun i hi=>h i (by omega)) (by omega)
   have b:=h n (by omega)
   show sumN f m<=sumN f n+f n
   omega
theorem uM{f:Nat->Int}{W S:Int}(hS:0<S): ∀n:Nat,S*sumN (fun i=>f i*W/S) n<=sumN f n*W/\sumN f n*W<=S*sumN (fun i=>f i*W/S) n+n*(S - 1)
 | 0=>by
  show S*0<=0*W/\0*W<=S*0+((0:Nat):Int)*(S - 1)
  simp
 | n+1=>by
  obtain⟨h1,h2⟩:=uM (f:=f) (W:=W) hS n
  obtain⟨q1,q2⟩:=nC (a:=f n*W) hS
  show S*(sumN (fun i=>f i*W/S) n+f n*W/S)<=(sumN f n+f n)*W/\(sumN f n+f n)*W<=S*(sumN (fun i=>f i*W/S) n+f n*W/S)+((n+1:Nat):Int)*(S - 1)
  rw[Int.mul_add,Int.add_mul]
  have e:((n+1:Nat):Int)*(S - 1)=n*(S - 1)+(S - 1):=by
   rw[Int.natCast_add,Int.add_mul]
   omega
  rw[e]
  constructor<;>omega
def lS(W S x:Int):Int:=if W<S then part x W S else x
theorem Ef{W S x:Int}(hW:0<=W)(hx:0<=x)(hx2:x<=9223372036854775807):0<=lS W S x/\lS W S x<=x:=by
 unfold lS
 split
 ·rename_i h
  exact(jA hx hx2 hW (by omega) (by omega)).2
 ·omega
theorem FM{W S:Int}(hW:0<=W):lS W S 0=0:=by
 have:=Ef (S:=S) hW (Int.le_refl 0) (by omega)
 omega
theorem cut_sum{f:Nat->Int}{W:Int}{n:Nat}(hW:0<=W)(hf: ∀i,i<n->0<=f i)(hS:sumN f n<=9223372036854775807):
  (sumN f n<=W->sumN (fun i=>lS W (sumN f n) (f i)) n=sumN f n)/\(W<sumN f n->sumN (fun i=>lS W (sumN f n) (f i)) n<=W/\W - n<sumN (fun i=>lS W (sumN f n) (f i)) n):=by
 constructor
 ·intro h
  refine cQ (fun i _=> ?_)
  unfold lS
  rw[if_neg (by omega)]
 ·intro h
  have e:sumN (fun i=>lS W (sumN f n) (f i)) n=sumN (fun i=>f i*W/sumN f n) n:=by
   refine cQ (fun i hi=> ?_)
   have m:=eI hf (m:=i+1) (by omega)
   have m0:=fH (f:=f) (n:=i) (fun j hj=>hf j (by omega))
   have m1:sumN f (i+1)=sumN f i+f i:=rfl
   have hi0:=hf i hi
   unfold lS
   rw[if_pos h]
   exact(jA hi0 (by omega) hW (by omega) (by omega)).1
  rw[e]
  have hn:0<n:=by
   rcases Nat.eq_zero_or_pos n with h0 | h0
   ·subst h0
    have z:sumN f 0=0:=rfl
    omega
   ·exact h0
  obtain⟨h1,h2⟩:=uM (f:=f) (W:=W) (S:=sumN f n) (by omega) n
  generalize sumN (fun i=>f i*W/sumN f n) n=T at*
  generalize sumN f n=S at*
  constructor
  ·exact Int.le_of_mul_le_mul_left h1 (by omega)
  ·have h3:(n:Int)*(S - 1)<n*S:=Int.mul_lt_mul_of_pos_left (by omega) (by omega)
   have h4:S*(W - n)<S*T:=by
    rw[Int.mul_sub,Int.mul_comm S n]
    omega
   exact Int.lt_of_mul_lt_mul_left h4 (by omega)
end Sh
section
namespace Rv
open Sh
def lt2(K:Nat->Nat)(a b:Nat):Bool:=decide (K a<K b)||(decide (K a=K b)&&decide (a<b))
theorem qH{K:Nat->Nat}{a b:Nat}:lt2 K a b=true ↔ K a<K b\/(K a=K b/\a<b):=by
 unfold lt2
 simp
def bst(K:Nat->Nat)(nb:Nat->Nat):Nat->Nat
 | 0=>nb 0
 | k+1=>if lt2 K (nb (k+1)) (bst K nb k)=true then nb (k+1)else bst K nb k
theorem BI(K nb:Nat->Nat): ∀k,∃s,s<=k/\bst K nb k=nb s
 | 0=>⟨0,Nat.le_refl _,rfl⟩
 | k+1=>by
  obtain⟨s,h1,h2⟩:=BI K nb k
  by_cases c:lt2 K (nb (k+1)) (bst K nb k)=true
  ·exact⟨k+1,Nat.le_refl _,by unfold bst;rw[if_pos c]⟩
  ·exact⟨s,by omega,by unfold bst;rw[if_neg c];exact h2⟩
theorem oL(K nb:Nat->Nat): ∀k s,s<=k-> ¬(K (nb s)<K (bst K nb k)\/(K (nb s)=K (bst K nb k)/\nb s<bst K nb k))
 | 0,s,h=>by
  obtain rfl:s=0:=by omega
  show¬(K (nb 0)<K (nb 0)\/(K (nb 0)=K (nb 0)/\nb 0<nb 0))
  omega
 | k+1,s,h=>by
  have ih:=oL K nb k
  by_cases c:lt2 K (nb (k+1)) (bst K nb k)=true
  ·have e:bst K nb (k+1)=nb (k+1):=by show(if _ then _ else _)=_;rw[if_pos c]
   rw[e]
   have c':=qH.1 c
   by_cases q:s=k+1
   ·subst q;omega
   ·have:=ih s (by omega)
    omega
  ·have e:bst K nb (k+1)=bst K nb k:=by show(if _ then _ else _)=_;rw[if_neg c]
   rw[e]
   by_cases q:s=k+1
   ·subst q
    exact fun h=>c (qH.2 h)
   ·exact ih s (by omega)
def dnI(K:Nat->Nat)(nb:Nat->Nat)(c:Nat):Int:=if K (bst K nb 3)<K c then((bst K nb 3:Nat):Int)else -1
theorem dnI_no{K nb:Nat->Nat}{c:Nat}(h:dnI K nb c<0):dnI K nb c= -1/\ ∀s,s<4-> ¬K (nb s)<K c:=by
 unfold dnI at h ⊢
 by_cases q:K (bst K nb 3)<K c
 ·rw[if_pos q]at h;omega
 ·rw[if_neg q]
  refine⟨rfl,fun s hs=> ?_⟩
  have:=oL K nb 3 s (by omega)
  omega
theorem dnI_yes{K nb:Nat->Nat}{c:Nat}(h: ¬dnI K nb c<0): ∃d:Nat,dnI K nb c=(d:Nat)/\K d<K c/\(∃s,s<4/\nb s=d)/\ ∀s,s<4-> ¬(K (nb s)<K d\/(K (nb s)=K d/\nb s<d)):=by
 unfold dnI at h ⊢
 by_cases q:K (bst K nb 3)<K c
 ·rw[if_pos q]
  obtain⟨s,h1,h2⟩:=BI K nb 3
  exact⟨_,rfl,q,⟨s,by omega,h2.symm⟩,fun s hs=>oL K nb 3 s (by omega)⟩
 ·rw[if_neg q]at h;omega
/-! ### the order -/
def bf(K:Nat->Nat)(a b:Nat):Prop:=K b<K a\/(K a=K b/\a<b)
def IsOrd(K:Nat->Nat)(n:Nat)(l:List Nat):Prop:=l.Pairwise (bf K)/\l.Perm (List.range n)
def leB(K:Nat->Nat)(a b:Nat):Bool:=decide (K b<K a)||(decide (K a=K b)&&decide (a<=b))
def ordL(K:Nat->Nat)(n:Nat):List Nat:=(List.range n).mergeSort (leB K)
theorem qI{K:Nat->Nat}{a b:Nat}:leB K a b=true ↔ K b<K a\/(K a=K b/\a<=b):=by
 unfold leB
 simp
theorem nD(K:Nat->Nat)(n:Nat):IsOrd K n (ordL K n):=by
 have p:(ordL K n).Perm (List.range n):=List.mergeSort_perm _ _
 refine⟨?_,p⟩
 have s:(ordL K n).Pairwise (fun a b=>leB K a b=true):=List.pairwise_mergeSort (fun a b c h1 h2=>by
  rw[qI]at*
  omega) (fun a b=>by
  rw[Bool.or_eq_true,qI,qI]
  omega) _
 have nd:(ordL K n).Nodup:=p.nodup_iff.2 List.nodup_range
 have nd2:(ordL K n).Pairwise (fun a b=>a≠b):=nd
 refine(s.and nd2).imp ?_
 rintro a b ⟨h1,h2⟩
 rw[qI]at h1
 unfold bf
 omega
theorem bf_asym{K:Nat->Nat}{a b:Nat}(h1:bf K a b)(h2:bf K b a):False:=by
 unfold bf at*
 omega
theorem ord_eq{K:Nat->Nat}: ∀{l m:List Nat},l.Pairwise (bf K)->m.Pairwise (bf K)->l.Perm m->l=m
 | [],m,_,_,p=>p.nil_eq
 | a :: l,m,hl,hm,p=>by
  cases m with
  | nil=>exact absurd p.symm.nil_eq (by simp)
  | cons b m=>
   have e:a=b:=by
    by_cases q:a=b
    ·exact q
    ·have h1:a ∈ b :: m:=p.subset (List.mem_cons_self ..)
     have h2:b ∈ a :: l:=p.symm.subset (List.mem_cons_self ..)
     have h3:a ∈ m:=by
      rcases List.mem_cons.1 h1 with h | h
      ·exact absurd h q
      ·exact h
     have h4:b ∈ l:=by
      rcases List.mem_cons.1 h2 with h | h
      ·exact absurd h.symm q
      ·exact h
     exact absurd ((List.pairwise_cons.1 hl).1 b h4) (fun h=>bf_asym h ((List.pairwise_cons.1 hm).1 a h3))
   subst e
   rw[ord_eq (List.pairwise_cons.1 hl).2 (List.pairwise_cons.1 hm).2 ((List.perm_cons a).1 p)]
theorem ord_one{K:Nat->Nat}{n:Nat}{l:List Nat}(h:IsOrd K n l):l=ordL K n:=ord_eq h.1 (nD K n).1 (h.2.trans (nD K n).2.symm)
theorem rT(K:Nat->Nat)(n:Nat):(ordL K n).length=n:=by rw[(nD K n).2.length_eq,List.length_range]
theorem yW{K:Nat->Nat}{n c:Nat}:c ∈ ordL K n ↔ c<n:=by rw[(nD K n).2.mem_iff,List.mem_range]
/-! ### a step of rivers -/
def gvW(x:Int):Int:=x/4
def rv1(dn:Nat->Int)(sh:Int->Nat->Bool)(X:(Nat->Int) × (Nat->Int))(c:Nat):(Nat->Int) × (Nat->Int):=
 if dn c<0\/X.1 c<=0\/sh (X.1 c) c=false then X else
  (fun i=>if i=(dn c).toNat then X.1 i+gvW (X.1 c)else if i=c then X.1 c - gvW (X.1 c)else X.1 i,
   fun i=>if i=(dn c).toNat then X.2 i+Sh.part (X.2 c) (gvW (X.1 c)) (X.1 c)else if i=c then X.2 c - Sh.part (X.2 c) (gvW (X.1 c)) (X.1 c)else X.2 i)
def rvL(dn:Nat->Int)(sh:Int->Nat->Bool)(X:(Nat->Int) × (Nat->Int))(l:List Nat):(Nat->Int) × (Nat->Int):=l.foldl (rv1 dn sh) X
def okD(n:Nat)(dn:Nat->Int):Prop:= ∀c,c<n-> ¬dn c<0->(dn c).toNat<n/\(dn c).toNat≠c
def okV(n:Nat)(f:Nat->Int):Prop:=(∀c,c<n->0<=f c)/\sumN f n<=4503599627370496
theorem rU(f:Nat->Int)(c:Nat)(d:Int): ∀n,sumN (fun i=>if i=c then f i+d else f i) n=sumN f n+if c<n then d else 0
 | 0=>by
  show(0:Int)=0+if c<0 then d else 0
  rw[if_neg (by omega)]
  rfl
 | n+1=>by
  show sumN (fun i=>if i=c then f i+d else f i) n+(if n=c then f n+d else f n)=sumN f n+f n+if c<n+1 then d else 0
  rw[rU f c d n]
  by_cases e:n=c
  ·subst e
   rw[if_pos rfl,if_neg (by omega),if_pos (by omega)]
   omega
  ·rw[if_neg e]
   by_cases l:c<n
   ·rw[if_pos l,if_pos (by omega)]
    omega
   ·rw[if_neg l,if_neg (by omega)]
    omega
theorem lA{f:Nat->Int}{n c d:Nat}{m:Int}(hc:c<n)(hd:d<n)(h:d≠c):sumN (fun i=>if i=d then f i+m else if i=c then f c - m else f i) n=sumN f n:=by
 have e:sumN (fun i=>if i=d then f i+m else if i=c then f c - m else f i) n=sumN (fun i=>if i=d then(fun j=>if j=c then f j+ -m else f j) i+m else(fun j=>if j=c then f j+ -m else f j) i) n:=by
  refine cQ (fun i _=> ?_)
  dsimp only
  by_cases e1:i=d
  ·subst e1
   rw[if_pos rfl,if_pos rfl,if_neg h]
  ·rw[if_neg e1,if_neg e1]
   by_cases e2:i=c
   ·subst e2
    rw[if_pos rfl,if_pos rfl]
    omega
   ·rw[if_neg e2,if_neg e2]
 rw[e,rU,rU,if_pos hc,if_pos hd]
 omega
theorem elem_le{f:Nat->Int}{n c:Nat}(h: ∀i,i<n->0<=f i)(hc:c<n):f c<=sumN f n:=by
 have a:=eI h (m:=c+1) (by omega)
 have b:=fH (f:=f) (n:=c) (fun i hi=>h i (by omega))
 have e:sumN f (c+1)=sumN f c+f c:=rfl
 omega
theorem okV.b{n:Nat}{f:Nat->Int}(h:okV n f){c:Nat}(hc:c<n):0<=f c/\f c<=4503599627370496:=⟨h.1 c hc,by have:=elem_le h.1 hc;have:=h.2;omega⟩
section
variable {n:Nat} {dn:Nat->Int} {sh:Int->Nat->Bool} {X:(Nat->Int) × (Nat->Int)}
theorem gv_in{x t:Int}(hx:0<x)(ht:0<=t/\t<=4503599627370496):(0<=gvW x/\gvW x<=x)/\0<=Sh.part t (gvW x) x/\Sh.part t (gvW x) x<=t:=by
 have g:0<=gvW x/\gvW x<=x:=by unfold gvW;omega
 exact⟨g,(jA ht.1 (by omega) g.1 hx g.2).2⟩
theorem rv1_ok(hd:okD n dn)(hX:okV n X.1/\okV n X.2){c:Nat}(hc:c<n):okV n (rv1 dn sh X c).1/\okV n (rv1 dn sh X c).2:=by
 unfold rv1
 by_cases q:dn c<0\/X.1 c<=0\/sh (X.1 c) c=false
 ·rw[if_pos q];exact hX
 ·rw[if_neg q]
  obtain⟨d1,d2⟩:=hd c hc (by omega)
  have g:=gv_in (x:=X.1 c) (t:=X.2 c) (by omega) (hX.2.b hc)
  have w0:=hX.1.b hc
  refine⟨⟨fun i hi=> ?_,?_⟩,⟨fun i hi=> ?_,?_⟩⟩
  ·dsimp only
   have:=hX.1.1 i hi
   split
   ·omega
   ·split<;>omega
  ·dsimp only
   rw[lA hc d1 d2]
   exact hX.1.2
  ·dsimp only
   have:=hX.2.1 i hi
   split
   ·omega
   ·split<;>omega
  ·dsimp only
   rw[lA hc d1 d2]
   exact hX.2.2
theorem rv1_sum(hd:okD n dn){c:Nat}(hc:c<n):sumN (rv1 dn sh X c).1 n=sumN X.1 n/\sumN (rv1 dn sh X c).2 n=sumN X.2 n:=by
 unfold rv1
 by_cases q:dn c<0\/X.1 c<=0\/sh (X.1 c) c=false
 ·rw[if_pos q];exact⟨rfl,rfl⟩
 ·rw[if_neg q]
  obtain⟨d1,d2⟩:=hd c hc (by omega)
  exact⟨lA hc d1 d2,lA hc d1 d2⟩
theorem BJ(hd:okD n dn): ∀{l:List Nat} {X:(Nat->Int) × (Nat->Int)},(∀c,c ∈ l->c<n)->(okV n X.1/\okV n X.2)->(okV n (rvL dn sh X l).1/\okV n (rvL dn sh X l).2)/\sumN (rvL dn sh X l).1 n=sumN X.1 n/\sumN (rvL dn sh X l).2 n=sumN X.2 n
 | [],X,_,hX=>⟨hX,rfl,rfl⟩
 | c :: l,X,hl,hX=>by
  have hc:=hl c (List.mem_cons_self ..)
  have a:=BJ hd (l:=l) (X:=rv1 dn sh X c) (fun c h=>hl c (List.mem_cons_of_mem _ h)) (rv1_ok hd hX hc)
  have b:=rv1_sum (sh:=sh) (X:=X) hd hc
  exact⟨a.1,a.2.1.trans b.1,a.2.2.trans b.2⟩
end
end Rv
end
section
namespace Rn
open Sh
def dn(a s x:Int):Int:=if a<0 then -(if x< -a then x else -a)else(if s<a then s else a)
def fallB(st:Int)(r:Int × Int × Int × Int):Bool:=decide (r.2.2.1<=st)&&decide (st<r.2.2.2)
def rn1(st:Int)(r:Int × Int × Int × Int)(X:(Nat->Int) × Int):(Nat->Int) × Int:=
 if fallB st r=true then(fun i=>if i=r.1.toNat then X.1 i+dn r.2.1 X.2 (X.1 r.1.toNat)else X.1 i,X.2 - dn r.2.1 X.2 (X.1 r.1.toNat))else X
def rnN(st:Int)(R:Nat->Int × Int × Int × Int)(X:(Nat->Int) × Int):Nat->(Nat->Int) × Int
 | 0=>X
 | k+1=>rn1 st (R k) (rnN st R X k)
def okR(n:Nat)(r:Int × Int × Int × Int):Prop:=0<=r.1/\r.1<n/\ -4503599627370496<=r.2.1/\r.2.1<=4503599627370496/\0<=r.2.2.1/\r.2.2.1<=r.2.2.2
def rV(lw:Nat)(W:Nat->Int)(s:Int)(lr:Nat)(R:Nat->Int × Int × Int × Int)(st:Int):Prop:=
 0<=st/\(0<=s/\s<=4503599627370496)/\lr<=1024/\(∀i,i<lw->0<=W i/\W i<=4503599627370496)/\ ∀k,k<lr->okR lw (R k)
theorem dn_in{a s x:Int}(hs:0<=s)(hx:0<=x): -x<=dn a s x/\dn a s x<=s:=by
 unfold dn
 split<;>split<;>omega
theorem dn_bd{a s x m:Int}(hs:0<=s)(hx:0<=x)(h: -m<=a/\a<=m): -m<=dn a s x/\dn a s x<=m:=by
 unfold dn
 split<;>split<;>omega
section
variable {st:Int} {R:Nat->Int × Int × Int × Int} {X:(Nat->Int) × Int} {n:Nat} {r:Int × Int × Int × Int}
theorem rn1_no(h:fallB st r=false):rn1 st r X=X:=by unfold rn1;rw[if_neg (by rw[h];decide)]
theorem rn1_nn(ho:okR n r)(hX:(∀i,i<n->0<=X.1 i)/\0<=X.2):(∀i,i<n->0<=(rn1 st r X).1 i)/\0<=(rn1 st r X).2:=by
 unfold rn1
 split
 ·have hc:r.1.toNat<n:=by have:=ho.1;have:=ho.2.1;omega
  have d:=dn_in (a:=r.2.1) hX.2 (hX.1 _ hc)
  refine⟨fun i hi=> ?_,?_⟩
  ·dsimp only
   split
   ·rename_i e;subst e;omega
   ·exact hX.1 i hi
  ·dsimp only
   omega
 ·exact hX
theorem wJ(hX:(∀i,i<n->0<=X.1 i)/\0<=X.2): ∀{k:Nat},(∀j,j<k->okR n (R j))->(∀i,i<n->0<=(rnN st R X k).1 i)/\0<=(rnN st R X k).2
 | 0,_=>hX
 | k+1,ho=>rn1_nn (ho k (by omega)) (wJ hX (fun j hj=>ho j (by omega)))
theorem rnN_le{B:Int}(hX:(∀i,i<n->0<=X.1 i)/\0<=X.2)(hB:(∀i,i<n->X.1 i<=B)/\X.2<=B): ∀{k:Nat},(∀j,j<k->okR n (R j))->(∀i,i<n->(rnN st R X k).1 i<=B+4503599627370496*k)/\(rnN st R X k).2<=B+4503599627370496*k
 | 0,_=>⟨fun i hi=>by show X.1 i<=_;have:=hB.1 i hi;omega,by show X.2<=_;have:=hB.2;omega⟩
 | k+1,ho=>by
  obtain⟨h1,h2⟩:=rnN_le hX hB (k:=k) (fun j hj=>ho j (by omega))
  obtain⟨p1,p2⟩:=wJ (st:=st) hX (k:=k) (fun j hj=>ho j (by omega))
  have o:=ho k (by omega)
  show(∀i,i<n->(rn1 st (R k) (rnN st R X k)).1 i<=_)/\(rn1 st (R k) (rnN st R X k)).2<=_
  have e:(4503599627370496:Int)*((k+1:Nat):Int)=4503599627370496*k+4503599627370496:=by omega
  rw[e]
  generalize rnN st R X k=Y at*
  unfold rn1
  split
  ·have hc:(R k).1.toNat<n:=by have:=o.1;have:=o.2.1;omega
   have d:=dn_bd (a:=(R k).2.1) (m:=4503599627370496) p2 (p1 _ hc) ⟨o.2.2.1,o.2.2.2.1⟩
   refine⟨fun i hi=> ?_,?_⟩
   ·dsimp only
    have:=h1 i hi
    split
    ·rename_i q;subst q;omega
    ·omega
   ·dsimp only
    omega
  ·exact⟨fun i hi=>by have:=h1 i hi;omega,by omega⟩
theorem yX(f:Nat->Int)(c:Nat)(d:Int): ∀n,sumN (fun i=>if i=c then f i+d else f i) n=sumN f n+if c<n then d else 0
 | 0=>by
  show(0:Int)=0+if c<0 then d else 0
  rw[if_neg (by omega)]
  rfl
 | n+1=>by
  show sumN (fun i=>if i=c then f i+d else f i) n+(if n=c then f n+d else f n)=sumN f n+f n+if c<n+1 then d else 0
  rw[yX f c d n]
  by_cases e:n=c
  ·subst e
   rw[if_pos rfl,if_neg (by omega),if_pos (by omega)]
   omega
  ·rw[if_neg e]
   by_cases l:c<n
   ·rw[if_pos l,if_pos (by omega)]
    omega
   ·rw[if_neg l,if_neg (by omega)]
    omega
theorem rn1_kept(ho:okR n r):sumN (rn1 st r X).1 n+(rn1 st r X).2=sumN X.1 n+X.2:=by
 unfold rn1
 split
 ·have hc:r.1.toNat<n:=by have:=ho.1;have:=ho.2.1;omega
  dsimp only
  rw[yX,if_pos hc]
  omega
 ·rfl
theorem yY: ∀{k:Nat},(∀j,j<k->okR n (R j))->sumN (rnN st R X k).1 n+(rnN st R X k).2=sumN X.1 n+X.2
 | 0,_=>rfl
 | k+1,ho=>(rn1_kept (ho k (by omega))).trans (yY (fun j hj=>ho j (by omega)))
theorem FO{lw lr:Nat}{W:Nat->Int}{s:Int}(g:rV lw W s lr R st):(∀i,i<lw->0<=(rnN st R (W,s) lr).1 i/\(rnN st R (W,s) lr).1 i<=4616189618054758400)/\0<=(rnN st R (W,s) lr).2/\(rnN st R (W,s) lr).2<=4616189618054758400:=by
 obtain⟨_,gs,gl,gw,gr⟩:=g
 have a:=wJ (st:=st) (R:=R) (X:=(W,s)) (n:=lw) (k:=lr) ⟨fun i hi=>(gw i hi).1,gs.1⟩ gr
 have b:=rnN_le (st:=st) (R:=R) (X:=(W,s)) (n:=lw) (k:=lr) (B:=4503599627370496) ⟨fun i hi=>(gw i hi).1,gs.1⟩ ⟨fun i hi=>(gw i hi).2,gs.2⟩ gr
 exact⟨fun i hi=>⟨a.1 i hi,by have:=b.1 i hi;omega⟩,a.2,by have:=b.2;omega⟩
end
end Rn
end
section
open Tf Ieee
theorem mv_2:mv 4611686018427387904=2*2 ^ K:=by rw[<- mv_ONE];exact mv_dbl (r:=4607182418800017408) (by omega)
theorem Eg{a b:Nat}(ha:a<9218868437227405312)(hb:b<9218868437227405312):mlB a b=min (rung 52 1074 (mv a*mv b)) 9218868437227405312:=by
 have ma:mg a=a:=bG (by omega)
 have mb:mg b=b:=bG (by omega)
 rw[mul_w (by omega) (by omega) (by omega) (by omega),bR (by omega),bR (by omega),ma,mb]
 simp only[Bool.xor_self,Bool.false_eq_true,if_false]
theorem mv_sm{r:Nat}(h:r<9007199254740992):mv r=r:=by
 by_cases c:r<4503599627370496
 ·have:=iX
  unfold mv mag
  rw[if_pos c]
 ·rw[mU (by omega),show r%4503599627370496=r - 4503599627370496 by omega,show r/4503599627370496 - 1=0 by omega,Nat.pow_zero,Nat.mul_one]
  omega
theorem dbl_ex(a:Nat): ∃r,mv r=2*mv a/\a<=r/\(a≠0->a<r):=by
 by_cases h:4503599627370496<=a
 ·exact⟨a+4503599627370496,mv_dbl h,by omega,fun _=>by omega⟩
 ·refine⟨2*a,?_,by omega,fun _=>by omega⟩
  rw[mv_sm (r:=2*a) (by omega),mv_sm (r:=a) (by omega)]
theorem wL{a:Nat}(ha:a<9218868437227405312):mlB 4611686018427387904 a=min (rung 52 0 (2*mv a)) 9218868437227405312:=by
 rw[Eg (by omega) ha,mv_2,show 2*2 ^ K*mv a=(2*mv a)*2 ^ K by rw[Nat.mul_right_comm]]
 have h:=Bj 52 0 K (2*mv a)
 rw[Nat.zero_add]at h
 exact congrArg (min · 9218868437227405312) h
theorem gQ{a:Nat}(ha:a<=9218868437227405312):mlB 4611686018427387904 a<=9218868437227405312/\a<=mlB 4611686018427387904 a/\(mlB 4611686018427387904 a<9218868437227405312->mv (mlB 4611686018427387904 a)=2*mv a):=by
 by_cases h:a<9218868437227405312
 ·obtain⟨r,h1,h2,-⟩:=dbl_ex a
  rw[wL h,<- h1,mL]
  refine⟨Nat.min_le_right _ _,by omega,fun k=> ?_⟩
  rw[Nat.min_eq_left (by omega),h1]
 ·obtain rfl:a=9218868437227405312:=by omega
  have e:mlB 4611686018427387904 9218868437227405312=9218868437227405312:=by decide+kernel
  rw[e]
  exact⟨Nat.le_refl _,Nat.le_refl _,fun k=>by omega⟩
theorem d2_mono{a b:Nat}(h:a<=b)(hb:b<=9218868437227405312):mlB 4611686018427387904 a<=mlB 4611686018427387904 b:=by
 by_cases k:b<9218868437227405312
 ·rw[wL (by omega),wL k]
  have:=iI (p:=52) (d:=0) (V:=2*mv a) (V':=2*mv b) (by omega) (Nat.mul_le_mul_left 2 (mK.2 h))
  omega
 ·obtain rfl:b=9218868437227405312:=by omega
  have e:mlB 4611686018427387904 9218868437227405312=9218868437227405312:=by decide+kernel
  rw[e]
  exact(gQ (by omega)).1
def sbee(a b:Nat):Nat:=max (min (mlB 4611686018427387904 a) b) (min a (mlB 4611686018427387904 b))
theorem BK{a b:Nat}(ha:a<=9218868437227405312)(hb:b<=9218868437227405312):min a b<=sbee a b/\sbee a b<=max a b/\sbee a b<=mlB 4611686018427387904 (min a b):=by
 have fa:=gQ ha
 have fb:=gQ hb
 have mono: ∀x y,x<=y->y<=9218868437227405312->mlB 4611686018427387904 x<=mlB 4611686018427387904 y:=fun x y h k=>d2_mono h k
 unfold sbee
 rcases Nat.le_total a b with h | h
 ·rw[Nat.min_eq_left h]
  omega
 ·rw[Nat.min_eq_right h]
  omega
end
section
open Tf Ieee
def Er17:Nat:=2030
theorem mv_E17:mv 9146810843189477376=2 ^ (52+Er17):=gL Er17 _ (by decide)
theorem le_E17{W d:Nat}(hW:W<=2 ^ 57)(hd:d<=2025):W*2 ^ d<=mv 9146810843189477376:=by
 rw[mv_E17]
 have h1:2 ^ d<=2 ^ (Er17 - 5):=Nat.pow_le_pow_right (by omega) (by unfold Er17;omega)
 have h2:=Nat.mul_le_mul hW h1
 have e:2 ^ 57*2 ^ (Er17 - 5)=2 ^ (52+Er17):=by rw[<- Nat.pow_add];congr 1
 rw[e]at h2
 exact h2
theorem quo_lo{m n:Nat}(m1:4503599627370496<=m)(m2:m<9007199254740992)(n1:4503599627370496<=n)(n2:n<9007199254740992):9007199254740992<=m <<< 54/n/\m <<< 54/n<=36028797018963968:=by
 rw[Nat.shiftLeft_eq]
 constructor
 ·rw[Nat.le_div_iff_mul_le (by omega)]
  have:=Nat.mul_le_mul_right (2 ^ 54) m1
  omega
 ·refine Nat.div_le_of_le_mul ?_
  omega
theorem div_pos{x l:Nat}(x1:4503599627370496<=x)(x2:x<9218868437227405312)(l1:4503599627370496<=l)(l2:l<9218868437227405312):
  ∃W,18014398509481984<=W/\W<=2 ^ 57/\W=2*((4503599627370496+x%4503599627370496) <<< 54/(4503599627370496+l%4503599627370496))+((4503599627370496+x%4503599627370496) <<< 54%(4503599627370496+l%4503599627370496) != 0).toNat/\double.div x l=some (double.nearest false W (((x/4503599627370496 - 1:Nat):Int) - ((l/4503599627370496 - 1:Nat):Int) - 55)):=by
 have ml:mg l=l:=bG (by omega)
 have mx:mg x=x:=bG (by omega)
 have el:=uE (x:=l) (by omega) (by omega)
 rw[ml,sgn_ng (by omega),bR (by omega)]at el
 have ex:=uE (x:=x) (by omega) (by omega)
 rw[mx,sgn_ng (by omega),bR (by omega)]at ex
 have hn:4503599627370496+l%4503599627370496≠0:=by omega
 have lx:(4503599627370496+x%4503599627370496).log2=52:=log_m _ (Nat.mod_lt _ (by omega))
 have ll:(4503599627370496+l%4503599627370496).log2=52:=log_m _ (Nat.mod_lt _ (by omega))
 have hq:=quo_lo (m:=4503599627370496+x%4503599627370496) (n:=4503599627370496+l%4503599627370496) (by omega) (by omega) (by omega) (by omega)
 refine⟨_,?_,?_,rfl,?_⟩
 ·omega
 ·have:((4503599627370496+x%4503599627370496) <<< 54%(4503599627370496+l%4503599627370496) != 0).toNat<=1:=by cases((4503599627370496+x%4503599627370496) <<< 54%(4503599627370496+l%4503599627370496) != 0)<;>simp
  omega
 ·show((double.read x).quotient 54 (double.read l)).map double.write=_
  rw[ex,el]
  unfold Datum.quotient
  dsimp only
  rw[if_neg hn,lx,ll]
  simp only[Bool.xor_false]
  show some (double.nearest false _ _)=some (double.nearest false _ _)
  congr 2
  omega
theorem rung_E17{V:Nat}(h:V<=mv 9146810843189477376):rung 52 0 V<=9146810843189477376:=by
 refine vV (by omega) ?_
 rw[Nat.pow_zero,Nat.mul_one]
 exact h
end
end Go.Proofs.YtaphajlpbgcfjaaGreatDoor
