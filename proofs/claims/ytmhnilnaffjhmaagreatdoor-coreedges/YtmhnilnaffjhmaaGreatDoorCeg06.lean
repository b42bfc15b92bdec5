/-
  Some of the texts of this proof, one behind the other.
-/
import Derived.Laws.StructEq
import Derived.Test.YtmhnilnaffjhmaaGreatDoorCeg05
set_option maxRecDepth 100000
set_option maxHeartbeats 400000000
namespace Go.Proofs.YtmhnilnaffjhmaaGreatDoor
open _root_.Go.Proofs.Tryz
section
open Go.RowKit Cu Tf
theorem xZ(gb mb eb cap c s x y:Nat)(sg:Int)(w:World)(M:Nat)(hk:(x:Int)<M)(lg:gb<w.heap.size)(le:eb<w.heap.size)
  (c1:w.cell? ⟨gb,1,none⟩=some (.slice (some ⟨eb,0,none⟩) M cap)) (c2:w.cell? ⟨gb,2,none⟩=some (.map (some mb)))
  (LK:(Instr.lookup 62 (.map (some mb)) (.agg #[.int .i64 c,.int .i64 s]) false).run prog w=.ok (.agg #[.int .i64 x,.int .i64 sg]) w)
  (HY:Hid ((sg=1/\w.cell? ⟨eb,x*4+2,none⟩=some (.int .i64 y))\/(sg= -1/\w.cell? ⟨eb,x*4,none⟩=some (.int .i64 y)))):
  Calls prog 48 #[.pointer (some ⟨gb,0,none⟩),.int .i64 c,.int .i64 s] w fun e w'=>e=.returned (.int .i64 y)/\Below w.heap.size w w':=by
 rcases HY.out with⟨rfl,hy⟩ | ⟨rfl,hy⟩
 ·clear HY
  go_enter func48,ntmps48
  go_upto_region 3 with fail
  go_region
  go_wp2
  go_ret
  exact⟨rfl,by first | exact bl1 w _ | exact Below.drew (bl1 w _)⟩
 ·clear HY
  go_enter func48,ntmps48
  go_upto_region 4 with fail
  go_region
  go_wp2
  go_ret
  exact⟨rfl,by first | exact bl1 w _ | exact Below.drew (bl1 w _)⟩
theorem oZ(n gb mb eb cap m c s:Nat)(v3 v4 v5 v6:Value)(w:World)(hn:1<=n/\n<=32)(hc:c<6*n*n)(hs:s<4)(G:GX n gb mb eb cap m v3 v4 v5 v6 w):
  Calls prog 48 #[.pointer (some ⟨gb,0,none⟩),.int .i64 c,.int .i64 s] w fun e w'=>e=.returned (.int .i64 (bsC n c s:Nat))/\Below w.heap.size w w':=by
 have ht:=fE hc hs
 have hd:=lY (c:=c) hs
 have h12:=n12 hn
 have LK:=G.2.2.1.look (c:=c) (s:=s) (by unfold W64;omega) (by unfold W64;omega)
 rw[gT_end hn.1 hc hs]at LK
 refine xZ gb mb eb cap c s (eE n (4*c+s)) (bsC n c s) (eS n (4*c+s)) w (12*n*n) (by have:=fQ hn.1 ht;omega) (lt_of_block G.1) G.2.1.1 G.cells.2.1 G.cells.2.2.1 LK ?_
 show _\/_
 unfold eE eS
 cases hl:isL n (4*c+s)with
 | true=>
  refine .inl ⟨rfl,?_⟩
  have h:=(G.2.1.2 _ ht hl).2.2.1
  rw[hd.1,hd.2]at h
  exact h
 | false=>
  refine .inr ⟨rfl,?_⟩
  have h:=(G.2.1.2 _ (cX hn.1 ht) (by rw[hQ hn.1 ht,hl];rfl)).1
  rw[(eO hn.1 ht).1,hd.1,hd.2]at h
  exact h
theorem set2{W w:World}{g:Nat}{x y:Value}{T:TypeId}(h:Abx W g 2 T w):((w.setCell ⟨g,0,none⟩ x).setCell ⟨g,1,none⟩ y).heap[g]? =some (.cells #[x,y] T):=by
 obtain⟨_,cs,h6,h⟩:=h
 obtain⟨a,b,rfl⟩: ∃a b,cs= #[a,b]:=by
  rcases cs with⟨l⟩
  match l,h6 with
  | [a,b],_=>exact⟨a,b,rfl⟩
 have h1:=aI (v:=x) (k:=0) h
 have h2:=aI (v:=y) (k:=1) h1
 simpa using h2
theorem rL(n gb mb eb cap m t:Nat)(v3 v4 v5 v6:Value)(w:World)(hn:1<=n/\n<=32)(ht:t<24*n*n)(hl:isL n t=true)(G:GX n gb mb eb cap m v3 v4 v5 v6 w):
  Calls prog 29 #[.pointer (some ⟨gb,0,none⟩),.int .i64 (eN n t:Nat)] w fun e w'=>e=.returned (.agg #[.int .i64 (bsC n (t/4) ((t%4+2)%4):Nat),.int .i64 (bsC n (bsC n (t/4) (t%4)) ((bsS n (t/4) (t%4)+2)%4):Nat)])/\Below w.heap.size w w':=by
 obtain⟨b1,b2⟩:=qJ hn.1 (aW ht) (s:=t%4) (by omega)
 have O1:=hid (fun u=>oY (t%4) u (by omega))
 have O2:=hid (fun u=>oY (bsS n (t/4) (t%4)) u b2)
 have C1:=hid (fun u (hu:Ab w u)=>oZ n gb mb eb cap m (t/4) ((t%4+2)%4) v3 v4 v5 v6 u hn (aW ht) (by omega) (G.to hu))
 have C2:=hid (fun u (hu:Ab w u)=>oZ n gb mb eb cap m (bsC n (t/4) (t%4)) ((bsS n (t/4) (t%4)+2)%4) v3 v4 v5 v6 u hn b1 (by omega) (G.to hu))
 have c1:=G.cells.2.1
 obtain⟨y0,y1,y2,y3⟩:=G.2.1.2 t ht hl
 have kN:=lG hn.1 ht hl
 have kM:=(n12 hn).1
 have hcap:=G.2.2.2.1
 have lg:=lt_of_block G.1
 have le:=G.2.1.1
 have h1:=hid (heap_alloc_new w (.cells #[.int .i64 0,.int .i64 0] 70))
 generalize bsC n (bsC n (t/4) (t%4)) ((bsS n (t/4) (t%4)+2)%4)=q2 at*
 generalize bsC n (t/4) ((t%4+2)%4)=q1 at*
 generalize(bsS n (t/4) (t%4)+2)%4=o2 at*
 generalize(t%4+2)%4=o1 at*
 generalize bsC n (t/4) (t%4)=d at*
 generalize bsS n (t/4) (t%4)=b at*
 generalize t/4=c at*
 generalize t%4=s at*
 generalize 12*n*n=M at*
 generalize eN n t=k at*
 have hk1:(k:Int)<M:=by omega
 have hk2:(M:Int)<=12288:=by omega
 clear hn ht hl G kN kM b1 b2
 go_enter func29,ntmps29
 go_upto_region 2 with fail
 generalize hW:World.alloc _ _=W
 have ra:W.heap[w.heap.size]? =some (.cells #[.int .i64 0,.int .i64 0] 70):=by rw[<- hW];exact heap_alloc2_old _ _ _
 have rb:W.heap[w.heap.size+1]? =some (.cells #[.int .i64 c,.int .i64 s,.int .i64 d,.int .i64 b] 30):=by rw[<- hW];exact heap_alloc2_new _ _ _
 have AW:Hid (Ab w W):=by rw[<- hW];exact bl2 _ _ _
 have KS:Hid (∀w',Abx W w.heap.size 2 70 w'->Abx W w.heap.size 2 70 w'/\w'.cell? ⟨w.heap.size+1,0,none⟩=some (.int .i64 c)/\w'.cell? ⟨w.heap.size+1,1,none⟩=some (.int .i64 s)/\w'.cell? ⟨w.heap.size+1,2,none⟩=some (.int .i64 d)/\w'.cell? ⟨w.heap.size+1,3,none⟩=some (.int .i64 b)/\w'.frozen? ⟨w.heap.size,0,none⟩=false/\w'.frozen? ⟨w.heap.size,1,none⟩=false/\w'.cell? ⟨w.heap.size,0,none⟩=some (rv w' w.heap.size 0)/\w'.cell? ⟨w.heap.size,1,none⟩=some (rv w' w.heap.size 1)):=by
  intro w' hw
  have h:=hw.heap (k:=w.heap.size+1) (by omega) rb
  exact⟨hw,aA 0 h,aA 1 h,aA 2 h,aA 3 h,hw.free 0,hw.free 1,hw.some (by omega),hw.some (by omega)⟩
 have A1:Abx W w.heap.size 2 70 W:=(Ab.refl W).x rfl ra
 have D1:Hid (∀u,Abx W w.heap.size 2 70 u->Calls prog 48 #[.pointer (some ⟨gb,0,none⟩),.int .i64 c,.int .i64 o1] u fun e w'=>e=.returned (.int .i64 q1)/\Below u.heap.size u w'):=fun u hu=>C1.out u (hu.ab AW.out (Nat.le_refl _))
 have D2:Hid (∀u,Abx W w.heap.size 2 70 u->Calls prog 48 #[.pointer (some ⟨gb,0,none⟩),.int .i64 d,.int .i64 o2] u fun e w'=>e=.returned (.int .i64 q2)/\Below u.heap.size u w'):=fun u hu=>C2.out u (hu.ab AW.out (Nat.le_refl _))
 clear ra rb hW h1 y0 y1 y2 y3 c1 C1 C2
 go_region_held3 (fun w'=>Abx W w.heap.size 2 70 w'/\w'.cell? ⟨w.heap.size+1,0,none⟩=some (.int .i64 c)/\w'.cell? ⟨w.heap.size+1,1,none⟩=some (.int .i64 s)/\w'.cell? ⟨w.heap.size+1,2,none⟩=some (.int .i64 d)/\w'.cell? ⟨w.heap.size+1,3,none⟩=some (.int .i64 b)/\w'.frozen? ⟨w.heap.size,0,none⟩=false/\w'.frozen? ⟨w.heap.size,1,none⟩=false/\w'.cell? ⟨w.heap.size,0,none⟩=some (rv w' w.heap.size 0)/\w'.cell? ⟨w.heap.size,1,none⟩=some (rv w' w.heap.size 1)) ((refine KS.out _ ?_;(with_reducible (repeat(first | assumption | apply Abx.drew | apply Abx.set | (refine Abx.call ?_ (by assumption)))));done)) (first
  | (go_at_call_of 49 s;refine(O1.out _).mono ?_;rintro e w2 ⟨rfl,rfl⟩)
  | (go_at_call_of 49 b;refine(O2.out _).mono ?_;rintro e w2 ⟨rfl,rfl⟩)
  | (go_at_call_of 48 o1;refine(D1.out _ ?_).mono ?_;(exact And.left (by assumption));rintro e w3 ⟨rfl,b3⟩)
  | (go_at_call_of 48 o2;refine(D2.out _ ?_).mono ?_;(exact And.left (by assumption));rintro e w4 ⟨rfl,b4⟩))
 have A4:Abx W w.heap.size 2 70 w4:=Abx.call (Abx.call A1.drew b3) b4
 clear KS A1 b3 b4
 go_wp2
 refine bodyPost_ret ?_ rfl ⟨rfl,?_⟩
 ·exact results_cell_row results29 _ _ w.heap.size _ _ (0,0) _ rfl (set2 A4) underlying70 rfl (by kernel_rfl)
 ·exact((A4.set 0 _).set 1 _).ab AW.out (Nat.le_refl _)
end
section
open Go.RowKit Cu Tf
def edT(n k:Nat):Nat:=((List.range (24*n*n)).find? (fun t=>isL n t&&eN n t==k)).getD 0
theorem bM{n k:Nat}(hn:1<=n)(hk:k<12*n*n):edT n k<24*n*n/\isL n (edT n k)=true/\eN n (edT n k)=k:=by
 obtain⟨t,h1,h2,h3⟩:=ed_ex hn hk
 unfold edT
 cases h:(List.range (24*n*n)).find? (fun t=>isL n t&&eN n t==k)with
 | none=>
  have:=List.find?_eq_none.1 h t (List.mem_range.2 h1)
  simp[h2,h3]at this
 | some u=>
  have h4:=List.find?_some h
  have h5:=List.mem_range.1 (List.mem_of_find?_eq_some h)
  simp at h4
  exact⟨h5,h4.1,h4.2⟩
theorem lO{n t:Nat}(hn:1<=n)(ht:t<24*n*n)(hl:isL n t=true):edT n (eN n t)=t:=by
 obtain⟨h1,h2,h3⟩:=bM hn (lG hn ht hl)
 exact eN_inj h2 hl h3
theorem made_two(w:World)(N:Nat):(w.alloc (.cells (madeCells #[.int .i64 0,.int .i64 0] (N*2)) 70)).rowIs w.heap.size 70 (N*2) (fun _=>.int .i64 0):=by
 refine⟨_,heap_alloc_new _ _,size_madeCells _ _,fun i hi=> ?_⟩
 have h2:i%2=0\/i%2=1:=by omega
 rcases h2 with h2 | h2<;>simp[madeCells,hi,h2]
theorem Az(N gb:Nat)(f g:Nat->Int)(w:World)(hN:(N:Int)<=12288)
  (H:Hid (∀k:Nat,k<N-> ∀w',Ab w w'->Calls prog 29 #[.pointer (some ⟨gb,0,none⟩),.int .i64 k] w' fun e w''=>e=.returned (.agg #[.int .i64 (f k),.int .i64 (g k)])/\Below w'.heap.size w' w'')):
  Calls prog 28 #[.int .i64 N,.func (.func 29) #[.pointer (some ⟨gb,0,none⟩)] #[]] w fun e w'=>e=.returned (.slice (some ⟨w.heap.size,0,none⟩) N N)/\Below w.heap.size w w'/\w'.rowIs w.heap.size 70 (N*2) (fun i=>.int .i64 (if i%2=0 then f (i/2)else g (i/2))):=by
 obtain⟨i0,hi,hz0,hz1,hz2⟩:=info_parts infoTwo
 have MK:=run_make (P:=prog) w 64 70 i0 (.agg #[.int .i64 0,.int .i64 0]) underlying64 hi hz0 .i64 .i64 N N (by omega) (Int.le_refl _) (by rw[hz2];omega) (by omega)
 rw[hz1]at MK
 simp only[Int.toNat_natCast]at MK
 have e0:(Value.agg #[.int .i64 0,.int .i64 0]).cells= #[.int .i64 0,.int .i64 0]:=rfl
 rw[e0]at MK
 clear hi hz0 hz1 hz2 e0
 obtain⟨ob,hob⟩:=aB w.heap.size
 have RW:Hid ((w.alloc (.cells (madeCells #[.int .i64 0,.int .i64 0] (N*2)) 70)).rowIs ob 70 (N*2) (fun _=>.int .i64 0)):=by rw[<- hob];exact made_two _ _
 have A0:Hid (Ab w (w.alloc (.cells (madeCells #[.int .i64 0,.int .i64 0] (N*2)) 70))):=bl1 w _
 have HO:Hid (w.heap.size<=ob):=Nat.le_of_eq hob
 generalize w.alloc (.cells (madeCells #[.int .i64 0,.int .i64 0] (N*2)) 70)=wm at*
 go_enter func28,ntmps28
 go_wp2
 have HB:=hid hob
 clear MK hob
 go_loopw [11] (fun iv wr=> ∃k:Nat,k<=N/\iv=.int .i64 (k:Nat)/\Ab w wr/\wr.rowIs ob 70 (N*2) (fun i=>.int .i64 (if i/2<k then(if i%2=0 then f (i/2)else g (i/2))else 0))) (fun iv _=>N - (intOf iv).toNat)
 case atStart=>exact⟨0,by omega,rfl,A0.out,RW.out.congr (fun i _=>by simp)⟩
 case round=>
  obtain⟨k,hk,rfl,A,R⟩:=hrel
  have A1:=hid A
  have R1:=hid R
  clear A R A0 RW
  by_cases hkN:k<N
  ·have hkN':(k:Int)<N:=by omega
   have C:=hid (H.out k hkN wr A1.out)
   have HK:=hid hkN
   go_wp2_with fail
   refine C.out.mono ?_
   rintro e w1 ⟨rfl,b1⟩
   have A2:Hid (Ab w w1):=A1.out.call b1
   have R2:=hid (rowIs.ab R1.out b1)
   have x1:=R2.out.cell (i:=k*2) (by omega)
   have x2:=R2.out.frozen (k*2)
   have x3:=R2.out.cell (i:=k*2+1) (by omega)
   have x4:=R2.out.frozen (k*2+1)
   clear b1 C A1 R1 hkN
   go_wp2
   go_roundw
   case rel=>
    refine⟨k+1,by omega,by simp,Ab.setk (Ab.setk A2.out HO.out _) HO.out _,((R2.out.set (k*2) (.int .i64 (f k))).set (k*2+1) (.int .i64 (g k))).congr (fun i _=> ?_)⟩
    have q1:(k*2)/2=k:=by omega
    have q2:(k*2+1)/2=k:=by omega
    by_cases e1:i=k*2+1
    ·subst e1
     simp[q2]
    ·by_cases e2:i=k*2
     ·subst e2;simp[q1]
     ·have e3:(i/2<k+1) ↔ i/2<k:=by omega
      simp[e1,e2,e3]
   case measure=>have:=HK.out;simp[intOf];omega
  ·obtain rfl:k=N:=by omega
   go_wp2
   go_ret
   rw[HB.out]
   refine⟨rfl,by have h:=A1.out;unfold Ab at h;rw[HB.out]at h;exact h,R1.out.congr (fun i hi=> ?_)⟩
   have:i/2<k:=by omega
   simp[this]
end
section
open Go.RowKit Cu Tf
def bhC(n i:Nat):Int:=if i%2=0 then(bsC n (edT n (i/2)/4) ((edT n (i/2)%4+2)%4):Nat)else(bsC n (bsC n (edT n (i/2)/4) (edT n (i/2)%4)) ((bsS n (edT n (i/2)/4) (edT n (i/2)%4)+2)%4):Nat)
def GridOf(n gb:Nat)(w:World):Prop:=
 ∃mb eb cap m bb ab lb pb,GX n gb mb eb cap m (.slice (some ⟨bb,0,none⟩) (12*n*n) (12*n*n)) (.slice (some ⟨ab,0,none⟩) (6*n*n) (6*n*n)) (.slice (some ⟨lb,0,none⟩) (12*n*n) (12*n*n)) (.slice (some ⟨pb,0,none⟩) (12*n*n) (12*n*n)) w/\
  w.rowIs bb 70 (12*n*n*2) (fun i=>.int .i64 (bhC n i))/\w.rowIs ab 2 (6*n*n) (fun k=>.int .i64 (arI (ArC n k)))/\
  w.rowIs lb 35 (12*n*n) (fun k=>.float .f64 (LnC n (edT n k/4) (edT n k%4)))/\w.rowIs pb 35 (12*n*n) (fun k=>.float .f64 (GpC n (edT n k/4) (edT n k%4)))
theorem GridOf.to{n gb:Nat}{w w':World}(h:GridOf n gb w)(a:Ab w w'):GridOf n gb w':=by
 obtain⟨mb,eb,cap,m,bb,ab,lb,pb,h1,h2,h3,h4,h5⟩:=h
 exact⟨mb,eb,cap,m,bb,ab,lb,pb,h1.to a,rowIs.ab h2 a,rowIs.ab h3 a,rowIs.ab h4 a,rowIs.ab h5 a⟩
theorem EG.set{w:World}{n eb gb k:Nat}{v:Value}(h:EG w n eb)(hne:gb≠eb):EG (w.setCell ⟨gb,k,none⟩ v) n eb:=by
 have hb:(w.setCell ⟨gb,k,none⟩ v).heap[eb]? =w.heap[eb]? :=Below.heap_setCell _ _ _ _ (fun e=>hne e.symm)
 refine⟨by simpa [World.setCell]using h.1,fun t ht hl=> ?_⟩
 have hc: ∀j,(w.setCell ⟨gb,k,none⟩ v).cell? ⟨eb,j,none⟩=w.cell? ⟨eb,j,none⟩:=fun j=>World.cell?_of_block (by exact hb)
 simp only[hc]
 exact h.2 t ht hl
theorem GX.put3{n gb mb eb cap m:Nat}{v3 v4 v5 v6:Value}{w:World}(h:GX n gb mb eb cap m v3 v4 v5 v6 w)(v:Value):GX n gb mb eb cap m v v4 v5 v6 (w.setCell ⟨gb,3,none⟩ v):=by
 obtain⟨h1,h2,h3,h4,h5,h6,h7⟩:=h
 refine⟨?_,h2.set h7,h3.block (Below.heap_setCell _ _ _ _ (fun e=>h6 e.symm)),h4,h5,h6,h7⟩
 have:=aI (v:=v) (k:=3) h1
 simpa using this
theorem GX.put4{n gb mb eb cap m:Nat}{v3 v4 v5 v6:Value}{w:World}(h:GX n gb mb eb cap m v3 v4 v5 v6 w)(v:Value):GX n gb mb eb cap m v3 v v5 v6 (w.setCell ⟨gb,4,none⟩ v):=by
 obtain⟨h1,h2,h3,h4,h5,h6,h7⟩:=h
 refine⟨?_,h2.set h7,h3.block (Below.heap_setCell _ _ _ _ (fun e=>h6 e.symm)),h4,h5,h6,h7⟩
 have:=aI (v:=v) (k:=4) h1
 simpa using this
theorem GX.put5{n gb mb eb cap m:Nat}{v3 v4 v5 v6:Value}{w:World}(h:GX n gb mb eb cap m v3 v4 v5 v6 w)(v:Value):GX n gb mb eb cap m v3 v4 v v6 (w.setCell ⟨gb,5,none⟩ v):=by
 obtain⟨h1,h2,h3,h4,h5,h6,h7⟩:=h
 refine⟨?_,h2.set h7,h3.block (Below.heap_setCell _ _ _ _ (fun e=>h6 e.symm)),h4,h5,h6,h7⟩
 have:=aI (v:=v) (k:=5) h1
 simpa using this
theorem GX.put6{n gb mb eb cap m:Nat}{v3 v4 v5 v6:Value}{w:World}(h:GX n gb mb eb cap m v3 v4 v5 v6 w)(v:Value):GX n gb mb eb cap m v3 v4 v5 v (w.setCell ⟨gb,6,none⟩ v):=by
 obtain⟨h1,h2,h3,h4,h5,h6,h7⟩:=h
 refine⟨?_,h2.set h7,h3.block (Below.heap_setCell _ _ _ _ (fun e=>h6 e.symm)),h4,h5,h6,h7⟩
 have:=aI (v:=v) (k:=6) h1
 simpa using this
theorem GX.fr{n gb mb eb cap m:Nat}{v3 v4 v5 v6:Value}{w:World}(h:GX n gb mb eb cap m v3 v4 v5 v6 w)(k:Nat):w.frozen? ⟨gb,k,none⟩=false:=aF h.1 k
theorem AF(k:Int)(w:World):(Instr.makeMap 62 (some (.int .i64 k))).run prog w=.ok (.map (some w.heap.size)) (w.alloc (.map #[] 0)):=by
 simp[Instr.makeMap,run_underlying underlying62,asInt,asIntOf]
theorem ge_start(n:Nat)(w:World):GE w.heap.size n 0 (w.heap.size+1) w.heap.size (.slice none 0 0) (.slice none 0 0) (.slice none 0 0) (.slice none 0 0) (.slice none 0 0) ((w.alloc (.map #[] 0)).alloc (.cells #[.int .i64 n,.slice none 0 0,.map (some w.heap.size),.slice none 0 0,.slice none 0 0,.slice none 0 0,.slice none 0 0] 66)):=by
 refine⟨heap_alloc2_new _ _ _,World.ownsRow_nil _ _ _ _,?_,⟨by omega,by omega,by omega⟩,by simp[Value.ownBlock],by simp[Value.ownBlock]⟩
 have h:=(MapIs.made w).congr (g':=gT n 0) (fun c s _ _=>(gT_zero n c s).symm)
 exact h.block (Below.heap_alloc _ _ _ (by simp))
theorem yA(n:Nat)(w:World):Ab w ((w.alloc (.map #[] 0)).alloc (.cells #[.int .i64 n,.slice none 0 0,.map (some w.heap.size),.slice none 0 0,.slice none 0 0,.slice none 0 0,.slice none 0 0] 66)):=bl2 _ _ _
theorem new_at(n:Nat)(w:World)(hn:1<=n/\n<=32)(hF:Fr w):
  Calls prog 6 #[.int .i64 n] w fun e w'=> ∃gb,e=.returned (.tuple #[.pointer (some ⟨gb,0,none⟩),.int .i64 0])/\Ab w w'/\w.heap.size<=gb/\GridOf n gb w':=by
 have CE:=hid (fun u=>D7 n hn u)
 have h12:=n12 hn
 obtain⟨N,hN⟩:=aB (6*n*n)
 rw[hN]at CE
 have hN1:(N:Int)<=6144:=by omega
 have hN0:(N:Int)≠0:=by omega
 have HF:=hid hF
 have Hn:=hid hn
 have HN:=hid hN
 have H12:=hid h12
 have hmm:=AF (4*(N:Int))
 have AE:=hid (wZ n N (w.heap.size+1) w.heap.size (.slice none 0 0) (.slice none 0 0) (.slice none 0 0) (.slice none 0 0) w _ hn hN.symm hF (yA n w) (ge_start n w))
 clear hn hF hN h12
 go_enter func6,ntmps6
 go_wp2_with (go_at_call 24;refine(CE.out _).mono ?_;rintro e w' ⟨rfl,hw⟩;have hw2:=hw.symm;subst hw2)
 refine AE.out.mono ?_
 rintro e w1 ⟨rfl,A1,es,G1⟩
 obtain⟨eb,cap,-,rfl,G2⟩:=G1.all Hn.out.1
 have G:=hid G2
 have A:=hid A1
 obtain⟨M,hM⟩:=aB (12*n*n)
 have HM:=hid hM
 have hM1:(M:Int)<=12288:=by have:=H12.out.1;omega
 clear A1 G1 G2 AE CE hmm hM
 have LL:=hid (xX N (w.heap.size+1) (fun k=>arI (ArC n k)) w1 (by omega) (fun k hk u hu=>Ex n (w.heap.size+1) k u Hn.out (by rw[HN.out];exact hk) (G.out.to hu).cells.1))
 go_wp2_with fail
 refine LL.out.mono ?_
 rintro e w2 ⟨rfl,b2,R2⟩
 obtain⟨bA,hbA⟩:=aB w1.heap.size
 have hlt:=lt_of_block G.out.1
 have HA:Hid (bA≠w.heap.size+1):=by show _≠_;omega
 rw[hbA]at R2
 rw[hbA]
 have x1:=(G.out.to b2).cells.2.2.2.2.1
 have x2:=(G.out.to b2).fr 4
 go_upto_region 7 with fail
 obtain⟨uA,huA⟩:=aB (w2.setCell ⟨w.heap.size+1,4,none⟩ (.slice (some ⟨bA,0,none⟩) N N))
 rw[huA]
 have G':=hid ((G.out.to b2).put4 (.slice (some ⟨bA,0,none⟩) N N))
 have RA:=hid (R2.setOther (a:=⟨w.heap.size+1,4,none⟩) HA.out (.slice (some ⟨bA,0,none⟩) N N))
 have A':=hid (Ab.setk (A.out.call b2) (g:=w.heap.size+1) (k:=4) (by omega) (.slice (some ⟨bA,0,none⟩) N N))
 rw[huA]at G' RA A'
 clear LL R2 hlt G A hbA x1 x2 b2 huA
 clear w2 w1
 have G:=G'
 have A:=A'
 clear G' A'
 have c1:=G.out.cells.2.1
 rw[HM.out]at c1
 have LL:=hid (Az M (w.heap.size+1) (fun k=>(bsC n (edT n k/4) ((edT n k%4+2)%4):Nat)) (fun k=>(bsC n (bsC n (edT n k/4) (edT n k%4)) ((bsS n (edT n k/4) (edT n k%4)+2)%4):Nat)) uA (by omega) (fun k hk u hu=>by obtain⟨e1,e2,e3⟩:=bM Hn.out.1 (k:=k) (by rw[HM.out];exact hk);have h:=rL n _ _ _ _ _ (edT n k) _ _ _ _ u Hn.out e1 e2 (G.out.to hu);rw[e3]at h;exact h))
 go_wp2_with fail
 refine LL.out.mono ?_
 rintro e w2 ⟨rfl,b2,R2⟩
 clear c1
 obtain⟨bB,hbB⟩:=aB uA.heap.size
 have hlt:=lt_of_block G.out.1
 have HB:Hid (bB≠w.heap.size+1):=by show _≠_;omega
 rw[hbB]at R2
 rw[hbB]
 have x1:=(G.out.to b2).cells.2.2.2.1
 have x2:=(G.out.to b2).fr 3
 go_upto_region 8 with fail
 obtain⟨uB,huB⟩:=aB (w2.setCell ⟨w.heap.size+1,3,none⟩ (.slice (some ⟨bB,0,none⟩) M M))
 rw[huB]
 have G':=hid ((G.out.to b2).put3 (.slice (some ⟨bB,0,none⟩) M M))
 have RB:=hid (R2.setOther (a:=⟨w.heap.size+1,3,none⟩) HB.out (.slice (some ⟨bB,0,none⟩) M M))
 have RA':=hid ((rowIs.ab RA.out b2).setOther (a:=⟨w.heap.size+1,3,none⟩) HA.out (.slice (some ⟨bB,0,none⟩) M M))
 have A':=hid (Ab.setk (A.out.call b2) (g:=w.heap.size+1) (k:=3) (by omega) (.slice (some ⟨bB,0,none⟩) M M))
 rw[huB]at G' RB A' RA'
 clear LL R2 hlt G A hbB x1 x2 b2 huB RA
 clear w2 uA
 have G:=G'
 have A:=A'
 have RA:=RA'
 clear G' A' RA'
 have c1:=G.out.cells.2.1
 rw[HM.out]at c1
 have LL:=hid (Aw M (w.heap.size+1) (fun k=>LnC n (edT n k/4) (edT n k%4)) uB (by omega) (fun k hk u hu=>by obtain⟨e1,e2,e3⟩:=bM Hn.out.1 (k:=k) (by rw[HM.out];exact hk);have h:=xY n _ _ _ _ _ (edT n k) _ _ _ _ u Hn.out e1 e2 (HF.out.to (A.out.trans hu)) (G.out.to hu);rw[e3]at h;exact h))
 go_wp2_with fail
 refine LL.out.mono ?_
 rintro e w2 ⟨rfl,b2,R2⟩
 clear c1
 obtain⟨bL,hbL⟩:=aB uB.heap.size
 have hlt:=lt_of_block G.out.1
 have HL:Hid (bL≠w.heap.size+1):=by show _≠_;omega
 rw[hbL]at R2
 rw[hbL]
 have x1:=(G.out.to b2).cells.2.2.2.2.2.1
 have x2:=(G.out.to b2).fr 5
 go_upto_region 9 with fail
 obtain⟨uL,huL⟩:=aB (w2.setCell ⟨w.heap.size+1,5,none⟩ (.slice (some ⟨bL,0,none⟩) M M))
 rw[huL]
 have G':=hid ((G.out.to b2).put5 (.slice (some ⟨bL,0,none⟩) M M))
 have RL:=hid (R2.setOther (a:=⟨w.heap.size+1,5,none⟩) HL.out (.slice (some ⟨bL,0,none⟩) M M))
 have RA':=hid ((rowIs.ab RA.out b2).setOther (a:=⟨w.heap.size+1,5,none⟩) HA.out (.slice (some ⟨bL,0,none⟩) M M))
 have RB':=hid ((rowIs.ab RB.out b2).setOther (a:=⟨w.heap.size+1,5,none⟩) HB.out (.slice (some ⟨bL,0,none⟩) M M))
 have A':=hid (Ab.setk (A.out.call b2) (g:=w.heap.size+1) (k:=5) (by omega) (.slice (some ⟨bL,0,none⟩) M M))
 rw[huL]at G' RL A' RA' RB'
 clear LL R2 hlt G A hbL x1 x2 b2 huL RA RB
 clear w2 uB
 have G:=G'
 have A:=A'
 have RA:=RA'
 have RB:=RB'
 clear G' A' RA' RB'
 have c1:=G.out.cells.2.1
 rw[HM.out]at c1
 have LL:=hid (Ax M (w.heap.size+1) (fun k=>GpC n (edT n k/4) (edT n k%4)) uL (by omega) (fun k hk u hu=>by obtain⟨e1,e2,e3⟩:=bM Hn.out.1 (k:=k) (by rw[HM.out];exact hk);have h:=gapOf_at n _ _ _ _ _ (edT n k) _ _ _ _ u Hn.out e1 e2 (HF.out.to (A.out.trans hu)) (G.out.to hu);rw[e3]at h;exact h))
 go_wp2_with fail
 refine LL.out.mono ?_
 rintro e w2 ⟨rfl,b2,R2⟩
 clear c1
 obtain⟨bP,hbP⟩:=aB uL.heap.size
 have hlt:=lt_of_block G.out.1
 have HP:Hid (bP≠w.heap.size+1):=by show _≠_;omega
 rw[hbP]at R2
 rw[hbP]
 have x1:=(G.out.to b2).cells.2.2.2.2.2.2
 have x2:=(G.out.to b2).fr 6
 go_upto_region 10 with fail
 obtain⟨uP,huP⟩:=aB (w2.setCell ⟨w.heap.size+1,6,none⟩ (.slice (some ⟨bP,0,none⟩) M M))
 rw[huP]
 have G':=hid ((G.out.to b2).put6 (.slice (some ⟨bP,0,none⟩) M M))
 have RP:=hid (R2.setOther (a:=⟨w.heap.size+1,6,none⟩) HP.out (.slice (some ⟨bP,0,none⟩) M M))
 have RA':=hid ((rowIs.ab RA.out b2).setOther (a:=⟨w.heap.size+1,6,none⟩) HA.out (.slice (some ⟨bP,0,none⟩) M M))
 have RB':=hid ((rowIs.ab RB.out b2).setOther (a:=⟨w.heap.size+1,6,none⟩) HB.out (.slice (some ⟨bP,0,none⟩) M M))
 have RL':=hid ((rowIs.ab RL.out b2).setOther (a:=⟨w.heap.size+1,6,none⟩) HL.out (.slice (some ⟨bP,0,none⟩) M M))
 have A':=hid (Ab.setk (A.out.call b2) (g:=w.heap.size+1) (k:=6) (by omega) (.slice (some ⟨bP,0,none⟩) M M))
 rw[huP]at G' RP A' RA' RB' RL'
 clear LL R2 hlt G A hbP x1 x2 b2 huP RA RB RL
 clear w2 uL
 have G:=G'
 have A:=A'
 have RA:=RA'
 have RB:=RB'
 have RL:=RL'
 clear G' A' RA' RB' RL'
 go_wp2
 go_ret2
 refine⟨w.heap.size+1,rfl,A.out,by omega,?_⟩
 have hN:=HN.out
 have hM:=HM.out
 subst hN hM
 exact⟨w.heap.size,eb,cap,_,bB,bA,bL,bP,G.out,RB.out.congr (fun i _=>by unfold bhC;rfl),RA.out,RL.out,RP.out⟩
end
section
open Go.RowKit Cu Tf
attribute [local go_sem] aD
theorem new_no(n:Int)(w:World)(h: ¬(1<=n/\n<=32)):
  Calls prog 6 #[.int .i64 n] w fun e w'=>e=.returned (.tuple #[.pointer none,.int .i64 10])/\w'=w:=by
 have CE:=hid (fun u=>iJ n u)
 have hz:clN n=0:=by unfold clN;rw[if_neg h]
 rw[hz]at CE
 clear h hz
 go_enter func6,ntmps6
 go_wp2_with (go_at_call 24;refine(CE.out _).mono ?_;rintro e w' ⟨rfl,rfl⟩)
 go_ret2
 exact⟨rfl,rfl⟩
theorem fH(k n:Int)(w:World):Calls prog 33 #[.int .i64 k,.int .i64 n] w fun e w'=>e=.returned (.bool (inR k n))/\w'=w:=by
 by_cases h:0<=k
 ·go_enter func33,ntmps33
  go_wp2
  go_ret
  exact⟨by simp[inR,h],rfl⟩
 ·go_enter func33,ntmps33
  go_wp2
  go_ret
  exact⟨by simp[inR];omega,rfl⟩
theorem yB{n gb:Nat}{w:World}(g:GridOf n gb w):Calls prog 9 #[.pointer (some ⟨gb,0,none⟩)] w fun e w'=>e=.returned (.int .i64 n)/\w'=w:=by
 obtain⟨mb,eb,cap,m,bb,ab,lb,pb,h1,-⟩:=g
 obtain⟨c0,-⟩:=h1.cells
 clear h1
 go_enter func9,ntmps9
 go_wp2
 go_ret
 exact⟨rfl,rfl⟩
theorem dT{n gb:Nat}{w:World}(g:GridOf n gb w):Calls prog 7 #[.pointer (some ⟨gb,0,none⟩)] w fun e w'=>e=.returned (.int .i64 (6*n*n:Nat))/\w'=w:=by
 obtain⟨mb,eb,cap,m,bb,ab,lb,pb,h1,-⟩:=g
 obtain⟨-,-,-,-,c4,-⟩:=h1.cells
 generalize 6*n*n=N at*
 clear h1
 go_enter func7,ntmps7
 go_wp2
 go_ret
 exact⟨rfl,rfl⟩
theorem bZ{n gb:Nat}{w:World}(g:GridOf n gb w):Calls prog 8 #[.pointer (some ⟨gb,0,none⟩)] w fun e w'=>e=.returned (.int .i64 (12*n*n:Nat))/\w'=w:=by
 obtain⟨mb,eb,cap,m,bb,ab,lb,pb,h1,-⟩:=g
 obtain⟨-,c1,-⟩:=h1.cells
 clear h1
 generalize 12*n*n=M at*
 go_enter func8,ntmps8
 go_wp2
 go_ret
 exact⟨rfl,rfl⟩
theorem iU{k N:Nat}(h:k<N):inR (k:Int) (N:Int)=true:=by rw[cY];omega
theorem iV{n gb t:Nat}{w:World}(hn:1<=n/\n<=32)(ht:t<24*n*n)(hl:isL n t=true)(g:GridOf n gb w):
  Calls prog 10 #[.pointer (some ⟨gb,0,none⟩),.int .i64 (eN n t:Nat)] w fun e w'=>e=.returned (.tuple #[.agg #[.int .i64 (t/4:Nat),.int .i64 (t%4:Nat),.int .i64 (bsC n (t/4) (t%4):Nat),.int .i64 (bsS n (t/4) (t%4):Nat)],.bool true])/\Below w.heap.size w w':=by
 have E1:=hid (bZ (g.to (bl1 w (.cells #[.int .i64 0,.int .i64 0,.int .i64 0,.int .i64 0] 30))))
 have C1:=hid (fun u=>fH (eN n t:Nat) (12*n*n:Nat) u)
 rw[iU (lG hn.1 ht hl)]at C1
 obtain⟨mb,eb,cap,m,bb,ab,lb,pb,h1,-⟩:=g
 obtain⟨-,c1,-⟩:=h1.cells
 obtain⟨y0,y1,y2,y3⟩:=h1.2.1.2 t ht hl
 have lg:=lt_of_block h1.1
 have le:=h1.2.1.1
 have kN:=lG hn.1 ht hl
 have R0:=hid (heap_alloc_new w (.cells #[.int .i64 0,.int .i64 0,.int .i64 0,.int .i64 0] 30))
 have A0:=hid (bl1 w (.cells #[.int .i64 0,.int .i64 0,.int .i64 0,.int .i64 0] 30))
 generalize bsC n (t/4) (t%4)=d at*
 generalize bsS n (t/4) (t%4)=b at*
 generalize t/4=c at*
 generalize t%4=s at*
 generalize eN n t=k at*
 generalize 12*n*n=M at*
 have hk1:(k:Int)<M:=by omega
 clear h1 hn ht hl
 go_enter func10,ntmps10
 go_wp2_with (first
  | (go_at_call 8;refine(E1.out).mono ?_;rintro e w' ⟨rfl,hw⟩;have hw2:=hw.symm;subst hw2)
  | (go_at_call 33;refine(C1.out _).mono ?_;rintro e w' ⟨rfl,hw⟩;have hw2:=hw.symm;subst hw2))
 refine bodyPost_ret ?_ rfl ⟨rfl,?_⟩
 ·exact dE results10 _ _ w.heap.size _ _ (0,0) _ _ rfl rfl (heap_alloc_new w _) underlying30 rfl (by kernel_rfl)
 ·exact bl1 w _
theorem yC{n gb:Nat}{k:Int}{w:World}(hk:inR k (12*n*n:Nat)=false)(g:GridOf n gb w):
  Calls prog 10 #[.pointer (some ⟨gb,0,none⟩),.int .i64 k] w fun e w'=>e=.returned (.tuple #[.agg #[.int .i64 0,.int .i64 0,.int .i64 0,.int .i64 0],.bool false])/\Below w.heap.size w w':=by
 have E1:=hid (bZ (g.to (bl1 w (.cells #[.int .i64 0,.int .i64 0,.int .i64 0,.int .i64 0] 30))))
 have C1:=hid (fun u=>fH k (12*n*n:Nat) u)
 rw[hk]at C1
 generalize 12*n*n=M at*
 clear hk g
 go_enter func10,ntmps10
 go_wp2_with (first
  | (go_at_call 8;refine(E1.out).mono ?_;rintro e w' ⟨rfl,hw⟩;have hw2:=hw.symm;subst hw2)
  | (go_at_call 33;refine(C1.out _).mono ?_;rintro e w' ⟨rfl,hw⟩;have hw2:=hw.symm;subst hw2))
 refine bodyPost_ret ?_ rfl ⟨rfl,?_⟩
 ·exact dE results10 _ _ w.heap.size _ _ (0,0) _ _ rfl rfl (heap_alloc_new w _) underlying30 rfl (by kernel_rfl)
 ·exact bl1 w _
theorem lP{n gb:Nat}{c s:Int}{w:World}(hc:W64 c)(hs:W64 s)(g:GridOf n gb w):
  Calls prog 11 #[.pointer (some ⟨gb,0,none⟩),.int .i64 c,.int .i64 s] w fun e w'=>e=.returned (.tuple #[.int .i64 (gT n (24*n*n) c s).1,.int .i64 (gT n (24*n*n) c s).2])/\Below w.heap.size w w':=by
 obtain⟨mb,eb,cap,m,bb,ab,lb,pb,h1,-⟩:=g
 obtain⟨-,-,c2,-⟩:=h1.cells
 have LK:=h1.2.2.1.look hc hs
 generalize(gT n (24*n*n) c s).1=x at*
 generalize(gT n (24*n*n) c s).2=y at*
 clear h1 hc hs
 go_enter func11,ntmps11
 go_upto_region 4 with fail
 go_region
 go_wp2
 go_ret2
 exact⟨rfl,by first | exact bl1 w _ | exact Below.drew (bl1 w _)⟩
theorem lQ{n gb t:Nat}{w:World}(hn:1<=n/\n<=32)(ht:t<24*n*n)(hl:isL n t=true)(g:GridOf n gb w):
  Calls prog 172 #[.pointer (some ⟨gb,0,none⟩),.int .i64 (eN n t:Nat)] w fun e w'=>e=.returned (.tuple #[.int .i64 (bsC n (t/4) ((t%4+2)%4):Nat),.int .i64 (bsC n (bsC n (t/4) (t%4)) ((bsS n (t/4) (t%4)+2)%4):Nat),.bool true])/\Below w.heap.size w w':=by
 have E1:=hid (bZ g)
 have C1:=hid (fun u=>fH (eN n t:Nat) (12*n*n:Nat) u)
 have kN:=lG hn.1 ht hl
 rw[iU kN]at C1
 obtain⟨mb,eb,cap,m,bb,ab,lb,pb,h1,h2,-⟩:=g
 obtain⟨-,-,-,c3,-⟩:=h1.cells
 have y0:=h2.cell (i:=eN n t*2) (by omega)
 have y1:=h2.cell (i:=eN n t*2+1) (by omega)
 have e0:bhC n (eN n t*2)=(bsC n (t/4) ((t%4+2)%4):Nat):=by
  unfold bhC
  rw[if_pos (by omega),show eN n t*2/2=eN n t by omega,lO hn.1 ht hl]
 have e1:bhC n (eN n t*2+1)=(bsC n (bsC n (t/4) (t%4)) ((bsS n (t/4) (t%4)+2)%4):Nat):=by
  unfold bhC
  rw[if_neg (by omega),show(eN n t*2+1)/2=eN n t by omega,lO hn.1 ht hl]
 rw[e0]at y0
 rw[e1]at y1
 have lg:=lt_of_block h1.1
 have le:=h2.lt
 clear e0 e1 h2
 generalize bsC n (bsC n (t/4) (t%4)) ((bsS n (t/4) (t%4)+2)%4)=q2 at*
 generalize bsC n (t/4) ((t%4+2)%4)=q1 at*
 generalize eN n t=k at*
 generalize 12*n*n=M at*
 have hk1:(k:Int)<M:=by omega
 clear h1 hn ht hl
 go_enter func172,ntmps172
 go_upto_region 4 with(first
  | (go_at_call 8;refine(E1.out).mono ?_;rintro e w' ⟨rfl,hw⟩;have hw2:=hw.symm;subst hw2)
  | (go_at_call 33;refine(C1.out _).mono ?_;rintro e w' ⟨rfl,hw⟩;have hw2:=hw.symm;subst hw2))
 go_region
 go_wp2
 refine bodyPost_ret ?_ rfl ⟨rfl,?_⟩
 ·simp[results,results172,go_sem]
 ·first | exact bl1 w _ | exact Below.drew (bl1 w _)
theorem fX{n gb k:Nat}{w:World}(hn:1<=n/\n<=32)(hk:k<6*n*n)(g:GridOf n gb w):
  Calls prog 17 #[.pointer (some ⟨gb,0,none⟩),.int .i64 k] w fun e w'=>e=.returned (.int .i64 (arI (ArC n k)))/\Below w.heap.size w w':=by
 have E1:=hid (dT g)
 have C1:=hid (fun u=>fH (k:Nat) (6*n*n:Nat) u)
 have hN:=(n12 hn)
 rw[iU hk]at C1
 obtain⟨mb,eb,cap,m,bb,ab,lb,pb,h1,-,hr,-⟩:=g
 have c0:=h1.cells.2.2.2.2.1
 have y0:=hr.cell hk
 have lg:=lt_of_block h1.1
 have le:=hr.lt
 clear hr
 generalize arI (ArC n k)=V at*
 have hk2:((6*n*n:Nat):Int)<=12288:=by omega
 generalize 6*n*n=M at*
 have hk1:(k:Int)<M:=by omega
 clear h1 hn hN hk
 go_enter func17,ntmps17
 go_wp2_with (first
  | (go_at_call 7;refine(E1.out).mono ?_;rintro e w' ⟨rfl,hw⟩;have hw2:=hw.symm;subst hw2)
  | (go_at_call 33;refine(C1.out _).mono ?_;rintro e w' ⟨rfl,hw⟩;have hw2:=hw.symm;subst hw2))
 go_ret
 exact⟨rfl,Below.refl _ _⟩
theorem rM{n gb k:Nat}{w:World}(hn:1<=n/\n<=32)(hk:k<12*n*n)(g:GridOf n gb w):
  Calls prog 15 #[.pointer (some ⟨gb,0,none⟩),.int .i64 k] w fun e w'=>e=.returned (.float .f64 (LnC n (edT n k/4) (edT n k%4)))/\Below w.heap.size w w':=by
 have E1:=hid (bZ g)
 have C1:=hid (fun u=>fH (k:Nat) (12*n*n:Nat) u)
 have hN:=(n12 hn)
 rw[iU hk]at C1
 obtain⟨mb,eb,cap,m,bb,ab,lb,pb,h1,-,-,hr,-⟩:=g
 have c0:=h1.cells.2.2.2.2.2.1
 have y0:=hr.cell hk
 have lg:=lt_of_block h1.1
 have le:=hr.lt
 clear hr
 generalize LnC n (edT n k/4) (edT n k%4)=V at*
 have hk2:((12*n*n:Nat):Int)<=12288:=by omega
 generalize 12*n*n=M at*
 have hk1:(k:Int)<M:=by omega
 clear h1 hn hN hk
 go_enter func15,ntmps15
 go_wp2_with (first
  | (go_at_call 8;refine(E1.out).mono ?_;rintro e w' ⟨rfl,hw⟩;have hw2:=hw.symm;subst hw2)
  | (go_at_call 33;refine(C1.out _).mono ?_;rintro e w' ⟨rfl,hw⟩;have hw2:=hw.symm;subst hw2))
 go_ret
 exact⟨rfl,Below.refl _ _⟩
theorem De{n gb k:Nat}{w:World}(hn:1<=n/\n<=32)(hk:k<12*n*n)(g:GridOf n gb w):
  Calls prog 16 #[.pointer (some ⟨gb,0,none⟩),.int .i64 k] w fun e w'=>e=.returned (.float .f64 (GpC n (edT n k/4) (edT n k%4)))/\Below w.heap.size w w':=by
 have E1:=hid (bZ g)
 have C1:=hid (fun u=>fH (k:Nat) (12*n*n:Nat) u)
 have hN:=(n12 hn)
 rw[iU hk]at C1
 obtain⟨mb,eb,cap,m,bb,ab,lb,pb,h1,-,-,-,hr⟩:=g
 have c0:=h1.cells.2.2.2.2.2.2
 have y0:=hr.cell hk
 have lg:=lt_of_block h1.1
 have le:=hr.lt
 clear hr
 generalize GpC n (edT n k/4) (edT n k%4)=V at*
 have hk2:((12*n*n:Nat):Int)<=12288:=by omega
 generalize 12*n*n=M at*
 have hk1:(k:Int)<M:=by omega
 clear h1 hn hN hk
 go_enter func16,ntmps16
 go_wp2_with (first
  | (go_at_call 8;refine(E1.out).mono ?_;rintro e w' ⟨rfl,hw⟩;have hw2:=hw.symm;subst hw2)
  | (go_at_call 33;refine(C1.out _).mono ?_;rintro e w' ⟨rfl,hw⟩;have hw2:=hw.symm;subst hw2))
 go_ret
 exact⟨rfl,Below.refl _ _⟩
end
section
open Go.RowKit Cu Tf
theorem W64_of{a:Int}(h: -9223372036854775808<=a/\a<=9223372036854775807):W64 a:=h
end
section
open Tf Ieee Cu
def frc{β:Type}(x:Nat)(f:Nat->β):β:=match x with | 0=>f 0 | n+1=>f (n+1)
theorem cJ{β:Type}(x:Nat)(f:Nat->β):frc x f=f x:=by cases x<;>rfl
theorem cS{c:Bool}{a b:Nat}(h:c=true->a=b):(bif c then a else b)=b:=by
 cases c
 ·rfl
 ·exact h rfl
def rneF(q r g:Nat):Nat:=frc q fun q=>frc (2*r) fun t=>frc g fun g=>q+(bif Nat.blt g t||(Nat.beq g t&&Nat.beq (q%2) 1)then 1 else 0)
theorem rneF_eq(n g:Nat):rneF (n/g) (n%g) g=rne n g:=by
 unfold rneF rne
 simp only[cJ]
 congr 1
 by_cases c:g<2*(n%g)\/(g=2*(n%g)/\n/g%2=1)
 ·rw[if_pos c]
  have:(Nat.blt g (2*(n%g))||(Nat.beq g (2*(n%g))&&Nat.beq (n/g%2) 1))=true:=by simpa using c
  rw[this];rfl
 ·rw[if_neg c]
  have:(Nat.blt g (2*(n%g))||(Nat.beq g (2*(n%g))&&Nat.beq (n/g%2) 1))=false:=by
   rw[Bool.eq_false_iff];intro h;exact c (by simpa using h)
  rw[this];rfl
def lgS(V:Nat):Nat->Nat->Nat
 | 0,acc=>acc
 | k+1,acc=>frc acc fun acc=>bif Nat.ble (2 ^ (acc+2 ^ k)) V then lgS V k (acc+2 ^ k)else lgS V k acc
def lgF(V:Nat):Nat:=frc (lgS V 8 0) fun l=>bif Nat.ble (2 ^ l) V&&Nat.blt V (2 ^ (l+1))then l else V.log2
theorem lgF_eq(V:Nat):lgF V=V.log2:=by
 unfold lgF
 rw[cJ]
 refine cS fun h=> ?_
 rw[Bool.and_eq_true]at h
 exact(kJ (by simpa using h.1) (by simpa using h.2)).symm
def rungF(d V:Nat):Nat:=frc V fun V=>frc (lgF V - (52+d)) fun e=>frc (2 ^ (e+d)) fun g=>e*4503599627370496+rneF (V/g) (V%g) g
theorem rungF_eq(d V:Nat):rungF d V=rung 52 d V:=by
 unfold rungF rung
 simp only[cJ,lgF_eq]
 rw[rneF_eq]
theorem yD{V:Nat}(h0:V≠0)(h:52<=V.log2)(c:Nat):rung 52 0 (V*2 ^ c)=rung 52 0 V+c*4503599627370496:=by
 induction c with
 | zero=>rw[Nat.pow_zero,Nat.mul_one,Nat.zero_mul,Nat.add_zero]
 | succ c ih=>
  have hp:=Nat.two_pow_pos c
  have h2:V*2 ^ c≠0:=Nat.mul_ne_zero h0 (by omega)
  rw[Nat.pow_succ,<- Nat.mul_assoc,rung_dbl h2 (by rw[eP V c h0];omega),ih,Nat.add_mul,Nat.one_mul,Nat.add_assoc]
def nrmV(V e:Nat):Nat:=frc V fun V=>frc e fun e=>frc (lgF V) fun l=>
 bif Nat.beq V 0 then rung 52 0 (V*2 ^ e)else bif Nat.ble 52 l then rungF 0 V+e*4503599627370496 else bif Nat.ble (52 - l) e then V*2 ^ (52 - l)+(e - (52 - l))*4503599627370496 else rung 52 0 (V*2 ^ e)
theorem kZ(V e:Nat):nrmV V e=rung 52 0 (V*2 ^ e):=by
 unfold nrmV
 simp only[cJ,lgF_eq,rungF_eq]
 by_cases c:V=0
 ·have:Nat.beq V 0=true:=by rw[c];decide
  rw[this,cond_true]
 ·have h0:Nat.beq V 0=false:=by rw[Bool.eq_false_iff];intro k;exact c (by simpa using k)
  rw[h0,cond_false]
  by_cases h:52<=V.log2
  ·have h1:Nat.ble 52 V.log2=true:=by simpa using h
   rw[h1,cond_true,yD c h]
  ·have h1:Nat.ble 52 V.log2=false:=by rw[Bool.eq_false_iff];intro k;exact h (by simpa using k)
   rw[h1,cond_false]
   refine cS fun k=> ?_
   have k:52 - V.log2<=e:=by simpa using k
   have hl:(V*2 ^ (52 - V.log2)).log2=52:=by rw[eP V _ c];omega
   have hne:V*2 ^ (52 - V.log2)≠0:=Nat.mul_ne_zero c (by have:=Nat.two_pow_pos (52 - V.log2);omega)
   have e1:V*2 ^ e=V*2 ^ (52 - V.log2)*2 ^ (e - (52 - V.log2)):=by
    rw[Nat.mul_assoc,<- Nat.pow_add];congr 2;omega
   rw[e1,yD hne (by omega)]
   have e2:rung 52 0 (V*2 ^ (52 - V.log2))=V*2 ^ (52 - V.log2):=by
    unfold rung rne
    rw[hl]
    simp
    omega
   rw[e2]
def mgF(a:Nat):Nat:=a%9223372036854775808
theorem gU(a:Nat):mgF a=mg a:=rfl
def nrmF(a:Nat):Bool:=Nat.blt a 18446744073709551616&&Nat.ble 4503599627370496 (mgF a)&&Nat.blt (mgF a) 9218868437227405312
theorem eZ{a:Nat}(h:nrmF a=true):a<18446744073709551616/\4503599627370496<=mg a/\mg a<9218868437227405312:=by
 simp only[nrmF,gU,Bool.and_eq_true]at h
 exact⟨by simpa using h.1.1,by simpa using h.1.2,by simpa using h.2⟩
def ngF(a:Nat):Bool:=Nat.ble 9223372036854775808 a
theorem jF(a:Nat):ngF a=ng a:=by
 unfold ngF ng
 by_cases c:9223372036854775808<=a
 ·rw[decide_eq_true c];simpa using c
 ·rw[decide_eq_false c];rw[Bool.eq_false_iff];intro h;exact c (by simpa using h)
def pm(a:Nat):Nat:=4503599627370496+mgF a%4503599627370496
def pe(a:Nat):Nat:=mgF a/4503599627370496 - 1
theorem tW{a:Nat}(h:4503599627370496<=mg a):mv (mg a)=pm a*2 ^ pe a:=mL h
theorem AG(a:Nat):4503599627370496+mg a%4503599627370496=pm a:=by unfold pm;rw[gU]
theorem AH(a:Nat):mg a/4503599627370496 - 1=pe a:=by unfold pe;rw[gU]
def wdF(s:Bool)(r:Nat):Nat:=bif s then 9223372036854775808+r else r
def alI(s:Bool)(m:Nat):Int:=bif s then -(m:Int)else(m:Int)
def dfV(a b e:Nat):Int:=alI (ngF a) (pm a*2 ^ (pe a - e)) - alI (ngF b) (pm b*2 ^ (pe b - e))
def fsb0(a b e:Nat):Nat:=frc (dfV a b e).natAbs fun V=>frc (nrmV V e) fun r=>bif Nat.beq V 0 then 0 else bif Nat.ble r 9218868437227405312 then wdF (decide (dfV a b e<0)) r else sbB a b
theorem Df(a b e:Nat)(ha:nrmF a=true)(hb:nrmF b=true)(h1:e<=pe a)(h2:e<=pe b):fsb0 a b e=sbB a b:=by
 obtain⟨a1,a2,a3⟩:=eZ ha
 obtain⟨b1,b2,b3⟩:=eZ hb
 have hsv:sv a - sv b=dfV a b e*((2 ^ e:Nat):Int):=by
  have e1:pm a*2 ^ pe a=pm a*2 ^ (pe a - e)*2 ^ e:=by rw[Nat.mul_assoc,<- Nat.pow_add];congr 2;omega
  have e2:pm b*2 ^ pe b=pm b*2 ^ (pe b - e)*2 ^ e:=by rw[Nat.mul_assoc,<- Nat.pow_add];congr 2;omega
  unfold sv dfV alI
  rw[tW a2,tW b2,e1,e2,jF,jF]
  cases ng a<;>cases ng b<;>simp only[cond_true,cond_false,Bool.false_eq_true,if_false,if_true,Int.natCast_mul,Int.sub_mul,Int.neg_mul]
 have hsb:sbB a b=rn false (dfV a b e*((2 ^ e:Nat):Int)):=by
  unfold sbB
  rw[dM a _ a1 (bC b1) a3 (by rw[eC b1];exact b3),mJ b1,<- Int.sub_eq_add_neg,hsv]
 unfold fsb0
 simp only[cJ,kZ]
 rw[hsb]
 generalize dfV a b e=v at*
 have hp:=Nat.two_pow_pos e
 generalize 2 ^ e=P at*
 by_cases c:v=0
 ·have:Nat.beq v.natAbs 0=true:=by rw[c];decide
  rw[this,cond_true,c,Int.zero_mul,kO,if_neg Bool.false_ne_true]
 ·have h0:Nat.beq v.natAbs 0=false:=by
     rw[Bool.eq_false_iff];intro k;have:v.natAbs=0:=by simpa using k
     omega
  rw[h0,cond_false]
  refine cS fun k=> ?_
  have k:rung 52 0 (v.natAbs*P)<=9218868437227405312:=by simpa using k
  have hna:(v*(P:Int)).natAbs=v.natAbs*P:=by rw[Int.natAbs_mul,Int.natAbs_natCast]
  have hz: ¬v*(P:Int)=0:=by
   intro h
   rcases Int.mul_eq_zero.1 h with h | h
   ·exact c h
   ·omega
  have hs:decide (v*(P:Int)<0)=decide (v<0):=by
   by_cases d:v<0
   ·rw[decide_eq_true d,decide_eq_true (Int.mul_neg_of_neg_of_pos d (by omega))]
   ·rw[decide_eq_false d,decide_eq_false (by
      have:0<=v*(P:Int):=Int.mul_nonneg (by omega) (by omega)
      omega)]
  unfold rn wdF
  rw[if_neg hz,hna,hs,Nat.min_eq_left k]
  cases decide (v<0)
  ·rw[cond_false,if_neg Bool.false_ne_true]
  ·rw[cond_true,if_pos rfl]
def fsb1(a b:Nat):Nat:=frc a fun a=>frc b fun b=>
 bif nrmF a&&nrmF b then(bif Nat.ble (pe a) (pe b)then fsb0 a b (pe a)else fsb0 a b (pe b))else sbB a b
theorem fsb1_eq(a b:Nat):fsb1 a b=sbB a b:=by
 unfold fsb1
 simp only[cJ]
 refine cS fun h=> ?_
 rw[Bool.and_eq_true]at h
 cases c:Nat.ble (pe a) (pe b)
 ·have: ¬pe a<=pe b:=fun k=>by rw[show Nat.ble (pe a) (pe b)=true by simpa using k]at c;cases c
  rw[cond_false];exact Df a b _ h.1 h.2 (by omega) (Nat.le_refl _)
 ·have:pe a<=pe b:=by simpa using c
  rw[cond_true];exact Df a b _ h.1 h.2 (Nat.le_refl _) this
def fml1(a b:Nat):Nat:=frc a fun a=>frc b fun b=>frc (nrmV (pm a*pm b) (pe a+pe b - 1074)) fun r=>
 bif nrmF a&&nrmF b&&Nat.ble 1074 (pe a+pe b)&&Nat.ble r 9218868437227405312 then wdF (xor (ngF a) (ngF b)) r else mlB a b
theorem fml1_eq(a b:Nat):fml1 a b=mlB a b:=by
 unfold fml1
 simp only[cJ,kZ]
 refine cS fun h=> ?_
 simp only[Bool.and_eq_true]at h
 obtain⟨⟨⟨h1,h2⟩,h3⟩,h4⟩:=h
 obtain⟨a1,a2,a3⟩:=eZ h1
 obtain⟨b1,b2,b3⟩:=eZ h2
 have h3:1074<=pe a+pe b:=by simpa using h3
 have h4:rung 52 0 (pm a*pm b*2 ^ (pe a+pe b - 1074))<=9218868437227405312:=by simpa using h4
 have e:mv (mg a)*mv (mg b)=pm a*pm b*2 ^ (pe a+pe b - 1074)*2 ^ K:=by
  rw[tW a2,tW b2,Nat.mul_mul_mul_comm,<- Nat.pow_add,Nat.mul_assoc (pm a*pm b),<- Nat.pow_add]
  have hK:K=1074:=rfl
  rw[show pe a+pe b - 1074+K=pe a+pe b by omega]
 have er:rung 52 1074 (mv (mg a)*mv (mg b))=rung 52 0 (pm a*pm b*2 ^ (pe a+pe b - 1074)):=by
  rw[e]
  generalize pm a*pm b*2 ^ (pe a+pe b - 1074)=V
  have:=qV 52 0 K V
  rw[Nat.zero_add]at this
  have hK:(1074:Nat)=K:=rfl
  rw[hK]
  exact this
 rw[cZ (tL a b a1 b1 a3 b3),er,Nat.min_eq_left h4,jF,jF]
 unfold wdF
 cases(ng a ^^ ng b)
 ·rw[cond_false,if_neg Bool.false_ne_true]
 ·rw[cond_true,if_pos rfl]
def fpl0(a b:Nat):Nat:=frc (nrmV (pm a+pm b*2 ^ (pe b - pe a)) (pe a)) fun r=>bif nrmF a&&nrmF b&&Nat.blt a 9223372036854775808&&Nat.blt b 9223372036854775808&&Nat.ble (pe a) (pe b)&&Nat.ble r 9218868437227405312 then r else plB a b
theorem fpl0_eq(a b:Nat):fpl0 a b=plB a b:=by
 unfold fpl0
 simp only[cJ,kZ]
 refine cS fun h=> ?_
 simp only[Bool.and_eq_true]at h
 obtain⟨⟨⟨⟨⟨h1,h2⟩,h3⟩,h4⟩,h5⟩,h6⟩:=h
 obtain⟨a1,a2,a3⟩:=eZ h1
 obtain⟨b1,b2,b3⟩:=eZ h2
 have h3:a<9223372036854775808:=by simpa using h3
 have h4:b<9223372036854775808:=by simpa using h4
 have h5:pe a<=pe b:=by simpa using h5
 have h6:rung 52 0 ((pm a+pm b*2 ^ (pe b - pe a))*2 ^ pe a)<=9218868437227405312:=by simpa using h6
 have ma:mg a=a:=aZ h3
 have mb:mg b=b:=aZ h4
 have e:mv a+mv b=(pm a+pm b*2 ^ (pe b - pe a))*2 ^ pe a:=by
  have ea:=tW a2
  have eb:=tW b2
  rw[ma]at ea
  rw[mb]at eb
  rw[ea,eb,Nat.add_mul,Nat.mul_assoc (pm b),<- Nat.pow_add]
  congr 3;omega
 rw[kV (by omega) (by omega),e,Nat.min_eq_left h6]
def fpl1(a b:Nat):Nat:=frc a fun a=>frc b fun b=>bif Nat.ble (pe a) (pe b)then fpl0 a b else bif Nat.blt a 9218868437227405312&&Nat.blt b 9218868437227405312 then fpl0 b a else plB a b
theorem fpl1_eq(a b:Nat):fpl1 a b=plB a b:=by
 unfold fpl1
 simp only[cJ,fpl0_eq]
 cases Nat.ble (pe a) (pe b)
 ·rw[cond_false]
  refine cS fun h=> ?_
  rw[Bool.and_eq_true]at h
  have h1:a<9218868437227405312:=by simpa using h.1
  have h2:b<9218868437227405312:=by simpa using h.2
  rw[kV h1 h2,kV h2 h1,Nat.add_comm]
 ·rw[cond_true]
def finF(a:Nat):Bool:=Nat.blt a 18446744073709551616&&Nat.blt (mgF a) 9218868437227405312
theorem iX{a:Nat}(h:finF a=true):a<18446744073709551616/\mg a<9218868437227405312:=by
 simp only[finF,gU,Bool.and_eq_true]at h
 exact⟨by simpa using h.1,by simpa using h.2⟩
theorem mv_0:mv 0=0:=by decide
def fml(a b:Nat):Nat:=frc a fun a=>frc b fun b=>bif (Nat.beq (mgF a) 0||Nat.beq (mgF b) 0)&&(finF a&&finF b)then wdF (xor (ngF a) (ngF b)) 0 else fml1 a b
theorem fml_eq(a b:Nat):fml a b=mlB a b:=by
 unfold fml
 simp only[cJ,fml1_eq]
 refine cS fun h=> ?_
 simp only[Bool.and_eq_true,Bool.or_eq_true]at h
 obtain⟨h1,h2,h3⟩:=h
 obtain⟨a1,a2⟩:=iX h2
 obtain⟨b1,b2⟩:=iX h3
 have hz:mv (mg a)*mv (mg b)=0:=by
  rcases h1 with h | h
  ·have:mg a=0:=by simpa [gU]using h
   rw[this,mv_0,Nat.zero_mul]
  ·have:mg b=0:=by simpa [gU]using h
   rw[this,mv_0,Nat.mul_zero]
 have hr:min (rung 52 1074 0) 9218868437227405312=0:=by decide+kernel
 rw[cZ (tL a b a1 b1 a2 b2),hz,hr,jF,jF]
 unfold wdF
 cases(ng a ^^ ng b)
 ·rw[cond_false,if_neg Bool.false_ne_true]
 ·rw[cond_true,if_pos rfl]
theorem pl_0{b:Nat}(h:b<9218868437227405312):plB 0 b=b/\plB b 0=b:=by
 have h0:(0:Nat)<9218868437227405312:=by omega
 have e:rung 52 0 (mv b)=b:=iK 52 b (by omega)
 rw[kV h0 h,kV h h0,mv_0,Nat.zero_add,Nat.add_zero,e,Nat.min_eq_left (by omega)]
 exact⟨rfl,rfl⟩
def fpl(a b:Nat):Nat:=frc a fun a=>frc b fun b=>bif Nat.beq a 0&&Nat.blt b 9218868437227405312 then b else bif Nat.beq b 0&&Nat.blt a 9218868437227405312 then a else fpl1 a b
theorem fpl_eq(a b:Nat):fpl a b=plB a b:=by
 unfold fpl
 simp only[cJ,fpl1_eq]
 have k:(bif Nat.beq b 0&&Nat.blt a 9218868437227405312 then a else plB a b)=plB a b:=by
  refine cS fun h=> ?_
  rw[Bool.and_eq_true]at h
  have h1:b=0:=by simpa using h.1
  have h2:a<9218868437227405312:=by simpa using h.2
  rw[h1,(pl_0 h2).2]
 rw[k]
 refine cS fun h=> ?_
 rw[Bool.and_eq_true]at h
 have h1:a=0:=by simpa using h.1
 have h2:b<9218868437227405312:=by simpa using h.2
 rw[h1,(pl_0 h2).1]
theorem mv_ne{r:Nat}(h:r≠0):mv r≠0:=by
 intro e
 have:=iK 52 r (by omega)
 have e2:mag 52 r=0:=e
 rw[e2]at this
 have z:=iK 52 0 (by omega)
 have e3:mag 52 0=0:=mv_0
 rw[e3]at z
 omega
theorem rn_svQ{a:Nat}(ha:a<18446744073709551616)(h0:mg a≠0)(hf:mg a<9218868437227405312):rn false (sv a)=a:=by
 have e:rung 52 0 (mv (mg a))=mg a:=iK 52 _ (by omega)
 have hm:=mv_ne h0
 cases hn:ng a
 ·have hs:sv a=(mv (mg a):Int):=by unfold sv;rw[hn];rfl
  have ea:mg a=a:=aZ (dZ hn)
  rw[hs]
  generalize mv (mg a)=v at*
  unfold rn
  have c1: ¬((v:Int)=0):=by omega
  have c2: ¬((v:Int)<0):=by omega
  rw[if_neg c1,decide_eq_false c2,if_neg Bool.false_ne_true,Int.natAbs_natCast,e,Nat.min_eq_left (by omega),ea]
 ·have hs:sv a= -(mv (mg a):Int):=by unfold sv;rw[hn];rfl
  have ea:9223372036854775808+mg a=a:=by have:=eU hn;unfold mg;omega
  rw[hs]
  generalize mv (mg a)=v at*
  unfold rn
  have c1: ¬(-(v:Int)=0):=by omega
  have c2:(-(v:Int))<0:=by omega
  rw[if_neg c1,decide_eq_true c2,if_pos rfl,Int.natAbs_neg,Int.natAbs_natCast,e,Nat.min_eq_left (by omega),ea]
theorem sv_0{a:Nat}(h:mg a=0):sv a=0:=by unfold sv;rw[h,mv_0];cases ng a<;>rfl
def ngtF(b:Nat):Nat:=bif ngF b then b - 9223372036854775808 else b+9223372036854775808
theorem ngtF_eq(b:Nat):ngtF b=negB b:=by
 unfold ngtF negB
 rw[jF]
 cases ng b
 ·rw[cond_false,if_neg Bool.false_ne_true]
 ·rw[cond_true,if_pos rfl]
def fsb(a b:Nat):Nat:=frc a fun a=>frc b fun b=>
 bif finF a&&finF b&&Nat.beq (mgF b) 0 then(bif Nat.beq (mgF a) 0 then 0 else a)else bif finF a&&finF b&&Nat.beq (mgF a) 0 then ngtF b else fsb1 a b
theorem fsb_eq(a b:Nat):fsb a b=sbB a b:=by
 unfold fsb
 simp only[cJ,fsb1_eq,ngtF_eq]
 have hs:finF a=true->finF b=true->sbB a b=rn false (sv a - sv b):=by
  intro h1 h2
  obtain⟨a1,a2⟩:=iX h1
  obtain⟨b1,b2⟩:=iX h2
  unfold sbB
  rw[dM a _ a1 (bC b1) a2 (by rw[eC b1];exact b2),mJ b1,Int.sub_eq_add_neg]
 cases hb:(finF a&&finF b&&Nat.beq (mgF b) 0)
 ·rw[cond_false]
  refine cS fun h=> ?_
  simp only[Bool.and_eq_true]at h
  obtain⟨⟨h1,h2⟩,h3⟩:=h
  obtain⟨b1,b2⟩:=iX h2
  have z:mg a=0:=by simpa [gU]using h3
  have nz:mg b≠0:=by
   intro k
   rw[h1,h2,gU,k]at hb
   cases hb
  rw[hs h1 h2,sv_0 z,Int.zero_sub,<- mJ b1,rn_svQ (bC b1) (by rw[eC b1];exact nz) (by rw[eC b1];exact b2)]
 ·rw[cond_true]
  simp only[Bool.and_eq_true]at hb
  obtain⟨⟨h1,h2⟩,h3⟩:=hb
  obtain⟨a1,a2⟩:=iX h1
  have z:mg b=0:=by simpa [gU]using h3
  rw[hs h1 h2,sv_0 z,Int.sub_zero]
  cases hc:Nat.beq (mgF a) 0
  ·have nz:mg a≠0:=by
    intro k
    rw[gU,k]at hc
    cases hc
   rw[cond_false,rn_svQ a1 nz a2]
  ·have z2:mg a=0:=by simpa [gU]using hc
   rw[cond_true,sv_0 z2,kO,if_neg Bool.false_ne_true]
def fth(a b c:Nat):Nat:=frc a fun a=>frc b fun b=>frc c fun c=>frc (loB a b) fun l=>frc (hiB a b) fun h=>frc (loB h c) fun m=>fpl (fpl (loB l m) (hiB l m)) (hiB h c)
theorem fth_eq(a b c:Nat):fth a b c=thB a b c:=by unfold fth thB;simp only[cJ,fpl_eq]
def nwt(n r:Nat):Nat:=frc r fun r=>frc ((r+n/r)/2) fun r=>frc ((r+n/r)/2) fun r=>frc ((r+n/r)/2) fun r=>frc ((r+n/r)/2) fun r=>frc ((r+n/r)/2) fun r=>(r+n/r)/2
def isF(X:Nat):Nat:=frc (nwt X 27021597764222976) fun q=>frc (bif Nat.ble (q*q) X then q else q - 1) fun r=>bif Nat.ble (r*r) X&&Nat.blt X ((r+1)*(r+1))then r else isq X
theorem isq_uni{X r:Nat}(h1:r*r<=X)(h2:X<(r+1)*(r+1)):r=isq X:=by
 obtain⟨a,b⟩:=xI X
 generalize isq X=q at*
 rcases Nat.lt_trichotomy r q with h | h | h
 ·have:(r+1)*(r+1)<=q*q:=Nat.mul_le_mul h h
  omega
 ·exact h
 ·have:(q+1)*(q+1)<=r*r:=Nat.mul_le_mul h h
  omega
theorem isF_eq(X:Nat):isF X=isq X:=by
 unfold isF
 simp only[cJ]
 refine cS fun h=> ?_
 rw[Bool.and_eq_true]at h
 exact isq_uni (by simpa using h.1) (by simpa using h.2)
def stF(X:Nat):Nat:=frc X fun X=>frc (isF X) fun q=>2*q+(bif Nat.beq (q*q) X then 0 else 1)
theorem stF_eq(X:Nat):stF X=stW X:=by
 unfold stF stW
 simp only[cJ,isF_eq]
 congr 1
 by_cases c:isq X*isq X=X
 ·rw[show Nat.beq (isq X*isq X) X=true by simpa using c,show(isq X*isq X != X)=false by rw[bne_eq_false_iff_eq];exact c];rfl
 ·rw[show Nat.beq (isq X*isq X) X=false by rw[Bool.eq_false_iff];intro k;exact c (by simpa using k),show(isq X*isq X != X)=true from bne_iff_ne.2 c];rfl
theorem sqrt_exp{T:Nat}(hT:T<18446744073709551616)(hn:ng T=false)(h1:4503599627370496<=mg T)(h2:mg T<9218868437227405312):
  ∃s d,(56<=s/\s<=57)/\mg T/4503599627370496 - 1+1074=s+(2*d+2)/\rtB T=rung 52 0 (stW ((4503599627370496+mg T%4503599627370496) <<< s)*2 ^ d):=by
 have e1:=sqrt_eq hT hn h1 h2
 have hq:mg T%4503599627370496<4503599627370496:=Nat.mod_lt _ (by omega)
 generalize hm:4503599627370496+mg T%4503599627370496=m at e1 ⊢
 have hl:m.log2=52:=by rw[<- hm];exact xJ _ hq
 have hk:mg T/4503599627370496 - 1<=2045:=by omega
 generalize mg T/4503599627370496 - 1=k at e1 hk ⊢
 have hlp:=d_lp
 generalize hi:double.leastPlace+(k:Int)=i at e1
 obtain⟨m1,m2,m3,m4⟩:=rtM_val i hl
 generalize rtM m i=s at*
 obtain⟨w1,w2⟩:=rtW_val (m:=m) (s:=s) (by omega) (by omega) ⟨m1,m2⟩
 have hst:rtW m s=stW (m <<< s):=rfl
 obtain⟨d,hd⟩: ∃d:Nat,(i - (s:Int))/2 - 1=double.leastPlace+(d:Int):=⟨((i - (s:Int))/2 - 1 - double.leastPlace).toNat,by omega⟩
 have hdle:d<=1531:=by omega
 have hks:k+K=s+(2*d+2):=by
  have:K=1074:=rfl
  omega
 rw[fF double false (rtW m s) d _ hd,dW,bW]at e1
 generalize rtW m s=W at*
 have h0:W*2 ^ d≠0:=Nat.mul_ne_zero (by omega) (by have:=Nat.two_pow_pos d;omega)
 have hlog:52+0<=(W*2 ^ d).log2:=by
  refine(Nat.le_log2 h0).2 ?_
  have e:(2:Nat) ^ (52+0)=4503599627370496:=by decide
  rw[e]
  have:=Nat.two_pow_pos d
  exact Nat.le_trans (by omega) (Nat.le_mul_of_pos_right W this)
 have hb:=xH hlog h0
 have hW57:W<=2 ^ 57:=by
  have e:(2:Nat) ^ 57=144115188075855872:=by decide
  omega
 have hle:=rung_E16 (le_E16 hW57 hdle)
 have hfb:double.fractionBits=52:=rfl
 rw[hfb]at e1
 refine⟨s,d,⟨m1,m2⟩,?_,?_⟩
 ·have:K=1074:=rfl
  omega
 ·rw[<- hst]
  generalize rung 52 0 (W*2 ^ d)=r at*
  simp only[Bool.false_eq_true,if_false]at e1
  rw[Nat.min_eq_left (by omega)]at e1
  have hmr:mg r=r:=aZ (by omega)
  have c1:canonB r=r:=by unfold canonB;rw[if_neg (by rw[bJ];omega),if_neg (by omega)]
  rw[iP e1,c1]
def frt(T:Nat):Nat:=frc T fun T=>
 bif nrmF T&&Nat.blt T 9218868437227405312&&Nat.ble 100 (pe T)then nrmV (stF (pm T <<< (56+pe T%2))) ((pe T+1074 - (56+pe T%2))/2 - 1)else rtB T
theorem frt_eq(T:Nat):frt T=rtB T:=by
 unfold frt
 simp only[cJ,kZ,stF_eq]
 refine cS fun h=> ?_
 simp only[Bool.and_eq_true]at h
 obtain⟨⟨h1,h2⟩,h3⟩:=h
 obtain⟨a1,a2,a3⟩:=eZ h1
 have h2:T<9218868437227405312:=by simpa using h2
 have h3:100<=pe T:=by simpa using h3
 obtain⟨s,d,⟨s1,s2⟩,hs,e⟩:=sqrt_exp a1 (bK (by omega)) a2 a3
 rw[e]
 have hpe:=AH T
 rw[hpe]at hs
 have es:56+pe T%2=s:=by omega
 have ed:(pe T+1074 - s)/2 - 1=d:=by omega
 have hpm:=AG T
 rw[es,ed,hpm]
theorem cw(c:Bool)(r:Nat)(h1:1<=r)(h2:r<=9218868437227405312):wdF c r=canonB (if c=true then 9223372036854775808+r else r):=by
 cases c
 ·have hm:mg r=r:=aZ (by omega)
  unfold wdF canonB
  rw[cond_false,if_neg Bool.false_ne_true,if_neg (by rw[bJ,hm];omega),if_neg (by rw[hm];omega)]
 ·have hm:mg (9223372036854775808+r)=r:=by unfold mg;omega
  unfold wdF canonB
  rw[cond_true,if_pos rfl,if_neg (by rw[bJ,hm];omega),if_neg (by rw[hm];omega)]
def fdq(m n:Nat):Nat:=frc (m <<< 54) fun p=>frc n fun n=>2*(p/n)+(bif Nat.beq (p%n) 0 then 0 else 1)
def fdv(a b:Nat):Nat:=frc a fun a=>frc b fun b=>frc (nrmV (fdq (pm a) (pm b)) (pe a+1019 - pe b)) fun r=>
 bif nrmF a&&nrmF b&&Nat.ble (pe b) (pe a+1019)&&Nat.ble 1 r&&Nat.ble r 9218868437227405312 then wdF (xor (ngF a) (ngF b)) r else dvB a b
theorem fdv_eq(a b:Nat):fdv a b=dvB a b:=by
 unfold fdv
 simp only[cJ,kZ]
 refine cS fun h=> ?_
 simp only[Bool.and_eq_true]at h
 obtain⟨⟨⟨⟨h1,h2⟩,h3⟩,h4⟩,h5⟩:=h
 obtain⟨a0,a1,a2⟩:=eZ h1
 obtain⟨b0,b1,b2⟩:=eZ h2
 have h3:pe b<=pe a+1019:=by simpa using h3
 have h4:1<=rung 52 0 (fdq (pm a) (pm b)*2 ^ (pe a+1019 - pe b)):=by simpa using h4
 have h5:rung 52 0 (fdq (pm a) (pm b)*2 ^ (pe a+1019 - pe b))<=9218868437227405312:=by simpa using h5
 have hfd: ∀m n,fdq m n=2*((m <<< 54)/n)+((m <<< 54)%n != 0).toNat:=by
  intro m n
  unfold fdq
  simp only[cJ]
  by_cases c:(m <<< 54)%n=0
  ·have:Nat.beq ((m <<< 54)%n) 0=true:=by rw[c];decide
   rw[this,show((m <<< 54)%n != 0)=false by rw[c];decide];simp only[cond_true,Bool.toNat_false]
  ·have:Nat.beq ((m <<< 54)%n) 0=false:=by rw[Bool.eq_false_iff];intro k;exact c (by simpa using k)
   rw[this,show((m <<< 54)%n != 0)=true from bne_iff_ne.2 c];simp only[cond_false,Bool.toNat_true]
 have hd:double.div a b=some (double.nearest (sgn a ^^ sgn b) (fdq (pm a) (pm b)) (double.leastPlace+((pe a+1019 - pe b:Nat):Int))):=by
  show((double.read a).quotient 54 (double.read b)).map double.write=_
  rw[iQ a1 a2,iQ b1 b2,hfd]
  have l1:=xJ (mg a%4503599627370496) (Nat.mod_lt _ (by omega))
  have l2:=xJ (mg b%4503599627370496) (Nat.mod_lt _ (by omega))
  have hn:4503599627370496+mg b%4503599627370496≠0:=by omega
  have hlp:=d_lp
  have q1:=AG a
  have q2:=AG b
  have q3:=AH a
  have q4:=AH b
  rw[q1]at l1 ⊢
  rw[q2]at l2 hn ⊢
  rw[q3,q4]
  clear h4 h5 hfd q1 q2 q3 q4 h1 h2
  generalize pm a=m at*
  generalize pm b=n at*
  generalize pe a=x at*
  generalize pe b=y at*
  unfold Datum.quotient
  dsimp only
  rw[if_neg hn,l1,l2]
  simp only[Option.map_some,Format.write]
  have e:double.leastPlace+(x:Int) - (double.leastPlace+(y:Int)) - ((54+52 - 52:Nat):Int) - 1=double.leastPlace+((x+1019 - y:Nat):Int):=by omega
  rw[e]
 rw[eV hd,fF double _ _ _ _ rfl,dW,bW,rA a0,rA b0,jF,jF,show double.fractionBits=52 from rfl,Nat.min_eq_left h5]
 exact cw _ _ h4 h5
def fln(x y z:Nat):Nat:=frc x fun x=>frc y fun y=>frc z fun z=>frt (fth (fml x x) (fml y y) (fml z z))
theorem AI(x y z:Nat):fln x y z=lnB x y z:=by unfold fln lnB sqB;simp only[cJ,frt_eq,fth_eq,fml_eq]
def fBF(k:Int):Nat:=frc k.natAbs fun m=>frc (nrmV m K) fun r=>bif Nat.beq m 0 then 0 else bif Nat.ble r 9218868437227405312 then wdF (decide (k<0)) r else fB k
theorem fBF_eq(k:Int):fBF k=fB k:=by
 unfold fBF
 simp only[cJ,kZ]
 by_cases c:k=0
 ·have:Nat.beq k.natAbs 0=true:=by rw[c];decide
  rw[this,cond_true]
  have z:fB k=0:=by rw[c];decide+kernel
  rw[z]
 ·have h0:Nat.beq k.natAbs 0=false:=by
     rw[Bool.eq_false_iff];intro q;have:k.natAbs=0:=by simpa using q
     omega
  rw[h0,cond_false]
  refine cS fun q=> ?_
  have q:rung 52 0 (k.natAbs*2 ^ K)<=9218868437227405312:=by simpa using q
  unfold fB
  rw[gH]
  have hp:=Nat.two_pow_pos K
  generalize 2 ^ K=P at*
  have hna:(k*(P:Int)).natAbs=k.natAbs*P:=by rw[Int.natAbs_mul,Int.natAbs_natCast]
  have hz: ¬k*(P:Int)=0:=by
   intro h
   rcases Int.mul_eq_zero.1 h with h | h
   ·exact c h
   ·omega
  have hs:decide (k*(P:Int)<0)=decide (k<0):=by
   by_cases d:k<0
   ·rw[decide_eq_true d,decide_eq_true (Int.mul_neg_of_neg_of_pos d (by omega))]
   ·rw[decide_eq_false d,decide_eq_false (by
      have:0<=k*(P:Int):=Int.mul_nonneg (by omega) (by omega)
      omega)]
  unfold rn wdF
  rw[if_neg hz,hna,hs,Nat.min_eq_left q]
  cases decide (k<0)
  ·rw[cond_false,if_neg Bool.false_ne_true]
  ·rw[cond_true,if_pos rfl]
def fqo(n:Nat)(k:Int):Nat:=bif decide (k=0)&&Nat.ble 1 n&&Nat.ble n 32 then 0 else fdv (fBF k) (fBF n)
theorem fqo_eq(n:Nat)(k:Int):fqo n k=qo n k:=by
 unfold fqo
 rw[fdv_eq,fBF_eq,fBF_eq]
 refine cS fun h=> ?_
 simp only[Bool.and_eq_true,decide_eq_true_eq]at h
 obtain⟨⟨h1,h2⟩,h3⟩:=h
 have h2:1<=n:=by simpa using h2
 have h3:n<=32:=by simpa using h3
 obtain⟨b1,b2⟩:=C5 n (by omega) h2
 have z:fB k=0:=by rw[h1];decide+kernel
 rw[z,rD _ b1 b2 0 (by decide)]
def lvF(l:Nat):Bool:=(Nat.ble 4503599627370496 l&&Nat.blt l 9218868437227405312)||lvB l
theorem lvF_eq(l:Nat):lvF l=lvB l:=by
 unfold lvF
 cases h:(Nat.ble 4503599627370496 l&&Nat.blt l 9218868437227405312)
 ·rfl
 ·rw[Bool.and_eq_true]at h
  have h1:4503599627370496<=l:=by simpa using h.1
  have h2:l<9218868437227405312:=by simpa using h.2
  have hm:mg l=l:=aZ (by omega)
  rw[xQ (by omega) (bK (by omega))]
  unfold classB
  rw[hm,if_neg (by omega),if_neg (by omega),if_pos h2]
  rfl
def fun'(l x:Nat):Nat:=bif lvF l then(bif Nat.beq x 0&&Nat.ble 4503599627370496 l&&Nat.blt l 9218868437227405312 then 0 else fdv x l)else 0
theorem fun_eq(l x:Nat):fun' l x=unB l x:=by
 unfold fun' unB
 rw[lvF_eq,fdv_eq]
 cases lvB l
 ·rfl
 ·rw[cond_true,if_pos rfl]
  refine cS fun h=> ?_
  simp only[Bool.and_eq_true]at h
  obtain⟨⟨h1,h2⟩,h3⟩:=h
  have h1:x=0:=by simpa using h1
  have h2:4503599627370496<=l:=by simpa using h2
  have h3:l<9218868437227405312:=by simpa using h3
  have hm:mg l=l:=aZ (by omega)
  rw[h1,rD l (by rw[hm];omega) (by rw[hm];exact h3) 0 (by decide)]
def fpt{β:Type}(n:Nat)(k h:Int)(f:Nat->Nat->Nat->β):β:=
 frc (fqo n n) fun a=>frc (fqo n k) fun b=>frc (fqo n h) fun c=>frc (fln a b c) fun l=>frc (fun' l a) fun x=>frc (fun' l b) fun y=>frc (fun' l c) fun z=>f x y z
theorem AJ{β:Type}(n:Nat)(k h:Int)(f:Nat->Nat->Nat->β):fpt n k h f=f (px n (n,k,h)) (py n (n,k,h)) (pz n (n,k,h)):=by
 unfold fpt px py pz pL;simp only[cJ,fqo_eq,AI,fun_eq]
def allB(p:Nat->Bool):Nat->Bool
 | 0=>true
 | k+1=>bif p k then allB p k else false
theorem hJ{p:Nat->Bool}{n:Nat}(h:allB p n=true): ∀k,k<n->p k=true:=by
 induction n with
 | zero=>intro k hk;omega
 | succ n ih=>
  intro k hk
  have h':(bif p n then allB p n else false)=true:=h
  cases c:p n
  ·rw[c,cond_false]at h';cases h'
  ·rw[c,cond_true]at h'
   by_cases e:k=n
   ·rw[e];exact c
   ·exact ih h' k (by omega)
end
section
open Tf Ieee Cu
def gapP(n:Nat)(k h k' h':Int):Bool:=fpt n k h fun x y z=>fpt n k' h' fun x' y' z'=>frc (fln (fsb x x') (fsb y y') (fsb z z')) fun l=>Nat.ble 1 l&&Nat.ble l 4611686018427387904
def lenN(n:Nat):Bool:=allB (fun i=>allB (fun j=>gapP n ((2*i+n%2:Nat):Int) ((2*j:Nat) - (n%2:Nat):Int) ((2*i+n%2:Nat):Int) ((2*j+2:Nat) - (n%2:Nat):Int)) ((n+n%2)/2)) ((n - n%2)/2+1)
def gapN(n:Nat):Bool:=allB (fun i=>allB (fun j=>gapP n ((2*i:Nat) - ((n+1)%2:Nat):Int) ((2*j+(n+1)%2:Nat):Int) ((2*i+2:Nat) - ((n+1)%2:Nat):Int) ((2*j+(n+1)%2:Nat):Int)) ((n - 1 - (n+1)%2)/2+1)) ((n - 1+(n+1)%2)/2)
def overN(n:Nat):Bool:=allB (fun j=>fpt n ((n:Int) - 1) ((2*j+(n+1)%2:Nat):Int) fun x y z=>frc (fln (fsb x y) (fsb y x) (fsb z z)) fun l=>Nat.ble 1 l&&Nat.ble l 4611686018427387904) ((n - 1 - (n+1)%2)/2+1)
end
section
theorem len_all:(allB (fun m=>lenN (m+1)) 32)=true:=by kernel_rfl
end
section
theorem Dg:(allB (fun m=>gapN (m+1)&&overN (m+1)) 32)=true:=by kernel_rfl
end
end Go.Proofs.YtmhnilnaffjhmaaGreatDoor
