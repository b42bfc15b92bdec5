/-
  Some of the texts of this proof, one behind the other.
-/
import Derived.Test.YtjheiemgfibgpaaDoorRows
import Derived.ProofKit
import Derived.OpenShut
import Derived.WalkLawsBesides
import Derived.Stop.Joined
import Derived.Carry
import Derived.Lib.SmallJoins
import Derived.Deep.Slices
import Derived.Deep.OwnRows
import Derived.Deep.AppendLies
import Derived.OwnWalk
import Derived.Deep.Cut
import Derived.Deep.CutRange
import Derived.Deep.AppendSrc
import Derived.Deep.QuietTactic
import Derived.Laws.StructEq
import Derived.Test.YtjheiemgfibgpaaDoorUf04
set_option maxRecDepth 100000
set_option maxHeartbeats 400000000
namespace Go.Proofs.YtjheiemgfibgpaaDoor
open _root_.Go.Proofs.Tryd
section
open Go.RowKit Cu Tf
theorem oG(gb mb eb cap c s x y:Nat)(sg:Int)(w:World)(M:Nat)(hk:(x:Int)<M)(lg:gb<w.heap.size)(le:eb<w.heap.size)
  (c1:w.cell? ⟨gb,1,none⟩=some (.slice (some ⟨eb,0,none⟩) M cap)) (c2:w.cell? ⟨gb,2,none⟩=some (.map (some mb)))
  (LK:(Instr.lookup 55 (.map (some mb)) (.agg #[.int .i64 c,.int .i64 s]) false).run prog w=.ok (.agg #[.int .i64 x,.int .i64 sg]) w)
  (HY:Hid ((sg=1/\w.cell? ⟨eb,x*4+2,none⟩=some (.int .i64 y))\/(sg= -1/\w.cell? ⟨eb,x*4,none⟩=some (.int .i64 y)))):
  Calls prog 47 #[.pointer (some ⟨gb,0,none⟩),.int .i64 c,.int .i64 s] w fun e w'=>e=.returned (.int .i64 y)/\Below w.heap.size w w':=by
 rcases HY.out with⟨rfl,hy⟩ | ⟨rfl,hy⟩
 ·clear HY
  go_enter func47,ntmps47
  go_upto_region 3 with fail
  go_region
  go_wp2
  go_ret
  exact⟨rfl,by first | exact bl1 w _ | exact Below.drew (bl1 w _)⟩
 ·clear HY
  go_enter func47,ntmps47
  go_upto_region 4 with fail
  go_region
  go_wp2
  go_ret
  exact⟨rfl,by first | exact bl1 w _ | exact Below.drew (bl1 w _)⟩
theorem hJ(n gb mb eb cap m c s:Nat)(v3 v4 v5 v6:Value)(w:World)(hn:1<=n/\n<=32)(hc:c<6*n*n)(hs:s<4)(G:GX n gb mb eb cap m v3 v4 v5 v6 w):
  Calls prog 47 #[.pointer (some ⟨gb,0,none⟩),.int .i64 c,.int .i64 s] w fun e w'=>e=.returned (.int .i64 (bsC n c s:Nat))/\Below w.heap.size w w':=by
 have ht:=t_lt hc hs
 have hd:=t_dec (c:=c) hs
 have h12:=n12 hn
 have LK:=G.2.2.1.look (c:=c) (s:=s) (by unfold W64;omega) (by unfold W64;omega)
 rw[gT_end hn.1 hc hs]at LK
 refine oG gb mb eb cap c s (eE n (4*c+s)) (bsC n c s) (eS n (4*c+s)) w (12*n*n) (by have:=eE_lt hn.1 ht;omega) (lt_of_block G.1) G.2.1.1 G.cells.2.1 G.cells.2.2.1 LK ?_
 show _\/_
 unfold eE eS
 cases hl:isL n (4*c+s)with
 | true=>
  refine .inl ⟨rfl,?_⟩
  have h:=(G.2.1.2 _ ht hl).2.2.1
  rw[hd.1,hd.2]at h
  exact h
 | false=>
  refine .inr ⟨rfl,?_⟩
  have h:=(G.2.1.2 _ (mR hn.1 ht) (by rw[iQ hn.1 ht,hl];rfl)).1
  rw[(pO hn.1 ht).1,hd.1,hd.2]at h
  exact h
theorem set2{W w:World}{g:Nat}{x y:Value}{T:TypeId}(h:Abx W g 2 T w):((w.setCell ⟨g,0,none⟩ x).setCell ⟨g,1,none⟩ y).heap[g]? =some (.cells #[x,y] T):=by
 obtain⟨_,cs,h6,h⟩:=h
 obtain⟨a,b,rfl⟩: ∃a b,cs= #[a,b]:=by
  rcases cs with⟨l⟩
  match l,h6 with
  | [a,b],_=>exact⟨a,b,rfl⟩
 have h1:=aI (v:=x) (k:=0) h
 have h2:=aI (v:=y) (k:=1) h1
 simpa using h2
theorem jR(n gb mb eb cap m t:Nat)(v3 v4 v5 v6:Value)(w:World)(hn:1<=n/\n<=32)(ht:t<24*n*n)(hl:isL n t=true)(G:GX n gb mb eb cap m v3 v4 v5 v6 w):
  Calls prog 27 #[.pointer (some ⟨gb,0,none⟩),.int .i64 (eN n t:Nat)] w fun e w'=>e=.returned (.agg #[.int .i64 (bsC n (t/4) ((t%4+2)%4):Nat),.int .i64 (bsC n (bsC n (t/4) (t%4)) ((bsS n (t/4) (t%4)+2)%4):Nat)])/\Below w.heap.size w w':=by
 obtain⟨b1,b2⟩:=fI hn.1 (cD ht) (s:=t%4) (by omega)
 have O1:=hid (fun u=>hI (t%4) u (by omega))
 have O2:=hid (fun u=>hI (bsS n (t/4) (t%4)) u b2)
 have C1:=hid (fun u (hu:Ab w u)=>hJ n gb mb eb cap m (t/4) ((t%4+2)%4) v3 v4 v5 v6 u hn (cD ht) (by omega) (G.to hu))
 have C2:=hid (fun u (hu:Ab w u)=>hJ n gb mb eb cap m (bsC n (t/4) (t%4)) ((bsS n (t/4) (t%4)+2)%4) v3 v4 v5 v6 u hn b1 (by omega) (G.to hu))
 have c1:=G.cells.2.1
 obtain⟨y0,y1,y2,y3⟩:=G.2.1.2 t ht hl
 have kN:=fJ hn.1 ht hl
 have kM:=(n12 hn).1
 have hcap:=G.2.2.2.1
 have lg:=lt_of_block G.1
 have le:=G.2.1.1
 have h1:=hid (heap_alloc_new w (.cells #[.int .i64 0,.int .i64 0] 63))
 generalize bsC n (bsC n (t/4) (t%4)) ((bsS n (t/4) (t%4)+2)%4)=q2 at*
 generalize bsC n (t/4) ((t%4+2)%4)=q1 at*
 generalize(bsS n (t/4) (t%4)+2)%4=o2 at*
 generalize(t%4+2)%4=o1 at*
 generalize bsC n (t/4) (t%4)=d at*
 generalize bsS n (t/4) (t%4)=b at*
 generalize t/4=c at*
 generalize t%4=s at*
 generalize 12*n*n=M at*
 generalize eN n t=k at*
 have hk1:(k:Int)<M:=by omega
 have hk2:(M:Int)<=12288:=by omega
 clear hn ht hl G kN kM b1 b2
 go_enter func27,ntmps27
 go_upto_region 2 with fail
 generalize hW:World.alloc _ _=W
 have ra:W.heap[w.heap.size]? =some (.cells #[.int .i64 0,.int .i64 0] 63):=by rw[<- hW];exact heap_alloc2_old _ _ _
 have rb:W.heap[w.heap.size+1]? =some (.cells #[.int .i64 c,.int .i64 s,.int .i64 d,.int .i64 b] 71):=by rw[<- hW];exact heap_alloc2_new _ _ _
 have AW:Hid (Ab w W):=by rw[<- hW];exact bl2 _ _ _
 have KS:Hid (∀w',Abx W w.heap.size 2 63 w'->Abx W w.heap.size 2 63 w'/\w'.cell? ⟨w.heap.size+1,0,none⟩=some (.int .i64 c)/\w'.cell? ⟨w.heap.size+1,1,none⟩=some (.int .i64 s)/\w'.cell? ⟨w.heap.size+1,2,none⟩=some (.int .i64 d)/\w'.cell? ⟨w.heap.size+1,3,none⟩=some (.int .i64 b)/\w'.frozen? ⟨w.heap.size,0,none⟩=false/\w'.frozen? ⟨w.heap.size,1,none⟩=false/\w'.cell? ⟨w.heap.size,0,none⟩=some (rv w' w.heap.size 0)/\w'.cell? ⟨w.heap.size,1,none⟩=some (rv w' w.heap.size 1)):=by
  intro w' hw
  have h:=hw.heap (k:=w.heap.size+1) (by omega) rb
  exact⟨hw,aA 0 h,aA 1 h,aA 2 h,aA 3 h,hw.free 0,hw.free 1,hw.some (by omega),hw.some (by omega)⟩
 have A1:Abx W w.heap.size 2 63 W:=(Ab.refl W).x rfl ra
 have D1:Hid (∀u,Abx W w.heap.size 2 63 u->Calls prog 47 #[.pointer (some ⟨gb,0,none⟩),.int .i64 c,.int .i64 o1] u fun e w'=>e=.returned (.int .i64 q1)/\Below u.heap.size u w'):=fun u hu=>C1.out u (hu.ab AW.out (Nat.le_refl _))
 have D2:Hid (∀u,Abx W w.heap.size 2 63 u->Calls prog 47 #[.pointer (some ⟨gb,0,none⟩),.int .i64 d,.int .i64 o2] u fun e w'=>e=.returned (.int .i64 q2)/\Below u.heap.size u w'):=fun u hu=>C2.out u (hu.ab AW.out (Nat.le_refl _))
 clear ra rb hW h1 y0 y1 y2 y3 c1 C1 C2
 go_region_held3 (fun w'=>Abx W w.heap.size 2 63 w'/\w'.cell? ⟨w.heap.size+1,0,none⟩=some (.int .i64 c)/\w'.cell? ⟨w.heap.size+1,1,none⟩=some (.int .i64 s)/\w'.cell? ⟨w.heap.size+1,2,none⟩=some (.int .i64 d)/\w'.cell? ⟨w.heap.size+1,3,none⟩=some (.int .i64 b)/\w'.frozen? ⟨w.heap.size,0,none⟩=false/\w'.frozen? ⟨w.heap.size,1,none⟩=false/\w'.cell? ⟨w.heap.size,0,none⟩=some (rv w' w.heap.size 0)/\w'.cell? ⟨w.heap.size,1,none⟩=some (rv w' w.heap.size 1)) ((refine KS.out _ ?_;(with_reducible (repeat(first | assumption | apply Abx.drew | apply Abx.set | (refine Abx.call ?_ (by assumption)))));done)) (first
  | (go_at_call_of 48 s;refine(O1.out _).mono ?_;rintro e w2 ⟨rfl,rfl⟩)
  | (go_at_call_of 48 b;refine(O2.out _).mono ?_;rintro e w2 ⟨rfl,rfl⟩)
  | (go_at_call_of 47 o1;refine(D1.out _ ?_).mono ?_;(exact And.left (by assumption));rintro e w3 ⟨rfl,b3⟩)
  | (go_at_call_of 47 o2;refine(D2.out _ ?_).mono ?_;(exact And.left (by assumption));rintro e w4 ⟨rfl,b4⟩))
 have A4:Abx W w.heap.size 2 63 w4:=Abx.call (Abx.call A1.drew b3) b4
 clear KS A1 b3 b4
 go_wp2
 refine bodyPost_ret ?_ rfl ⟨rfl,?_⟩
 ·exact results_cell_row results27 _ _ w.heap.size _ _ (0,0) _ rfl (set2 A4) underlying63 rfl (by kernel_rfl)
 ·exact((A4.set 0 _).set 1 _).ab AW.out (Nat.le_refl _)
end
section
open Go.RowKit Cu Tf
def edT(n k:Nat):Nat:=((List.range (24*n*n)).find? (fun t=>isL n t&&eN n t==k)).getD 0
theorem bW{n k:Nat}(hn:1<=n)(hk:k<12*n*n):edT n k<24*n*n/\isL n (edT n k)=true/\eN n (edT n k)=k:=by
 obtain⟨t,h1,h2,h3⟩:=ed_ex hn hk
 unfold edT
 cases h:(List.range (24*n*n)).find? (fun t=>isL n t&&eN n t==k)with
 | none=>
  have:=List.find?_eq_none.1 h t (List.mem_range.2 h1)
  simp[h2,h3]at this
 | some u=>
  have h4:=List.find?_some h
  have h5:=List.mem_range.1 (List.mem_of_find?_eq_some h)
  simp at h4
  exact⟨h5,h4.1,h4.2⟩
theorem edT_eN{n t:Nat}(hn:1<=n)(ht:t<24*n*n)(hl:isL n t=true):edT n (eN n t)=t:=by
 obtain⟨h1,h2,h3⟩:=bW hn (fJ hn ht hl)
 exact eN_inj h2 hl h3
theorem made_two(w:World)(N:Nat):(w.alloc (.cells (madeCells #[.int .i64 0,.int .i64 0] (N*2)) 63)).rowIs w.heap.size 63 (N*2) (fun _=>.int .i64 0):=by
 refine⟨_,heap_alloc_new _ _,size_madeCells _ _,fun i hi=> ?_⟩
 have h2:i%2=0\/i%2=1:=by omega
 rcases h2 with h2 | h2<;>simp[madeCells,hi,h2]
theorem qG(N gb:Nat)(f g:Nat->Int)(w:World)(hN:(N:Int)<=12288)
  (H:Hid (∀k:Nat,k<N-> ∀w',Ab w w'->Calls prog 27 #[.pointer (some ⟨gb,0,none⟩),.int .i64 k] w' fun e w''=>e=.returned (.agg #[.int .i64 (f k),.int .i64 (g k)])/\Below w'.heap.size w' w'')):
  Calls prog 26 #[.int .i64 N,.func (.func 27) #[.pointer (some ⟨gb,0,none⟩)] #[]] w fun e w'=>e=.returned (.slice (some ⟨w.heap.size,0,none⟩) N N)/\Below w.heap.size w w'/\w'.rowIs w.heap.size 63 (N*2) (fun i=>.int .i64 (if i%2=0 then f (i/2)else g (i/2))):=by
 obtain⟨i0,hi,hz0,hz1,hz2⟩:=info_parts infoTwo
 have MK:=run_make (P:=prog) w 57 63 i0 (.agg #[.int .i64 0,.int .i64 0]) underlying57 hi hz0 .i64 .i64 N N (by omega) (Int.le_refl _) (by rw[hz2];omega) (by omega)
 rw[hz1]at MK
 simp only[Int.toNat_natCast]at MK
 have e0:(Value.agg #[.int .i64 0,.int .i64 0]).cells= #[.int .i64 0,.int .i64 0]:=rfl
 rw[e0]at MK
 clear hi hz0 hz1 hz2 e0
 obtain⟨ob,hob⟩:=aB w.heap.size
 have RW:Hid ((w.alloc (.cells (madeCells #[.int .i64 0,.int .i64 0] (N*2)) 63)).rowIs ob 63 (N*2) (fun _=>.int .i64 0)):=by rw[<- hob];exact made_two _ _
 have A0:Hid (Ab w (w.alloc (.cells (madeCells #[.int .i64 0,.int .i64 0] (N*2)) 63))):=bl1 w _
 have HO:Hid (w.heap.size<=ob):=Nat.le_of_eq hob
 generalize w.alloc (.cells (madeCells #[.int .i64 0,.int .i64 0] (N*2)) 63)=wm at*
 go_enter func26,ntmps26
 go_wp2
 have HB:=hid hob
 clear MK hob
 go_loopw [11] (fun iv wr=> ∃k:Nat,k<=N/\iv=.int .i64 (k:Nat)/\Ab w wr/\wr.rowIs ob 63 (N*2) (fun i=>.int .i64 (if i/2<k then(if i%2=0 then f (i/2)else g (i/2))else 0))) (fun iv _=>N - (intOf iv).toNat)
 case atStart=>exact⟨0,by omega,rfl,A0.out,RW.out.congr (fun i _=>by simp)⟩
 case round=>
  obtain⟨k,hk,rfl,A,R⟩:=hrel
  have A1:=hid A
  have R1:=hid R
  clear A R A0 RW
  by_cases hkN:k<N
  ·have hkN':(k:Int)<N:=by omega
   have C:=hid (H.out k hkN wr A1.out)
   have HK:=hid hkN
   go_wp2_with fail
   refine C.out.mono ?_
   rintro e w1 ⟨rfl,b1⟩
   have A2:Hid (Ab w w1):=A1.out.call b1
   have R2:=hid (rowIs.ab R1.out b1)
   have x1:=R2.out.cell (i:=k*2) (by omega)
   have x2:=R2.out.frozen (k*2)
   have x3:=R2.out.cell (i:=k*2+1) (by omega)
   have x4:=R2.out.frozen (k*2+1)
   clear b1 C A1 R1 hkN
   go_wp2
   go_roundw
   case rel=>
    refine⟨k+1,by omega,by simp,Ab.setk (Ab.setk A2.out HO.out _) HO.out _,((R2.out.set (k*2) (.int .i64 (f k))).set (k*2+1) (.int .i64 (g k))).congr (fun i _=> ?_)⟩
    have q1:(k*2)/2=k:=by omega
    have q2:(k*2+1)/2=k:=by omega
    by_cases e1:i=k*2+1
    ·subst e1
     simp[q2]
    ·by_cases e2:i=k*2
     ·subst e2;simp[q1]
     ·have e3:(i/2<k+1) ↔ i/2<k:=by omega
      simp[e1,e2,e3]
   case measure=>have:=HK.out;simp[intOf];omega
  ·obtain rfl:k=N:=by omega
   go_wp2
   go_ret
   rw[HB.out]
   refine⟨rfl,by have h:=A1.out;unfold Ab at h;rw[HB.out]at h;exact h,R1.out.congr (fun i hi=> ?_)⟩
   have:i/2<k:=by omega
   simp[this]
end
section
open Go.RowKit Cu Tf
def bhC(n i:Nat):Int:=if i%2=0 then(bsC n (edT n (i/2)/4) ((edT n (i/2)%4+2)%4):Nat)else(bsC n (bsC n (edT n (i/2)/4) (edT n (i/2)%4)) ((bsS n (edT n (i/2)/4) (edT n (i/2)%4)+2)%4):Nat)
def GridOf(n gb:Nat)(w:World):Prop:=
 ∃mb eb cap m bb ab lb pb,GX n gb mb eb cap m (.slice (some ⟨bb,0,none⟩) (12*n*n) (12*n*n)) (.slice (some ⟨ab,0,none⟩) (6*n*n) (6*n*n)) (.slice (some ⟨lb,0,none⟩) (12*n*n) (12*n*n)) (.slice (some ⟨pb,0,none⟩) (12*n*n) (12*n*n)) w/\
  w.rowIs bb 63 (12*n*n*2) (fun i=>.int .i64 (bhC n i))/\w.rowIs ab 2 (6*n*n) (fun k=>.int .i64 (arI (ArC n k)))/\
  w.rowIs lb 45 (12*n*n) (fun k=>.float .f64 (LnC n (edT n k/4) (edT n k%4)))/\w.rowIs pb 45 (12*n*n) (fun k=>.float .f64 (GpC n (edT n k/4) (edT n k%4)))
theorem GridOf.to{n gb:Nat}{w w':World}(h:GridOf n gb w)(a:Ab w w'):GridOf n gb w':=by
 obtain⟨mb,eb,cap,m,bb,ab,lb,pb,h1,h2,h3,h4,h5⟩:=h
 exact⟨mb,eb,cap,m,bb,ab,lb,pb,h1.to a,rowIs.ab h2 a,rowIs.ab h3 a,rowIs.ab h4 a,rowIs.ab h5 a⟩
theorem EG.set{w:World}{n eb gb k:Nat}{v:Value}(h:EG w n eb)(hne:gb≠eb):EG (w.setCell ⟨gb,k,none⟩ v) n eb:=by
 have hb:(w.setCell ⟨gb,k,none⟩ v).heap[eb]? =w.heap[eb]? :=Below.heap_setCell _ _ _ _ (fun e=>hne e.symm)
 refine⟨by simpa [World.setCell]using h.1,fun t ht hl=> ?_⟩
 have hc: ∀j,(w.setCell ⟨gb,k,none⟩ v).cell? ⟨eb,j,none⟩=w.cell? ⟨eb,j,none⟩:=fun j=>World.cell?_of_block (by exact hb)
 simp only[hc]
 exact h.2 t ht hl
theorem GX.put3{n gb mb eb cap m:Nat}{v3 v4 v5 v6:Value}{w:World}(h:GX n gb mb eb cap m v3 v4 v5 v6 w)(v:Value):GX n gb mb eb cap m v v4 v5 v6 (w.setCell ⟨gb,3,none⟩ v):=by
 obtain⟨h1,h2,h3,h4,h5,h6,h7⟩:=h
 refine⟨?_,h2.set h7,h3.block (Below.heap_setCell _ _ _ _ (fun e=>h6 e.symm)),h4,h5,h6,h7⟩
 have:=aI (v:=v) (k:=3) h1
 simpa using this
theorem GX.put4{n gb mb eb cap m:Nat}{v3 v4 v5 v6:Value}{w:World}(h:GX n gb mb eb cap m v3 v4 v5 v6 w)(v:Value):GX n gb mb eb cap m v3 v v5 v6 (w.setCell ⟨gb,4,none⟩ v):=by
 obtain⟨h1,h2,h3,h4,h5,h6,h7⟩:=h
 refine⟨?_,h2.set h7,h3.block (Below.heap_setCell _ _ _ _ (fun e=>h6 e.symm)),h4,h5,h6,h7⟩
 have:=aI (v:=v) (k:=4) h1
 simpa using this
theorem GX.put5{n gb mb eb cap m:Nat}{v3 v4 v5 v6:Value}{w:World}(h:GX n gb mb eb cap m v3 v4 v5 v6 w)(v:Value):GX n gb mb eb cap m v3 v4 v v6 (w.setCell ⟨gb,5,none⟩ v):=by
 obtain⟨h1,h2,h3,h4,h5,h6,h7⟩:=h
 refine⟨?_,h2.set h7,h3.block (Below.heap_setCell _ _ _ _ (fun e=>h6 e.symm)),h4,h5,h6,h7⟩
 have:=aI (v:=v) (k:=5) h1
 simpa using this
theorem GX.put6{n gb mb eb cap m:Nat}{v3 v4 v5 v6:Value}{w:World}(h:GX n gb mb eb cap m v3 v4 v5 v6 w)(v:Value):GX n gb mb eb cap m v3 v4 v5 v (w.setCell ⟨gb,6,none⟩ v):=by
 obtain⟨h1,h2,h3,h4,h5,h6,h7⟩:=h
 refine⟨?_,h2.set h7,h3.block (Below.heap_setCell _ _ _ _ (fun e=>h6 e.symm)),h4,h5,h6,h7⟩
 have:=aI (v:=v) (k:=6) h1
 simpa using this
theorem GX.fr{n gb mb eb cap m:Nat}{v3 v4 v5 v6:Value}{w:World}(h:GX n gb mb eb cap m v3 v4 v5 v6 w)(k:Nat):w.frozen? ⟨gb,k,none⟩=false:=aC h.1 k
theorem qH(k:Int)(w:World):(Instr.makeMap 55 (some (.int .i64 k))).run prog w=.ok (.map (some w.heap.size)) (w.alloc (.map #[] 0)):=by
 simp[Instr.makeMap,run_underlying underlying55,asInt,asIntOf]
theorem ge_start(n:Nat)(w:World):GE w.heap.size n 0 (w.heap.size+1) w.heap.size (.slice none 0 0) (.slice none 0 0) (.slice none 0 0) (.slice none 0 0) (.slice none 0 0) ((w.alloc (.map #[] 0)).alloc (.cells #[.int .i64 n,.slice none 0 0,.map (some w.heap.size),.slice none 0 0,.slice none 0 0,.slice none 0 0,.slice none 0 0] 59)):=by
 refine⟨heap_alloc2_new _ _ _,World.ownsRow_nil _ _ _ _,?_,⟨by omega,by omega,by omega⟩,by simp[Value.ownBlock],by simp[Value.ownBlock]⟩
 have h:=(MapIs.made w).congr (g':=gT n 0) (fun c s _ _=>(gT_zero n c s).symm)
 exact h.block (Below.heap_alloc _ _ _ (by simp))
theorem oH(n:Nat)(w:World):Ab w ((w.alloc (.map #[] 0)).alloc (.cells #[.int .i64 n,.slice none 0 0,.map (some w.heap.size),.slice none 0 0,.slice none 0 0,.slice none 0 0,.slice none 0 0] 59)):=bl2 _ _ _
theorem new_at(n:Nat)(w:World)(hn:1<=n/\n<=32)(hF:Fr w):
  Calls prog 7 #[.int .i64 n] w fun e w'=> ∃gb,e=.returned (.tuple #[.pointer (some ⟨gb,0,none⟩),.int .i64 0])/\Ab w w'/\w.heap.size<=gb/\GridOf n gb w':=by
 have CE:=hid (fun u=>sJ n hn u)
 have h12:=n12 hn
 obtain⟨N,hN⟩:=aB (6*n*n)
 rw[hN]at CE
 have hN1:(N:Int)<=6144:=by omega
 have hN0:(N:Int)≠0:=by omega
 have HF:=hid hF
 have Hn:=hid hn
 have HN:=hid hN
 have H12:=hid h12
 have hmm:=qH (4*(N:Int))
 have AE:=hid (mW n N (w.heap.size+1) w.heap.size (.slice none 0 0) (.slice none 0 0) (.slice none 0 0) (.slice none 0 0) w _ hn hN.symm hF (oH n w) (ge_start n w))
 clear hn hF hN h12
 go_enter func7,ntmps7
 go_wp2_with (go_at_call 22;refine(CE.out _).mono ?_;rintro e w' ⟨rfl,hw⟩;have hw2:=hw.symm;subst hw2)
 refine AE.out.mono ?_
 rintro e w1 ⟨rfl,A1,es,G1⟩
 obtain⟨eb,cap,-,rfl,G2⟩:=G1.all Hn.out.1
 have G:=hid G2
 have A:=hid A1
 obtain⟨M,hM⟩:=aB (12*n*n)
 have HM:=hid hM
 have hM1:(M:Int)<=12288:=by have:=H12.out.1;omega
 clear A1 G1 G2 AE CE hmm hM
 have LL:=hid (oD N (w.heap.size+1) (fun k=>arI (ArC n k)) w1 (by omega) (fun k hk u hu=>tE n (w.heap.size+1) k u Hn.out (by rw[HN.out];exact hk) (G.out.to hu).cells.1))
 go_wp2_with fail
 refine LL.out.mono ?_
 rintro e w2 ⟨rfl,b2,R2⟩
 obtain⟨bA,hbA⟩:=aB w1.heap.size
 have hlt:=lt_of_block G.out.1
 have HA:Hid (bA≠w.heap.size+1):=by show _≠_;omega
 rw[hbA]at R2
 rw[hbA]
 have x1:=(G.out.to b2).cells.2.2.2.2.1
 have x2:=(G.out.to b2).fr 4
 go_upto_region 7 with fail
 obtain⟨uA,huA⟩:=aB (w2.setCell ⟨w.heap.size+1,4,none⟩ (.slice (some ⟨bA,0,none⟩) N N))
 rw[huA]
 have G':=hid ((G.out.to b2).put4 (.slice (some ⟨bA,0,none⟩) N N))
 have RA:=hid (R2.setOther (a:=⟨w.heap.size+1,4,none⟩) HA.out (.slice (some ⟨bA,0,none⟩) N N))
 have A':=hid (Ab.setk (A.out.call b2) (g:=w.heap.size+1) (k:=4) (by omega) (.slice (some ⟨bA,0,none⟩) N N))
 rw[huA]at G' RA A'
 clear LL R2 hlt G A hbA x1 x2 b2 huA
 clear w2 w1
 have G:=G'
 have A:=A'
 clear G' A'
 have c1:=G.out.cells.2.1
 rw[HM.out]at c1
 have LL:=hid (qG M (w.heap.size+1) (fun k=>(bsC n (edT n k/4) ((edT n k%4+2)%4):Nat)) (fun k=>(bsC n (bsC n (edT n k/4) (edT n k%4)) ((bsS n (edT n k/4) (edT n k%4)+2)%4):Nat)) uA (by omega) (fun k hk u hu=>by obtain⟨e1,e2,e3⟩:=bW Hn.out.1 (k:=k) (by rw[HM.out];exact hk);have h:=jR n _ _ _ _ _ (edT n k) _ _ _ _ u Hn.out e1 e2 (G.out.to hu);rw[e3]at h;exact h))
 go_wp2_with fail
 refine LL.out.mono ?_
 rintro e w2 ⟨rfl,b2,R2⟩
 clear c1
 obtain⟨bB,hbB⟩:=aB uA.heap.size
 have hlt:=lt_of_block G.out.1
 have HB:Hid (bB≠w.heap.size+1):=by show _≠_;omega
 rw[hbB]at R2
 rw[hbB]
 have x1:=(G.out.to b2).cells.2.2.2.1
 have x2:=(G.out.to b2).fr 3
 go_upto_region 8 with fail
 obtain⟨uB,huB⟩:=aB (w2.setCell ⟨w.heap.size+1,3,none⟩ (.slice (some ⟨bB,0,none⟩) M M))
 rw[huB]
 have G':=hid ((G.out.to b2).put3 (.slice (some ⟨bB,0,none⟩) M M))
 have RB:=hid (R2.setOther (a:=⟨w.heap.size+1,3,none⟩) HB.out (.slice (some ⟨bB,0,none⟩) M M))
 have RA':=hid ((rowIs.ab RA.out b2).setOther (a:=⟨w.heap.size+1,3,none⟩) HA.out (.slice (some ⟨bB,0,none⟩) M M))
 have A':=hid (Ab.setk (A.out.call b2) (g:=w.heap.size+1) (k:=3) (by omega) (.slice (some ⟨bB,0,none⟩) M M))
 rw[huB]at G' RB A' RA'
 clear LL R2 hlt G A hbB x1 x2 b2 huB RA
 clear w2 uA
 have G:=G'
 have A:=A'
 have RA:=RA'
 clear G' A' RA'
 have c1:=G.out.cells.2.1
 rw[HM.out]at c1
 have LL:=hid (qE M (w.heap.size+1) (fun k=>LnC n (edT n k/4) (edT n k%4)) uB (by omega) (fun k hk u hu=>by obtain⟨e1,e2,e3⟩:=bW Hn.out.1 (k:=k) (by rw[HM.out];exact hk);have h:=oE n _ _ _ _ _ (edT n k) _ _ _ _ u Hn.out e1 e2 (HF.out.to (A.out.trans hu)) (G.out.to hu);rw[e3]at h;exact h))
 go_wp2_with fail
 refine LL.out.mono ?_
 rintro e w2 ⟨rfl,b2,R2⟩
 clear c1
 obtain⟨bL,hbL⟩:=aB uB.heap.size
 have hlt:=lt_of_block G.out.1
 have HL:Hid (bL≠w.heap.size+1):=by show _≠_;omega
 rw[hbL]at R2
 rw[hbL]
 have x1:=(G.out.to b2).cells.2.2.2.2.2.1
 have x2:=(G.out.to b2).fr 5
 go_upto_region 9 with fail
 obtain⟨uL,huL⟩:=aB (w2.setCell ⟨w.heap.size+1,5,none⟩ (.slice (some ⟨bL,0,none⟩) M M))
 rw[huL]
 have G':=hid ((G.out.to b2).put5 (.slice (some ⟨bL,0,none⟩) M M))
 have RL:=hid (R2.setOther (a:=⟨w.heap.size+1,5,none⟩) HL.out (.slice (some ⟨bL,0,none⟩) M M))
 have RA':=hid ((rowIs.ab RA.out b2).setOther (a:=⟨w.heap.size+1,5,none⟩) HA.out (.slice (some ⟨bL,0,none⟩) M M))
 have RB':=hid ((rowIs.ab RB.out b2).setOther (a:=⟨w.heap.size+1,5,none⟩) HB.out (.slice (some ⟨bL,0,none⟩) M M))
 have A':=hid (Ab.setk (A.out.call b2) (g:=w.heap.size+1) (k:=5) (by omega) (.slice (some ⟨bL,0,none⟩) M M))
 rw[huL]at G' RL A' RA' RB'
 clear LL R2 hlt G A hbL x1 x2 b2 huL RA RB
 clear w2 uB
 have G:=G'
 have A:=A'
 have RA:=RA'
 have RB:=RB'
 clear G' A' RA' RB'
 have c1:=G.out.cells.2.1
 rw[HM.out]at c1
 have LL:=hid (qF M (w.heap.size+1) (fun k=>GpC n (edT n k/4) (edT n k%4)) uL (by omega) (fun k hk u hu=>by obtain⟨e1,e2,e3⟩:=bW Hn.out.1 (k:=k) (by rw[HM.out];exact hk);have h:=gapOf_at n _ _ _ _ _ (edT n k) _ _ _ _ u Hn.out e1 e2 (HF.out.to (A.out.trans hu)) (G.out.to hu);rw[e3]at h;exact h))
 go_wp2_with fail
 refine LL.out.mono ?_
 rintro e w2 ⟨rfl,b2,R2⟩
 clear c1
 obtain⟨bP,hbP⟩:=aB uL.heap.size
 have hlt:=lt_of_block G.out.1
 have HP:Hid (bP≠w.heap.size+1):=by show _≠_;omega
 rw[hbP]at R2
 rw[hbP]
 have x1:=(G.out.to b2).cells.2.2.2.2.2.2
 have x2:=(G.out.to b2).fr 6
 go_upto_region 10 with fail
 obtain⟨uP,huP⟩:=aB (w2.setCell ⟨w.heap.size+1,6,none⟩ (.slice (some ⟨bP,0,none⟩) M M))
 rw[huP]
 have G':=hid ((G.out.to b2).put6 (.slice (some ⟨bP,0,none⟩) M M))
 have RP:=hid (R2.setOther (a:=⟨w.heap.size+1,6,none⟩) HP.out (.slice (some ⟨bP,0,none⟩) M M))
 have RA':=hid ((rowIs.ab RA.out b2).setOther (a:=⟨w.heap.size+1,6,none⟩) HA.out (.slice (some ⟨bP,0,none⟩) M M))
 have RB':=hid ((rowIs.ab RB.out b2).setOther (a:=⟨w.heap.size+1,6,none⟩) HB.out (.slice (some ⟨bP,0,none⟩) M M))
 have RL':=hid ((rowIs.ab RL.out b2).setOther (a:=⟨w.heap.size+1,6,none⟩) HL.out (.slice (some ⟨bP,0,none⟩) M M))
 have A':=hid (Ab.setk (A.out.call b2) (g:=w.heap.size+1) (k:=6) (by omega) (.slice (some ⟨bP,0,none⟩) M M))
 rw[huP]at G' RP A' RA' RB' RL'
 clear LL R2 hlt G A hbP x1 x2 b2 huP RA RB RL
 clear w2 uL
 have G:=G'
 have A:=A'
 have RA:=RA'
 have RB:=RB'
 have RL:=RL'
 clear G' A' RA' RB' RL'
 go_wp2
 go_ret2
 refine⟨w.heap.size+1,rfl,A.out,by omega,?_⟩
 have hN:=HN.out
 have hM:=HM.out
 subst hN hM
 exact⟨w.heap.size,eb,cap,_,bB,bA,bL,bP,G.out,RB.out.congr (fun i _=>by unfold bhC;rfl),RA.out,RL.out,RP.out⟩
end
section
open Go.RowKit Cu Tf
attribute [local go_sem] aE
theorem new_no(n:Int)(w:World)(h: ¬(1<=n/\n<=32)):
  Calls prog 7 #[.int .i64 n] w fun e w'=>e=.returned (.tuple #[.pointer none,.int .i64 10])/\w'=w:=by
 have CE:=hid (fun u=>fM n u)
 have hz:clN n=0:=by unfold clN;rw[if_neg h]
 rw[hz]at CE
 clear h hz
 go_enter func7,ntmps7
 go_wp2_with (go_at_call 22;refine(CE.out _).mono ?_;rintro e w' ⟨rfl,rfl⟩)
 go_ret2
 exact⟨rfl,rfl⟩
theorem fG(k n:Int)(w:World):Calls prog 44 #[.int .i64 k,.int .i64 n] w fun e w'=>e=.returned (.bool (inR k n))/\w'=w:=by
 by_cases h:0<=k
 ·go_enter func44,ntmps44
  go_wp2
  go_ret
  exact⟨by simp[inR,h],rfl⟩
 ·go_enter func44,ntmps44
  go_wp2
  go_ret
  exact⟨by simp[inR];omega,rfl⟩
theorem dQ{n gb:Nat}{w:World}(g:GridOf n gb w):Calls prog 9 #[.pointer (some ⟨gb,0,none⟩)] w fun e w'=>e=.returned (.int .i64 (6*n*n:Nat))/\w'=w:=by
 obtain⟨mb,eb,cap,m,bb,ab,lb,pb,h1,-⟩:=g
 obtain⟨-,-,-,-,c4,-⟩:=h1.cells
 generalize 6*n*n=N at*
 clear h1
 go_enter func9,ntmps9
 go_wp2
 go_ret
 exact⟨rfl,rfl⟩
theorem cT{n gb:Nat}{w:World}(g:GridOf n gb w):Calls prog 32 #[.pointer (some ⟨gb,0,none⟩)] w fun e w'=>e=.returned (.int .i64 (12*n*n:Nat))/\w'=w:=by
 obtain⟨mb,eb,cap,m,bb,ab,lb,pb,h1,-⟩:=g
 obtain⟨-,c1,-⟩:=h1.cells
 clear h1
 generalize 12*n*n=M at*
 go_enter func32,ntmps32
 go_wp2
 go_ret
 exact⟨rfl,rfl⟩
theorem jS{k N:Nat}(h:k<N):inR (k:Int) (N:Int)=true:=by rw[bH];omega
theorem gEdge_ok{n gb t:Nat}{w:World}(hn:1<=n/\n<=32)(ht:t<24*n*n)(hl:isL n t=true)(g:GridOf n gb w):
  Calls prog 35 #[.pointer (some ⟨gb,0,none⟩),.int .i64 (eN n t:Nat)] w fun e w'=>e=.returned (.tuple #[.agg #[.int .i64 (t/4:Nat),.int .i64 (t%4:Nat),.int .i64 (bsC n (t/4) (t%4):Nat),.int .i64 (bsS n (t/4) (t%4):Nat)],.bool true])/\Below w.heap.size w w':=by
 have E1:=hid (cT (g.to (bl1 w (.cells #[.int .i64 0,.int .i64 0,.int .i64 0,.int .i64 0] 71))))
 have C1:=hid (fun u=>fG (eN n t:Nat) (12*n*n:Nat) u)
 rw[jS (fJ hn.1 ht hl)]at C1
 obtain⟨mb,eb,cap,m,bb,ab,lb,pb,h1,-⟩:=g
 obtain⟨-,c1,-⟩:=h1.cells
 obtain⟨y0,y1,y2,y3⟩:=h1.2.1.2 t ht hl
 have lg:=lt_of_block h1.1
 have le:=h1.2.1.1
 have kN:=fJ hn.1 ht hl
 have R0:=hid (heap_alloc_new w (.cells #[.int .i64 0,.int .i64 0,.int .i64 0,.int .i64 0] 71))
 have A0:=hid (bl1 w (.cells #[.int .i64 0,.int .i64 0,.int .i64 0,.int .i64 0] 71))
 generalize bsC n (t/4) (t%4)=d at*
 generalize bsS n (t/4) (t%4)=b at*
 generalize t/4=c at*
 generalize t%4=s at*
 generalize eN n t=k at*
 generalize 12*n*n=M at*
 have hk1:(k:Int)<M:=by omega
 clear h1 hn ht hl
 go_enter func35,ntmps35
 go_wp2_with (first
  | (go_at_call 32;refine(E1.out).mono ?_;rintro e w' ⟨rfl,hw⟩;have hw2:=hw.symm;subst hw2)
  | (go_at_call 44;refine(C1.out _).mono ?_;rintro e w' ⟨rfl,hw⟩;have hw2:=hw.symm;subst hw2))
 refine bodyPost_ret ?_ rfl ⟨rfl,?_⟩
 ·exact cM results35 _ _ w.heap.size _ _ (0,0) _ _ rfl rfl (heap_alloc_new w _) underlying71 rfl (by kernel_rfl)
 ·exact bl1 w _
theorem qI{n gb t:Nat}{w:World}(hn:1<=n/\n<=32)(ht:t<24*n*n)(hl:isL n t=true)(g:GridOf n gb w):
  Calls prog 36 #[.pointer (some ⟨gb,0,none⟩),.int .i64 (eN n t:Nat)] w fun e w'=>e=.returned (.tuple #[.int .i64 (bsC n (t/4) ((t%4+2)%4):Nat),.int .i64 (bsC n (bsC n (t/4) (t%4)) ((bsS n (t/4) (t%4)+2)%4):Nat),.bool true])/\Below w.heap.size w w':=by
 have E1:=hid (cT g)
 have C1:=hid (fun u=>fG (eN n t:Nat) (12*n*n:Nat) u)
 have kN:=fJ hn.1 ht hl
 rw[jS kN]at C1
 obtain⟨mb,eb,cap,m,bb,ab,lb,pb,h1,h2,-⟩:=g
 obtain⟨-,-,-,c3,-⟩:=h1.cells
 have y0:=h2.cell (i:=eN n t*2) (by omega)
 have y1:=h2.cell (i:=eN n t*2+1) (by omega)
 have e0:bhC n (eN n t*2)=(bsC n (t/4) ((t%4+2)%4):Nat):=by
  unfold bhC
  rw[if_pos (by omega),show eN n t*2/2=eN n t by omega,edT_eN hn.1 ht hl]
 have e1:bhC n (eN n t*2+1)=(bsC n (bsC n (t/4) (t%4)) ((bsS n (t/4) (t%4)+2)%4):Nat):=by
  unfold bhC
  rw[if_neg (by omega),show(eN n t*2+1)/2=eN n t by omega,edT_eN hn.1 ht hl]
 rw[e0]at y0
 rw[e1]at y1
 have lg:=lt_of_block h1.1
 have le:=h2.lt
 clear e0 e1 h2
 generalize bsC n (bsC n (t/4) (t%4)) ((bsS n (t/4) (t%4)+2)%4)=q2 at*
 generalize bsC n (t/4) ((t%4+2)%4)=q1 at*
 generalize eN n t=k at*
 generalize 12*n*n=M at*
 have hk1:(k:Int)<M:=by omega
 clear h1 hn ht hl
 go_enter func36,ntmps36
 go_upto_region 4 with(first
  | (go_at_call 32;refine(E1.out).mono ?_;rintro e w' ⟨rfl,hw⟩;have hw2:=hw.symm;subst hw2)
  | (go_at_call 44;refine(C1.out _).mono ?_;rintro e w' ⟨rfl,hw⟩;have hw2:=hw.symm;subst hw2))
 go_region
 go_wp2
 refine bodyPost_ret ?_ rfl ⟨rfl,?_⟩
 ·simp[results,results36,go_sem]
 ·first | exact bl1 w _ | exact Below.drew (bl1 w _)
theorem oI{n gb k:Nat}{w:World}(hn:1<=n/\n<=32)(hk:k<6*n*n)(g:GridOf n gb w):
  Calls prog 21 #[.pointer (some ⟨gb,0,none⟩),.int .i64 k] w fun e w'=>e=.returned (.int .i64 (arI (ArC n k)))/\Below w.heap.size w w':=by
 have E1:=hid (dQ g)
 have C1:=hid (fun u=>fG (k:Nat) (6*n*n:Nat) u)
 have hN:=(n12 hn)
 rw[jS hk]at C1
 obtain⟨mb,eb,cap,m,bb,ab,lb,pb,h1,-,hr,-⟩:=g
 have c0:=h1.cells.2.2.2.2.1
 have y0:=hr.cell hk
 have lg:=lt_of_block h1.1
 have le:=hr.lt
 clear hr
 generalize arI (ArC n k)=V at*
 have hk2:((6*n*n:Nat):Int)<=12288:=by omega
 generalize 6*n*n=M at*
 have hk1:(k:Int)<M:=by omega
 clear h1 hn hN hk
 go_enter func21,ntmps21
 go_wp2_with (first
  | (go_at_call 9;refine(E1.out).mono ?_;rintro e w' ⟨rfl,hw⟩;have hw2:=hw.symm;subst hw2)
  | (go_at_call 44;refine(C1.out _).mono ?_;rintro e w' ⟨rfl,hw⟩;have hw2:=hw.symm;subst hw2))
 go_ret
 exact⟨rfl,Below.refl _ _⟩
end
section
open Tf Ieee Cu
def mgF(a:Nat):Nat:=a%9223372036854775808
def pe(a:Nat):Nat:=mgF a/4503599627370496 - 1
end
section
open Tf Ieee Cu
def a0(n:Nat)(k h:Int):Nat:=ar n (n,k,h) (n,k+2,h) (n,k+2,h+2) (n,k,h+2)
end
section
open Go.RowKit Tf Cu Go.Deep
namespace Spl
def lf(n e:Nat):Nat:=edT n e/4
def fr4(n t c:Nat):Bool:=c==t/4||c==bsC n (t/4) (t%4)||c==bsC n (t/4) ((t%4+2)%4)||c==bsC n (bsC n (t/4) (t%4)) ((bsS n (t/4) (t%4)+2)%4)
def lo(N P k:Nat):Nat:=k*N/P
def inP(N P k c:Nat):Bool:=decide (lo N P k<=c)&&decide (c<lo N P (k+1))
def clP(N P k:Nat):List Nat:=List.range' (lo N P k) (lo N P (k+1) - lo N P k)
def edP(n P k:Nat):List Nat:=(List.range (12*n*n)).filter fun e=>inP (6*n*n) P k (lf n e)
def ask(n P k c:Nat):Bool:=(edP n P k).any fun e=>fr4 n (edT n e) c
def hlP(n P k:Nat):List Nat:=(List.range (6*n*n)).filter fun c=>ask n P k c&& !inP (6*n*n) P k c
theorem iL{N P k c:Nat}:inP N P k c=true ↔ lo N P k<=c/\c<lo N P (k+1):=by
 unfold inP;simp
theorem rU(N P:Nat):lo N P 0=0:=by unfold lo;simp
theorem lo_all{N P:Nat}(h:0<P):lo N P P=N:=by unfold lo;exact Nat.mul_div_cancel_left N h
theorem cP(N P k:Nat):lo N P k<=lo N P (k+1):=by
 unfold lo;exact Nat.div_le_div_right (Nat.mul_le_mul_right N (Nat.le_succ k))
theorem gB{N P j k:Nat}(h:j<=k):lo N P j<=lo N P k:=by
 unfold lo;exact Nat.div_le_div_right (Nat.mul_le_mul_right N h)
theorem hO{N P k:Nat}(hP:0<P)(h:k<=P):lo N P k<=N:=by
 have:=gB (N:=N) (P:=P) h
 rw[lo_all hP]at this
 exact this
theorem lo_size{N P:Nat}(hP:0<P)(k:Nat):N/P<=lo N P (k+1) - lo N P k/\lo N P (k+1) - lo N P k<=N/P+1:=by
 unfold lo
 rw[Nat.succ_mul]
 have h1:=Nat.div_add_mod (k*N) P
 have h2:=Nat.div_add_mod N P
 have h3:=Nat.div_add_mod (k*N+N) P
 have m1:=Nat.mod_lt (k*N) hP
 have m2:=Nat.mod_lt N hP
 have m3:=Nat.mod_lt (k*N+N) hP
 generalize k*N=x at*
 generalize x/P=a at*
 generalize N/P=b at*
 generalize(x+N)/P=c at*
 have l1:a+b<=c:=by
  apply Nat.le_of_lt_succ
  apply Nat.lt_of_mul_lt_mul_left (a:=P)
  rw[Nat.mul_succ,Nat.mul_add]
  omega
 have l2:c<=a+b+1:=by
  apply Nat.le_of_lt_succ
  apply Nat.lt_of_mul_lt_mul_left (a:=P)
  rw[Nat.mul_succ,Nat.mul_succ,Nat.mul_add]
  omega
 omega
theorem mem_cl{N P k c:Nat}:c ∈ clP N P k ↔ inP N P k c=true:=by
 unfold clP
 rw[iL,List.mem_range'_1]
 have:=cP N P k
 omega
theorem qJ(N P k:Nat):(clP N P k).length=lo N P (k+1) - lo N P k:=by unfold clP;simp
theorem mem_ed{n P k e:Nat}:e ∈ edP n P k ↔ e<12*n*n/\inP (6*n*n) P k (lf n e)=true:=by
 unfold edP;rw[List.mem_filter,List.mem_range]
theorem mem_hl{n P k c:Nat}:c ∈ hlP n P k ↔ c<6*n*n/\ask n P k c=true/\inP (6*n*n) P k c=false:=by
 unfold hlP;rw[List.mem_filter,List.mem_range];simp
def shB(q:Nat->Bool)(B:Nat->Nat)(c:Nat):Nat:=if q c=true then B c else 0
def shW(q:Nat->Bool)(W:Nat->Int)(c:Nat):Int:=if q c=true then W c else 0
def hs(l:Nat)(f:Nat->Int)(c:Nat):Bool:=(List.range l).any fun i=>f i==(c:Int)
def rd(l:List Nat)(i:Nat):Int:=((l.getD i 0:Nat):Int)
def mkC(n P k c:Nat):Bool:=hs (clP (6*n*n) P k).length (rd (clP (6*n*n) P k)) c||hs (hlP n P k).length (rd (hlP n P k)) c
def mkE(n P k e:Nat):Bool:=hs (edP n P k).length (rd (edP n P k)) e
def eB(n c:Nat):Nat:=eN n (4*c)
theorem lf_lt{n e c:Nat}(hn:1<=n)(he:e<12*n*n):lf n e<c ↔ e<eB n c:=by
 obtain⟨-,h2,h3⟩:=bW hn he
 unfold lf eB
 constructor
 ·intro h
  have:=mT (u:=4*c) h2 (by omega)
  omega
 ·intro h
  rcases Nat.lt_or_ge (edT n e) (4*c)with q | q
  ·omega
  ·have:=iC (n:=n) q
   omega
theorem dG{n c d:Nat}(h:c<=d):eB n c<=eB n d:=iC (by omega)
theorem eB_all{n:Nat}(hn:1<=n):eB n (6*n*n)=12*n*n:=by
 unfold eB
 rw[show 4*(6*n*n)=24*n*n by rw[<- Nat.mul_assoc,<- Nat.mul_assoc]]
 exact iR hn
theorem kP{n c:Nat}(hn:1<=n)(h:c<=6*n*n):eB n c<=12*n*n:=by
 have:=dG (n:=n) h
 rw[eB_all hn]at this
 exact this
theorem filt_row{M a b:Nat}(q:Nat->Bool)(h1:a<=b)(h2:b<=M)(h: ∀e,e<M->(q e=true ↔ a<=e/\e<b)):(List.range M).filter q=List.range' a (b - a):=by
 have e:List.range M=List.range' 0 a++(List.range' a (b - a)++List.range' b (M - b)):=by
  have k1:List.range' a (b - a)++List.range' b (M - b)=List.range' a (M - a):=by
   have:=List.range'_append_1 (s:=a) (m:=b - a) (n:=M - b)
   rw[show a+(b - a)=b by omega,show b - a+(M - b)=M - a by omega]at this
   exact this
  have k2:=List.range'_append_1 (s:=0) (m:=a) (n:=M - a)
  rw[show 0+a=a by omega,show a+(M - a)=M by omega]at k2
  rw[k1,k2,List.range_eq_range']
 rw[e,List.filter_append,List.filter_append]
 have f1:(List.range' 0 a).filter q=[]:=by
  rw[List.filter_eq_nil_iff]
  intro x hx
  rw[List.mem_range'_1]at hx
  intro k
  have:=(h x (by omega)).1 k
  omega
 have f2:(List.range' a (b - a)).filter q=List.range' a (b - a):=by
  rw[List.filter_eq_self]
  intro x hx
  rw[List.mem_range'_1]at hx
  exact(h x (by omega)).2 (by omega)
 have f3:(List.range' b (M - b)).filter q=[]:=by
  rw[List.filter_eq_nil_iff]
  intro x hx
  rw[List.mem_range'_1]at hx
  intro k
  have:=(h x (by omega)).1 k
  omega
 rw[f1,f2,f3]
 simp
theorem qK{n P k:Nat}(hn:1<=n)(hk:k<P):edP n P k=List.range' (eB n (lo (6*n*n) P k)) (eB n (lo (6*n*n) P (k+1)) - eB n (lo (6*n*n) P k)):=by
 unfold edP
 refine filt_row _ (dG (cP _ _ _)) (kP hn (hO (by omega) (by omega))) (fun e he=> ?_)
 rw[iL,lf_lt hn he,<- Nat.not_lt,lf_lt hn he,Nat.not_lt]
theorem ed_len{n P k:Nat}(hn:1<=n)(hk:k<P):(edP n P k).length=eB n (lo (6*n*n) P (k+1)) - eB n (lo (6*n*n) P k):=by
 rw[qK hn hk,List.length_range']
theorem lX{a m i:Nat}(h:i<m):(List.range' a m).getD i 0=a+i:=by
 rw[List.getD_eq_getElem?_getD,List.getElem?_range' h]
 simp
end Spl
end
section
open Go.ChangeShapes Go.WideShapes Go.ChangeAt Go.WideMaps Go.WideElems Go.RowKit Go.Deep
def IsIn(w:World)(a0:Option Addr)(len:Nat)(xs:Nat->Int):Prop:= ∀k,k<len->(-9223372036854775808<=xs k/\xs k<=9223372036854775807)/\ ∃b o,a0=some ⟨b,o,none⟩/\b<w.heap.size/\w.cell? ⟨b,o+k,none⟩=some (.int .i64 (xs k))
theorem IsIn.below{w w':World}{a0:Option Addr}{len:Nat}{xs:Nat->Int}(h:IsIn w a0 len xs)(hb:Below w.heap.size w w'):IsIn w' a0 len xs:=by
 intro k hk
 obtain⟨h1,b,o,h2,h3,h4⟩:=h k hk
 exact⟨h1,b,o,h2,Nat.lt_of_lt_of_le h3 hb.size,by rw[hb.cell (p:=⟨b,o+k,none⟩) h3];exact h4⟩
theorem tF{H:Type}{enc:TypeId × Value->H}{P:Program}{w:World}{base:Nat}{spare:Nat->Bool}{held:Bool}{t:TypeId}{fuel:Nat}{v:Value}{x:DataW H × List MemPlace}(ht:P.underlying t=some (.float .f64))(h:DataW.trod enc P w base spare held fuel t [v]=some x):
  ∃b,v=.float .f64 b/\(Lit.float .f64 b).wf=true:=by
 cases fuel with
 | zero=>simp[DataW.trod]at h
 | succ n=>
  unfold DataW.trod at h
  rw[ht]at h
  split at h<;>simp_all
theorem qL{H:Type}{enc:TypeId × Value->H}{P:Program}{w:World}{base:Nat}{spare:Nat->Bool}{held:Bool}{t:TypeId}{fuel:Nat}{v:Value}{x:DataW H × List MemPlace}(ht:P.underlying t=some (.float .f64))(h:DataW.trod enc P w base spare held fuel t [v]=some x):
  ∃b,v=.float .f64 b/\b<18446744073709551616:=by
 obtain⟨k,e,wf⟩:=tF ht h
 exact⟨k,e,by simpa [Lit.wf]using wf⟩
theorem fC(b off j:Nat):(⟨b,off,none⟩:Addr).add j=⟨b,off+j,none⟩:=by
 by_cases c:j=0
 ·subst c;simp[Addr.add]
 ·simp[Addr.add,c]
theorem lY{w:World}{a:Addr}{v:Value}(h:w.cell? a=some v):a.block<w.heap.size:=by
 by_cases c:a.block<w.heap.size
 ·exact c
 ·exfalso
  have:w.heap[a.block]? =none:=by simp;omega
  simp[World.cell?,this]at h
theorem lZ{α:Type}{n:Nat}{R:Nat->α->Prop}(d:α)(h: ∀i,i<n-> ∃x,R i x): ∃f:Nat->α,∀i,i<n->R i (f i):=by
 have: ∀i,∃x,i<n->R i x:=fun i=>by
  by_cases c:i<n
  ·obtain⟨x,h1⟩:=h i c
   exact⟨x,fun _=>h1⟩
  ·exact⟨d,fun h=>absurd h c⟩
 exact⟨fun i=>(this i).choose,fun i hi=>(this i).choose_spec hi⟩
theorem kQ{H:Type}{enc:TypeId × Value->H}{W:World}{cs:List Value}{fuel:Nat}{x:DataW H × List MemPlace}
  (hf:DataW.trod enc prog W 0 (fun _=>true) true fuel 38 cs=some x): ∃a0 len cap xs,cs=[.slice a0 len cap]/\IsFl W a0 len xs/\len<=cap/\cap<=maxLen:=by
 rcases open_slice1 underlying38 (by kernel_rfl) hf with⟨hcs,_⟩ | ⟨a,l,c,m,n,V,D,Pl,hcs,_,hl,hm,hmm,_,hx⟩
 ·exact⟨none,0,0,fun _=>0,hcs,fun k hk=>by omega,Nat.le_refl _,Nat.zero_le _⟩
 ·simp only[if_true]at hmm
  have each: ∀i,i<l-> ∃x:Nat,W.cell? (a.add i)=some (.float .f64 x)/\x<18446744073709551616:=by
   intro i hi
   obtain⟨h1,h2⟩:=hx i (by omega)
   obtain⟨x,e,wx⟩:=qL underlying45 h2
   rw[e]at h1
   exact⟨x,h1,wx⟩
  obtain⟨f,hf⟩:=lZ 0 each
  refine⟨some a,l,c,f,hcs,fun k hk=>⟨(hf k hk).2,?_⟩,hl,hm⟩
  have h0:=(hf k hk).1
  have z:=(hf 0 (by omega)).1
  obtain⟨b,off,spot⟩:=a
  have hspot:spot=none:=by simpa [Addr.add]using World.cell?_spot z
  subst hspot
  rw[fC]at h0
  exact⟨b,off,rfl,lY h0,h0⟩
end
section
open Go.RowKit Go.Deep
theorem cY(W:World)(A:Obj):(W.alloc A).heap.size=W.heap.size+1:=by
 show(W.heap.push A).size=_
 simp
theorem bX{v:World}{g n:Nat}{z:Value}{T:TypeId}(h:v.heap[g]? =some (Obj.cells (madeCells #[z] n) T)):v.rowIs g T n (fun _=>z):=by
 have e:=World.rowIs_made v z n T
 have l:=heap_alloc_new v (Obj.cells (madeCells #[z] n) T)
 obtain⟨c,h1,h2⟩:=e
 rw[l]at h1
 exact⟨c,h.trans h1,h2⟩
theorem row6{w:World}{g:Nat}{a b c d e f x y z p q r:Value}{T:TypeId}(h:w.heap[g]? =some (.cells #[a,b,c,d,e,f] T)):
  ((((((w.setCell ⟨g,0,none⟩ x).setCell ⟨g,1,none⟩ y).setCell ⟨g,2,none⟩ z).setCell ⟨g,3,none⟩ p).setCell ⟨g,4,none⟩ q).setCell ⟨g,5,none⟩ r).heap[g]? =some (.cells #[x,y,z,p,q,r] T):=by
 have h1:=aI (v:=x) (k:=0) h
 have h2:=aI (v:=y) (k:=1) h1
 have h3:=aI (v:=z) (k:=2) h2
 have h4:=aI (v:=p) (k:=3) h3
 have h5:=aI (v:=q) (k:=4) h4
 have h6:=aI (v:=r) (k:=5) h5
 simpa using h6
theorem aH{v:World}{b k g:Nat}{x:Value}(h:g≠b):(v.setCell ⟨b,k,none⟩ x).heap[g]? =v.heap[g]? :=blk_setCell_other _ _ _ _ h
end
section
open Go.RowKit Go.Deep
theorem rowIs.fl{w:World}{b n:Nat}{f:Nat->Nat}(h:w.rowIs b 45 n (fun i=>.float .f64 (f i)))(hf: ∀i,i<n->f i<18446744073709551616):IsFl w (some ⟨b,0,none⟩) n f:=fun k hk=>⟨hf k hk,b,0,rfl,h.lt,by rw[Nat.zero_add];exact h.cell hk⟩
end
section
open Go.RowKit Tf Cu Go.Deep
def OwnG(B:Nat)(v:Value)(l:List Nat)(w:World):Prop:=w.ownsRow B 45 1 v l.length (l.map (Value.float .f64))
theorem OwnG.fl{B:Nat}{v:Value}{l:List Nat}{w:World}(h:OwnG B v l w)(hl: ∀x ∈ l,x<18446744073709551616): ∃a0 cap,v=.slice a0 l.length cap/\IsFl w a0 l.length (fun j=>l.getD j 0):=by
 rcases h.2 with⟨rfl,h0⟩ | ⟨g,cap,cur,rfl,hb,hg,h1,h2,h3,h4⟩
 ·exact⟨none,0,by rw[h0],fun k hk=>by omega⟩
 ·refine⟨some ⟨g,0,none⟩,cap,rfl,fun k hk=> ?_⟩
  have hx:l.getD k 0=l[k]:=by simp[List.getD,hk]
  refine⟨by dsimp only;rw[hx];exact hl _ (List.getElem_mem _),g,0,rfl,lt_of_block hg,?_⟩
  have e:=h.cells (g:=g) rfl k (.float .f64 (l.getD k 0)) (by simp[hk])
  rw[fC]at e
  exact e
end
section
open Go.RowKit Go.Deep
namespace Sh
def IsI(w:World)(a0:Option Addr)(len:Nat)(xs:Nat->Int):Prop:= ∀k,k<len->(-9223372036854775808<=xs k/\xs k<=9223372036854775807)/\ ∃b o,a0=some ⟨b,o,none⟩/\b<w.heap.size/\w.cell? ⟨b,o+k,none⟩=some (.int .i64 (xs k))
theorem IsI.below{w w':World}{a0:Option Addr}{len:Nat}{xs:Nat->Int}(h:IsI w a0 len xs)(hb:Below w.heap.size w w'):IsI w' a0 len xs:=by
 intro k hk
 obtain⟨h1,b,o,h2,h3,h4⟩:=h k hk
 exact⟨h1,b,o,h2,Nat.lt_of_lt_of_le h3 hb.size,(Below.cell hb h3).trans h4⟩
theorem IsI.some0{w:World}{a0:Option Addr}{len:Nat}{xs:Nat->Int}(h:IsI w a0 len xs)(h0:0<len): ∃b o,a0=some ⟨b,o,none⟩:=by
 obtain⟨_,b,o,h2,_⟩:=h 0 h0
 exact⟨b,o,h2⟩
theorem IsI.at0{w:World}{b o len k:Nat}{xs:Nat->Int}(h:IsI w (some ⟨b,o,none⟩) len xs)(hk:k<len):(-9223372036854775808<=xs k/\xs k<=9223372036854775807)/\b<w.heap.size/\w.cell? ⟨b,o+k,none⟩=some (.int .i64 (xs k)):=by
 obtain⟨h1,b',o',h2,h3,h4⟩:=h k hk
 cases h2
 exact⟨h1,h3,h4⟩
theorem IsI.congr{w:World}{a0:Option Addr}{len:Nat}{xs ys:Nat->Int}(h:IsI w a0 len xs)(e: ∀k,k<len->xs k=ys k):IsI w a0 len ys:=fun k hk=>by rw[<- e k hk];exact h k hk
theorem mA(b off j:Nat):(⟨b,off,none⟩:Addr).add j=⟨b,off+j,none⟩:=by unfold Addr.add;split<;>simp_all
theorem row_in{w:World}{b n:Nat}{f:Nat->Int}(h:w.rowIs b 2 n (fun i=>.int .i64 (f i)))(hf: ∀i,i<n-> -9223372036854775808<=f i/\f i<=9223372036854775807):IsI w (some ⟨b,0,none⟩) n f:=fun k hk=>⟨hf k hk,b,0,rfl,h.lt,by rw[Nat.zero_add];exact h.cell hk⟩
def Own(B:Nat)(v:Value)(l:List Int)(w:World):Prop:=w.ownsRow B 2 1 v l.length (l.map (Value.int .i64))
theorem Own.in{B:Nat}{v:Value}{l:List Int}{w:World}(h:Own B v l w)(hl: ∀x ∈ l,-9223372036854775808<=x/\x<=9223372036854775807): ∃a0 cap,v=.slice a0 l.length cap/\IsI w a0 l.length (fun j=>l.getD j 0):=by
 rcases h.2 with⟨rfl,h0⟩ | ⟨g,cap,cur,rfl,hb,hg,h1,h2,h3,h4⟩
 ·exact⟨none,0,by rw[h0],fun k hk=>by omega⟩
 ·refine⟨some ⟨g,0,none⟩,cap,rfl,fun k hk=> ?_⟩
  have hx:l.getD k 0=l[k]:=by simp[List.getD,hk]
  refine⟨by dsimp only;rw[hx];exact hl _ (List.getElem_mem _),g,0,rfl,lt_of_block hg,?_⟩
  have e:=h.cells (g:=g) rfl k (.int .i64 (l.getD k 0)) (by simp[hk])
  rw[mA]at e
  exact e
end Sh
end
section
open Go.RowKit Tf Cu Go.Deep
namespace Spl
def Dj(v u:Value):Prop:= ∀k,v.ownBlock=some k->u.ownBlock≠some k
def OwnS(M:Nat)(v:Value)(nb nw nt ns:Nat)(B:Nat->Nat)(W T:Nat->Int)(S:Nat->Nat)(sky st:Int)(w:World):Prop:=
 ∃v1 v2 v3 v4,v=.agg #[v1,v2,v3,v4,.int .i64 sky,.int .i64 st]/\OwnG M v1 ((List.range nb).map B) w/\Sh.Own M v2 ((List.range nw).map W) w/\Sh.Own M v3 ((List.range nt).map T) w/\OwnG M v4 ((List.range ns).map S) w/\Dj v1 v4/\Dj v2 v3
def fit4(n lb lw lt ls:Nat):Prop:=lb=6*n*n/\lw=6*n*n/\lt=6*n*n/\ls=12*n*n
def OwnN(B:Nat)(v:Value)(l:List Nat)(w:World):Prop:=w.ownsRow B 3 1 v l.length (l.map fun c=>Value.int .i64 (c:Nat))
def lsP(n P i:Nat):List Nat:=if i%3=0 then clP (6*n*n) P (i/3)else if i%3=1 then edP n P (i/3)else hlP n P (i/3)
def wo(a b:Nat):Nat:=if b=a then 0 else a
def win(g a b:Nat):Value:=.slice (some ⟨g,wo a b,none⟩) (b - a) (b - a)
def cO(n P k:Nat):Nat:=lo (6*n*n) P k
def eO(n P k:Nat):Nat:=eB n (lo (6*n*n) P k)
def PsX(B gl gc ge K:Nat)(a z:Nat->Nat)(H:Nat->List Nat)(X:Nat->Value)(w:World):Prop:=
 ∀k,k<K->X (k*3)=win gc (a k) (a (k+1))/\X (k*3+1)=win ge (z k) (z (k+1))/\OwnN B (X (k*3+2)) (H k) w/\
  ((∀b,(X (k*3+2)).ownBlock=some b->b≠gl/\b≠gc/\b≠ge)/\ ∀j,j<k->Dj (X (k*3+2)) (X (j*3+2)))
def upR(g m:Nat)(w:World):Prop:=w.rowIs g 3 m (fun i=>.int .i64 (i:Nat))
def OwnPs(B n P gl gc ge:Nat)(X:Nat->Value)(w:World):Prop:=
 w.rowIs gl 34 (P*3) X/\upR gc (6*n*n) w/\upR ge (12*n*n) w/\(B<=gl/\B<=gc/\B<=ge/\gl≠gc/\gl≠ge/\gc≠ge)/\PsX B gl gc ge P (cO n P) (eO n P) (hlP n P) X w
def SplitC:Prop:= ∀(n gb:Nat) (parts:Int) (w:World),(1<=n/\n<=32)->GridOf n gb w->W64 parts->
 ((1<=parts/\parts<=64)->Calls prog 8 #[.pointer (some ⟨gb,0,none⟩),.int .i64 parts] w fun e w'=> ∃gl gc ge X,e=.returned (.tuple #[.slice (some ⟨gl,0,none⟩) parts.toNat parts.toNat,.int .i64 0])/\Below w.heap.size w w'/\OwnPs w.heap.size n parts.toNat gl gc ge X w')/\
 (¬(1<=parts/\parts<=64)->Calls prog 8 #[.pointer (some ⟨gb,0,none⟩),.int .i64 parts] w fun e w'=>e=.returned (.tuple #[.slice none 0 0,.int .i64 1])/\Below w.heap.size w w')
def wi(l:Nat)(f:Nat->Int)(N:Nat):Prop:= ∀i,i<l->0<=f i/\f i<(N:Int)
def fit22(n lc le lh:Nat)(C E H:Nat->Int)(lb lw lt ls:Nat):Prop:=fit4 n lb lw lt ls/\wi lc C (6*n*n)/\wi lh H (6*n*n)/\wi le E (12*n*n)
def mk2(lc lh:Nat)(C H:Nat->Int)(c:Nat):Bool:=hs lc C c||hs lh H c
def LocalC:Prop:= ∀(n gb:Nat) (pc:Option Addr) (lc cc:Nat) (C:Nat->Int) (pe:Option Addr) (le ce:Nat) (E:Nat->Int) (ph:Option Addr) (lh ch:Nat) (H:Nat->Int) (pb:Option Addr) (lb cb:Nat) (B:Nat->Nat) (pw:Option Addr) (lw cw:Nat) (W:Nat->Int) (pt:Option Addr) (lt ct:Nat) (T:Nat->Int) (ps:Option Addr) (ls cs:Nat) (S:Nat->Nat) (sky st:Int) (w:World),(1<=n/\n<=32)->GridOf n gb w->(W64 sky/\W64 st)->(lc<=281474976710656/\le<=281474976710656/\lh<=281474976710656)->(lb<=281474976710656/\lw<=281474976710656/\lt<=281474976710656/\ls<=281474976710656)->Sh.IsI w pc lc C->Sh.IsI w pe le E->Sh.IsI w ph lh H->IsFl w pb lb B->Sh.IsI w pw lw W->Sh.IsI w pt lt T->IsFl w ps ls S->
 (fit22 n lc le lh C E H lb lw lt ls->Calls prog 13 #[.pointer (some ⟨gb,0,none⟩),.agg #[.slice pc lc cc,.slice pe le ce,.slice ph lh ch],.agg #[.slice pb lb cb,.slice pw lw cw,.slice pt lt ct,.slice ps ls cs,.int .i64 sky,.int .i64 st]] w fun e w'=> ∃v,e=.returned (.tuple #[v,.int .i64 0])/\Below w.heap.size w w'/\OwnS w.heap.size v lb lw lt ls (shB (mk2 lc lh C H) B) (shW (mk2 lc lh C H) W) (shW (mk2 lc lh C H) T) (shB (hs le E) S) 0 st w')/\
 (¬fit22 n lc le lh C E H lb lw lt ls->Calls prog 13 #[.pointer (some ⟨gb,0,none⟩),.agg #[.slice pc lc cc,.slice pe le ce,.slice ph lh ch],.agg #[.slice pb lb cb,.slice pw lw cw,.slice pt lt ct,.slice ps ls cs,.int .i64 sky,.int .i64 st]] w fun e w'=>e=.returned (.tuple #[.agg #[.slice none 0 0,.slice none 0 0,.slice none 0 0,.slice none 0 0,.int .i64 0,.int .i64 0],.int .i64 1])/\Below w.heap.size w w')
theorem OwnN.in{B:Nat}{v:Value}{l:List Nat}{w:World}(h:OwnN B v l w)(hl: ∀x ∈ l,x<=9223372036854775807): ∃a0 cap,v=.slice a0 l.length cap/\Sh.IsI w a0 l.length (rd l):=by
 rcases h.2 with⟨rfl,h0⟩ | ⟨g,cap,cur,rfl,hb,hg,h1,h2,h3,h4⟩
 ·exact⟨none,0,by rw[h0],fun k hk=>by omega⟩
 ·refine⟨some ⟨g,0,none⟩,cap,rfl,fun k hk=> ?_⟩
  have hx:l.getD k 0=l[k]:=by simp[List.getD,hk]
  have:=hl _ (List.getElem_mem hk)
  refine⟨by unfold rd;rw[hx];omega,g,0,rfl,lt_of_block hg,?_⟩
  have e:=h.cells (g:=g) rfl k (.int .i64 ((l.getD k 0:Nat):Int)) (by simp[hk])
  rw[Sh.mA]at e
  exact e
theorem n12{n:Nat}(hn:1<=n/\n<=32):12*n*n<=12288:=by
 have h1:12*n<=12*32:=Nat.mul_le_mul_left _ hn.2
 exact Nat.le_trans (Nat.mul_le_mul h1 hn.2) (by decide)
def PsAt(n P g:Nat)(p:Nat->Option Addr)(c:Nat->Nat)(w:World):Prop:=g<w.heap.size/\ ∀i,i<P*3->w.cell? ⟨g,i,none⟩=some (.slice (p i) (lsP n P i).length (c i))/\Sh.IsI w (p i) (lsP n P i).length (rd (lsP n P i))
theorem PsAt.to{n P g:Nat}{p:Nat->Option Addr}{c:Nat->Nat}{w w':World}(h:PsAt n P g p c w)(a:Ab w w'):PsAt n P g p c w':=by
 have hh:w'.heap[g]? =w.heap[g]? :=by
  rw[Ab.heap a (Array.getElem?_eq_getElem h.1),Array.getElem?_eq_getElem h.1]
 refine⟨lt_of_block (Ab.heap a (Array.getElem?_eq_getElem h.1)),fun i hi=>⟨?_,(h.2 i hi).2.below a⟩⟩
 rw[World.cell?_of_block hh]
 exact(h.2 i hi).1
theorem mC{g a b M:Nat}{w:World}(h:upR g M w)(hb:b<=M)(hs:M<=9223372036854775807):Sh.IsI w (some ⟨g,wo a b,none⟩) (b - a) (rd (List.range' a (b - a))):=by
 intro k hk
 have e:rd (List.range' a (b - a)) k=((a+k:Nat):Int):=by unfold rd;rw[lX hk]
 have e2:wo a b=a:=if_neg (by omega)
 rw[e,e2]
 exact⟨by omega,g,a,rfl,h.lt,h.cell (i:=a+k) (by omega)⟩
theorem kR{B n P gl gc ge:Nat}{X:Nat->Value}{w:World}(hn:1<=n/\n<=32)(h:OwnPs B n P gl gc ge X w): ∃p c,(∀i,i<P*3->X i=.slice (p i) (lsP n P i).length (c i))/\PsAt n P gl p c w:=by
 obtain⟨h1,h2,h3,-,h4⟩:=h
 have n1:=n12 hn
 have n2:6*n*n<=12*n*n:=Nat.mul_le_mul_right _ (Nat.mul_le_mul_right _ (by decide))
 have q: ∀i,i<P*3-> ∃a0 cap,X i=.slice a0 (lsP n P i).length cap/\Sh.IsI w a0 (lsP n P i).length (rd (lsP n P i)):=by
  intro i hi
  have hk:i/3<P:=by omega
  obtain⟨k1,k2,k3,-⟩:=h4 (i/3) hk
  unfold lsP
  by_cases m0:i%3=0
  ·rw[if_pos m0]
   rw[show i/3*3=i by omega]at k1
   have l:=qJ (6*n*n) P (i/3)
   have u:=hO (N:=6*n*n) (P:=P) (k:=i/3+1) (by omega) (by omega)
   have s:=cP (6*n*n) P (i/3)
   rw[k1,l]
   refine⟨_,_,rfl,?_⟩
   exact mC h2 (by unfold cO;omega) (by omega)
  ·rw[if_neg m0]
   by_cases m1:i%3=1
   ·rw[if_pos m1]
    rw[show i/3*3+1=i by omega]at k2
    have u:=kP hn.1 (hO (N:=6*n*n) (P:=P) (k:=i/3+1) (by omega) (by omega))
    have s:=dG (n:=n) (cP (6*n*n) P (i/3))
    rw[k2,ed_len hn.1 hk,qK hn.1 hk]
    refine⟨_,_,rfl,?_⟩
    exact mC h3 (by unfold eO;omega) (by omega)
   ·rw[if_neg m1]
    rw[show i/3*3+2=i by omega]at k3
    exact k3.in (fun x hx=>by have:=(mem_hl.1 hx).1;omega)
 have q': ∀i,∃z:Option Addr × Nat,i<P*3->X i=.slice z.1 (lsP n P i).length z.2/\Sh.IsI w z.1 (lsP n P i).length (rd (lsP n P i)):=fun i=>by
  by_cases hi:i<P*3
  ·obtain⟨a0,cap,k⟩:=q i hi
   exact⟨(a0,cap),fun _=>k⟩
  ·exact⟨(none,0),fun k=>absurd k hi⟩
 obtain⟨z,hz⟩: ∃z:Nat->Option Addr × Nat,∀i,i<P*3->X i=.slice (z i).1 (lsP n P i).length (z i).2/\Sh.IsI w (z i).1 (lsP n P i).length (rd (lsP n P i)):=⟨fun i=>Classical.choose (q' i),fun i=>Classical.choose_spec (q' i)⟩
 refine⟨fun i=>(z i).1,fun i=>(z i).2,fun i hi=>(hz i hi).1,h1.lt,fun i hi=>⟨?_,(hz i hi).2⟩⟩
 rw[<- (hz i hi).1]
 exact h1.cell hi
end Spl
end
section
open Go.RowKit Tf Cu Go.Deep
namespace Spl
theorem bT{w:World}{p:Option Addr}{n g k:Nat}{f:Nat->Nat}(v:Value)(h:IsFl w p n f)(hp: ∀b o,p=some ⟨b,o,none⟩->b≠g):IsFl (w.setCell ⟨g,k,none⟩ v) p n f:=fun i hi=>by
 obtain⟨h1,b,o,h2,h3,h4⟩:=h i hi
 exact⟨h1,b,o,h2,by simpa [World.setCell]using h3,(World.cell?_of_block (Below.heap_setCell _ _ _ _ (hp b o h2))).trans h4⟩
theorem dK{w:World}{p:Option Addr}{n g k:Nat}{f:Nat->Int}(v:Value)(h:Sh.IsI w p n f)(hp: ∀b o,p=some ⟨b,o,none⟩->b≠g):Sh.IsI (w.setCell ⟨g,k,none⟩ v) p n f:=fun i hi=>by
 obtain⟨h1,b,o,h2,h3,h4⟩:=h i hi
 exact⟨h1,b,o,h2,by simpa [World.setCell]using h3,(World.cell?_of_block (Below.heap_setCell _ _ _ _ (hp b o h2))).trans h4⟩
theorem rV{M n:Nat}{v:Value}{f:Nat->Nat}{w:World}(h:OwnG M v ((List.range n).map f) w)(hf: ∀i,i<n->f i<18446744073709551616): ∃p c,v=.slice p n c/\IsFl w p n f/\ ∀b o,p=some ⟨b,o,none⟩->M<=b/\b<w.heap.size:=by
 obtain⟨p,c,e,i⟩:=h.fl (fun x hx=>by obtain⟨j,hj,rfl⟩:=List.mem_map.1 hx;exact hf j (List.mem_range.1 hj))
 rw[List.length_map,List.length_range]at e i
 refine⟨p,c,e,fun k hk=> ?_,fun b o q=>World.ownsRow.lt h b (by rw[e,q];rfl)⟩
 have q:=i k hk
 simpa [List.getD,hk]using q
theorem rW{M n:Nat}{v:Value}{f:Nat->Int}{w:World}(h:Sh.Own M v ((List.range n).map f) w)(hf: ∀i,i<n->W64 (f i)): ∃p c,v=.slice p n c/\Sh.IsI w p n f/\ ∀b o,p=some ⟨b,o,none⟩->M<=b/\b<w.heap.size:=by
 obtain⟨p,c,e,i⟩:=Sh.Own.in h (fun x hx=>by obtain⟨j,hj,rfl⟩:=List.mem_map.1 hx;exact hf j (List.mem_range.1 hj))
 rw[List.length_map,List.length_range]at e i
 refine⟨p,c,e,fun k hk=> ?_,fun b o q=>World.ownsRow.lt h b (by rw[e,q];rfl)⟩
 have q:=i k hk
 simpa [List.getD,hk]using q
def Bnd(n1 n2 n3 n4:Nat)(A:Nat->Nat)(B C:Nat->Int)(D:Nat->Nat):Prop:=(∀i,i<n1->A i<18446744073709551616)/\(∀i,i<n2->W64 (B i))/\(∀i,i<n3->W64 (C i))/\(∀i,i<n4->D i<18446744073709551616)
def SeaP(g:Nat)(p1:Option Addr)(c1:Nat)(p2:Option Addr)(c2:Nat)(p3:Option Addr)(c3:Nat)(p4:Option Addr)(c4:Nat)(n1 n2 n3 n4:Nat)(A:Nat->Nat)(B C:Nat->Int)(D:Nat->Nat)(sk st:Int)(v:World):Prop:=v.heap[g]? =some (.cells #[.slice p1 n1 c1,.slice p2 n2 c2,.slice p3 n3 c3,.slice p4 n4 c4,.int .i64 sk,.int .i64 st] 41)/\IsFl v p1 n1 A/\Sh.IsI v p2 n2 B/\Sh.IsI v p3 n3 C/\IsFl v p4 n4 D
theorem SeaP.to{g:Nat}{p1:Option Addr}{c1:Nat}{p2:Option Addr}{c2:Nat}{p3:Option Addr}{c3:Nat}{p4:Option Addr}{c4:Nat}{n1 n2 n3 n4:Nat}{A:Nat->Nat}{B C:Nat->Int}{D:Nat->Nat}{sk st:Int}{v v':World}(h:SeaP g p1 c1 p2 c2 p3 c3 p4 c4 n1 n2 n3 n4 A B C D sk st v)(a:Ab v v'):SeaP g p1 c1 p2 c2 p3 c3 p4 c4 n1 n2 n3 n4 A B C D sk st v':=⟨a.heap h.1,h.2.1.below a,h.2.2.1.below a,h.2.2.2.1.below a,h.2.2.2.2.below a⟩
theorem sA{M:Nat}{vv:Value}{n1 n2 n3 n4:Nat}{A:Nat->Nat}{B C:Nat->Int}{D:Nat->Nat}{sk st:Int}{u:World}(h:OwnS M vv n1 n2 n3 n4 A B C D sk st u)(hb:Bnd n1 n2 n3 n4 A B C D):
  ∃p1 c1 p2 c2 p3 c3 p4 c4,vv=.agg #[.slice p1 n1 c1,.slice p2 n2 c2,.slice p3 n3 c3,.slice p4 n4 c4,.int .i64 sk,.int .i64 st]/\(IsFl u p1 n1 A/\Sh.IsI u p2 n2 B/\Sh.IsI u p3 n3 C/\IsFl u p4 n4 D)/\((∀b o,p1=some ⟨b,o,none⟩->M<=b)/\(∀b o,p2=some ⟨b,o,none⟩->M<=b)/\(∀b o,p3=some ⟨b,o,none⟩->M<=b)/\ ∀b o,p4=some ⟨b,o,none⟩->M<=b):=by
 obtain⟨v1,v2,v3,v4,rfl,h1,h2,h3,h4,-,-⟩:=h
 obtain⟨p1,c1,rfl,i1,m1⟩:=rV h1 hb.1
 obtain⟨p2,c2,rfl,i2,m2⟩:=rW h2 hb.2.1
 obtain⟨p3,c3,rfl,i3,m3⟩:=rW h3 hb.2.2.1
 obtain⟨p4,c4,rfl,i4,m4⟩:=rV h4 hb.2.2.2
 exact⟨p1,c1,p2,c2,p3,c3,p4,c4,rfl,⟨i1,i2,i3,i4⟩,fun b o q=>(m1 b o q).1,fun b o q=>(m2 b o q).1,fun b o q=>(m3 b o q).1,fun b o q=>(m4 b o q).1⟩
end Spl
end
section
open Go.RowKit Tf Cu Go.Deep
namespace Spl
def bl4:Value->List Nat
 | .agg a=>(a.toList.take 4).filterMap Value.ownBlock
 | _=>[]
theorem OwnS.blk{M:Nat}{v:Value}{nb nw nt ns:Nat}{A:Nat->Nat}{B C:Nat->Int}{D:Nat->Nat}{sk st:Int}{w:World}(h:OwnS M v nb nw nt ns A B C D sk st w){b:Nat}(hb:b ∈ bl4 v):M<=b/\b<w.heap.size:=by
 obtain⟨v1,v2,v3,v4,rfl,h1,h2,h3,h4,d1,d2⟩:=h
 simp only[bl4,List.take_succ_cons,List.take_zero,List.mem_filterMap,List.mem_cons,List.not_mem_nil,or_false]at hb
 obtain⟨u,hu,hv⟩:=hb
 rcases hu with rfl | rfl | rfl | rfl
 ·exact World.ownsRow.lt h1 b hv
 ·exact World.ownsRow.lt h2 b hv
 ·exact World.ownsRow.lt h3 b hv
 ·exact World.ownsRow.lt h4 b hv
theorem sea_box{M g:Nat}{vv:Value}{n1 n2 n3 n4:Nat}{A:Nat->Nat}{B C:Nat->Int}{D:Nat->Nat}{sk st:Int}{z:World}(q:z.heap[g]? =some (.cells #[.slice none 0 0,.slice none 0 0,.slice none 0 0,.slice none 0 0,.int .i64 0,.int .i64 0] 41))(os:OwnS M vv n1 n2 n3 n4 A B C D sk st z)(hb:Bnd n1 n2 n3 n4 A B C D)(ng: ∀b,b ∈ bl4 vv->b≠g):
  ∃p1 c1 p2 c2 p3 c3 p4 c4,vv=.agg #[.slice p1 n1 c1,.slice p2 n2 c2,.slice p3 n3 c3,.slice p4 n4 c4,.int .i64 sk,.int .i64 st]/\SeaP g p1 c1 p2 c2 p3 c3 p4 c4 n1 n2 n3 n4 A B C D sk st ((((((z.setCell ⟨g,0,none⟩ (.slice p1 n1 c1)).setCell ⟨g,1,none⟩ (.slice p2 n2 c2)).setCell ⟨g,2,none⟩ (.slice p3 n3 c3)).setCell ⟨g,3,none⟩ (.slice p4 n4 c4)).setCell ⟨g,4,none⟩ (.int .i64 sk)).setCell ⟨g,5,none⟩ (.int .i64 st))/\
   ((∀b o,p1=some ⟨b,o,none⟩->M<=b)/\(∀b o,p2=some ⟨b,o,none⟩->M<=b)/\(∀b o,p3=some ⟨b,o,none⟩->M<=b)/\ ∀b o,p4=some ⟨b,o,none⟩->M<=b):=by
 obtain⟨p1,c1,p2,c2,p3,c3,p4,c4,e,⟨i1,i2,i3,i4⟩,m1,m2,m3,m4⟩:=sA os hb
 subst e
 have mem: ∀(p:Option Addr) (n c:Nat) (b o:Nat),p=some ⟨b,o,none⟩->(Value.slice p n c).ownBlock=some b:=fun p n c b o e=>by subst e;rfl
 have ne: ∀b,(∃u:Value,(u=.slice p1 n1 c1\/u=.slice p2 n2 c2\/u=.slice p3 n3 c3\/u=.slice p4 n4 c4)/\u.ownBlock=some b)->b≠g:=fun b h=>ng b (by
  obtain⟨u,hu,hv⟩:=h
  simp only[bl4,List.take_succ_cons,List.take_zero,List.mem_filterMap,List.mem_cons,List.not_mem_nil,or_false]
  exact⟨u,hu,hv⟩)
 have o1: ∀b o,p1=some ⟨b,o,none⟩->b≠g:=fun b o k=>ne b ⟨_,.inl rfl,mem p1 n1 c1 b o k⟩
 have o2: ∀b o,p2=some ⟨b,o,none⟩->b≠g:=fun b o k=>ne b ⟨_,.inr (.inl rfl),mem p2 n2 c2 b o k⟩
 have o3: ∀b o,p3=some ⟨b,o,none⟩->b≠g:=fun b o k=>ne b ⟨_,.inr (.inr (.inl rfl)),mem p3 n3 c3 b o k⟩
 have o4: ∀b o,p4=some ⟨b,o,none⟩->b≠g:=fun b o k=>ne b ⟨_,.inr (.inr (.inr rfl)),mem p4 n4 c4 b o k⟩
 have fl: ∀(p:Option Addr) (n:Nat) (f:Nat->Nat),(∀b o,p=some ⟨b,o,none⟩->b≠g)->IsFl z p n f->IsFl ((((((z.setCell ⟨g,0,none⟩ (.slice p1 n1 c1)).setCell ⟨g,1,none⟩ (.slice p2 n2 c2)).setCell ⟨g,2,none⟩ (.slice p3 n3 c3)).setCell ⟨g,3,none⟩ (.slice p4 n4 c4)).setCell ⟨g,4,none⟩ (.int .i64 sk)).setCell ⟨g,5,none⟩ (.int .i64 st)) p n f:=fun p n f o i=>bT _ (bT _ (bT _ (bT _ (bT _ (bT _ i o) o) o) o) o) o
 have ii: ∀(p:Option Addr) (n:Nat) (f:Nat->Int),(∀b o,p=some ⟨b,o,none⟩->b≠g)->Sh.IsI z p n f->Sh.IsI ((((((z.setCell ⟨g,0,none⟩ (.slice p1 n1 c1)).setCell ⟨g,1,none⟩ (.slice p2 n2 c2)).setCell ⟨g,2,none⟩ (.slice p3 n3 c3)).setCell ⟨g,3,none⟩ (.slice p4 n4 c4)).setCell ⟨g,4,none⟩ (.int .i64 sk)).setCell ⟨g,5,none⟩ (.int .i64 st)) p n f:=fun p n f o i=>dK _ (dK _ (dK _ (dK _ (dK _ (dK _ i o) o) o) o) o) o
 exact⟨p1,c1,p2,c2,p3,c3,p4,c4,rfl,⟨row6 q,fl _ _ _ o1 i1,ii _ _ _ o2 i2,ii _ _ _ o3 i3,fl _ _ _ o4 i4⟩,m1,m2,m3,m4⟩
theorem aX(w:World)(o:Obj):(w.alloc o).drew.heap[w.heap.size]? =some o:=heap_alloc_new w o
theorem lit22{x:Int}(h:(Lit.int .i64 x).wf=true):W64 x:=by
 unfold W64
 simp only[Lit.wf,Bool.and_eq_true,decide_eq_true_eq]at h
 have q1:IntKind.i64.min= -9223372036854775808:=by decide
 have q2:IntKind.i64.max=9223372036854775807:=by decide
 omega
def Mb(M:Nat)(p1 p2 p3 p4:Option Addr):Prop:=(∀b o,p1=some ⟨b,o,none⟩->M<=b)/\(∀b o,p2=some ⟨b,o,none⟩->M<=b)/\(∀b o,p3=some ⟨b,o,none⟩->M<=b)/\ ∀b o,p4=some ⟨b,o,none⟩->M<=b
theorem Mb.up{M N:Nat}{p1 p2 p3 p4:Option Addr}(h:Mb N p1 p2 p3 p4)(hm:M<=N):Mb M p1 p2 p3 p4:=⟨fun b o e=>Nat.le_trans hm (h.1 b o e),fun b o e=>Nat.le_trans hm (h.2.1 b o e),fun b o e=>Nat.le_trans hm (h.2.2.1 b o e),fun b o e=>Nat.le_trans hm (h.2.2.2 b o e)⟩
theorem iM{M:Nat}{vv:Value}{n1 n2 n3 n4:Nat}{A:Nat->Nat}{B C:Nat->Int}{D:Nat->Nat}{sk st:Int}{u:World}(h:OwnS M vv n1 n2 n3 n4 A B C D sk st u)(hb:Bnd n1 n2 n3 n4 A B C D):
  ∃p1 c1 p2 c2 p3 c3 p4 c4,vv=.agg #[.slice p1 n1 c1,.slice p2 n2 c2,.slice p3 n3 c3,.slice p4 n4 c4,.int .i64 sk,.int .i64 st]/\SeaP u.heap.size p1 c1 p2 c2 p3 c3 p4 c4 n1 n2 n3 n4 A B C D sk st (u.alloc (.cells #[.slice p1 n1 c1,.slice p2 n2 c2,.slice p3 n3 c3,.slice p4 n4 c4,.int .i64 sk,.int .i64 st] 41))/\Mb M p1 p2 p3 p4:=by
 obtain⟨p1,c1,p2,c2,p3,c3,p4,c4,e,⟨i1,i2,i3,i4⟩,mm⟩:=sA h hb
 have a: ∀o,Ab u (u.alloc o):=fun o=>bl1 _ _
 exact⟨p1,c1,p2,c2,p3,c3,p4,c4,e,⟨heap_alloc_new _ _,i1.below (a _),i2.below (a _),i3.below (a _),i4.below (a _)⟩,mm⟩
theorem eA{U z:World}{g:Nat}{vv:Value}{n1 n2 n3 n4:Nat}{A:Nat->Nat}{B C:Nat->Int}{D:Nat->Nat}{sk st:Int}(q:U.heap[g]? =some (.cells #[.slice none 0 0,.slice none 0 0,.slice none 0 0,.slice none 0 0,.int .i64 0,.int .i64 0] 41))(b:Ab U z)(os:OwnS U.heap.size vv n1 n2 n3 n4 A B C D sk st z)(hb:Bnd n1 n2 n3 n4 A B C D):
  ∃p1 c1 p2 c2 p3 c3 p4 c4,vv=.agg #[.slice p1 n1 c1,.slice p2 n2 c2,.slice p3 n3 c3,.slice p4 n4 c4,.int .i64 sk,.int .i64 st]/\z.heap[g]? =some (.cells #[.slice none 0 0,.slice none 0 0,.slice none 0 0,.slice none 0 0,.int .i64 0,.int .i64 0] 41)/\SeaP g p1 c1 p2 c2 p3 c3 p4 c4 n1 n2 n3 n4 A B C D sk st ((((((z.setCell ⟨g,0,none⟩ (.slice p1 n1 c1)).setCell ⟨g,1,none⟩ (.slice p2 n2 c2)).setCell ⟨g,2,none⟩ (.slice p3 n3 c3)).setCell ⟨g,3,none⟩ (.slice p4 n4 c4)).setCell ⟨g,4,none⟩ (.int .i64 sk)).setCell ⟨g,5,none⟩ (.int .i64 st))/\Mb U.heap.size p1 p2 p3 p4:=by
 obtain⟨p1,c1,p2,c2,p3,c3,p4,c4,e,s,m⟩:=sea_box (b.heap q) os hb (fun d hd e=>by have h1:=(os.blk hd).1;have h2:=lt_of_block q;omega)
 exact⟨p1,c1,p2,c2,p3,c3,p4,c4,e,b.heap q,s,m⟩
end Spl
end
end Go.Proofs.YtjheiemgfibgpaaDoor
