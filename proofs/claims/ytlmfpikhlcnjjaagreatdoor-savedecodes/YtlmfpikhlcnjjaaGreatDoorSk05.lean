/-
  Some of the texts of this proof, one behind the other.
-/
import Derived.WalkKit
import Derived.Test.YtlmfpikhlcnjjaaGreatDoorRows
import Derived.ProofKit
import Derived.OpenShut
import Derived.WalkLawsBesides
import Derived.Stop.Joined
import Derived.Carry
import Derived.Lib.SmallJoins
import Derived.Deep.Slices
import Derived.Deep.OwnRows
import Derived.StillTail
import Derived.Test.YtlmfpikhlcnjjaaGreatDoorSk04
set_option maxRecDepth 100000
set_option maxHeartbeats 400000000
namespace Go.Proofs.YtlmfpikhlcnjjaaGreatDoor
open _root_.Go.Proofs.Tryz
section
open Go.RowKit Cu Tf
theorem oS(gb mb eb cap c s x y:Nat)(sg:Int)(w:World)(M:Nat)(hk:(x:Int)<M)(lg:gb<w.heap.size)(le:eb<w.heap.size)
  (c1:w.cell? ⟨gb,1,none⟩=some (.slice (some ⟨eb,0,none⟩) M cap)) (c2:w.cell? ⟨gb,2,none⟩=some (.map (some mb)))
  (LK:(Instr.lookup 61 (.map (some mb)) (.agg #[.int .i64 c,.int .i64 s]) false).run prog w=.ok (.agg #[.int .i64 x,.int .i64 sg]) w)
  (HY:Hid ((sg=1/\w.cell? ⟨eb,x*4+2,none⟩=some (.int .i64 y))\/(sg= -1/\w.cell? ⟨eb,x*4,none⟩=some (.int .i64 y)))):
  Calls prog 65 #[.pointer (some ⟨gb,0,none⟩),.int .i64 c,.int .i64 s] w fun e w'=>e=.returned (.int .i64 y)/\Below w.heap.size w w':=by
 rcases HY.out with⟨rfl,hy⟩ | ⟨rfl,hy⟩
 ·clear HY
  go_enter func65,ntmps65
  go_upto_region 3 with fail
  go_region
  go_wp2
  go_ret
  exact⟨rfl,by first | exact bl1 w _ | exact Below.drew (bl1 w _)⟩
 ·clear HY
  go_enter func65,ntmps65
  go_upto_region 4 with fail
  go_region
  go_wp2
  go_ret
  exact⟨rfl,by first | exact bl1 w _ | exact Below.drew (bl1 w _)⟩
theorem iG(n gb mb eb cap m c s:Nat)(v3 v4 v5 v6:Value)(w:World)(hn:1<=n/\n<=32)(hc:c<6*n*n)(hs:s<4)(G:GX n gb mb eb cap m v3 v4 v5 v6 w):
  Calls prog 65 #[.pointer (some ⟨gb,0,none⟩),.int .i64 c,.int .i64 s] w fun e w'=>e=.returned (.int .i64 (bsC n c s:Nat))/\Below w.heap.size w w':=by
 have ht:=t_lt hc hs
 have hd:=t_dec (c:=c) hs
 have h12:=n12 hn
 have LK:=G.2.2.1.look (c:=c) (s:=s) (by unfold W64;omega) (by unfold W64;omega)
 rw[gT_end hn.1 hc hs]at LK
 refine oS gb mb eb cap c s (eE n (4*c+s)) (bsC n c s) (eS n (4*c+s)) w (12*n*n) (by have:=eE_lt hn.1 ht;omega) (lt_of_block G.1) G.2.1.1 G.cells.2.1 G.cells.2.2.1 LK ?_
 show _\/_
 unfold eE eS
 cases hl:isL n (4*c+s)with
 | true=>
  refine .inl ⟨rfl,?_⟩
  have h:=(G.2.1.2 _ ht hl).2.2.1
  rw[hd.1,hd.2]at h
  exact h
 | false=>
  refine .inr ⟨rfl,?_⟩
  have h:=(G.2.1.2 _ (nA hn.1 ht) (by rw[iZ hn.1 ht,hl];rfl)).1
  rw[(pP hn.1 ht).1,hd.1,hd.2]at h
  exact h
theorem set2{W w:World}{g:Nat}{x y:Value}{T:TypeId}(h:Abx W g 2 T w):((w.setCell ⟨g,0,none⟩ x).setCell ⟨g,1,none⟩ y).heap[g]? =some (.cells #[x,y] T):=by
 obtain⟨_,cs,h6,h⟩:=h
 obtain⟨a,b,rfl⟩: ∃a b,cs= #[a,b]:=by
  rcases cs with⟨l⟩
  match l,h6 with
  | [a,b],_=>exact⟨a,b,rfl⟩
 have h1:=aN (v:=x) (k:=0) h
 have h2:=aN (v:=y) (k:=1) h1
 simpa using h2
theorem jX(n gb mb eb cap m t:Nat)(v3 v4 v5 v6:Value)(w:World)(hn:1<=n/\n<=32)(ht:t<24*n*n)(hl:isL n t=true)(G:GX n gb mb eb cap m v3 v4 v5 v6 w):
  Calls prog 39 #[.pointer (some ⟨gb,0,none⟩),.int .i64 (eN n t:Nat)] w fun e w'=>e=.returned (.agg #[.int .i64 (bsC n (t/4) ((t%4+2)%4):Nat),.int .i64 (bsC n (bsC n (t/4) (t%4)) ((bsS n (t/4) (t%4)+2)%4):Nat)])/\Below w.heap.size w w':=by
 obtain⟨b1,b2⟩:=kR hn.1 (cT ht) (s:=t%4) (by omega)
 have O1:=hid (fun u=>iE (t%4) u (by omega))
 have O2:=hid (fun u=>iE (bsS n (t/4) (t%4)) u b2)
 have C1:=hid (fun u (hu:Ab w u)=>iG n gb mb eb cap m (t/4) ((t%4+2)%4) v3 v4 v5 v6 u hn (cT ht) (by omega) (G.to hu))
 have C2:=hid (fun u (hu:Ab w u)=>iG n gb mb eb cap m (bsC n (t/4) (t%4)) ((bsS n (t/4) (t%4)+2)%4) v3 v4 v5 v6 u hn b1 (by omega) (G.to hu))
 have c1:=G.cells.2.1
 obtain⟨y0,y1,y2,y3⟩:=G.2.1.2 t ht hl
 have kN:=nD hn.1 ht hl
 have kM:=(n12 hn).1
 have hcap:=G.2.2.2.1
 have lg:=lt_of_block G.1
 have le:=G.2.1.1
 have h1:=hid (heap_alloc_new w (.cells #[.int .i64 0,.int .i64 0] 70))
 generalize bsC n (bsC n (t/4) (t%4)) ((bsS n (t/4) (t%4)+2)%4)=q2 at*
 generalize bsC n (t/4) ((t%4+2)%4)=q1 at*
 generalize(bsS n (t/4) (t%4)+2)%4=o2 at*
 generalize(t%4+2)%4=o1 at*
 generalize bsC n (t/4) (t%4)=d at*
 generalize bsS n (t/4) (t%4)=b at*
 generalize t/4=c at*
 generalize t%4=s at*
 generalize 12*n*n=M at*
 generalize eN n t=k at*
 have hk1:(k:Int)<M:=by omega
 have hk2:(M:Int)<=12288:=by omega
 clear hn ht hl G kN kM b1 b2
 go_enter func39,ntmps39
 go_upto_region 2 with fail
 generalize hW:World.alloc _ _=W
 have ra:W.heap[w.heap.size]? =some (.cells #[.int .i64 0,.int .i64 0] 70):=by rw[<- hW];exact heap_alloc2_old _ _ _
 have rb:W.heap[w.heap.size+1]? =some (.cells #[.int .i64 c,.int .i64 s,.int .i64 d,.int .i64 b] 98):=by rw[<- hW];exact heap_alloc2_new _ _ _
 have AW:Hid (Ab w W):=by rw[<- hW];exact bl2 _ _ _
 have KS:Hid (∀w',Abx W w.heap.size 2 70 w'->Abx W w.heap.size 2 70 w'/\w'.cell? ⟨w.heap.size+1,0,none⟩=some (.int .i64 c)/\w'.cell? ⟨w.heap.size+1,1,none⟩=some (.int .i64 s)/\w'.cell? ⟨w.heap.size+1,2,none⟩=some (.int .i64 d)/\w'.cell? ⟨w.heap.size+1,3,none⟩=some (.int .i64 b)/\w'.frozen? ⟨w.heap.size,0,none⟩=false/\w'.frozen? ⟨w.heap.size,1,none⟩=false/\w'.cell? ⟨w.heap.size,0,none⟩=some (rv w' w.heap.size 0)/\w'.cell? ⟨w.heap.size,1,none⟩=some (rv w' w.heap.size 1)):=by
  intro w' hw
  have h:=hw.heap (k:=w.heap.size+1) (by omega) rb
  exact⟨hw,aA 0 h,aA 1 h,aA 2 h,aA 3 h,hw.free 0,hw.free 1,hw.some (by omega),hw.some (by omega)⟩
 have A1:Abx W w.heap.size 2 70 W:=(Ab.refl W).x rfl ra
 have D1:Hid (∀u,Abx W w.heap.size 2 70 u->Calls prog 65 #[.pointer (some ⟨gb,0,none⟩),.int .i64 c,.int .i64 o1] u fun e w'=>e=.returned (.int .i64 q1)/\Below u.heap.size u w'):=fun u hu=>C1.out u (hu.ab AW.out (Nat.le_refl _))
 have D2:Hid (∀u,Abx W w.heap.size 2 70 u->Calls prog 65 #[.pointer (some ⟨gb,0,none⟩),.int .i64 d,.int .i64 o2] u fun e w'=>e=.returned (.int .i64 q2)/\Below u.heap.size u w'):=fun u hu=>C2.out u (hu.ab AW.out (Nat.le_refl _))
 clear ra rb hW h1 y0 y1 y2 y3 c1 C1 C2
 go_region_held3 (fun w'=>Abx W w.heap.size 2 70 w'/\w'.cell? ⟨w.heap.size+1,0,none⟩=some (.int .i64 c)/\w'.cell? ⟨w.heap.size+1,1,none⟩=some (.int .i64 s)/\w'.cell? ⟨w.heap.size+1,2,none⟩=some (.int .i64 d)/\w'.cell? ⟨w.heap.size+1,3,none⟩=some (.int .i64 b)/\w'.frozen? ⟨w.heap.size,0,none⟩=false/\w'.frozen? ⟨w.heap.size,1,none⟩=false/\w'.cell? ⟨w.heap.size,0,none⟩=some (rv w' w.heap.size 0)/\w'.cell? ⟨w.heap.size,1,none⟩=some (rv w' w.heap.size 1)) ((refine KS.out _ ?_;(with_reducible (repeat(first | assumption | apply Abx.drew | apply Abx.set | (refine Abx.call ?_ (by assumption)))));done)) (first
  | (go_at_call_of 66 s;refine(O1.out _).mono ?_;rintro e w2 ⟨rfl,rfl⟩)
  | (go_at_call_of 66 b;refine(O2.out _).mono ?_;rintro e w2 ⟨rfl,rfl⟩)
  | (go_at_call_of 65 o1;refine(D1.out _ ?_).mono ?_;(exact And.left (by assumption));rintro e w3 ⟨rfl,b3⟩)
  | (go_at_call_of 65 o2;refine(D2.out _ ?_).mono ?_;(exact And.left (by assumption));rintro e w4 ⟨rfl,b4⟩))
 have A4:Abx W w.heap.size 2 70 w4:=Abx.call (Abx.call A1.drew b3) b4
 clear KS A1 b3 b4
 go_wp2
 refine bodyPost_ret ?_ rfl ⟨rfl,?_⟩
 ·exact results_cell_row results39 _ _ w.heap.size _ _ (0,0) _ rfl (set2 A4) underlying70 rfl (by kernel_rfl)
 ·exact((A4.set 0 _).set 1 _).ab AW.out (Nat.le_refl _)
end
section
open Go.RowKit Cu Tf
def edT(n k:Nat):Nat:=((List.range (24*n*n)).find? (fun t=>isL n t&&eN n t==k)).getD 0
theorem jY{n k:Nat}(hn:1<=n)(hk:k<12*n*n):edT n k<24*n*n/\isL n (edT n k)=true/\eN n (edT n k)=k:=by
 obtain⟨t,h1,h2,h3⟩:=ed_ex hn hk
 unfold edT
 cases h:(List.range (24*n*n)).find? (fun t=>isL n t&&eN n t==k)with
 | none=>
  have:=List.find?_eq_none.1 h t (List.mem_range.2 h1)
  simp[h2,h3]at this
 | some u=>
  have h4:=List.find?_some h
  have h5:=List.mem_range.1 (List.mem_of_find?_eq_some h)
  simp at h4
  exact⟨h5,h4.1,h4.2⟩
theorem made_two(w:World)(N:Nat):(w.alloc (.cells (madeCells #[.int .i64 0,.int .i64 0] (N*2)) 70)).rowIs w.heap.size 70 (N*2) (fun _=>.int .i64 0):=by
 refine⟨_,heap_alloc_new _ _,size_madeCells _ _,fun i hi=> ?_⟩
 have h2:i%2=0\/i%2=1:=by omega
 rcases h2 with h2 | h2<;>simp[madeCells,hi,h2]
theorem qG(N gb:Nat)(f g:Nat->Int)(w:World)(hN:(N:Int)<=12288)
  (H:Hid (∀k:Nat,k<N-> ∀w',Ab w w'->Calls prog 39 #[.pointer (some ⟨gb,0,none⟩),.int .i64 k] w' fun e w''=>e=.returned (.agg #[.int .i64 (f k),.int .i64 (g k)])/\Below w'.heap.size w' w'')):
  Calls prog 38 #[.int .i64 N,.func (.func 39) #[.pointer (some ⟨gb,0,none⟩)] #[]] w fun e w'=>e=.returned (.slice (some ⟨w.heap.size,0,none⟩) N N)/\Below w.heap.size w w'/\w'.rowIs w.heap.size 70 (N*2) (fun i=>.int .i64 (if i%2=0 then f (i/2)else g (i/2))):=by
 obtain⟨i0,hi,hz0,hz1,hz2⟩:=info_parts infoTwo
 have MK:=run_make (P:=prog) w 63 70 i0 (.agg #[.int .i64 0,.int .i64 0]) underlying63 hi hz0 .i64 .i64 N N (by omega) (Int.le_refl _) (by rw[hz2];omega) (by omega)
 rw[hz1]at MK
 simp only[Int.toNat_natCast]at MK
 have e0:(Value.agg #[.int .i64 0,.int .i64 0]).cells= #[.int .i64 0,.int .i64 0]:=rfl
 rw[e0]at MK
 clear hi hz0 hz1 hz2 e0
 obtain⟨ob,hob⟩:=aB w.heap.size
 have RW:Hid ((w.alloc (.cells (madeCells #[.int .i64 0,.int .i64 0] (N*2)) 70)).rowIs ob 70 (N*2) (fun _=>.int .i64 0)):=by rw[<- hob];exact made_two _ _
 have A0:Hid (Ab w (w.alloc (.cells (madeCells #[.int .i64 0,.int .i64 0] (N*2)) 70))):=bl1 w _
 have HO:Hid (w.heap.size<=ob):=Nat.le_of_eq hob
 generalize w.alloc (.cells (madeCells #[.int .i64 0,.int .i64 0] (N*2)) 70)=wm at*
 go_enter func38,ntmps38
 go_wp2
 have HB:=hid hob
 clear MK hob
 go_loopw [11] (fun iv wr=> ∃k:Nat,k<=N/\iv=.int .i64 (k:Nat)/\Ab w wr/\wr.rowIs ob 70 (N*2) (fun i=>.int .i64 (if i/2<k then(if i%2=0 then f (i/2)else g (i/2))else 0))) (fun iv _=>N - (intOf iv).toNat)
 case atStart=>exact⟨0,by omega,rfl,A0.out,RW.out.congr (fun i _=>by simp)⟩
 case round=>
  obtain⟨k,hk,rfl,A,R⟩:=hrel
  have A1:=hid A
  have R1:=hid R
  clear A R A0 RW
  by_cases hkN:k<N
  ·have hkN':(k:Int)<N:=by omega
   have C:=hid (H.out k hkN wr A1.out)
   have HK:=hid hkN
   go_wp2_with fail
   refine C.out.mono ?_
   rintro e w1 ⟨rfl,b1⟩
   have A2:Hid (Ab w w1):=A1.out.call b1
   have R2:=hid (rowIs.ab R1.out b1)
   have x1:=R2.out.cell (i:=k*2) (by omega)
   have x2:=R2.out.frozen (k*2)
   have x3:=R2.out.cell (i:=k*2+1) (by omega)
   have x4:=R2.out.frozen (k*2+1)
   clear b1 C A1 R1 hkN
   go_wp2
   go_roundw
   case rel=>
    refine⟨k+1,by omega,by simp,Ab.setk (Ab.setk A2.out HO.out _) HO.out _,((R2.out.set (k*2) (.int .i64 (f k))).set (k*2+1) (.int .i64 (g k))).congr (fun i _=> ?_)⟩
    have q1:(k*2)/2=k:=by omega
    have q2:(k*2+1)/2=k:=by omega
    by_cases e1:i=k*2+1
    ·subst e1
     simp[q2]
    ·by_cases e2:i=k*2
     ·subst e2;simp[q1]
     ·have e3:(i/2<k+1) ↔ i/2<k:=by omega
      simp[e1,e2,e3]
   case measure=>have:=HK.out;simp[intOf];omega
  ·obtain rfl:k=N:=by omega
   go_wp2
   go_ret
   rw[HB.out]
   refine⟨rfl,by have h:=A1.out;unfold Ab at h;rw[HB.out]at h;exact h,R1.out.congr (fun i hi=> ?_)⟩
   have:i/2<k:=by omega
   simp[this]
end
section
open Go.RowKit Cu Tf
def bhC(n i:Nat):Int:=if i%2=0 then(bsC n (edT n (i/2)/4) ((edT n (i/2)%4+2)%4):Nat)else(bsC n (bsC n (edT n (i/2)/4) (edT n (i/2)%4)) ((bsS n (edT n (i/2)/4) (edT n (i/2)%4)+2)%4):Nat)
def GridOf(n gb:Nat)(w:World):Prop:=
 ∃mb eb cap m bb ab lb pb,GX n gb mb eb cap m (.slice (some ⟨bb,0,none⟩) (12*n*n) (12*n*n)) (.slice (some ⟨ab,0,none⟩) (6*n*n) (6*n*n)) (.slice (some ⟨lb,0,none⟩) (12*n*n) (12*n*n)) (.slice (some ⟨pb,0,none⟩) (12*n*n) (12*n*n)) w/\
  w.rowIs bb 70 (12*n*n*2) (fun i=>.int .i64 (bhC n i))/\w.rowIs ab 2 (6*n*n) (fun k=>.int .i64 (arI (ArC n k)))/\
  w.rowIs lb 47 (12*n*n) (fun k=>.float .f64 (LnC n (edT n k/4) (edT n k%4)))/\w.rowIs pb 47 (12*n*n) (fun k=>.float .f64 (GpC n (edT n k/4) (edT n k%4)))
theorem GridOf.to{n gb:Nat}{w w':World}(h:GridOf n gb w)(a:Ab w w'):GridOf n gb w':=by
 obtain⟨mb,eb,cap,m,bb,ab,lb,pb,h1,h2,h3,h4,h5⟩:=h
 exact⟨mb,eb,cap,m,bb,ab,lb,pb,h1.to a,rowIs.ab h2 a,rowIs.ab h3 a,rowIs.ab h4 a,rowIs.ab h5 a⟩
theorem EG.set{w:World}{n eb gb k:Nat}{v:Value}(h:EG w n eb)(hne:gb≠eb):EG (w.setCell ⟨gb,k,none⟩ v) n eb:=by
 have hb:(w.setCell ⟨gb,k,none⟩ v).heap[eb]? =w.heap[eb]? :=Below.heap_setCell _ _ _ _ (fun e=>hne e.symm)
 refine⟨by simpa [World.setCell]using h.1,fun t ht hl=> ?_⟩
 have hc: ∀j,(w.setCell ⟨gb,k,none⟩ v).cell? ⟨eb,j,none⟩=w.cell? ⟨eb,j,none⟩:=fun j=>World.cell?_of_block (by exact hb)
 simp only[hc]
 exact h.2 t ht hl
theorem GX.put3{n gb mb eb cap m:Nat}{v3 v4 v5 v6:Value}{w:World}(h:GX n gb mb eb cap m v3 v4 v5 v6 w)(v:Value):GX n gb mb eb cap m v v4 v5 v6 (w.setCell ⟨gb,3,none⟩ v):=by
 obtain⟨h1,h2,h3,h4,h5,h6,h7⟩:=h
 refine⟨?_,h2.set h7,h3.block (Below.heap_setCell _ _ _ _ (fun e=>h6 e.symm)),h4,h5,h6,h7⟩
 have:=aN (v:=v) (k:=3) h1
 simpa using this
theorem GX.put4{n gb mb eb cap m:Nat}{v3 v4 v5 v6:Value}{w:World}(h:GX n gb mb eb cap m v3 v4 v5 v6 w)(v:Value):GX n gb mb eb cap m v3 v v5 v6 (w.setCell ⟨gb,4,none⟩ v):=by
 obtain⟨h1,h2,h3,h4,h5,h6,h7⟩:=h
 refine⟨?_,h2.set h7,h3.block (Below.heap_setCell _ _ _ _ (fun e=>h6 e.symm)),h4,h5,h6,h7⟩
 have:=aN (v:=v) (k:=4) h1
 simpa using this
theorem GX.put5{n gb mb eb cap m:Nat}{v3 v4 v5 v6:Value}{w:World}(h:GX n gb mb eb cap m v3 v4 v5 v6 w)(v:Value):GX n gb mb eb cap m v3 v4 v v6 (w.setCell ⟨gb,5,none⟩ v):=by
 obtain⟨h1,h2,h3,h4,h5,h6,h7⟩:=h
 refine⟨?_,h2.set h7,h3.block (Below.heap_setCell _ _ _ _ (fun e=>h6 e.symm)),h4,h5,h6,h7⟩
 have:=aN (v:=v) (k:=5) h1
 simpa using this
theorem GX.put6{n gb mb eb cap m:Nat}{v3 v4 v5 v6:Value}{w:World}(h:GX n gb mb eb cap m v3 v4 v5 v6 w)(v:Value):GX n gb mb eb cap m v3 v4 v5 v (w.setCell ⟨gb,6,none⟩ v):=by
 obtain⟨h1,h2,h3,h4,h5,h6,h7⟩:=h
 refine⟨?_,h2.set h7,h3.block (Below.heap_setCell _ _ _ _ (fun e=>h6 e.symm)),h4,h5,h6,h7⟩
 have:=aN (v:=v) (k:=6) h1
 simpa using this
theorem GX.fr{n gb mb eb cap m:Nat}{v3 v4 v5 v6:Value}{w:World}(h:GX n gb mb eb cap m v3 v4 v5 v6 w)(k:Nat):w.frozen? ⟨gb,k,none⟩=false:=aC h.1 k
theorem qH(k:Int)(w:World):(Instr.makeMap 61 (some (.int .i64 k))).run prog w=.ok (.map (some w.heap.size)) (w.alloc (.map #[] 0)):=by
 simp[Instr.makeMap,run_underlying underlying61,asInt,asIntOf]
theorem ge_start(n:Nat)(w:World):GE w.heap.size n 0 (w.heap.size+1) w.heap.size (.slice none 0 0) (.slice none 0 0) (.slice none 0 0) (.slice none 0 0) (.slice none 0 0) ((w.alloc (.map #[] 0)).alloc (.cells #[.int .i64 n,.slice none 0 0,.map (some w.heap.size),.slice none 0 0,.slice none 0 0,.slice none 0 0,.slice none 0 0] 65)):=by
 refine⟨heap_alloc2_new _ _ _,World.ownsRow_nil _ _ _ _,?_,⟨by omega,by omega,by omega⟩,by simp[Value.ownBlock],by simp[Value.ownBlock]⟩
 have h:=(MapIs.made w).congr (g':=gT n 0) (fun c s _ _=>(gT_zero n c s).symm)
 exact h.block (Below.heap_alloc _ _ _ (by simp))
theorem oT(n:Nat)(w:World):Ab w ((w.alloc (.map #[] 0)).alloc (.cells #[.int .i64 n,.slice none 0 0,.map (some w.heap.size),.slice none 0 0,.slice none 0 0,.slice none 0 0,.slice none 0 0] 65)):=bl2 _ _ _
theorem new_at(n:Nat)(w:World)(hn:1<=n/\n<=32)(hF:Fr w):
  Calls prog 13 #[.int .i64 n] w fun e w'=> ∃gb,e=.returned (.tuple #[.pointer (some ⟨gb,0,none⟩),.int .i64 0])/\Ab w w'/\w.heap.size<=gb/\GridOf n gb w':=by
 have CE:=hid (fun u=>sF n hn u)
 have h12:=n12 hn
 obtain⟨N,hN⟩:=aB (6*n*n)
 rw[hN]at CE
 have hN1:(N:Int)<=6144:=by omega
 have hN0:(N:Int)≠0:=by omega
 have HF:=hid hF
 have Hn:=hid hn
 have HN:=hid hN
 have H12:=hid h12
 have hmm:=qH (4*(N:Int))
 have AE:=hid (nH n N (w.heap.size+1) w.heap.size (.slice none 0 0) (.slice none 0 0) (.slice none 0 0) (.slice none 0 0) w _ hn hN.symm hF (oT n w) (ge_start n w))
 clear hn hF hN h12
 go_enter func13,ntmps13
 go_wp2_with (go_at_call 34;refine(CE.out _).mono ?_;rintro e w' ⟨rfl,hw⟩;have hw2:=hw.symm;subst hw2)
 refine AE.out.mono ?_
 rintro e w1 ⟨rfl,A1,es,G1⟩
 obtain⟨eb,cap,-,rfl,G2⟩:=G1.all Hn.out.1
 have G:=hid G2
 have A:=hid A1
 obtain⟨M,hM⟩:=aB (12*n*n)
 have HM:=hid hM
 have hM1:(M:Int)<=12288:=by have:=H12.out.1;omega
 clear A1 G1 G2 AE CE hmm hM
 have LL:=hid (oP N (w.heap.size+1) (fun k=>arI (ArC n k)) w1 (by omega) (fun k hk u hu=>sZ n (w.heap.size+1) k u Hn.out (by rw[HN.out];exact hk) (G.out.to hu).cells.1))
 go_wp2_with fail
 refine LL.out.mono ?_
 rintro e w2 ⟨rfl,b2,R2⟩
 obtain⟨bA,hbA⟩:=aB w1.heap.size
 have hlt:=lt_of_block G.out.1
 have HA:Hid (bA≠w.heap.size+1):=by show _≠_;omega
 rw[hbA]at R2
 rw[hbA]
 have x1:=(G.out.to b2).cells.2.2.2.2.1
 have x2:=(G.out.to b2).fr 4
 go_upto_region 7 with fail
 obtain⟨uA,huA⟩:=aB (w2.setCell ⟨w.heap.size+1,4,none⟩ (.slice (some ⟨bA,0,none⟩) N N))
 rw[huA]
 have G':=hid ((G.out.to b2).put4 (.slice (some ⟨bA,0,none⟩) N N))
 have RA:=hid (R2.setOther (a:=⟨w.heap.size+1,4,none⟩) HA.out (.slice (some ⟨bA,0,none⟩) N N))
 have A':=hid (Ab.setk (A.out.call b2) (g:=w.heap.size+1) (k:=4) (by omega) (.slice (some ⟨bA,0,none⟩) N N))
 rw[huA]at G' RA A'
 clear LL R2 hlt G A hbA x1 x2 b2 huA
 clear w2 w1
 have G:=G'
 have A:=A'
 clear G' A'
 have c1:=G.out.cells.2.1
 rw[HM.out]at c1
 have LL:=hid (qG M (w.heap.size+1) (fun k=>(bsC n (edT n k/4) ((edT n k%4+2)%4):Nat)) (fun k=>(bsC n (bsC n (edT n k/4) (edT n k%4)) ((bsS n (edT n k/4) (edT n k%4)+2)%4):Nat)) uA (by omega) (fun k hk u hu=>by obtain⟨e1,e2,e3⟩:=jY Hn.out.1 (k:=k) (by rw[HM.out];exact hk);have h:=jX n _ _ _ _ _ (edT n k) _ _ _ _ u Hn.out e1 e2 (G.out.to hu);rw[e3]at h;exact h))
 go_wp2_with fail
 refine LL.out.mono ?_
 rintro e w2 ⟨rfl,b2,R2⟩
 clear c1
 obtain⟨bB,hbB⟩:=aB uA.heap.size
 have hlt:=lt_of_block G.out.1
 have HB:Hid (bB≠w.heap.size+1):=by show _≠_;omega
 rw[hbB]at R2
 rw[hbB]
 have x1:=(G.out.to b2).cells.2.2.2.1
 have x2:=(G.out.to b2).fr 3
 go_upto_region 8 with fail
 obtain⟨uB,huB⟩:=aB (w2.setCell ⟨w.heap.size+1,3,none⟩ (.slice (some ⟨bB,0,none⟩) M M))
 rw[huB]
 have G':=hid ((G.out.to b2).put3 (.slice (some ⟨bB,0,none⟩) M M))
 have RB:=hid (R2.setOther (a:=⟨w.heap.size+1,3,none⟩) HB.out (.slice (some ⟨bB,0,none⟩) M M))
 have RA':=hid ((rowIs.ab RA.out b2).setOther (a:=⟨w.heap.size+1,3,none⟩) HA.out (.slice (some ⟨bB,0,none⟩) M M))
 have A':=hid (Ab.setk (A.out.call b2) (g:=w.heap.size+1) (k:=3) (by omega) (.slice (some ⟨bB,0,none⟩) M M))
 rw[huB]at G' RB A' RA'
 clear LL R2 hlt G A hbB x1 x2 b2 huB RA
 clear w2 uA
 have G:=G'
 have A:=A'
 have RA:=RA'
 clear G' A' RA'
 have c1:=G.out.cells.2.1
 rw[HM.out]at c1
 have LL:=hid (qE M (w.heap.size+1) (fun k=>LnC n (edT n k/4) (edT n k%4)) uB (by omega) (fun k hk u hu=>by obtain⟨e1,e2,e3⟩:=jY Hn.out.1 (k:=k) (by rw[HM.out];exact hk);have h:=oQ n _ _ _ _ _ (edT n k) _ _ _ _ u Hn.out e1 e2 (HF.out.to (A.out.trans hu)) (G.out.to hu);rw[e3]at h;exact h))
 go_wp2_with fail
 refine LL.out.mono ?_
 rintro e w2 ⟨rfl,b2,R2⟩
 clear c1
 obtain⟨bL,hbL⟩:=aB uB.heap.size
 have hlt:=lt_of_block G.out.1
 have HL:Hid (bL≠w.heap.size+1):=by show _≠_;omega
 rw[hbL]at R2
 rw[hbL]
 have x1:=(G.out.to b2).cells.2.2.2.2.2.1
 have x2:=(G.out.to b2).fr 5
 go_upto_region 9 with fail
 obtain⟨uL,huL⟩:=aB (w2.setCell ⟨w.heap.size+1,5,none⟩ (.slice (some ⟨bL,0,none⟩) M M))
 rw[huL]
 have G':=hid ((G.out.to b2).put5 (.slice (some ⟨bL,0,none⟩) M M))
 have RL:=hid (R2.setOther (a:=⟨w.heap.size+1,5,none⟩) HL.out (.slice (some ⟨bL,0,none⟩) M M))
 have RA':=hid ((rowIs.ab RA.out b2).setOther (a:=⟨w.heap.size+1,5,none⟩) HA.out (.slice (some ⟨bL,0,none⟩) M M))
 have RB':=hid ((rowIs.ab RB.out b2).setOther (a:=⟨w.heap.size+1,5,none⟩) HB.out (.slice (some ⟨bL,0,none⟩) M M))
 have A':=hid (Ab.setk (A.out.call b2) (g:=w.heap.size+1) (k:=5) (by omega) (.slice (some ⟨bL,0,none⟩) M M))
 rw[huL]at G' RL A' RA' RB'
 clear LL R2 hlt G A hbL x1 x2 b2 huL RA RB
 clear w2 uB
 have G:=G'
 have A:=A'
 have RA:=RA'
 have RB:=RB'
 clear G' A' RA' RB'
 have c1:=G.out.cells.2.1
 rw[HM.out]at c1
 have LL:=hid (qF M (w.heap.size+1) (fun k=>GpC n (edT n k/4) (edT n k%4)) uL (by omega) (fun k hk u hu=>by obtain⟨e1,e2,e3⟩:=jY Hn.out.1 (k:=k) (by rw[HM.out];exact hk);have h:=gapOf_at n _ _ _ _ _ (edT n k) _ _ _ _ u Hn.out e1 e2 (HF.out.to (A.out.trans hu)) (G.out.to hu);rw[e3]at h;exact h))
 go_wp2_with fail
 refine LL.out.mono ?_
 rintro e w2 ⟨rfl,b2,R2⟩
 clear c1
 obtain⟨bP,hbP⟩:=aB uL.heap.size
 have hlt:=lt_of_block G.out.1
 have HP:Hid (bP≠w.heap.size+1):=by show _≠_;omega
 rw[hbP]at R2
 rw[hbP]
 have x1:=(G.out.to b2).cells.2.2.2.2.2.2
 have x2:=(G.out.to b2).fr 6
 go_upto_region 10 with fail
 obtain⟨uP,huP⟩:=aB (w2.setCell ⟨w.heap.size+1,6,none⟩ (.slice (some ⟨bP,0,none⟩) M M))
 rw[huP]
 have G':=hid ((G.out.to b2).put6 (.slice (some ⟨bP,0,none⟩) M M))
 have RP:=hid (R2.setOther (a:=⟨w.heap.size+1,6,none⟩) HP.out (.slice (some ⟨bP,0,none⟩) M M))
 have RA':=hid ((rowIs.ab RA.out b2).setOther (a:=⟨w.heap.size+1,6,none⟩) HA.out (.slice (some ⟨bP,0,none⟩) M M))
 have RB':=hid ((rowIs.ab RB.out b2).setOther (a:=⟨w.heap.size+1,6,none⟩) HB.out (.slice (some ⟨bP,0,none⟩) M M))
 have RL':=hid ((rowIs.ab RL.out b2).setOther (a:=⟨w.heap.size+1,6,none⟩) HL.out (.slice (some ⟨bP,0,none⟩) M M))
 have A':=hid (Ab.setk (A.out.call b2) (g:=w.heap.size+1) (k:=6) (by omega) (.slice (some ⟨bP,0,none⟩) M M))
 rw[huP]at G' RP A' RA' RB' RL'
 clear LL R2 hlt G A hbP x1 x2 b2 huP RA RB RL
 clear w2 uL
 have G:=G'
 have A:=A'
 have RA:=RA'
 have RB:=RB'
 have RL:=RL'
 clear G' A' RA' RB' RL'
 go_wp2
 go_ret2
 refine⟨w.heap.size+1,rfl,A.out,by omega,?_⟩
 have hN:=HN.out
 have hM:=HM.out
 subst hN hM
 exact⟨w.heap.size,eb,cap,_,bB,bA,bL,bP,G.out,RB.out.congr (fun i _=>by unfold bhC;rfl),RA.out,RL.out,RP.out⟩
end
section
open Go.RowKit Cu Tf
attribute [local go_sem] aD
theorem qI(k n:Int)(w:World):Calls prog 69 #[.int .i64 k,.int .i64 n] w fun e w'=>e=.returned (.bool (inR k n))/\w'=w:=by
 by_cases h:0<=k
 ·go_enter func69,ntmps69
  go_wp2
  go_ret
  exact⟨by simp[inR,h],rfl⟩
 ·go_enter func69,ntmps69
  go_wp2
  go_ret
  exact⟨by simp[inR];omega,rfl⟩
theorem lC{n gb:Nat}{w:World}(g:GridOf n gb w):Calls prog 43 #[.pointer (some ⟨gb,0,none⟩)] w fun e w'=>e=.returned (.int .i64 (6*n*n:Nat))/\w'=w:=by
 obtain⟨mb,eb,cap,m,bb,ab,lb,pb,h1,-⟩:=g
 obtain⟨-,-,-,-,c4,-⟩:=h1.cells
 generalize 6*n*n=N at*
 clear h1
 go_enter func43,ntmps43
 go_wp2
 go_ret
 exact⟨rfl,rfl⟩
theorem tA{n gb:Nat}{w:World}(g:GridOf n gb w):Calls prog 44 #[.pointer (some ⟨gb,0,none⟩)] w fun e w'=>e=.returned (.int .i64 (12*n*n:Nat))/\w'=w:=by
 obtain⟨mb,eb,cap,m,bb,ab,lb,pb,h1,-⟩:=g
 obtain⟨-,c1,-⟩:=h1.cells
 clear h1
 generalize 12*n*n=M at*
 go_enter func44,ntmps44
 go_wp2
 go_ret
 exact⟨rfl,rfl⟩
theorem inR_true{k N:Nat}(h:k<N):inR (k:Int) (N:Int)=true:=by rw[bM];omega
theorem gArea_ok{n gb k:Nat}{w:World}(hn:1<=n/\n<=32)(hk:k<6*n*n)(g:GridOf n gb w):
  Calls prog 45 #[.pointer (some ⟨gb,0,none⟩),.int .i64 k] w fun e w'=>e=.returned (.int .i64 (arI (ArC n k)))/\Below w.heap.size w w':=by
 have E1:=hid (lC g)
 have C1:=hid (fun u=>qI (k:Nat) (6*n*n:Nat) u)
 have hN:=(n12 hn)
 rw[inR_true hk]at C1
 obtain⟨mb,eb,cap,m,bb,ab,lb,pb,h1,-,hr,-⟩:=g
 have c0:=h1.cells.2.2.2.2.1
 have y0:=hr.cell hk
 have lg:=lt_of_block h1.1
 have le:=hr.lt
 clear hr
 generalize arI (ArC n k)=V at*
 have hk2:((6*n*n:Nat):Int)<=12288:=by omega
 generalize 6*n*n=M at*
 have hk1:(k:Int)<M:=by omega
 clear h1 hn hN hk
 go_enter func45,ntmps45
 go_wp2_with (first
  | (go_at_call 43;refine(E1.out).mono ?_;rintro e w' ⟨rfl,hw⟩;have hw2:=hw.symm;subst hw2)
  | (go_at_call 69;refine(C1.out _).mono ?_;rintro e w' ⟨rfl,hw⟩;have hw2:=hw.symm;subst hw2))
 go_ret
 exact⟨rfl,Below.refl _ _⟩
end
section
open Cu
def mm(e:P3)(f s:Nat):P3:=pl e (sc (-1) (wy f s))
def gI(n:Nat)(e:P3)(f s:Nat):Int:=dt (mm e f s) (cR f)+n - 1
def gJ(n:Nat)(e:P3)(f s:Nat):Int:=dt (mm e f s) (cU f)+n - 1
def gd(n:Nat)(e:P3)(f s:Nat):Int:=cN n f ((gI n e f s).tdiv 2) ((gJ n e f s).tdiv 2)
end
section
open Tf
def K2:Nat:=925
end
namespace Ref2
open Go.RowKit Tf
attribute [local go_sem] aF aG aI aJ aK aL aM
def rc(m k:Nat):Int:=if m%2 ^ k=0 then 0 else if 2*(m%2 ^ k)<2 ^ k then 1 else if 2*(m%2 ^ k)=2 ^ k then 2 else 3
end Ref2
namespace Ref2
open Go.RowKit Tf
attribute [local go_sem] aF aG aI aJ aK aL aM
def wk(neg:Bool)(m:Nat):Bool:=if neg then decide (m<=9223372036854775808)else decide (m<9223372036854775808)
def wi(neg:Bool)(m:Nat):Int:=if wk neg m then(if neg then -(m:Int)else(m:Int))else 0
end Ref2
section
open Tf Ieee Cu
def nl(n:Nat)(v:P3):Nat:=lnB (px n v) (py n v) (pz n v)
def a0(n:Nat)(k h:Int):Nat:=ar n (n,k,h) (n,k+2,h) (n,k+2,h+2) (n,k,h+2)
end
section
namespace Ti
def byt(x i:Nat):Nat:=x/256 ^ i%256
def num(b:Nat->Nat)(o:Nat):Nat:=b o+256*b (o+1)+65536*b (o+2)+16777216*b (o+3)
theorem byt_lt(x i:Nat):byt x i<256:=Nat.mod_lt _ (by decide)
def xr(f:Nat->Nat):Nat->Nat
 | 0=>f 0
 | k+1=>f (k+1) ^^^ f k
def head(face n:Nat):Nat->Nat
 | 0=>84
 | 1=>73
 | 2=>76
 | 3=>69
 | 4=>face
 | _=>n
def enc(face n ls ms:Nat)(f:Nat->Nat)(i:Nat):Nat:=
 if i<6 then head face n i else if i<10 then byt ls (i - 6)else if i<14 then byt ms (i - 10)else byt (xr f ((i - 14)/4)) ((i - 14)%4)
def derr(L:Nat)(b:Nat->Nat):Int:=
 if L<14 then 31
 else if¬((b 0=84/\b 1=73/\b 2=76/\b 3=69)/\b 4<=5/\1<=b 5/\b 5<=32)then 30
 else if L<14+4*(b 5*b 5)then 31
 else if 14+4*(b 5*b 5)<L then 3
 else 0
end Ti
end
namespace Sh
def part(x y z:Int):Int:=if x<0\/y<0\/z<=0 then 0 else if 9223372036854775807<x*y/z then 9223372036854775807 else x*y/z
def sumN(f:Nat->Int):Nat->Int
 | 0=>0
 | n+1=>sumN f n+f n
end Sh
section
open Tf Ieee
def fw(n:Int):Nat:=rn false (n*one)
end
section
open Tf
namespace Ss
def btw(x lo hi:Nat):Bool:=(fgt x lo||feq x lo)&&(flt x hi||feq x hi)&&decide (x≠9223372036854775808)
def fp(p:Nat->Bool)(n:Nat):Int:=match(List.range n).find? p with
 | some i=>(i:Int)
 | none=> -1
theorem fF{p:Nat->Bool}{n k:Nat}(h: ∀i,i<k->p i=false)(hk:p k=true)(hn:k<n):fp p n=(k:Nat):=by
 have e:(List.range n).find? p=some k:=by
  rw[List.find?_range_eq_some]
  exact⟨hk,List.mem_range.2 hn,fun j hj=>by rw[h j hj];rfl⟩
 unfold fp
 rw[e]
theorem gA{p:Nat->Bool}{n:Nat}(h: ∀i,i<n->p i=false):fp p n= -1:=by
 have e:(List.range n).find? p=none:=by
  rw[List.find?_eq_none]
  intro x hx
  rw[h x (List.mem_range.1 hx)]
  decide
 unfold fp
 rw[e]
theorem oU(p:Nat->Bool)(n:Nat):(fp p n= -1/\ ∀i,i<n->p i=false)\/ ∃k,k<n/\fp p n=(k:Nat)/\p k=true/\ ∀i,i<k->p i=false:=by
 cases e:(List.range n).find? p with
 | none=>
  refine .inl ⟨by unfold fp;rw[e],fun i hi=> ?_⟩
  have:=List.find?_eq_none.1 e i (List.mem_range.2 hi)
  cases q:p i with
  | false=>rfl
  | true=>exact absurd q this
 | some k=>
  obtain⟨h1,h2,h3⟩:=List.find?_range_eq_some.1 e
  refine .inr ⟨k,List.mem_range.1 h2,by unfold fp;rw[e],h1,fun i hi=> ?_⟩
  have:=h3 i hi
  cases q:p i with
  | false=>rfl
  | true=>rw[q]at this;cases this
theorem fp_ge(p:Nat->Bool)(n:Nat): -1<=fp p n/\fp p n<n:=by
 rcases oU p n with⟨e,_⟩ | ⟨k,hk,e,_⟩<;>omega
theorem jZ{p q:Nat->Bool}{n:Nat}(h: ∀i,i<n->p i=q i):fp p n=fp q n:=by
 rcases oU p n with⟨e,f⟩ | ⟨k,hk,e,f,g⟩
 ·rw[e,gA (fun i hi=>by rw[<- h i hi];exact f i hi)]
 ·rw[e,fF (fun i hi=>by rw[<- h i (by omega)];exact g i hi) (by rw[<- h k hk];exact f) hk]
def bB(B:Nat->Nat)(i:Nat):Bool:= !btw (B i) 13920626448202203136 4697254411347427328
def bS(S:Nat->Nat)(i:Nat):Bool:= !btw (S i) 13875590451928498176 4652218415073722368
def bQ(W:Nat->Int)(th:Int)(i:Nat):Bool:=decide (W i<0)||decide (4503599627370496 - (th+Sh.sumN W i)<W i)
def chN(N:Nat)(lb lw lt ls:Nat)(B:Nat->Nat)(W T:Nat->Int)(S:Nat->Nat)(sky st:Int):Int × Int:=
 if lb≠N then(0,12)else if lw≠N then(1,12)else if lt≠N then(2,12)else if ls≠2*N then(3,12)
 else if 0<=fp (bB B) N then(fp (bB B) N,13)
 else if sky<0\/4503599627370496<sky then(0,17)
 else if 0<=fp (bQ W sky) N then(fp (bQ W sky) N,14)
 else if 0<=fp (bQ T 0) N then(fp (bQ T 0) N,15)
 else if 0<=fp (bS S) (2*N)then(fp (bS S) (2*N),16)
 else if st<0\/4611686018427387904<st then(0,1)else(0,0)
def chk(side:Int)(lb lw lt ls:Nat)(B:Nat->Nat)(W T:Nat->Int)(S:Nat->Nat)(sky st:Int):Int × Int:=
 if 1<=side/\side<=32 then chN (6*side.toNat*side.toNat) lb lw lt ls B W T S sky st else(0,10)
end Ss
end
section
open Tf
namespace Sv
def lob(b:Nat->Nat)(o:Nat):Nat->Nat
 | 0=>0
 | k+1=>lob b o k+b (o+k)*256 ^ k
def num(b:Nat->Nat)(o:Nat):Nat:=lob b o 8
theorem p8:256 ^ 8=18446744073709551616:=by decide
theorem lob_lt{b:Nat->Nat}{o:Nat}(k:Nat)(h: ∀i,b i<256):lob b o k<256 ^ k:=by
 induction k with
 | zero=>exact Nat.one_pos
 | succ k ih=>
  have e:256 ^ (k+1)=256 ^ k*256:=Nat.pow_succ 256 k
  have m:b (o+k)*256 ^ k<=255*256 ^ k:=Nat.mul_le_mul_right _ (by have:=h (o+k);omega)
  show lob b o k+b (o+k)*256 ^ k<_
  rw[e]
  omega
theorem fG{b:Nat->Nat}{o:Nat}(h: ∀i,b i<256):num b o<18446744073709551616:=by
 have:=lob_lt (o:=o) 8 h
 rw[p8]at this
 exact this
theorem lob_byt{b:Nat->Nat}{o x:Nat}(k:Nat)(h: ∀i,i<k->b (o+i)=Ti.byt x i):lob b o k=x%256 ^ k:=by
 induction k with
 | zero=>show 0=x%1;rw[Nat.mod_one]
 | succ k ih=>
  show lob b o k+b (o+k)*256 ^ k=_
  rw[ih (fun i hi=>h i (by omega)),h k (by omega),Nat.mod_pow_succ,Nat.mul_comm (Ti.byt x k)]
  rfl
theorem num_byt{b:Nat->Nat}{o x:Nat}(hx:x<18446744073709551616)(h: ∀i,i<8->b (o+i)=Ti.byt x i):num b o=x:=by
 have e:=lob_byt (b:=b) (o:=o) (x:=x) 8 h
 rw[p8,Nat.mod_eq_of_lt hx]at e
 exact e
theorem lD{b c:Nat->Nat}{o:Nat}(k:Nat)(h: ∀i,i<k->b (o+i)=c (o+i)):lob b o k=lob c o k:=by
 induction k with
 | zero=>rfl
 | succ k ih=>
  show lob b o k+b (o+k)*256 ^ k=lob c o k+c (o+k)*256 ^ k
  rw[ih (fun i hi=>h i (by omega)),h k (by omega)]
theorem lF{b c:Nat->Nat}{o:Nat}(h: ∀i,i<8->b (o+i)=c (o+i)):num b o=num c o:=lD 8 h
def u64(x:Int):Nat:=(x%18446744073709551616).toNat
def i64(x:Nat):Int:=if x<9223372036854775808 then x else(x:Int) - 18446744073709551616
theorem mQ(x:Int):u64 x<18446744073709551616:=by
 unfold u64
 omega
theorem iU{x:Int}(h: -9223372036854775808<=x/\x<=9223372036854775807):i64 (u64 x)=x:=by
 unfold i64 u64
 split<;>omega
theorem dU{x:Nat}(h:x<18446744073709551616): -9223372036854775808<=i64 x/\i64 x<=9223372036854775807:=by
 unfold i64
 split<;>omega
def smN(b:Nat->Nat):Nat->Nat
 | 0=>14695981039346656037
 | n+1=>(smN b n ^^^ b n)*1099511628211%18446744073709551616
theorem qJ(b:Nat->Nat)(n:Nat):smN b n<18446744073709551616:=by
 cases n with
 | zero=>show 14695981039346656037<_;omega
 | succ n=>exact Nat.mod_lt _ (by omega)
theorem eV{b c:Nat->Nat}(n:Nat)(h: ∀i,i<n->b i=c i):smN b n=smN c n:=by
 induction n with
 | zero=>rfl
 | succ n ih=>
  show(smN b n ^^^ b n)*1099511628211%18446744073709551616=(smN c n ^^^ c n)*1099511628211%18446744073709551616
  rw[ih (fun i hi=>h i (by omega)),h n (by omega)]
theorem xor_lt64{a b:Nat}(ha:a<18446744073709551616)(hb:b<256):a ^^^ b<18446744073709551616:=Nat.xor_lt_two_pow (n:=64) ha (Nat.lt_trans hb (by decide))
def hd(side:Nat):Nat->Nat
 | 0=>84
 | 1=>65
 | 2=>82
 | 3=>78
 | _=>side
def pre(side:Nat)(ws:Nat->Nat)(i:Nat):Nat:=if i<5 then hd side i else Ti.byt (ws ((i - 5)/8)) ((i - 5)%8)
def wds(N:Nat)(B:Nat->Nat)(W T:Nat->Int)(S:Nat->Nat)(sky st:Int)(j:Nat):Nat:=
 if j=0 then u64 st else if j=1 then u64 sky else if j<2+N then B (j - 2)else if j<2+2*N then u64 (W (j - 2 - N))else if j<2+3*N then u64 (T (j - 2 - 2*N))else S (j - 2 - 3*N)
def wdA(side N:Nat)(B:Nat->Nat)(W T:Nat->Int)(S:Nat->Nat)(sky st:Int)(j:Nat):Nat:=
 if j<2+5*N then wds N B W T S sky st j else smN (pre side (wds N B W T S sky st)) (21+40*N)
def enc(side N:Nat)(B:Nat->Nat)(W T:Nat->Int)(S:Nat->Nat)(sky st:Int)(i:Nat):Nat:=pre side (wdA side N B W T S sky st) i
theorem pre_lt{side:Nat}{ws:Nat->Nat}{i:Nat}(h:side<256):pre side ws i<256:=by
 unfold pre
 split
 ·unfold hd
  split<;>omega
 ·exact Ti.byt_lt _ _
theorem qK{side N:Nat}{B:Nat->Nat}{W T:Nat->Int}{S:Nat->Nat}{sky st:Int}{i:Nat}(h:side<256):enc side N B W T S sky st i<256:=pre_lt h
theorem oV{side:Nat}{ws:Nat->Nat}{j i:Nat}(hi:i<8):pre side ws (5+8*j+i)=Ti.byt (ws j) i:=by
 unfold pre
 rw[if_neg (by omega),show(5+8*j+i - 5)/8=j by omega,show(5+8*j+i - 5)%8=i by omega]
theorem num_pre{side:Nat}{ws:Nat->Nat}{j:Nat}(h:ws j<18446744073709551616):num (pre side ws) (5+8*j)=ws j:=num_byt h fun _ hi=>oV hi
theorem tB{side:Nat}{ws vs:Nat->Nat}{i n:Nat}(h: ∀j,j<n->ws j=vs j)(hi:i<5+8*n):pre side ws i=pre side vs i:=by
 unfold pre
 split
 ·rfl
 ·rw[h _ (by omega)]
theorem rQ{side N:Nat}{B:Nat->Nat}{W T:Nat->Int}{S:Nat->Nat}{sky st:Int}{i:Nat}(hi:i<21+40*N):enc side N B W T S sky st i=pre side (wds N B W T S sky st) i:=
 tB (n:=2+5*N) (fun j hj=>by unfold wdA;rw[if_pos hj]) (by omega)
theorem enc_sum{side N:Nat}{B:Nat->Nat}{W T:Nat->Int}{S:Nat->Nat}{sky st:Int}:smN (enc side N B W T S sky st) (21+40*N)=smN (pre side (wds N B W T S sky st)) (21+40*N):=eV _ fun _ hi=>rQ hi
def In64(N:Nat)(B:Nat->Nat)(W T:Nat->Int)(S:Nat->Nat)(sky st:Int):Prop:=
 (∀i,i<N->B i<18446744073709551616)/\(∀i,i<N-> -9223372036854775808<=W i/\W i<=9223372036854775807)/\(∀i,i<N-> -9223372036854775808<=T i/\T i<=9223372036854775807)/\(∀i,i<2*N->S i<18446744073709551616)/\(-9223372036854775808<=sky/\sky<=9223372036854775807)/\(-9223372036854775808<=st/\st<=9223372036854775807)
theorem wdA_lt{side N:Nat}{B:Nat->Nat}{W T:Nat->Int}{S:Nat->Nat}{sky st:Int}(h:In64 N B W T S sky st){j:Nat}(_hj:j<3+5*N):wdA side N B W T S sky st j<18446744073709551616:=by
 unfold wdA
 split
 ·unfold wds
  split
  ·exact mQ _
  ·split
   ·exact mQ _
   ·split
    ·exact h.1 _ (by omega)
    ·split
     ·exact mQ _
     ·split
      ·exact mQ _
      ·exact h.2.2.2.1 _ (by omega)
 ·exact qJ _ _
def dB(b:Nat->Nat)(k:Nat):Nat:=num b (21+8*k)
def dW(N:Nat)(b:Nat->Nat)(k:Nat):Int:=i64 (num b (21+8*N+8*k))
def dT(N:Nat)(b:Nat->Nat)(k:Nat):Int:=i64 (num b (21+16*N+8*k))
def dS(N:Nat)(b:Nat->Nat)(k:Nat):Nat:=num b (21+24*N+8*k)
theorem num_enc{side N:Nat}{B:Nat->Nat}{W T:Nat->Int}{S:Nat->Nat}{sky st:Int}{b:Nat->Nat}(h:In64 N B W T S sky st)(hb: ∀i,i<29+40*N->b i=enc side N B W T S sky st i){j:Nat}(hj:j<3+5*N):num b (5+8*j)=wdA side N B W T S sky st j:=by
 rw[lF (c:=enc side N B W T S sky st) fun i hi=>hb _ (by omega)]
 exact num_pre (wdA_lt h hj)
theorem rR{side N:Nat}{B:Nat->Nat}{W T:Nat->Int}{S:Nat->Nat}{sky st:Int}{b:Nat->Nat}(h:In64 N B W T S sky st)(hb: ∀i,i<29+40*N->b i=enc side N B W T S sky st i):
  i64 (num b 5)=st/\i64 (num b 13)=sky/\(∀k,k<N->dB b k=B k)/\(∀k,k<N->dW N b k=W k)/\(∀k,k<N->dT N b k=T k)/\(∀k,k<2*N->dS N b k=S k)/\num b (21+40*N)=smN b (21+40*N):=by
 have q:=fun j (hj:j<3+5*N)=>num_enc h hb hj
 have w: ∀j,j<2+5*N->wdA side N B W T S sky st j=wds N B W T S sky st j:=fun j hj=>by unfold wdA;rw[if_pos hj]
 refine⟨?_,?_,fun k hk=> ?_,fun k hk=> ?_,fun k hk=> ?_,fun k hk=> ?_,?_⟩
 ·rw[show(5:Nat)=5+8*0 from rfl,q 0 (by omega),w 0 (by omega)]
  exact iU h.2.2.2.2.2
 ·rw[show(13:Nat)=5+8*1 from rfl,q 1 (by omega),w 1 (by omega)]
  exact iU h.2.2.2.2.1
 ·unfold dB
  rw[show 21+8*k=5+8*(2+k)by omega,q _ (by omega),w _ (by omega)]
  unfold wds
  rw[if_neg (by omega),if_neg (by omega),if_pos (by omega),show 2+k - 2=k by omega]
 ·unfold dW
  rw[show 21+8*N+8*k=5+8*(2+N+k)by omega,q _ (by omega),w _ (by omega)]
  unfold wds
  rw[if_neg (by omega),if_neg (by omega),if_neg (by omega),if_pos (by omega),show 2+N+k - 2 - N=k by omega]
  exact iU (h.2.1 k hk)
 ·unfold dT
  rw[show 21+16*N+8*k=5+8*(2+2*N+k)by omega,q _ (by omega),w _ (by omega)]
  unfold wds
  rw[if_neg (by omega),if_neg (by omega),if_neg (by omega),if_neg (by omega),if_pos (by omega),show 2+2*N+k - 2 - 2*N=k by omega]
  exact iU (h.2.2.1 k hk)
 ·unfold dS
  rw[show 21+24*N+8*k=5+8*(2+3*N+k)by omega,q _ (by omega),w _ (by omega)]
  unfold wds
  rw[if_neg (by omega),if_neg (by omega),if_neg (by omega),if_neg (by omega),if_neg (by omega),show 2+3*N+k - 2 - 3*N=k by omega]
 ·rw[show 21+40*N=5+8*(2+5*N)by omega,q _ (by omega)]
  unfold wdA
  rw[if_neg (by omega),eV (b:=b) (c:=enc side N B W T S sky st) _ (fun i hi=>hb i (by omega)),show 5+8*(2+5*N)=21+40*N by omega,enc_sum]
def derr(L:Nat)(b:Nat->Nat):Int:=
 if L<21 then 31
 else if¬((b 0=84/\b 1=65/\b 2=82/\b 3=78)/\1<=b 4/\b 4<=32)then 30
 else if L<29+40*(6*b 4*b 4)then 31
 else if 29+40*(6*b 4*b 4)<L then 30
 else if num b (21+40*(6*b 4*b 4))≠smN b (21+40*(6*b 4*b 4))then 32
 else(Ss.chN (6*b 4*b 4) (6*b 4*b 4) (6*b 4*b 4) (6*b 4*b 4) (2*(6*b 4*b 4)) (dB b) (dW (6*b 4*b 4) b) (dT (6*b 4*b 4) b) (dS (6*b 4*b 4) b) (i64 (num b 13)) (i64 (num b 5))).2
end Sv
end
section
open Tf
namespace Sv
theorem tC{f g:Nat->Int}(n:Nat)(h: ∀i,i<n->f i=g i):Sh.sumN f n=Sh.sumN g n:=by
 induction n with
 | zero=>rfl
 | succ n ih=>
  show Sh.sumN f n+f n=Sh.sumN g n+g n
  rw[ih (fun i hi=>h i (by omega)),h n (by omega)]
theorem tD{N:Nat}{B B':Nat->Nat}{W W' T T':Nat->Int}{S S':Nat->Nat}{sky st:Int}(hB: ∀i,i<N->B i=B' i)(hW: ∀i,i<N->W i=W' i)(hT: ∀i,i<N->T i=T' i)(hS: ∀i,i<2*N->S i=S' i):
  Ss.chN N N N N (2*N) B W T S sky st=Ss.chN N N N N (2*N) B' W' T' S' sky st:=by
 have b:Ss.fp (Ss.bB B) N=Ss.fp (Ss.bB B') N:=Ss.jZ fun i hi=>by unfold Ss.bB;rw[hB i hi]
 have s:Ss.fp (Ss.bS S) (2*N)=Ss.fp (Ss.bS S') (2*N):=Ss.jZ fun i hi=>by unfold Ss.bS;rw[hS i hi]
 have q: ∀(f g:Nat->Int) (th:Int),(∀i,i<N->f i=g i)->Ss.fp (Ss.bQ f th) N=Ss.fp (Ss.bQ g th) N:=fun f g th h=>Ss.jZ fun i hi=>by
  unfold Ss.bQ
  rw[h i hi,tC i (fun j hj=>h j (by omega))]
 unfold Ss.chN
 rw[b,s,q W W' sky hW,q T T' 0 hT]
theorem enc_hd{side N:Nat}{B:Nat->Nat}{W T:Nat->Int}{S:Nat->Nat}{sky st:Int}:enc side N B W T S sky st 0=84/\enc side N B W T S sky st 1=65/\enc side N B W T S sky st 2=82/\enc side N B W T S sky st 3=78/\enc side N B W T S sky st 4=side:=⟨rfl,rfl,rfl,rfl,rfl⟩
theorem derr_enc{n N:Nat}{B:Nat->Nat}{W T:Nat->Int}{S:Nat->Nat}{sky st:Int}{b:Nat->Nat}(hn:1<=n/\n<=32)(hN:6*n*n=N)(h:In64 N B W T S sky st)(hb: ∀i,i<29+40*N->b i=enc n N B W T S sky st i):
  derr (29+40*N) b=(Ss.chN N N N N (2*N) B W T S sky st).2:=by
 obtain⟨d1,d2,d3,d4,d5,d6,d7⟩:=rR h hb
 obtain⟨e0,e1,e2,e3,e4⟩:=enc_hd (side:=n) (N:=N) (B:=B) (W:=W) (T:=T) (S:=S) (sky:=sky) (st:=st)
 have b4:b 4=n:=(hb 4 (by omega)).trans e4
 unfold derr
 rw[if_neg (by omega),if_neg (fun q=>q ⟨⟨(hb 0 (by omega)).trans e0,(hb 1 (by omega)).trans e1,(hb 2 (by omega)).trans e2,(hb 3 (by omega)).trans e3⟩,by omega,by omega⟩),b4,hN,if_neg (by omega),if_neg (by omega),if_neg (fun q=>q d7),d1,d2,tD d3 d4 d5 d6]
theorem derr_0{L:Nat}{b:Nat->Nat}(h:derr L b=0):(b 0=84/\b 1=65/\b 2=82/\b 3=78)/\(1<=b 4/\b 4<=32)/\L=29+40*(6*b 4*b 4)/\num b (21+40*(6*b 4*b 4))=smN b (21+40*(6*b 4*b 4))/\(Ss.chN (6*b 4*b 4) (6*b 4*b 4) (6*b 4*b 4) (6*b 4*b 4) (2*(6*b 4*b 4)) (dB b) (dW (6*b 4*b 4) b) (dT (6*b 4*b 4) b) (dS (6*b 4*b 4) b) (i64 (num b 13)) (i64 (num b 5))).2=0:=by
 unfold derr at h
 split at h
 ·omega
 ·split at h
  ·omega
  ·rename_i h2
   have h2:=Decidable.of_not_not h2
   split at h
   ·omega
   ·split at h
    ·omega
    ·split at h
     ·omega
     ·rename_i h5
      exact⟨h2.1,h2.2,by omega,Decidable.of_not_not h5,h⟩
theorem dec_in{N:Nat}{b:Nat->Nat}(hb: ∀i,b i<256):In64 N (dB b) (dW N b) (dT N b) (dS N b) (i64 (num b 13)) (i64 (num b 5)):=
 ⟨fun _ _=>fG hb,fun _ _=>dU (fG hb),fun _ _=>dU (fG hb),fun _ _=>fG hb,dU (fG hb),dU (fG hb)⟩
end Sv
end
section
open Go.ChangeShapes Go.WideShapes Go.ChangeAt Go.WideMaps Go.WideElems Go.RowKit Go.Deep
def IsIn(w:World)(a0:Option Addr)(len:Nat)(xs:Nat->Int):Prop:= ∀k,k<len->(-9223372036854775808<=xs k/\xs k<=9223372036854775807)/\ ∃b o,a0=some ⟨b,o,none⟩/\b<w.heap.size/\w.cell? ⟨b,o+k,none⟩=some (.int .i64 (xs k))
theorem tE(b off j:Nat):(⟨b,off,none⟩:Addr).add j=⟨b,off+j,none⟩:=by
 by_cases c:j=0
 ·subst c;simp[Addr.add]
 ·simp[Addr.add,c]
end
section
open Go.RowKit Go.Deep
theorem size1(W:World)(A:Obj):(W.alloc A).heap.size=W.heap.size+1:=by
 show(W.heap.push A).size=_
 simp
theorem dK{v:World}{g n:Nat}{z:Value}{T:TypeId}(h:v.heap[g]? =some (Obj.cells (madeCells #[z] n) T)):v.rowIs g T n (fun _=>z):=by
 have e:=World.rowIs_made v z n T
 have l:=heap_alloc_new v (Obj.cells (madeCells #[z] n) T)
 obtain⟨c,h1,h2⟩:=e
 rw[l]at h1
 exact⟨c,h.trans h1,h2⟩
theorem gZ{w:World}{g:Nat}{a b c d e f x y z p q r:Value}{T:TypeId}(h:w.heap[g]? =some (.cells #[a,b,c,d,e,f] T)):
  ((((((w.setCell ⟨g,0,none⟩ x).setCell ⟨g,1,none⟩ y).setCell ⟨g,2,none⟩ z).setCell ⟨g,3,none⟩ p).setCell ⟨g,4,none⟩ q).setCell ⟨g,5,none⟩ r).heap[g]? =some (.cells #[x,y,z,p,q,r] T):=by
 have h1:=aN (v:=x) (k:=0) h
 have h2:=aN (v:=y) (k:=1) h1
 have h3:=aN (v:=z) (k:=2) h2
 have h4:=aN (v:=p) (k:=3) h3
 have h5:=aN (v:=q) (k:=4) h4
 have h6:=aN (v:=r) (k:=5) h5
 simpa using h6
theorem bH{v:World}{b k g:Nat}{x:Value}(h:g≠b):(v.setCell ⟨b,k,none⟩ x).heap[g]? =v.heap[g]? :=blk_setCell_other _ _ _ _ h
end
section
open Go.RowKit
def backB(md:Region.Mode)(ops:Array Oper)(n:Nat):Bool:=
 (List.range n).all fun i=>match ops[i]? with
  | some o=>o.after.all (fun e=> !Region.binds md e||decide (e.on<i))&&(match o.guard with | none=>true | some (j,_)=>decide (j<n))
  | none=>true
def finA(m n:Nat):Array Bool:=Array.replicate n true++Array.replicate (m - n) false
theorem eX{md:Region.Mode}{ops:Array Oper}{n:Nat}(h:backB md ops n=true){i:Nat}{o:Oper}(hi:i<n)(ho:ops[i]? =some o):
  (∀e ∈ o.after,Region.binds md e=true->e.on<i)/\(∀j b,o.guard=some (j,b)->j<n):=by
 have a:=List.all_eq_true.1 h i (List.mem_range.2 hi)
 simp only[ho,Bool.and_eq_true]at a
 refine⟨fun e he hb=> ?_,fun j b hg=> ?_⟩
 ·have:=Array.all_eq_true_iff_forall_mem.1 a.1 e he
  simpa [hb]using this
 ·have:=a.2
  rw[hg]at this
  simpa using this
theorem mR{l:Array Bool}{i:Nat}(h:i<l.size)(d d':Bool):l.getD i d=l.getD i d':=by simp[h]
theorem fH{P:Program}{md:Region.Mode}{ops:Array Oper}{Q:Exit->Act->World->Prop}: ∀(g k:Nat) (listed:Array Bool) (a:Act) (w:World),wpAny P md ops Q g listed a w->wpAny P md ops Q (g+k) listed a w
 | 0,0,_,_,_,h=>h
 | 0,k+1,listed,a,w,h=>by
  rw[Nat.zero_add]
  exact⟨fun _=>h.2,fun i hi=>by rw[h.1]at hi;cases hi⟩
 | g+1,k,listed,a,w,h=>by
  rw[show g+1+k=(g+k)+1 by omega]
  exact⟨h.1,fun i hi=>wpOp_mono (fun a' w' h'=>fH g k _ a' w' h') (h.2 i hi)⟩
section
variable {P:Program} {md:Region.Mode} {ops hd:Array Oper} {C:World->Prop} {n:Nat}
theorem dV(hhd: ∀i,i<n->hd[i]? =ops[i]?)(hb:backB md ops n=true){listed lh:Array Bool}(hl:lh.size=n)(hls:n<=listed.size)(he: ∀i,i<n->lh.getD i true=listed.getD i true){i:Nat}(hi:i<n):
  i ∈ Region.ready md hd lh ↔ i ∈ Region.ready md ops listed:=by
 rw[mem_ready,mem_ready,he i hi,hhd i hi]
 refine and_congr Iff.rfl (exists_congr fun o=>and_congr_right fun ho=>forall_congr' fun e=>forall_congr' fun hm=>forall_congr' fun hbd=> ?_)
 have lt:=(eX hb hi ho).1 e hm hbd
 rw[mR (d:=false) (d':=true) (by omega),mR (l:=listed) (d:=false) (d':=true) (by omega),he _ (by omega)]
theorem dX(hsz:n<=ops.size)(hb:backB md ops n=true){listed:Array Bool}(hls:n<=listed.size):
  (∀i,i<n->listed.getD i true=true)\/ ∃i,i<n/\i ∈ Region.ready md ops listed:=by
 have key: ∀k,k<=n->(∀i,i<k->listed.getD i true=true)\/ ∃i,i<n/\i ∈ Region.ready md ops listed:=by
  intro k
  induction k with
  | zero=>exact fun _=>.inl (fun i hi=>by omega)
  | succ k ih=>
   intro hk
   rcases ih (by omega)with h | h
   ·cases c:listed.getD k true
    ·right
     refine⟨k,by omega,mem_ready.2 ⟨c,ops[k]'(by omega),by simp,fun e he hbd=> ?_⟩⟩
     have lt:=(eX hb (i:=k) (o:=ops[k]'(by omega)) (by omega) (by simp)).1 e he hbd
     rw[mR (d:=false) (d':=true) (by omega)]
     exact h _ lt
    ·left
     intro i hi
     by_cases e:i=k
     ·rw[e];exact c
     ·exact h i (by omega)
   ·exact .inr h
 exact key n (Nat.le_refl _)
theorem qOp_head(hhd: ∀i,i<n->hd[i]? =ops[i]?)(hb:backB md ops n=true){i:Nat}(hi:i<n){K:Act->Prop}{a:Act}(h:qOp P hd C i K a):qOp P ops C i K a:=by
 unfold qOp at*
 rw[hhd i hi]at h
 cases ho:ops[i]? with
 | none=>rw[ho]at h;exact h
 | some o=>
  rw[ho]at h
  have e:Region.wanted o (yielded hd a.tmps)=Region.wanted o (yielded ops a.tmps):=by
   unfold Region.wanted
   cases hg:o.guard with
   | none=>rfl
   | some jb=>
    obtain⟨j,b⟩:=jb
    have lt:=(eX hb hi ho).2 j b hg
    show(yielded hd a.tmps j==some b)=(yielded ops a.tmps j==some b)
    unfold yielded
    rw[hhd j lt]
  simp only[e]at h
  exact h
theorem mS{listed:Array Bool}(hn:n<ops.size)(inv:HeadInv md ops n listed)(h: ∀i,i<n->listed.getD i true=true):listed=finA ops.size n:=by
 have s:=inv.size
 unfold finA
 refine Array.ext (by simp;omega) fun i h1 h2=> ?_
 by_cases c:i<n
 ·have:=h i c
  rw[Array.getElem_append_left (by simpa using c)]
  simp[h1]at this
  simpa using this
 ·have:=inv.tail i (by omega) (by omega)
  rw[Array.getElem_append_right (by simp;omega)]
  simp[h1]at this
  simpa using this
theorem kA{g:Nat}{Q1:Act->Prop}{Q':Exit->Act->World->Prop}(hhd: ∀i,i<n->hd[i]? =ops[i]?)(hsz:hd.size=n)(hn:n<ops.size)(hb:backB md ops n=true)(hs:Region.sinkB md ops n=true)(hc:Region.chainB md ops n=true)
  (hL: ∀a w,C w->Q1 a->wpAny P md ops Q' g (finA ops.size n) a w):
  ∀(fuel:Nat) (listed lh:Array Bool) (a:Act) (w:World),C w->HeadInv md ops n listed->lh.size=n->(∀i,i<n->lh.getD i true=listed.getD i true)->
   wpAnyQ P md hd C Q1 fuel lh a->wpAny P md ops Q' (fuel+g) listed a w:=by
 intro fuel
 induction fuel with
 | zero=>
  intro listed lh a w hC inv hl he h
  have hls:n<=listed.size:=by rw[inv.size];omega
  rcases dX (by omega) hb hls with all | ⟨i,hi,hr⟩
  ·rw[Nat.zero_add,mS hn inv all]
   exact hL a w hC h.2
  ·have:=(dV hhd hb hl hls he hi).2 hr
   rw[h.1]at this
   cases this
 | succ fuel ih=>
  intro listed lh a w hC inv hl he h
  have hls:n<=listed.size:=by rw[inv.size];omega
  rcases dX (by omega) hb hls with all | ⟨i0,hi0,hr0⟩
  ·have no:Region.ready md hd lh=[]:=by
    rw[List.eq_nil_iff_forall_not_mem]
    intro i hi
    obtain⟨u,o,ho,_⟩:=mem_ready.1 hi
    have lt:i<n:=by rw[<- hsz];exact(Array.getElem?_eq_some_iff.1 ho).1
    rw[he i lt,all i lt]at u
    cases u
   rw[Nat.add_comm (fuel+1) g,mS hn inv all]
   exact fH g (fuel+1) _ a w (hL a w hC (h.1 no))
  ·rw[show fuel+1+g=(fuel+g)+1 by omega]
   refine⟨fun h0=>(by rw[h0]at hr0;cases hr0),fun i hi=> ?_⟩
   have lt:i<n:=by
    by_cases c:i<n
    ·exact c
    ·exact absurd hi (tail_waits hs hc hn inv _ i0 rfl hi0 (mem_ready.1 hr0).1 i (by omega))
   have hq:=qOp_head hhd hb lt (h.2 i ((dV hhd hb hl hls he lt).2 hi))
   refine wpOp_of_qOp hC (fun a' w' hC' h'=>ih _ _ a' w' hC' (inv.set hi lt) (by simp[hl]) (fun j hj=> ?_) h') hq
   by_cases e:i=j
   ·subst e
    simp[hl,lt,show i<listed.size by omega]
   ·rw[getD_set_ne true e,getD_set_ne true e,he j hj]
end
def tailB(ops:Array Oper)(n:Nat):Bool:=
 decide (n<ops.size)&&backB .any ops n&&Region.sinkB .any ops n&&Region.chainB .any ops n&&Region.seqB .any ops (ops.size - n) n (finA ops.size n)
theorem iH{P:Program}{id:Nat}{Q:Exit->Act->World->Prop}{a:Act}{w:World}{l:List Oper}{U:Type}(n:Nat)(F:U->World)(hm:P.follows .mixedOrders=true)(hB:Region.lexB .any (l.take n).toArray=true)(hT:tailB l.toArray n=true)
  (hC: ∃u,w.drew=F u)
  (h:wpQuiet P (l.take n).toArray (fun w'=> ∃u,w'=F u) (fun a'=> ∀w',(∃u,w'=F u)->wpList P l.toArray Q (l.drop n) a' w') (l.take n) a):(Code.region id l.toArray true).wp P Q a w:=by
 simp only[tailB,Bool.and_eq_true,decide_eq_true_eq]at hT
 obtain⟨⟨⟨⟨hn,hb⟩,hs⟩,hc⟩,hq⟩:=hT
 have hn':n<l.length:=by simpa using hn
 have htl:(l.take n).toArray.size=n:=by simp;omega
 have hdl:(l.drop n).length=l.toArray.size - n:=by simp
 refine wp_region_any hm ?_
 simp only[Region.lexB,Bool.and_eq_true]at hB
 have H:=wpAnyQ_lex (P:=P) (C:=fun w'=> ∃u,w'=F u) (md:=.any) hB.1 (l.take n) 0 (Array.replicate (l.take n).toArray.size false) a (by simp) (by simpa using hB.2) h
 have inv0:HeadInv .any l.toArray n (Array.replicate l.toArray.size false):=
  ⟨by simp,fun j oj _ hl=>(by rw[getD_replicate_false]at hl;cases hl),fun t _ ht=>getD_in (by simpa using ht) (getD_replicate_false _ _)⟩
 have:=kA (P:=P) (Q':=Q) (g:=l.toArray.size - n) (hd:=(l.take n).toArray) (ops:=l.toArray) (fun i hi=>by simp[hi]) htl hn hb hs hc
  (fun a' w' hC' h'=>by
   have:=wpAny_of_seq (P:=P) (md:=.any) (ops:=l.toArray) (Q':=Q) (l.drop n) n (finA l.toArray.size n) a' w' (fun j=>by simp) (by rw[hdl];exact hq) (h' w' hC')
   rwa [hdl]at this)
  (l.take n).length _ _ a w.drew hC inv0 (by simpa using htl) (fun i hi=>by
   rw[getD_in (listed:=Array.replicate l.toArray.size false) (by simp;omega) (getD_replicate_false _ _)]
   exact getD_in (by rw[Array.size_replicate];omega) (getD_replicate_false _ _)) H
 have e:(l.take n).length+(l.toArray.size - n)=l.toArray.size:=by simp;omega
 rw[e]at this
 exact this
end
end Go.Proofs.YtlmfpikhlcnjjaaGreatDoor
