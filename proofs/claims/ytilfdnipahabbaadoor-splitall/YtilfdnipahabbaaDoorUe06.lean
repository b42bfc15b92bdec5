/-
  Some of the texts of this proof, one behind the other.
-/
import Derived.Test.YtilfdnipahabbaaDoorUe05
set_option maxRecDepth 100000
set_option maxHeartbeats 400000000
namespace Go.Proofs.YtilfdnipahabbaaDoor
open _root_.Go.Proofs.Tryd
section
open Go.RowKit Cu
theorem A3.set0{W w:World}{g:Nat}(a:A3 W g w)(k:Nat)(v:Value):A3 W g (w.setCell ⟨g,k,none⟩ v):=a.set 0 (by omega) k v
theorem A3.set1{W w:World}{g:Nat}(a:A3 W g w)(k:Nat)(v:Value):A3 W g (w.setCell ⟨g+1,k,none⟩ v):=a.set 1 (by omega) k v
theorem A3.set2{W w:World}{g:Nat}(a:A3 W g w)(k:Nat)(v:Value):A3 W g (w.setCell ⟨g+1+1,k,none⟩ v):=a.set 2 (by omega) k v
theorem nZ{W w:World}{g:Nat}{x0 x1 x2 y0 y1 y2 z0 z1 z2:Value}(a:A3 W g w):
  let v:=((((((((w.setCell ⟨g,0,none⟩ x0).setCell ⟨g,1,none⟩ x1).setCell ⟨g,2,none⟩ x2).setCell ⟨g+1,0,none⟩ y0).setCell ⟨g+1,1,none⟩ y1).setCell ⟨g+1,2,none⟩ y2).setCell ⟨g+1+1,0,none⟩ z0).setCell ⟨g+1+1,1,none⟩ z1).setCell ⟨g+1+1,2,none⟩ z2
  v.heap[g]? =some (.cells #[x0,x1,x2] 92)/\v.heap[g+1]? =some (.cells #[y0,y1,y2] 92)/\v.heap[g+1+1]? =some (.cells #[z0,z1,z2] 92)/\A3 W g v:=by
 obtain⟨a0,b0,c0,h0⟩:=a.2 0 (by omega)
 obtain⟨a1,b1,c1,h1⟩:=a.2 1 (by omega)
 obtain⟨a2,b2,c2,h2⟩:=a.2 2 (by omega)
 have n01:g≠g+1:=by omega
 have n02:g≠g+1+1:=by omega
 have n10:g+1≠g:=by omega
 have n12:g+1≠g+1+1:=by omega
 have n20:g+1+1≠g:=by omega
 have n21:g+1+1≠g+1:=by omega
 refine⟨?_,?_,?_,((((((((a.set0 _ _).set0 _ _).set0 _ _).set1 _ _).set1 _ _).set1 _ _).set2 _ _).set2 _ _).set2 _ _⟩
 ·exact(Below.heap_setCell _ _ _ _ n02).trans ((Below.heap_setCell _ _ _ _ n02).trans ((Below.heap_setCell _ _ _ _ n02).trans ((Below.heap_setCell _ _ _ _ n01).trans ((Below.heap_setCell _ _ _ _ n01).trans ((Below.heap_setCell _ _ _ _ n01).trans (dJ h0))))))
 ·exact(Below.heap_setCell _ _ _ _ n12).trans ((Below.heap_setCell _ _ _ _ n12).trans ((Below.heap_setCell _ _ _ _ n12).trans (dJ ((Below.heap_setCell _ _ _ _ n10).trans ((Below.heap_setCell _ _ _ _ n10).trans ((Below.heap_setCell _ _ _ _ n10).trans h1))))))
 ·exact dJ ((Below.heap_setCell _ _ _ _ n21).trans ((Below.heap_setCell _ _ _ _ n21).trans ((Below.heap_setCell _ _ _ _ n21).trans ((Below.heap_setCell _ _ _ _ n20).trans ((Below.heap_setCell _ _ _ _ n20).trans ((Below.heap_setCell _ _ _ _ n20).trans h2))))))
theorem rframe0(w:World):Calls prog 47 #[.int .i64 0] w fun e w'=>e=.returned (.tuple #[.agg #[.int .i64 (cC 0).1,.int .i64 (cC 0).2.1,.int .i64 (cC 0).2.2],.agg #[.int .i64 (cR 0).1,.int .i64 (cR 0).2.1,.int .i64 (cR 0).2.2],.agg #[.int .i64 (cU 0).1,.int .i64 (cU 0).2.1,.int .i64 (cU 0).2.2]])/\Below w.heap.size w w':=by
 go_enter func47,ntmps47
 go_upto_region 7 with fail
 go_region
 go_wp2
 refine bodyPost_ret ?_ rfl ⟨rfl,?_⟩
 ·exact bK results47 _ _ w.heap.size (w.heap.size+1) (w.heap.size+1+1) 92 #[.int .i64 1,.int .i64 0,.int .i64 0] #[.int .i64 0,.int .i64 1,.int .i64 0] #[.int .i64 0,.int .i64 0,.int .i64 1] _ rfl rfl rfl (by rw[dN];repeat(first | exact aJ _ _ _ (by first | (simp;done) | (simp;omega)) | rw[Below.heap_alloc _ _ _ (by first | (simp;done) | (simp;omega))])) (by rw[dN];repeat(first | exact aJ _ _ _ (by first | (simp;done) | (simp;omega)) | rw[Below.heap_alloc _ _ _ (by first | (simp;done) | (simp;omega))])) (by rw[dN];repeat(first | exact aJ _ _ _ (by first | (simp;done) | (simp;omega)) | rw[Below.heap_alloc _ _ _ (by first | (simp;done) | (simp;omega))])) underlying92 rfl (by kernel_rfl) (by kernel_rfl) (by kernel_rfl)
 ·exact(((((((Ab.refl w).alloc _).alloc _).alloc _).alloc _).alloc _).alloc _).alloc _ |>.drew
theorem rframe1(w:World):Calls prog 47 #[.int .i64 1] w fun e w'=>e=.returned (.tuple #[.agg #[.int .i64 (cC 1).1,.int .i64 (cC 1).2.1,.int .i64 (cC 1).2.2],.agg #[.int .i64 (cR 1).1,.int .i64 (cR 1).2.1,.int .i64 (cR 1).2.2],.agg #[.int .i64 (cU 1).1,.int .i64 (cU 1).2.1,.int .i64 (cU 1).2.2]])/\Below w.heap.size w w':=by
 have Tx:Hid (∀u,Calls prog 44 #[.agg #[.int .i64 0,.int .i64 0,.int .i64 0],.int .i64 (-1),.agg #[.int .i64 1,.int .i64 0,.int .i64 0]] u fun e w'=>e=.returned (.agg #[.int .i64 (-1),.int .i64 (0),.int .i64 (0)])/\Below u.heap.size u w'):=fun u=>aY (0,0,0) (-1) (1,0,0) u (by simp[Sm]) (by simp[Sm,sc])
 go_enter func47,ntmps47
 go_upto_region 9 with fail
 generalize hW:World.alloc _ _=W
 have AW:Hid (Ab w W):=by
  rw[<- hW]
  exact((((((((Ab.refl w).alloc _).alloc _).alloc _).alloc _).alloc _).alloc _).alloc _)
 have r0:W.heap[w.heap.size]? =some (.cells #[.int .i64 0,.int .i64 0,.int .i64 0] 92):=by
  rw[<- hW]
  repeat(first | exact aJ _ _ _ (by first | (simp;done) | (simp;omega)) | rw[Below.heap_alloc _ _ _ (by first | (simp;done) | (simp;omega))])
 have r1:W.heap[w.heap.size+1]? =some (.cells #[.int .i64 0,.int .i64 0,.int .i64 0] 92):=by
  rw[<- hW]
  repeat(first | exact aJ _ _ _ (by first | (simp;done) | (simp;omega)) | rw[Below.heap_alloc _ _ _ (by first | (simp;done) | (simp;omega))])
 have r2:W.heap[w.heap.size+1+1]? =some (.cells #[.int .i64 0,.int .i64 0,.int .i64 0] 92):=by
  rw[<- hW]
  repeat(first | exact aJ _ _ _ (by first | (simp;done) | (simp;omega)) | rw[Below.heap_alloc _ _ _ (by first | (simp;done) | (simp;omega))])
 have r3:W.heap[w.heap.size+1+1+1]? =some (.cells #[.int .i64 1,.int .i64 0,.int .i64 0] 92):=by
  rw[<- hW]
  repeat(first | exact aJ _ _ _ (by first | (simp;done) | (simp;omega)) | rw[Below.heap_alloc _ _ _ (by first | (simp;done) | (simp;omega))])
 have r4:W.heap[w.heap.size+1+1+1+1]? =some (.cells #[.int .i64 0,.int .i64 1,.int .i64 0] 92):=by
  rw[<- hW]
  repeat(first | exact aJ _ _ _ (by first | (simp;done) | (simp;omega)) | rw[Below.heap_alloc _ _ _ (by first | (simp;done) | (simp;omega))])
 have r5:W.heap[w.heap.size+1+1+1+1+1]? =some (.cells #[.int .i64 0,.int .i64 0,.int .i64 1] 92):=by
  rw[<- hW]
  repeat(first | exact aJ _ _ _ (by first | (simp;done) | (simp;omega)) | rw[Below.heap_alloc _ _ _ (by first | (simp;done) | (simp;omega))])
 have r6:W.heap[w.heap.size+1+1+1+1+1+1]? =some (.cells #[.int .i64 0,.int .i64 0,.int .i64 0] 92):=by
  rw[<- hW]
  repeat(first | exact aJ _ _ _ (by first | (simp;done) | (simp;omega)) | rw[Below.heap_alloc _ _ _ (by first | (simp;done) | (simp;omega))])
 have KS:Hid (∀w',A3 W w.heap.size w'->A3 W w.heap.size w'/\w'.cell? ⟨w.heap.size+1+1+1,0,none⟩=some (.int .i64 1)/\w'.cell? ⟨w.heap.size+1+1+1,1,none⟩=some (.int .i64 0)/\w'.cell? ⟨w.heap.size+1+1+1,2,none⟩=some (.int .i64 0)/\w'.cell? ⟨w.heap.size+1+1+1+1,0,none⟩=some (.int .i64 0)/\w'.cell? ⟨w.heap.size+1+1+1+1,1,none⟩=some (.int .i64 1)/\w'.cell? ⟨w.heap.size+1+1+1+1,2,none⟩=some (.int .i64 0)/\w'.cell? ⟨w.heap.size+1+1+1+1+1,0,none⟩=some (.int .i64 0)/\w'.cell? ⟨w.heap.size+1+1+1+1+1,1,none⟩=some (.int .i64 0)/\w'.cell? ⟨w.heap.size+1+1+1+1+1,2,none⟩=some (.int .i64 1)/\w'.cell? ⟨w.heap.size+1+1+1+1+1+1,0,none⟩=some (.int .i64 0)/\w'.cell? ⟨w.heap.size+1+1+1+1+1+1,1,none⟩=some (.int .i64 0)/\w'.cell? ⟨w.heap.size+1+1+1+1+1+1,2,none⟩=some (.int .i64 0)/\w'.frozen? ⟨w.heap.size,0,none⟩=false/\w'.frozen? ⟨w.heap.size,1,none⟩=false/\w'.frozen? ⟨w.heap.size,2,none⟩=false/\w'.frozen? ⟨w.heap.size+1,0,none⟩=false/\w'.frozen? ⟨w.heap.size+1,1,none⟩=false/\w'.frozen? ⟨w.heap.size+1,2,none⟩=false/\w'.frozen? ⟨w.heap.size+1+1,0,none⟩=false/\w'.frozen? ⟨w.heap.size+1+1,1,none⟩=false/\w'.frozen? ⟨w.heap.size+1+1,2,none⟩=false/\w'.cell? ⟨w.heap.size,0,none⟩=some (rv w' (w.heap.size) 0)/\w'.cell? ⟨w.heap.size,1,none⟩=some (rv w' (w.heap.size) 1)/\w'.cell? ⟨w.heap.size,2,none⟩=some (rv w' (w.heap.size) 2)/\w'.cell? ⟨w.heap.size+1,0,none⟩=some (rv w' (w.heap.size+1) 0)/\w'.cell? ⟨w.heap.size+1,1,none⟩=some (rv w' (w.heap.size+1) 1)/\w'.cell? ⟨w.heap.size+1,2,none⟩=some (rv w' (w.heap.size+1) 2)/\w'.cell? ⟨w.heap.size+1+1,0,none⟩=some (rv w' (w.heap.size+1+1) 0)/\w'.cell? ⟨w.heap.size+1+1,1,none⟩=some (rv w' (w.heap.size+1+1) 1)/\w'.cell? ⟨w.heap.size+1+1,2,none⟩=some (rv w' (w.heap.size+1+1) 2)):=by
  intro w' hw
  obtain⟨-,p0,p1,p2⟩:=rowfacts (hw.heap (by omega) r3)
  obtain⟨-,p3,p4,p5⟩:=rowfacts (hw.heap (by omega) r4)
  obtain⟨-,p6,p7,p8⟩:=rowfacts (hw.heap (by omega) r5)
  obtain⟨-,p9,p10,p11⟩:=rowfacts (hw.heap (by omega) r6)
  obtain⟨⟨f0,f1,f2⟩,c0,c1,c2⟩:=hw.facts 0 (by omega)
  obtain⟨⟨f3,f4,f5⟩,c3,c4,c5⟩:=hw.facts 1 (by omega)
  obtain⟨⟨f6,f7,f8⟩,c6,c7,c8⟩:=hw.facts 2 (by omega)
  exact⟨hw,p0,p1,p2,p3,p4,p5,p6,p7,p8,p9,p10,p11,f0,f1,f2,f3,f4,f5,f6,f7,f8,c0,c1,c2,c3,c4,c5,c6,c7,c8⟩
 have A0:A3 W w.heap.size W:=(Ab.refl W).a3 (fun j hj=>by
  rcases(show j=0\/j=1\/j=2 by omega)with rfl | rfl | rfl
  ·exact⟨_,_,_,r0⟩
  ·exact⟨_,_,_,r1⟩
  ·exact⟨_,_,_,r2⟩)
 clear r0 r1 r2 r3 r4 r5 r6 hW
 go_region_held3 (fun w'=>A3 W w.heap.size w'/\w'.cell? ⟨w.heap.size+1+1+1,0,none⟩=some (.int .i64 1)/\w'.cell? ⟨w.heap.size+1+1+1,1,none⟩=some (.int .i64 0)/\w'.cell? ⟨w.heap.size+1+1+1,2,none⟩=some (.int .i64 0)/\w'.cell? ⟨w.heap.size+1+1+1+1,0,none⟩=some (.int .i64 0)/\w'.cell? ⟨w.heap.size+1+1+1+1,1,none⟩=some (.int .i64 1)/\w'.cell? ⟨w.heap.size+1+1+1+1,2,none⟩=some (.int .i64 0)/\w'.cell? ⟨w.heap.size+1+1+1+1+1,0,none⟩=some (.int .i64 0)/\w'.cell? ⟨w.heap.size+1+1+1+1+1,1,none⟩=some (.int .i64 0)/\w'.cell? ⟨w.heap.size+1+1+1+1+1,2,none⟩=some (.int .i64 1)/\w'.cell? ⟨w.heap.size+1+1+1+1+1+1,0,none⟩=some (.int .i64 0)/\w'.cell? ⟨w.heap.size+1+1+1+1+1+1,1,none⟩=some (.int .i64 0)/\w'.cell? ⟨w.heap.size+1+1+1+1+1+1,2,none⟩=some (.int .i64 0)/\w'.frozen? ⟨w.heap.size,0,none⟩=false/\w'.frozen? ⟨w.heap.size,1,none⟩=false/\w'.frozen? ⟨w.heap.size,2,none⟩=false/\w'.frozen? ⟨w.heap.size+1,0,none⟩=false/\w'.frozen? ⟨w.heap.size+1,1,none⟩=false/\w'.frozen? ⟨w.heap.size+1,2,none⟩=false/\w'.frozen? ⟨w.heap.size+1+1,0,none⟩=false/\w'.frozen? ⟨w.heap.size+1+1,1,none⟩=false/\w'.frozen? ⟨w.heap.size+1+1,2,none⟩=false/\w'.cell? ⟨w.heap.size,0,none⟩=some (rv w' (w.heap.size) 0)/\w'.cell? ⟨w.heap.size,1,none⟩=some (rv w' (w.heap.size) 1)/\w'.cell? ⟨w.heap.size,2,none⟩=some (rv w' (w.heap.size) 2)/\w'.cell? ⟨w.heap.size+1,0,none⟩=some (rv w' (w.heap.size+1) 0)/\w'.cell? ⟨w.heap.size+1,1,none⟩=some (rv w' (w.heap.size+1) 1)/\w'.cell? ⟨w.heap.size+1,2,none⟩=some (rv w' (w.heap.size+1) 2)/\w'.cell? ⟨w.heap.size+1+1,0,none⟩=some (rv w' (w.heap.size+1+1) 0)/\w'.cell? ⟨w.heap.size+1+1,1,none⟩=some (rv w' (w.heap.size+1+1) 1)/\w'.cell? ⟨w.heap.size+1+1,2,none⟩=some (rv w' (w.heap.size+1+1) 2)) ((refine KS.out _ ?_;(with_reducible (repeat(first | assumption | apply A3.drew | apply A3.set0 | apply A3.set1 | apply A3.set2 | (refine A3.call ?_ (by assumption)))));done)) ((go_at_call 44;refine(Tx.out _).mono ?_;rintro e w1 ⟨rfl,b1⟩))
 have A2:=A0.drew.call b1
 obtain⟨s0,s1,s2,s3⟩:=nZ (x0:=.int .i64 (cC 1).1) (x1:=.int .i64 (cC 1).2.1) (x2:=.int .i64 (cC 1).2.2) (y0:=.int .i64 (cR 1).1) (y1:=.int .i64 (cR 1).2.1) (y2:=.int .i64 (cR 1).2.2) (z0:=.int .i64 (cU 1).1) (z1:=.int .i64 (cU 1).2.1) (z2:=.int .i64 (cU 1).2.2) A2
 have S0:=hid s0
 have S1:=hid s1
 have S2:=hid s2
 have S3:=hid s3
 clear KS A0 A2 s0 s1 s2 s3
 go_wp2
 refine bodyPost_ret ?_ rfl ⟨rfl,?_⟩
 ·exact bK results47 _ _ w.heap.size (w.heap.size+1) (w.heap.size+1+1) _ _ _ _ _ rfl rfl rfl S0.out S1.out S2.out underlying92 rfl (by kernel_rfl) (by kernel_rfl) (by kernel_rfl)
 ·exact S3.out.ab AW.out (Nat.le_refl _)
theorem rframe2(w:World):Calls prog 47 #[.int .i64 2] w fun e w'=>e=.returned (.tuple #[.agg #[.int .i64 (cC 2).1,.int .i64 (cC 2).2.1,.int .i64 (cC 2).2.2],.agg #[.int .i64 (cR 2).1,.int .i64 (cR 2).2.1,.int .i64 (cR 2).2.2],.agg #[.int .i64 (cU 2).1,.int .i64 (cU 2).2.1,.int .i64 (cU 2).2.2]])/\Below w.heap.size w w':=by
 have Tx:Hid (∀u,Calls prog 44 #[.agg #[.int .i64 0,.int .i64 0,.int .i64 0],.int .i64 (-1),.agg #[.int .i64 1,.int .i64 0,.int .i64 0]] u fun e w'=>e=.returned (.agg #[.int .i64 (-1),.int .i64 (0),.int .i64 (0)])/\Below u.heap.size u w'):=fun u=>aY (0,0,0) (-1) (1,0,0) u (by simp[Sm]) (by simp[Sm,sc])
 have Ty:Hid (∀u,Calls prog 44 #[.agg #[.int .i64 0,.int .i64 0,.int .i64 0],.int .i64 (-1),.agg #[.int .i64 0,.int .i64 1,.int .i64 0]] u fun e w'=>e=.returned (.agg #[.int .i64 (0),.int .i64 (-1),.int .i64 (0)])/\Below u.heap.size u w'):=fun u=>aY (0,0,0) (-1) (0,1,0) u (by simp[Sm]) (by simp[Sm,sc])
 go_enter func47,ntmps47
 go_upto_region 11 with fail
 generalize hW:World.alloc _ _=W
 have AW:Hid (Ab w W):=by
  rw[<- hW]
  exact((((((((Ab.refl w).alloc _).alloc _).alloc _).alloc _).alloc _).alloc _).alloc _)
 have r0:W.heap[w.heap.size]? =some (.cells #[.int .i64 0,.int .i64 0,.int .i64 0] 92):=by
  rw[<- hW]
  repeat(first | exact aJ _ _ _ (by first | (simp;done) | (simp;omega)) | rw[Below.heap_alloc _ _ _ (by first | (simp;done) | (simp;omega))])
 have r1:W.heap[w.heap.size+1]? =some (.cells #[.int .i64 0,.int .i64 0,.int .i64 0] 92):=by
  rw[<- hW]
  repeat(first | exact aJ _ _ _ (by first | (simp;done) | (simp;omega)) | rw[Below.heap_alloc _ _ _ (by first | (simp;done) | (simp;omega))])
 have r2:W.heap[w.heap.size+1+1]? =some (.cells #[.int .i64 0,.int .i64 0,.int .i64 0] 92):=by
  rw[<- hW]
  repeat(first | exact aJ _ _ _ (by first | (simp;done) | (simp;omega)) | rw[Below.heap_alloc _ _ _ (by first | (simp;done) | (simp;omega))])
 have r3:W.heap[w.heap.size+1+1+1]? =some (.cells #[.int .i64 1,.int .i64 0,.int .i64 0] 92):=by
  rw[<- hW]
  repeat(first | exact aJ _ _ _ (by first | (simp;done) | (simp;omega)) | rw[Below.heap_alloc _ _ _ (by first | (simp;done) | (simp;omega))])
 have r4:W.heap[w.heap.size+1+1+1+1]? =some (.cells #[.int .i64 0,.int .i64 1,.int .i64 0] 92):=by
  rw[<- hW]
  repeat(first | exact aJ _ _ _ (by first | (simp;done) | (simp;omega)) | rw[Below.heap_alloc _ _ _ (by first | (simp;done) | (simp;omega))])
 have r5:W.heap[w.heap.size+1+1+1+1+1]? =some (.cells #[.int .i64 0,.int .i64 0,.int .i64 1] 92):=by
  rw[<- hW]
  repeat(first | exact aJ _ _ _ (by first | (simp;done) | (simp;omega)) | rw[Below.heap_alloc _ _ _ (by first | (simp;done) | (simp;omega))])
 have r6:W.heap[w.heap.size+1+1+1+1+1+1]? =some (.cells #[.int .i64 0,.int .i64 0,.int .i64 0] 92):=by
  rw[<- hW]
  repeat(first | exact aJ _ _ _ (by first | (simp;done) | (simp;omega)) | rw[Below.heap_alloc _ _ _ (by first | (simp;done) | (simp;omega))])
 have KS:Hid (∀w',A3 W w.heap.size w'->A3 W w.heap.size w'/\w'.cell? ⟨w.heap.size+1+1+1,0,none⟩=some (.int .i64 1)/\w'.cell? ⟨w.heap.size+1+1+1,1,none⟩=some (.int .i64 0)/\w'.cell? ⟨w.heap.size+1+1+1,2,none⟩=some (.int .i64 0)/\w'.cell? ⟨w.heap.size+1+1+1+1,0,none⟩=some (.int .i64 0)/\w'.cell? ⟨w.heap.size+1+1+1+1,1,none⟩=some (.int .i64 1)/\w'.cell? ⟨w.heap.size+1+1+1+1,2,none⟩=some (.int .i64 0)/\w'.cell? ⟨w.heap.size+1+1+1+1+1,0,none⟩=some (.int .i64 0)/\w'.cell? ⟨w.heap.size+1+1+1+1+1,1,none⟩=some (.int .i64 0)/\w'.cell? ⟨w.heap.size+1+1+1+1+1,2,none⟩=some (.int .i64 1)/\w'.cell? ⟨w.heap.size+1+1+1+1+1+1,0,none⟩=some (.int .i64 0)/\w'.cell? ⟨w.heap.size+1+1+1+1+1+1,1,none⟩=some (.int .i64 0)/\w'.cell? ⟨w.heap.size+1+1+1+1+1+1,2,none⟩=some (.int .i64 0)/\w'.frozen? ⟨w.heap.size,0,none⟩=false/\w'.frozen? ⟨w.heap.size,1,none⟩=false/\w'.frozen? ⟨w.heap.size,2,none⟩=false/\w'.frozen? ⟨w.heap.size+1,0,none⟩=false/\w'.frozen? ⟨w.heap.size+1,1,none⟩=false/\w'.frozen? ⟨w.heap.size+1,2,none⟩=false/\w'.frozen? ⟨w.heap.size+1+1,0,none⟩=false/\w'.frozen? ⟨w.heap.size+1+1,1,none⟩=false/\w'.frozen? ⟨w.heap.size+1+1,2,none⟩=false/\w'.cell? ⟨w.heap.size,0,none⟩=some (rv w' (w.heap.size) 0)/\w'.cell? ⟨w.heap.size,1,none⟩=some (rv w' (w.heap.size) 1)/\w'.cell? ⟨w.heap.size,2,none⟩=some (rv w' (w.heap.size) 2)/\w'.cell? ⟨w.heap.size+1,0,none⟩=some (rv w' (w.heap.size+1) 0)/\w'.cell? ⟨w.heap.size+1,1,none⟩=some (rv w' (w.heap.size+1) 1)/\w'.cell? ⟨w.heap.size+1,2,none⟩=some (rv w' (w.heap.size+1) 2)/\w'.cell? ⟨w.heap.size+1+1,0,none⟩=some (rv w' (w.heap.size+1+1) 0)/\w'.cell? ⟨w.heap.size+1+1,1,none⟩=some (rv w' (w.heap.size+1+1) 1)/\w'.cell? ⟨w.heap.size+1+1,2,none⟩=some (rv w' (w.heap.size+1+1) 2)):=by
  intro w' hw
  obtain⟨-,p0,p1,p2⟩:=rowfacts (hw.heap (by omega) r3)
  obtain⟨-,p3,p4,p5⟩:=rowfacts (hw.heap (by omega) r4)
  obtain⟨-,p6,p7,p8⟩:=rowfacts (hw.heap (by omega) r5)
  obtain⟨-,p9,p10,p11⟩:=rowfacts (hw.heap (by omega) r6)
  obtain⟨⟨f0,f1,f2⟩,c0,c1,c2⟩:=hw.facts 0 (by omega)
  obtain⟨⟨f3,f4,f5⟩,c3,c4,c5⟩:=hw.facts 1 (by omega)
  obtain⟨⟨f6,f7,f8⟩,c6,c7,c8⟩:=hw.facts 2 (by omega)
  exact⟨hw,p0,p1,p2,p3,p4,p5,p6,p7,p8,p9,p10,p11,f0,f1,f2,f3,f4,f5,f6,f7,f8,c0,c1,c2,c3,c4,c5,c6,c7,c8⟩
 have A0:A3 W w.heap.size W:=(Ab.refl W).a3 (fun j hj=>by
  rcases(show j=0\/j=1\/j=2 by omega)with rfl | rfl | rfl
  ·exact⟨_,_,_,r0⟩
  ·exact⟨_,_,_,r1⟩
  ·exact⟨_,_,_,r2⟩)
 clear r0 r1 r2 r3 r4 r5 r6 hW
 go_region_held3 (fun w'=>A3 W w.heap.size w'/\w'.cell? ⟨w.heap.size+1+1+1,0,none⟩=some (.int .i64 1)/\w'.cell? ⟨w.heap.size+1+1+1,1,none⟩=some (.int .i64 0)/\w'.cell? ⟨w.heap.size+1+1+1,2,none⟩=some (.int .i64 0)/\w'.cell? ⟨w.heap.size+1+1+1+1,0,none⟩=some (.int .i64 0)/\w'.cell? ⟨w.heap.size+1+1+1+1,1,none⟩=some (.int .i64 1)/\w'.cell? ⟨w.heap.size+1+1+1+1,2,none⟩=some (.int .i64 0)/\w'.cell? ⟨w.heap.size+1+1+1+1+1,0,none⟩=some (.int .i64 0)/\w'.cell? ⟨w.heap.size+1+1+1+1+1,1,none⟩=some (.int .i64 0)/\w'.cell? ⟨w.heap.size+1+1+1+1+1,2,none⟩=some (.int .i64 1)/\w'.cell? ⟨w.heap.size+1+1+1+1+1+1,0,none⟩=some (.int .i64 0)/\w'.cell? ⟨w.heap.size+1+1+1+1+1+1,1,none⟩=some (.int .i64 0)/\w'.cell? ⟨w.heap.size+1+1+1+1+1+1,2,none⟩=some (.int .i64 0)/\w'.frozen? ⟨w.heap.size,0,none⟩=false/\w'.frozen? ⟨w.heap.size,1,none⟩=false/\w'.frozen? ⟨w.heap.size,2,none⟩=false/\w'.frozen? ⟨w.heap.size+1,0,none⟩=false/\w'.frozen? ⟨w.heap.size+1,1,none⟩=false/\w'.frozen? ⟨w.heap.size+1,2,none⟩=false/\w'.frozen? ⟨w.heap.size+1+1,0,none⟩=false/\w'.frozen? ⟨w.heap.size+1+1,1,none⟩=false/\w'.frozen? ⟨w.heap.size+1+1,2,none⟩=false/\w'.cell? ⟨w.heap.size,0,none⟩=some (rv w' (w.heap.size) 0)/\w'.cell? ⟨w.heap.size,1,none⟩=some (rv w' (w.heap.size) 1)/\w'.cell? ⟨w.heap.size,2,none⟩=some (rv w' (w.heap.size) 2)/\w'.cell? ⟨w.heap.size+1,0,none⟩=some (rv w' (w.heap.size+1) 0)/\w'.cell? ⟨w.heap.size+1,1,none⟩=some (rv w' (w.heap.size+1) 1)/\w'.cell? ⟨w.heap.size+1,2,none⟩=some (rv w' (w.heap.size+1) 2)/\w'.cell? ⟨w.heap.size+1+1,0,none⟩=some (rv w' (w.heap.size+1+1) 0)/\w'.cell? ⟨w.heap.size+1+1,1,none⟩=some (rv w' (w.heap.size+1+1) 1)/\w'.cell? ⟨w.heap.size+1+1,2,none⟩=some (rv w' (w.heap.size+1+1) 2)) ((refine KS.out _ ?_;(with_reducible (repeat(first | assumption | apply A3.drew | apply A3.set0 | apply A3.set1 | apply A3.set2 | (refine A3.call ?_ (by assumption)))));done)) (first | (go_at_call 44;have hb:=b1;refine(Ty.out _).mono ?_;clear hb;rintro e w2 ⟨rfl,b2⟩) | (go_at_call 44;refine(Tx.out _).mono ?_;rintro e w1 ⟨rfl,b1⟩))
 have A2:=(A0.drew.call b1).call b2
 obtain⟨s0,s1,s2,s3⟩:=nZ (x0:=.int .i64 (cC 2).1) (x1:=.int .i64 (cC 2).2.1) (x2:=.int .i64 (cC 2).2.2) (y0:=.int .i64 (cR 2).1) (y1:=.int .i64 (cR 2).2.1) (y2:=.int .i64 (cR 2).2.2) (z0:=.int .i64 (cU 2).1) (z1:=.int .i64 (cU 2).2.1) (z2:=.int .i64 (cU 2).2.2) A2
 have S0:=hid s0
 have S1:=hid s1
 have S2:=hid s2
 have S3:=hid s3
 clear KS A0 A2 s0 s1 s2 s3
 go_wp2
 refine bodyPost_ret ?_ rfl ⟨rfl,?_⟩
 ·exact bK results47 _ _ w.heap.size (w.heap.size+1) (w.heap.size+1+1) _ _ _ _ _ rfl rfl rfl S0.out S1.out S2.out underlying92 rfl (by kernel_rfl) (by kernel_rfl) (by kernel_rfl)
 ·exact S3.out.ab AW.out (Nat.le_refl _)
theorem rframe3(w:World):Calls prog 47 #[.int .i64 3] w fun e w'=>e=.returned (.tuple #[.agg #[.int .i64 (cC 3).1,.int .i64 (cC 3).2.1,.int .i64 (cC 3).2.2],.agg #[.int .i64 (cR 3).1,.int .i64 (cR 3).2.1,.int .i64 (cR 3).2.2],.agg #[.int .i64 (cU 3).1,.int .i64 (cU 3).2.1,.int .i64 (cU 3).2.2]])/\Below w.heap.size w w':=by
 have Ty:Hid (∀u,Calls prog 44 #[.agg #[.int .i64 0,.int .i64 0,.int .i64 0],.int .i64 (-1),.agg #[.int .i64 0,.int .i64 1,.int .i64 0]] u fun e w'=>e=.returned (.agg #[.int .i64 (0),.int .i64 (-1),.int .i64 (0)])/\Below u.heap.size u w'):=fun u=>aY (0,0,0) (-1) (0,1,0) u (by simp[Sm]) (by simp[Sm,sc])
 go_enter func47,ntmps47
 go_upto_region 13 with fail
 generalize hW:World.alloc _ _=W
 have AW:Hid (Ab w W):=by
  rw[<- hW]
  exact((((((((Ab.refl w).alloc _).alloc _).alloc _).alloc _).alloc _).alloc _).alloc _)
 have r0:W.heap[w.heap.size]? =some (.cells #[.int .i64 0,.int .i64 0,.int .i64 0] 92):=by
  rw[<- hW]
  repeat(first | exact aJ _ _ _ (by first | (simp;done) | (simp;omega)) | rw[Below.heap_alloc _ _ _ (by first | (simp;done) | (simp;omega))])
 have r1:W.heap[w.heap.size+1]? =some (.cells #[.int .i64 0,.int .i64 0,.int .i64 0] 92):=by
  rw[<- hW]
  repeat(first | exact aJ _ _ _ (by first | (simp;done) | (simp;omega)) | rw[Below.heap_alloc _ _ _ (by first | (simp;done) | (simp;omega))])
 have r2:W.heap[w.heap.size+1+1]? =some (.cells #[.int .i64 0,.int .i64 0,.int .i64 0] 92):=by
  rw[<- hW]
  repeat(first | exact aJ _ _ _ (by first | (simp;done) | (simp;omega)) | rw[Below.heap_alloc _ _ _ (by first | (simp;done) | (simp;omega))])
 have r3:W.heap[w.heap.size+1+1+1]? =some (.cells #[.int .i64 1,.int .i64 0,.int .i64 0] 92):=by
  rw[<- hW]
  repeat(first | exact aJ _ _ _ (by first | (simp;done) | (simp;omega)) | rw[Below.heap_alloc _ _ _ (by first | (simp;done) | (simp;omega))])
 have r4:W.heap[w.heap.size+1+1+1+1]? =some (.cells #[.int .i64 0,.int .i64 1,.int .i64 0] 92):=by
  rw[<- hW]
  repeat(first | exact aJ _ _ _ (by first | (simp;done) | (simp;omega)) | rw[Below.heap_alloc _ _ _ (by first | (simp;done) | (simp;omega))])
 have r5:W.heap[w.heap.size+1+1+1+1+1]? =some (.cells #[.int .i64 0,.int .i64 0,.int .i64 1] 92):=by
  rw[<- hW]
  repeat(first | exact aJ _ _ _ (by first | (simp;done) | (simp;omega)) | rw[Below.heap_alloc _ _ _ (by first | (simp;done) | (simp;omega))])
 have r6:W.heap[w.heap.size+1+1+1+1+1+1]? =some (.cells #[.int .i64 0,.int .i64 0,.int .i64 0] 92):=by
  rw[<- hW]
  repeat(first | exact aJ _ _ _ (by first | (simp;done) | (simp;omega)) | rw[Below.heap_alloc _ _ _ (by first | (simp;done) | (simp;omega))])
 have KS:Hid (∀w',A3 W w.heap.size w'->A3 W w.heap.size w'/\w'.cell? ⟨w.heap.size+1+1+1,0,none⟩=some (.int .i64 1)/\w'.cell? ⟨w.heap.size+1+1+1,1,none⟩=some (.int .i64 0)/\w'.cell? ⟨w.heap.size+1+1+1,2,none⟩=some (.int .i64 0)/\w'.cell? ⟨w.heap.size+1+1+1+1,0,none⟩=some (.int .i64 0)/\w'.cell? ⟨w.heap.size+1+1+1+1,1,none⟩=some (.int .i64 1)/\w'.cell? ⟨w.heap.size+1+1+1+1,2,none⟩=some (.int .i64 0)/\w'.cell? ⟨w.heap.size+1+1+1+1+1,0,none⟩=some (.int .i64 0)/\w'.cell? ⟨w.heap.size+1+1+1+1+1,1,none⟩=some (.int .i64 0)/\w'.cell? ⟨w.heap.size+1+1+1+1+1,2,none⟩=some (.int .i64 1)/\w'.cell? ⟨w.heap.size+1+1+1+1+1+1,0,none⟩=some (.int .i64 0)/\w'.cell? ⟨w.heap.size+1+1+1+1+1+1,1,none⟩=some (.int .i64 0)/\w'.cell? ⟨w.heap.size+1+1+1+1+1+1,2,none⟩=some (.int .i64 0)/\w'.frozen? ⟨w.heap.size,0,none⟩=false/\w'.frozen? ⟨w.heap.size,1,none⟩=false/\w'.frozen? ⟨w.heap.size,2,none⟩=false/\w'.frozen? ⟨w.heap.size+1,0,none⟩=false/\w'.frozen? ⟨w.heap.size+1,1,none⟩=false/\w'.frozen? ⟨w.heap.size+1,2,none⟩=false/\w'.frozen? ⟨w.heap.size+1+1,0,none⟩=false/\w'.frozen? ⟨w.heap.size+1+1,1,none⟩=false/\w'.frozen? ⟨w.heap.size+1+1,2,none⟩=false/\w'.cell? ⟨w.heap.size,0,none⟩=some (rv w' (w.heap.size) 0)/\w'.cell? ⟨w.heap.size,1,none⟩=some (rv w' (w.heap.size) 1)/\w'.cell? ⟨w.heap.size,2,none⟩=some (rv w' (w.heap.size) 2)/\w'.cell? ⟨w.heap.size+1,0,none⟩=some (rv w' (w.heap.size+1) 0)/\w'.cell? ⟨w.heap.size+1,1,none⟩=some (rv w' (w.heap.size+1) 1)/\w'.cell? ⟨w.heap.size+1,2,none⟩=some (rv w' (w.heap.size+1) 2)/\w'.cell? ⟨w.heap.size+1+1,0,none⟩=some (rv w' (w.heap.size+1+1) 0)/\w'.cell? ⟨w.heap.size+1+1,1,none⟩=some (rv w' (w.heap.size+1+1) 1)/\w'.cell? ⟨w.heap.size+1+1,2,none⟩=some (rv w' (w.heap.size+1+1) 2)):=by
  intro w' hw
  obtain⟨-,p0,p1,p2⟩:=rowfacts (hw.heap (by omega) r3)
  obtain⟨-,p3,p4,p5⟩:=rowfacts (hw.heap (by omega) r4)
  obtain⟨-,p6,p7,p8⟩:=rowfacts (hw.heap (by omega) r5)
  obtain⟨-,p9,p10,p11⟩:=rowfacts (hw.heap (by omega) r6)
  obtain⟨⟨f0,f1,f2⟩,c0,c1,c2⟩:=hw.facts 0 (by omega)
  obtain⟨⟨f3,f4,f5⟩,c3,c4,c5⟩:=hw.facts 1 (by omega)
  obtain⟨⟨f6,f7,f8⟩,c6,c7,c8⟩:=hw.facts 2 (by omega)
  exact⟨hw,p0,p1,p2,p3,p4,p5,p6,p7,p8,p9,p10,p11,f0,f1,f2,f3,f4,f5,f6,f7,f8,c0,c1,c2,c3,c4,c5,c6,c7,c8⟩
 have A0:A3 W w.heap.size W:=(Ab.refl W).a3 (fun j hj=>by
  rcases(show j=0\/j=1\/j=2 by omega)with rfl | rfl | rfl
  ·exact⟨_,_,_,r0⟩
  ·exact⟨_,_,_,r1⟩
  ·exact⟨_,_,_,r2⟩)
 clear r0 r1 r2 r3 r4 r5 r6 hW
 go_region_held3 (fun w'=>A3 W w.heap.size w'/\w'.cell? ⟨w.heap.size+1+1+1,0,none⟩=some (.int .i64 1)/\w'.cell? ⟨w.heap.size+1+1+1,1,none⟩=some (.int .i64 0)/\w'.cell? ⟨w.heap.size+1+1+1,2,none⟩=some (.int .i64 0)/\w'.cell? ⟨w.heap.size+1+1+1+1,0,none⟩=some (.int .i64 0)/\w'.cell? ⟨w.heap.size+1+1+1+1,1,none⟩=some (.int .i64 1)/\w'.cell? ⟨w.heap.size+1+1+1+1,2,none⟩=some (.int .i64 0)/\w'.cell? ⟨w.heap.size+1+1+1+1+1,0,none⟩=some (.int .i64 0)/\w'.cell? ⟨w.heap.size+1+1+1+1+1,1,none⟩=some (.int .i64 0)/\w'.cell? ⟨w.heap.size+1+1+1+1+1,2,none⟩=some (.int .i64 1)/\w'.cell? ⟨w.heap.size+1+1+1+1+1+1,0,none⟩=some (.int .i64 0)/\w'.cell? ⟨w.heap.size+1+1+1+1+1+1,1,none⟩=some (.int .i64 0)/\w'.cell? ⟨w.heap.size+1+1+1+1+1+1,2,none⟩=some (.int .i64 0)/\w'.frozen? ⟨w.heap.size,0,none⟩=false/\w'.frozen? ⟨w.heap.size,1,none⟩=false/\w'.frozen? ⟨w.heap.size,2,none⟩=false/\w'.frozen? ⟨w.heap.size+1,0,none⟩=false/\w'.frozen? ⟨w.heap.size+1,1,none⟩=false/\w'.frozen? ⟨w.heap.size+1,2,none⟩=false/\w'.frozen? ⟨w.heap.size+1+1,0,none⟩=false/\w'.frozen? ⟨w.heap.size+1+1,1,none⟩=false/\w'.frozen? ⟨w.heap.size+1+1,2,none⟩=false/\w'.cell? ⟨w.heap.size,0,none⟩=some (rv w' (w.heap.size) 0)/\w'.cell? ⟨w.heap.size,1,none⟩=some (rv w' (w.heap.size) 1)/\w'.cell? ⟨w.heap.size,2,none⟩=some (rv w' (w.heap.size) 2)/\w'.cell? ⟨w.heap.size+1,0,none⟩=some (rv w' (w.heap.size+1) 0)/\w'.cell? ⟨w.heap.size+1,1,none⟩=some (rv w' (w.heap.size+1) 1)/\w'.cell? ⟨w.heap.size+1,2,none⟩=some (rv w' (w.heap.size+1) 2)/\w'.cell? ⟨w.heap.size+1+1,0,none⟩=some (rv w' (w.heap.size+1+1) 0)/\w'.cell? ⟨w.heap.size+1+1,1,none⟩=some (rv w' (w.heap.size+1+1) 1)/\w'.cell? ⟨w.heap.size+1+1,2,none⟩=some (rv w' (w.heap.size+1+1) 2)) ((refine KS.out _ ?_;(with_reducible (repeat(first | assumption | apply A3.drew | apply A3.set0 | apply A3.set1 | apply A3.set2 | (refine A3.call ?_ (by assumption)))));done)) ((go_at_call 44;refine(Ty.out _).mono ?_;rintro e w1 ⟨rfl,b1⟩))
 have A2:=A0.drew.call b1
 obtain⟨s0,s1,s2,s3⟩:=nZ (x0:=.int .i64 (cC 3).1) (x1:=.int .i64 (cC 3).2.1) (x2:=.int .i64 (cC 3).2.2) (y0:=.int .i64 (cR 3).1) (y1:=.int .i64 (cR 3).2.1) (y2:=.int .i64 (cR 3).2.2) (z0:=.int .i64 (cU 3).1) (z1:=.int .i64 (cU 3).2.1) (z2:=.int .i64 (cU 3).2.2) A2
 have S0:=hid s0
 have S1:=hid s1
 have S2:=hid s2
 have S3:=hid s3
 clear KS A0 A2 s0 s1 s2 s3
 go_wp2
 refine bodyPost_ret ?_ rfl ⟨rfl,?_⟩
 ·exact bK results47 _ _ w.heap.size (w.heap.size+1) (w.heap.size+1+1) _ _ _ _ _ rfl rfl rfl S0.out S1.out S2.out underlying92 rfl (by kernel_rfl) (by kernel_rfl) (by kernel_rfl)
 ·exact S3.out.ab AW.out (Nat.le_refl _)
theorem rframe4(w:World):Calls prog 47 #[.int .i64 4] w fun e w'=>e=.returned (.tuple #[.agg #[.int .i64 (cC 4).1,.int .i64 (cC 4).2.1,.int .i64 (cC 4).2.2],.agg #[.int .i64 (cR 4).1,.int .i64 (cR 4).2.1,.int .i64 (cR 4).2.2],.agg #[.int .i64 (cU 4).1,.int .i64 (cU 4).2.1,.int .i64 (cU 4).2.2]])/\Below w.heap.size w w':=by
 have Tx:Hid (∀u,Calls prog 44 #[.agg #[.int .i64 0,.int .i64 0,.int .i64 0],.int .i64 (-1),.agg #[.int .i64 1,.int .i64 0,.int .i64 0]] u fun e w'=>e=.returned (.agg #[.int .i64 (-1),.int .i64 (0),.int .i64 (0)])/\Below u.heap.size u w'):=fun u=>aY (0,0,0) (-1) (1,0,0) u (by simp[Sm]) (by simp[Sm,sc])
 go_enter func47,ntmps47
 go_upto_region 15 with fail
 generalize hW:World.alloc _ _=W
 have AW:Hid (Ab w W):=by
  rw[<- hW]
  exact((((((((Ab.refl w).alloc _).alloc _).alloc _).alloc _).alloc _).alloc _).alloc _)
 have r0:W.heap[w.heap.size]? =some (.cells #[.int .i64 0,.int .i64 0,.int .i64 0] 92):=by
  rw[<- hW]
  repeat(first | exact aJ _ _ _ (by first | (simp;done) | (simp;omega)) | rw[Below.heap_alloc _ _ _ (by first | (simp;done) | (simp;omega))])
 have r1:W.heap[w.heap.size+1]? =some (.cells #[.int .i64 0,.int .i64 0,.int .i64 0] 92):=by
  rw[<- hW]
  repeat(first | exact aJ _ _ _ (by first | (simp;done) | (simp;omega)) | rw[Below.heap_alloc _ _ _ (by first | (simp;done) | (simp;omega))])
 have r2:W.heap[w.heap.size+1+1]? =some (.cells #[.int .i64 0,.int .i64 0,.int .i64 0] 92):=by
  rw[<- hW]
  repeat(first | exact aJ _ _ _ (by first | (simp;done) | (simp;omega)) | rw[Below.heap_alloc _ _ _ (by first | (simp;done) | (simp;omega))])
 have r3:W.heap[w.heap.size+1+1+1]? =some (.cells #[.int .i64 1,.int .i64 0,.int .i64 0] 92):=by
  rw[<- hW]
  repeat(first | exact aJ _ _ _ (by first | (simp;done) | (simp;omega)) | rw[Below.heap_alloc _ _ _ (by first | (simp;done) | (simp;omega))])
 have r4:W.heap[w.heap.size+1+1+1+1]? =some (.cells #[.int .i64 0,.int .i64 1,.int .i64 0] 92):=by
  rw[<- hW]
  repeat(first | exact aJ _ _ _ (by first | (simp;done) | (simp;omega)) | rw[Below.heap_alloc _ _ _ (by first | (simp;done) | (simp;omega))])
 have r5:W.heap[w.heap.size+1+1+1+1+1]? =some (.cells #[.int .i64 0,.int .i64 0,.int .i64 1] 92):=by
  rw[<- hW]
  repeat(first | exact aJ _ _ _ (by first | (simp;done) | (simp;omega)) | rw[Below.heap_alloc _ _ _ (by first | (simp;done) | (simp;omega))])
 have r6:W.heap[w.heap.size+1+1+1+1+1+1]? =some (.cells #[.int .i64 0,.int .i64 0,.int .i64 0] 92):=by
  rw[<- hW]
  repeat(first | exact aJ _ _ _ (by first | (simp;done) | (simp;omega)) | rw[Below.heap_alloc _ _ _ (by first | (simp;done) | (simp;omega))])
 have KS:Hid (∀w',A3 W w.heap.size w'->A3 W w.heap.size w'/\w'.cell? ⟨w.heap.size+1+1+1,0,none⟩=some (.int .i64 1)/\w'.cell? ⟨w.heap.size+1+1+1,1,none⟩=some (.int .i64 0)/\w'.cell? ⟨w.heap.size+1+1+1,2,none⟩=some (.int .i64 0)/\w'.cell? ⟨w.heap.size+1+1+1+1,0,none⟩=some (.int .i64 0)/\w'.cell? ⟨w.heap.size+1+1+1+1,1,none⟩=some (.int .i64 1)/\w'.cell? ⟨w.heap.size+1+1+1+1,2,none⟩=some (.int .i64 0)/\w'.cell? ⟨w.heap.size+1+1+1+1+1,0,none⟩=some (.int .i64 0)/\w'.cell? ⟨w.heap.size+1+1+1+1+1,1,none⟩=some (.int .i64 0)/\w'.cell? ⟨w.heap.size+1+1+1+1+1,2,none⟩=some (.int .i64 1)/\w'.cell? ⟨w.heap.size+1+1+1+1+1+1,0,none⟩=some (.int .i64 0)/\w'.cell? ⟨w.heap.size+1+1+1+1+1+1,1,none⟩=some (.int .i64 0)/\w'.cell? ⟨w.heap.size+1+1+1+1+1+1,2,none⟩=some (.int .i64 0)/\w'.frozen? ⟨w.heap.size,0,none⟩=false/\w'.frozen? ⟨w.heap.size,1,none⟩=false/\w'.frozen? ⟨w.heap.size,2,none⟩=false/\w'.frozen? ⟨w.heap.size+1,0,none⟩=false/\w'.frozen? ⟨w.heap.size+1,1,none⟩=false/\w'.frozen? ⟨w.heap.size+1,2,none⟩=false/\w'.frozen? ⟨w.heap.size+1+1,0,none⟩=false/\w'.frozen? ⟨w.heap.size+1+1,1,none⟩=false/\w'.frozen? ⟨w.heap.size+1+1,2,none⟩=false/\w'.cell? ⟨w.heap.size,0,none⟩=some (rv w' (w.heap.size) 0)/\w'.cell? ⟨w.heap.size,1,none⟩=some (rv w' (w.heap.size) 1)/\w'.cell? ⟨w.heap.size,2,none⟩=some (rv w' (w.heap.size) 2)/\w'.cell? ⟨w.heap.size+1,0,none⟩=some (rv w' (w.heap.size+1) 0)/\w'.cell? ⟨w.heap.size+1,1,none⟩=some (rv w' (w.heap.size+1) 1)/\w'.cell? ⟨w.heap.size+1,2,none⟩=some (rv w' (w.heap.size+1) 2)/\w'.cell? ⟨w.heap.size+1+1,0,none⟩=some (rv w' (w.heap.size+1+1) 0)/\w'.cell? ⟨w.heap.size+1+1,1,none⟩=some (rv w' (w.heap.size+1+1) 1)/\w'.cell? ⟨w.heap.size+1+1,2,none⟩=some (rv w' (w.heap.size+1+1) 2)):=by
  intro w' hw
  obtain⟨-,p0,p1,p2⟩:=rowfacts (hw.heap (by omega) r3)
  obtain⟨-,p3,p4,p5⟩:=rowfacts (hw.heap (by omega) r4)
  obtain⟨-,p6,p7,p8⟩:=rowfacts (hw.heap (by omega) r5)
  obtain⟨-,p9,p10,p11⟩:=rowfacts (hw.heap (by omega) r6)
  obtain⟨⟨f0,f1,f2⟩,c0,c1,c2⟩:=hw.facts 0 (by omega)
  obtain⟨⟨f3,f4,f5⟩,c3,c4,c5⟩:=hw.facts 1 (by omega)
  obtain⟨⟨f6,f7,f8⟩,c6,c7,c8⟩:=hw.facts 2 (by omega)
  exact⟨hw,p0,p1,p2,p3,p4,p5,p6,p7,p8,p9,p10,p11,f0,f1,f2,f3,f4,f5,f6,f7,f8,c0,c1,c2,c3,c4,c5,c6,c7,c8⟩
 have A0:A3 W w.heap.size W:=(Ab.refl W).a3 (fun j hj=>by
  rcases(show j=0\/j=1\/j=2 by omega)with rfl | rfl | rfl
  ·exact⟨_,_,_,r0⟩
  ·exact⟨_,_,_,r1⟩
  ·exact⟨_,_,_,r2⟩)
 clear r0 r1 r2 r3 r4 r5 r6 hW
 go_region_held3 (fun w'=>A3 W w.heap.size w'/\w'.cell? ⟨w.heap.size+1+1+1,0,none⟩=some (.int .i64 1)/\w'.cell? ⟨w.heap.size+1+1+1,1,none⟩=some (.int .i64 0)/\w'.cell? ⟨w.heap.size+1+1+1,2,none⟩=some (.int .i64 0)/\w'.cell? ⟨w.heap.size+1+1+1+1,0,none⟩=some (.int .i64 0)/\w'.cell? ⟨w.heap.size+1+1+1+1,1,none⟩=some (.int .i64 1)/\w'.cell? ⟨w.heap.size+1+1+1+1,2,none⟩=some (.int .i64 0)/\w'.cell? ⟨w.heap.size+1+1+1+1+1,0,none⟩=some (.int .i64 0)/\w'.cell? ⟨w.heap.size+1+1+1+1+1,1,none⟩=some (.int .i64 0)/\w'.cell? ⟨w.heap.size+1+1+1+1+1,2,none⟩=some (.int .i64 1)/\w'.cell? ⟨w.heap.size+1+1+1+1+1+1,0,none⟩=some (.int .i64 0)/\w'.cell? ⟨w.heap.size+1+1+1+1+1+1,1,none⟩=some (.int .i64 0)/\w'.cell? ⟨w.heap.size+1+1+1+1+1+1,2,none⟩=some (.int .i64 0)/\w'.frozen? ⟨w.heap.size,0,none⟩=false/\w'.frozen? ⟨w.heap.size,1,none⟩=false/\w'.frozen? ⟨w.heap.size,2,none⟩=false/\w'.frozen? ⟨w.heap.size+1,0,none⟩=false/\w'.frozen? ⟨w.heap.size+1,1,none⟩=false/\w'.frozen? ⟨w.heap.size+1,2,none⟩=false/\w'.frozen? ⟨w.heap.size+1+1,0,none⟩=false/\w'.frozen? ⟨w.heap.size+1+1,1,none⟩=false/\w'.frozen? ⟨w.heap.size+1+1,2,none⟩=false/\w'.cell? ⟨w.heap.size,0,none⟩=some (rv w' (w.heap.size) 0)/\w'.cell? ⟨w.heap.size,1,none⟩=some (rv w' (w.heap.size) 1)/\w'.cell? ⟨w.heap.size,2,none⟩=some (rv w' (w.heap.size) 2)/\w'.cell? ⟨w.heap.size+1,0,none⟩=some (rv w' (w.heap.size+1) 0)/\w'.cell? ⟨w.heap.size+1,1,none⟩=some (rv w' (w.heap.size+1) 1)/\w'.cell? ⟨w.heap.size+1,2,none⟩=some (rv w' (w.heap.size+1) 2)/\w'.cell? ⟨w.heap.size+1+1,0,none⟩=some (rv w' (w.heap.size+1+1) 0)/\w'.cell? ⟨w.heap.size+1+1,1,none⟩=some (rv w' (w.heap.size+1+1) 1)/\w'.cell? ⟨w.heap.size+1+1,2,none⟩=some (rv w' (w.heap.size+1+1) 2)) ((refine KS.out _ ?_;(with_reducible (repeat(first | assumption | apply A3.drew | apply A3.set0 | apply A3.set1 | apply A3.set2 | (refine A3.call ?_ (by assumption)))));done)) ((go_at_call 44;refine(Tx.out _).mono ?_;rintro e w1 ⟨rfl,b1⟩))
 have A2:=A0.drew.call b1
 obtain⟨s0,s1,s2,s3⟩:=nZ (x0:=.int .i64 (cC 4).1) (x1:=.int .i64 (cC 4).2.1) (x2:=.int .i64 (cC 4).2.2) (y0:=.int .i64 (cR 4).1) (y1:=.int .i64 (cR 4).2.1) (y2:=.int .i64 (cR 4).2.2) (z0:=.int .i64 (cU 4).1) (z1:=.int .i64 (cU 4).2.1) (z2:=.int .i64 (cU 4).2.2) A2
 have S0:=hid s0
 have S1:=hid s1
 have S2:=hid s2
 have S3:=hid s3
 clear KS A0 A2 s0 s1 s2 s3
 go_wp2
 refine bodyPost_ret ?_ rfl ⟨rfl,?_⟩
 ·exact bK results47 _ _ w.heap.size (w.heap.size+1) (w.heap.size+1+1) _ _ _ _ _ rfl rfl rfl S0.out S1.out S2.out underlying92 rfl (by kernel_rfl) (by kernel_rfl) (by kernel_rfl)
 ·exact S3.out.ab AW.out (Nat.le_refl _)
theorem rframe5(w:World):Calls prog 47 #[.int .i64 5] w fun e w'=>e=.returned (.tuple #[.agg #[.int .i64 (cC 5).1,.int .i64 (cC 5).2.1,.int .i64 (cC 5).2.2],.agg #[.int .i64 (cR 5).1,.int .i64 (cR 5).2.1,.int .i64 (cR 5).2.2],.agg #[.int .i64 (cU 5).1,.int .i64 (cU 5).2.1,.int .i64 (cU 5).2.2]])/\Below w.heap.size w w':=by
 have Tz:Hid (∀u,Calls prog 44 #[.agg #[.int .i64 0,.int .i64 0,.int .i64 0],.int .i64 (-1),.agg #[.int .i64 0,.int .i64 0,.int .i64 1]] u fun e w'=>e=.returned (.agg #[.int .i64 (0),.int .i64 (0),.int .i64 (-1)])/\Below u.heap.size u w'):=fun u=>aY (0,0,0) (-1) (0,0,1) u (by simp[Sm]) (by simp[Sm,sc])
 go_enter func47,ntmps47
 go_upto_region 16 with fail
 generalize hW:World.alloc _ _=W
 have AW:Hid (Ab w W):=by
  rw[<- hW]
  exact((((((((Ab.refl w).alloc _).alloc _).alloc _).alloc _).alloc _).alloc _).alloc _)
 have r0:W.heap[w.heap.size]? =some (.cells #[.int .i64 0,.int .i64 0,.int .i64 0] 92):=by
  rw[<- hW]
  repeat(first | exact aJ _ _ _ (by first | (simp;done) | (simp;omega)) | rw[Below.heap_alloc _ _ _ (by first | (simp;done) | (simp;omega))])
 have r1:W.heap[w.heap.size+1]? =some (.cells #[.int .i64 0,.int .i64 0,.int .i64 0] 92):=by
  rw[<- hW]
  repeat(first | exact aJ _ _ _ (by first | (simp;done) | (simp;omega)) | rw[Below.heap_alloc _ _ _ (by first | (simp;done) | (simp;omega))])
 have r2:W.heap[w.heap.size+1+1]? =some (.cells #[.int .i64 0,.int .i64 0,.int .i64 0] 92):=by
  rw[<- hW]
  repeat(first | exact aJ _ _ _ (by first | (simp;done) | (simp;omega)) | rw[Below.heap_alloc _ _ _ (by first | (simp;done) | (simp;omega))])
 have r3:W.heap[w.heap.size+1+1+1]? =some (.cells #[.int .i64 1,.int .i64 0,.int .i64 0] 92):=by
  rw[<- hW]
  repeat(first | exact aJ _ _ _ (by first | (simp;done) | (simp;omega)) | rw[Below.heap_alloc _ _ _ (by first | (simp;done) | (simp;omega))])
 have r4:W.heap[w.heap.size+1+1+1+1]? =some (.cells #[.int .i64 0,.int .i64 1,.int .i64 0] 92):=by
  rw[<- hW]
  repeat(first | exact aJ _ _ _ (by first | (simp;done) | (simp;omega)) | rw[Below.heap_alloc _ _ _ (by first | (simp;done) | (simp;omega))])
 have r5:W.heap[w.heap.size+1+1+1+1+1]? =some (.cells #[.int .i64 0,.int .i64 0,.int .i64 1] 92):=by
  rw[<- hW]
  repeat(first | exact aJ _ _ _ (by first | (simp;done) | (simp;omega)) | rw[Below.heap_alloc _ _ _ (by first | (simp;done) | (simp;omega))])
 have r6:W.heap[w.heap.size+1+1+1+1+1+1]? =some (.cells #[.int .i64 0,.int .i64 0,.int .i64 0] 92):=by
  rw[<- hW]
  repeat(first | exact aJ _ _ _ (by first | (simp;done) | (simp;omega)) | rw[Below.heap_alloc _ _ _ (by first | (simp;done) | (simp;omega))])
 have KS:Hid (∀w',A3 W w.heap.size w'->A3 W w.heap.size w'/\w'.cell? ⟨w.heap.size+1+1+1,0,none⟩=some (.int .i64 1)/\w'.cell? ⟨w.heap.size+1+1+1,1,none⟩=some (.int .i64 0)/\w'.cell? ⟨w.heap.size+1+1+1,2,none⟩=some (.int .i64 0)/\w'.cell? ⟨w.heap.size+1+1+1+1,0,none⟩=some (.int .i64 0)/\w'.cell? ⟨w.heap.size+1+1+1+1,1,none⟩=some (.int .i64 1)/\w'.cell? ⟨w.heap.size+1+1+1+1,2,none⟩=some (.int .i64 0)/\w'.cell? ⟨w.heap.size+1+1+1+1+1,0,none⟩=some (.int .i64 0)/\w'.cell? ⟨w.heap.size+1+1+1+1+1,1,none⟩=some (.int .i64 0)/\w'.cell? ⟨w.heap.size+1+1+1+1+1,2,none⟩=some (.int .i64 1)/\w'.cell? ⟨w.heap.size+1+1+1+1+1+1,0,none⟩=some (.int .i64 0)/\w'.cell? ⟨w.heap.size+1+1+1+1+1+1,1,none⟩=some (.int .i64 0)/\w'.cell? ⟨w.heap.size+1+1+1+1+1+1,2,none⟩=some (.int .i64 0)/\w'.frozen? ⟨w.heap.size,0,none⟩=false/\w'.frozen? ⟨w.heap.size,1,none⟩=false/\w'.frozen? ⟨w.heap.size,2,none⟩=false/\w'.frozen? ⟨w.heap.size+1,0,none⟩=false/\w'.frozen? ⟨w.heap.size+1,1,none⟩=false/\w'.frozen? ⟨w.heap.size+1,2,none⟩=false/\w'.frozen? ⟨w.heap.size+1+1,0,none⟩=false/\w'.frozen? ⟨w.heap.size+1+1,1,none⟩=false/\w'.frozen? ⟨w.heap.size+1+1,2,none⟩=false/\w'.cell? ⟨w.heap.size,0,none⟩=some (rv w' (w.heap.size) 0)/\w'.cell? ⟨w.heap.size,1,none⟩=some (rv w' (w.heap.size) 1)/\w'.cell? ⟨w.heap.size,2,none⟩=some (rv w' (w.heap.size) 2)/\w'.cell? ⟨w.heap.size+1,0,none⟩=some (rv w' (w.heap.size+1) 0)/\w'.cell? ⟨w.heap.size+1,1,none⟩=some (rv w' (w.heap.size+1) 1)/\w'.cell? ⟨w.heap.size+1,2,none⟩=some (rv w' (w.heap.size+1) 2)/\w'.cell? ⟨w.heap.size+1+1,0,none⟩=some (rv w' (w.heap.size+1+1) 0)/\w'.cell? ⟨w.heap.size+1+1,1,none⟩=some (rv w' (w.heap.size+1+1) 1)/\w'.cell? ⟨w.heap.size+1+1,2,none⟩=some (rv w' (w.heap.size+1+1) 2)):=by
  intro w' hw
  obtain⟨-,p0,p1,p2⟩:=rowfacts (hw.heap (by omega) r3)
  obtain⟨-,p3,p4,p5⟩:=rowfacts (hw.heap (by omega) r4)
  obtain⟨-,p6,p7,p8⟩:=rowfacts (hw.heap (by omega) r5)
  obtain⟨-,p9,p10,p11⟩:=rowfacts (hw.heap (by omega) r6)
  obtain⟨⟨f0,f1,f2⟩,c0,c1,c2⟩:=hw.facts 0 (by omega)
  obtain⟨⟨f3,f4,f5⟩,c3,c4,c5⟩:=hw.facts 1 (by omega)
  obtain⟨⟨f6,f7,f8⟩,c6,c7,c8⟩:=hw.facts 2 (by omega)
  exact⟨hw,p0,p1,p2,p3,p4,p5,p6,p7,p8,p9,p10,p11,f0,f1,f2,f3,f4,f5,f6,f7,f8,c0,c1,c2,c3,c4,c5,c6,c7,c8⟩
 have A0:A3 W w.heap.size W:=(Ab.refl W).a3 (fun j hj=>by
  rcases(show j=0\/j=1\/j=2 by omega)with rfl | rfl | rfl
  ·exact⟨_,_,_,r0⟩
  ·exact⟨_,_,_,r1⟩
  ·exact⟨_,_,_,r2⟩)
 clear r0 r1 r2 r3 r4 r5 r6 hW
 go_region_held3 (fun w'=>A3 W w.heap.size w'/\w'.cell? ⟨w.heap.size+1+1+1,0,none⟩=some (.int .i64 1)/\w'.cell? ⟨w.heap.size+1+1+1,1,none⟩=some (.int .i64 0)/\w'.cell? ⟨w.heap.size+1+1+1,2,none⟩=some (.int .i64 0)/\w'.cell? ⟨w.heap.size+1+1+1+1,0,none⟩=some (.int .i64 0)/\w'.cell? ⟨w.heap.size+1+1+1+1,1,none⟩=some (.int .i64 1)/\w'.cell? ⟨w.heap.size+1+1+1+1,2,none⟩=some (.int .i64 0)/\w'.cell? ⟨w.heap.size+1+1+1+1+1,0,none⟩=some (.int .i64 0)/\w'.cell? ⟨w.heap.size+1+1+1+1+1,1,none⟩=some (.int .i64 0)/\w'.cell? ⟨w.heap.size+1+1+1+1+1,2,none⟩=some (.int .i64 1)/\w'.cell? ⟨w.heap.size+1+1+1+1+1+1,0,none⟩=some (.int .i64 0)/\w'.cell? ⟨w.heap.size+1+1+1+1+1+1,1,none⟩=some (.int .i64 0)/\w'.cell? ⟨w.heap.size+1+1+1+1+1+1,2,none⟩=some (.int .i64 0)/\w'.frozen? ⟨w.heap.size,0,none⟩=false/\w'.frozen? ⟨w.heap.size,1,none⟩=false/\w'.frozen? ⟨w.heap.size,2,none⟩=false/\w'.frozen? ⟨w.heap.size+1,0,none⟩=false/\w'.frozen? ⟨w.heap.size+1,1,none⟩=false/\w'.frozen? ⟨w.heap.size+1,2,none⟩=false/\w'.frozen? ⟨w.heap.size+1+1,0,none⟩=false/\w'.frozen? ⟨w.heap.size+1+1,1,none⟩=false/\w'.frozen? ⟨w.heap.size+1+1,2,none⟩=false/\w'.cell? ⟨w.heap.size,0,none⟩=some (rv w' (w.heap.size) 0)/\w'.cell? ⟨w.heap.size,1,none⟩=some (rv w' (w.heap.size) 1)/\w'.cell? ⟨w.heap.size,2,none⟩=some (rv w' (w.heap.size) 2)/\w'.cell? ⟨w.heap.size+1,0,none⟩=some (rv w' (w.heap.size+1) 0)/\w'.cell? ⟨w.heap.size+1,1,none⟩=some (rv w' (w.heap.size+1) 1)/\w'.cell? ⟨w.heap.size+1,2,none⟩=some (rv w' (w.heap.size+1) 2)/\w'.cell? ⟨w.heap.size+1+1,0,none⟩=some (rv w' (w.heap.size+1+1) 0)/\w'.cell? ⟨w.heap.size+1+1,1,none⟩=some (rv w' (w.heap.size+1+1) 1)/\w'.cell? ⟨w.heap.size+1+1,2,none⟩=some (rv w' (w.heap.size+1+1) 2)) ((refine KS.out _ ?_;(with_reducible (repeat(first | assumption | apply A3.drew | apply A3.set0 | apply A3.set1 | apply A3.set2 | (refine A3.call ?_ (by assumption)))));done)) ((go_at_call 44;refine(Tz.out _).mono ?_;rintro e w1 ⟨rfl,b1⟩))
 have A2:=A0.drew.call b1
 obtain⟨s0,s1,s2,s3⟩:=nZ (x0:=.int .i64 (cC 5).1) (x1:=.int .i64 (cC 5).2.1) (x2:=.int .i64 (cC 5).2.2) (y0:=.int .i64 (cR 5).1) (y1:=.int .i64 (cR 5).2.1) (y2:=.int .i64 (cR 5).2.2) (z0:=.int .i64 (cU 5).1) (z1:=.int .i64 (cU 5).2.1) (z2:=.int .i64 (cU 5).2.2) A2
 have S0:=hid s0
 have S1:=hid s1
 have S2:=hid s2
 have S3:=hid s3
 clear KS A0 A2 s0 s1 s2 s3
 go_wp2
 refine bodyPost_ret ?_ rfl ⟨rfl,?_⟩
 ·exact bK results47 _ _ w.heap.size (w.heap.size+1) (w.heap.size+1+1) _ _ _ _ _ rfl rfl rfl S0.out S1.out S2.out underlying92 rfl (by kernel_rfl) (by kernel_rfl) (by kernel_rfl)
 ·exact S3.out.ab AW.out (Nat.le_refl _)
theorem hU(f:Nat)(w:World)(hf:f<6):Calls prog 47 #[.int .i64 f] w fun e w'=>e=.returned (.tuple #[.agg #[.int .i64 (cC f).1,.int .i64 (cC f).2.1,.int .i64 (cC f).2.2],.agg #[.int .i64 (cR f).1,.int .i64 (cR f).2.1,.int .i64 (cR f).2.2],.agg #[.int .i64 (cU f).1,.int .i64 (cU f).2.1,.int .i64 (cU f).2.2]])/\Below w.heap.size w w':=by
 rcases six hf with rfl | rfl | rfl | rfl | rfl | rfl
 ·exact rframe0 w
 ·exact rframe1 w
 ·exact rframe2 w
 ·exact rframe3 w
 ·exact rframe4 w
 ·exact rframe5 w
end
section
open Go.RowKit Cu
theorem lX(q:P3):pl (0,0,0) q=q:=by simp[pl]
end
section
open Go.RowKit Cu
theorem kV(n c:Nat)(hn:1<=n/\n<=32)(hc:c<6*n*n)(w:World):
  Calls prog 71 #[.int .i64 n,.int .i64 c] w fun e w'=>e=.returned (.tuple #[.int .i64 (cf n c),.int .i64 (ci n c),.int .i64 (cj n c),.bool true])/\Below w.heap.size w w':=by
 have h:=rO n c w
 have hin:inR c (clN n)=true:=by rw[aN,fC hn];omega
 rw[hin,show pF n c=(cf n c:Nat)by simp[pF,hin,cf],show pI n c=(ci n c:Nat)by simp[pI,hin,ci],show pJ n c=(cj n c:Nat)by simp[pJ,hin,cj]]at h
 exact h.mono fun _ _ ⟨he,k,hw⟩=>⟨he,hw ▸ (Ab.refl w).drewN k⟩
theorem pl_assoc(p q r:P3):pl (pl p q) r=pl p (pl q r):=by simp[pl,Int.add_assoc]
theorem pS(n c:Nat)(w:World)(hn:1<=n/\n<=32)(hc:c<6*n*n):
  Calls prog 45 #[.int .i64 n,.int .i64 c] w fun e w'=>e=.returned (.agg #[.int .i64 (md n (cf n c) (ci n c) (cj n c)).1,.int .i64 (md n (cf n c) (ci n c) (cj n c)).2.1,.int .i64 (md n (cf n c) (ci n c) (cj n c)).2.2])/\Below w.heap.size w w':=by
 obtain⟨h1,h2,h3,_⟩:=dX hn.1 hc
 have PLc:=fun u=>kV n c hn hc u
 obtain⟨f,hf⟩:=aC (cf n c)
 obtain⟨i,hi⟩:=aC (ci n c)
 obtain⟨j,hj⟩:=aC (cj n c)
 rw[hf,hi,hj]
 rw[hf,hi,hj]at PLc
 rw[hf]at h1
 rw[hi]at h2
 rw[hj]at h3
 obtain⟨a,ha⟩: ∃a:Int,2*(i:Int)+1 - n=a:=⟨_,rfl⟩
 obtain⟨b,hb⟩: ∃b:Int,2*(j:Int)+1 - n=b:=⟨_,rfl⟩
 have u1:IntKind.i64.wrap (IntKind.i64.wrap (IntKind.i64.wrap (2*(i:Int))+1) - n)=a:=by rw[wr (x:=2*(i:Int)) (by omega),wr (x:=2*(i:Int)+1) (by omega),wr (by omega),ha]
 have u2:IntKind.i64.wrap (IntKind.i64.wrap (IntKind.i64.wrap (2*(j:Int))+1) - n)=b:=by rw[wr (x:=2*(j:Int)) (by omega),wr (x:=2*(j:Int)+1) (by omega),wr (by omega),hb]
 have S1:Sm (sc n (cC f)):=cF (un_C h1) (by omega)
 have S2:Sm (sc a (cR f)):=cF (gS h1) (by omega)
 have S3:Sm (sc b (cU f)):=cF (un_U h1) (by omega)
 have S4:Sm (pl (sc n (cC f)) (sc a (cR f))):=by
  have x1:=aZ (un_C h1).1 32 (show -32<=(n:Int)/\(n:Int)<=32 by omega)
  have x2:=aZ (un_C h1).2.1 32 (show -32<=(n:Int)/\(n:Int)<=32 by omega)
  have x3:=aZ (un_C h1).2.2 32 (show -32<=(n:Int)/\(n:Int)<=32 by omega)
  have y1:=aZ (gS h1).1 32 (show -32<=a/\a<=32 by omega)
  have y2:=aZ (gS h1).2.1 32 (show -32<=a/\a<=32 by omega)
  have y3:=aZ (gS h1).2.2 32 (show -32<=a/\a<=32 by omega)
  simp only[Sm,pl,sc]
  omega
 have T1:Hid (∀u,Calls prog 44 #[.agg #[.int .i64 0,.int .i64 0,.int .i64 0],.int .i64 n,.agg #[.int .i64 (cC f).1,.int .i64 (cC f).2.1,.int .i64 (cC f).2.2]] u fun e w'=>e=.returned (.agg #[.int .i64 (sc n (cC f)).1,.int .i64 (sc n (cC f)).2.1,.int .i64 (sc n (cC f)).2.2])/\Below u.heap.size u w'):=fun u=>by
  have:=aY (0,0,0) n (cC f) u (by simp[Sm]) S1
  rw[lX]at this
  exact this
 have T2:=hid (fun u=>aY (sc n (cC f)) a (cR f) u S1 S2)
 have T3:=hid (fun u=>aY (pl (sc n (cC f)) (sc a (cR f))) b (cU f) u S4 S3)
 have E:md n f i j=pl (pl (sc n (cC f)) (sc a (cR f))) (sc b (cU f)):=by rw[pl_assoc,<- ha,<- hb];rfl
 rw[E]
 have PL:=hid PLc
 have FR:=hid (fun u=>hU f u h1)
 have A0:Ab w (w.alloc (.cells #[.int .i64 0,.int .i64 0,.int .i64 0] 92)):=bl1 _ _
 have AZ:=hid A0
 clear S1 S2 S3 S4 A0 E ha hb PLc hf hi hj h1 h2 h3 hn hc
 go_enter func45,ntmps45
 go_wp2_with fail
 refine(PL.out _).mono ?_
 rintro e w0 ⟨rfl,b0⟩
 go_wp2_with fail
 refine(FR.out _).mono ?_
 rintro e w1 ⟨rfl,b1⟩
 go_upto_region 3 with fail
 generalize hW:World.alloc _ _=W
 obtain⟨g5,hg5⟩:=aC w1.heap.size
 have r5:W.heap[g5]? =some (.cells #[.int .i64 (cC f).1,.int .i64 (cC f).2.1,.int .i64 (cC f).2.2] 92):=by
  rw[<- hW,<- hg5,Below.heap_alloc _ _ _ (by simp;omega)];exact heap_alloc2_old _ _ _
 have r6:W.heap[g5+1]? =some (.cells #[.int .i64 (cR f).1,.int .i64 (cR f).2.1,.int .i64 (cR f).2.2] 92):=by
  rw[<- hW,<- hg5,Below.heap_alloc _ _ _ (by simp)];exact heap_alloc2_new _ _ _
 have r7:W.heap[g5+1+1]? =some (.cells #[.int .i64 (cU f).1,.int .i64 (cU f).2.1,.int .i64 (cU f).2.2] 92):=by rw[<- hW,<- hg5];exact aV _ _ _ _
 have aw:Ab w1 W:=by rw[<- hW];exact bl3 _ _ _ _
 have a1:Ab (w.alloc (.cells #[.int .i64 0,.int .i64 0,.int .i64 0] 92)) w1:=Ab.call b0 b1
 have A1:Ab (w.alloc (.cells #[.int .i64 0,.int .i64 0,.int .i64 0] 92)) W:=a1.trans aw
 have r4:=A1.heap (heap_alloc_new _ _)
 have n5:w.heap.size+1<=g5:=by
  have:=a1.size
  rw[hg5]at this
  simp at this
  omega
 have KS:Hid (∀w',Abx W w.heap.size 3 92 w'->Abx W w.heap.size 3 92 w'/\w'.cell? ⟨g5,0,none⟩=some (.int .i64 (cC f).1)/\w'.cell? ⟨g5,1,none⟩=some (.int .i64 (cC f).2.1)/\w'.cell? ⟨g5,2,none⟩=some (.int .i64 (cC f).2.2)/\w'.cell? ⟨g5+1,0,none⟩=some (.int .i64 (cR f).1)/\w'.cell? ⟨g5+1,1,none⟩=some (.int .i64 (cR f).2.1)/\w'.cell? ⟨g5+1,2,none⟩=some (.int .i64 (cR f).2.2)/\w'.cell? ⟨g5+1+1,0,none⟩=some (.int .i64 (cU f).1)/\w'.cell? ⟨g5+1+1,1,none⟩=some (.int .i64 (cU f).2.1)/\w'.cell? ⟨g5+1+1,2,none⟩=some (.int .i64 (cU f).2.2)/\w'.frozen? ⟨w.heap.size,0,none⟩=false/\w'.frozen? ⟨w.heap.size,1,none⟩=false/\w'.frozen? ⟨w.heap.size,2,none⟩=false/\w'.cell? ⟨w.heap.size,0,none⟩=some (rv w' w.heap.size 0)/\w'.cell? ⟨w.heap.size,1,none⟩=some (rv w' w.heap.size 1)/\w'.cell? ⟨w.heap.size,2,none⟩=some (rv w' w.heap.size 2)):=by
  intro w' hw
  obtain⟨-,p3,p4,p5⟩:=rowfacts (hw.heap (by omega) r5)
  obtain⟨-,p6,p7,p8⟩:=rowfacts (hw.heap (by omega) r6)
  obtain⟨-,p9,p10,p11⟩:=rowfacts (hw.heap (by omega) r7)
  exact⟨hw,p3,p4,p5,p6,p7,p8,p9,p10,p11,hw.free 0,hw.free 1,hw.free 2,hw.some (by omega),hw.some (by omega),hw.some (by omega)⟩
 have A0:Abx W w.heap.size 3 92 W:=(Ab.refl W).x rfl r4
 have AW:=hid (AZ.out.trans A1)
 rw[hg5]
 clear r4 r5 r6 r7 hW hg5 aw a1 A1 b0 b1 AZ n5 PL FR
 go_region_held3 (fun w'=>Abx W w.heap.size 3 92 w'/\w'.cell? ⟨g5,0,none⟩=some (.int .i64 (cC f).1)/\w'.cell? ⟨g5,1,none⟩=some (.int .i64 (cC f).2.1)/\w'.cell? ⟨g5,2,none⟩=some (.int .i64 (cC f).2.2)/\w'.cell? ⟨g5+1,0,none⟩=some (.int .i64 (cR f).1)/\w'.cell? ⟨g5+1,1,none⟩=some (.int .i64 (cR f).2.1)/\w'.cell? ⟨g5+1,2,none⟩=some (.int .i64 (cR f).2.2)/\w'.cell? ⟨g5+1+1,0,none⟩=some (.int .i64 (cU f).1)/\w'.cell? ⟨g5+1+1,1,none⟩=some (.int .i64 (cU f).2.1)/\w'.cell? ⟨g5+1+1,2,none⟩=some (.int .i64 (cU f).2.2)/\w'.frozen? ⟨w.heap.size,0,none⟩=false/\w'.frozen? ⟨w.heap.size,1,none⟩=false/\w'.frozen? ⟨w.heap.size,2,none⟩=false/\w'.cell? ⟨w.heap.size,0,none⟩=some (rv w' w.heap.size 0)/\w'.cell? ⟨w.heap.size,1,none⟩=some (rv w' w.heap.size 1)/\w'.cell? ⟨w.heap.size,2,none⟩=some (rv w' w.heap.size 2)) ((refine KS.out _ ?_;(with_reducible (repeat(first | assumption | apply Abx.drew | apply Abx.set | (refine Abx.call ?_ (by assumption)))));done)) (first
  | (go_at_call_of 44 (cU f);refine(T3.out _).mono ?_;rintro e w4 ⟨rfl,b4⟩)
  | (go_at_call_of 44 (cR f);refine(T2.out _).mono ?_;rintro e w3 ⟨rfl,b3⟩)
  | (go_at_call 44;refine(T1.out _).mono ?_;rintro e w2 ⟨rfl,b2⟩))
 have A2:=((A0.drew.call b2).call b3).call b4
 clear KS A0
 go_wp2
 refine bodyPost_ret ?_ rfl ⟨rfl,?_⟩
 ·exact results_cell_row results45 _ _ w.heap.size _ _ (0,0) _ rfl (set3 A2) underlying92 rfl (by kernel_rfl)
 ·exact(((A2.set 0 _).set 1 _).set 2 _).ab AW.out (Nat.le_refl _)
theorem rway_at(n c s:Nat)(w:World)(hn:1<=n/\n<=32)(hc:c<6*n*n)(hs:s<4):
  Calls prog 46 #[.int .i64 n,.int .i64 c,.int .i64 s] w fun e w'=>e=.returned (.agg #[.int .i64 (wy (cf n c) s).1,.int .i64 (wy (cf n c) s).2.1,.int .i64 (wy (cf n c) s).2.2])/\Below w.heap.size w w':=by
 obtain⟨h1,_⟩:=dX hn.1 hc
 have PLc:=fun u=>kV n c hn hc u
 obtain⟨f,hf⟩:=aC (cf n c)
 rw[hf]
 rw[hf]at PLc h1
 have T2:Hid (∀u,Calls prog 44 #[.agg #[.int .i64 0,.int .i64 0,.int .i64 0],.int .i64 (-1),.agg #[.int .i64 (cR f).1,.int .i64 (cR f).2.1,.int .i64 (cR f).2.2]] u fun e w'=>e=.returned (.agg #[.int .i64 (sc (-1) (cR f)).1,.int .i64 (sc (-1) (cR f)).2.1,.int .i64 (sc (-1) (cR f)).2.2])/\Below u.heap.size u w'):=fun u=>by
  have:=aY (0,0,0) (-1) (cR f) u (by simp[Sm]) (cF (gS h1) (by omega))
  rw[lX]at this
  exact this
 have T3:Hid (∀u,Calls prog 44 #[.agg #[.int .i64 0,.int .i64 0,.int .i64 0],.int .i64 (-1),.agg #[.int .i64 (cU f).1,.int .i64 (cU f).2.1,.int .i64 (cU f).2.2]] u fun e w'=>e=.returned (.agg #[.int .i64 (sc (-1) (cU f)).1,.int .i64 (sc (-1) (cU f)).2.1,.int .i64 (sc (-1) (cU f)).2.2])/\Below u.heap.size u w'):=fun u=>by
  have:=aY (0,0,0) (-1) (cU f) u (by simp[Sm]) (cF (un_U h1) (by omega))
  rw[lX]at this
  exact this
 have PL:=hid PLc
 have FR:=hid (fun u=>hU f u h1)
 have A0:Ab w (w.alloc (.cells #[.int .i64 0,.int .i64 0,.int .i64 0] 92)):=bl1 _ _
 have AZ:=hid A0
 clear A0 PLc hf h1 hn hc
 rcases four hs with rfl | rfl | rfl | rfl<;>clear hs
 ·go_enter func46,ntmps46
  go_wp2_with fail
  refine(PL.out _).mono ?_
  rintro e w0 ⟨rfl,b0⟩
  go_wp2_with fail
  refine(FR.out _).mono ?_
  rintro e w1 ⟨rfl,b1⟩
  go_upto_region 3 with fail
  generalize hW:World.alloc _ _=W
  obtain⟨g5,hg5⟩:=aC w1.heap.size
  have r6:W.heap[g5+1]? =some (.cells #[.int .i64 (cR f).1,.int .i64 (cR f).2.1,.int .i64 (cR f).2.2] 92):=by
   rw[<- hW,<- hg5,Below.heap_alloc _ _ _ (by simp)];exact heap_alloc2_new _ _ _
  have r7:W.heap[g5+1+1]? =some (.cells #[.int .i64 (cU f).1,.int .i64 (cU f).2.1,.int .i64 (cU f).2.2] 92):=by rw[<- hW,<- hg5];exact aV _ _ _ _
  have aw:Ab w1 W:=by rw[<- hW];exact bl3 _ _ _ _
  have A1:Ab (w.alloc (.cells #[.int .i64 0,.int .i64 0,.int .i64 0] 92)) W:=(Ab.call b0 b1).trans aw
  have r4:=A1.heap (heap_alloc_new _ _)
  obtain⟨⟨o0,o1,o2⟩,o3,o4,o5⟩:=rowfacts r4
  obtain⟨-,x0,x1,x2⟩:=rowfacts r6
  have AW:=hid (AZ.out.trans A1)
  have R4:=hid r4
  have RR:=hid r6
  rw[hg5]
  clear r4 r6 r7 hW hg5 aw A1 b0 b1 AZ PL FR
  go_wp2
  refine bodyPost_ret ?_ rfl ⟨rfl,?_⟩
  ·exact results_cell_row results46 _ _ w.heap.size _ _ (0,0) _ rfl (dJ R4.out) underlying92 rfl (by kernel_rfl)
  ·exact((AW.out.setk (Nat.le_refl _) _).setk (Nat.le_refl _) _).setk (Nat.le_refl _) _
 ·go_enter func46,ntmps46
  go_wp2_with fail
  refine(PL.out _).mono ?_
  rintro e w0 ⟨rfl,b0⟩
  go_wp2_with fail
  refine(FR.out _).mono ?_
  rintro e w1 ⟨rfl,b1⟩
  go_upto_region 3 with fail
  generalize hW:World.alloc _ _=W
  obtain⟨g5,hg5⟩:=aC w1.heap.size
  have r6:W.heap[g5+1]? =some (.cells #[.int .i64 (cR f).1,.int .i64 (cR f).2.1,.int .i64 (cR f).2.2] 92):=by
   rw[<- hW,<- hg5,Below.heap_alloc _ _ _ (by simp)];exact heap_alloc2_new _ _ _
  have r7:W.heap[g5+1+1]? =some (.cells #[.int .i64 (cU f).1,.int .i64 (cU f).2.1,.int .i64 (cU f).2.2] 92):=by rw[<- hW,<- hg5];exact aV _ _ _ _
  have aw:Ab w1 W:=by rw[<- hW];exact bl3 _ _ _ _
  have A1:Ab (w.alloc (.cells #[.int .i64 0,.int .i64 0,.int .i64 0] 92)) W:=(Ab.call b0 b1).trans aw
  have r4:=A1.heap (heap_alloc_new _ _)
  obtain⟨⟨o0,o1,o2⟩,o3,o4,o5⟩:=rowfacts r4
  obtain⟨-,x0,x1,x2⟩:=rowfacts r7
  have AW:=hid (AZ.out.trans A1)
  have R4:=hid r4
  have RR:=hid r7
  rw[hg5]
  clear r4 r6 r7 hW hg5 aw A1 b0 b1 AZ PL FR
  go_wp2
  refine bodyPost_ret ?_ rfl ⟨rfl,?_⟩
  ·exact results_cell_row results46 _ _ w.heap.size _ _ (0,0) _ rfl (dJ R4.out) underlying92 rfl (by kernel_rfl)
  ·exact((AW.out.setk (Nat.le_refl _) _).setk (Nat.le_refl _) _).setk (Nat.le_refl _) _
 ·go_enter func46,ntmps46
  go_wp2_with fail
  refine(PL.out _).mono ?_
  rintro e w0 ⟨rfl,b0⟩
  go_wp2_with fail
  refine(FR.out _).mono ?_
  rintro e w1 ⟨rfl,b1⟩
  go_upto_region 3 with fail
  generalize hW:World.alloc _ _=W
  obtain⟨g5,hg5⟩:=aC w1.heap.size
  have r6:W.heap[g5+1]? =some (.cells #[.int .i64 (cR f).1,.int .i64 (cR f).2.1,.int .i64 (cR f).2.2] 92):=by
   rw[<- hW,<- hg5,Below.heap_alloc _ _ _ (by simp)];exact heap_alloc2_new _ _ _
  have r7:W.heap[g5+1+1]? =some (.cells #[.int .i64 (cU f).1,.int .i64 (cU f).2.1,.int .i64 (cU f).2.2] 92):=by rw[<- hW,<- hg5];exact aV _ _ _ _
  have aw:Ab w1 W:=by rw[<- hW];exact bl3 _ _ _ _
  have A1:Ab (w.alloc (.cells #[.int .i64 0,.int .i64 0,.int .i64 0] 92)) W:=(Ab.call b0 b1).trans aw
  have r4:=A1.heap (heap_alloc_new _ _)
  obtain⟨⟨o0,o1,o2⟩,o3,o4,o5⟩:=rowfacts r4
  obtain⟨-,x0,x1,x2⟩:=rowfacts r6
  have AW:=hid (AZ.out.trans A1)
  have R4:=hid r4
  have RR:=hid r6
  rw[hg5]
  clear r4 r6 r7 hW hg5 aw A1 b0 b1 AZ PL FR
  go_wp2_with fail
  refine(T2.out _).mono ?_
  rintro e w2 ⟨rfl,b2⟩
  have r4:=Ab.heap b2 R4.out
  clear o0 o1 o2 o3 o4 o5
  obtain⟨⟨o0,o1,o2⟩,o3,o4,o5⟩:=rowfacts r4
  have R4':=hid r4
  have AW':=hid (AW.out.call b2)
  clear r4 b2
  go_wp2
  refine bodyPost_ret ?_ rfl ⟨rfl,?_⟩
  ·exact results_cell_row results46 _ _ w.heap.size _ _ (0,0) _ rfl (dJ R4'.out) underlying92 rfl (by kernel_rfl)
  ·exact((AW'.out.setk (Nat.le_refl _) _).setk (Nat.le_refl _) _).setk (Nat.le_refl _) _
 ·go_enter func46,ntmps46
  go_wp2_with fail
  refine(PL.out _).mono ?_
  rintro e w0 ⟨rfl,b0⟩
  go_wp2_with fail
  refine(FR.out _).mono ?_
  rintro e w1 ⟨rfl,b1⟩
  go_upto_region 3 with fail
  generalize hW:World.alloc _ _=W
  obtain⟨g5,hg5⟩:=aC w1.heap.size
  have r6:W.heap[g5+1]? =some (.cells #[.int .i64 (cR f).1,.int .i64 (cR f).2.1,.int .i64 (cR f).2.2] 92):=by
   rw[<- hW,<- hg5,Below.heap_alloc _ _ _ (by simp)];exact heap_alloc2_new _ _ _
  have r7:W.heap[g5+1+1]? =some (.cells #[.int .i64 (cU f).1,.int .i64 (cU f).2.1,.int .i64 (cU f).2.2] 92):=by rw[<- hW,<- hg5];exact aV _ _ _ _
  have aw:Ab w1 W:=by rw[<- hW];exact bl3 _ _ _ _
  have A1:Ab (w.alloc (.cells #[.int .i64 0,.int .i64 0,.int .i64 0] 92)) W:=(Ab.call b0 b1).trans aw
  have r4:=A1.heap (heap_alloc_new _ _)
  obtain⟨⟨o0,o1,o2⟩,o3,o4,o5⟩:=rowfacts r4
  obtain⟨-,x0,x1,x2⟩:=rowfacts r7
  have AW:=hid (AZ.out.trans A1)
  have R4:=hid r4
  have RR:=hid r7
  rw[hg5]
  clear r4 r6 r7 hW hg5 aw A1 b0 b1 AZ PL FR
  go_wp2_with fail
  refine(T3.out _).mono ?_
  rintro e w2 ⟨rfl,b2⟩
  have r4:=Ab.heap b2 R4.out
  clear o0 o1 o2 o3 o4 o5
  obtain⟨⟨o0,o1,o2⟩,o3,o4,o5⟩:=rowfacts r4
  have R4':=hid r4
  have AW':=hid (AW.out.call b2)
  clear r4 b2
  go_wp2
  refine bodyPost_ret ?_ rfl ⟨rfl,?_⟩
  ·exact results_cell_row results46 _ _ w.heap.size _ _ (0,0) _ rfl (dJ R4'.out) underlying92 rfl (by kernel_rfl)
  ·exact((AW'.out.setk (Nat.le_refl _) _).setk (Nat.le_refl _) _).setk (Nat.le_refl _) _
end
end Go.Proofs.YtilfdnipahabbaaDoor
