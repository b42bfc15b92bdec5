/-
  Some of the texts of this proof, one behind the other.
-/
import Derived.Deep.RegionHeld3
import Derived.Deep.AppendSrc
import Derived.Deep.AppendLies
import Derived.Test.YtaphajlpbgcfjaaGreatDoorMa11
set_option maxRecDepth 100000
set_option maxHeartbeats 400000000
namespace Go.Proofs.YtaphajlpbgcfjaaGreatDoor
open _root_.Go.Proofs.Tryz
section
open Go.RowKit Tf Cu Go.Deep
attribute [local go_sem] aK aL aP aQ aR aV aW aF
namespace St
open Ss Fc
def LkR(W:Nat->Int)(b1 b2 b3 b4:Nat)(v:World):Prop:=v.rowIs b1 22 6 (fun _=>.float .f64 0)/\v.rowIs b2 2 6 (fun i=>.int .i64 (W i))/\v.rowIs b3 2 6 (fun _=>.int .i64 0)/\v.rowIs b4 22 12 (fun _=>.float .f64 0)
theorem LkR.to{W:Nat->Int}{b1 b2 b3 b4:Nat}{v v':World}(h:LkR W b1 b2 b3 b4 v)(a:Ab v v'):LkR W b1 b2 b3 b4 v':=⟨rowIs.ab h.1 a,rowIs.ab h.2.1 a,rowIs.ab h.2.2.1 a,rowIs.ab h.2.2.2 a⟩
theorem sea_over{U z:World}{g:Nat}{vv:Value}{n1 n2 n3 n4:Nat}{A:Nat->Nat}{B C:Nat->Int}{D:Nat->Nat}{sk st:Int}{x0 x1 x2 x3 x4 x5:Value}(q:U.heap[g]? =some (.cells #[x0,x1,x2,x3,x4,x5] 29))(b:Ab U z)(os:OwnS U.heap.size vv n1 n2 n3 n4 A B C D sk st z)(hb:Bnd n1 n2 n3 n4 A B C D):
  ∃p1 c1 p2 c2 p3 c3 p4 c4,vv=.agg #[.slice p1 n1 c1,.slice p2 n2 c2,.slice p3 n3 c3,.slice p4 n4 c4,.int .i64 sk,.int .i64 st]/\SeaP g p1 c1 p2 c2 p3 c3 p4 c4 n1 n2 n3 n4 A B C D sk st ((((((z.setCell ⟨g,0,none⟩ (.slice p1 n1 c1)).setCell ⟨g,1,none⟩ (.slice p2 n2 c2)).setCell ⟨g,2,none⟩ (.slice p3 n3 c3)).setCell ⟨g,3,none⟩ (.slice p4 n4 c4)).setCell ⟨g,4,none⟩ (.int .i64 sk)).setCell ⟨g,5,none⟩ (.int .i64 st)):=by
 obtain⟨p1,c1,p2,c2,p3,c3,p4,c4,e,⟨i1,i2,i3,i4⟩,⟨o1,o2,o3,o4⟩,dj⟩:=wZ os hb.1 hb.2.1 hb.2.2.1 hb.2.2.2
 have lt:=Rv.aX q
 have ne: ∀(t:TypeId) (p:Option Addr) (n c:Nat) (l:List Value),OV t U.heap.size (.slice p n c) l z-> ∀b o,p=some ⟨b,o,none⟩->b≠g:=fun t p n c l h b o e=>by
  subst e
  have:=(h.blk (k:=b) rfl).1
  omega
 have fl: ∀(p:Option Addr) (n:Nat) (f:Nat->Nat) (v:World) (k:Nat) (u:Value),(∀b o,p=some ⟨b,o,none⟩->b≠g)->IsFl v p n f->IsFl (v.setCell ⟨g,k,none⟩ u) p n f:=fun p n f v k u hn h=>jJ _ h hn
 have it: ∀(p:Option Addr) (n:Nat) (f:Nat->Int) (v:World) (k:Nat) (u:Value),(∀b o,p=some ⟨b,o,none⟩->b≠g)->Sh.IsI v p n f->Sh.IsI (v.setCell ⟨g,k,none⟩ u) p n f:=fun p n f v k u hn h=>jK _ h hn
 have n1:=ne _ _ _ _ _ o1
 have n2:=ne _ _ _ _ _ o2
 have n3:=ne _ _ _ _ _ o3
 have n4:=ne _ _ _ _ _ o4
 exact⟨p1,c1,p2,c2,p3,c3,p4,c4,e,row6 (Ab.heap b q),fl _ _ _ _ _ _ n1 (fl _ _ _ _ _ _ n1 (fl _ _ _ _ _ _ n1 (fl _ _ _ _ _ _ n1 (fl _ _ _ _ _ _ n1 (fl _ _ _ _ _ _ n1 i1))))),it _ _ _ _ _ _ n2 (it _ _ _ _ _ _ n2 (it _ _ _ _ _ _ n2 (it _ _ _ _ _ _ n2 (it _ _ _ _ _ _ n2 (it _ _ _ _ _ _ n2 i2))))),it _ _ _ _ _ _ n3 (it _ _ _ _ _ _ n3 (it _ _ _ _ _ _ n3 (it _ _ _ _ _ _ n3 (it _ _ _ _ _ _ n3 (it _ _ _ _ _ _ n3 i3))))),fl _ _ _ _ _ _ n4 (fl _ _ _ _ _ _ n4 (fl _ _ _ _ _ _ n4 (fl _ _ _ _ _ _ n4 (fl _ _ _ _ _ _ n4 (fl _ _ _ _ _ _ n4 i4)))))⟩
theorem zP{U z:World}{g:Nat}{x y u v:Value}{p:Option Addr}{n:Nat}{H:Nat->Int}(q:U.heap[g]? =some (.cells #[x,y] 46))(b:Ab U z)(h:Sh.IsI z p n H)(hp: ∀b o,p=some ⟨b,o,none⟩->U.heap.size<=b):
  ((z.setCell ⟨g,0,none⟩ u).setCell ⟨g,1,none⟩ v).heap[g]? =some (.cells #[u,v] 46)/\Sh.IsI ((z.setCell ⟨g,0,none⟩ u).setCell ⟨g,1,none⟩ v) p n H:=by
 have lt:=Rv.aX q
 have hn: ∀b o,p=some ⟨b,o,none⟩->b≠g:=fun b o e=>by have:=hp b o e;omega
 have h1:=aM (v:=u) (k:=0) (Ab.heap b q)
 have h2:=aM (v:=v) (k:=1) h1
 exact⟨by simpa using h2,jK _ (jK _ h hn) hn⟩
def Qs(V:World)(gs gt:Nat)(o:Obj)(w:World):Prop:=(Ab V w/\w.heap[gs]? =some o)/\gs≠gt/\V.heap.size<=gt
theorem Qs.drew{V w:World}{gs gt:Nat}{o:Obj}(h:Qs V gs gt o w):Qs V gs gt o w.drew:=⟨⟨h.1.1.drew,h.1.2⟩,h.2⟩
theorem Qs.to{V w w':World}{gs gt:Nat}{o:Obj}(h:Qs V gs gt o w)(a:Ab w w'):Qs V gs gt o w':=⟨⟨h.1.1.trans a,Ab.heap a h.1.2⟩,h.2⟩
theorem Qs.set{V w:World}{gs gt:Nat}{o:Obj}(h:Qs V gs gt o w)(k:Nat)(v:Value):Qs V gs gt o (w.setCell ⟨gt,k,none⟩ v):=⟨⟨h.1.1.setk h.2.2 _,(bH h.2.1).trans h.1.2⟩,h.2⟩
theorem Ci(F1:Nat->Nat)(F2 F3:Nat->Int)(F4:Nat->Nat)(H1:Nat->Int)(G1:Nat->Nat)(G2 G3:Nat->Int)(G4:Nat->Nat)(w:World)
  (NW:Hid (∀v,Ab w v->Calls prog 13 #[.int .i64 1] v fun e w'=> ∃gb,e=.returned (.tuple #[.pointer (some ⟨gb,0,none⟩),.int .i64 0])/\Below v.heap.size v w'/\GridOf 1 gb w'))
  (LK:Hid (∀v gb,GridOf 1 gb v->Calls prog 38 #[.pointer (some ⟨gb,0,none⟩)] v fun e w'=> ∃b1 b2 b3 b4,e=.returned (.agg #[.slice (some ⟨b1,0,none⟩) 6 6,.slice (some ⟨b2,0,none⟩) 6 6,.slice (some ⟨b3,0,none⟩) 6 6,.slice (some ⟨b4,0,none⟩) 12 12,.int .i64 0,.int .i64 0])/\Below v.heap.size v w'/\LkR w1 b1 b2 b3 b4 w'/\(v.heap.size<=b1/\v.heap.size<=b2/\v.heap.size<=b3/\v.heap.size<=b4)/\b1≠b2/\b1≠b3/\b1≠b4/\b2≠b3/\b2≠b4/\b3≠b4))
  (PL:Hid (∀v,Calls prog 39 #[] v fun e w'=>e=.returned (.agg #[.int .i64 1,.float .f64 4602678819172646912,.float .f64 4607182418800017408,.float .f64 0,.int .i64 0,.bool false,.slice none 0 0])/\Below v.heap.size v w'))
  (O1:Hid (∀v gb b1 b2 b3 b4,Ab w v->GridOf 1 gb v->LkR w1 b1 b2 b3 b4 v->Calls prog 14 #[.pointer (some ⟨gb,0,none⟩),.agg #[.int .i64 1,.float .f64 4602678819172646912,.float .f64 4607182418800017408,.float .f64 0,.int .i64 0,.bool false,.slice none 0 0],.agg #[.slice (some ⟨b1,0,none⟩) 6 6,.slice (some ⟨b2,0,none⟩) 6 6,.slice (some ⟨b3,0,none⟩) 6 6,.slice (some ⟨b4,0,none⟩) 12 12,.int .i64 0,.int .i64 0]] v fun e w'=> ∃vv,e=.returned (.tuple #[vv,.int .i64 0])/\Below v.heap.size v w'/\OwnS v.heap.size vv 6 6 6 12 F1 F2 F3 F4 0 1 w'))
  (FL:Hid (∀v gb b1 b2 b3 b4,Ab w v->GridOf 1 gb v->LkR w1 b1 b2 b3 b4 v->Calls prog 17 #[.pointer (some ⟨gb,0,none⟩),.agg #[.int .i64 1,.float .f64 4602678819172646912,.float .f64 4607182418800017408,.float .f64 0,.int .i64 0,.bool false,.slice none 0 0],.agg #[.slice (some ⟨b1,0,none⟩) 6 6,.slice (some ⟨b2,0,none⟩) 6 6,.slice (some ⟨b3,0,none⟩) 6 6,.slice (some ⟨b4,0,none⟩) 12 12,.int .i64 0,.int .i64 0]] v fun e w'=> ∃p1 c1 p2 c2,e=.returned (.tuple #[.agg #[.slice p1 12 c1,.slice p2 12 c2],.int .i64 0])/\Below v.heap.size v w'/\Sh.IsI w' p1 12 H1/\ ∀b o,p1=some ⟨b,o,none⟩->v.heap.size<=b))
  (O2:Hid (∀v gb b1 b2 b3 b4,Ab w v->GridOf 1 gb v->LkR w2 b1 b2 b3 b4 v->Calls prog 14 #[.pointer (some ⟨gb,0,none⟩),.agg #[.int .i64 1,.float .f64 4602678819172646912,.float .f64 4607182418800017408,.float .f64 0,.int .i64 0,.bool false,.slice none 0 0],.agg #[.slice (some ⟨b1,0,none⟩) 6 6,.slice (some ⟨b2,0,none⟩) 6 6,.slice (some ⟨b3,0,none⟩) 6 6,.slice (some ⟨b4,0,none⟩) 12 12,.int .i64 0,.int .i64 0]] v fun e w'=> ∃vv,e=.returned (.tuple #[vv,.int .i64 0])/\Below v.heap.size v w'/\OwnS v.heap.size vv 6 6 6 12 G1 G2 G3 G4 0 1 w'))
  (BF:Hid (Bnd 6 6 6 12 F1 F2 F3 F4)) (BG:Hid (Bnd 6 6 6 12 G1 G2 G3 G4))
  (E1:Hid (eqS 6 6 6 12 F1 F2 F3 F4 0 1 6 6 6 12 (fun _=>0) w1 (fun _=>0) (fun _=>0) 0 1=true)) (E2:Hid (eqL 12 12 H1 (fun _=>0)=true))
  (g1:G2 1=1870009029) (g3:G2 3=1870009029) (g2:G2 2=1431655765) (s0:G4 0=4600040671590431692) (s3:G4 3=4600040671590431692):
  Calls prog 9 #[] w fun e w'=>e=.returned (.bool true)/\Below w.heap.size w w':=by
 have GG:=hid (And.intro g1 (And.intro g3 (And.intro g2 (And.intro s0 s3))))
 clear g1 g3 g2 s0 s3
 go_enter func9,ntmps9
 go_wp2_with fail
 refine(NW.out w (Ab.refl w)).mono ?_
 rintro e9 v1 ⟨gb,rfl,b1',g1'⟩
 have A1:Hid (Ab w v1):=b1'
 have K1:=hid g1'
 clear b1' g1' NW
 go_wp2_with fail
 refine(LK.out v1 gb K1.out).mono ?_
 rintro e9 v2 ⟨b1,b2,b3,b4,rfl,bb,hr,hl,hn⟩
 have B2:Hid (Ab v1 v2):=bb
 have L2:=hid hr
 have LL:=hid hl
 have NN:=hid hn
 have GLT:Hid (b1<v2.heap.size/\b2<v2.heap.size/\b3<v2.heap.size/\b4<v2.heap.size):=⟨hr.1.lt,hr.2.1.lt,hr.2.2.1.lt,hr.2.2.2.lt⟩
 clear bb hr hl hn LK
 go_upto_region 5 with fail
 have R3:=hid (heap_alloc_new v2 (.cells #[.slice (some ⟨b1,0,none⟩) 6 6,.slice (some ⟨b2,0,none⟩) 6 6,.slice (some ⟨b3,0,none⟩) 6 6,.slice (some ⟨b4,0,none⟩) 12 12,.int .i64 0,.int .i64 0] 29))
 have B3:Hid (Ab v1 (v2.alloc (.cells #[.slice (some ⟨b1,0,none⟩) 6 6,.slice (some ⟨b2,0,none⟩) 6 6,.slice (some ⟨b3,0,none⟩) 6 6,.slice (some ⟨b4,0,none⟩) 12 12,.int .i64 0,.int .i64 0] 29))):=B2.out.trans (bl1 _ _)
 have L3:=hid (L2.out.to (bl1 v2 (.cells #[.slice (some ⟨b1,0,none⟩) 6 6,.slice (some ⟨b2,0,none⟩) 6 6,.slice (some ⟨b3,0,none⟩) 6 6,.slice (some ⟨b4,0,none⟩) 12 12,.int .i64 0,.int .i64 0] 29)))
 generalize hW:World.alloc v2 _=V3 at*
 obtain⟨gs,hgs⟩:=aD v2.heap.size
 rw[hgs]at R3 GLT ⊢
 have GS:Hid (v1.heap.size<=gs):=by show _<=_;rw[<- hgs];exact B2.out.size
 clear hgs hW B2 L2
 have A3:Hid (Ab w V3):=A1.out.trans B3.out
 have K3:=hid (K1.out.to B3.out)
 have y0:V3.cell? ⟨b2,0,none⟩=some (.int .i64 1431655765):=L3.out.2.1.cell (show 0<6 by omega)
 obtain⟨x0,x1,x2,x3,x4,x5⟩:=aE R3.out
 go_upto_region 7 with fail
 clear y0
 go_cut [2,4]from 25 to 31 (fun s2 s4 wx=> ∃gt tp1 tc1 tp2 tc2 tp3 tc3 tp4 tc4,s2=.int .i64 0/\s4=.pointer (some ⟨gt,0,none⟩)/\Ab V3 wx/\V3.heap.size<=gt/\SeaP gt tp1 tc1 tp2 tc2 tp3 tc3 tp4 tc4 6 6 6 12 F1 F2 F3 F4 0 1 wx)
 case first=>
  clear x0 x1 x2 x3 x4 x5
  have aw:Ab w V3:=A3.out
  have av:Ab V3 V3:=Ab.refl _
  have KS:Hid (∀w',Ab V3 w'->Ab V3 w'/\w'.cell? ⟨gs,0,none⟩=some (.slice (some ⟨b1,0,none⟩) 6 6)/\w'.cell? ⟨gs,1,none⟩=some (.slice (some ⟨b2,0,none⟩) 6 6)/\w'.cell? ⟨gs,2,none⟩=some (.slice (some ⟨b3,0,none⟩) 6 6)/\w'.cell? ⟨gs,3,none⟩=some (.slice (some ⟨b4,0,none⟩) 12 12)/\w'.cell? ⟨gs,4,none⟩=some (.int .i64 0)/\w'.cell? ⟨gs,5,none⟩=some (.int .i64 0)):=fun w' h=>⟨h,aA 0 (h.heap R3.out),aA 1 (h.heap R3.out),aA 2 (h.heap R3.out),aA 3 (h.heap R3.out),aA 4 (h.heap R3.out),aA 5 (h.heap R3.out)⟩
  go_region_held3 (fun w'=>Ab V3 w'/\w'.cell? ⟨gs,0,none⟩=some (.slice (some ⟨b1,0,none⟩) 6 6)/\w'.cell? ⟨gs,1,none⟩=some (.slice (some ⟨b2,0,none⟩) 6 6)/\w'.cell? ⟨gs,2,none⟩=some (.slice (some ⟨b3,0,none⟩) 6 6)/\w'.cell? ⟨gs,3,none⟩=some (.slice (some ⟨b4,0,none⟩) 12 12)/\w'.cell? ⟨gs,4,none⟩=some (.int .i64 0)/\w'.cell? ⟨gs,5,none⟩=some (.int .i64 0)) ((refine KS.out _ ?_;(with_reducible (repeat(first | assumption | apply Ab.drew | apply Ab.alloc | (refine Ab.setk ?_ (by first | assumption | exact Nat.le_refl _) _))));done)) (first
   | (go_at_call 39;refine(PL.out _).mono ?_;rintro e9 z1 ⟨rfl,c1⟩;have az1:Ab V3 z1:=(show Ab V3 _ by with_reducible (repeat(first | assumption | apply Ab.drew | apply Ab.alloc))).trans c1;have sz1:V3.heap.size<=z1.heap.size:=az1.size;(try(have q1:=Ab.heap c1 (heap_alloc_new _ _))))
   | (go_at_call 14;refine(O1.out _ gb b1 b2 b3 b4 (aw.trans (show Ab V3 _ by with_reducible (repeat(first | assumption | apply Ab.drew | apply Ab.alloc)))) (K3.out.to (show Ab V3 _ by with_reducible (repeat(first | assumption | apply Ab.drew | apply Ab.alloc)))) (L3.out.to (show Ab V3 _ by with_reducible (repeat(first | assumption | apply Ab.drew | apply Ab.alloc))))).mono ?_;rintro e9 z2 ⟨vv,rfl,c2,os⟩;have az2:Ab V3 z2:=(show Ab V3 _ by with_reducible (repeat(first | assumption | apply Ab.drew | apply Ab.alloc))).trans c2;first
     | (have q0:=q1;obtain⟨tp1,tc1,tp2,tc2,tp3,tc3,tp4,tc4,rfl,q2,FIN⟩:=EC q0 c2 os BF.out;have t0:=aA 0 q2;have f0:=aG q2 0;have t1:=aA 1 q2;have f1:=aG q2 1;have t2:=aA 2 q2;have f2:=aG q2 2;have t3:=aA 3 q2;have f3:=aG q2 3;have t4:=aA 4 q2;have f4:=aG q2 4;have t5:=aA 5 q2;have f5:=aG q2 5;skip)
     | (have q0:=Ab.heap c2 (heap_alloc_new _ _);obtain⟨tp1,tc1,tp2,tc2,tp3,tc3,tp4,tc4,rfl,q2,FIN⟩:=EC (heap_alloc_new _ _) c2 os BF.out;have t0:=aA 0 q2;have f0:=aG q2 0;have t1:=aA 1 q2;have f1:=aG q2 1;have t2:=aA 2 q2;have f2:=aG q2 2;have t3:=aA 3 q2;have f3:=aG q2 3;have t4:=aA 4 q2;have f4:=aG q2 4;have t5:=aA 5 q2;have f5:=aG q2 5;skip)
     | (obtain⟨tp1,tc1,tp2,tc2,tp3,tc3,tp4,tc4,rfl,FIN⟩:=sea_new os BF.out)))
  all_goals(try go_wp2_with fail)
  all_goals(try go_meet)
  all_goals first
   | (have q9:=q1;exact⟨_,_,_,_,_,_,_,_,_,rfl,rfl,(((((az2.setk (Nat.le_refl _) _).setk (Nat.le_refl _) _).setk (Nat.le_refl _) _).setk (Nat.le_refl _) _).setk (Nat.le_refl _) _).setk (Nat.le_refl _) _,Nat.le_refl _,FIN⟩)
   | (have q9:=q2;exact⟨_,_,_,_,_,_,_,_,_,rfl,rfl,(((((az2.setk sz1 _).setk sz1 _).setk sz1 _).setk sz1 _).setk sz1 _).setk sz1 _,sz1,FIN⟩)
   | exact⟨_,_,_,_,_,_,_,_,_,rfl,rfl,az2.alloc _,az2.size,FIN.1,FIN.2.1⟩
 case rest=>
  obtain⟨gt,tp1,tc1,tp2,tc2,tp3,tc3,tp4,tc4,rfl,rfl,ac,lt4,sp4⟩:=hcut
  rename World=>V4
  have A4:Hid (Ab w V4):=A3.out.trans ac
  have R4:=hid (Ab.heap ac R3.out)
  have L4:=hid (L3.out.to ac)
  have K4:=hid (K3.out.to ac)
  have B4:Hid (Ab v1 V4):=B3.out.trans ac
  have T4:=hid sp4
  have GT:Hid (V3.heap.size<=gt):=lt4
  have GL:Hid (gs<V3.heap.size):=Rv.aX R3.out
  clear ac lt4 sp4 A3 R3 L3 K3 B3 x0 x1 x2 x3 x4 x5 O1
  obtain⟨x0,x1,x2,x3,x4,x5⟩:=aE R4.out
  go_upto_region 10 with fail
  obtain⟨C5,U5⟩:=aO V4 (.cells #[.slice (some ⟨b1,0,none⟩) 6 6,.slice (some ⟨b2,0,none⟩) 6 6,.slice (some ⟨b3,0,none⟩) 6 6,.slice (some ⟨b4,0,none⟩) 12 12,.int .i64 0,.int .i64 1] 29)
  generalize hW:World.alloc V4 _=V5 at*
  obtain⟨gu,hgu⟩:=aD V4.heap.size
  rw[hgu]at U5 ⊢
  clear hgu hW x0 x1 x2 x3 x4 x5
  have A5:Hid (Ab w V5):=A4.out.trans C5.out
  have R5:=hid (Ab.heap C5.out R4.out)
  have L5:=hid (L4.out.to C5.out)
  have K5:=hid (K4.out.to C5.out)
  have B5:Hid (Ab v1 V5):=B4.out.trans C5.out
  have T5:Hid (SeaP gt tp1 tc1 tp2 tc2 tp3 tc3 tp4 tc4 6 6 6 12 F1 F2 F3 F4 0 1 V5):=⟨Ab.heap C5.out T4.out.1,T4.out.2.1.below C5.out,T4.out.2.2.1.below C5.out,T4.out.2.2.2.1.below C5.out,T4.out.2.2.2.2.below C5.out⟩
  clear A4 R4 L4 K4 B4 T4 C5
  go_cut [6,7]from 34 to 40 (fun s6 s7 wx=> ∃gf fp1 fc1 fp2 fc2,s6=.pointer (some ⟨gf,0,none⟩)/\s7=.int .i64 0/\Ab V5 wx/\wx.heap[gf]? =some (.cells #[.slice fp1 12 fc1,.slice fp2 12 fc2] 46)/\Sh.IsI wx fp1 12 H1)
  case first=>
   have aw:Ab w V5:=A5.out
   have av:Ab V5 V5:=Ab.refl _
   have KS:Hid (∀w',Ab V5 w'->Ab V5 w'/\w'.cell? ⟨gs,0,none⟩=some (.slice (some ⟨b1,0,none⟩) 6 6)/\w'.cell? ⟨gs,1,none⟩=some (.slice (some ⟨b2,0,none⟩) 6 6)/\w'.cell? ⟨gs,2,none⟩=some (.slice (some ⟨b3,0,none⟩) 6 6)/\w'.cell? ⟨gs,3,none⟩=some (.slice (some ⟨b4,0,none⟩) 12 12)/\w'.cell? ⟨gs,4,none⟩=some (.int .i64 0)/\w'.cell? ⟨gs,5,none⟩=some (.int .i64 0)):=fun w' h=>⟨h,aA 0 (h.heap R5.out),aA 1 (h.heap R5.out),aA 2 (h.heap R5.out),aA 3 (h.heap R5.out),aA 4 (h.heap R5.out),aA 5 (h.heap R5.out)⟩
   go_region_held3 (fun w'=>Ab V5 w'/\w'.cell? ⟨gs,0,none⟩=some (.slice (some ⟨b1,0,none⟩) 6 6)/\w'.cell? ⟨gs,1,none⟩=some (.slice (some ⟨b2,0,none⟩) 6 6)/\w'.cell? ⟨gs,2,none⟩=some (.slice (some ⟨b3,0,none⟩) 6 6)/\w'.cell? ⟨gs,3,none⟩=some (.slice (some ⟨b4,0,none⟩) 12 12)/\w'.cell? ⟨gs,4,none⟩=some (.int .i64 0)/\w'.cell? ⟨gs,5,none⟩=some (.int .i64 0)) ((refine KS.out _ ?_;(with_reducible (repeat(first | assumption | apply Ab.drew | apply Ab.alloc | (refine Ab.setk ?_ (by first | assumption | exact Nat.le_refl _) _))));done)) (first
    | (go_at_call 39;refine(PL.out _).mono ?_;rintro e9 z1 ⟨rfl,c1⟩;have az1:Ab V5 z1:=(show Ab V5 _ by with_reducible (repeat(first | assumption | apply Ab.drew | apply Ab.alloc))).trans c1;have sz1:V5.heap.size<=z1.heap.size:=az1.size;(try(have q1:=Ab.heap c1 (heap_alloc_new _ _))))
    | (go_at_call 17;refine(FL.out _ gb b1 b2 b3 b4 (aw.trans (show Ab V5 _ by with_reducible (repeat(first | assumption | apply Ab.drew | apply Ab.alloc)))) (K5.out.to (show Ab V5 _ by with_reducible (repeat(first | assumption | apply Ab.drew | apply Ab.alloc)))) (L5.out.to (show Ab V5 _ by with_reducible (repeat(first | assumption | apply Ab.drew | apply Ab.alloc))))).mono ?_;rintro e9 z2 ⟨fp1,fc1,fp2,fc2,rfl,c2,hi,hb⟩;have az2:Ab V5 z2:=(show Ab V5 _ by with_reducible (repeat(first | assumption | apply Ab.drew | apply Ab.alloc))).trans c2;first
      | (have q0:=q1;have q2:=Ab.heap c2 q0;have FIN:=zP (u:=.slice fp1 12 fc1) (v:=.slice fp2 12 fc2) q0 c2 hi hb;have t0:=aA 0 q2;have f0:=aG q2 0;have t1:=aA 1 q2;have f1:=aG q2 1;skip)
      | (have q2:=Ab.heap c2 (heap_alloc_new _ _);have FIN:=zP (u:=.slice fp1 12 fc1) (v:=.slice fp2 12 fc2) (heap_alloc_new _ _) c2 hi hb;have t0:=aA 0 q2;have f0:=aG q2 0;have t1:=aA 1 q2;have f1:=aG q2 1;skip)
      | (have FIN:=hi.below (bl1 z2 (.cells #[.slice fp1 12 fc1,.slice fp2 12 fc2] 46)))))
   all_goals(try go_wp2_with fail)
   all_goals(try go_meet)
   all_goals first
    | (have q9:=q1;exact⟨_,_,_,_,_,rfl,rfl,(az2.setk (Nat.le_refl _) _).setk (Nat.le_refl _) _,FIN⟩)
    | (have q9:=q2;exact⟨_,_,_,_,_,rfl,rfl,(az2.setk sz1 _).setk sz1 _,FIN⟩)
    | exact⟨_,_,_,_,_,rfl,rfl,az2.alloc _,heap_alloc_new _ _,FIN⟩
  case rest=>
   obtain⟨gf,fp1,fc1,fp2,fc2,rfl,rfl,ac,q6,i6⟩:=hcut
   rename World=>V6
   have A6:Hid (Ab w V6):=A5.out.trans ac
   have R6:=hid (Ab.heap ac R5.out)
   have L6:=hid (L5.out.to ac)
   have B6:Hid (Ab v1 V6):=B5.out.trans ac
   have U6:=hid (Ab.heap ac U5.out)
   have T6:Hid (SeaP gt tp1 tc1 tp2 tc2 tp3 tc3 tp4 tc4 6 6 6 12 F1 F2 F3 F4 0 1 V6):=⟨Ab.heap ac T5.out.1,T5.out.2.1.below ac,T5.out.2.2.1.below ac,T5.out.2.2.2.1.below ac,T5.out.2.2.2.2.below ac⟩
   have F6:=hid q6
   have I6:=hid i6
   clear ac q6 i6 A5 R5 L5 K5 B5 U5 T5 FL
   have M12: ∀v:World,(Instr.makeSlice 27 (.int .i64 12) (.int .i64 12)).run prog v=.ok (.slice (some ⟨v.heap.size,0,none⟩) 12 12) (v.alloc (Obj.cells (madeCells #[.int .i64 0] 12) 2)):=fun v=>by
    have h:=run_make_row' (P:=prog) 27 2 (.int .i64 0) 8 underlying27 Sh.dV rfl .i64 .i64 12 (by omega) (by omega) v
    simpa using h
   have CS:Hid (∀v,Ab V6 v->Calls prog 31 #[.agg #[.slice tp1 6 tc1,.slice tp2 6 tc2,.slice tp3 6 tc3,.slice tp4 12 tc4,.int .i64 0,.int .i64 1],.agg #[.slice (some ⟨b1,0,none⟩) 6 6,.slice (some ⟨b2,0,none⟩) 6 6,.slice (some ⟨b3,0,none⟩) 6 6,.slice (some ⟨b4,0,none⟩) 12 12,.int .i64 0,.int .i64 1]] v fun e w'=>e=.returned (.bool true)/\Below v.heap.size v w'):=fun v a=>by
    have h:=zN tp1 6 tc1 F1 tp2 6 tc2 F2 tp3 6 tc3 F3 tp4 12 tc4 F4 0 1 (some ⟨b1,0,none⟩) 6 6 (fun _=>0) (some ⟨b2,0,none⟩) 6 6 w1 (some ⟨b3,0,none⟩) 6 6 (fun _=>0) (some ⟨b4,0,none⟩) 12 12 (fun _=>0) 0 1 v (by omega) (by omega) (T6.out.2.1.below a) (T6.out.2.2.1.below a) (T6.out.2.2.2.1.below a) (T6.out.2.2.2.2.below a) (rowIs.fl (L6.out.to a).1 (fun _ _=>(by show 0<_;omega))) (Sh.jG (L6.out.to a).2.1 (fun i _=>by unfold w1;omega)) (Sh.jG (L6.out.to a).2.2.1 (fun _ _=>(by show _<=(0:Int)/\(0:Int)<=_;omega))) (rowIs.fl (L6.out.to a).2.2.2 (fun _ _=>(by show 0<_;omega))) E1.out
    rw[E1.out]at h
    exact h
   have CW:Hid (∀v b,Ab V6 v->v.rowIs b 2 12 (fun _=>.int .i64 0)->Calls prog 22 #[.slice fp1 12 fc1,.slice (some ⟨b,0,none⟩) 12 12] v fun e w'=>e=.returned (.bool true)/\Below v.heap.size v w'):=fun v b a hr=>by
    have h:=wh21 fp1 (some ⟨b,0,none⟩) 12 fc1 12 12 H1 (fun _=>0) v (by omega) (by omega) (I6.out.below a) (Sh.jG hr (fun _ _=>(by show _<=(0:Int)/\(0:Int)<=_;omega)))
    rw[E2.out]at h
    exact h
   go_upto_region 11 with fail
   have av:Ab V6 V6:=Ab.refl _
   have KS:Hid (∀w',Ab V6 w'->Ab V6 w'/\w'.cell? ⟨gt,0,none⟩=some (.slice tp1 6 tc1)/\w'.cell? ⟨gt,1,none⟩=some (.slice tp2 6 tc2)/\w'.cell? ⟨gt,2,none⟩=some (.slice tp3 6 tc3)/\w'.cell? ⟨gt,3,none⟩=some (.slice tp4 12 tc4)/\w'.cell? ⟨gt,4,none⟩=some (.int .i64 0)/\w'.cell? ⟨gt,5,none⟩=some (.int .i64 1)/\w'.cell? ⟨gu,0,none⟩=some (.slice (some ⟨b1,0,none⟩) 6 6)/\w'.cell? ⟨gu,1,none⟩=some (.slice (some ⟨b2,0,none⟩) 6 6)/\w'.cell? ⟨gu,2,none⟩=some (.slice (some ⟨b3,0,none⟩) 6 6)/\w'.cell? ⟨gu,3,none⟩=some (.slice (some ⟨b4,0,none⟩) 12 12)/\w'.cell? ⟨gu,4,none⟩=some (.int .i64 0)/\w'.cell? ⟨gu,5,none⟩=some (.int .i64 1)/\w'.cell? ⟨gf,0,none⟩=some (.slice fp1 12 fc1)):=fun w' h=>⟨h,aA 0 (h.heap T6.out.1),aA 1 (h.heap T6.out.1),aA 2 (h.heap T6.out.1),aA 3 (h.heap T6.out.1),aA 4 (h.heap T6.out.1),aA 5 (h.heap T6.out.1),aA 0 (h.heap U6.out),aA 1 (h.heap U6.out),aA 2 (h.heap U6.out),aA 3 (h.heap U6.out),aA 4 (h.heap U6.out),aA 5 (h.heap U6.out),aA 0 (h.heap F6.out)⟩
   go_region_held3 (fun w'=>Ab V6 w'/\w'.cell? ⟨gt,0,none⟩=some (.slice tp1 6 tc1)/\w'.cell? ⟨gt,1,none⟩=some (.slice tp2 6 tc2)/\w'.cell? ⟨gt,2,none⟩=some (.slice tp3 6 tc3)/\w'.cell? ⟨gt,3,none⟩=some (.slice tp4 12 tc4)/\w'.cell? ⟨gt,4,none⟩=some (.int .i64 0)/\w'.cell? ⟨gt,5,none⟩=some (.int .i64 1)/\w'.cell? ⟨gu,0,none⟩=some (.slice (some ⟨b1,0,none⟩) 6 6)/\w'.cell? ⟨gu,1,none⟩=some (.slice (some ⟨b2,0,none⟩) 6 6)/\w'.cell? ⟨gu,2,none⟩=some (.slice (some ⟨b3,0,none⟩) 6 6)/\w'.cell? ⟨gu,3,none⟩=some (.slice (some ⟨b4,0,none⟩) 12 12)/\w'.cell? ⟨gu,4,none⟩=some (.int .i64 0)/\w'.cell? ⟨gu,5,none⟩=some (.int .i64 1)/\w'.cell? ⟨gf,0,none⟩=some (.slice fp1 12 fc1)) ((refine KS.out _ ?_;(with_reducible (repeat(first | assumption | apply Ab.drew | apply Ab.alloc | (refine Ab.setk ?_ (by first | assumption | exact Nat.le_refl _) _))));done)) (first
    | (go_at_call 31;refine(CS.out _ (show Ab V6 _ by with_reducible (repeat(first | assumption | apply Ab.drew | apply Ab.alloc)))).mono ?_;rintro e9 z1 ⟨rfl,c1⟩;have az1:Ab V6 z1:=(show Ab V6 _ by with_reducible (repeat(first | assumption | apply Ab.drew | apply Ab.alloc))).trans c1)
    | (go_at_call 22;refine(CW.out _ _ (show Ab V6 _ by with_reducible (repeat(first | assumption | apply Ab.drew | apply Ab.alloc))) (kG (heap_alloc_new _ _))).mono ?_;rintro e9 z2 ⟨rfl,c2⟩;have az2:Ab V6 z2:=(show Ab V6 _ by with_reducible (repeat(first | assumption | apply Ab.drew | apply Ab.alloc))).trans c2))
   clear KS M12 CS CW av
   have A7:Hid (Ab V6 z2):=az2
   clear az1 az2 c1 c2
   have R7:=hid (Ab.heap A7.out R6.out)
   have L7:=hid (L6.out.to A7.out)
   have B7:Hid (Ab v1 z2):=B6.out.trans A7.out
   have T7:=hid (Ab.heap A7.out T6.out.1)
   clear A6 R6 L6 B6 U6 T6 F6 I6 A7 E1 E2 BF
   go_upto_region 13 with fail
   obtain⟨UU,E,hF1,hF2⟩:=cls z2
   have HU:=hid hF2
   have HU1:=hid hF1
   have y0: ∀u,(E u).cell? ⟨gs,1,none⟩=some (.slice (some ⟨b2,0,none⟩) 6 6):=fun u=>aA 1 ((hF1 u).heap R7.out)
   have y1: ∀u,(E u).cell? ⟨b2,0,none⟩=some (.int .i64 1431655765):=fun u=>(L7.out.to (hF1 u)).2.1.cell (show 0<6 by omega)
   have DD0:=HU.out _ (Ab.refl z2).drew
   clear hF1 hF2
   refine cM 8 E (by kernel_rfl) (by kernel_rfl) (by kernel_rfl) DD0 ?_
   simp only[List.take_succ_cons,List.take_zero,List.drop_succ_cons,List.drop_zero]
   repeat(go_big_quiet_step (with_reducible rfl))
   refine wpQuiet_nil ?_
   intro z hwz
   obtain⟨u0,hu⟩:=hwz
   have AZ:Hid (Ab z2 z):=by rw[hu];exact HU1.out u0
   clear hu u0
   clear HU HU1 DD0 y0 y1
   clear E UU
   have x1:=(L7.out.to AZ.out).2.1.cell (show 0<6 by omega)
   have x2:=(L7.out.to AZ.out).2.1.frozen 0
   go_upto_region 14 with fail
   clear x1 x2
   have L8:Hid (LkR w2 b1 b2 b3 b4 (z.setCell ⟨b2,0,none⟩ (.int .i64 2863311530))):=by
    have h:=L7.out.to AZ.out
    refine⟨h.1.setOther (a:=⟨b2,0,none⟩) NN.out.1 _,(h.2.1.set 0 _).congr (fun i _=> ?_),h.2.2.1.setOther (a:=⟨b2,0,none⟩) (Ne.symm NN.out.2.2.2.1) _,h.2.2.2.setOther (a:=⟨b2,0,none⟩) (Ne.symm NN.out.2.2.2.2.1) _⟩
    unfold w1 w2
    by_cases e:i=0
    ·subst e;simp
    ·simp[e]
   have B8:Hid (Ab v1 (z.setCell ⟨b2,0,none⟩ (.int .i64 2863311530))):=(B7.out.trans AZ.out).setk LL.out.2.1 _
   have R8:Hid ((z.setCell ⟨b2,0,none⟩ (.int .i64 2863311530)).heap[gs]? =some (.cells #[.slice (some ⟨b1,0,none⟩) 6 6,.slice (some ⟨b2,0,none⟩) 6 6,.slice (some ⟨b3,0,none⟩) 6 6,.slice (some ⟨b4,0,none⟩) 12 12,.int .i64 0,.int .i64 0] 29)):=(bH (by have:=GLT.out;omega)).trans (Ab.heap AZ.out R7.out)
   have T8:Hid ((z.setCell ⟨b2,0,none⟩ (.int .i64 2863311530)).heap[gt]? =some (.cells #[.slice tp1 6 tc1,.slice tp2 6 tc2,.slice tp3 6 tc3,.slice tp4 12 tc4,.int .i64 0,.int .i64 1] 29)):=(bH (by have:=GLT.out;have:=GT.out;have:=GL.out;omega)).trans (Ab.heap AZ.out T7.out)
   clear L7 B7 R7 T7 AZ
   generalize World.setCell z _ _=V8 at*
   clear z
   have GQ:Hid (gs≠gt/\v1.heap.size<=gt):=by show _/\_;have:=GT.out;have:=GL.out;have:=GS.out;omega
   have K8:Hid (∀v,Ab v1 v->GridOf 1 gb v):=fun v a=>K1.out.to a
   have qs:Qs v1 gs gt (.cells #[.slice (some ⟨b1,0,none⟩) 6 6,.slice (some ⟨b2,0,none⟩) 6 6,.slice (some ⟨b3,0,none⟩) 6 6,.slice (some ⟨b4,0,none⟩) 12 12,.int .i64 0,.int .i64 0] 29) V8:=⟨⟨B8.out,R8.out⟩,GQ.out⟩
   have av:Ab V8 V8:=Ab.refl _
   have KS:Hid (∀w',Qs v1 gs gt (.cells #[.slice (some ⟨b1,0,none⟩) 6 6,.slice (some ⟨b2,0,none⟩) 6 6,.slice (some ⟨b3,0,none⟩) 6 6,.slice (some ⟨b4,0,none⟩) 12 12,.int .i64 0,.int .i64 0] 29) w'->Qs v1 gs gt (.cells #[.slice (some ⟨b1,0,none⟩) 6 6,.slice (some ⟨b2,0,none⟩) 6 6,.slice (some ⟨b3,0,none⟩) 6 6,.slice (some ⟨b4,0,none⟩) 12 12,.int .i64 0,.int .i64 0] 29) w'/\w'.cell? ⟨gs,0,none⟩=some (.slice (some ⟨b1,0,none⟩) 6 6)/\w'.cell? ⟨gs,1,none⟩=some (.slice (some ⟨b2,0,none⟩) 6 6)/\w'.cell? ⟨gs,2,none⟩=some (.slice (some ⟨b3,0,none⟩) 6 6)/\w'.cell? ⟨gs,3,none⟩=some (.slice (some ⟨b4,0,none⟩) 12 12)/\w'.cell? ⟨gs,4,none⟩=some (.int .i64 0)/\w'.cell? ⟨gs,5,none⟩=some (.int .i64 0)):=fun w' h=>⟨h,aA 0 h.1.2,aA 1 h.1.2,aA 2 h.1.2,aA 3 h.1.2,aA 4 h.1.2,aA 5 h.1.2⟩
   go_region_held3 (fun w'=>Qs v1 gs gt (.cells #[.slice (some ⟨b1,0,none⟩) 6 6,.slice (some ⟨b2,0,none⟩) 6 6,.slice (some ⟨b3,0,none⟩) 6 6,.slice (some ⟨b4,0,none⟩) 12 12,.int .i64 0,.int .i64 0] 29) w'/\w'.cell? ⟨gs,0,none⟩=some (.slice (some ⟨b1,0,none⟩) 6 6)/\w'.cell? ⟨gs,1,none⟩=some (.slice (some ⟨b2,0,none⟩) 6 6)/\w'.cell? ⟨gs,2,none⟩=some (.slice (some ⟨b3,0,none⟩) 6 6)/\w'.cell? ⟨gs,3,none⟩=some (.slice (some ⟨b4,0,none⟩) 12 12)/\w'.cell? ⟨gs,4,none⟩=some (.int .i64 0)/\w'.cell? ⟨gs,5,none⟩=some (.int .i64 0)) ((refine KS.out _ ?_;(with_reducible (repeat(first | assumption | apply Qs.drew | apply Qs.set)));done)) (first
    | (go_at_call 39;refine(PL.out _).mono ?_;rintro e9 z1 ⟨rfl,c1⟩;have az1:Ab V8 z1:=(show Ab V8 _ by with_reducible (repeat(first | assumption | apply Ab.drew | apply Ab.alloc))).trans c1;have qz1:Qs v1 gs gt (.cells #[.slice (some ⟨b1,0,none⟩) 6 6,.slice (some ⟨b2,0,none⟩) 6 6,.slice (some ⟨b3,0,none⟩) 6 6,.slice (some ⟨b4,0,none⟩) 12 12,.int .i64 0,.int .i64 0] 29) z1:=qs.to az1)
    | (go_at_call 14;refine(O2.out _ gb b1 b2 b3 b4 (A1.out.trans (B8.out.trans (show Ab V8 _ by with_reducible (repeat(first | assumption | apply Ab.drew | apply Ab.alloc))))) (K8.out _ (B8.out.trans (show Ab V8 _ by with_reducible (repeat(first | assumption | apply Ab.drew | apply Ab.alloc))))) (L8.out.to (show Ab V8 _ by with_reducible (repeat(first | assumption | apply Ab.drew | apply Ab.alloc))))).mono ?_;rintro e9 z2 ⟨vv,rfl,c2,os⟩;have az2:Ab V8 z2:=(show Ab V8 _ by with_reducible (repeat(first | assumption | apply Ab.drew | apply Ab.alloc))).trans c2;have qz2:Qs v1 gs gt (.cells #[.slice (some ⟨b1,0,none⟩) 6 6,.slice (some ⟨b2,0,none⟩) 6 6,.slice (some ⟨b3,0,none⟩) 6 6,.slice (some ⟨b4,0,none⟩) 12 12,.int .i64 0,.int .i64 0] 29) z2:=qs.to az2;obtain⟨rp1,rc1,rp2,rc2,rp3,rc3,rp4,rc4,rfl,FIN⟩:=sea_over (Ab.heap az1 T8.out) c2 os BG.out;have t0:=aA 0 (Ab.heap az2 T8.out);have f0:=aG (Ab.heap az2 T8.out) 0;have t1:=aA 1 (Ab.heap az2 T8.out);have f1:=aG (Ab.heap az2 T8.out) 1;have t2:=aA 2 (Ab.heap az2 T8.out);have f2:=aG (Ab.heap az2 T8.out) 2;have t3:=aA 3 (Ab.heap az2 T8.out);have f3:=aG (Ab.heap az2 T8.out) 3;have t4:=aA 4 (Ab.heap az2 T8.out);have f4:=aG (Ab.heap az2 T8.out) 4;have t5:=aA 5 (Ab.heap az2 T8.out);have f5:=aG (Ab.heap az2 T8.out) 5;skip))
   have Q9:Hid (Qs v1 gs gt (.cells #[.slice (some ⟨b1,0,none⟩) 6 6,.slice (some ⟨b2,0,none⟩) 6 6,.slice (some ⟨b3,0,none⟩) 6 6,.slice (some ⟨b4,0,none⟩) 12 12,.int .i64 0,.int .i64 0] 29) ((((((z2.setCell ⟨gt,0,none⟩ (.slice rp1 6 rc1)).setCell ⟨gt,1,none⟩ (.slice rp2 6 rc2)).setCell ⟨gt,2,none⟩ (.slice rp3 6 rc3)).setCell ⟨gt,3,none⟩ (.slice rp4 12 rc4)).setCell ⟨gt,4,none⟩ (.int .i64 0)).setCell ⟨gt,5,none⟩ (.int .i64 1))):=(((((qz2.set 0 _).set 1 _).set 2 _).set 3 _).set 4 _).set 5 _
   have S9:=hid FIN
   have L9:Hid (((((((z2.setCell ⟨gt,0,none⟩ (.slice rp1 6 rc1)).setCell ⟨gt,1,none⟩ (.slice rp2 6 rc2)).setCell ⟨gt,2,none⟩ (.slice rp3 6 rc3)).setCell ⟨gt,3,none⟩ (.slice rp4 12 rc4)).setCell ⟨gt,4,none⟩ (.int .i64 0)).setCell ⟨gt,5,none⟩ (.int .i64 1)).rowIs b2 2 6 (fun i=>.int .i64 (w2 i))):=by
    have hn:b2≠gt:=by have:=GLT.out;have:=GT.out;have:=GL.out;omega
    exact((((((L8.out.to az2).2.1.setOther (a:=⟨gt,0,none⟩) hn _).setOther (a:=⟨gt,1,none⟩) hn _).setOther (a:=⟨gt,2,none⟩) hn _).setOther (a:=⟨gt,3,none⟩) hn _).setOther (a:=⟨gt,4,none⟩) hn _).setOther (a:=⟨gt,5,none⟩) hn _
   clear t0 t1 t2 t3 t4 t5 f0 f1 f2 f3 f4 f5 KS qs qz1 qz2 az1 az2 c1 c2 os FIN L8 B8 R8 T8 K8 GQ av BG O2 PL
   generalize World.setCell _ _ _=V9 at*
   clear z1 z2 V8
   obtain⟨q2,o2,rfl⟩:=S9.out.2.2.1.some0 (show 0<6 by omega)
   obtain⟨q4,o4,rfl⟩:=S9.out.2.2.2.2.some0 (show 0<12 by omega)
   have RS:Hid (∀v,Calls prog 40 #[.float .f64 4600040671590431692,.float .f64 4600040671590431692] v fun e w'=>e=.returned (.bool true)/\Below v.heap.size v w'):=fun v=>(rawSame9 _ v).mono fun e w' h=>⟨h.1,by rw[h.2];exact Below.refl _ _⟩
   have fg:=aw_fgt
   go_upto_region 15 with fail
   obtain⟨UU,E,hF1,hF2⟩:=cls V9
   have HU:=hid hF2
   have HU1:=hid hF1
   have y0: ∀u,(E u).cell? ⟨gt,1,none⟩=some (.slice (some ⟨q2,o2,none⟩) 6 rc2):=fun u=>aA 1 ((hF1 u).heap S9.out.1)
   have y1: ∀u,(E u).cell? ⟨gt,3,none⟩=some (.slice (some ⟨q4,o4,none⟩) 12 rc4):=fun u=>aA 3 ((hF1 u).heap S9.out.1)
   have y2: ∀u,(E u).cell? ⟨gs,1,none⟩=some (.slice (some ⟨b2,0,none⟩) 6 6):=fun u=>aA 1 ((hF1 u).heap Q9.out.1.2)
   have y3: ∀u,(E u).cell? ⟨q2,o2+1,none⟩=some (.int .i64 1870009029):=fun u=>by have h:=((S9.out.2.2.1.below (hF1 u)).at0 (show 1<6 by omega)).2.2;rw[GG.out.1]at h;exact h
   have y4: ∀u,(E u).cell? ⟨q2,o2+2,none⟩=some (.int .i64 1431655765):=fun u=>by have h:=((S9.out.2.2.1.below (hF1 u)).at0 (show 2<6 by omega)).2.2;rw[GG.out.2.2.1]at h;exact h
   have y5: ∀u,(E u).cell? ⟨q2,o2+3,none⟩=some (.int .i64 1870009029):=fun u=>by have h:=((S9.out.2.2.1.below (hF1 u)).at0 (show 3<6 by omega)).2.2;rw[GG.out.2.1]at h;exact h
   have y6: ∀u,(E u).cell? ⟨b2,1,none⟩=some (.int .i64 1431655765):=fun u=>(rowIs.ab L9.out (hF1 u)).cell (show 1<6 by omega)
   have y7: ∀u,(E u).cell? ⟨b2,2,none⟩=some (.int .i64 1431655765):=fun u=>(rowIs.ab L9.out (hF1 u)).cell (show 2<6 by omega)
   have y8: ∀u,(E u).cell? ⟨q4,o4,none⟩=some (.float .f64 4600040671590431692):=fun u=>by have h:=((S9.out.2.2.2.2.below (hF1 u)).at0 (show 0<12 by omega)).2.2;rw[GG.out.2.2.2.1]at h;exact h
   have y9: ∀u,(E u).cell? ⟨q4,o4+3,none⟩=some (.float .f64 4600040671590431692):=fun u=>by have h:=((S9.out.2.2.2.2.below (hF1 u)).at0 (show 3<12 by omega)).2.2;rw[GG.out.2.2.2.2]at h;exact h
   have DD0:=HU.out _ (Ab.refl V9).drew
   clear hF1 hF2
   refine aJ E (by kernel_rfl) (by kernel_rfl) DD0 ?_
   repeat(go_big_quiet_step (first | (go_at_call 40;exact aH HU HU1 (RS.out _)) | (with_reducible rfl)))
   refine wpQuiet_nil ?_
   intro z9 hwz
   obtain⟨u0,hu⟩:=hwz
   have A9:Hid (Ab V9 z9):=by rw[hu];exact HU1.out u0
   clear hu u0
   clear HU HU1 DD0 y0 y1 y2 y3 y4 y5 y6 y7 y8 y9
   clear E UU
   go_wp2
   go_ret
   exact⟨rfl,A1.out.trans (Q9.out.1.1.trans A9.out)⟩
theorem xB{n:Nat}{B:Nat->Nat}{W T:Nat->Int}{S:Nat->Nat}{sky st:Int}(h:okS n B W T S sky st):Bnd (6*n*n) (6*n*n) (6*n*n) (12*n*n) B W T S:=by
 obtain⟨⟨-,⟨k1,k2⟩,⟨w1,w2⟩,⟨t1,t2⟩,-⟩,hb,hs⟩:=h
 refine⟨hb,fun i hi=> ?_,fun i hi=> ?_,hs⟩
 ·have h1:=w1 i hi
  have h2:=oW w1 hi
  unfold Sh.W64
  omega
 ·have h1:=t1 i hi
  have h2:=oW t1 hi
  unfold Sh.W64
  omega
theorem xC{M n:Nat}{v:Value}{f:Nat->Int}{w:World}(h:Sh.Own M v ((List.range n).map f) w)(hf: ∀i,i<n->Sh.W64 (f i)): ∃p c,v=.slice p n c/\Sh.IsI w p n f/\ ∀b o,p=some ⟨b,o,none⟩->M<=b:=by
 obtain⟨p,c,rfl,hi⟩:=h.in (fun x hx=>by
  obtain⟨i,hi,rfl⟩:=List.mem_map.1 hx
  exact hf i (List.mem_range.1 hi))
 rw[List.length_map,List.length_range]at hi
 refine⟨p,c,by rw[List.length_map,List.length_range],hi.congr (fun k hk=>by simp[List.getD,hk]),fun b o e=> ?_⟩
 subst e
 exact(World.ownsRow.lt h b rfl).1
theorem Cj(OC:OneF)(FC:FlowC)(w:World)(hF:Fr w):Calls prog 9 #[] w fun e w'=>e=.returned (.bool true)/\Below w.heap.size w w':=by
 have R0:Nat->Int × Int × Int × Int:=fun _=>(0,0,0,0)
 have p1:=aw_okP R0
 have s1:=aw_s lW
 have s2:=aw_s aw_ok2
 have z64:Sh.W64 0:=by unfold Sh.W64;omega
 have o64:Sh.W64 1:=by unfold Sh.W64;omega
 have lk: ∀{W:Nat->Int} {b1 b2 b3 b4:Nat} {v:World},okN 6 (fun _=>0) W (fun _=>0) (fun _=>0) 0 0->LkR W b1 b2 b3 b4 v->IsFl v (some ⟨b1,0,none⟩) 6 (fun _=>0)/\Sh.IsI v (some ⟨b2,0,none⟩) 6 W/\Sh.IsI v (some ⟨b3,0,none⟩) 6 (fun _=>0)/\IsFl v (some ⟨b4,0,none⟩) 12 (fun _=>0):=fun{W b1 b2 b3 b4 v} ok h=>⟨rowIs.fl h.1 (fun _ _=>(by show 0<_;omega)),Sh.jG h.2.1 (fun i hi=>(xB (aw_s ok)).2.1 i hi),Sh.jG h.2.2.1 (fun _ _=>(by show _<=(0:Int)/\(0:Int)<=_;omega)),rowIs.fl h.2.2.2 (fun _ _=>(by show 0<_;omega))⟩
 have O:=fun(W:Nat->Int) (ok:okN 6 (fun _=>0) W (fun _=>0) (fun _=>0) 0 0) v gb b1 b2 b3 b4 (a:Ab w v) (g:GridOf 1 gb v) (h:LkR W b1 b2 b3 b4 v)=>(OC 1 gb 1 4602678819172646912 4607182418800017408 0 0 none 0 0 R0 (some ⟨b1,0,none⟩) 6 6 (fun _=>0) (some ⟨b2,0,none⟩) 6 6 W (some ⟨b3,0,none⟩) 6 6 (fun _=>0) (some ⟨b4,0,none⟩) 12 12 (fun _=>0) 0 0 v (by omega) g (hF.to a) ⟨o64,z64,z64,z64⟩ (by omega) (by omega) (by omega) (fun k hk=>absurd hk (Nat.not_lt_zero k)) (lk ok h).1 (lk ok h).2.1 (lk ok h).2.2.1 (lk ok h).2.2.2).1 (aw_er ok R0)
 have n1:=Cc (lim:=0) (rv:=false) p1 s1
 have n2:=Cc (lim:=0) (rv:=false) p1 s2
 have er:=aw_er lW R0
 have wn: ∀e,e<12->Sh.W64 (waF 1 0 4607182418800017408 4602678819172646912 0 (fun _=>0) w1 (fun _=>0) e):=fun e he=>by rw[qO p1 s1 lF he];exact z64
 refine Ci (fun _=>0) _ _ _ (waF 1 0 4607182418800017408 4602678819172646912 0 (fun _=>0) w1 (fun _=>0)) (fun _=>0) _ _ _ w (fun v a=>(new_at 1 v (by omega) (hF.to a)).mono fun e w' h=> ?_) (fun v gb g=>Gk v g) (fun v=>Ch v) (O w1 lW) (fun v gb b1 b2 b3 b4 a g h=> ?_) (O w2 aw_ok2) (xB n1) (xB n2) ?_ ?_ ?_ ?_ ?_ ?_ ?_
 ·obtain⟨gb,rfl,a1,-,g⟩:=h
  exact⟨gb,rfl,a1,g⟩
 ·refine((FC 1 gb 1 4602678819172646912 4607182418800017408 0 0 false none 0 0 R0 (some ⟨b1,0,none⟩) 6 6 (fun _=>0) (some ⟨b2,0,none⟩) 6 6 w1 (some ⟨b3,0,none⟩) 6 6 (fun _=>0) (some ⟨b4,0,none⟩) 12 12 (fun _=>0) 0 0 v (by omega) g (hF.to a) ⟨o64,z64,z64,z64⟩ (by omega) (by omega) (by omega) (fun k hk=>absurd hk (Nat.not_lt_zero k)) (lk lW h).1 (lk lW h).2.1 (lk lW h).2.2.1 (lk lW h).2.2.2).1 er).mono fun e w' k=> ?_
  obtain⟨v1,v2,rfl,k1,k2,k3,-⟩:=k
  obtain⟨q1,c1,rfl,i1,hb⟩:=xC k2 wn
  obtain⟨q2,c2,rfl,-,-⟩:=xC k3 (fun e he=>by rw[Ez p1 s1 lF he];exact z64)
  exact⟨q1,c1,q2,c2,rfl,k1,i1,hb⟩
 ·show eqS _ _ _ _ _ _ _ _ _ _ _ _ _ _ _ _ _ _ _ _=true
  unfold eqS
  rw[jH (fun _ _=>rfl),jH (fun i hi=> ?_),jH (fun i hi=> ?_),jH (fun e he=>Ey p1 s1 lF he)]
  ·rfl
  ·rw[ri_0];exact(EA p1 s1 lF hi).2
  ·rw[ri_0];exact(EA p1 s1 lF hi).1
 ·exact jH (fun e he=>qO p1 s1 lF he)
 ·rw[ri_0];exact Ce (by omega)
 ·rw[ri_0];exact Ce (by omega)
 ·rw[ri_0];exact Ce (by omega)
 ·exact aw_sp 0 (by omega)
 ·exact aw_sp 3 (by omega)
end St
end
section
open Go.RowKit Tf Cu Go.Deep
theorem jM{b:Nat}{t:TypeId}{N:Nat}: ∀(news:List Value) (n:Nat) (f:Nat->Value) (w:World),w.rowIs b t N f->n+news.length<=N->(w.setCells b n news).rowIs b t N (fun j=>if n<=j then(news[j - n]?).getD (f j)else f j)/\Abx w b N t (w.setCells b n news)
 | [],n,f,w,h,_=>by
  refine⟨h.congr (fun i _=>by simp),?_⟩
  obtain⟨c,hb,hn,_⟩:=h
  exact(Ab.refl w).x hn hb
 | x :: xs,n,f,w,h,hn=>by
  rw[List.length_cons]at hn
  have h1:=h.set n x
  obtain⟨r1,r2⟩:=jM xs (n+1) _ _ h1 (by omega)
  refine⟨r1.congr (fun j _=> ?_),?_⟩
  ·by_cases c:n<=j
   ·by_cases c2:j=n
    ·subst c2
     simp[show¬j+1<=j by omega]
    ·have e:j - n=(j - (n+1))+1:=by omega
     simp[c,c2,show n+1<=j by omega,e]
   ·simp[c,show¬n+1<=j by omega,show¬j=n by omega]
  ·obtain⟨c,hb,hc,_⟩:=h
   have a1:Abx w b N t (w.setCell ⟨b,n,none⟩ x):=((Ab.refl w).x hc hb).set n x
   obtain⟨⟨p1,p2,p3,p4,p5⟩,_⟩:=a1
   obtain⟨⟨q1,q2,q3,q4,q5⟩,q6⟩:=r2
   exact⟨⟨q1.trans p1,q2.trans p2,q3.trans p3,Nat.le_trans p4 q4,fun k hk hne=>(q5 k (by omega) hne).trans (p5 k hk hne)⟩,q6⟩
theorem bX{P:Program}{ops:Array Oper}{o:Oper}{a:Act}{w:World}{K:Act->World->Prop}{Q:Exit->Act->World->Prop}{E:Prop}(hgd:o.guard=none)(s x:Operand)(t:TypeId)
  (ho:o.op=.call {callee:=.builtin .append,args:= #[s,x],argTypes:= #[t,t]})
  (e:TypeId) (i:TypeInfo) (ht:P.underlying t=some (.slice e)) (hi:P.info? e=some i) (hsz:i.size=1)
  (b n cap:Nat) (f:Nat->Value) (hs:a.eval s=.slice (some ⟨b,0,none⟩) n cap) (row:w.rowIs b e cap f)
  (src:Value) (m:Nat) (news:List Value) (hx:a.eval x=src) (hsrc:Src P 1 t src m news w) (hroom:n+m<=cap) (nm:Nat) (hnm:n+m=nm)
  (h: ∀w',w'.rowIs b e cap (fun j=>if n<=j then(news[j - n]?).getD (f j)else f j)->Abx w b cap e w'->K (a.put o.dst (.slice (some ⟨b,0,none⟩) nm cap)) w'):
  if Region.wanted o (yielded ops a.tmps)=true then Oper.wp P o a w K Q else E:=by
 subst hnm
 have hw:Region.wanted o (yielded ops a.tmps)=true:=by simp[Region.wanted,hgd]
 rw[if_pos hw]
 have hl:news.length=m:=by have:=hsrc.newsLen;omega
 have hr:=run_append_room_src (P:=P) w t t o.type e i ht hi b 0 n cap src m news (by rw[hsz];exact hsrc) hroom
  (fun j hj=>by rw[hsz];simp only[Nat.zero_add,Nat.mul_one];rw[row.cell (by omega)];rfl) (fun j _=>by rw[hsz];exact row.frozen _)
 rw[hsz,Nat.zero_add,Nat.mul_one]at hr
 obtain⟨r1,r2⟩:=jM news n f w row (by omega)
 unfold Oper.wp execOp
 simp only[ho,resolve,invoke,builtin,Sem.run_bind,Sem.run_pure,Result.andThen_ok,List.map_toArray,List.map_cons,List.map_nil,hs,hx,hr]
 exact h _ r1 r2
theorem zQ: ∃i,Tryz.prog.info? 22=some i/\i.size=1:=by
 have h:=kZ
 cases e:Tryz.prog.info? 22 with
 | none=>rw[e]at h;cases h
 | some i=>
  rw[e]at h
  simp at h
  exact⟨i,rfl,h.2.1⟩
theorem zR: ∃i,Tryz.prog.info? 2=some i/\i.size=1:=by
 have h:=dV
 cases e:Tryz.prog.info? 2 with
 | none=>rw[e]at h;cases h
 | some i=>
  rw[e]at h
  simp at h
  exact⟨i,rfl,h.2.1⟩
theorem src_fl{w:World}{pb:Option Addr}{L:Nat}{B:Nat->Nat}(h:IsFl w pb L B)(cb:Nat):Src prog 1 26 (.slice pb L cb) L ((List.range L).map fun k=>Value.float .f64 (B k)) w:=by
 have one: ∀u ∈ (List.range L).map (fun k=>Value.float .f64 (B k)),u.oneCell'=true:=fun u hu=>by
  obtain⟨k,_,rfl⟩:=List.mem_map.1 hu
  rfl
 cases pb with
 | none=>
  have:L=0:=by
   rcases Nat.eq_zero_or_pos L with h0 | h0
   ·exact h0
   ·obtain⟨_,b,o,h2,_⟩:=h 0 h0
    cases h2
  subst this
  exact Src.ofNil w underlying26 cb
 | some a=>
  refine Src.ofSlice w underlying26 a L cb _ (by simp) (fun j u hu=> ?_) one
  have hj:j<L:=by
   rcases Nat.lt_or_ge j L with h1 | h1
   ·exact h1
   ·rw[List.getElem?_eq_none (by simpa using h1)]at hu;cases hu
  obtain⟨_,b,o,h2,_,h4⟩:=h j hj
  cases h2
  simp[hj]at hu
  rw[fC,<- hu]
  exact h4
theorem sG{w:World}{pb:Option Addr}{L:Nat}{B:Nat->Int}(h:IsIn w pb L B)(cb:Nat):Src prog 1 27 (.slice pb L cb) L ((List.range L).map fun k=>Value.int .i64 (B k)) w:=by
 have one: ∀u ∈ (List.range L).map (fun k=>Value.int .i64 (B k)),u.oneCell'=true:=fun u hu=>by
  obtain⟨k,_,rfl⟩:=List.mem_map.1 hu
  rfl
 cases pb with
 | none=>
  have:L=0:=by
   rcases Nat.eq_zero_or_pos L with h0 | h0
   ·exact h0
   ·obtain⟨_,b,o,h2,_⟩:=h 0 h0
    cases h2
  subst this
  exact Src.ofNil w underlying27 cb
 | some a=>
  refine Src.ofSlice w underlying27 a L cb _ (by simp) (fun j u hu=> ?_) one
  have hj:j<L:=by
   rcases Nat.lt_or_ge j L with h1 | h1
   ·exact h1
   ·rw[List.getElem?_eq_none (by simpa using h1)]at hu;cases hu
  obtain⟨_,b,o,h2,_,h4⟩:=h j hj
  cases h2
  simp[hj]at hu
  rw[fC,<- hu]
  exact h4
theorem Abx.far{V w w':World}{g n b N:Nat}{T e:TypeId}(h:Abx V g n T w)(k:Abx w b N e w')(hb:V.heap.size<=b)(hg:g<V.heap.size):Abx V g n T w':=by
 obtain⟨⟨p1,p2,p3,p4,p5⟩,cs,p6,p7⟩:=h
 obtain⟨⟨q1,q2,q3,q4,q5⟩,_⟩:=k
 exact⟨⟨q1.trans p1,q2.trans p2,q3.trans p3,Nat.le_trans p4 q4,fun i hi hne=>(q5 i (by omega) (by omega)).trans (p5 i hi hne)⟩,cs,p6,(q5 g (by omega) (by omega)).trans p7⟩
theorem eJ{w w':World}{b N q:Nat}{e:TypeId}{o:Obj}(k:Abx w b N e w')(h:w.heap[q]? =some o)(hne:q≠b):w'.heap[q]? =some o:=k.heap hne h
theorem xD(V:World)(z:Value)(n:Nat)(t:TypeId):(V.drew.alloc (.cells (madeCells #[z] n) t)).rowIs V.heap.size t n (fun _=>z):=World.rowIs_made V.drew z n t
theorem xE(V:World)(z:Value)(n:Nat)(t:TypeId)(O:Obj):((V.drew.alloc (.cells (madeCells #[z] n) t)).alloc O).rowIs V.heap.size t n (fun _=>z):=(World.rowIs_made V.drew z n t).alloc O
theorem xF(V:World)(z:Value)(n:Nat)(t:TypeId)(O:Obj):((V.drew.alloc O).alloc (.cells (madeCells #[z] n) t)).rowIs (V.heap.size+1) t n (fun _=>z):=by
 have h:=World.rowIs_made (V.drew.alloc O) z n t
 have e:(V.drew.alloc O).heap.size=V.heap.size+1:=by
  show(V.heap.push O).size=_
  simp
 rwa [e]at h
theorem xG(V:World)(M O:Obj):((V.drew.alloc M).alloc O).heap[V.heap.size+1]? =some O:=heap_alloc2_new V.drew M O
theorem xH(V:World)(M O:Obj):((V.drew.alloc O).alloc M).heap[V.heap.size]? =some O:=heap_alloc2_old V.drew O M
theorem gI{V w:World}{b:Nat}{t:TypeId}{n:Nat}{f:Nat->Value}{g m:Nat}{T:TypeId}(h:V.rowIs b t n f)(a:Abx V g m T w)(hne:b≠g):w.rowIs b t n f:=h.of_block (a.1.2.2.2.2 b h.lt hne)
end
section
open Go.RowKit Tf Cu Go.Deep
namespace St
open Rn
theorem uX{P:Program}{ops:Array Oper}{o:Oper}{a:Act}{w:World}{K:Act->World->Prop}{Q:Exit->Act->World->Prop}{E:Prop}(hgd:o.guard=none)(s x:Operand)(t:TypeId)
  (ho:o.op=.call {callee:=.builtin .append,args:= #[s,x],argTypes:= #[t,t]})
  (e:TypeId) (i:TypeInfo) (z:Nat) (ht:P.underlying t=some (.slice e)) (hi:P.info? e=some i) (hsz:i.size=z)
  (b n cap:Nat) (f:Nat->Value) (hs:a.eval s=.slice (some ⟨b,0,none⟩) n cap) (row:w.rowIs b e (cap*z) f)
  (src:Value) (m:Nat) (news:List Value) (hx:a.eval x=src) (hsrc:Src P z t src m news w) (hroom:n+m<=cap) (nm:Nat) (hnm:n+m=nm)
  (h: ∀w',w'.rowIs b e (cap*z) (fun j=>if n*z<=j then(news[j - n*z]?).getD (f j)else f j)->Abx w b (cap*z) e w'->K (a.put o.dst (.slice (some ⟨b,0,none⟩) nm cap)) w'):
  if Region.wanted o (yielded ops a.tmps)=true then Oper.wp P o a w K Q else E:=by
 subst hnm
 have hw:Region.wanted o (yielded ops a.tmps)=true:=by simp[Region.wanted,hgd]
 rw[if_pos hw]
 have hl:=hsrc.newsLen
 have hm:n*z+m*z<=cap*z:=by rw[<- Nat.add_mul];exact Nat.mul_le_mul_right _ hroom
 have hr:=run_append_room_src (P:=P) w t t o.type e i ht hi b 0 n cap src m news (by rw[hsz];exact hsrc) hroom
  (fun j hj=>by rw[hsz,Nat.zero_add,row.cell (by omega)];rfl) (fun j _=>by rw[hsz];exact row.frozen _)
 rw[hsz,Nat.zero_add]at hr
 obtain⟨r1,r2⟩:=jM news (n*z) f w row (by omega)
 unfold Oper.wp execOp
 simp only[ho,resolve,invoke,builtin,Sem.run_bind,Sem.run_pure,Result.andThen_ok,List.map_toArray,List.map_cons,List.map_nil,hs,hx,hr]
 exact h _ r1 r2
theorem zS{P:Program}{ops:Array Oper}{rest:List Oper}{o:Oper}{a:Act}{w:World}{Q:Exit->Act->World->Prop}(hgd:o.guard=none)(s x:Operand)(t:TypeId)
  (ho:o.op=.call {callee:=.builtin .append,args:= #[s,x],argTypes:= #[t,t]})
  (e:TypeId) (i:TypeInfo) (z:Nat) (ht:P.underlying t=some (.slice e)) (hi:P.info? e=some i) (hsz:i.size=z)
  (b n cap:Nat) (f:Nat->Value) (hs:a.eval s=.slice (some ⟨b,0,none⟩) n cap) (row:w.rowIs b e (cap*z) f)
  (src:Value) (m:Nat) (news:List Value) (hx:a.eval x=src) (hsrc:Src P z t src m news w) (hroom:n+m<=cap) (nm:Nat) (hnm:n+m=nm)
  (h: ∀w',w'.rowIs b e (cap*z) (fun j=>if n*z<=j then(news[j - n*z]?).getD (f j)else f j)->Abx w b (cap*z) e w'->wpList P ops Q rest (a.put o.dst (.slice (some ⟨b,0,none⟩) nm cap)) w'):wpList P ops Q (o :: rest) a w:=by
 have hw:Region.wanted o (yielded ops a.tmps)=true:=by simp[Region.wanted,hgd]
 have h1:=uX (ops:=ops) (Q:=Q) (E:=True) hgd s x t ho e i z ht hi hsz b n cap f hs row src m news hx hsrc hroom nm hnm h
 rw[if_pos hw]at h1
 unfold wpList
 rw[if_pos hw]
 exact .inl h1
def rnC(L:Nat)(R:Nat->Int × Int × Int × Int):List Value:=(List.range (L*4)).map fun i=>.int .i64 (rf4 (R (i/4)) (i%4))
theorem src_rn{w:World}{p:Option Addr}{L:Nat}{R:Nat->Int × Int × Int × Int}(h:IsRn w p L R)(c:Nat):Src prog 4 23 (.slice p L c) L (rnC L R) w:=by
 by_cases h0:L=0
 ·subst h0
  cases p with
  | none=>exact Src.ofNil w underlying23 c
  | some a=>exact Src.ofSlice w underlying23 a 0 c [] rfl (fun j u hu=>by simp at hu) (fun u hu=>by simp at hu)
 ·obtain⟨-,b,o,hp,-⟩:=h 0 (by omega)
  subst hp
  refine Src.ofSlice w underlying23 ⟨b,o,none⟩ L c (rnC L R) (by simp[rnC]) (fun j u hu=> ?_) (fun u hu=> ?_)
  ·unfold rnC at hu
   rw[List.getElem?_map]at hu
   by_cases hj:j<L*4
   ·rw[List.getElem?_range hj]at hu
    simp only[Option.map_some,Option.some.injEq]at hu
    subst hu
    obtain⟨-,b',o',hp,-,k0,k1,k2,k3⟩:=h (j/4) (by omega)
    cases hp
    rw[fC]
    have ej:o+j=o+j/4*4+j%4:=by omega
    rw[ej]
    have q:j%4<4:=by omega
    match e:j%4,q with
    | 0,_=>simpa [rf4]using k0
    | 1,_=>simpa [rf4]using k1
    | 2,_=>simpa [rf4]using k2
    | 3,_=>simpa [rf4]using k3
   ·rw[List.getElem?_eq_none (by simpa using hj)]at hu
    simp at hu
  ·unfold rnC at hu
   obtain⟨i,-,rfl⟩:=List.mem_map.1 hu
   rfl
theorem make_r21(L:Nat)(hL:L<=1024)(w:World):(Instr.makeSlice 23 (.int .i64 0) (.int .i64 ((L:Int)+2))).run prog w=.ok (.slice (some ⟨w.heap.size,0,none⟩) 0 (L+2)) (w.alloc (.cells (madeCells #[.int .i64 0,.int .i64 0,.int .i64 0,.int .i64 0] ((L+2)*4)) 72)):=by
 obtain⟨i,hi,h1,h2,h3⟩:=Ew
 have h:=run_make (P:=prog) w 23 72 i (.agg #[.int .i64 0,.int .i64 0,.int .i64 0,.int .i64 0]) underlying23 hi h1 .i64 .i64 0 ((L:Int)+2) (by omega) (by omega) (by rw[h3];omega) (by omega)
 rw[h2]at h
 have e:((L:Int)+2).toNat=L+2:=by omega
 rw[e]at h
 exact h
def rnM(L:Nat)(R:Nat->Int × Int × Int × Int)(k:Nat):Int × Int × Int × Int:=if k<L then R k else(-7,0,0,0)
end St
end
section
open Go.RowKit Tf Cu Go.Deep
attribute [local go_sem] aK aL aP aQ aR aV aW aF
namespace St
theorem sS(b1 n1 c1 b2 n2 c2:Nat)(F1 F2:Nat->Value)(w:World)(HN:Hid (n1<=c1/\n2<=c2/\n1<=12288/\n2<=12288))(NE:Hid (b1≠b2))(h1:w.rowIs b1 22 c1 F1)(h2:w.rowIs b2 22 c2 F2):
  Calls prog 36 #[.slice (some ⟨b1,0,none⟩) n1 c1,.slice (some ⟨b2,0,none⟩) n2 c2] w fun e w'=>e=.returned (.tuple #[])/\Rv.AbQ w (fun j=>j=b1\/j=b2) w':=by
 have AQ:=hid (Rv.AbQ.refl w (fun j=>j=b1\/j=b2))
 have RR:Hid ((∃F,w.rowIs b1 22 c1 F)/\ ∃F,w.rowIs b2 22 c2 F):=⟨⟨_,h1⟩,_,h2⟩
 clear h1 h2
 go_enter func36,ntmps36
 go_wp2
 go_loopw [4] (fun iv wr=> ∃k:Nat,k<=n1/\iv=.int .i64 (k:Nat)/\Rv.AbQ w (fun j=>j=b1\/j=b2) wr/\(∃F,wr.rowIs b1 22 c1 F)/\ ∃F,wr.rowIs b2 22 c2 F) (fun iv _=>n1 - (intOf iv).toNat)
 case atStart=>exact⟨0,by omega,rfl,AQ.out,RR.out.1,RR.out.2⟩
 case round=>
  obtain⟨k,hk,rfl,aq,r1,r2⟩:=hrel
  have AK:=hid aq
  have RK:=hid (And.intro r1 r2)
  clear aq r1 r2 AQ RR
  by_cases hkn:k<n1
  ·have HK:=hid hkn
   have kI:(k:Int)<n1:=by omega
   have kB:(k:Int)<=12288:=by have:=HN.out;omega
   obtain⟨F,hF⟩:=RK.out.1
   have RF:=hid hF
   have z1:=hF.cell (show k<c1 by have:=HN.out;omega)
   have z2:=hF.frozen k
   obtain⟨y,hy⟩:=aD (F k)
   rw[hy]at z1
   clear hF hkn hk hy
   go_wp2_with fail
   refine⟨⟨k+1,by have:=HK.out;omega,by simp,AK.out.set (.inl (.inl rfl)) _,?_,?_⟩,by have:=HK.out;simp[intOf];omega⟩
   ·exact⟨_,RF.out.set k _⟩
   ·obtain⟨F',h'⟩:=RK.out.2
    exact⟨_,h'.setOther (a:=⟨b1,k,none⟩) (show b2≠b1 from Ne.symm NE.out) _⟩
  ·have e6:n1=k:=by omega
   subst e6
   go_wp2
   have AQ:=AK
   have RR:=RK
   clear AK RK
   go_loopw [5] (fun iv wr=> ∃k:Nat,k<=n2/\iv=.int .i64 (k:Nat)/\Rv.AbQ w (fun j=>j=b1\/j=b2) wr/\(∃F,wr.rowIs b1 22 c1 F)/\ ∃F,wr.rowIs b2 22 c2 F) (fun iv _=>n2 - (intOf iv).toNat)
   case atStart=>exact⟨0,by omega,rfl,AQ.out,RR.out.1,RR.out.2⟩
   case round=>
    obtain⟨k,hk,rfl,aq,r1,r2⟩:=hrel
    have AK:=hid aq
    have RK:=hid (And.intro r1 r2)
    clear aq r1 r2 AQ RR
    by_cases hkn:k<n2
    ·have HK:=hid hkn
     have kI:(k:Int)<n2:=by omega
     have kB:(k:Int)<=12288:=by have:=HN.out;omega
     obtain⟨F,hF⟩:=RK.out.2
     have RF:=hid hF
     have z1:=hF.cell (show k<c2 by have:=HN.out;omega)
     have z2:=hF.frozen k
     obtain⟨y,hy⟩:=aD (F k)
     rw[hy]at z1
     clear hF hkn hk hy
     go_wp2_with fail
     refine⟨⟨k+1,by have:=HK.out;omega,by simp,AK.out.set (.inl (.inr rfl)) _,?_,?_⟩,by have:=HK.out;simp[intOf];omega⟩
     ·obtain⟨F',h'⟩:=RK.out.1
      exact⟨_,h'.setOther (a:=⟨b2,k,none⟩) (show b1≠b2 from NE.out) _⟩
     ·exact⟨_,RF.out.set k _⟩
    ·have e6:n2=k:=by omega
     subst e6
     go_wp2
     go_end0
     exact⟨rfl,AK.out⟩
theorem pA(b1 n1 c1 b2 n2 c2:Nat)(F1 F2:Nat->Value)(w:World)(HN:Hid (n1<=c1/\n2<=c2/\n1<=12288/\n2<=12288))(NE:Hid (b1≠b2))(h1:w.rowIs b1 2 c1 F1)(h2:w.rowIs b2 2 c2 F2):
  Calls prog 37 #[.slice (some ⟨b1,0,none⟩) n1 c1,.slice (some ⟨b2,0,none⟩) n2 c2] w fun e w'=>e=.returned (.tuple #[])/\Rv.AbQ w (fun j=>j=b1\/j=b2) w':=by
 have AQ:=hid (Rv.AbQ.refl w (fun j=>j=b1\/j=b2))
 have RR:Hid ((∃F,w.rowIs b1 2 c1 F)/\ ∃F,w.rowIs b2 2 c2 F):=⟨⟨_,h1⟩,_,h2⟩
 clear h1 h2
 go_enter func37,ntmps37
 go_wp2
 go_loopw [4] (fun iv wr=> ∃k:Nat,k<=n1/\iv=.int .i64 (k:Nat)/\Rv.AbQ w (fun j=>j=b1\/j=b2) wr/\(∃F,wr.rowIs b1 2 c1 F)/\ ∃F,wr.rowIs b2 2 c2 F) (fun iv _=>n1 - (intOf iv).toNat)
 case atStart=>exact⟨0,by omega,rfl,AQ.out,RR.out.1,RR.out.2⟩
 case round=>
  obtain⟨k,hk,rfl,aq,r1,r2⟩:=hrel
  have AK:=hid aq
  have RK:=hid (And.intro r1 r2)
  clear aq r1 r2 AQ RR
  by_cases hkn:k<n1
  ·have HK:=hid hkn
   have kI:(k:Int)<n1:=by omega
   have kB:(k:Int)<=12288:=by have:=HN.out;omega
   obtain⟨F,hF⟩:=RK.out.1
   have RF:=hid hF
   have z1:=hF.cell (show k<c1 by have:=HN.out;omega)
   have z2:=hF.frozen k
   obtain⟨y,hy⟩:=aD (F k)
   rw[hy]at z1
   clear hF hkn hk hy
   go_wp2_with fail
   refine⟨⟨k+1,by have:=HK.out;omega,by simp,AK.out.set (.inl (.inl rfl)) _,?_,?_⟩,by have:=HK.out;simp[intOf];omega⟩
   ·exact⟨_,RF.out.set k _⟩
   ·obtain⟨F',h'⟩:=RK.out.2
    exact⟨_,h'.setOther (a:=⟨b1,k,none⟩) (show b2≠b1 from Ne.symm NE.out) _⟩
  ·have e6:n1=k:=by omega
   subst e6
   go_wp2
   have AQ:=AK
   have RR:=RK
   clear AK RK
   go_loopw [5] (fun iv wr=> ∃k:Nat,k<=n2/\iv=.int .i64 (k:Nat)/\Rv.AbQ w (fun j=>j=b1\/j=b2) wr/\(∃F,wr.rowIs b1 2 c1 F)/\ ∃F,wr.rowIs b2 2 c2 F) (fun iv _=>n2 - (intOf iv).toNat)
   case atStart=>exact⟨0,by omega,rfl,AQ.out,RR.out.1,RR.out.2⟩
   case round=>
    obtain⟨k,hk,rfl,aq,r1,r2⟩:=hrel
    have AK:=hid aq
    have RK:=hid (And.intro r1 r2)
    clear aq r1 r2 AQ RR
    by_cases hkn:k<n2
    ·have HK:=hid hkn
     have kI:(k:Int)<n2:=by omega
     have kB:(k:Int)<=12288:=by have:=HN.out;omega
     obtain⟨F,hF⟩:=RK.out.2
     have RF:=hid hF
     have z1:=hF.cell (show k<c2 by have:=HN.out;omega)
     have z2:=hF.frozen k
     obtain⟨y,hy⟩:=aD (F k)
     rw[hy]at z1
     clear hF hkn hk hy
     go_wp2_with fail
     refine⟨⟨k+1,by have:=HK.out;omega,by simp,AK.out.set (.inl (.inr rfl)) _,?_,?_⟩,by have:=HK.out;simp[intOf];omega⟩
     ·obtain⟨F',h'⟩:=RK.out.1
      exact⟨_,h'.setOther (a:=⟨b2,k,none⟩) (show b1≠b2 from NE.out) _⟩
     ·exact⟨_,RF.out.set k _⟩
    ·have e6:n2=k:=by omega
     subst e6
     go_wp2
     go_end0
     exact⟨rfl,AK.out⟩
end St
end
end Go.Proofs.YtaphajlpbgcfjaaGreatDoor
