/-
  Some of the texts of this proof, one behind the other.
-/
import Derived.Deep.RegionHeld3
import Derived.Test.YtaphajlpbgcfjaaGreatDoorRa13
set_option maxRecDepth 100000
set_option maxHeartbeats 400000000
namespace Go.Proofs.YtaphajlpbgcfjaaGreatDoor
open _root_.Go.Proofs.Tryz
section
open Go.RowKit Tf Cu Go.Deep
attribute [local go_sem] aJ aK aP aQ aR aV aX aF
namespace St
open Ss Fc
def LkR(W:Nat->Int)(b1 b2 b3 b4:Nat)(v:World):Prop:=v.rowIs b1 22 6 (fun _=>.float .f64 0)/\v.rowIs b2 2 6 (fun i=>.int .i64 (W i))/\v.rowIs b3 2 6 (fun _=>.int .i64 0)/\v.rowIs b4 22 12 (fun _=>.float .f64 0)
theorem LkR.to{W:Nat->Int}{b1 b2 b3 b4:Nat}{v v':World}(h:LkR W b1 b2 b3 b4 v)(a:Ab v v'):LkR W b1 b2 b3 b4 v':=⟨rowIs.ab h.1 a,rowIs.ab h.2.1 a,rowIs.ab h.2.2.1 a,rowIs.ab h.2.2.2 a⟩
theorem sea_over{U z:World}{g:Nat}{vv:Value}{n1 n2 n3 n4:Nat}{A:Nat->Nat}{B C:Nat->Int}{D:Nat->Nat}{sk st:Int}{x0 x1 x2 x3 x4 x5:Value}(q:U.heap[g]? =some (.cells #[x0,x1,x2,x3,x4,x5] 29))(b:Ab U z)(os:OwnS U.heap.size vv n1 n2 n3 n4 A B C D sk st z)(hb:Bnd n1 n2 n3 n4 A B C D):
  ∃p1 c1 p2 c2 p3 c3 p4 c4,vv=.agg #[.slice p1 n1 c1,.slice p2 n2 c2,.slice p3 n3 c3,.slice p4 n4 c4,.int .i64 sk,.int .i64 st]/\SeaP g p1 c1 p2 c2 p3 c3 p4 c4 n1 n2 n3 n4 A B C D sk st ((((((z.setCell ⟨g,0,none⟩ (.slice p1 n1 c1)).setCell ⟨g,1,none⟩ (.slice p2 n2 c2)).setCell ⟨g,2,none⟩ (.slice p3 n3 c3)).setCell ⟨g,3,none⟩ (.slice p4 n4 c4)).setCell ⟨g,4,none⟩ (.int .i64 sk)).setCell ⟨g,5,none⟩ (.int .i64 st)):=by
 obtain⟨p1,c1,p2,c2,p3,c3,p4,c4,e,⟨i1,i2,i3,i4⟩,⟨o1,o2,o3,o4⟩,dj⟩:=yI os hb.1 hb.2.1 hb.2.2.1 hb.2.2.2
 have lt:=Rv.bG q
 have ne: ∀(t:TypeId) (p:Option Addr) (n c:Nat) (l:List Value),OV t U.heap.size (.slice p n c) l z-> ∀b o,p=some ⟨b,o,none⟩->b≠g:=fun t p n c l h b o e=>by
  subst e
  have:=(h.blk (k:=b) rfl).1
  omega
 have fl: ∀(p:Option Addr) (n:Nat) (f:Nat->Nat) (v:World) (k:Nat) (u:Value),(∀b o,p=some ⟨b,o,none⟩->b≠g)->IsFl v p n f->IsFl (v.setCell ⟨g,k,none⟩ u) p n f:=fun p n f v k u hn h=>hZ _ h hn
 have it: ∀(p:Option Addr) (n:Nat) (f:Nat->Int) (v:World) (k:Nat) (u:Value),(∀b o,p=some ⟨b,o,none⟩->b≠g)->Sh.IsI v p n f->Sh.IsI (v.setCell ⟨g,k,none⟩ u) p n f:=fun p n f v k u hn h=>gG _ h hn
 have n1:=ne _ _ _ _ _ o1
 have n2:=ne _ _ _ _ _ o2
 have n3:=ne _ _ _ _ _ o3
 have n4:=ne _ _ _ _ _ o4
 exact⟨p1,c1,p2,c2,p3,c3,p4,c4,e,oD (Ab.heap b q),fl _ _ _ _ _ _ n1 (fl _ _ _ _ _ _ n1 (fl _ _ _ _ _ _ n1 (fl _ _ _ _ _ _ n1 (fl _ _ _ _ _ _ n1 (fl _ _ _ _ _ _ n1 i1))))),it _ _ _ _ _ _ n2 (it _ _ _ _ _ _ n2 (it _ _ _ _ _ _ n2 (it _ _ _ _ _ _ n2 (it _ _ _ _ _ _ n2 (it _ _ _ _ _ _ n2 i2))))),it _ _ _ _ _ _ n3 (it _ _ _ _ _ _ n3 (it _ _ _ _ _ _ n3 (it _ _ _ _ _ _ n3 (it _ _ _ _ _ _ n3 (it _ _ _ _ _ _ n3 i3))))),fl _ _ _ _ _ _ n4 (fl _ _ _ _ _ _ n4 (fl _ _ _ _ _ _ n4 (fl _ _ _ _ _ _ n4 (fl _ _ _ _ _ _ n4 (fl _ _ _ _ _ _ n4 i4)))))⟩
theorem Bc{U z:World}{g:Nat}{x y u v:Value}{p:Option Addr}{n:Nat}{H:Nat->Int}(q:U.heap[g]? =some (.cells #[x,y] 46))(b:Ab U z)(h:Sh.IsI z p n H)(hp: ∀b o,p=some ⟨b,o,none⟩->U.heap.size<=b):
  ((z.setCell ⟨g,0,none⟩ u).setCell ⟨g,1,none⟩ v).heap[g]? =some (.cells #[u,v] 46)/\Sh.IsI ((z.setCell ⟨g,0,none⟩ u).setCell ⟨g,1,none⟩ v) p n H:=by
 have lt:=Rv.bG q
 have hn: ∀b o,p=some ⟨b,o,none⟩->b≠g:=fun b o e=>by have:=hp b o e;omega
 have h1:=aI (v:=u) (k:=0) (Ab.heap b q)
 have h2:=aI (v:=v) (k:=1) h1
 exact⟨by simpa using h2,gG _ (gG _ h hn) hn⟩
def Qs(V:World)(gs gt:Nat)(o:Obj)(w:World):Prop:=(Ab V w/\w.heap[gs]? =some o)/\gs≠gt/\V.heap.size<=gt
theorem Qs.drew{V w:World}{gs gt:Nat}{o:Obj}(h:Qs V gs gt o w):Qs V gs gt o w.drew:=⟨⟨h.1.1.drew,h.1.2⟩,h.2⟩
theorem Qs.to{V w w':World}{gs gt:Nat}{o:Obj}(h:Qs V gs gt o w)(a:Ab w w'):Qs V gs gt o w':=⟨⟨h.1.1.trans a,Ab.heap a h.1.2⟩,h.2⟩
theorem Qs.set{V w:World}{gs gt:Nat}{o:Obj}(h:Qs V gs gt o w)(k:Nat)(v:Value):Qs V gs gt o (w.setCell ⟨gt,k,none⟩ v):=⟨⟨h.1.1.setk h.2.2 _,(aW h.2.1).trans h.1.2⟩,h.2⟩
theorem Dq(F1:Nat->Nat)(F2 F3:Nat->Int)(F4:Nat->Nat)(H1:Nat->Int)(G1:Nat->Nat)(G2 G3:Nat->Int)(G4:Nat->Nat)(w:World)
  (NW:Hid (∀v,Ab w v->Calls prog 13 #[.int .i64 1] v fun e w'=> ∃gb,e=.returned (.tuple #[.pointer (some ⟨gb,0,none⟩),.int .i64 0])/\Below v.heap.size v w'/\GridOf 1 gb w'))
  (LK:Hid (∀v gb,GridOf 1 gb v->Calls prog 38 #[.pointer (some ⟨gb,0,none⟩)] v fun e w'=> ∃b1 b2 b3 b4,e=.returned (.agg #[.slice (some ⟨b1,0,none⟩) 6 6,.slice (some ⟨b2,0,none⟩) 6 6,.slice (some ⟨b3,0,none⟩) 6 6,.slice (some ⟨b4,0,none⟩) 12 12,.int .i64 0,.int .i64 0])/\Below v.heap.size v w'/\LkR w1 b1 b2 b3 b4 w'/\(v.heap.size<=b1/\v.heap.size<=b2/\v.heap.size<=b3/\v.heap.size<=b4)/\b1≠b2/\b1≠b3/\b1≠b4/\b2≠b3/\b2≠b4/\b3≠b4))
  (PL:Hid (∀v,Calls prog 39 #[] v fun e w'=>e=.returned (.agg #[.int .i64 1,.float .f64 4602678819172646912,.float .f64 4607182418800017408,.float .f64 0,.int .i64 0,.bool false,.slice none 0 0])/\Below v.heap.size v w'))
  (O1:Hid (∀v gb b1 b2 b3 b4,Ab w v->GridOf 1 gb v->LkR w1 b1 b2 b3 b4 v->Calls prog 14 #[.pointer (some ⟨gb,0,none⟩),.agg #[.int .i64 1,.float .f64 4602678819172646912,.float .f64 4607182418800017408,.float .f64 0,.int .i64 0,.bool false,.slice none 0 0],.agg #[.slice (some ⟨b1,0,none⟩) 6 6,.slice (some ⟨b2,0,none⟩) 6 6,.slice (some ⟨b3,0,none⟩) 6 6,.slice (some ⟨b4,0,none⟩) 12 12,.int .i64 0,.int .i64 0]] v fun e w'=> ∃vv,e=.returned (.tuple #[vv,.int .i64 0])/\Below v.heap.size v w'/\OwnS v.heap.size vv 6 6 6 12 F1 F2 F3 F4 0 1 w'))
  (FL:Hid (∀v gb b1 b2 b3 b4,Ab w v->GridOf 1 gb v->LkR w1 b1 b2 b3 b4 v->Calls prog 17 #[.pointer (some ⟨gb,0,none⟩),.agg #[.int .i64 1,.float .f64 4602678819172646912,.float .f64 4607182418800017408,.float .f64 0,.int .i64 0,.bool false,.slice none 0 0],.agg #[.slice (some ⟨b1,0,none⟩) 6 6,.slice (some ⟨b2,0,none⟩) 6 6,.slice (some ⟨b3,0,none⟩) 6 6,.slice (some ⟨b4,0,none⟩) 12 12,.int .i64 0,.int .i64 0]] v fun e w'=> ∃p1 c1 p2 c2,e=.returned (.tuple #[.agg #[.slice p1 12 c1,.slice p2 12 c2],.int .i64 0])/\Below v.heap.size v w'/\Sh.IsI w' p1 12 H1/\ ∀b o,p1=some ⟨b,o,none⟩->v.heap.size<=b))
  (O2:Hid (∀v gb b1 b2 b3 b4,Ab w v->GridOf 1 gb v->LkR w2 b1 b2 b3 b4 v->Calls prog 14 #[.pointer (some ⟨gb,0,none⟩),.agg #[.int .i64 1,.float .f64 4602678819172646912,.float .f64 4607182418800017408,.float .f64 0,.int .i64 0,.bool false,.slice none 0 0],.agg #[.slice (some ⟨b1,0,none⟩) 6 6,.slice (some ⟨b2,0,none⟩) 6 6,.slice (some ⟨b3,0,none⟩) 6 6,.slice (some ⟨b4,0,none⟩) 12 12,.int .i64 0,.int .i64 0]] v fun e w'=> ∃vv,e=.returned (.tuple #[vv,.int .i64 0])/\Below v.heap.size v w'/\OwnS v.heap.size vv 6 6 6 12 G1 G2 G3 G4 0 1 w'))
  (BF:Hid (Bnd 6 6 6 12 F1 F2 F3 F4)) (BG:Hid (Bnd 6 6 6 12 G1 G2 G3 G4))
  (E1:Hid (eqS 6 6 6 12 F1 F2 F3 F4 0 1 6 6 6 12 (fun _=>0) w1 (fun _=>0) (fun _=>0) 0 1=true)) (E2:Hid (eqL 12 12 H1 (fun _=>0)=true))
  (g1:G2 1=1870009029) (g3:G2 3=1870009029) (g2:G2 2=1431655765) (s0:G4 0=4600040671590431692) (s3:G4 3=4600040671590431692):
  Calls prog 9 #[] w fun e w'=>e=.returned (.bool true)/\Below w.heap.size w w':=by
 have GG:=hid (And.intro g1 (And.intro g3 (And.intro g2 (And.intro s0 s3))))
 clear g1 g3 g2 s0 s3
 go_enter func9,ntmps9
 go_wp2_with fail
 refine(NW.out w (Ab.refl w)).mono ?_
 rintro e9 v1 ⟨gb,rfl,b1',g1'⟩
 have A1:Hid (Ab w v1):=b1'
 have K1:=hid g1'
 clear b1' g1' NW
 go_wp2_with fail
 refine(LK.out v1 gb K1.out).mono ?_
 rintro e9 v2 ⟨b1,b2,b3,b4,rfl,bb,hr,hl,hn⟩
 have B2:Hid (Ab v1 v2):=bb
 have L2:=hid hr
 have LL:=hid hl
 have NN:=hid hn
 have GLT:Hid (b1<v2.heap.size/\b2<v2.heap.size/\b3<v2.heap.size/\b4<v2.heap.size):=⟨hr.1.lt,hr.2.1.lt,hr.2.2.1.lt,hr.2.2.2.lt⟩
 clear bb hr hl hn LK
 go_upto_region 5 with fail
 have R3:=hid (heap_alloc_new v2 (.cells #[.slice (some ⟨b1,0,none⟩) 6 6,.slice (some ⟨b2,0,none⟩) 6 6,.slice (some ⟨b3,0,none⟩) 6 6,.slice (some ⟨b4,0,none⟩) 12 12,.int .i64 0,.int .i64 0] 29))
 have B3:Hid (Ab v1 (v2.alloc (.cells #[.slice (some ⟨b1,0,none⟩) 6 6,.slice (some ⟨b2,0,none⟩) 6 6,.slice (some ⟨b3,0,none⟩) 6 6,.slice (some ⟨b4,0,none⟩) 12 12,.int .i64 0,.int .i64 0] 29))):=B2.out.trans (bl1 _ _)
 have L3:=hid (L2.out.to (bl1 v2 (.cells #[.slice (some ⟨b1,0,none⟩) 6 6,.slice (some ⟨b2,0,none⟩) 6 6,.slice (some ⟨b3,0,none⟩) 6 6,.slice (some ⟨b4,0,none⟩) 12 12,.int .i64 0,.int .i64 0] 29)))
 generalize hW:World.alloc v2 _=V3 at*
 obtain⟨gs,hgs⟩:=aB v2.heap.size
 rw[hgs]at R3 GLT ⊢
 have GS:Hid (v1.heap.size<=gs):=by show _<=_;rw[<- hgs];exact B2.out.size
 clear hgs hW B2 L2
 have A3:Hid (Ab w V3):=A1.out.trans B3.out
 have K3:=hid (K1.out.to B3.out)
 have y0:V3.cell? ⟨b2,0,none⟩=some (.int .i64 1431655765):=L3.out.2.1.cell (show 0<6 by omega)
 obtain⟨x0,x1,x2,x3,x4,x5⟩:=aE R3.out
 go_upto_region 7 with fail
 clear y0
 go_cut [2,4]from 25 to 31 (fun s2 s4 wx=> ∃gt tp1 tc1 tp2 tc2 tp3 tc3 tp4 tc4,s2=.int .i64 0/\s4=.pointer (some ⟨gt,0,none⟩)/\Ab V3 wx/\V3.heap.size<=gt/\SeaP gt tp1 tc1 tp2 tc2 tp3 tc3 tp4 tc4 6 6 6 12 F1 F2 F3 F4 0 1 wx)
 case first=>
  clear x0 x1 x2 x3 x4 x5
  have aw:Ab w V3:=A3.out
  have av:Ab V3 V3:=Ab.refl _
  have KS:Hid (∀w',Ab V3 w'->Ab V3 w'/\w'.cell? ⟨gs,0,none⟩=some (.slice (some ⟨b1,0,none⟩) 6 6)/\w'.cell? ⟨gs,1,none⟩=some (.slice (some ⟨b2,0,none⟩) 6 6)/\w'.cell? ⟨gs,2,none⟩=some (.slice (some ⟨b3,0,none⟩) 6 6)/\w'.cell? ⟨gs,3,none⟩=some (.slice (some ⟨b4,0,none⟩) 12 12)/\w'.cell? ⟨gs,4,none⟩=some (.int .i64 0)/\w'.cell? ⟨gs,5,none⟩=some (.int .i64 0)):=fun w' h=>⟨h,aA 0 (h.heap R3.out),aA 1 (h.heap R3.out),aA 2 (h.heap R3.out),aA 3 (h.heap R3.out),aA 4 (h.heap R3.out),aA 5 (h.heap R3.out)⟩
  go_region_held3 (fun w'=>Ab V3 w'/\w'.cell? ⟨gs,0,none⟩=some (.slice (some ⟨b1,0,none⟩) 6 6)/\w'.cell? ⟨gs,1,none⟩=some (.slice (some ⟨b2,0,none⟩) 6 6)/\w'.cell? ⟨gs,2,none⟩=some (.slice (some ⟨b3,0,none⟩) 6 6)/\w'.cell? ⟨gs,3,none⟩=some (.slice (some ⟨b4,0,none⟩) 12 12)/\w'.cell? ⟨gs,4,none⟩=some (.int .i64 0)/\w'.cell? ⟨gs,5,none⟩=some (.int .i64 0)) ((refine KS.out _ ?_;(with_reducible (repeat(first | assumption | apply Ab.drew | apply Ab.alloc | (refine Ab.setk ?_ (by first | assumption | exact Nat.le_refl _) _))));done)) (first
   | (go_at_call 39;refine(PL.out _).mono ?_;rintro e9 z1 ⟨rfl,c1⟩;have az1:Ab V3 z1:=(show Ab V3 _ by with_reducible (repeat(first | assumption | apply Ab.drew | apply Ab.alloc))).trans c1;have sz1:V3.heap.size<=z1.heap.size:=az1.size;(try(have q1:=Ab.heap c1 (heap_alloc_new _ _))))
   | (go_at_call 14;refine(O1.out _ gb b1 b2 b3 b4 (aw.trans (show Ab V3 _ by with_reducible (repeat(first | assumption | apply Ab.drew | apply Ab.alloc)))) (K3.out.to (show Ab V3 _ by with_reducible (repeat(first | assumption | apply Ab.drew | apply Ab.alloc)))) (L3.out.to (show Ab V3 _ by with_reducible (repeat(first | assumption | apply Ab.drew | apply Ab.alloc))))).mono ?_;rintro e9 z2 ⟨vv,rfl,c2,os⟩;have az2:Ab V3 z2:=(show Ab V3 _ by with_reducible (repeat(first | assumption | apply Ab.drew | apply Ab.alloc))).trans c2;first
     | (have q0:=q1;obtain⟨tp1,tc1,tp2,tc2,tp3,tc3,tp4,tc4,rfl,q2,FIN⟩:=Fz q0 c2 os BF.out;have t0:=aA 0 q2;have f0:=aD q2 0;have t1:=aA 1 q2;have f1:=aD q2 1;have t2:=aA 2 q2;have f2:=aD q2 2;have t3:=aA 3 q2;have f3:=aD q2 3;have t4:=aA 4 q2;have f4:=aD q2 4;have t5:=aA 5 q2;have f5:=aD q2 5;skip)
     | (have q0:=Ab.heap c2 (heap_alloc_new _ _);obtain⟨tp1,tc1,tp2,tc2,tp3,tc3,tp4,tc4,rfl,q2,FIN⟩:=Fz (heap_alloc_new _ _) c2 os BF.out;have t0:=aA 0 q2;have f0:=aD q2 0;have t1:=aA 1 q2;have f1:=aD q2 1;have t2:=aA 2 q2;have f2:=aD q2 2;have t3:=aA 3 q2;have f3:=aD q2 3;have t4:=aA 4 q2;have f4:=aD q2 4;have t5:=aA 5 q2;have f5:=aD q2 5;skip)
     | (obtain⟨tp1,tc1,tp2,tc2,tp3,tc3,tp4,tc4,rfl,FIN⟩:=mG os BF.out)))
  all_goals(try go_wp2_with fail)
  all_goals(try go_meet)
  all_goals first
   | (have q9:=q1;exact⟨_,_,_,_,_,_,_,_,_,rfl,rfl,(((((az2.setk (Nat.le_refl _) _).setk (Nat.le_refl _) _).setk (Nat.le_refl _) _).setk (Nat.le_refl _) _).setk (Nat.le_refl _) _).setk (Nat.le_refl _) _,Nat.le_refl _,FIN⟩)
   | (have q9:=q2;exact⟨_,_,_,_,_,_,_,_,_,rfl,rfl,(((((az2.setk sz1 _).setk sz1 _).setk sz1 _).setk sz1 _).setk sz1 _).setk sz1 _,sz1,FIN⟩)
   | exact⟨_,_,_,_,_,_,_,_,_,rfl,rfl,az2.alloc _,az2.size,FIN.1,FIN.2.1⟩
 case rest=>
  obtain⟨gt,tp1,tc1,tp2,tc2,tp3,tc3,tp4,tc4,rfl,rfl,ac,lt4,sp4⟩:=hcut
  rename World=>V4
  have A4:Hid (Ab w V4):=A3.out.trans ac
  have R4:=hid (Ab.heap ac R3.out)
  have L4:=hid (L3.out.to ac)
  have K4:=hid (K3.out.to ac)
  have B4:Hid (Ab v1 V4):=B3.out.trans ac
  have T4:=hid sp4
  have GT:Hid (V3.heap.size<=gt):=lt4
  have GL:Hid (gs<V3.heap.size):=Rv.bG R3.out
  clear ac lt4 sp4 A3 R3 L3 K3 B3 x0 x1 x2 x3 x4 x5 O1
  obtain⟨x0,x1,x2,x3,x4,x5⟩:=aE R4.out
  go_upto_region 10 with fail
  obtain⟨C5,U5⟩:=aL V4 (.cells #[.slice (some ⟨b1,0,none⟩) 6 6,.slice (some ⟨b2,0,none⟩) 6 6,.slice (some ⟨b3,0,none⟩) 6 6,.slice (some ⟨b4,0,none⟩) 12 12,.int .i64 0,.int .i64 1] 29)
  generalize hW:World.alloc V4 _=V5 at*
  obtain⟨gu,hgu⟩:=aB V4.heap.size
  rw[hgu]at U5 ⊢
  clear hgu hW x0 x1 x2 x3 x4 x5
  have A5:Hid (Ab w V5):=A4.out.trans C5.out
  have R5:=hid (Ab.heap C5.out R4.out)
  have L5:=hid (L4.out.to C5.out)
  have K5:=hid (K4.out.to C5.out)
  have B5:Hid (Ab v1 V5):=B4.out.trans C5.out
  have T5:Hid (SeaP gt tp1 tc1 tp2 tc2 tp3 tc3 tp4 tc4 6 6 6 12 F1 F2 F3 F4 0 1 V5):=⟨Ab.heap C5.out T4.out.1,T4.out.2.1.below C5.out,T4.out.2.2.1.below C5.out,T4.out.2.2.2.1.below C5.out,T4.out.2.2.2.2.below C5.out⟩
  clear A4 R4 L4 K4 B4 T4 C5
  go_cut [6,7]from 34 to 40 (fun s6 s7 wx=> ∃gf fp1 fc1 fp2 fc2,s6=.pointer (some ⟨gf,0,none⟩)/\s7=.int .i64 0/\Ab V5 wx/\wx.heap[gf]? =some (.cells #[.slice fp1 12 fc1,.slice fp2 12 fc2] 46)/\Sh.IsI wx fp1 12 H1)
  case first=>
   have aw:Ab w V5:=A5.out
   have av:Ab V5 V5:=Ab.refl _
   have KS:Hid (∀w',Ab V5 w'->Ab V5 w'/\w'.cell? ⟨gs,0,none⟩=some (.slice (some ⟨b1,0,none⟩) 6 6)/\w'.cell? ⟨gs,1,none⟩=some (.slice (some ⟨b2,0,none⟩) 6 6)/\w'.cell? ⟨gs,2,none⟩=some (.slice (some ⟨b3,0,none⟩) 6 6)/\w'.cell? ⟨gs,3,none⟩=some (.slice (some ⟨b4,0,none⟩) 12 12)/\w'.cell? ⟨gs,4,none⟩=some (.int .i64 0)/\w'.cell? ⟨gs,5,none⟩=some (.int .i64 0)):=fun w' h=>⟨h,aA 0 (h.heap R5.out),aA 1 (h.heap R5.out),aA 2 (h.heap R5.out),aA 3 (h.heap R5.out),aA 4 (h.heap R5.out),aA 5 (h.heap R5.out)⟩
   go_region_held3 (fun w'=>Ab V5 w'/\w'.cell? ⟨gs,0,none⟩=some (.slice (some ⟨b1,0,none⟩) 6 6)/\w'.cell? ⟨gs,1,none⟩=some (.slice (some ⟨b2,0,none⟩) 6 6)/\w'.cell? ⟨gs,2,none⟩=some (.slice (some ⟨b3,0,none⟩) 6 6)/\w'.cell? ⟨gs,3,none⟩=some (.slice (some ⟨b4,0,none⟩) 12 12)/\w'.cell? ⟨gs,4,none⟩=some (.int .i64 0)/\w'.cell? ⟨gs,5,none⟩=some (.int .i64 0)) ((refine KS.out _ ?_;(with_reducible (repeat(first | assumption | apply Ab.drew | apply Ab.alloc | (refine Ab.setk ?_ (by first | assumption | exact Nat.le_refl _) _))));done)) (first
    | (go_at_call 39;refine(PL.out _).mono ?_;rintro e9 z1 ⟨rfl,c1⟩;have az1:Ab V5 z1:=(show Ab V5 _ by with_reducible (repeat(first | assumption | apply Ab.drew | apply Ab.alloc))).trans c1;have sz1:V5.heap.size<=z1.heap.size:=az1.size;(try(have q1:=Ab.heap c1 (heap_alloc_new _ _))))
    | (go_at_call 17;refine(FL.out _ gb b1 b2 b3 b4 (aw.trans (show Ab V5 _ by with_reducible (repeat(first | assumption | apply Ab.drew | apply Ab.alloc)))) (K5.out.to (show Ab V5 _ by with_reducible (repeat(first | assumption | apply Ab.drew | apply Ab.alloc)))) (L5.out.to (show Ab V5 _ by with_reducible (repeat(first | assumption | apply Ab.drew | apply Ab.alloc))))).mono ?_;rintro e9 z2 ⟨fp1,fc1,fp2,fc2,rfl,c2,hi,hb⟩;have az2:Ab V5 z2:=(show Ab V5 _ by with_reducible (repeat(first | assumption | apply Ab.drew | apply Ab.alloc))).trans c2;first
      | (have q0:=q1;have q2:=Ab.heap c2 q0;have FIN:=Bc (u:=.slice fp1 12 fc1) (v:=.slice fp2 12 fc2) q0 c2 hi hb;have t0:=aA 0 q2;have f0:=aD q2 0;have t1:=aA 1 q2;have f1:=aD q2 1;skip)
      | (have q2:=Ab.heap c2 (heap_alloc_new _ _);have FIN:=Bc (u:=.slice fp1 12 fc1) (v:=.slice fp2 12 fc2) (heap_alloc_new _ _) c2 hi hb;have t0:=aA 0 q2;have f0:=aD q2 0;have t1:=aA 1 q2;have f1:=aD q2 1;skip)
      | (have FIN:=hi.below (bl1 z2 (.cells #[.slice fp1 12 fc1,.slice fp2 12 fc2] 46)))))
   all_goals(try go_wp2_with fail)
   all_goals(try go_meet)
   all_goals first
    | (have q9:=q1;exact⟨_,_,_,_,_,rfl,rfl,(az2.setk (Nat.le_refl _) _).setk (Nat.le_refl _) _,FIN⟩)
    | (have q9:=q2;exact⟨_,_,_,_,_,rfl,rfl,(az2.setk sz1 _).setk sz1 _,FIN⟩)
    | exact⟨_,_,_,_,_,rfl,rfl,az2.alloc _,heap_alloc_new _ _,FIN⟩
  case rest=>
   obtain⟨gf,fp1,fc1,fp2,fc2,rfl,rfl,ac,q6,i6⟩:=hcut
   rename World=>V6
   have A6:Hid (Ab w V6):=A5.out.trans ac
   have R6:=hid (Ab.heap ac R5.out)
   have L6:=hid (L5.out.to ac)
   have B6:Hid (Ab v1 V6):=B5.out.trans ac
   have U6:=hid (Ab.heap ac U5.out)
   have T6:Hid (SeaP gt tp1 tc1 tp2 tc2 tp3 tc3 tp4 tc4 6 6 6 12 F1 F2 F3 F4 0 1 V6):=⟨Ab.heap ac T5.out.1,T5.out.2.1.below ac,T5.out.2.2.1.below ac,T5.out.2.2.2.1.below ac,T5.out.2.2.2.2.below ac⟩
   have F6:=hid q6
   have I6:=hid i6
   clear ac q6 i6 A5 R5 L5 K5 B5 U5 T5 FL
   have M12: ∀v:World,(Instr.makeSlice 27 (.int .i64 12) (.int .i64 12)).run prog v=.ok (.slice (some ⟨v.heap.size,0,none⟩) 12 12) (v.alloc (Obj.cells (madeCells #[.int .i64 0] 12) 2)):=fun v=>by
    have h:=run_make_row' (P:=prog) 27 2 (.int .i64 0) 8 underlying27 Sh.eD rfl .i64 .i64 12 (by omega) (by omega) v
    simpa using h
   have CS:Hid (∀v,Ab V6 v->Calls prog 31 #[.agg #[.slice tp1 6 tc1,.slice tp2 6 tc2,.slice tp3 6 tc3,.slice tp4 12 tc4,.int .i64 0,.int .i64 1],.agg #[.slice (some ⟨b1,0,none⟩) 6 6,.slice (some ⟨b2,0,none⟩) 6 6,.slice (some ⟨b3,0,none⟩) 6 6,.slice (some ⟨b4,0,none⟩) 12 12,.int .i64 0,.int .i64 1]] v fun e w'=>e=.returned (.bool true)/\Below v.heap.size v w'):=fun v a=>by
    have h:=Ba tp1 6 tc1 F1 tp2 6 tc2 F2 tp3 6 tc3 F3 tp4 12 tc4 F4 0 1 (some ⟨b1,0,none⟩) 6 6 (fun _=>0) (some ⟨b2,0,none⟩) 6 6 w1 (some ⟨b3,0,none⟩) 6 6 (fun _=>0) (some ⟨b4,0,none⟩) 12 12 (fun _=>0) 0 1 v (by omega) (by omega) (T6.out.2.1.below a) (T6.out.2.2.1.below a) (T6.out.2.2.2.1.below a) (T6.out.2.2.2.2.below a) (rowIs.fl (L6.out.to a).1 (fun _ _=>(by show 0<_;omega))) (Sh.jH (L6.out.to a).2.1 (fun i _=>by unfold w1;omega)) (Sh.jH (L6.out.to a).2.2.1 (fun _ _=>(by show _<=(0:Int)/\(0:Int)<=_;omega))) (rowIs.fl (L6.out.to a).2.2.2 (fun _ _=>(by show 0<_;omega))) E1.out
    rw[E1.out]at h
    exact h
   have CW:Hid (∀v b,Ab V6 v->v.rowIs b 2 12 (fun _=>.int .i64 0)->Calls prog 22 #[.slice fp1 12 fc1,.slice (some ⟨b,0,none⟩) 12 12] v fun e w'=>e=.returned (.bool true)/\Below v.heap.size v w'):=fun v b a hr=>by
    have h:=wh21 fp1 (some ⟨b,0,none⟩) 12 fc1 12 12 H1 (fun _=>0) v (by omega) (by omega) (I6.out.below a) (Sh.jH hr (fun _ _=>(by show _<=(0:Int)/\(0:Int)<=_;omega)))
    rw[E2.out]at h
    exact h
   go_upto_region 11 with fail
   have av:Ab V6 V6:=Ab.refl _
   have KS:Hid (∀w',Ab V6 w'->Ab V6 w'/\w'.cell? ⟨gt,0,none⟩=some (.slice tp1 6 tc1)/\w'.cell? ⟨gt,1,none⟩=some (.slice tp2 6 tc2)/\w'.cell? ⟨gt,2,none⟩=some (.slice tp3 6 tc3)/\w'.cell? ⟨gt,3,none⟩=some (.slice tp4 12 tc4)/\w'.cell? ⟨gt,4,none⟩=some (.int .i64 0)/\w'.cell? ⟨gt,5,none⟩=some (.int .i64 1)/\w'.cell? ⟨gu,0,none⟩=some (.slice (some ⟨b1,0,none⟩) 6 6)/\w'.cell? ⟨gu,1,none⟩=some (.slice (some ⟨b2,0,none⟩) 6 6)/\w'.cell? ⟨gu,2,none⟩=some (.slice (some ⟨b3,0,none⟩) 6 6)/\w'.cell? ⟨gu,3,none⟩=some (.slice (some ⟨b4,0,none⟩) 12 12)/\w'.cell? ⟨gu,4,none⟩=some (.int .i64 0)/\w'.cell? ⟨gu,5,none⟩=some (.int .i64 1)/\w'.cell? ⟨gf,0,none⟩=some (.slice fp1 12 fc1)):=fun w' h=>⟨h,aA 0 (h.heap T6.out.1),aA 1 (h.heap T6.out.1),aA 2 (h.heap T6.out.1),aA 3 (h.heap T6.out.1),aA 4 (h.heap T6.out.1),aA 5 (h.heap T6.out.1),aA 0 (h.heap U6.out),aA 1 (h.heap U6.out),aA 2 (h.heap U6.out),aA 3 (h.heap U6.out),aA 4 (h.heap U6.out),aA 5 (h.heap U6.out),aA 0 (h.heap F6.out)⟩
   go_region_held3 (fun w'=>Ab V6 w'/\w'.cell? ⟨gt,0,none⟩=some (.slice tp1 6 tc1)/\w'.cell? ⟨gt,1,none⟩=some (.slice tp2 6 tc2)/\w'.cell? ⟨gt,2,none⟩=some (.slice tp3 6 tc3)/\w'.cell? ⟨gt,3,none⟩=some (.slice tp4 12 tc4)/\w'.cell? ⟨gt,4,none⟩=some (.int .i64 0)/\w'.cell? ⟨gt,5,none⟩=some (.int .i64 1)/\w'.cell? ⟨gu,0,none⟩=some (.slice (some ⟨b1,0,none⟩) 6 6)/\w'.cell? ⟨gu,1,none⟩=some (.slice (some ⟨b2,0,none⟩) 6 6)/\w'.cell? ⟨gu,2,none⟩=some (.slice (some ⟨b3,0,none⟩) 6 6)/\w'.cell? ⟨gu,3,none⟩=some (.slice (some ⟨b4,0,none⟩) 12 12)/\w'.cell? ⟨gu,4,none⟩=some (.int .i64 0)/\w'.cell? ⟨gu,5,none⟩=some (.int .i64 1)/\w'.cell? ⟨gf,0,none⟩=some (.slice fp1 12 fc1)) ((refine KS.out _ ?_;(with_reducible (repeat(first | assumption | apply Ab.drew | apply Ab.alloc | (refine Ab.setk ?_ (by first | assumption | exact Nat.le_refl _) _))));done)) (first
    | (go_at_call 31;refine(CS.out _ (show Ab V6 _ by with_reducible (repeat(first | assumption | apply Ab.drew | apply Ab.alloc)))).mono ?_;rintro e9 z1 ⟨rfl,c1⟩;have az1:Ab V6 z1:=(show Ab V6 _ by with_reducible (repeat(first | assumption | apply Ab.drew | apply Ab.alloc))).trans c1)
    | (go_at_call 22;refine(CW.out _ _ (show Ab V6 _ by with_reducible (repeat(first | assumption | apply Ab.drew | apply Ab.alloc))) (dT (heap_alloc_new _ _))).mono ?_;rintro e9 z2 ⟨rfl,c2⟩;have az2:Ab V6 z2:=(show Ab V6 _ by with_reducible (repeat(first | assumption | apply Ab.drew | apply Ab.alloc))).trans c2))
   clear KS M12 CS CW av
   have A7:Hid (Ab V6 z2):=az2
   clear az1 az2 c1 c2
   have R7:=hid (Ab.heap A7.out R6.out)
   have L7:=hid (L6.out.to A7.out)
   have B7:Hid (Ab v1 z2):=B6.out.trans A7.out
   have T7:=hid (Ab.heap A7.out T6.out.1)
   clear A6 R6 L6 B6 U6 T6 F6 I6 A7 E1 E2 BF
   go_upto_region 13 with fail
   obtain⟨UU,E,hF1,hF2⟩:=cls z2
   have HU:=hid hF2
   have HU1:=hid hF1
   have y0: ∀u,(E u).cell? ⟨gs,1,none⟩=some (.slice (some ⟨b2,0,none⟩) 6 6):=fun u=>aA 1 ((hF1 u).heap R7.out)
   have y1: ∀u,(E u).cell? ⟨b2,0,none⟩=some (.int .i64 1431655765):=fun u=>(L7.out.to (hF1 u)).2.1.cell (show 0<6 by omega)
   have DD0:=HU.out _ (Ab.refl z2).drew
   clear hF1 hF2
   refine dA 8 E (by kernel_rfl) (by kernel_rfl) (by kernel_rfl) DD0 ?_
   simp only[List.take_succ_cons,List.take_zero,List.drop_succ_cons,List.drop_zero]
   repeat(go_big_quiet_step (with_reducible rfl))
   refine wpQuiet_nil ?_
   intro z hwz
   obtain⟨u0,hu⟩:=hwz
   have AZ:Hid (Ab z2 z):=by rw[hu];exact HU1.out u0
   clear hu u0
   clear HU HU1 DD0 y0 y1
   clear E UU
   have x1:=(L7.out.to AZ.out).2.1.cell (show 0<6 by omega)
   have x2:=(L7.out.to AZ.out).2.1.frozen 0
   go_upto_region 14 with fail
   clear x1 x2
   have L8:Hid (LkR w2 b1 b2 b3 b4 (z.setCell ⟨b2,0,none⟩ (.int .i64 2863311530))):=by
    have h:=L7.out.to AZ.out
    refine⟨h.1.setOther (a:=⟨b2,0,none⟩) NN.out.1 _,(h.2.1.set 0 _).congr (fun i _=> ?_),h.2.2.1.setOther (a:=⟨b2,0,none⟩) (Ne.symm NN.out.2.2.2.1) _,h.2.2.2.setOther (a:=⟨b2,0,none⟩) (Ne.symm NN.out.2.2.2.2.1) _⟩
    unfold w1 w2
    by_cases e:i=0
    ·subst e;simp
    ·simp[e]
   have B8:Hid (Ab v1 (z.setCell ⟨b2,0,none⟩ (.int .i64 2863311530))):=(B7.out.trans AZ.out).setk LL.out.2.1 _
   have R8:Hid ((z.setCell ⟨b2,0,none⟩ (.int .i64 2863311530)).heap[gs]? =some (.cells #[.slice (some ⟨b1,0,none⟩) 6 6,.slice (some ⟨b2,0,none⟩) 6 6,.slice (some ⟨b3,0,none⟩) 6 6,.slice (some ⟨b4,0,none⟩) 12 12,.int .i64 0,.int .i64 0] 29)):=(aW (by have:=GLT.out;omega)).trans (Ab.heap AZ.out R7.out)
   have T8:Hid ((z.setCell ⟨b2,0,none⟩ (.int .i64 2863311530)).heap[gt]? =some (.cells #[.slice tp1 6 tc1,.slice tp2 6 tc2,.slice tp3 6 tc3,.slice tp4 12 tc4,.int .i64 0,.int .i64 1] 29)):=(aW (by have:=GLT.out;have:=GT.out;have:=GL.out;omega)).trans (Ab.heap AZ.out T7.out)
   clear L7 B7 R7 T7 AZ
   generalize World.setCell z _ _=V8 at*
   clear z
   have GQ:Hid (gs≠gt/\v1.heap.size<=gt):=by show _/\_;have:=GT.out;have:=GL.out;have:=GS.out;omega
   have K8:Hid (∀v,Ab v1 v->GridOf 1 gb v):=fun v a=>K1.out.to a
   have qs:Qs v1 gs gt (.cells #[.slice (some ⟨b1,0,none⟩) 6 6,.slice (some ⟨b2,0,none⟩) 6 6,.slice (some ⟨b3,0,none⟩) 6 6,.slice (some ⟨b4,0,none⟩) 12 12,.int .i64 0,.int .i64 0] 29) V8:=⟨⟨B8.out,R8.out⟩,GQ.out⟩
   have av:Ab V8 V8:=Ab.refl _
   have KS:Hid (∀w',Qs v1 gs gt (.cells #[.slice (some ⟨b1,0,none⟩) 6 6,.slice (some ⟨b2,0,none⟩) 6 6,.slice (some ⟨b3,0,none⟩) 6 6,.slice (some ⟨b4,0,none⟩) 12 12,.int .i64 0,.int .i64 0] 29) w'->Qs v1 gs gt (.cells #[.slice (some ⟨b1,0,none⟩) 6 6,.slice (some ⟨b2,0,none⟩) 6 6,.slice (some ⟨b3,0,none⟩) 6 6,.slice (some ⟨b4,0,none⟩) 12 12,.int .i64 0,.int .i64 0] 29) w'/\w'.cell? ⟨gs,0,none⟩=some (.slice (some ⟨b1,0,none⟩) 6 6)/\w'.cell? ⟨gs,1,none⟩=some (.slice (some ⟨b2,0,none⟩) 6 6)/\w'.cell? ⟨gs,2,none⟩=some (.slice (some ⟨b3,0,none⟩) 6 6)/\w'.cell? ⟨gs,3,none⟩=some (.slice (some ⟨b4,0,none⟩) 12 12)/\w'.cell? ⟨gs,4,none⟩=some (.int .i64 0)/\w'.cell? ⟨gs,5,none⟩=some (.int .i64 0)):=fun w' h=>⟨h,aA 0 h.1.2,aA 1 h.1.2,aA 2 h.1.2,aA 3 h.1.2,aA 4 h.1.2,aA 5 h.1.2⟩
   go_region_held3 (fun w'=>Qs v1 gs gt (.cells #[.slice (some ⟨b1,0,none⟩) 6 6,.slice (some ⟨b2,0,none⟩) 6 6,.slice (some ⟨b3,0,none⟩) 6 6,.slice (some ⟨b4,0,none⟩) 12 12,.int .i64 0,.int .i64 0] 29) w'/\w'.cell? ⟨gs,0,none⟩=some (.slice (some ⟨b1,0,none⟩) 6 6)/\w'.cell? ⟨gs,1,none⟩=some (.slice (some ⟨b2,0,none⟩) 6 6)/\w'.cell? ⟨gs,2,none⟩=some (.slice (some ⟨b3,0,none⟩) 6 6)/\w'.cell? ⟨gs,3,none⟩=some (.slice (some ⟨b4,0,none⟩) 12 12)/\w'.cell? ⟨gs,4,none⟩=some (.int .i64 0)/\w'.cell? ⟨gs,5,none⟩=some (.int .i64 0)) ((refine KS.out _ ?_;(with_reducible (repeat(first | assumption | apply Qs.drew | apply Qs.set)));done)) (first
    | (go_at_call 39;refine(PL.out _).mono ?_;rintro e9 z1 ⟨rfl,c1⟩;have az1:Ab V8 z1:=(show Ab V8 _ by with_reducible (repeat(first | assumption | apply Ab.drew | apply Ab.alloc))).trans c1;have qz1:Qs v1 gs gt (.cells #[.slice (some ⟨b1,0,none⟩) 6 6,.slice (some ⟨b2,0,none⟩) 6 6,.slice (some ⟨b3,0,none⟩) 6 6,.slice (some ⟨b4,0,none⟩) 12 12,.int .i64 0,.int .i64 0] 29) z1:=qs.to az1)
    | (go_at_call 14;refine(O2.out _ gb b1 b2 b3 b4 (A1.out.trans (B8.out.trans (show Ab V8 _ by with_reducible (repeat(first | assumption | apply Ab.drew | apply Ab.alloc))))) (K8.out _ (B8.out.trans (show Ab V8 _ by with_reducible (repeat(first | assumption | apply Ab.drew | apply Ab.alloc))))) (L8.out.to (show Ab V8 _ by with_reducible (repeat(first | assumption | apply Ab.drew | apply Ab.alloc))))).mono ?_;rintro e9 z2 ⟨vv,rfl,c2,os⟩;have az2:Ab V8 z2:=(show Ab V8 _ by with_reducible (repeat(first | assumption | apply Ab.drew | apply Ab.alloc))).trans c2;have qz2:Qs v1 gs gt (.cells #[.slice (some ⟨b1,0,none⟩) 6 6,.slice (some ⟨b2,0,none⟩) 6 6,.slice (some ⟨b3,0,none⟩) 6 6,.slice (some ⟨b4,0,none⟩) 12 12,.int .i64 0,.int .i64 0] 29) z2:=qs.to az2;obtain⟨rp1,rc1,rp2,rc2,rp3,rc3,rp4,rc4,rfl,FIN⟩:=sea_over (Ab.heap az1 T8.out) c2 os BG.out;have t0:=aA 0 (Ab.heap az2 T8.out);have f0:=aD (Ab.heap az2 T8.out) 0;have t1:=aA 1 (Ab.heap az2 T8.out);have f1:=aD (Ab.heap az2 T8.out) 1;have t2:=aA 2 (Ab.heap az2 T8.out);have f2:=aD (Ab.heap az2 T8.out) 2;have t3:=aA 3 (Ab.heap az2 T8.out);have f3:=aD (Ab.heap az2 T8.out) 3;have t4:=aA 4 (Ab.heap az2 T8.out);have f4:=aD (Ab.heap az2 T8.out) 4;have t5:=aA 5 (Ab.heap az2 T8.out);have f5:=aD (Ab.heap az2 T8.out) 5;skip))
   have Q9:Hid (Qs v1 gs gt (.cells #[.slice (some ⟨b1,0,none⟩) 6 6,.slice (some ⟨b2,0,none⟩) 6 6,.slice (some ⟨b3,0,none⟩) 6 6,.slice (some ⟨b4,0,none⟩) 12 12,.int .i64 0,.int .i64 0] 29) ((((((z2.setCell ⟨gt,0,none⟩ (.slice rp1 6 rc1)).setCell ⟨gt,1,none⟩ (.slice rp2 6 rc2)).setCell ⟨gt,2,none⟩ (.slice rp3 6 rc3)).setCell ⟨gt,3,none⟩ (.slice rp4 12 rc4)).setCell ⟨gt,4,none⟩ (.int .i64 0)).setCell ⟨gt,5,none⟩ (.int .i64 1))):=(((((qz2.set 0 _).set 1 _).set 2 _).set 3 _).set 4 _).set 5 _
   have S9:=hid FIN
   have L9:Hid (((((((z2.setCell ⟨gt,0,none⟩ (.slice rp1 6 rc1)).setCell ⟨gt,1,none⟩ (.slice rp2 6 rc2)).setCell ⟨gt,2,none⟩ (.slice rp3 6 rc3)).setCell ⟨gt,3,none⟩ (.slice rp4 12 rc4)).setCell ⟨gt,4,none⟩ (.int .i64 0)).setCell ⟨gt,5,none⟩ (.int .i64 1)).rowIs b2 2 6 (fun i=>.int .i64 (w2 i))):=by
    have hn:b2≠gt:=by have:=GLT.out;have:=GT.out;have:=GL.out;omega
    exact((((((L8.out.to az2).2.1.setOther (a:=⟨gt,0,none⟩) hn _).setOther (a:=⟨gt,1,none⟩) hn _).setOther (a:=⟨gt,2,none⟩) hn _).setOther (a:=⟨gt,3,none⟩) hn _).setOther (a:=⟨gt,4,none⟩) hn _).setOther (a:=⟨gt,5,none⟩) hn _
   clear t0 t1 t2 t3 t4 t5 f0 f1 f2 f3 f4 f5 KS qs qz1 qz2 az1 az2 c1 c2 os FIN L8 B8 R8 T8 K8 GQ av BG O2 PL
   generalize World.setCell _ _ _=V9 at*
   clear z1 z2 V8
   obtain⟨q2,o2,rfl⟩:=S9.out.2.2.1.some0 (show 0<6 by omega)
   obtain⟨q4,o4,rfl⟩:=S9.out.2.2.2.2.some0 (show 0<12 by omega)
   have RS:Hid (∀v,Calls prog 40 #[.float .f64 4600040671590431692,.float .f64 4600040671590431692] v fun e w'=>e=.returned (.bool true)/\Below v.heap.size v w'):=fun v=>(rawSame9 _ v).mono fun e w' h=>⟨h.1,by rw[h.2];exact Below.refl _ _⟩
   have fg:=aw_fgt
   go_upto_region 15 with fail
   obtain⟨UU,E,hF1,hF2⟩:=cls V9
   have HU:=hid hF2
   have HU1:=hid hF1
   have y0: ∀u,(E u).cell? ⟨gt,1,none⟩=some (.slice (some ⟨q2,o2,none⟩) 6 rc2):=fun u=>aA 1 ((hF1 u).heap S9.out.1)
   have y1: ∀u,(E u).cell? ⟨gt,3,none⟩=some (.slice (some ⟨q4,o4,none⟩) 12 rc4):=fun u=>aA 3 ((hF1 u).heap S9.out.1)
   have y2: ∀u,(E u).cell? ⟨gs,1,none⟩=some (.slice (some ⟨b2,0,none⟩) 6 6):=fun u=>aA 1 ((hF1 u).heap Q9.out.1.2)
   have y3: ∀u,(E u).cell? ⟨q2,o2+1,none⟩=some (.int .i64 1870009029):=fun u=>by have h:=((S9.out.2.2.1.below (hF1 u)).at0 (show 1<6 by omega)).2.2;rw[GG.out.1]at h;exact h
   have y4: ∀u,(E u).cell? ⟨q2,o2+2,none⟩=some (.int .i64 1431655765):=fun u=>by have h:=((S9.out.2.2.1.below (hF1 u)).at0 (show 2<6 by omega)).2.2;rw[GG.out.2.2.1]at h;exact h
   have y5: ∀u,(E u).cell? ⟨q2,o2+3,none⟩=some (.int .i64 1870009029):=fun u=>by have h:=((S9.out.2.2.1.below (hF1 u)).at0 (show 3<6 by omega)).2.2;rw[GG.out.2.1]at h;exact h
   have y6: ∀u,(E u).cell? ⟨b2,1,none⟩=some (.int .i64 1431655765):=fun u=>(rowIs.ab L9.out (hF1 u)).cell (show 1<6 by omega)
   have y7: ∀u,(E u).cell? ⟨b2,2,none⟩=some (.int .i64 1431655765):=fun u=>(rowIs.ab L9.out (hF1 u)).cell (show 2<6 by omega)
   have y8: ∀u,(E u).cell? ⟨q4,o4,none⟩=some (.float .f64 4600040671590431692):=fun u=>by have h:=((S9.out.2.2.2.2.below (hF1 u)).at0 (show 0<12 by omega)).2.2;rw[GG.out.2.2.2.1]at h;exact h
   have y9: ∀u,(E u).cell? ⟨q4,o4+3,none⟩=some (.float .f64 4600040671590431692):=fun u=>by have h:=((S9.out.2.2.2.2.below (hF1 u)).at0 (show 3<12 by omega)).2.2;rw[GG.out.2.2.2.2]at h;exact h
   have DD0:=HU.out _ (Ab.refl V9).drew
   clear hF1 hF2
   refine aO E (by kernel_rfl) (by kernel_rfl) DD0 ?_
   repeat(go_big_quiet_step (first | (go_at_call 40;exact aH HU HU1 (RS.out _)) | (with_reducible rfl)))
   refine wpQuiet_nil ?_
   intro z9 hwz
   obtain⟨u0,hu⟩:=hwz
   have A9:Hid (Ab V9 z9):=by rw[hu];exact HU1.out u0
   clear hu u0
   clear HU HU1 DD0 y0 y1 y2 y3 y4 y5 y6 y7 y8 y9
   clear E UU
   go_wp2
   go_ret
   exact⟨rfl,A1.out.trans (Q9.out.1.1.trans A9.out)⟩
theorem qF{n:Nat}{B:Nat->Nat}{W T:Nat->Int}{S:Nat->Nat}{sky st:Int}(h:okS n B W T S sky st):Bnd (6*n*n) (6*n*n) (6*n*n) (12*n*n) B W T S:=by
 obtain⟨⟨-,⟨k1,k2⟩,⟨w1,w2⟩,⟨t1,t2⟩,-⟩,hb,hs⟩:=h
 refine⟨hb,fun i hi=> ?_,fun i hi=> ?_,hs⟩
 ·have h1:=w1 i hi
  have h2:=qC w1 hi
  unfold Sh.W64
  omega
 ·have h1:=t1 i hi
  have h2:=qC t1 hi
  unfold Sh.W64
  omega
theorem oJ{M n:Nat}{v:Value}{f:Nat->Int}{w:World}(h:Sh.Own M v ((List.range n).map f) w)(hf: ∀i,i<n->Sh.W64 (f i)): ∃p c,v=.slice p n c/\Sh.IsI w p n f/\ ∀b o,p=some ⟨b,o,none⟩->M<=b:=by
 obtain⟨p,c,rfl,hi⟩:=h.in (fun x hx=>by
  obtain⟨i,hi,rfl⟩:=List.mem_map.1 hx
  exact hf i (List.mem_range.1 hi))
 rw[List.length_map,List.length_range]at hi
 refine⟨p,c,by rw[List.length_map,List.length_range],hi.congr (fun k hk=>by simp[List.getD,hk]),fun b o e=> ?_⟩
 subst e
 exact(World.ownsRow.lt h b rfl).1
theorem Dr(OC:OneF)(FC:FlowC)(w:World)(hF:Fr w):Calls prog 9 #[] w fun e w'=>e=.returned (.bool true)/\Below w.heap.size w w':=by
 have R0:Nat->Int × Int × Int × Int:=fun _=>(0,0,0,0)
 have p1:=aw_okP R0
 have s1:=aw_s nC
 have s2:=aw_s aw_ok2
 have z64:Sh.W64 0:=by unfold Sh.W64;omega
 have o64:Sh.W64 1:=by unfold Sh.W64;omega
 have lk: ∀{W:Nat->Int} {b1 b2 b3 b4:Nat} {v:World},okN 6 (fun _=>0) W (fun _=>0) (fun _=>0) 0 0->LkR W b1 b2 b3 b4 v->IsFl v (some ⟨b1,0,none⟩) 6 (fun _=>0)/\Sh.IsI v (some ⟨b2,0,none⟩) 6 W/\Sh.IsI v (some ⟨b3,0,none⟩) 6 (fun _=>0)/\IsFl v (some ⟨b4,0,none⟩) 12 (fun _=>0):=fun{W b1 b2 b3 b4 v} ok h=>⟨rowIs.fl h.1 (fun _ _=>(by show 0<_;omega)),Sh.jH h.2.1 (fun i hi=>(qF (aw_s ok)).2.1 i hi),Sh.jH h.2.2.1 (fun _ _=>(by show _<=(0:Int)/\(0:Int)<=_;omega)),rowIs.fl h.2.2.2 (fun _ _=>(by show 0<_;omega))⟩
 have O:=fun(W:Nat->Int) (ok:okN 6 (fun _=>0) W (fun _=>0) (fun _=>0) 0 0) v gb b1 b2 b3 b4 (a:Ab w v) (g:GridOf 1 gb v) (h:LkR W b1 b2 b3 b4 v)=>(OC 1 gb 1 4602678819172646912 4607182418800017408 0 0 none 0 0 R0 (some ⟨b1,0,none⟩) 6 6 (fun _=>0) (some ⟨b2,0,none⟩) 6 6 W (some ⟨b3,0,none⟩) 6 6 (fun _=>0) (some ⟨b4,0,none⟩) 12 12 (fun _=>0) 0 0 v (by omega) g (hF.to a) ⟨o64,z64,z64,z64⟩ (by omega) (by omega) (by omega) (fun k hk=>absurd hk (Nat.not_lt_zero k)) (lk ok h).1 (lk ok h).2.1 (lk ok h).2.2.1 (lk ok h).2.2.2).1 (aw_er ok R0)
 have n1:=Dk (lim:=0) (rv:=false) p1 s1
 have n2:=Dk (lim:=0) (rv:=false) p1 s2
 have er:=aw_er nC R0
 have wn: ∀e,e<12->Sh.W64 (waF 1 0 4607182418800017408 4602678819172646912 0 (fun _=>0) w1 (fun _=>0) e):=fun e he=>by rw[mI p1 s1 mJ he];exact z64
 refine Dq (fun _=>0) _ _ _ (waF 1 0 4607182418800017408 4602678819172646912 0 (fun _=>0) w1 (fun _=>0)) (fun _=>0) _ _ _ w (fun v a=>(Cz 1 v (by omega) (hF.to a)).mono fun e w' h=> ?_) (fun v gb g=>Hp v g) (fun v=>Dn v) (O w1 nC) (fun v gb b1 b2 b3 b4 a g h=> ?_) (O w2 aw_ok2) (qF n1) (qF n2) ?_ ?_ ?_ ?_ ?_ ?_ ?_
 ·obtain⟨gb,rfl,a1,-,g⟩:=h
  exact⟨gb,rfl,a1,g⟩
 ·refine((FC 1 gb 1 4602678819172646912 4607182418800017408 0 0 false none 0 0 R0 (some ⟨b1,0,none⟩) 6 6 (fun _=>0) (some ⟨b2,0,none⟩) 6 6 w1 (some ⟨b3,0,none⟩) 6 6 (fun _=>0) (some ⟨b4,0,none⟩) 12 12 (fun _=>0) 0 0 v (by omega) g (hF.to a) ⟨o64,z64,z64,z64⟩ (by omega) (by omega) (by omega) (fun k hk=>absurd hk (Nat.not_lt_zero k)) (lk nC h).1 (lk nC h).2.1 (lk nC h).2.2.1 (lk nC h).2.2.2).1 er).mono fun e w' k=> ?_
  obtain⟨v1,v2,rfl,k1,k2,k3,-⟩:=k
  obtain⟨q1,c1,rfl,i1,hb⟩:=oJ k2 wn
  obtain⟨q2,c2,rfl,-,-⟩:=oJ k3 (fun e he=>by rw[rR p1 s1 mJ he];exact z64)
  exact⟨q1,c1,q2,c2,rfl,k1,i1,hb⟩
 ·show eqS _ _ _ _ _ _ _ _ _ _ _ _ _ _ _ _ _ _ _ _=true
  unfold eqS
  rw[eP (fun _ _=>rfl),eP (fun i hi=> ?_),eP (fun i hi=> ?_),eP (fun e he=>yL p1 s1 mJ he)]
  ·rfl
  ·rw[ri_0];exact(rS p1 s1 mJ hi).2
  ·rw[ri_0];exact(rS p1 s1 mJ hi).1
 ·exact eP (fun e he=>mI p1 s1 mJ he)
 ·rw[ri_0];exact Dm (by omega)
 ·rw[ri_0];exact Dm (by omega)
 ·rw[ri_0];exact Dm (by omega)
 ·exact aw_sp 0 (by omega)
 ·exact aw_sp 3 (by omega)
end St
end
section
open Go.RowKit Tf Cu Go.Deep
attribute [local go_sem] aJ aK aP aQ aR aV aX aF
namespace St
open Ss Fc
theorem oK{g:Nat}{p1:Option Addr}{c1:Nat}{p2:Option Addr}{c2:Nat}{p3:Option Addr}{c3:Nat}{p4:Option Addr}{c4:Nat}{n1 n2 n3 n4:Nat}{A:Nat->Nat}{B C:Nat->Int}{D:Nat->Nat}{sk st:Int}{v v':World}(h:SeaP g p1 c1 p2 c2 p3 c3 p4 c4 n1 n2 n3 n4 A B C D sk st v)(a:Ab v v'):SeaP g p1 c1 p2 c2 p3 c3 p4 c4 n1 n2 n3 n4 A B C D sk st v':=⟨Ab.heap a h.1,h.2.1.below a,h.2.2.1.below a,h.2.2.2.1.below a,h.2.2.2.2.below a⟩
end St
end
section
open Go.RowKit Tf Cu Go.Deep
attribute [local go_sem] aJ aK aP aQ aR aV aX aF
namespace St
open Ss Fc
theorem Hr{M g:Nat}{p1:Option Addr}{c1:Nat}{p2:Option Addr}{c2:Nat}{p3:Option Addr}{c3:Nat}{p4:Option Addr}{c4:Nat}{n1 n2 n3 n4:Nat}{A:Nat->Nat}{B C:Nat->Int}{D:Nat->Nat}{sk st:Int}{v:World}(h:SeaIn M g p1 c1 p2 c2 p3 c3 p4 c4 n1 n2 n3 n4 A B C D sk st v):(∀b o,p1=some ⟨b,o,none⟩->b≠g)/\(∀b o,p2=some ⟨b,o,none⟩->b≠g)/\(∀b o,p3=some ⟨b,o,none⟩->b≠g)/\(∀b o,p4=some ⟨b,o,none⟩->b≠g):=by
 have k:=h.2.2.2.1
 refine⟨fun b o e=> ?_,fun b o e=> ?_,fun b o e=> ?_,fun b o e=> ?_⟩
 ·subst e;have:=k b (.inl rfl);omega
 ·subst e;have:=k b (.inr (.inl rfl));omega
 ·subst e;have:=k b (.inr (.inr (.inl rfl)));omega
 ·subst e;have:=k b (.inr (.inr (.inr rfl)));omega
theorem same21n(x y:Nat)(v:World):Calls prog 40 #[.float .f64 x,.float .f64 y] v fun e w'=>e=.returned (.bool (x==y))/\w'=v:=by
 go_enter func40,ntmps40
 go_wp2
 go_ret
 refine⟨?_,rfl⟩
 have e:((x:Int)==(y:Int))=(x==y):=by
  by_cases h:x=y
  ·subst h
   rw[beq_self_eq_true,beq_self_eq_true]
  ·have h2: ¬(x:Int)=(y:Int):=by omega
   rw[beq_eq_false_iff_ne.2 h,beq_eq_false_iff_ne.2 h2]
 rw[<- e]
 rfl
theorem Ds(gb M:Nat)(sd:Int)(dt gr dr:Nat)(lim:Int)(rv:Bool)(pr:Option Addr)(lr cr:Nat)(pb:Option Addr)(lb cb:Nat)(B:Nat->Nat)(pw:Option Addr)(lw cw:Nat)(W:Nat->Int)(pt:Option Addr)(lt ct:Nat)(T:Nat->Int)(ps:Option Addr)(ls cs:Nat)(S:Nat->Nat)(sky st:Int)(F2 F3:Nat->Int)(F4:Nat->Nat)(st1:Int)(H1 H2:Nat->Int)(w:World)(hM:M<=12288)
  (ON:Hid (∀v,Ab w v->Calls prog 14 #[.pointer (some ⟨gb,0,none⟩),.agg #[.int .i64 sd,.float .f64 dt,.float .f64 gr,.float .f64 dr,.int .i64 lim,.bool rv,.slice pr lr cr],.agg #[.slice pb lb cb,.slice pw lw cw,.slice pt lt ct,.slice ps ls cs,.int .i64 sky,.int .i64 st]] v fun e w'=> ∃vv,e=.returned (.tuple #[vv,.int .i64 0])/\Below v.heap.size v w'/\OwnS v.heap.size vv lb lw lt ls B F2 F3 F4 sky st1 w'))
  (FL:Hid (∀v,Ab w v->Calls prog 17 #[.pointer (some ⟨gb,0,none⟩),.agg #[.int .i64 sd,.float .f64 dt,.float .f64 gr,.float .f64 dr,.int .i64 lim,.bool rv,.slice pr lr cr],.agg #[.slice pb lb cb,.slice pw lw cw,.slice pt lt ct,.slice ps ls cs,.int .i64 sky,.int .i64 st]] v fun e w'=> ∃p1 c1 p2 c2,e=.returned (.tuple #[.agg #[.slice p1 M c1,.slice p2 M c2],.int .i64 0])/\Below v.heap.size v w'/\(Sh.IsI w' p1 M H1/\ ∀b o,p1=some ⟨b,o,none⟩->v.heap.size<=b)/\(Sh.IsI w' p2 M H2/\ ∀b o,p2=some ⟨b,o,none⟩->v.heap.size<=b)))
  (GE':Hid (∀v,Ab w v->Calls prog 32 #[.pointer (some ⟨gb,0,none⟩)] v fun e w'=>e=.returned (.int .i64 (M:Nat))/\Below v.heap.size v w'))
  (BT:Hid (Bnd lb lw lt ls B F2 F3 F4)) (HL:Hid (lb<=131072/\lw<=131072/\lt<=131072/\ls<=131072)) (E1:Hid (eqS lb lw lt ls B F2 F3 F4 sky st lb lw lt ls B W T S sky st=true)) (E2:Hid (eqL M M H1 (fun _=>0)=true)) (E3:Hid (eqL M M H2 (fun _=>0)=true))
  (I1:Hid (IsFl w pb lb B)) (I2:Hid (Sh.IsI w pw lw W)) (I3:Hid (Sh.IsI w pt lt T)) (I4:Hid (IsFl w ps ls S)):
  Calls prog 27 #[.pointer (some ⟨gb,0,none⟩),.agg #[.int .i64 sd,.float .f64 dt,.float .f64 gr,.float .f64 dr,.int .i64 lim,.bool rv,.slice pr lr cr],.agg #[.slice pb lb cb,.slice pw lw cw,.slice pt lt ct,.slice ps ls cs,.int .i64 sky,.int .i64 st]] w fun e w'=>e=.returned (.bool true)/\Below w.heap.size w w':=by
 have M2: ∀v:World,(Instr.makeSlice 27 (.int .i64 (M:Nat)) (.int .i64 (M:Nat))).run prog v=.ok (.slice (some ⟨v.heap.size,0,none⟩) M M) (v.alloc (Obj.cells (madeCells #[.int .i64 0] M) 2)):=fun v=>run_make_row' (P:=prog) 27 2 (.int .i64 0) 8 underlying27 Sh.eD rfl .i64 .i64 M (by omega) (by omega) v
 have HM:=hid hM
 have mB:(M:Int)<=12288:=by omega
 clear hM
 obtain⟨A0,R0,Q0⟩:=bO w (.cells #[.int .i64 sd,.float .f64 dt,.float .f64 gr,.float .f64 dr,.int .i64 lim,.bool rv,.slice pr lr cr] 25) (.cells #[.slice pb lb cb,.slice pw lw cw,.slice pt lt ct,.slice ps ls cs,.int .i64 sky,.int .i64 st] 29)
 go_enter func27,ntmps27
 go_upto_region 1 with fail
 generalize hW:World.alloc (World.alloc w _) _=v0 at*
 obtain⟨ga,hga⟩:=aB w.heap.size
 obtain⟨gq,hgq⟩:=aB (w.heap.size+1)
 rw[hgq]at Q0 ⊢
 rw[hga]at R0 ⊢
 clear hga hgq hW
 obtain⟨x0,x1,x2,x3,x4,x5,x6⟩:=aG R0.out
 obtain⟨y0,y1,y2,y3,y4,y5⟩:=aE Q0.out
 go_wp2_with fail
 refine(ON.out v0 A0.out).mono ?_
 rintro e9 u1 ⟨vv,rfl,b1,os⟩
 obtain⟨tp1,tc1,tp2,tc2,tp3,tc3,tp4,tc4,rfl,sn⟩:=mG os BT.out
 have BB:Hid (Ab v0 (u1.alloc (.cells #[.slice tp1 lb tc1,.slice tp2 lw tc2,.slice tp3 lt tc3,.slice tp4 ls tc4,.int .i64 sky,.int .i64 st1] 29))):=(show Ab v0 u1 from b1).trans (bl1 _ _)
 have T1:Hid (SeaP u1.heap.size tp1 tc1 tp2 tc2 tp3 tc3 tp4 tc4 lb lw lt ls B F2 F3 F4 sky st1 (u1.alloc (.cells #[.slice tp1 lb tc1,.slice tp2 lw tc2,.slice tp3 lt tc3,.slice tp4 ls tc4,.int .i64 sky,.int .i64 st1] 29))):=⟨sn.1,sn.2.1⟩
 have LT:=hid (Hr sn)
 have GT:Hid (w.heap.size<=u1.heap.size):=(A0.out.trans b1).size
 have NQ:Hid (gq<u1.heap.size):=Nat.lt_of_lt_of_le (Rv.bG Q0.out) (show Ab v0 u1 from b1).size
 clear os sn b1 x0 x1 x2 x3 x4 x5 x6 y0 y1 y2 y3 y4 y5
 go_upto_region 2 with fail
 generalize hW:World.alloc u1 _=v1 at*
 obtain⟨gt,hg⟩:=aB u1.heap.size
 rw[hg]at T1 LT GT NQ ⊢
 clear hg hW
 have A1:Hid (Ab w v1):=A0.out.trans BB.out
 have R1:=hid (Ab.heap BB.out R0.out)
 have Q1:=hid (Ab.heap BB.out Q0.out)
 clear BB A0 R0 Q0 ON
 obtain⟨x0,x1,x2,x3,x4,x5,x6⟩:=aG R1.out
 obtain⟨y0,y1,y2,y3,y4,y5⟩:=aE Q1.out
 go_wp2_with fail
 refine(FL.out v1 A1.out).mono ?_
 rintro e9 u2 ⟨fp1,fc1,fp2,fc2,rfl,b2,⟨i1,j1⟩,i2,j2⟩
 have BB:Hid (Ab v1 (u2.alloc (.cells #[.slice fp1 M fc1,.slice fp2 M fc2] 46))):=(show Ab v1 u2 from b2).trans (bl1 _ _)
 have F2':=hid (heap_alloc_new u2 (.cells #[.slice fp1 M fc1,.slice fp2 M fc2] 46))
 have J1:=hid (i1.below (bl1 u2 (.cells #[.slice fp1 M fc1,.slice fp2 M fc2] 46)))
 have J2:=hid (i2.below (bl1 u2 (.cells #[.slice fp1 M fc1,.slice fp2 M fc2] 46)))
 have FN:Hid ((∀b o,fp1=some ⟨b,o,none⟩->b≠gt)/\(∀b o,fp2=some ⟨b,o,none⟩->b≠gt)/\gt<u2.heap.size):=by
  have lt1:=Rv.bG T1.out.1
  have sz:=(show Ab v1 u2 from b2).size
  exact⟨fun b o e=>by have:=j1 b o e;omega,fun b o e=>by have:=j2 b o e;omega,by omega⟩
 clear b2 i1 j1 i2 j2 FL x0 x1 x2 x3 x4 x5 x6 y0 y1 y2 y3 y4 y5
 go_upto_region 3 with fail
 generalize hW:World.alloc u2 _=v2 at*
 obtain⟨gf,hg⟩:=aB u2.heap.size
 rw[hg]at F2' FN ⊢
 clear hg hW
 have A2:Hid (Ab w v2):=A1.out.trans BB.out
 have Q2:=hid (Ab.heap BB.out Q1.out)
 have T2:=hid (oK T1.out BB.out)
 clear BB A1 R1 Q1 T1
 go_wp2_with fail
 refine(GE'.out v2 A2.out).mono ?_
 rintro e9 v3 ⟨rfl,b3⟩
 have A3:Hid (Ab w v3):=A2.out.trans b3
 have Q3:=hid (Ab.heap b3 Q2.out)
 have T3:=hid (oK T2.out b3)
 have F3':=hid (Ab.heap b3 F2'.out)
 have K1:=hid (J1.out.below b3)
 have K2:=hid (J2.out.below b3)
 clear b3 A2 Q2 T2 F2' J1 J2 GE'
 have B4:=fJ (bl1 v3 (Obj.cells (madeCells #[.int .i64 0] M) 2))
 have y5:=aA 5 (Ab.heap B4.out Q3.out)
 have t5:=aA 5 (Ab.heap B4.out T3.out.1)
 have f5:=aD (Ab.heap B4.out T3.out.1) 5
 go_upto_region 7 with fail
 have A5:Hid (Ab w ((v3.alloc (Obj.cells (madeCells #[.int .i64 0] M) 2)).setCell ⟨gt,5,none⟩ (.int .i64 st))):=(A3.out.trans B4.out).setk GT.out _
 have T5:Hid (SeaP gt tp1 tc1 tp2 tc2 tp3 tc3 tp4 tc4 lb lw lt ls B F2 F3 F4 sky st ((v3.alloc (Obj.cells (madeCells #[.int .i64 0] M) 2)).setCell ⟨gt,5,none⟩ (.int .i64 st))):=by
  have h:=oK T3.out B4.out
  have h2:=aI (v:=.int .i64 st) (k:=5) h.1
  exact⟨by simpa using h2,hZ _ h.2.1 LT.out.1,gG _ h.2.2.1 LT.out.2.1,gG _ h.2.2.2.1 LT.out.2.2.1,hZ _ h.2.2.2.2 LT.out.2.2.2⟩
 have Q5:Hid (((v3.alloc (Obj.cells (madeCells #[.int .i64 0] M) 2)).setCell ⟨gt,5,none⟩ (.int .i64 st)).heap[gq]? =some (.cells #[.slice pb lb cb,.slice pw lw cw,.slice pt lt ct,.slice ps ls cs,.int .i64 sky,.int .i64 st] 29)):=(aW (by have:=NQ.out;omega)).trans (Ab.heap B4.out Q3.out)
 have F5':Hid (((v3.alloc (Obj.cells (madeCells #[.int .i64 0] M) 2)).setCell ⟨gt,5,none⟩ (.int .i64 st)).heap[gf]? =some (.cells #[.slice fp1 M fc1,.slice fp2 M fc2] 46)):=(aW (by have:=FN.out.2.2;omega)).trans (Ab.heap B4.out F3'.out)
 have L1:Hid (Sh.IsI ((v3.alloc (Obj.cells (madeCells #[.int .i64 0] M) 2)).setCell ⟨gt,5,none⟩ (.int .i64 st)) fp1 M H1):=gG _ (K1.out.below B4.out) FN.out.1
 have L2:Hid (Sh.IsI ((v3.alloc (Obj.cells (madeCells #[.int .i64 0] M) 2)).setCell ⟨gt,5,none⟩ (.int .i64 st)) fp2 M H2):=gG _ (K2.out.below B4.out) FN.out.2.1
 have N5:Hid (((v3.alloc (Obj.cells (madeCells #[.int .i64 0] M) 2)).setCell ⟨gt,5,none⟩ (.int .i64 st)).rowIs v3.heap.size 2 M (fun _=>.int .i64 0)):=(dT (heap_alloc_new v3 (Obj.cells (madeCells #[.int .i64 0] M) 2))).setOther (a:=⟨gt,5,none⟩) (show v3.heap.size≠gt by have:=Rv.bG T3.out.1;omega) _
 clear y5 t5 f5 B4 A3 Q3 T3 F3' K1 K2 M2 FN NQ LT GT
 generalize World.setCell _ _ _=v5 at*
 obtain⟨bn,hbn⟩:=aB v3.heap.size
 rw[hbn]at N5 ⊢
 clear hbn
 have C1:=hid (Ba tp1 lb tc1 B tp2 lw tc2 F2 tp3 lt tc3 F3 tp4 ls tc4 F4 sky st pb lb cb B pw lw cw W pt lt ct T ps ls cs S sky st v5 HL.out HL.out T5.out.2.1 T5.out.2.2.1 T5.out.2.2.2.1 T5.out.2.2.2.2 (I1.out.below A5.out) (I2.out.below A5.out) (I3.out.below A5.out) (I4.out.below A5.out) E1.out)
 rw[E1.out]at C1
 obtain⟨x0,x1,x2,x3,x4,x5⟩:=aE T5.out.1
 obtain⟨y0,y1,y2,y3,y4,y5⟩:=aE Q5.out
 go_wp2_with fail
 refine C1.out.mono ?_
 rintro e9 v6 ⟨rfl,b6⟩
 have A6:Hid (Ab v5 v6):=b6
 clear b6 C1 x0 x1 x2 x3 x4 x5 y0 y1 y2 y3 y4 y5
 have zr:=fun v (a:Ab v5 v)=>Sh.jH (rowIs.ab N5.out a) (fun _ _=>(by show _<=(0:Int)/\(0:Int)<=_;omega))
 have C2:=hid (wh21 fp1 (some ⟨bn,0,none⟩) M fc1 M M H1 (fun _=>0) v6 (by have:=HM.out;omega) (by have:=HM.out;omega) (L1.out.below A6.out) (zr v6 A6.out))
 rw[E2.out]at C2
 have x0:=aA 0 (Ab.heap A6.out F5'.out)
 go_wp2_with fail
 refine C2.out.mono ?_
 rintro e9 v7 ⟨rfl,b7⟩
 have A7:Hid (Ab v5 v7):=A6.out.trans b7
 clear b7 C2 x0 A6
 have C3:=hid (wh21 fp2 (some ⟨bn,0,none⟩) M fc2 M M H2 (fun _=>0) v7 (by have:=HM.out;omega) (by have:=HM.out;omega) (L2.out.below A7.out) (zr v7 A7.out))
 rw[E3.out]at C3
 have x0:=aA 1 (Ab.heap A7.out F5'.out)
 go_wp2_with fail
 refine C3.out.mono ?_
 rintro e9 v8 ⟨rfl,b8⟩
 have A8:Hid (Ab w v8):=A5.out.trans (A7.out.trans b8)
 clear b8 C3 x0
 go_wp2
 go_ret
 exact⟨rfl,A8.out⟩
theorem Dt(gb N M:Nat)(qb ob cb qw ow cw:Nat)(pt:Option Addr)(lt ct:Nat)(qs os cs:Nat)(sky st:Int)(B:Nat->Nat)(W:Nat->Int)(S:Nat->Nat)(lc sd_ rc bk lv:Nat->Nat)(ar:Nat->Int)(op:Nat->Bool)(r:Bool)(w:World)(hM:M<=12288)(hN:N<=6144)
  (GE':Hid (∀v,Ab w v->Calls prog 32 #[.pointer (some ⟨gb,0,none⟩)] v fun e w'=>e=.returned (.int .i64 (M:Nat))/\Below v.heap.size v w'))
  (ED:Hid (∀v (i:Nat),Ab w v->i<M->Calls prog 73 #[.pointer (some ⟨gb,0,none⟩),.int .i64 (i:Nat)] v fun e w'=>e=.returned (.tuple #[.agg #[.int .i64 (lc i:Nat),.int .i64 (sd_ i:Nat),.int .i64 (rc i:Nat),.int .i64 (bk i:Nat)],.bool true])/\Below v.heap.size v w'))
  (AR:Hid (∀v (c:Nat),Ab w v->c<N->Calls prog 88 #[.pointer (some ⟨gb,0,none⟩),.int .i64 (c:Nat)] v fun e w'=>e=.returned (.int .i64 (ar c))/\Below v.heap.size v w'))
  (LE:Hid (∀v (c:Nat),c<N->Calls prog 90 #[.float .f64 (B c),.int .i64 (W c),.int .i64 (ar c)] v fun e w'=>e=.returned (.float .f64 (lv c))/\Below v.heap.size v w'))
  (OP:Hid (∀v (i:Nat),Ab w v->i<M->Calls prog 92 #[.pointer (some ⟨gb,0,none⟩),.agg #[.slice (some ⟨qb,ob,none⟩) N cb,.slice (some ⟨qw,ow,none⟩) N cw,.slice pt lt ct,.slice (some ⟨qs,os,none⟩) M cs,.int .i64 sky,.int .i64 st],.int .i64 (i:Nat)] v fun e w'=>e=.returned (.bool (op i))/\Below v.heap.size v w'))
  (CL:Hid (∀i,i<M->lc i<N/\rc i<N))
  (RY:Hid ((∀i,i<M->S i=0/\(op i=true->lv (lc i)=lv (rc i)))->r=true)) (RN:Hid (∀k,k<M-> ¬(S k=0/\(op k=true->lv (lc k)=lv (rc k)))->r=false))
  (IB:Hid (IsFl w (some ⟨qb,ob,none⟩) N B)) (IW:Hid (Sh.IsI w (some ⟨qw,ow,none⟩) N W)) (IS:Hid (IsFl w (some ⟨qs,os,none⟩) M S)):
  Calls prog 26 #[.pointer (some ⟨gb,0,none⟩),.agg #[.slice (some ⟨qb,ob,none⟩) N cb,.slice (some ⟨qw,ow,none⟩) N cw,.slice pt lt ct,.slice (some ⟨qs,os,none⟩) M cs,.int .i64 sky,.int .i64 st]] w fun e w'=>e=.returned (.bool r)/\Below w.heap.size w w':=by
 have HM:=hid (And.intro hM hN)
 clear hM hN
 obtain⟨A0,Q0⟩:=aL w (.cells #[.slice (some ⟨qb,ob,none⟩) N cb,.slice (some ⟨qw,ow,none⟩) N cw,.slice pt lt ct,.slice (some ⟨qs,os,none⟩) M cs,.int .i64 sky,.int .i64 st] 29)
 go_enter func26,ntmps26
 go_upto_region 1 with fail
 generalize hW:World.alloc w _=v0 at*
 obtain⟨gq,hgq⟩:=aB w.heap.size
 rw[hgq]at Q0 ⊢
 clear hgq hW
 go_wp2
 go_loopw [5] (fun iv wr=> ∃k:Nat,k<=M/\iv=.int .i64 (k:Nat)/\Ab v0 wr/\ ∀i,i<k->S i=0/\(op i=true->lv (lc i)=lv (rc i))) (fun iv _=>M - (intOf iv).toNat)
 case atStart=>exact⟨0,by omega,rfl,Ab.refl v0,fun i hi=>absurd hi (Nat.not_lt_zero i)⟩
 case round=>
  obtain⟨k,hk,rfl,ar',g1⟩:=hrel
  have AW:=hid ar'
  have G1:=hid g1
  clear ar' g1
  go_wp2_with fail
  refine(GE'.out wr (A0.out.trans AW.out)).mono ?_
  rintro e9 v1 ⟨rfl,b1⟩
  have A1:Hid (Ab v0 v1):=AW.out.trans b1
  clear b1 AW
  by_cases hkn:k<M
  ·have HK:=hid hkn
   have kI:(k:Int)<M:=by omega
   have kn2:k<M:=hkn
   have kB:(k:Int)<=12288:=by have:=HM.out;omega
   have CE:=hid (fun v (a:Ab v0 v)=>ED.out v k (A0.out.trans a) hkn)
   have CO:=hid (fun v (a:Ab v0 v)=>OP.out v k (A0.out.trans a) hkn)
   obtain⟨l1,l2⟩:=CL.out k hkn
   have NO:=hid (RN.out k hkn)
   obtain⟨l,hl⟩:=aB (lc k)
   obtain⟨sl,hsl⟩:=aB (sd_ k)
   obtain⟨rr,hrr⟩:=aB (rc k)
   obtain⟨sr,hsr⟩:=aB (bk k)
   obtain⟨o,ho⟩:=aB (op k)
   obtain⟨sx,hsx⟩:=aB (S k)
   rw[hl]at l1
   rw[hrr]at l2
   rw[hl,hsl,hrr,hsr]at CE
   rw[ho]at CO
   rw[hl,hrr,ho,hsx]at NO
   have CA1:=hid (fun v (a:Ab v0 v)=>AR.out v l (A0.out.trans a) l1)
   have CA2:=hid (fun v (a:Ab v0 v)=>AR.out v rr (A0.out.trans a) l2)
   have CL1:=hid (fun v=>LE.out v l l1)
   have CL2:=hid (fun v=>LE.out v rr l2)
   have YS:Hid (∀v,Ab v0 v->v.cell? ⟨qs,os+k,none⟩=some (.float .f64 sx)):=fun v a=>by rw[<- hsx];exact((IS.out.below (A0.out.trans a)).at0 hkn).2.2
   have YB1:=fun v (a:Ab v0 v)=>((IB.out.below (A0.out.trans a)).at0 l1).2.2
   have YW1:=fun v (a:Ab v0 v)=>((IW.out.below (A0.out.trans a)).at0 l1).2.2
   have YB2:=fun v (a:Ab v0 v)=>((IB.out.below (A0.out.trans a)).at0 l2).2.2
   have YW2:=fun v (a:Ab v0 v)=>((IW.out.below (A0.out.trans a)).at0 l2).2.2
   have GO:Hid (S k=0/\(op k=true->lv (lc k)=lv (rc k)) ↔ sx=0/\(o=true->lv l=lv rr)):=by show _ ↔ _;rw[hsx,ho,hl,hrr]
   obtain⟨xb,hxb⟩:=aB (B l)
   obtain⟨xw,hxw⟩:=aB (W l)
   obtain⟨xa,hxa⟩:=aB (ar l)
   obtain⟨zb,hzb⟩:=aB (B rr)
   obtain⟨zw,hzw⟩:=aB (W rr)
   obtain⟨za,hza⟩:=aB (ar rr)
   obtain⟨la,hla⟩:=aB (lv l)
   obtain⟨lr,hlr⟩:=aB (lv rr)
   rw[hxb,hxw,hxa,hla]at CL1
   rw[hzb,hzw,hza,hlr]at CL2
   rw[hxa]at CA1
   rw[hza]at CA2
   rw[hxb]at YB1
   rw[hxw]at YW1
   rw[hzb]at YB2
   rw[hzw]at YW2
   rw[hla,hlr]at NO GO
   have Y1:=hid YB1
   have Y2:=hid YW1
   have Y3:=hid YB2
   have Y4:=hid YW2
   have lI:(l:Int)<N:=by omega
   have lB:(l:Int)<=6144:=by have:=HM.out;omega
   have rI:(rr:Int)<N:=by omega
   have rB:(rr:Int)<=6144:=by have:=HM.out;omega
   clear YB1 YW1 YB2 YW2 l1 l2 hl hsl hrr hsr ho hsx hxb hxw hxa hzb hzw hza hla hlr hkn hk
   go_wp2_with fail
   refine(CE.out v1 A1.out).mono ?_
   rintro e9 u2 ⟨rfl,b2⟩
   have E2:=hid (heap_alloc_new u2 (.cells #[.int .i64 (l:Nat),.int .i64 (sl:Nat),.int .i64 (rr:Nat),.int .i64 (sr:Nat)] 116))
   have A2:Hid (Ab v0 (u2.alloc (.cells #[.int .i64 (l:Nat),.int .i64 (sl:Nat),.int .i64 (rr:Nat),.int .i64 (sr:Nat)] 116))):=(A1.out.trans b2).trans (bl1 _ _)
   clear b2 A1 CE
   go_upto_region 5 with fail
   generalize hW:World.alloc u2 _=v2 at*
   obtain⟨ge,hge⟩:=aB u2.heap.size
   rw[hge]at E2 ⊢
   clear hge hW
   obtain⟨UU,E,hF1,hF2⟩:=cls v2
   have HU:=hid hF2
   have HU1:=hid hF1
   have y0: ∀u,(E u).cell? ⟨gq,0,none⟩=some (.slice (some ⟨qb,ob,none⟩) N cb):=fun u=>aA 0 ((A2.out.trans (hF1 u)).heap Q0.out)
   have y1: ∀u,(E u).cell? ⟨gq,1,none⟩=some (.slice (some ⟨qw,ow,none⟩) N cw):=fun u=>aA 1 ((A2.out.trans (hF1 u)).heap Q0.out)
   have y2: ∀u,(E u).cell? ⟨ge,0,none⟩=some (.int .i64 (l:Nat)):=fun u=>aA 0 ((hF1 u).heap E2.out)
   have y3: ∀u,(E u).cell? ⟨qb,ob+l,none⟩=some (.float .f64 xb):=fun u=>Y1.out _ (A2.out.trans (hF1 u))
   have y4: ∀u,(E u).cell? ⟨qw,ow+l,none⟩=some (.int .i64 xw):=fun u=>Y2.out _ (A2.out.trans (hF1 u))
   have HX:Hid (∀u,Ab v0 (E u)):=fun u=>A2.out.trans (hF1 u)
   have DD0:=HU.out _ (Ab.refl v2).drew
   clear hF1 hF2
   refine aO E (by kernel_rfl) (by kernel_rfl) DD0 ?_
   repeat(go_big_quiet_step (first | (go_at_call 88;exact aH HU HU1 (CA1.out _ (HX.out _))) | (go_at_call 90;exact aH HU HU1 (CL1.out _)) | (with_reducible rfl)))
   refine wpQuiet_nil ?_
   intro w3 hwz
   obtain⟨u0,hu⟩:=hwz
   have Bw3:Hid (Ab v2 w3):=by rw[hu];exact HU1.out u0
   clear hu u0
   clear HU HU1 DD0 HX y0 y1 y2 y3 y4
   clear E UU
   have Aw3:Hid (Ab v0 w3):=A2.out.trans Bw3.out
   have Ew3:=hid (Ab.heap Bw3.out E2.out)
   clear Bw3
   go_upto_region 6 with fail
   obtain⟨UU,E,hF1,hF2⟩:=cls w3
   have HU:=hid hF2
   have HU1:=hid hF1
   have y0: ∀u,(E u).cell? ⟨gq,0,none⟩=some (.slice (some ⟨qb,ob,none⟩) N cb):=fun u=>aA 0 ((Aw3.out.trans (hF1 u)).heap Q0.out)
   have y1: ∀u,(E u).cell? ⟨gq,1,none⟩=some (.slice (some ⟨qw,ow,none⟩) N cw):=fun u=>aA 1 ((Aw3.out.trans (hF1 u)).heap Q0.out)
   have y2: ∀u,(E u).cell? ⟨ge,2,none⟩=some (.int .i64 (rr:Nat)):=fun u=>aA 2 ((hF1 u).heap Ew3.out)
   have y3: ∀u,(E u).cell? ⟨qb,ob+rr,none⟩=some (.float .f64 zb):=fun u=>Y3.out _ (Aw3.out.trans (hF1 u))
   have y4: ∀u,(E u).cell? ⟨qw,ow+rr,none⟩=some (.int .i64 zw):=fun u=>Y4.out _ (Aw3.out.trans (hF1 u))
   have HX:Hid (∀u,Ab v0 (E u)):=fun u=>Aw3.out.trans (hF1 u)
   have DD0:=HU.out _ (Ab.refl w3).drew
   clear hF1 hF2
   refine aO E (by kernel_rfl) (by kernel_rfl) DD0 ?_
   repeat(go_big_quiet_step (first | (go_at_call 88;exact aH HU HU1 (CA2.out _ (HX.out _))) | (go_at_call 90;exact aH HU HU1 (CL2.out _)) | (with_reducible rfl)))
   refine wpQuiet_nil ?_
   intro w4 hwz
   obtain⟨u0,hu⟩:=hwz
   have Bw4:Hid (Ab w3 w4):=by rw[hu];exact HU1.out u0
   clear hu u0
   clear HU HU1 DD0 HX y0 y1 y2 y3 y4
   clear E UU
   have Aw4:Hid (Ab v0 w4):=Aw3.out.trans Bw4.out
   have Ew4:=hid (Ab.heap Bw4.out Ew3.out)
   clear Bw4
   have y0:=aA 3 (Aw4.out.heap Q0.out)
   have y1:=YS.out _ Aw4.out
   have RB:=hid (Hh sx w4)
   go_wp2_with fail
   refine RB.out.mono ?_
   rintro e9 w5 ⟨rfl,hw5⟩
   have hw6:=hw5.symm
   subst hw6
   clear RB
   by_cases qs0:sx=0
   ·have d1:((sx:Int) != 0)=false:=by simp[qs0]
    have x0:=aE (Aw4.out.heap Q0.out)
    go_wp2_with fail
    refine(CO.out w4 Aw4.out).mono ?_
    rintro e9 w6 ⟨rfl,b6⟩
    have A6:Hid (Ab v0 w6):=Aw4.out.trans b6
    clear b6 x0 y0 y1
    cases o with
    | false=>
     go_wp2
     refine⟨⟨k+1,by have:=HK.out;omega,by simp,A6.out,fun i hi=> ?_⟩,by have:=HK.out;simp[intOf];omega⟩
     by_cases l':i<k
     ·exact G1.out i l'
     ·obtain rfl:i=k:=by omega
      exact GO.out.2 ⟨qs0,fun q=>by cases q⟩
    | true=>
     have RS:=hid (same21n la lr w6)
     by_cases qe:la=lr
     ·have d2:(la==lr)=true:=by simp[qe]
      rw[d2]at RS
      have QE:=hid qe
      clear qe d2
      go_wp2_with fail
      refine RS.out.mono ?_
      rintro e9 w7 ⟨rfl,hw7⟩
      have hw8:=hw7.symm
      subst hw8
      go_wp2
      refine⟨⟨k+1,by have:=HK.out;omega,by simp,A6.out,fun i hi=> ?_⟩,by have:=HK.out;simp[intOf];omega⟩
      by_cases l':i<k
      ·exact G1.out i l'
      ·obtain rfl:i=k:=by omega
       exact GO.out.2 ⟨qs0,fun _=>QE.out⟩
     ·have d2:(la==lr)=false:=by simp[qe]
      rw[d2]at RS
      have E9:Hid (r=false):=NO.out (fun q=>qe (q.2 rfl))
      clear qe d2
      go_wp2_with fail
      refine RS.out.mono ?_
      rintro e9 w7 ⟨rfl,hw7⟩
      have hw8:=hw7.symm
      subst hw8
      go_wp2
      go_ret
      exact⟨by rw[E9.out];rfl,A0.out.trans A6.out⟩
   ·have d1:((sx:Int) != 0)=true:=by simp[qs0]
    have E9:Hid (r=false):=NO.out (fun q=>qs0 q.1)
    clear y0 y1
    go_wp2
    go_ret
    exact⟨by rw[E9.out];rfl,A0.out.trans Aw4.out⟩
  ·have e6:M=k:=by omega
   subst e6
   have E9:Hid (r=true):=RY.out G1.out
   go_wp2
   go_ret
   exact⟨by rw[E9.out];rfl,A0.out.trans A1.out⟩
end St
end
end Go.Proofs.YtaphajlpbgcfjaaGreatDoor
