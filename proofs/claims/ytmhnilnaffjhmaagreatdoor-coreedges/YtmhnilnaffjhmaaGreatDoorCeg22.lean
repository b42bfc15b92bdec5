/-
  Some of the texts of this proof, one behind the other.
-/
import Derived.BigRegion
import Derived.Lib.SliceRun
import Derived.Laws.Small
import Derived.Laws.EntriesVeiled
import Derived.Test.YtmhnilnaffjhmaaGreatDoorCeg21
set_option maxRecDepth 100000
set_option maxHeartbeats 400000000
namespace Go.Proofs.YtmhnilnaffjhmaaGreatDoor
open _root_.Go.Proofs.Tryz
section
open Go.RowKit Go.Deep Cu
namespace Ms
open Sh
def SumsAt(w:World)(g m:Nat)(X:Nat->Int):Prop:=w.rowIs g 135 (m*2) (fun i=>.int .u64 (if i%2=0 then hiW (X (i/2))else loW (X (i/2))))
theorem SumsAt.c0{w:World}{g m k:Nat}{X:Nat->Int}(h:SumsAt w g m X)(hk:k<m):w.cell? ⟨g,k*2,none⟩=some (.int .u64 (hiW (X k))):=by
 have e:=h.cell (i:=k*2) (by omega)
 rw[e]
 have h1:k*2%2=0:=by omega
 have h2:k*2/2=k:=by omega
 simp[h1,h2]
theorem SumsAt.c1{w:World}{g m k:Nat}{X:Nat->Int}(h:SumsAt w g m X)(hk:k<m):w.cell? ⟨g,k*2+1,none⟩=some (.int .u64 (loW (X k))):=by
 have e:=h.cell (i:=k*2+1) (by omega)
 rw[e]
 have h1:(k*2+1)%2=1:=by omega
 have h2:(k*2+1)/2=k:=by omega
 simp[h1,h2]
theorem SumsAt.to{w w':World}{g m:Nat}{X:Nat->Int}(h:SumsAt w g m X)(a:Ab w w'):SumsAt w' g m X:=rowIs.ab h a
theorem SumsAt.frz{w:World}{g m:Nat}{X:Nat->Int}(h:SumsAt w g m X)(k:Nat):w.frozen? ⟨g,k,none⟩=false:=World.rowIs.frozen h k
def updX(X:Nat->Int)(c:Nat)(x:Int)(i:Nat):Int:=if i=c then x else X i
theorem SumsAt.put{w:World}{g m c:Nat}{X:Nat->Int}(h:SumsAt w g m X)(x:Int):SumsAt ((w.setCell ⟨g,c*2,none⟩ (.int .u64 (hiW x))).setCell ⟨g,c*2+1,none⟩ (.int .u64 (loW x))) g m (updX X c x):=by
 refine((World.rowIs.set h (c*2) (.int .u64 (hiW x))).set (c*2+1) (.int .u64 (loW x))).congr (fun i _=> ?_)
 have q1:(c*2)/2=c:=by omega
 have q2:(c*2+1)/2=c:=by omega
 have q3:(c*2+1)%2=1:=by omega
 have q4:(c*2)%2=0:=by omega
 unfold updX
 by_cases e1:i=c*2+1
 ·subst e1
  simp[q2,q3]
 ·by_cases e2:i=c*2
  ·subst e2;simp[q1,q4]
  ·have e3:i/2≠c:=by omega
   simp[e1,e2,e3]
theorem SumsAt.congr{w:World}{g m:Nat}{X Y:Nat->Int}(h:SumsAt w g m X)(e: ∀c,c<m->X c=Y c):SumsAt w g m Y:=
 World.rowIs.congr h (fun i hi=>by rw[e (i/2) (by omega)])
theorem row_ownW{B g cap n:Nat}{F:Nat->Value}{x:Nat->Int}{w:World}(h:w.rowIs g 2 cap F)(hB:B<=g)(hn:n<=cap)(hc:cap<=maxLen)(hF: ∀i,i<n->F i=.int .i64 (x i)):Own B (.slice (some ⟨g,0,none⟩) n cap) ((List.range n).map x) w:=by
 obtain⟨c,hb,hs,hf⟩:=h
 refine⟨by simp,.inr ⟨g,cap,c,by simp,hB,hb,by simpa using hn,hc,by omega,?_⟩⟩
 apply List.ext_getElem?
 intro i
 rw[List.getElem?_take,List.length_map,List.length_range]
 by_cases hi:i<n
 ·have e:=hf i (by omega)
  rw[hF i hi]at e
  rw[if_pos (by omega)]
  rw[<- Array.getElem?_toList]at e
  rw[e]
  simp[hi]
 ·rw[if_neg (by omega),List.getElem?_eq_none (by simp;omega)]
def gd(x:Int):Prop:=0<=x/\x<=9223372036854775807
theorem held_at(g m:Nat)(X:Nat->Int)(w:World)(hm:m<=65536)(S:Hid (SumsAt w g m X))(hX:Hid (∀k,k<m-> -170141183460469231731687303715884105728<=X k/\X k<170141183460469231731687303715884105728)):
  Calls prog 79 #[.slice (some ⟨g,0,none⟩) m m] w fun e w'=>Below w.heap.size w w'/\(((∀k,k<m->gd (X k))/\ ∃v,e=.returned (.tuple #[v,.int .i64 0])/\Own w.heap.size v ((List.range m).map X) w')\/((¬ ∀k,k<m->gd (X k))/\e=.returned (.tuple #[.slice none 0 0,.int .i64 20]))):=by
 have MK:=run_make_row' (P:=prog) 46 2 (.int .i64 0) 8 underlying46 eW rfl .i64 .i64 m (by omega) (by omega) w
 have MB:=hid hm
 clear hm
 obtain⟨ob,hob⟩:=aB w.heap.size
 have RW:Hid ((w.alloc (.cells (madeCells #[.int .i64 0] m) 2)).rowIs ob 2 m (fun _=>.int .i64 0)):=by
  have h:=World.rowIs_made w (.int .i64 0) m 2
  rw[hob]at h
  exact h
 have A0:Hid (Ab w (w.alloc (.cells (madeCells #[.int .i64 0] m) 2))):=bl1 w _
 have HO:Hid (w.heap.size<=ob):=Nat.le_of_eq hob
 generalize w.alloc (.cells (madeCells #[.int .i64 0] m) 2)=wm at*
 go_enter func79,ntmps79
 go_wp2
 clear MK hob
 go_loopw [14] (fun iv wr=> ∃k:Nat,k<=m/\iv=.int .i64 (k:Nat)/\Ab w wr/\wr.rowIs ob 2 m (fun i=>.int .i64 (if i<k then X i else 0))/\ ∀j,j<k->gd (X j)) (fun iv _=>m - (intOf iv).toNat)
 case atStart=>exact⟨0,by omega,rfl,A0.out,RW.out.congr (fun i _=>by simp),fun j hj=>absurd hj (by omega)⟩
 case round=>
  obtain⟨k,hk,rfl,a1,r1,g1⟩:=hrel
  have AR:=hid a1
  have RR:=hid r1
  have GR:=hid g1
  clear a1 r1 g1 A0 RW
  by_cases hkm:k<m
  ·have HK:=hid hkm
   have kI:(k:Int)<m:=by omega
   have kB:(k:Int)<=65536:=by have:=MB.out;omega
   have s1:=S.out.to AR.out
   have x0:=s1.c0 hkm
   have x1:=s1.c1 hkm
   have y1:=dQ (X k)
   have y2:=fC (X k)
   have HR:=hX.out k hkm
   obtain⟨x,hx⟩:=aB (X k)
   rw[hx]at x0 x1 y1 y2 HR
   have HX:=hid hx
   clear hx s1 hkm hk
   by_cases w1:W64 x
   ·have C:=hid (fun u=>FO x u w1)
    have wI:=w1
    unfold W64 at wI
    go_wp2_with fail
    refine(C.out _).mono ?_
    rintro e9 v1 ⟨rfl,b1⟩
    have A1:Hid (Ab w v1):=((AR.out:Ab w wr).trans (bl1 wr _)).call b1
    have R1:=hid (rowIs.ab (rowIs.ab RR.out (bl1 wr _)) b1)
    have f1:=R1.out.cell (i:=k) HK.out
    have f2:=R1.out.frozen k
    clear b1 C x0 x1 AR RR
    by_cases p:0<=x
    ·have d:decide (x<0)=false:=decide_eq_false (by omega)
     have G1:Hid (gd (X k)):=by rw[HX.out];exact⟨p,wI.2⟩
     clear p
     go_wp2
     refine⟨⟨k+1,by have:=HK.out;omega,by simp,Ab.setk A1.out HO.out _,(R1.out.set k (.int .i64 x)).congr (fun i _=> ?_),fun j hj=> ?_⟩,by have:=HK.out;simp[intOf];omega⟩
     ·by_cases e:i=k
      ·subst e;simp[HX.out]
      ·have e3:(i<k+1) ↔ i<k:=by omega
       simp[e,e3]
     ·by_cases e:j=k
      ·subst e;exact G1.out
      ·exact GR.out j (by omega)
    ·have d:decide (x<0)=true:=decide_eq_true (by omega)
     have G1:Hid (¬gd (X k)):=by rw[HX.out];exact fun h=>p h.1
     clear p
     go_wp2
     go_ret2
     exact⟨A1.out,.inr ⟨fun h=>G1.out (h k HK.out),rfl⟩⟩
   ·have C:=hid (fun u=>short_no x u w1 HR.1 HR.2)
    have G1:Hid (¬gd (X k)):=by rw[HX.out];exact fun h=>w1 ⟨by have:=h.1;omega,h.2⟩
    clear w1 HR
    go_wp2_with fail
    refine(C.out _).mono ?_
    rintro e9 v1 ⟨rfl,b1⟩
    have A1:Hid (Ab w v1):=((AR.out:Ab w wr).trans (bl1 wr _)).call b1
    have R1:=hid (rowIs.ab (rowIs.ab RR.out (bl1 wr _)) b1)
    clear b1 C x0 x1 AR RR
    go_wp2
    go_ret2
    exact⟨A1.out,.inr ⟨fun h=>G1.out (h k HK.out),rfl⟩⟩
  ·obtain rfl:k=m:=by omega
   go_wp2
   go_ret2
   exact⟨AR.out,.inl ⟨GR.out,_,rfl,row_ownW RR.out HO.out (Nat.le_refl _) (by unfold maxLen;have:=MB.out;omega) (fun i hi=>by simp[hi])⟩⟩
end Ms
end
section
open Go.RowKit Go.Deep Cu
namespace Ms
open Sh
theorem infoW:(Tryz.prog.info? 135).map (fun i=>(i.zero,i.size,i.bytes))=some (some (.agg #[.int .u64 0,.int .u64 0]),2,16):=by kernel_rfl
theorem made_w(w:World)(N:Nat):SumsAt (w.alloc (.cells (madeCells #[.int .u64 0,.int .u64 0] (N*2)) 135)) w.heap.size N (fun _=>0):=by
 refine⟨_,heap_alloc_new _ _,size_madeCells _ _,fun i hi=> ?_⟩
 have h2:i%2=0\/i%2=1:=by omega
 have e1:hiW 0=0:=rfl
 have e2:loW 0=0:=rfl
 rcases h2 with h2 | h2<;>simp[madeCells,hi,h2,e1,e2]
theorem zT(b:Nat)(y q:Int)(u:World)(hq:W64 q)(h:u.heap[b]? =some (.cells #[.int .i64 q] 2)):
  Calls prog 77 #[.agg #[.int .u64 (hiW y),.int .u64 (loW y)],.slice (some ⟨b,0,none⟩) 1 1] u fun e w'=>e=.returned (.agg #[.int .u64 (hiW (y+q)),.int .u64 (loW (y+q))])/\Below u.heap.size u w':=by
 have i:IsI u (some ⟨b,0,none⟩) 1 (fun _=>q):=fun k hk=>by
  obtain rfl:k=0:=by omega
  exact⟨hq,b,0,rfl,lt_of_block h,aA 0 h⟩
 have:=mA (some ⟨b,0,none⟩) 1 1 (fun _=>q) y u (by omega) i
 rw[show sumN (fun _=>q) 1=q by show(0:Int)+q=q;omega]at this
 exact this
theorem own_low{B C:Nat}{v:Value}{l:List Int}{w:World}(h:Own B v l w)(hc:C<=B):Own C v l w:=by
 refine⟨h.1,?_⟩
 rcases h.2 with h0 | ⟨g,cap,cur,e,hb',hg,h1,h2,h3,h4⟩
 ·exact .inl h0
 ·exact .inr ⟨g,cap,cur,e,Nat.le_trans hc hb',hg,h1,h2,h3,h4⟩
theorem move_go(gb wb wo M cw fb fo N cf:Nat)(W F:Nat->Int)(L R sL sR:Nat->Nat)(Z:Nat->Nat->Int)(w:World)(hM:M<=65536)(hN:N<=65536)
  (CE:Hid (∀v,Ab w v->Calls prog 7 #[.pointer (some ⟨gb,0,none⟩)] v fun e w'=>e=.returned (.int .i64 (M:Nat))/\w'=v))
  (ED:Hid (∀v,Ab w v->Calls prog 8 #[.pointer (some ⟨gb,0,none⟩)] v fun e w'=>e=.returned (.int .i64 (N:Nat))/\w'=v))
  (EG:Hid (∀k:Nat,k<N-> ∀v,Ab w v->Calls prog 10 #[.pointer (some ⟨gb,0,none⟩),.int .i64 (k:Nat)] v fun e w'=>e=.returned (.tuple #[.agg #[.int .i64 (L k:Nat),.int .i64 (sL k:Nat),.int .i64 (R k:Nat),.int .i64 (sR k:Nat)],.bool true])/\Below v.heap.size v w'))
  (IW:Hid (IsI w (some ⟨wb,wo,none⟩) M W)) (IF:Hid (IsI w (some ⟨fb,fo,none⟩) N F))
  (LR:Hid (∀k,k<N->L k<M/\R k<M/\L k≠R k))
  (Z0:Hid (∀c,c<M->Z 0 c=W c))
  (ZS:Hid (∀k,k<N-> ∀c,c<M->Z (k+1) c=if c=L k then Z k c - F k else if c=R k then Z k c+F k else Z k c))
  (ZB:Hid (∀c,c<M-> -170141183460469231731687303715884105728<=Z N c/\Z N c<170141183460469231731687303715884105728)):
  Calls prog 45 #[.pointer (some ⟨gb,0,none⟩),.slice (some ⟨wb,wo,none⟩) M cw,.slice (some ⟨fb,fo,none⟩) N cf] w fun e w'=>Below w.heap.size w w'/\(((∀k,k<M->gd (Z N k))/\ ∃v,e=.returned (.tuple #[v,.int .i64 0])/\Own w.heap.size v ((List.range M).map (Z N)) w')\/((¬ ∀k,k<M->gd (Z N k))/\e=.returned (.tuple #[.slice none 0 0,.int .i64 20]))):=by
 obtain⟨i0,hi,hz0,hz1,hz2⟩:=info_parts infoW
 have MK:=run_make (P:=prog) w 133 135 i0 (.agg #[.int .u64 0,.int .u64 0]) underlying133 hi hz0 .i64 .i64 M M (by omega) (Int.le_refl _) (by rw[hz2];omega) (by omega)
 rw[hz1]at MK
 simp only[Int.toNat_natCast]at MK
 have e0:(Value.agg #[.int .u64 0,.int .u64 0]).cells= #[.int .u64 0,.int .u64 0]:=rfl
 rw[e0]at MK
 clear hi hz0 hz1 hz2 e0
 have MB:=hid hM
 have NB:=hid hN
 clear hM hN
 obtain⟨ob,hob⟩:=aB w.heap.size
 have RW:Hid (SumsAt (w.alloc (.cells (madeCells #[.int .u64 0,.int .u64 0] (M*2)) 135)) ob M (fun _=>0)):=by rw[<- hob];exact made_w _ _
 have A0:Hid (Ab w (w.alloc (.cells (madeCells #[.int .u64 0,.int .u64 0] (M*2)) 135))):=bl1 w _
 have HO:Hid (w.heap.size<=ob):=Nat.le_of_eq hob
 generalize w.alloc (.cells (madeCells #[.int .u64 0,.int .u64 0] (M*2)) 135)=wm at*
 go_enter func45,ntmps45
 go_wp2_with fail
 refine(CE.out _ (Ab.refl _)).mono ?_
 rintro e9 v9 ⟨rfl,hv9⟩
 have hv8:=hv9.symm
 subst hv8
 go_wp2_with fail
 refine(ED.out _ (Ab.refl _)).mono ?_
 rintro e9 v9 ⟨rfl,hv9⟩
 have hv8:=hv9.symm
 subst hv8
 go_wp2
 clear MK hob CE ED
 go_loopw [34] (fun iv wr=> ∃k:Nat,k<=M/\iv=.int .i64 (k:Nat)/\Ab w wr/\SumsAt wr ob M (fun c=>if c<k then W c else 0)) (fun iv _=>M - (intOf iv).toNat)
 case atStart=>exact⟨0,by omega,rfl,A0.out,RW.out.congr (fun i _=>by simp)⟩
 case round=>
  obtain⟨k,hk,rfl,a1,r1⟩:=hrel
  have AR:=hid a1
  have RR:=hid r1
  clear a1 r1 A0 RW
  by_cases hkm:k<M
  ·have HK:=hid hkm
   have kI:(k:Int)<M:=by omega
   have kB:(k:Int)<=65536:=by have:=MB.out;omega
   obtain⟨hq,-,hc⟩:=(IW.out.below AR.out).at0 hkm
   have x0:=RR.out.c0 hkm
   have x1:=RR.out.c1 hkm
   rw[if_neg (by omega)]at x0 x1
   obtain⟨q,hx⟩:=aB (W k)
   rw[hx]at hq hc
   have C:=hid (zT wr.heap.size 0 q (wr.alloc (.cells #[.int .i64 q] 2)) hq (heap_alloc_new _ _))
   rw[Int.zero_add]at C
   have HX:=hid hx
   clear hx hkm hk
   have y1:=dQ q
   have y2:=fC q
   have e1:hiW 0=0:=rfl
   have e2:loW 0=0:=rfl
   rw[e1]at x0 C
   rw[e2]at x1 C
   go_wp2_with fail
   refine C.out.mono ?_
   rintro e9 v1 ⟨rfl,b1⟩
   have A1:Hid (Ab w v1):=((AR.out:Ab w wr).trans (bl1 wr _)).call b1
   have R1:=hid ((RR.out.to (bl1 wr _)).to b1)
   have f0:=R1.out.c0 HK.out
   have f1:=R1.out.c1 HK.out
   have z0:=R1.out.frz (k*2)
   have z1:=R1.out.frz (k*2+1)
   clear b1 C x0 x1 AR RR e1 e2
   go_wp2
   refine⟨⟨k+1,by have:=HK.out;omega,by simp,Ab.setk (Ab.setk A1.out HO.out _) HO.out _,(R1.out.put (c:=k) q).congr (fun i _=> ?_)⟩,by have:=HK.out;simp[intOf];omega⟩
   unfold updX
   by_cases e:i=k
   ·subst e;simp[HX.out]
   ·have e3:(i<k+1) ↔ i<k:=by omega
    simp[e,e3]
  ·obtain rfl:k=M:=by omega
   have RZ:Hid (SumsAt wr ob k (Z 0)):=RR.out.congr (fun c hc=>by rw[if_pos hc,Z0.out c hc])
   clear RR
   go_wp2
   go_loopw [52] (fun iv wr=> ∃j:Nat,j<=N/\iv=.int .i64 (j:Nat)/\Ab w wr/\SumsAt wr ob k (Z j)) (fun iv _=>N - (intOf iv).toNat)
   case atStart=>exact⟨0,by omega,rfl,AR.out,RZ.out⟩
   case round=>
    obtain⟨j,hj,rfl,a1,r1⟩:=hrel
    have AS:=hid a1
    have RS:=hid r1
    clear a1 r1 RZ AR
    by_cases hjn:j<N
    ·have HJ:=hid hjn
     have jI:(j:Int)<N:=by omega
     have jB:(j:Int)<=65536:=by have:=NB.out;omega
     obtain⟨hq,-,hc⟩:=(IF.out.below AS.out).at0 hjn
     obtain⟨l1,l2,l3⟩:=LR.out j hjn
     have CG:=hid (EG.out j hjn wr AS.out)
     have ZN:=hid (ZS.out j hjn)
     obtain⟨q,hx⟩:=aB (F j)
     rw[hx]at hq hc ZN
     generalize L j=lc at*
     generalize R j=rc at*
     generalize sL j=sl at*
     generalize sR j=sr at*
     have LC:=hid l1
     have RC:=hid l2
     have NE:=hid l3
     have lI:(lc:Int)<k:=by omega
     have rI:(rc:Int)<k:=by omega
     have kB:(k:Int)<=65536:=by have:=MB.out;omega
     have HQ:Hid (W64 q):=hq
     clear hx hjn hj l1 l2 l3
     go_wp2_with fail
     refine CG.out.mono ?_
     rintro e9 v1 ⟨rfl,b1⟩
     have A1:Hid (Ab w v1):=(AS.out:Ab w wr).call b1
     have R1:=hid (RS.out.to b1)
     clear b1 CG AS RS hc
     go_wp2_with fail
     obtain⟨V,hV⟩:=aB (v1.alloc (.cells #[.int .i64 (lc:Nat),.int .i64 (sl:Nat),.int .i64 (rc:Nat),.int .i64 (sr:Nat)] 30))
     rw[hV]
     obtain⟨eb,heb⟩:=aB v1.heap.size
     have EB:Hid (V.heap[eb]? =some (.cells #[.int .i64 (lc:Nat),.int .i64 (sl:Nat),.int .i64 (rc:Nat),.int .i64 (sr:Nat)] 30)):=by rw[<- hV,<- heb];exact heap_alloc_new _ _
     have AV:Hid (Ab w V):=by rw[<- hV];exact(A1.out:Ab w v1).trans (bl1 v1 _)
     have RV:Hid (SumsAt V ob k (Z j)):=by rw[<- hV];exact R1.out.to (bl1 v1 _)
     have NEB:Hid (ob≠eb):=by have:=World.rowIs.lt R1.out;show _≠_;omega
     rw[heb]
     clear hV heb A1 R1
     obtain⟨y,hy⟩:=aB (Z j lc)
     have HY:=hid hy
     have CM:=hid (fun u=>mN y q u HQ.out)
     obtain⟨UU,E,hF1,hF2⟩:=cls V
     have HU:=hid hF2
     have HU1:=hid hF1
     have x0: ∀u,(E u).cell? ⟨eb,0,none⟩=some (.int .i64 (lc:Nat)):=fun u=>aA 0 ((hF1 u).heap EB.out)
     have x1: ∀u,(E u).cell? ⟨ob,lc*2,none⟩=some (.int .u64 (hiW y)):=fun u=>by rw[<- hy];exact(RV.out.to (hF1 u)).c0 LC.out
     have x2: ∀u,(E u).cell? ⟨ob,lc*2+1,none⟩=some (.int .u64 (loW y)):=fun u=>by rw[<- hy];exact(RV.out.to (hF1 u)).c1 LC.out
     have DD0:=HU.out _ (Ab.refl V).drew
     have y1:=dQ y
     have y2:=fC y
     have y3:=dQ (y - q)
     have y4:=fC (y - q)
     clear hF1 hF2 hy
     refine cH 11 E (by kernel_rfl) (by kernel_rfl) (by kernel_rfl) DD0 ?_
     simp only[List.take_succ_cons,List.take_zero,List.drop_succ_cons,List.drop_zero]
     repeat(go_big_quiet_step (first
      | (with_reducible rfl)
      | (go_at_call 78;exact aH HU HU1 (CM.out _))))
     refine wpQuiet_nil ?_
     intro vz hwz
     obtain⟨u0,hu⟩:=hwz
     have AZ:Hid (Ab V vz):=by rw[hu];exact HU1.out u0
     clear hu u0
     clear HU HU1 DD0 x0 x1 x2
     clear E UU
     have RZ:=hid (RV.out.to AZ.out)
     have EZ:=hid (Ab.heap AZ.out EB.out)
     have AW:Hid (Ab w vz):=(AV.out:Ab w V).trans AZ.out
     have f0:=RZ.out.c0 LC.out
     have f1:=RZ.out.c1 LC.out
     have z0:=RZ.out.frz (lc*2)
     have z1:=RZ.out.frz (lc*2+1)
     clear RV EB AV AZ
     go_wp2_with fail
     have R2:Hid (SumsAt ((vz.setCell ⟨ob,lc*2,none⟩ (.int .u64 (hiW (y - q)))).setCell ⟨ob,lc*2+1,none⟩ (.int .u64 (loW (y - q)))) ob k (updX (Z j) lc (y - q))):=RZ.out.put (y - q)
     have A2:Hid (Ab w ((vz.setCell ⟨ob,lc*2,none⟩ (.int .u64 (hiW (y - q)))).setCell ⟨ob,lc*2+1,none⟩ (.int .u64 (loW (y - q))))):=Ab.setk (Ab.setk AW.out HO.out _) HO.out _
     have E2:Hid (((vz.setCell ⟨ob,lc*2,none⟩ (.int .u64 (hiW (y - q)))).setCell ⟨ob,lc*2+1,none⟩ (.int .u64 (loW (y - q)))).heap[eb]? =some (.cells #[.int .i64 (lc:Nat),.int .i64 (sl:Nat),.int .i64 (rc:Nat),.int .i64 (sr:Nat)] 30)):=by
      show _=_
      rw[Below.heap_setCell _ _ _ _ (fun e=>NEB.out e.symm),Below.heap_setCell _ _ _ _ (fun e=>NEB.out e.symm)]
      exact EZ.out
     generalize(vz.setCell ⟨ob,lc*2,none⟩ (.int .u64 (hiW (y - q)))).setCell ⟨ob,lc*2+1,none⟩ (.int .u64 (loW (y - q)))=V2 at*
     clear RZ EZ AW f0 f1 z0 z1 CM
     have e3:updX (Z j) lc (y - q) rc=Z j rc:=by unfold updX;rw[if_neg (fun e=>NE.out e.symm)]
     obtain⟨p,hp⟩:=aB (Z j rc)
     rw[hp]at e3
     have CP:Hid (Calls prog 77 #[.agg #[.int .u64 (hiW p),.int .u64 (loW p)],.slice (some ⟨V2.heap.size,0,none⟩) 1 1] (V2.alloc (.cells #[.int .i64 q] 2)).drew fun e w'=>e=.returned (.agg #[.int .u64 (hiW (p+q)),.int .u64 (loW (p+q))])/\Ab V2 w'):=
      (zT V2.heap.size p q (V2.alloc (.cells #[.int .i64 q] 2)).drew HQ.out (heap_alloc_new V2 _)).mono (fun _ _ h=>⟨h.1,Ab.call (Ab.drew (bl1 V2 _)) h.2⟩)
     have x0:=aA 2 E2.out
     have x1:=R2.out.c0 RC.out
     have x2:=R2.out.c1 RC.out
     rw[e3]at x1 x2
     have HP:=hid hp
     have y1:=dQ p
     have y2:=fC p
     have y3:=dQ (p+q)
     have y4:=fC (p+q)
     have XE:Hid (∀u,Ab V2 u->u.cell? ⟨eb,2,none⟩=some (.int .i64 (rc:Nat))):=fun u hu=>aA 2 (hu.heap E2.out)
     have XS:Hid (∀u,Ab V2 u->SumsAt u ob k (updX (Z j) lc (y - q))):=fun u hu=>R2.out.to hu
     have XC:Hid (∀u,Ab V2 u->u.cell? ⟨ob,rc*2,none⟩=some (.int .u64 (hiW p))/\u.cell? ⟨ob,rc*2+1,none⟩=some (.int .u64 (loW p))/\u.frozen? ⟨ob,rc*2,none⟩=false/\u.frozen? ⟨ob,rc*2+1,none⟩=false):=fun u hu=>by
      have h:=XS.out u hu
      have h0:=h.c0 RC.out
      have h1:=h.c1 RC.out
      rw[e3]at h0 h1
      exact⟨h0,h1,h.frz _,h.frz _⟩
     have ol:ob<V2.heap.size:=World.rowIs.lt R2.out
     have el:eb<V2.heap.size:=lt_of_block E2.out
     have xa:=XC.out _ (bl1 V2 (.cells #[.int .i64 q] 2))
     have xb:=XE.out _ (bl1 V2 (.cells #[.int .i64 q] 2))
     have xa0:=xa.1
     have xa1:=xa.2.1
     have FIN:Hid (∀u1,Ab V2 u1->Ab w ((u1.setCell ⟨ob,rc*2,none⟩ (.int .u64 (hiW (p+q)))).setCell ⟨ob,rc*2+1,none⟩ (.int .u64 (loW (p+q))))/\SumsAt ((u1.setCell ⟨ob,rc*2,none⟩ (.int .u64 (hiW (p+q)))).setCell ⟨ob,rc*2+1,none⟩ (.int .u64 (loW (p+q)))) ob k (Z (j+1))):=fun u1 hu=>⟨Ab.setk (Ab.setk (Ab.trans A2.out hu) HO.out _) HO.out _,((XS.out u1 hu).put (c:=rc) (p+q)).congr (fun c hc=>by
      rw[ZN.out c hc]
      unfold updX
      by_cases c1:c=rc
      ·subst c1
       rw[if_pos rfl,if_neg (fun e=>NE.out e.symm),if_pos rfl,HP.out]
      ·rw[if_neg c1]
       by_cases c2:c=lc
       ·subst c2
        rw[if_pos rfl,if_pos rfl,HY.out]
       ·rw[if_neg c2,if_neg c2,if_neg c1])⟩
     clear hp xa e3 y1 y2
     go_region_with (go_at_call 77;refine CP.out.mono ?_;rintro e9 u1 ⟨rfl,b1⟩;have AU:Hid (Ab V2 u1):=b1;clear b1;have xe:=XE.out _ AU.out;have xc:=XC.out _ AU.out)
     all_goals
      go_wp2
      exact⟨⟨j+1,by have:=HJ.out;omega,by simp,(FIN.out _ AU.out).1,(FIN.out _ AU.out).2⟩,by have:=HJ.out;simp[intOf];omega⟩
    ·obtain rfl:j=N:=by omega
     have C:=hid (held_at ob k (Z j) wr MB.out RS.out ZB.out)
     go_wp2_with fail
     refine C.out.mono ?_
     rintro e9 v1 ⟨b1,⟨g1,v,rfl,o1⟩ | ⟨g1,rfl⟩⟩
     ·have A1:Hid (Ab w v1):=(AS.out:Ab w wr).call b1
      have G1:=hid g1
      have O1:=hid o1
      clear g1 o1 b1 C
      go_wp2
      go_ret2
      exact⟨A1.out,.inl ⟨G1.out,v,rfl,own_low O1.out (Below.size AS.out)⟩⟩
     ·have A1:Hid (Ab w v1):=(AS.out:Ab w wr).call b1
      have G1:=hid g1
      clear g1 b1 C
      go_wp2
      go_ret2
      exact⟨A1.out,.inr ⟨G1.out,rfl⟩⟩
end Ms
end
section
open Go.RowKit Go.Deep Cu
namespace Ms
open Sh
theorem move_bad(gb M N:Nat)(pw:Option Addr)(lw cw:Nat)(pf:Option Addr)(lf cf:Nat)(w:World)(h: ¬(lw=M/\lf=N))
  (CE:Hid (Calls prog 7 #[.pointer (some ⟨gb,0,none⟩)] w fun e w'=>e=.returned (.int .i64 (M:Nat))/\w'=w))
  (ED:Hid (Calls prog 8 #[.pointer (some ⟨gb,0,none⟩)] w fun e w'=>e=.returned (.int .i64 (N:Nat))/\w'=w)):
  Calls prog 45 #[.pointer (some ⟨gb,0,none⟩),.slice pw lw cw,.slice pf lf cf] w fun e w'=>e=.returned (.tuple #[.slice none 0 0,.int .i64 1])/\Below w.heap.size w w':=by
 by_cases c1:lw=M
 ·have d2:((lf:Int) != (N:Int))=true:=by simp;omega
  subst c1
  clear h
  go_enter func45,ntmps45
  go_wp2_with fail
  refine CE.out.mono ?_
  rintro e9 v9 ⟨rfl,hv9⟩
  have hv8:=hv9.symm
  subst hv8
  go_wp2_with fail
  refine ED.out.mono ?_
  rintro e9 v9 ⟨rfl,hv9⟩
  have hv8:=hv9.symm
  subst hv8
  go_wp2
  go_ret2
  exact⟨rfl,Below.refl _ _⟩
 ·have d1:((lw:Int) != (M:Int))=true:=by simp;omega
  clear h c1
  go_enter func45,ntmps45
  go_wp2_with fail
  refine CE.out.mono ?_
  rintro e9 v9 ⟨rfl,hv9⟩
  have hv8:=hv9.symm
  subst hv8
  go_wp2
  go_ret2
  exact⟨rfl,Below.refl _ _⟩
theorem mv_in{n c:Nat}{W F:Nat->Int}(hn:1<=n)(hc:c<6*n*n)(hW: ∀k,k<6*n*n->W64 (W k))(hF: ∀k,k<12*n*n->W64 (F k)): -170141183460469231731687303715884105728<=mv n W F c/\mv n W F c<170141183460469231731687303715884105728:=by
 have hw:=hW c hc
 have ht: ∀s,s<4-> -9223372036854775808<=tk n F (4*c+s)/\tk n F (4*c+s)<=9223372036854775808:=fun s hs=>by
  have h:=hF _ (fQ hn (fE hc hs))
  unfold W64 at h
  unfold tk eS
  split<;>omega
 have t0:=ht 0 (by omega)
 have t1:=ht 1 (by omega)
 have t2:=ht 2 (by omega)
 have t3:=ht 3 (by omega)
 unfold W64 at hw
 show _<=W c - (0+tk n F (4*c+0)+tk n F (4*c+1)+tk n F (4*c+2)+tk n F (4*c+3))/\W c - (0+tk n F (4*c+0)+tk n F (4*c+1)+tk n F (4*c+2)+tk n F (4*c+3))<_
 omega
theorem n6_pos{n:Nat}(hn:1<=n):0<6*n*n:=Nat.mul_pos (Nat.mul_pos (by omega) hn) hn
theorem n12_pos{n:Nat}(hn:1<=n):0<12*n*n:=Nat.mul_pos (Nat.mul_pos (by omega) hn) hn
theorem zU(n gb:Nat)(pw:Option Addr)(cw:Nat)(W:Nat->Int)(pf:Option Addr)(cf:Nat)(F:Nat->Int)(w:World)(hn:1<=n/\n<=32)(g:GridOf n gb w)(iW:IsI w pw (6*n*n) W)(iF:IsI w pf (12*n*n) F):
  Calls prog 45 #[.pointer (some ⟨gb,0,none⟩),.slice pw (6*n*n) cw,.slice pf (12*n*n) cf] w fun e w'=>Below w.heap.size w w'/\((can n W F/\ ∃v,e=.returned (.tuple #[v,.int .i64 0])/\Own w.heap.size v ((List.range (6*n*n)).map (mv n W F)) w')\/((¬can n W F)/\e=.returned (.tuple #[.slice none 0 0,.int .i64 20]))):=by
 obtain⟨h1,h2⟩:=n12 hn
 obtain⟨wb,wo,rfl⟩:=iW.some0 (n6_pos hn.1)
 obtain⟨fb,fo,rfl⟩:=iF.some0 (n12_pos hn.1)
 have hM:6*n*n<=65536:=by
    have:12*n*n=2*(6*n*n):=by rw[show 12=2*6 from rfl,Nat.mul_assoc 2 6 n,Nat.mul_assoc 2 (6*n) n]
    omega
 have LR: ∀k,k<12*n*n->edT n k/4<6*n*n/\mt n (edT n k)/4<6*n*n/\edT n k/4≠mt n (edT n k)/4:=fun k hk=>by
  obtain⟨t1,t2,t3⟩:=bM hn.1 hk
  have:=Dw hn.1 hk
  exact⟨aW t1,aW (cX hn.1 t1),by omega⟩
 refine(move_go gb wb wo (6*n*n) cw fb fo (12*n*n) cf W F (fun k=>edT n k/4) (fun k=>mt n (edT n k)/4) (fun k=>edT n k%4) (fun k=>mt n (edT n k)%4) (fun k c=>mv n W (upF k F) c) w hM (by omega)
  (fun v hv=>dT (g.to hv)) (fun v hv=>bZ (g.to hv)) (fun k hk v hv=> ?_) iW iF LR (fun c hc=>mv_nil W F hn.1 hc) (fun k hk c hc=>mv_up W F hn.1 hk hc) (fun c hc=> ?_)).mono ?_
 ·obtain⟨t1,t2,t3⟩:=bM hn.1 hk
  have e:=iV hn t1 t2 (g.to hv)
  rw[t3,<- (eO hn.1 t1).1,<- (eO hn.1 t1).2]at e
  exact e
 ·rw[wQ W F hn.1 hc]
  exact mv_in hn.1 hc (fun k hk=>(iW k hk).1) (fun k hk=>(iF k hk).1)
 ·have el:(List.range (6*n*n)).map (fun c=>mv n W (upF (12*n*n) F) c)=(List.range (6*n*n)).map (mv n W F):=List.map_congr_left fun c hc=>wQ W F hn.1 (List.mem_range.1 hc)
  have ec:(∀k,k<6*n*n->gd (mv n W (upF (12*n*n) F) k)) ↔ can n W F:=
   ⟨fun h c hc=>by have:=h c hc;rw[wQ W F hn.1 hc]at this;exact this,fun h c hc=>by rw[wQ W F hn.1 hc];exact h c hc⟩
  rintro e w' ⟨b1,⟨h3,v,rfl,o⟩ | ⟨h3,rfl⟩⟩
  ·exact⟨b1,.inl ⟨ec.1 h3,v,rfl,by rw[<- el];exact o⟩⟩
  ·exact⟨b1,.inr ⟨fun h=>h3 (ec.2 h),rfl⟩⟩
theorem moveC:MoveC:=by
 intro n gb pw lw cw W pf lf cf F w hn g _ _ iW iF
 refine⟨?_,?_,?_⟩
 ·rintro⟨rfl,rfl⟩ hc
  refine(zU n gb pw cw W pf cf F w hn g iW iF).mono ?_
  rintro e w' ⟨b1,⟨_,v,rfl,o⟩ | ⟨h3,_⟩⟩
  ·exact⟨v,rfl,b1,o⟩
  ·exact absurd hc h3
 ·rintro⟨rfl,rfl⟩ hc
  refine(zU n gb pw cw W pf cf F w hn g iW iF).mono ?_
  rintro e w' ⟨b1,⟨h3,_⟩ | ⟨_,rfl⟩⟩
  ·exact absurd h3 hc
  ·exact⟨rfl,b1⟩
 ·intro h
  exact move_bad gb (6*n*n) (12*n*n) pw lw cw pf lf cf w h (dT g) (bZ g)
end Ms
end
section
open Go.RowKit Go.Deep
namespace Rn
open Sh
theorem FP(w:World)(a:Option Addr)(n c:Nat):(binOp .eql 46 (.slice a n c) (.slice none 0 0)).run prog w=.ok (.bool a.isNone) w:=Lib.run_eql_slice_nil w _ _ a n c 0 0 underlying46
attribute [local go_sem] FP
theorem tD{ops:Array Oper}{rest:List Oper}{o:Oper}{a:Act}{w:World}{Q:Exit->Act->World->Prop}(hgd:o.guard=none)(s x:Operand)
  (ho:o.op=.call {callee:=.builtin .append,args:= #[s,x],argTypes:= #[46,46]})
  (g:Nat) (hs:a.eval s=.slice (some ⟨g,0,none⟩) 0 0) (src:Value) (hx:a.eval x=src) (hsrc:Src prog 1 46 src 0 [] w)
  (h:wpList prog ops Q rest (a.put o.dst (.slice (some ⟨g,0,none⟩) 0 0)) w):wpList prog ops Q (o :: rest) a w:=by
 obtain⟨i0,hi,hz0,hz1,hz2⟩:=wB
 refine wpList_plain hgd fun _ hK=> ?_
 have hr:=run_append_room_src (P:=prog) w 46 46 o.type 2 i0 underlying46 hi g 0 0 0 src 0 [] (by rw[hz1];exact hsrc) (Nat.le_refl _) (fun j hj=>absurd hj (Nat.not_lt_zero j)) (fun j hj=>absurd hj (Nat.not_lt_zero j))
 unfold Oper.wp execOp
 simp only[ho,resolve,invoke,builtin,Sem.run_bind,Sem.run_pure,Result.andThen_ok,List.map_toArray,List.map_cons,List.map_nil,hs,hx,hr]
 exact hK _ _ h
theorem FQ{w:World}{b o N:Nat}{D:Nat->Int}(h:IsI w (some ⟨b,o,none⟩) N D): ∀j u,(((List.range N).map D).map (Value.int .i64))[j]? =some u->w.cell? ((⟨b,o,none⟩:Addr).add j)=some u:=fun j u hu=>by
 have hj:j<N:=by
  rcases Nat.lt_or_ge j N with h1 | h1
  ·exact h1
  ·rw[List.getElem?_eq_none (by simpa using h1)]at hu;cases hu
 simp[hj]at hu
 rw[qD,<- hu]
 exact(h.at0 hj).2.2
theorem wR(n c:Nat)(w:World):Calls prog 83 #[.slice none n c] w fun e w'=>e=.returned (.slice none 0 0)/\w'=w:=by
 go_enter func83,ntmps83
 go_wp2
 go_ret
 exact⟨rfl,rfl⟩
theorem wS(p:Addr)(c:Nat)(f:Nat->Int)(w:World):Calls prog 83 #[.slice (some p) 0 c] w fun e w'=>e=.returned (.slice (some ⟨w.heap.size,0,none⟩) 0 0)/\w'=w.alloc (.cells #[] 2):=by
 have SR:=hid (src_in (IsI.nil (w.alloc (.cells #[] 2)) (some p) f) c)
 go_enter func83,ntmps83
 go_wp2_with (first
  | (at_builtin;refine tD rfl (.tmp 5) (.tmp 6) rfl w.heap.size rfl (.slice (some p) 0 c) rfl SR.out ?_))
 go_ret
 exact⟨rfl,rfl⟩
theorem Ca(b o n c:Nat)(f:Nat->Int)(w:World)(h0:0<n)(hn:n<=17592186044416)(hf:IsI w (some ⟨b,o,none⟩) n f):Calls prog 83 #[.slice (some ⟨b,o,none⟩) n c] w fun e w'=> ∃v,e=.returned v/\Below w.heap.size w w'/\Own w.heap.size v ((List.range n).map f) w':=by
 have O2:=hid (qE w w.heap.size (Nat.le_refl _))
 have N1:=hid (FQ (hf.below (bl1 w (.cells #[] 2))))
 have LS:Hid (w.heap.size<=(w.alloc (.cells #[] 2)).heap.size):=by show _<=_;simp
 have H0:=hid h0
 have HN:=hid hn
 clear hf h0 hn
 go_enter func83,ntmps83
 go_wp2_with (first
  | (at_builtin;refine wJ rfl (.tmp 5) (.tmp 6) rfl w.heap.size (.slice (some ⟨w.heap.size,0,none⟩) 0 0) [] rfl O2.out ⟨b,o,none⟩ n c ((List.range n).map f) rfl (by simp) N1.out H0.out (by have:=HN.out;simp;omega) LS.out n (by simp) ?_;intro g1 c1 w1 o1 x1 y1 _;have O1:=hid o1;have X1:=hid x1;clear o1 x1 y1))
 go_ret
 refine⟨_,rfl,Below.grown (bl1 w _:Below _ _ _) X1.out LS.out (fun k hk=>(World.ownsRow.lt O2.out k hk).1),?_⟩
 have h:=O1.out
 rw[List.nil_append]at h
 exact h
theorem sV(p:Option Addr)(n c:Nat)(f:Nat->Int)(w:World)(hn:n<=17592186044416)(hf:IsI w p n f):Calls prog 83 #[.slice p n c] w fun e w'=> ∃v,e=.returned v/\Below w.heap.size w w'/\Own w.heap.size v ((List.range n).map f) w':=by
 rcases Nat.eq_zero_or_pos n with h0 | h0
 ·subst h0
  cases p with
  | none=>
   refine(wR 0 c w).mono ?_
   rintro e w' ⟨rfl,rfl⟩
   exact⟨_,rfl,Below.refl _ _,Own.new _ _⟩
  | some a=>
   refine(wS a c f w).mono ?_
   rintro e w' ⟨rfl,rfl⟩
   exact⟨_,rfl,bl1 _ _,qE w w.heap.size (Nat.le_refl _)⟩
 ·obtain⟨b,o,rfl⟩:=hf.some0 h0
  exact Ca b o n c f w h0 hn hf
end Rn
end
section
open Go.RowKit Go.Deep
namespace Rn
open Sh
def jO(gs gh gm og oc lw:Nat)(Tm:TypeId)(sk:Int)(X:Nat->Int)(v:World):Prop:=
 v.heap[gs]? =some (.cells #[.int .i64 sk] 2)/\v.heap[gh]? =some (.cells #[.slice (some ⟨og,0,none⟩) lw oc] 46)/\
 v.heap[gm]? =some (.cells #[.func (.func 84) #[] #[.pointer (some ⟨gh,0,none⟩),.pointer (some ⟨gs,0,none⟩)]] Tm)/\ ∃F,v.rowIs og 2 oc F/\ ∀i,i<lw->F i=.int .i64 (X i)
def zV(gs gh gm og:Nat):Prop:=gs≠gh/\gs≠gm/\gs≠og/\gh≠og/\gm≠og
def nC(gs og k:Nat)(y z:Int)(v:World):World:=(v.setCell ⟨og,k,none⟩ (.int .i64 y)).setCell ⟨gs,0,none⟩ (.int .i64 z)
theorem jO.to{gs gh gm og oc lw:Nat}{Tm:TypeId}{sk:Int}{X:Nat->Int}{v v':World}(h:jO gs gh gm og oc lw Tm sk X v)(a:Ab v v'):jO gs gh gm og oc lw Tm sk X v':=by
 obtain⟨h1,h2,h3,F,h4,h5⟩:=h
 exact⟨a.heap h1,a.heap h2,a.heap h3,F,cP h4 a,h5⟩
theorem jO.cell{gs gh gm og oc lw:Nat}{Tm:TypeId}{sk:Int}{X:Nat->Int}{v:World}(h:jO gs gh gm og oc lw Tm sk X v)(hc:lw<=oc){k:Nat}(hk:k<lw):v.cell? ⟨og,k,none⟩=some (.int .i64 (X k))/\v.frozen? ⟨og,k,none⟩=false:=by
 obtain⟨-,-,-,F,h4,h5⟩:=h
 exact⟨by rw[<- h5 k hk];exact h4.cell (by omega),h4.frozen k⟩
theorem jO.mov{gs gh gm og oc lw:Nat}{Tm:TypeId}{sk:Int}{X:Nat->Int}{v:World}(h:jO gs gh gm og oc lw Tm sk X v)(d:zV gs gh gm og)(k:Nat)(y z:Int):jO gs gh gm og oc lw Tm z (fun i=>if i=k then y else X i) (nC gs og k y z v):=by
 obtain⟨h1,h2,h3,F,h4,h5⟩:=h
 obtain⟨d1,d2,d3,d4,d5⟩:=d
 unfold nC
 refine⟨?_,?_,?_,_,(h4.set k (.int .i64 y)).setOther (a:=⟨gs,0,none⟩) (fun e=>d3 e.symm) _,fun i hi=> ?_⟩
 ·have:=aI (k:=0) (v:=.int .i64 z) ((Below.heap_setCell v ⟨og,k,none⟩ (.int .i64 y) gs d3).trans h1)
  simpa using this
 ·exact(Below.heap_setCell _ ⟨gs,0,none⟩ _ gh (fun e=>d1 e.symm)).trans ((Below.heap_setCell v ⟨og,k,none⟩ _ gh d4).trans h2)
 ·exact(Below.heap_setCell _ ⟨gs,0,none⟩ _ gm (fun e=>d2 e.symm)).trans ((Below.heap_setCell v ⟨og,k,none⟩ _ gm d5).trans h3)
 ·dsimp only
  by_cases e:i=k
  ·rw[if_pos e,if_pos e]
  ·rw[if_neg e,if_neg e,h5 i hi]
theorem jO.congr{gs gh gm og oc lw:Nat}{Tm:TypeId}{sk:Int}{X Y:Nat->Int}{v:World}(h:jO gs gh gm og oc lw Tm sk X v)(e: ∀i,i<lw->X i=Y i):jO gs gh gm og oc lw Tm sk Y v:=by
 obtain⟨h1,h2,h3,F,h4,h5⟩:=h
 exact⟨h1,h2,h3,F,h4,fun i hi=>by rw[h5 i hi,e i hi]⟩
theorem mov_ab{w v:World}{gs og k:Nat}{y z:Int}(a:Ab w v)(h1:w.heap.size<=gs)(h2:w.heap.size<=og):Ab w (nC gs og k y z v):=(a.setk h2 _).setk h1 _
theorem move18(gs gh gm og oc lw k:Nat)(Tm:TypeId)(sk x d:Int)(X:Nat->Int)(v:World)(h:jO gs gh gm og oc lw Tm sk X v)(di:zV gs gh gm og)(hc:lw<=oc)(hl:lw<=17592186044416)(hk:k<lw)(hx:X k=x)
  (y1: -9223372036854775808<=x+d) (y2:x+d<=9223372036854775807) (z1: -9223372036854775808<=sk - d) (z2:sk - d<=9223372036854775807):
  Calls prog 84 #[.int .i64 (k:Nat),.int .i64 d,.pointer (some ⟨gh,0,none⟩),.pointer (some ⟨gs,0,none⟩)] v fun e v'=>e=.returned (.tuple #[])/\v'=nC gs og k (x+d) (sk - d) v:=by
 have kI:(k:Int)<lw:=by omega
 have kB:(k:Int)<=17592186044416:=by omega
 obtain⟨c1,f1⟩:=h.cell hc hk
 rw[hx]at c1
 have c2:=aA 0 h.2.1
 have h2:(v.setCell ⟨og,k,none⟩ (.int .i64 (x+d))).heap[gs]? =some (.cells #[.int .i64 sk] 2):=(Below.heap_setCell v ⟨og,k,none⟩ _ gs di.2.2.1).trans h.1
 have c3:=aA 0 h2
 have f3:=aF h2 0
 clear h2 h di hc hl hk hx
 unfold nC
 go_enter func84,ntmps84
 go_wp2
 go_end0
 exact⟨rfl,rfl⟩
theorem fall18(gs gh gm og oc lw k:Nat)(Tm:TypeId)(sk x d r2 r3 r4:Int)(X:Nat->Int)(v:World)(h:jO gs gh gm og oc lw Tm sk X v)(di:zV gs gh gm og)(hc:lw<=oc)(hl:lw<=17592186044416)(hk:k<lw)(hx:X k=x)(hd:(if sk<r2 then sk else r2)=d)
  (y1: -9223372036854775808<=x+d) (y2:x+d<=9223372036854775807) (z1: -9223372036854775808<=sk - d) (z2:sk - d<=9223372036854775807):
  Calls prog 85 #[.agg #[.int .i64 (k:Nat),.int .i64 r2,.int .i64 r3,.int .i64 r4],.pointer (some ⟨gm,0,none⟩),.pointer (some ⟨gs,0,none⟩)] v fun e v'=>e=.returned (.tuple #[])/\ ∃u,Ab v u/\v'=nC gs og k (x+d) (sk - d) u:=by
 obtain⟨A0,R0⟩:=aL v (.cells #[.int .i64 (k:Nat),.int .i64 r2,.int .i64 r3,.int .i64 r4] 145)
 have HM: ∀(ts:Array TypeId) (t:TypeId) (w:World),(Builtin.min_ ts t #[.int .i64 r2,.int .i64 sk]).run prog w=.ok (.int .i64 d) w:=fun ts t w=>by rw[<- hd];exact run_min_int2 w ts t _ _ r2 sk
 have HA:=hid (h.to A0.out)
 have CM:Hid (∀u,jO gs gh gm og oc lw Tm sk X u->Calls prog 84 #[.int .i64 (k:Nat),.int .i64 d,.pointer (some ⟨gh,0,none⟩),.pointer (some ⟨gs,0,none⟩)] u fun e v'=>e=.returned (.tuple #[])/\v'=nC gs og k (x+d) (sk - d) u):=fun u hu=>move18 gs gh gm og oc lw k Tm sk x d X u hu di hc hl hk hx y1 y2 z1 z2
 clear h di hc hl hk hx hd y1 y2 z1 z2
 go_enter func85,ntmps85
 go_upto_region 1 with fail
 generalize hW:World.alloc v _=V0 at*
 obtain⟨gw,hgw⟩:=aB v.heap.size
 rw[hgw]at R0 ⊢
 clear hgw hW
 have x0:=aA 0 R0.out
 have x1:=aA 1 R0.out
 have x2:=aA 0 HA.out.1
 have x3:=aA 0 HA.out.2.2.1
 have CV:=hid (CM.out V0 HA.out)
 go_wp2_with fail
 refine CV.out.mono ?_
 rintro e9 v9 ⟨rfl,hv9⟩
 have H9:=hid hv9
 clear hv9
 go_wp2
 go_end0
 exact⟨rfl,V0,A0.out,H9.out⟩
theorem up18(gs gh gm og oc lw k:Nat)(Tm:TypeId)(sk x d r2 r3 r4:Int)(X:Nat->Int)(v:World)(h:jO gs gh gm og oc lw Tm sk X v)(di:zV gs gh gm og)(hc:lw<=oc)(hl:lw<=17592186044416)(hk:k<lw)(hx:X k=x)(hd:(if x< -r2 then x else -r2)=d)(n1: -9223372036854775808<= -r2)(n2: -r2<=9223372036854775807)(d1: -9223372036854775808<= -d)(d2: -d<=9223372036854775807)
  (y1: -9223372036854775808<=x+ -d) (y2:x+ -d<=9223372036854775807) (z1: -9223372036854775808<=sk - -d) (z2:sk - -d<=9223372036854775807):
  Calls prog 86 #[.agg #[.int .i64 (k:Nat),.int .i64 r2,.int .i64 r3,.int .i64 r4],.pointer (some ⟨gm,0,none⟩),.pointer (some ⟨gh,0,none⟩)] v fun e v'=>e=.returned (.tuple #[])/\ ∃u,Ab v u/\v'=nC gs og k (x+ -d) (sk - -d) u:=by
 have kI:(k:Int)<lw:=by omega
 have kB:(k:Int)<=17592186044416:=by omega
 obtain⟨A0,R0⟩:=aL v (.cells #[.int .i64 (k:Nat),.int .i64 r2,.int .i64 r3,.int .i64 r4] 145)
 have HM: ∀(ts:Array TypeId) (t:TypeId) (w:World),(Builtin.min_ ts t #[.int .i64 (-r2),.int .i64 x]).run prog w=.ok (.int .i64 d) w:=fun ts t w=>by rw[<- hd];exact run_min_int2 w ts t _ _ (-r2) x
 have HA:=hid (h.to A0.out)
 have XC:Hid (∀u,jO gs gh gm og oc lw Tm sk X u->u.cell? ⟨og,k,none⟩=some (.int .i64 x)):=fun u hu=>by rw[<- hx];exact(hu.cell hc hk).1
 have CM:Hid (∀u,jO gs gh gm og oc lw Tm sk X u->Calls prog 84 #[.int .i64 (k:Nat),.int .i64 (-d),.pointer (some ⟨gh,0,none⟩),.pointer (some ⟨gs,0,none⟩)] u fun e v'=>e=.returned (.tuple #[])/\v'=nC gs og k (x+ -d) (sk - -d) u):=fun u hu=>move18 gs gh gm og oc lw k Tm sk x (-d) X u hu di hc hl hk hx y1 y2 z1 z2
 clear h di hc hl hk hx hd y1 y2 z1 z2
 go_enter func86,ntmps86
 go_upto_region 1 with fail
 generalize hW:World.alloc v _=V0 at*
 obtain⟨gw,hgw⟩:=aB v.heap.size
 rw[hgw]at R0 ⊢
 clear hgw hW
 obtain⟨UU,E,hF1,hF2⟩:=cls V0
 have HU:=hid hF2
 have HU1:=hid hF1
 have x0: ∀u,(E u).cell? ⟨gw,0,none⟩=some (.int .i64 (k:Nat)):=fun u=>aA 0 ((hF1 u).heap R0.out)
 have x1: ∀u,(E u).cell? ⟨gw,1,none⟩=some (.int .i64 r2):=fun u=>aA 1 ((hF1 u).heap R0.out)
 have x2: ∀u,(E u).cell? ⟨gh,0,none⟩=some (.slice (some ⟨og,0,none⟩) lw oc):=fun u=>aA 0 ((hF1 u).heap HA.out.2.1)
 have x3: ∀u,(E u).cell? ⟨gm,0,none⟩=some (.func (.func 84) #[] #[.pointer (some ⟨gh,0,none⟩),.pointer (some ⟨gs,0,none⟩)]):=fun u=>aA 0 ((hF1 u).heap HA.out.2.2.1)
 have x4: ∀u,(E u).cell? ⟨og,k,none⟩=some (.int .i64 x):=fun u=>XC.out _ (HA.out.to (hF1 u))
 have DD0:=HU.out _ (Ab.refl V0).drew
 clear hF1 hF2
 refine cH 13 E (by kernel_rfl) (by kernel_rfl) (by kernel_rfl) DD0 ?_
 simp only[List.take_succ_cons,List.take_zero,List.drop_succ_cons,List.drop_zero]
 repeat(go_big_quiet_step (with_reducible rfl))
 refine wpQuiet_nil ?_
 intro vz hwz
 obtain⟨u0,hu⟩:=hwz
 have AZ:Hid (Ab V0 vz):=by rw[hu];exact HU1.out u0
 clear hu u0
 clear HU HU1 DD0 x0 x1 x2 x3 x4
 clear E UU
 have CV:=hid (CM.out vz (HA.out.to AZ.out))
 go_wp2_with fail
 refine CV.out.mono ?_
 rintro e9 v9 ⟨rfl,hv9⟩
 have H9:=hid hv9
 clear hv9
 go_wp2
 go_end0
 exact⟨rfl,vz,A0.out.trans AZ.out,H9.out⟩
end Rn
end
section
open Go.RowKit Go.Deep
namespace Rn
open Sh
theorem fall_no1(pw:Option Addr)(lw cw:Nat)(s:Int)(pr:Option Addr)(lr cr:Nat)(st:Int)(w:World)(h1:decide (st<0)=true):
  Calls prog 46 #[.slice pw lw cw,.int .i64 s,.slice pr lr cr,.int .i64 st] w fun e w'=>e=.returned (.tuple #[.slice none 0 0,.int .i64 0,.int .i64 1])/\Below w.heap.size w w':=by
 obtain⟨A0,R0⟩:=aL w (.cells #[.int .i64 s] 2)
 go_enter func46,ntmps46
 go_upto_region 1 with fail
 generalize hW:World.alloc w _=V0 at*
 obtain⟨gs,hgs⟩:=aB w.heap.size
 have HG:=hid hgs
 rw[hgs]at R0 ⊢
 clear hgs hW
 have x0:=aA 0 R0.out
 go_wp2
 go_ret3
 exact⟨rfl,by exact A0.out⟩
theorem fall_no2(pw:Option Addr)(lw cw:Nat)(s:Int)(pr:Option Addr)(lr cr:Nat)(st:Int)(w:World)(h1:decide (st<0)=false)(h2:dC s=true):
  Calls prog 46 #[.slice pw lw cw,.int .i64 s,.slice pr lr cr,.int .i64 st] w fun e w'=>e=.returned (.tuple #[.slice none 0 0,.int .i64 0,.int .i64 1])/\Below w.heap.size w w':=by
 have H2:=hid h2
 clear h2
 obtain⟨A0,R0⟩:=aL w (.cells #[.int .i64 s] 2)
 go_enter func46,ntmps46
 go_upto_region 1 with fail
 generalize hW:World.alloc w _=V0 at*
 obtain⟨gs,hgs⟩:=aB w.heap.size
 have HG:=hid hgs
 rw[hgs]at R0 ⊢
 clear hgs hW
 have x0:=aA 0 R0.out
 have CC:=hid (lU s V0)
 rw[H2.out]at CC
 go_wp2_with fail
 refine CC.out.mono ?_
 rintro e9 v9 ⟨rfl,hv9⟩
 have hv8:=hv9.symm
 subst hv8
 clear CC
 go_wp2
 go_ret3
 exact⟨rfl,by exact A0.out⟩
theorem fall_no3(pw:Option Addr)(lw cw:Nat)(W:Nat->Int)(s:Int)(pr:Option Addr)(lr cr:Nat)(st:Int)(w:World)(h1:decide (st<0)=false)(h2:dC s=false)(hlw:lw<=17592186044416)(IW:Hid (IsI w pw lw W))(HB:Hid (¬ ∀i,i<lw->dC (W i)=false)):
  Calls prog 46 #[.slice pw lw cw,.int .i64 s,.slice pr lr cr,.int .i64 st] w fun e w'=>e=.returned (.tuple #[.slice none 0 0,.int .i64 0,.int .i64 1])/\Below w.heap.size w w':=by
 have H2:=hid h2
 have HLW:=hid hlw
 clear h2 hlw
 obtain⟨A0,R0⟩:=aL w (.cells #[.int .i64 s] 2)
 go_enter func46,ntmps46
 go_upto_region 1 with fail
 generalize hW:World.alloc w _=V0 at*
 obtain⟨gs,hgs⟩:=aB w.heap.size
 have HG:=hid hgs
 rw[hgs]at R0 ⊢
 clear hgs hW
 have x0:=aA 0 R0.out
 have CO:=hid (lU s V0)
 rw[H2.out]at CO
 have CC:=hid (CO.out)
 go_wp2_with fail
 refine CC.out.mono ?_
 rintro e9 v9 ⟨rfl,hv9⟩
 have hv8:=hv9.symm
 subst hv8
 clear CC
 have CC:=hid (Bp pw lw cw W V0 HLW.out (IW.out.below A0.out) HB.out)
 go_wp2_with fail
 refine CC.out.mono ?_
 rintro e9 v9 ⟨rfl,hv9⟩
 have hv8:=hv9.symm
 subst hv8
 clear CC
 go_wp2
 go_ret3
 exact⟨rfl,by exact A0.out⟩
theorem fall_no4(pw:Option Addr)(lw cw:Nat)(W:Nat->Int)(s:Int)(pr:Option Addr)(lr cr:Nat)(R:Nat->Int × Int × Int × Int)(st:Int)(w:World)(h1:decide (st<0)=false)(h2:dC s=false)(hlw:lw<=17592186044416)(IW:Hid (IsI w pw lw W))(IR:Hid (IsRn w pr lr R))(HW:Hid (∀i,i<lw->dC (W i)=false))(HB:Hid (1024<lr\/ ¬ ∀k,k<lr->vB (lw:Nat) (R k)=true)):
  Calls prog 46 #[.slice pw lw cw,.int .i64 s,.slice pr lr cr,.int .i64 st] w fun e w'=>e=.returned (.tuple #[.slice none 0 0,.int .i64 0,.int .i64 1])/\Below w.heap.size w w':=by
 have H2:=hid h2
 have HLW:=hid hlw
 clear h2 hlw
 obtain⟨A0,R0⟩:=aL w (.cells #[.int .i64 s] 2)
 have CA:Hid (∀v,Ab w v->Calls prog 82 #[.int .i64 (lw:Nat),.slice pr lr cr] v fun e w'=>e=.returned (.bool false)/\Below v.heap.size v w'):=fun v a=>by
  by_cases h:1024<lr
  ·exact Fb lw pr lr cr v (decide_eq_true (by omega))
  ·exact allv_no lw pr lr cr R v (by omega) (IR.out.below a) (HB.out.resolve_left h)
 go_enter func46,ntmps46
 go_upto_region 1 with fail
 generalize hW:World.alloc w _=V0 at*
 obtain⟨gs,hgs⟩:=aB w.heap.size
 have HG:=hid hgs
 rw[hgs]at R0 ⊢
 clear hgs hW
 have x0:=aA 0 R0.out
 have CO:=hid (lU s V0)
 rw[H2.out]at CO
 have CC:=hid (CO.out)
 go_wp2_with fail
 refine CC.out.mono ?_
 rintro e9 v9 ⟨rfl,hv9⟩
 have hv8:=hv9.symm
 subst hv8
 clear CC
 have CC:=hid (oJ pw lw cw W V0 HLW.out (IW.out.below A0.out) HW.out)
 go_wp2_with fail
 refine CC.out.mono ?_
 rintro e9 v9 ⟨rfl,hv9⟩
 have hv8:=hv9.symm
 subst hv8
 clear CC
 have CC:=hid (CA.out V0 A0.out)
 go_wp2_with fail
 refine CC.out.mono ?_
 rintro e9 V1 ⟨rfl,b1⟩
 have A1:Hid (Ab V0 V1):=b1
 clear CC b1
 go_wp2
 go_ret3
 exact⟨rfl,by exact A0.out.trans A1.out⟩
end Rn
end
section
open Go.RowKit Go.Deep
namespace Rn
open Sh
theorem fall_go(pw:Option Addr)(lw cw:Nat)(W:Nat->Int)(s:Int)(pr:Option Addr)(lr cr:Nat)(R:Nat->Int × Int × Int × Int)(st:Int)(w:World)(h1:decide (st<0)=false)(h2:dC s=false)(hlr:lr<=1024)(hlw:lw<=17592186044416)(IW:Hid (IsI w pw lw W))(IR:Hid (IsRn w pr lr R))(HW:Hid (∀i,i<lw->dC (W i)=false))(HV:Hid (∀k,k<lr->vB (lw:Nat) (R k)=true))(HX:Hid (∀k,k<=lr->(∀i,i<lw->0<=(rnN st R (W,s) k).1 i/\(rnN st R (W,s) k).1 i<=4616189618054758400)/\0<=(rnN st R (W,s) k).2/\(rnN st R (W,s) k).2<=4616189618054758400))(h0:0<lw):
  Calls prog 46 #[.slice pw lw cw,.int .i64 s,.slice pr lr cr,.int .i64 st] w fun e w'=> ∃v,e=.returned (.tuple #[v,.int .i64 (rnN st R (W,s) lr).2,.int .i64 0])/\Below w.heap.size w w'/\Sh.Own w.heap.size v ((List.range lw).map (rnN st R (W,s) lr).1) w':=by
 have H2:=hid h2
 have HLW:=hid hlw
 clear h2 hlw
 have hmf: ∀(fn:Fn) (first cap:Array Value) (w:World),(Instr.makeFunc fn first cap).run prog w=.ok (.func fn first cap) w:=fun _ _ _ _=>rfl
 obtain⟨A0,R0⟩:=aL w (.cells #[.int .i64 s] 2)
 have CA:Hid (∀v,Ab w v->Calls prog 82 #[.int .i64 (lw:Nat),.slice pr lr cr] v fun e w'=>e=.returned (.bool true)/\Below v.heap.size v w'):=fun v a=>yY lw pr lr cr R v hlr (IR.out.below a) HV
 have HLR:=hid hlr
 clear hlr
 go_enter func46,ntmps46
 go_upto_region 1 with fail
 generalize hW:World.alloc w _=V0 at*
 obtain⟨gs,hgs⟩:=aB w.heap.size
 have HG:=hid hgs
 rw[hgs]at R0 ⊢
 clear hgs hW
 have x0:=aA 0 R0.out
 have CO:=hid (lU s V0)
 rw[H2.out]at CO
 have CC:=hid (CO.out)
 go_wp2_with fail
 refine CC.out.mono ?_
 rintro e9 v9 ⟨rfl,hv9⟩
 have hv8:=hv9.symm
 subst hv8
 clear CC
 have CC:=hid (oJ pw lw cw W V0 HLW.out (IW.out.below A0.out) HW.out)
 go_wp2_with fail
 refine CC.out.mono ?_
 rintro e9 v9 ⟨rfl,hv9⟩
 have hv8:=hv9.symm
 subst hv8
 clear CC
 have CC:=hid (CA.out V0 A0.out)
 go_wp2_with fail
 refine CC.out.mono ?_
 rintro e9 V1 ⟨rfl,b1⟩
 have A1:Hid (Ab V0 V1):=b1
 clear CC b1
 have R1:=hid (Ab.heap A1.out R0.out)
 have CC:=hid (sV pw lw cw W V1 HLW.out (IW.out.below (A0.out.trans A1.out)))
 go_wp2_with fail
 refine CC.out.mono ?_
 rintro e9 V2 ⟨hv,rfl,b2,o2⟩
 have A2:Hid (Ab V1 V2):=b2
 have O2:=hid o2
 have R2:=hid (Ab.heap A2.out R1.out)
 clear CC b2 o2 x0
 obtain⟨og,oc,F2,rfl,hog,hoc,hom,row,hF⟩:=EY O2.out h0
 have ogl:og<V2.heap.size:=row.lt
 go_upto_region 5 with fail
 obtain⟨A3,H3,M3⟩:=cA V2 (.cells #[.slice (some ⟨og,0,none⟩) lw oc] 46) (.cells #[.func (.func 84) #[] #[.pointer (some ⟨V2.heap.size,0,none⟩),.pointer (some ⟨gs,0,none⟩)]] 143)
 generalize hW:World.alloc (World.alloc V2 _) _=V3 at*
 have gsl:gs<V1.heap.size:=by
  have:=Below.size A0.out
  have e1:gs<V0.heap.size:=by
   rcases Nat.lt_or_ge gs V0.heap.size with h | h
   ·exact h
   ·have:=R0.out;rw[Array.getElem?_eq_none h]at this;cases this
  exact Nat.lt_of_lt_of_le e1 A1.out.size
 have DI:Hid (zV gs V2.heap.size (V2.heap.size+1) og):=⟨by omega,by omega,by omega,by omega,by omega⟩
 have AT:Hid (jO gs V2.heap.size (V2.heap.size+1) og oc lw 143 s W V3):=⟨Ab.heap A3.out R2.out,H3.out,M3.out,F2,cP row A3.out,hF⟩
 have AW:Hid (Ab w V3):=A0.out.trans (A1.out.trans (A2.out.trans A3.out))
 have BG:Hid (gs<=og/\lw<=oc/\oc<=maxLen):=⟨by omega,hoc,hom⟩
 have H0:=hid h0
 obtain⟨gh,hgh⟩:=aB V2.heap.size
 rw[hgh]at DI AT ⊢
 obtain⟨gm,hgm⟩:=aB (gh+1)
 rw[hgm]at DI AT ⊢
 clear hgh hgm hW H3 M3 A3 A0 A1 A2 R0 R1 R2 O2 row hF hog hoc hom ogl gsl CO CA h0
 go_wp2
 go_loopw [41] (fun iv wz=> ∃c:Nat,c<=lr/\iv=.int .i64 (c:Nat)/\Ab w wz/\jO gs gh gm og oc lw 143 (rnN st R (W,s) c).2 (rnN st R (W,s) c).1 wz) (fun iv _=>lr - (intOf iv).toNat)
 case atStart=>exact⟨0,by omega,rfl,AW.out,AT.out⟩
 case round=>
  obtain⟨c,hc,rfl,ar,ow⟩:=hrel
  have AQ:=hid ar
  have OZ:=hid ow
  clear ar ow AW AT
  obtain⟨sk,hsk⟩:=aB ((rnN st R (W,s) c).2)
  have SK:=hid hsk
  have hb:=HX.out c hc
  rw[hsk]at hb OZ
  have s1:=hb.2.1
  have s2:=hb.2.2
  have XB:=hid hb.1
  clear hsk hb
  by_cases hcn:c<lr
  ·have HC:=hid hcn
   have hcI:(c:Int)<lr:=by omega
   have hcB:(c:Int)<=1024:=by have:=HLR.out;omega
   obtain⟨rb,ro,rfl⟩:=IR.out.some0 (show 0<lr by omega)
   obtain⟨r1,r2,r3,r4,hr⟩: ∃a b c' d,R c=(a,b,c',d):=⟨_,_,_,_,rfl⟩
   have at0:=((IR.out.below AQ.out).at0 hcn)
   rw[hr]at at0
   have y0:=at0.2.2.1
   have y1:=at0.2.2.2.1
   have y2:=at0.2.2.2.2.1
   have y3:=at0.2.2.2.2.2
   have RE:=hid hr
   clear at0 hr hcn hc
   have ok:=Bj.1 (HV.out c HC.out)
   rw[RE.out]at ok
   obtain⟨k,rfl⟩: ∃k:Nat,r1=(k:Nat):=⟨r1.toNat,by have:=ok.1;omega⟩
   have hk:k<lw:=by have:=ok.2.1;dsimp only at this;omega
   have HK:=hid hk
   have ra1:=ok.2.2.1
   have ra2:=ok.2.2.2.1
   dsimp only at ra1 ra2
   obtain⟨x,hx⟩:=aB ((rnN st R (W,s) c).1 k)
   have xb:=XB.out k hk
   rw[hx]at xb
   have xb1:=xb.1
   have xb2:=xb.2
   have XE:=hid hx
   clear hx xb ok hk
   obtain⟨gz,hgz⟩:=aB wr.heap.size
   go_upto_region 10 with fail
   have AL:=jP (bl1 wr (.cells #[.int .i64 (k:Nat),.int .i64 r2,.int .i64 r3,.int .i64 r4] 145))
   have RZ:Hid ((wr.alloc (.cells #[.int .i64 (k:Nat),.int .i64 r2,.int .i64 r3,.int .i64 r4] 145)).heap[gz]? =some (.cells #[.int .i64 (k:Nat),.int .i64 r2,.int .i64 r3,.int .i64 r4] 145)):=by rw[<- hgz];exact heap_alloc_new _ _
   generalize hW:World.alloc wr _=V4 at*
   clear hW hgz y0 y1 y2 y3
   have x0:=aA 0 RZ.out
   have x1:=aA 1 RZ.out
   have x2:=aA 2 RZ.out
   have x3:=aA 3 RZ.out
   have CF:=hid (falls_at (k:Nat) r2 r3 r4 st V4)
   have FE:Hid (fallB st ((k:Nat),r2,r3,r4)=(decide (r3<=st)&&decide (st<r4))):=rfl
   cases fb:fallB st ((k:Nat),r2,r3,r4)with
   | false=>
    have NX:Hid (rnN st R (W,s) (c+1)=rnN st R (W,s) c):=rn_skip RE.out (by
     rw[FE.out]at fb
     rcases Bool.and_eq_false_iff.1 fb with h | h
     ·have:=of_decide_eq_false h;exact .inl (by omega)
     ·have:=of_decide_eq_false h;exact .inr (by omega))
    rw[fb]at CF
    clear fb FE
    go_wp2_with fail
    refine CF.out.mono ?_
    rintro e9 V5 ⟨rfl,b5⟩
    have A5:Hid (Ab wr V5):=AL.out.trans b5
    clear b5
    go_wp2
    exact⟨⟨c+1,by have:=HC.out;omega,by simp,AQ.out.trans A5.out,by rw[NX.out,SK.out];exact OZ.out.to A5.out⟩,by have:=HC.out;simp[intOf];omega⟩
   | true=>
    have fb2:=fb
    rw[FE.out,Bool.and_eq_true,decide_eq_true_eq,decide_eq_true_eq]at fb2
    have NF:=hid (rn_fall RE.out (show¬st<r3 by omega) (show¬r4<=st by omega) SK.out XE.out)
    rw[fb]at CF
    clear fb fb2 FE
    have dI:=dn_in (a:=r2) s1 xb1
    have dB:=dn_bd (a:=r2) (m:=4503599627370496) s1 xb1 ⟨ra1,ra2⟩
    obtain⟨d,hd⟩:=aB (dn r2 sk x)
    rw[hd]at dI dB NF
    have DE:=hid hd
    have d1:=dI.1
    have d2:=dI.2
    have d3:=dB.1
    have d4:=dB.2
    clear hd dI dB
    go_wp2_with fail
    refine CF.out.mono ?_
    rintro e9 V5 ⟨rfl,b5⟩
    have A5:Hid (Ab wr V5):=AL.out.trans b5
    have R5:=hid (Ab.heap b5 RZ.out)
    clear b5 x0 x1 x2 x3
    have x0:=aA 0 R5.out
    have x1:=aA 1 R5.out
    have x2:=aA 2 R5.out
    have x3:=aA 3 R5.out
    have O5:=hid (OZ.out.to A5.out)
    by_cases f3:0<r2
    ·have e3:decide (0<r2)=true:=decide_eq_true f3
     have dq:(if sk<r2 then sk else r2)=d:=by
      rw[<- DE.out]
      unfold dn
      rw[if_neg (show¬r2<0 by omega)]
     have CG:=hid (fall18 gs gh gm og oc lw k 143 sk x d r2 r3 r4 _ V5 O5.out DI.out BG.out.2.1 HLW.out HK.out XE.out dq (by omega) (by omega) (by omega) (by omega))
     clear dq f3
     go_wp2_with fail
     refine CG.out.mono ?_
     rintro e8 V6 ⟨rfl,u6,a6,hv6⟩
     have A6:=hid a6
     have E6:=hid hv6
     clear a6 hv6 CG
     go_wp2
     refine⟨⟨c+1,by have:=HC.out;omega,by simp,?_,?_⟩,by have:=HC.out;simp[intOf];omega⟩
     ·rw[E6.out]
      exact mov_ab (AQ.out.trans (A5.out.trans A6.out)) (Nat.le_of_eq HG.out) (by rw[HG.out];exact BG.out.1)
     ·rw[E6.out,NF.out.1]
      exact((O5.out.to A6.out).mov DI.out k _ _).congr (fun i _=>(NF.out.2 i).symm)
    ·have e3:decide (0<r2)=false:=decide_eq_false f3
     by_cases f4:r2<0
     ·have e4:decide (r2<0)=true:=decide_eq_true f4
      obtain⟨q,hq⟩:=aB ((if x< -r2 then x else -r2))
      have dq:d= -q:=by
       rw[<- DE.out,<- hq]
       unfold dn
       rw[if_pos f4]
      have CG:=hid (up18 gs gh gm og oc lw k 143 sk x q r2 r3 r4 _ V5 O5.out DI.out BG.out.2.1 HLW.out HK.out XE.out hq (by omega) (by omega) (by omega) (by omega) (by omega) (by omega) (by omega) (by omega))
      clear hq f3 f4
      go_wp2_with fail
      refine CG.out.mono ?_
      rintro e8 V6 ⟨rfl,u6,a6,hv6⟩
      have A6:=hid a6
      have E6:=hid hv6
      clear a6 hv6 CG
      go_wp2
      refine⟨⟨c+1,by have:=HC.out;omega,by simp,?_,?_⟩,by have:=HC.out;simp[intOf];omega⟩
      ·rw[E6.out]
       exact mov_ab (AQ.out.trans (A5.out.trans A6.out)) (Nat.le_of_eq HG.out) (by rw[HG.out];exact BG.out.1)
      ·rw[E6.out,NF.out.1,dq]
       exact((O5.out.to A6.out).mov DI.out k _ _).congr (fun i _=>by rw[<- dq];exact(NF.out.2 i).symm)
     ·have e4:decide (r2<0)=false:=decide_eq_false f4
      have r20:r2=0:=by omega
      have d0:d=0:=by
       rw[<- DE.out,r20]
       unfold dn
       rw[if_neg (by decide)]
       split<;>omega
      clear f3 f4 r20
      go_wp2
      refine⟨⟨c+1,by have:=HC.out;omega,by simp,AQ.out.trans A5.out,?_⟩,by have:=HC.out;simp[intOf];omega⟩
      rw[NF.out.1,d0,Int.sub_zero]
      refine O5.out.congr (fun i _=> ?_)
      rw[NF.out.2 i,d0]
      by_cases e:i=k
      ·rw[if_pos e,e,XE.out]
       omega
      ·rw[if_neg e]
  ·have e6:lr=c:=by omega
   subst e6
   have x0:=aA 0 OZ.out.1
   have x1:=aA 0 OZ.out.2.1
   go_wp2
   go_region
   go_wp2
   go_ret3
   obtain⟨-,-,-,F9,r9,f9⟩:=OZ.out
   exact⟨_,by rw[SK.out];rfl,by exact AQ.out.drew,by rw[HG.out];exact E0 r9.drew BG.out.1 BG.out.2.1 BG.out.2.2 f9⟩
theorem fall_go0(pw:Option Addr)(lw cw:Nat)(W:Nat->Int)(s:Int)(pr:Option Addr)(lr cr:Nat)(R:Nat->Int × Int × Int × Int)(st:Int)(w:World)(h1:decide (st<0)=false)(h2:dC s=false)(hlr:lr<=1024)(hlw:lw<=17592186044416)(IW:Hid (IsI w pw lw W))(IR:Hid (IsRn w pr lr R))(HW:Hid (∀i,i<lw->dC (W i)=false))(HV:Hid (∀k,k<lr->vB (lw:Nat) (R k)=true))(HZ:Hid (lw=0))(HY:Hid (lr=0)):
  Calls prog 46 #[.slice pw lw cw,.int .i64 s,.slice pr lr cr,.int .i64 st] w fun e w'=> ∃v,e=.returned (.tuple #[v,.int .i64 (rnN st R (W,s) lr).2,.int .i64 0])/\Below w.heap.size w w'/\Sh.Own w.heap.size v ((List.range lw).map (rnN st R (W,s) lr).1) w':=by
 have H2:=hid h2
 have HLW:=hid hlw
 clear h2 hlw
 have hmf: ∀(fn:Fn) (first cap:Array Value) (w:World),(Instr.makeFunc fn first cap).run prog w=.ok (.func fn first cap) w:=fun _ _ _ _=>rfl
 obtain⟨A0,R0⟩:=aL w (.cells #[.int .i64 s] 2)
 have CA:Hid (∀v,Ab w v->Calls prog 82 #[.int .i64 (lw:Nat),.slice pr lr cr] v fun e w'=>e=.returned (.bool true)/\Below v.heap.size v w'):=fun v a=>yY lw pr lr cr R v hlr (IR.out.below a) HV
 have HLR:=hid hlr
 clear hlr
 go_enter func46,ntmps46
 go_upto_region 1 with fail
 generalize hW:World.alloc w _=V0 at*
 obtain⟨gs,hgs⟩:=aB w.heap.size
 have HG:=hid hgs
 rw[hgs]at R0 ⊢
 clear hgs hW
 have x0:=aA 0 R0.out
 have CO:=hid (lU s V0)
 rw[H2.out]at CO
 have CC:=hid (CO.out)
 go_wp2_with fail
 refine CC.out.mono ?_
 rintro e9 v9 ⟨rfl,hv9⟩
 have hv8:=hv9.symm
 subst hv8
 clear CC
 have CC:=hid (oJ pw lw cw W V0 HLW.out (IW.out.below A0.out) HW.out)
 go_wp2_with fail
 refine CC.out.mono ?_
 rintro e9 v9 ⟨rfl,hv9⟩
 have hv8:=hv9.symm
 subst hv8
 clear CC
 have CC:=hid (CA.out V0 A0.out)
 go_wp2_with fail
 refine CC.out.mono ?_
 rintro e9 V1 ⟨rfl,b1⟩
 have A1:Hid (Ab V0 V1):=b1
 clear CC b1
 have R1:=hid (Ab.heap A1.out R0.out)
 have CC:=hid (sV pw lw cw W V1 HLW.out (IW.out.below (A0.out.trans A1.out)))
 go_wp2_with fail
 refine CC.out.mono ?_
 rintro e9 V2 ⟨hv,rfl,b2,o2⟩
 have A2:Hid (Ab V1 V2):=b2
 have O2:=hid o2
 have R2:=hid (Ab.heap A2.out R1.out)
 clear CC b2 o2 x0
 obtain⟨oa,oc,he⟩: ∃a0 cap,hv=.slice a0 lw cap:=by
  rcases O2.out.2 with⟨q,h0⟩ | ⟨g,cap,cur,q,_⟩
  ·refine⟨none,0,?_⟩
   rw[q]
   simp at h0
   rw[h0]
  ·refine⟨some ⟨g,0,none⟩,cap,?_⟩
   rw[q]
   simp
 subst he
 go_upto_region 5 with fail
 obtain⟨A3,H3,M3⟩:=cA V2 (.cells #[.slice oa lw oc] 46) (.cells #[.func (.func 84) #[] #[.pointer (some ⟨V2.heap.size,0,none⟩),.pointer (some ⟨gs,0,none⟩)]] 143)
 generalize hW:World.alloc (World.alloc V2 _) _=V3 at*
 have AW:Hid (Ab w V3):=A0.out.trans (A1.out.trans (A2.out.trans A3.out))
 have O3:=hid (O2.out.to A3.out)
 have R3:=hid (Ab.heap A3.out R2.out)
 have B1:Hid (w.heap.size<=V1.heap.size):=(A0.out.trans A1.out).size
 obtain⟨gh,hgh⟩:=aB V2.heap.size
 rw[hgh]at H3 ⊢
 have x0:=aA 0 R3.out
 have x1:=aA 0 H3.out
 have h00:=HY.out
 subst h00
 clear hgh hW M3 A3 A0 A1 A2 R0 R1 R2 O2 CO CA HY
 go_wp2
 go_loopw [41] (fun iv wz=>iv=.int .i64 0/\wz=V3) (fun _ _=>0)
 case atStart=>exact⟨rfl,rfl⟩
 case round=>
  obtain⟨rfl,hwr⟩:=hrel
  have hw2:=hwr.symm
  subst hw2
  go_wp2
  go_region
  go_wp2
  go_ret3
  refine⟨_,rfl,by exact AW.out.drew,?_⟩
  have o:=O3.out
  rw[HZ.out]at o ⊢
  rcases o.2 with⟨q,e⟩ | ⟨g,cap,cur,q,hb,rest⟩
  ·exact⟨o.1,.inl ⟨q,e⟩⟩
  ·exact⟨o.1,.inr ⟨g,cap,cur,q,Nat.le_trans B1.out hb,rest⟩⟩
theorem fallC:FallC:=fun pw lw cw W s pr lr cr R st w _ _ hlw hlr iw ir=>by
 by_cases h1:st<0
 ·exact⟨fun g=>absurd g.1 (by omega),fun _=>fall_no1 pw lw cw s pr lr cr st w (decide_eq_true h1)⟩
 ·cases h2:dC s with
  | true=>exact⟨fun g=>absurd (qG.2 g.2.1) (by rw[h2];decide),fun _=>fall_no2 pw lw cw s pr lr cr st w (decide_eq_false h1) h2⟩
  | false=>
   by_cases h5: ∀i,i<lw->dC (W i)=false
   ·by_cases h6:1024<lr\/ ¬ ∀k,k<lr->vB (lw:Nat) (R k)=true
    ·refine⟨fun g=> ?_,fun _=>fall_no4 pw lw cw W s pr lr cr R st w (decide_eq_false h1) h2 hlw iw ir h5 h6⟩
     rcases h6 with h | h
     ·exact absurd g.2.2.1 (by omega)
     ·exact absurd (fun k hk=>Bj.2 (g.2.2.2.2 k hk)) h
    ·have h7:lr<=1024:=by
      rcases Nat.lt_or_ge 1024 lr with h | h
      ·exact absurd (.inl h) h6
      ·exact h
     have h8: ∀k,k<lr->vB (lw:Nat) (R k)=true:=Classical.byContradiction fun h=>h6 (.inr h)
     have g:rO lw W s lr R st:=⟨by omega,qG.1 h2,h7,fun i hi=>qG.1 (h5 i hi),fun k hk=>Bj.1 (h8 k hk)⟩
     refine⟨fun _=> ?_,fun n=>absurd g n⟩
     rcases Nat.eq_zero_or_pos lw with h0 | h0
     ·refine fall_go0 pw lw cw W s pr lr cr R st w (decide_eq_false h1) h2 h7 hlw iw ir h5 h8 h0 ?_
      rcases Nat.eq_zero_or_pos lr with h | h
      ·exact h
      ·have:=g.2.2.2.2 0 h
       have a:=this.1
       have b:=this.2.1
       omega
     ·exact fall_go pw lw cw W s pr lr cr R st w (decide_eq_false h1) h2 h7 hlw iw ir h5 h8 (fun k hk=>Ez ⟨g.1,g.2.1,by omega,g.2.2.2.1,fun j hj=>g.2.2.2.2 j (by omega)⟩) h0
   ·exact⟨fun g=>absurd (fun i hi=>qG.2 (g.2.2.2.1 i hi)) h5,fun _=>fall_no3 pw lw cw W s pr lr cr st w (decide_eq_false h1) h2 hlw iw h5⟩
end Rn
end
end Go.Proofs.YtmhnilnaffjhmaaGreatDoor
