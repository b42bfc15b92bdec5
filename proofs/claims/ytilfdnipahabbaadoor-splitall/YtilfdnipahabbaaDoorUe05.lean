/-
  Some of the texts of this proof, one behind the other.
-/
import Derived.Deep.OwnRows
import Derived.Laws.OwnMore
import Derived.Test.YtilfdnipahabbaaDoorUe04
set_option maxRecDepth 100000
set_option maxHeartbeats 400000000
namespace Go.Proofs.YtilfdnipahabbaaDoor
open _root_.Go.Proofs.Tryd
section
open Go.RowKit Cu Tf
attribute [local go_sem] aG
theorem info64:(Tryd.prog.info? 2).map (fun i=>(i.zero,i.size,i.bytes))=some (some (.int .i64 0),1,8):=by kernel_rfl
theorem iU:(Tryd.prog.info? 66).map (fun i=>(i.zero,i.size,i.bytes))=some (some (.float .f64 0),1,8):=by kernel_rfl
theorem infoTwo:(Tryd.prog.info? 63).map (fun i=>(i.zero,i.size,i.bytes))=some (some (.agg #[.int .i64 0,.int .i64 0]),2,16):=by kernel_rfl
theorem rowIs.ab{w w':World}{b:Nat}{t:TypeId}{n:Nat}{f:Nat->Value}(h:w.rowIs b t n f)(a:Ab w w'):w'.rowIs b t n f:=h.of_block (Below.block a _ h.lt)
theorem nU(N gb:Nat)(f:Nat->Int)(w:World)(hN:(N:Int)<=12288)
  (H:Hid (∀k:Nat,k<N-> ∀w',Ab w w'->Calls prog 21 #[.pointer (some ⟨gb,0,none⟩),.int .i64 k] w' fun e w''=>e=.returned (.int .i64 (f k))/\Below w'.heap.size w' w'')):
  Calls prog 20 #[.int .i64 N,.func (.func 21) #[.pointer (some ⟨gb,0,none⟩)] #[]] w fun e w'=>e=.returned (.slice (some ⟨w.heap.size,0,none⟩) N N)/\Below w.heap.size w w'/\w'.rowIs w.heap.size 2 N (fun k=>.int .i64 (f k)):=by
 have MK:=run_make_row' (P:=prog) 43 2 (.int .i64 (0)) 8 underlying43 info64 rfl .i64 .i64 N (by omega) (by omega) w
 obtain⟨ob,hob⟩:=aC w.heap.size
 have RW:Hid ((w.alloc (.cells (madeCells #[.int .i64 (0)] N) 2)).rowIs ob 2 N (fun _=>.int .i64 (0))):=by rw[<- hob];exact World.rowIs_made _ _ _ _
 have A0:Hid (Ab w (w.alloc (.cells (madeCells #[.int .i64 (0)] N) 2))):=bl1 w _
 have HO:Hid (w.heap.size<=ob):=Nat.le_of_eq hob
 generalize w.alloc (.cells (madeCells #[.int .i64 (0)] N) 2)=wm at*
 go_enter func20,ntmps20
 go_wp2
 have HB:=hid hob
 clear MK hob
 go_loopw [11] (fun iv wr=> ∃k:Nat,k<=N/\iv=.int .i64 (k:Nat)/\Ab w wr/\wr.rowIs ob 2 N (fun j=>if j<k then .int .i64 (f j)else .int .i64 (0))) (fun iv _=>N - (intOf iv).toNat)
 case atStart=>exact⟨0,by omega,rfl,A0.out,RW.out.congr (fun i _=>by simp)⟩
 case round=>
  obtain⟨k,hk,rfl,A,R⟩:=hrel
  have A1:=hid A
  have R1:=hid R
  clear A R A0 RW
  by_cases hkN:k<N
  ·have hkN':(k:Int)<N:=by omega
   have C:=hid (H.out k hkN wr A1.out)
   have HK:=hid hkN
   go_wp2_with fail
   refine C.out.mono ?_
   rintro e w1 ⟨rfl,b1⟩
   have A2:Hid (Ab w w1):=A1.out.call b1
   have R2:=hid (rowIs.ab R1.out b1)
   have x1:=R2.out.cell hkN
   have x2:=R2.out.frozen k
   clear b1 C A1 R1 hkN
   go_wp2
   go_roundw
   case rel=>
    refine⟨k+1,by omega,by simp,Ab.setk A2.out HO.out _,(R2.out.set k (.int .i64 (f k))).congr (fun i _=> ?_)⟩
    by_cases e:i=k
    ·subst e;simp
    ·have e2:(i<k+1) ↔ i<k:=by omega
     simp[e,e2]
   case measure=>have:=HK.out;simp[intOf];omega
  ·obtain rfl:k=N:=by omega
   go_wp2
   go_ret
   rw[HB.out]
   exact⟨rfl,by have h:=A1.out;unfold Ab at h;rw[HB.out]at h;exact h,R1.out.congr (fun i hi=>by simp[hi])⟩
theorem pN(N gb:Nat)(f:Nat->Nat)(w:World)(hN:(N:Int)<=12288)
  (H:Hid (∀k:Nat,k<N-> ∀w',Ab w w'->Calls prog 25 #[.pointer (some ⟨gb,0,none⟩),.int .i64 k] w' fun e w''=>e=.returned (.float .f64 (f k))/\Below w'.heap.size w' w'')):
  Calls prog 24 #[.int .i64 N,.func (.func 25) #[.pointer (some ⟨gb,0,none⟩)] #[]] w fun e w'=>e=.returned (.slice (some ⟨w.heap.size,0,none⟩) N N)/\Below w.heap.size w w'/\w'.rowIs w.heap.size 66 N (fun k=>.float .f64 (f k)):=by
 have MK:=run_make_row' (P:=prog) 42 66 (.float .f64 (0)) 8 underlying42 iU rfl .i64 .i64 N (by omega) (by omega) w
 obtain⟨ob,hob⟩:=aC w.heap.size
 have RW:Hid ((w.alloc (.cells (madeCells #[.float .f64 (0)] N) 66)).rowIs ob 66 N (fun _=>.float .f64 (0))):=by rw[<- hob];exact World.rowIs_made _ _ _ _
 have A0:Hid (Ab w (w.alloc (.cells (madeCells #[.float .f64 (0)] N) 66))):=bl1 w _
 have HO:Hid (w.heap.size<=ob):=Nat.le_of_eq hob
 generalize w.alloc (.cells (madeCells #[.float .f64 (0)] N) 66)=wm at*
 go_enter func24,ntmps24
 go_wp2
 have HB:=hid hob
 clear MK hob
 go_loopw [11] (fun iv wr=> ∃k:Nat,k<=N/\iv=.int .i64 (k:Nat)/\Ab w wr/\wr.rowIs ob 66 N (fun j=>if j<k then .float .f64 (f j)else .float .f64 (0))) (fun iv _=>N - (intOf iv).toNat)
 case atStart=>exact⟨0,by omega,rfl,A0.out,RW.out.congr (fun i _=>by simp)⟩
 case round=>
  obtain⟨k,hk,rfl,A,R⟩:=hrel
  have A1:=hid A
  have R1:=hid R
  clear A R A0 RW
  by_cases hkN:k<N
  ·have hkN':(k:Int)<N:=by omega
   have C:=hid (H.out k hkN wr A1.out)
   have HK:=hid hkN
   go_wp2_with fail
   refine C.out.mono ?_
   rintro e w1 ⟨rfl,b1⟩
   have A2:Hid (Ab w w1):=A1.out.call b1
   have R2:=hid (rowIs.ab R1.out b1)
   have x1:=R2.out.cell hkN
   have x2:=R2.out.frozen k
   clear b1 C A1 R1 hkN
   go_wp2
   go_roundw
   case rel=>
    refine⟨k+1,by omega,by simp,Ab.setk A2.out HO.out _,(R2.out.set k (.float .f64 (f k))).congr (fun i _=> ?_)⟩
    by_cases e:i=k
    ·subst e;simp
    ·have e2:(i<k+1) ↔ i<k:=by omega
     simp[e,e2]
   case measure=>have:=HK.out;simp[intOf];omega
  ·obtain rfl:k=N:=by omega
   go_wp2
   go_ret
   rw[HB.out]
   exact⟨rfl,by have h:=A1.out;unfold Ab at h;rw[HB.out]at h;exact h,R1.out.congr (fun i hi=>by simp[hi])⟩
theorem pO(N gb:Nat)(f:Nat->Nat)(w:World)(hN:(N:Int)<=12288)
  (H:Hid (∀k:Nat,k<N-> ∀w',Ab w w'->Calls prog 26 #[.pointer (some ⟨gb,0,none⟩),.int .i64 k] w' fun e w''=>e=.returned (.float .f64 (f k))/\Below w'.heap.size w' w'')):
  Calls prog 24 #[.int .i64 N,.func (.func 26) #[.pointer (some ⟨gb,0,none⟩)] #[]] w fun e w'=>e=.returned (.slice (some ⟨w.heap.size,0,none⟩) N N)/\Below w.heap.size w w'/\w'.rowIs w.heap.size 66 N (fun k=>.float .f64 (f k)):=by
 have MK:=run_make_row' (P:=prog) 42 66 (.float .f64 (0)) 8 underlying42 iU rfl .i64 .i64 N (by omega) (by omega) w
 obtain⟨ob,hob⟩:=aC w.heap.size
 have RW:Hid ((w.alloc (.cells (madeCells #[.float .f64 (0)] N) 66)).rowIs ob 66 N (fun _=>.float .f64 (0))):=by rw[<- hob];exact World.rowIs_made _ _ _ _
 have A0:Hid (Ab w (w.alloc (.cells (madeCells #[.float .f64 (0)] N) 66))):=bl1 w _
 have HO:Hid (w.heap.size<=ob):=Nat.le_of_eq hob
 generalize w.alloc (.cells (madeCells #[.float .f64 (0)] N) 66)=wm at*
 go_enter func24,ntmps24
 go_wp2
 have HB:=hid hob
 clear MK hob
 go_loopw [11] (fun iv wr=> ∃k:Nat,k<=N/\iv=.int .i64 (k:Nat)/\Ab w wr/\wr.rowIs ob 66 N (fun j=>if j<k then .float .f64 (f j)else .float .f64 (0))) (fun iv _=>N - (intOf iv).toNat)
 case atStart=>exact⟨0,by omega,rfl,A0.out,RW.out.congr (fun i _=>by simp)⟩
 case round=>
  obtain⟨k,hk,rfl,A,R⟩:=hrel
  have A1:=hid A
  have R1:=hid R
  clear A R A0 RW
  by_cases hkN:k<N
  ·have hkN':(k:Int)<N:=by omega
   have C:=hid (H.out k hkN wr A1.out)
   have HK:=hid hkN
   go_wp2_with fail
   refine C.out.mono ?_
   rintro e w1 ⟨rfl,b1⟩
   have A2:Hid (Ab w w1):=A1.out.call b1
   have R2:=hid (rowIs.ab R1.out b1)
   have x1:=R2.out.cell hkN
   have x2:=R2.out.frozen k
   clear b1 C A1 R1 hkN
   go_wp2
   go_roundw
   case rel=>
    refine⟨k+1,by omega,by simp,Ab.setk A2.out HO.out _,(R2.out.set k (.float .f64 (f k))).congr (fun i _=> ?_)⟩
    by_cases e:i=k
    ·subst e;simp
    ·have e2:(i<k+1) ↔ i<k:=by omega
     simp[e,e2]
   case measure=>have:=HK.out;simp[intOf];omega
  ·obtain rfl:k=N:=by omega
   go_wp2
   go_ret
   rw[HB.out]
   exact⟨rfl,by have h:=A1.out;unfold Ab at h;rw[HB.out]at h;exact h,R1.out.congr (fun i hi=>by simp[hi])⟩
end
section
open Go.RowKit Cu Tf
attribute [local go_sem] aG
def EG(w:World)(n eb:Nat):Prop:=eb<w.heap.size/\ ∀t,t<24*n*n->isL n t=true->
 w.cell? ⟨eb,eN n t*4,none⟩=some (.int .i64 (t/4:Nat))/\w.cell? ⟨eb,eN n t*4+1,none⟩=some (.int .i64 (t%4:Nat))/\w.cell? ⟨eb,eN n t*4+2,none⟩=some (.int .i64 (bsC n (t/4) (t%4):Nat))/\w.cell? ⟨eb,eN n t*4+3,none⟩=some (.int .i64 (bsS n (t/4) (t%4):Nat))
theorem EG.to{w w':World}{n eb:Nat}(h:EG w n eb)(a:Ab w w'):EG w' n eb:=by
 refine⟨Nat.lt_of_lt_of_le h.1 (Ab.size a),fun t ht hl=> ?_⟩
 have hc: ∀k,w'.cell? ⟨eb,k,none⟩=w.cell? ⟨eb,k,none⟩:=fun k=>Below.cell a (by exact h.1)
 simp only[hc]
 exact h.2 t ht hl
def GX(n gb mb eb cap m:Nat)(v3 v4 v5 v6:Value)(w:World):Prop:=
 w.heap[gb]? =some (.cells #[.int .i64 n,.slice (some ⟨eb,0,none⟩) (12*n*n) cap,.map (some mb),v3,v4,v5,v6] 59)/\EG w n eb/\MapIs w mb m (gT n (24*n*n))/\12*n*n<=cap/\cap<=maxLen/\gb≠mb/\gb≠eb
theorem GX.to{n gb mb eb cap m:Nat}{v3 v4 v5 v6:Value}{w w':World}(h:GX n gb mb eb cap m v3 v4 v5 v6 w)(a:Ab w w'):GX n gb mb eb cap m v3 v4 v5 v6 w':=
 ⟨a.heap h.1,h.2.1.to a,h.2.2.1.block (Below.block a _ h.2.2.1.lt),h.2.2.2⟩
theorem GX.cells{n gb mb eb cap m:Nat}{v3 v4 v5 v6:Value}{w:World}(h:GX n gb mb eb cap m v3 v4 v5 v6 w):
  w.cell? ⟨gb,0,none⟩=some (.int .i64 n)/\w.cell? ⟨gb,1,none⟩=some (.slice (some ⟨eb,0,none⟩) (12*n*n) cap)/\w.cell? ⟨gb,2,none⟩=some (.map (some mb))/\w.cell? ⟨gb,3,none⟩=some v3/\w.cell? ⟨gb,4,none⟩=some v4/\w.cell? ⟨gb,5,none⟩=some v5/\w.cell? ⟨gb,6,none⟩=some v6:=
 ⟨aA 0 h.1,aA 1 h.1,aA 2 h.1,aA 3 h.1,aA 4 h.1,aA 5 h.1,aA 6 h.1⟩
theorem GE.all{B n gb mb:Nat}{es v3 v4 v5 v6:Value}{w:World}(hn:1<=n)(h:GE B n (24*n*n) gb mb es v3 v4 v5 v6 w): ∃eb cap,(B<=eb/\eb≠gb)/\es=.slice (some ⟨eb,0,none⟩) (12*n*n) cap/\GX n gb mb eb cap (2*(24*n*n)) v3 v4 v5 v6 w:=by
 obtain⟨h1,h2,h3,h4,h5,h6⟩:=h
 have hh:=h2
 have hpos:0<12*n*n:=Nat.mul_pos (by omega) (by omega)
 rw[fN hn]at hh
 rcases hh.2 with⟨rfl,h0⟩ | ⟨g,cap,cur,rfl,hb,hg,k1,k2,k3,k4⟩
 ·omega
 ·refine⟨g,cap,⟨hb,fun e=>h5 (by rw[e];rfl)⟩,rfl,h1,⟨lt_of_block hg,fun t ht hl=> ?_⟩,h3,k1,k2,h4.2.2,fun e=>h5 (by rw[e];rfl)⟩
  have hc: ∀j<4,∀u,(edV n t)[j]? =some u->w.cell? ⟨g,eN n t*4+j,none⟩=some u:=by
   intro j hj u hu
   have:=hh.cells (g:=g) rfl (eN n t*4+j) u (by rw[edL_at ht hl hj];exact hu)
   have ha:(⟨g,0,none⟩:Addr).add (eN n t*4+j)=⟨g,eN n t*4+j,none⟩:=by unfold Addr.add;split<;>simp_all
   rwa [ha]at this
  exact⟨hc 0 (by omega) _ rfl,hc 1 (by omega) _ rfl,hc 2 (by omega) _ rfl,hc 3 (by omega) _ rfl⟩
theorem n12{n:Nat}(hn:1<=n/\n<=32):12*n*n<=12288/\24*n*n=2*(12*n*n)/\24*n*n=4*(6*n*n)/\0<6*n*n:=by
 refine⟨?_,by rw[show 24=2*12 from rfl,Nat.mul_assoc 2 12 n,Nat.mul_assoc 2 (12*n) n],by rw[show 24=4*6 from rfl,Nat.mul_assoc 4 6 n,Nat.mul_assoc 4 (6*n) n],Nat.mul_pos (by omega) (by omega)⟩
 rw[Nat.mul_assoc]
 have:=Nat.mul_le_mul hn.2 hn.2
 omega
theorem sN(n gb k:Nat)(w:World)(hn:1<=n/\n<=32)(hk:k<6*n*n)(c0:w.cell? ⟨gb,0,none⟩=some (.int .i64 n)):
  Calls prog 21 #[.pointer (some ⟨gb,0,none⟩),.int .i64 k] w fun e w'=>e=.returned (.int .i64 (arI (ArC n k)))/\Below w.heap.size w w':=by
 have AR:=hid (fun u=>area_ok n k u hn hk)
 generalize arI (ArC n k)=V at*
 clear hn hk
 go_enter func21,ntmps21
 go_wp2_with (go_at_call 39;refine(AR.out _).mono ?_;rintro e w1 ⟨rfl,b1⟩)
 go_ret
 exact⟨rfl,b1⟩
theorem iG(s:Nat)(w:World)(hs:s<4):Calls prog 41 #[.int .i64 s] w fun e w'=>e=.returned (.int .i64 ((s+2)%4:Nat))/\w'=w:=by
 have hs':(s:Int)<4:=by omega
 have e:((s:Int)+2).tmod 4=(((s+2)%4:Nat):Int):=by rw[Int.tmod_eq_emod_of_nonneg (by omega)];omega
 go_enter func41,ntmps41
 go_wp2
 go_ret
 exact⟨by rfl,rfl⟩
theorem nV(n gb mb eb cap m t:Nat)(v3 v4 v5 v6:Value)(w:World)(hn:1<=n/\n<=32)(ht:t<24*n*n)(hl:isL n t=true)(_h:Fr w)(G:GX n gb mb eb cap m v3 v4 v5 v6 w):
  Calls prog 25 #[.pointer (some ⟨gb,0,none⟩),.int .i64 (eN n t:Nat)] w fun e w'=>e=.returned (.float .f64 (LnC n (t/4) (t%4)))/\Below w.heap.size w w':=by
 obtain⟨U,F,hF1,hF2⟩:=cls w
 have HF:=hid hF2
 have HF1:=hid hF1
 have x0: ∀u,(F u).cell? ⟨gb,0,none⟩=some (.int .i64 n):=fun u=>(G.to (hF1 u)).cells.1
 have x1: ∀u,(F u).cell? ⟨gb,1,none⟩=some (.slice (some ⟨eb,0,none⟩) (12*n*n) cap):=fun u=>(G.to (hF1 u)).cells.2.1
 have y0: ∀u,(F u).cell? ⟨eb,eN n t*4,none⟩=some (.int .i64 (t/4:Nat)):=fun u=>((G.to (hF1 u)).2.1.2 t ht hl).1
 have y1: ∀u,(F u).cell? ⟨eb,eN n t*4+1,none⟩=some (.int .i64 (t%4:Nat)):=fun u=>((G.to (hF1 u)).2.1.2 t ht hl).2.1
 have LE:=hid (fun u=>len_ok n (t/4) (t%4) (F u) hn (bM ht) (by omega))
 have D:=HF.out _ (Ab.refl w).drew
 have kN:=fK hn.1 ht hl
 have kM:=(n12 hn).1
 have hcap:=G.2.2.2.1
 generalize LnC n (t/4) (t%4)=L at*
 generalize t/4=c at*
 generalize t%4=s at*
 generalize 12*n*n=M at*
 generalize eN n t=k at*
 have hk1:(k:Int)<M:=by omega
 have hk2:(M:Int)<=12288:=by omega
 clear hF1 hF2 _h hn ht hl G kN kM
 go_enter func25,ntmps25
 go_wp2_with fail
 refine aK F (by kernel_rfl) (by kernel_rfl) D ?_
 repeat(go_big_quiet_step (first | (with_reducible rfl) | (go_at_call 42;exact aF HF HF1 (LE.out _))))
 refine wpQuiet_nil ?_
 intro wz hwz
 obtain⟨u,rfl⟩:=hwz
 go_wp2
 go_ret
 exact⟨rfl,HF1.out u⟩
theorem gapOf_at(n gb mb eb cap m t:Nat)(v3 v4 v5 v6:Value)(w:World)(hn:1<=n/\n<=32)(ht:t<24*n*n)(hl:isL n t=true)(h:Fr w)(G:GX n gb mb eb cap m v3 v4 v5 v6 w):
  Calls prog 26 #[.pointer (some ⟨gb,0,none⟩),.int .i64 (eN n t:Nat)] w fun e w'=>e=.returned (.float .f64 (GpC n (t/4) (t%4)))/\Below w.heap.size w w':=by
 obtain⟨U,F,hF1,hF2⟩:=cls w
 have HF:=hid hF2
 have HF1:=hid hF1
 have x0: ∀u,(F u).cell? ⟨gb,0,none⟩=some (.int .i64 n):=fun u=>(G.to (hF1 u)).cells.1
 have x1: ∀u,(F u).cell? ⟨gb,1,none⟩=some (.slice (some ⟨eb,0,none⟩) (12*n*n) cap):=fun u=>(G.to (hF1 u)).cells.2.1
 have y0: ∀u,(F u).cell? ⟨eb,eN n t*4,none⟩=some (.int .i64 (t/4:Nat)):=fun u=>((G.to (hF1 u)).2.1.2 t ht hl).1
 have y1: ∀u,(F u).cell? ⟨eb,eN n t*4+1,none⟩=some (.int .i64 (t%4:Nat)):=fun u=>((G.to (hF1 u)).2.1.2 t ht hl).2.1
 have LE:=hid (fun u=>gap_ok n (t/4) (t%4) (F u) hn (bM ht) (by omega) (h.to (hF1 u)))
 have D:=HF.out _ (Ab.refl w).drew
 have kN:=fK hn.1 ht hl
 have kM:=(n12 hn).1
 have hcap:=G.2.2.2.1
 generalize GpC n (t/4) (t%4)=L at*
 generalize t/4=c at*
 generalize t%4=s at*
 generalize 12*n*n=M at*
 generalize eN n t=k at*
 have hk1:(k:Int)<M:=by omega
 have hk2:(M:Int)<=12288:=by omega
 clear hF1 hF2 h hn ht hl G kN kM
 go_enter func26,ntmps26
 go_wp2_with fail
 refine aK F (by kernel_rfl) (by kernel_rfl) D ?_
 repeat(go_big_quiet_step (first | (with_reducible rfl) | (go_at_call 43;exact aF HF HF1 (LE.out _))))
 refine wpQuiet_nil ?_
 intro wz hwz
 obtain⟨u,rfl⟩:=hwz
 go_wp2
 go_ret
 exact⟨rfl,HF1.out u⟩
end
section
open Go.RowKit Cu Tf
theorem nW(gb mb eb cap c s x y:Nat)(sg:Int)(w:World)(M:Nat)(hk:(x:Int)<M)(lg:gb<w.heap.size)(le:eb<w.heap.size)
  (c1:w.cell? ⟨gb,1,none⟩=some (.slice (some ⟨eb,0,none⟩) M cap)) (c2:w.cell? ⟨gb,2,none⟩=some (.map (some mb)))
  (LK:(Instr.lookup 55 (.map (some mb)) (.agg #[.int .i64 c,.int .i64 s]) false).run prog w=.ok (.agg #[.int .i64 x,.int .i64 sg]) w)
  (HY:Hid ((sg=1/\w.cell? ⟨eb,x*4+2,none⟩=some (.int .i64 y))\/(sg= -1/\w.cell? ⟨eb,x*4,none⟩=some (.int .i64 y)))):
  Calls prog 40 #[.pointer (some ⟨gb,0,none⟩),.int .i64 c,.int .i64 s] w fun e w'=>e=.returned (.int .i64 y)/\Below w.heap.size w w':=by
 rcases HY.out with⟨rfl,hy⟩ | ⟨rfl,hy⟩
 ·clear HY
  go_enter func40,ntmps40
  go_upto_region 3 with fail
  go_region
  go_wp2
  go_ret
  exact⟨rfl,by first | exact bl1 w _ | exact Below.drew (bl1 w _)⟩
 ·clear HY
  go_enter func40,ntmps40
  go_upto_region 4 with fail
  go_region
  go_wp2
  go_ret
  exact⟨rfl,by first | exact bl1 w _ | exact Below.drew (bl1 w _)⟩
theorem iH(n gb mb eb cap m c s:Nat)(v3 v4 v5 v6:Value)(w:World)(hn:1<=n/\n<=32)(hc:c<6*n*n)(hs:s<4)(G:GX n gb mb eb cap m v3 v4 v5 v6 w):
  Calls prog 40 #[.pointer (some ⟨gb,0,none⟩),.int .i64 c,.int .i64 s] w fun e w'=>e=.returned (.int .i64 (bsC n c s:Nat))/\Below w.heap.size w w':=by
 have ht:=t_lt hc hs
 have hd:=t_dec (c:=c) hs
 have h12:=n12 hn
 have LK:=G.2.2.1.look (c:=c) (s:=s) (by unfold W64;omega) (by unfold W64;omega)
 rw[gT_end hn.1 hc hs]at LK
 refine nW gb mb eb cap c s (eE n (4*c+s)) (bsC n c s) (eS n (4*c+s)) w (12*n*n) (by have:=eE_lt hn.1 ht;omega) (lt_of_block G.1) G.2.1.1 G.cells.2.1 G.cells.2.2.1 LK ?_
 show _\/_
 unfold eE eS
 cases hl:isL n (4*c+s)with
 | true=>
  refine .inl ⟨rfl,?_⟩
  have h:=(G.2.1.2 _ ht hl).2.2.1
  rw[hd.1,hd.2]at h
  exact h
 | false=>
  refine .inr ⟨rfl,?_⟩
  have h:=(G.2.1.2 _ (kH hn.1 ht) (by rw[iZ hn.1 ht,hl];rfl)).1
  rw[(oP hn.1 ht).1,hd.1,hd.2]at h
  exact h
theorem set2{W w:World}{g:Nat}{x y:Value}{T:TypeId}(h:Abx W g 2 T w):((w.setCell ⟨g,0,none⟩ x).setCell ⟨g,1,none⟩ y).heap[g]? =some (.cells #[x,y] T):=by
 obtain⟨_,cs,h6,h⟩:=h
 obtain⟨a,b,rfl⟩: ∃a b,cs= #[a,b]:=by
  rcases cs with⟨l⟩
  match l,h6 with
  | [a,b],_=>exact⟨a,b,rfl⟩
 have h1:=aI (v:=x) (k:=0) h
 have h2:=aI (v:=y) (k:=1) h1
 simpa using h2
theorem jV(n gb mb eb cap m t:Nat)(v3 v4 v5 v6:Value)(w:World)(hn:1<=n/\n<=32)(ht:t<24*n*n)(hl:isL n t=true)(G:GX n gb mb eb cap m v3 v4 v5 v6 w):
  Calls prog 23 #[.pointer (some ⟨gb,0,none⟩),.int .i64 (eN n t:Nat)] w fun e w'=>e=.returned (.agg #[.int .i64 (bsC n (t/4) ((t%4+2)%4):Nat),.int .i64 (bsC n (bsC n (t/4) (t%4)) ((bsS n (t/4) (t%4)+2)%4):Nat)])/\Below w.heap.size w w':=by
 obtain⟨b1,b2⟩:=eG hn.1 (bM ht) (s:=t%4) (by omega)
 have O1:=hid (fun u=>iG (t%4) u (by omega))
 have O2:=hid (fun u=>iG (bsS n (t/4) (t%4)) u b2)
 have C1:=hid (fun u (hu:Ab w u)=>iH n gb mb eb cap m (t/4) ((t%4+2)%4) v3 v4 v5 v6 u hn (bM ht) (by omega) (G.to hu))
 have C2:=hid (fun u (hu:Ab w u)=>iH n gb mb eb cap m (bsC n (t/4) (t%4)) ((bsS n (t/4) (t%4)+2)%4) v3 v4 v5 v6 u hn b1 (by omega) (G.to hu))
 have c1:=G.cells.2.1
 obtain⟨y0,y1,y2,y3⟩:=G.2.1.2 t ht hl
 have kN:=fK hn.1 ht hl
 have kM:=(n12 hn).1
 have hcap:=G.2.2.2.1
 have lg:=lt_of_block G.1
 have le:=G.2.1.1
 have h1:=hid (heap_alloc_new w (.cells #[.int .i64 0,.int .i64 0] 63))
 generalize bsC n (bsC n (t/4) (t%4)) ((bsS n (t/4) (t%4)+2)%4)=q2 at*
 generalize bsC n (t/4) ((t%4+2)%4)=q1 at*
 generalize(bsS n (t/4) (t%4)+2)%4=o2 at*
 generalize(t%4+2)%4=o1 at*
 generalize bsC n (t/4) (t%4)=d at*
 generalize bsS n (t/4) (t%4)=b at*
 generalize t/4=c at*
 generalize t%4=s at*
 generalize 12*n*n=M at*
 generalize eN n t=k at*
 have hk1:(k:Int)<M:=by omega
 have hk2:(M:Int)<=12288:=by omega
 clear hn ht hl G kN kM b1 b2
 go_enter func23,ntmps23
 go_upto_region 2 with fail
 generalize hW:World.alloc _ _=W
 have ra:W.heap[w.heap.size]? =some (.cells #[.int .i64 0,.int .i64 0] 63):=by rw[<- hW];exact heap_alloc2_old _ _ _
 have rb:W.heap[w.heap.size+1]? =some (.cells #[.int .i64 c,.int .i64 s,.int .i64 d,.int .i64 b] 73):=by rw[<- hW];exact heap_alloc2_new _ _ _
 have AW:Hid (Ab w W):=by rw[<- hW];exact bl2 _ _ _
 have KS:Hid (∀w',Abx W w.heap.size 2 63 w'->Abx W w.heap.size 2 63 w'/\w'.cell? ⟨w.heap.size+1,0,none⟩=some (.int .i64 c)/\w'.cell? ⟨w.heap.size+1,1,none⟩=some (.int .i64 s)/\w'.cell? ⟨w.heap.size+1,2,none⟩=some (.int .i64 d)/\w'.cell? ⟨w.heap.size+1,3,none⟩=some (.int .i64 b)/\w'.frozen? ⟨w.heap.size,0,none⟩=false/\w'.frozen? ⟨w.heap.size,1,none⟩=false/\w'.cell? ⟨w.heap.size,0,none⟩=some (rv w' w.heap.size 0)/\w'.cell? ⟨w.heap.size,1,none⟩=some (rv w' w.heap.size 1)):=by
  intro w' hw
  have h:=hw.heap (k:=w.heap.size+1) (by omega) rb
  exact⟨hw,aA 0 h,aA 1 h,aA 2 h,aA 3 h,hw.free 0,hw.free 1,hw.some (by omega),hw.some (by omega)⟩
 have A1:Abx W w.heap.size 2 63 W:=(Ab.refl W).x rfl ra
 have D1:Hid (∀u,Abx W w.heap.size 2 63 u->Calls prog 40 #[.pointer (some ⟨gb,0,none⟩),.int .i64 c,.int .i64 o1] u fun e w'=>e=.returned (.int .i64 q1)/\Below u.heap.size u w'):=fun u hu=>C1.out u (hu.ab AW.out (Nat.le_refl _))
 have D2:Hid (∀u,Abx W w.heap.size 2 63 u->Calls prog 40 #[.pointer (some ⟨gb,0,none⟩),.int .i64 d,.int .i64 o2] u fun e w'=>e=.returned (.int .i64 q2)/\Below u.heap.size u w'):=fun u hu=>C2.out u (hu.ab AW.out (Nat.le_refl _))
 clear ra rb hW h1 y0 y1 y2 y3 c1 C1 C2
 go_region_held3 (fun w'=>Abx W w.heap.size 2 63 w'/\w'.cell? ⟨w.heap.size+1,0,none⟩=some (.int .i64 c)/\w'.cell? ⟨w.heap.size+1,1,none⟩=some (.int .i64 s)/\w'.cell? ⟨w.heap.size+1,2,none⟩=some (.int .i64 d)/\w'.cell? ⟨w.heap.size+1,3,none⟩=some (.int .i64 b)/\w'.frozen? ⟨w.heap.size,0,none⟩=false/\w'.frozen? ⟨w.heap.size,1,none⟩=false/\w'.cell? ⟨w.heap.size,0,none⟩=some (rv w' w.heap.size 0)/\w'.cell? ⟨w.heap.size,1,none⟩=some (rv w' w.heap.size 1)) ((refine KS.out _ ?_;(with_reducible (repeat(first | assumption | apply Abx.drew | apply Abx.set | (refine Abx.call ?_ (by assumption)))));done)) (first
  | (go_at_call_of 41 s;refine(O1.out _).mono ?_;rintro e w2 ⟨rfl,rfl⟩)
  | (go_at_call_of 41 b;refine(O2.out _).mono ?_;rintro e w2 ⟨rfl,rfl⟩)
  | (go_at_call_of 40 o1;refine(D1.out _ ?_).mono ?_;(exact And.left (by assumption));rintro e w3 ⟨rfl,b3⟩)
  | (go_at_call_of 40 o2;refine(D2.out _ ?_).mono ?_;(exact And.left (by assumption));rintro e w4 ⟨rfl,b4⟩))
 have A4:Abx W w.heap.size 2 63 w4:=Abx.call (Abx.call A1.drew b3) b4
 clear KS A1 b3 b4
 go_wp2
 refine bodyPost_ret ?_ rfl ⟨rfl,?_⟩
 ·exact results_cell_row results23 _ _ w.heap.size _ _ (0,0) _ rfl (set2 A4) underlying63 rfl (by kernel_rfl)
 ·exact((A4.set 0 _).set 1 _).ab AW.out (Nat.le_refl _)
end
section
open Go.RowKit Cu Tf
def edT(n k:Nat):Nat:=((List.range (24*n*n)).find? (fun t=>isL n t&&eN n t==k)).getD 0
theorem bS{n k:Nat}(hn:1<=n)(hk:k<12*n*n):edT n k<24*n*n/\isL n (edT n k)=true/\eN n (edT n k)=k:=by
 obtain⟨t,h1,h2,h3⟩:=ed_ex hn hk
 unfold edT
 cases h:(List.range (24*n*n)).find? (fun t=>isL n t&&eN n t==k)with
 | none=>
  have:=List.find?_eq_none.1 h t (List.mem_range.2 h1)
  simp[h2,h3]at this
 | some u=>
  have h4:=List.find?_some h
  have h5:=List.mem_range.1 (List.mem_of_find?_eq_some h)
  simp at h4
  exact⟨h5,h4.1,h4.2⟩
theorem edT_eN{n t:Nat}(hn:1<=n)(ht:t<24*n*n)(hl:isL n t=true):edT n (eN n t)=t:=by
 obtain⟨h1,h2,h3⟩:=bS hn (fK hn ht hl)
 exact eN_inj h2 hl h3
theorem made_two(w:World)(N:Nat):(w.alloc (.cells (madeCells #[.int .i64 0,.int .i64 0] (N*2)) 63)).rowIs w.heap.size 63 (N*2) (fun _=>.int .i64 0):=by
 refine⟨_,heap_alloc_new _ _,size_madeCells _ _,fun i hi=> ?_⟩
 have h2:i%2=0\/i%2=1:=by omega
 rcases h2 with h2 | h2<;>simp[madeCells,hi,h2]
theorem pP(N gb:Nat)(f g:Nat->Int)(w:World)(hN:(N:Int)<=12288)
  (H:Hid (∀k:Nat,k<N-> ∀w',Ab w w'->Calls prog 23 #[.pointer (some ⟨gb,0,none⟩),.int .i64 k] w' fun e w''=>e=.returned (.agg #[.int .i64 (f k),.int .i64 (g k)])/\Below w'.heap.size w' w'')):
  Calls prog 22 #[.int .i64 N,.func (.func 23) #[.pointer (some ⟨gb,0,none⟩)] #[]] w fun e w'=>e=.returned (.slice (some ⟨w.heap.size,0,none⟩) N N)/\Below w.heap.size w w'/\w'.rowIs w.heap.size 63 (N*2) (fun i=>.int .i64 (if i%2=0 then f (i/2)else g (i/2))):=by
 obtain⟨i0,hi,hz0,hz1,hz2⟩:=info_parts infoTwo
 have MK:=run_make (P:=prog) w 57 63 i0 (.agg #[.int .i64 0,.int .i64 0]) underlying57 hi hz0 .i64 .i64 N N (by omega) (Int.le_refl _) (by rw[hz2];omega) (by omega)
 rw[hz1]at MK
 simp only[Int.toNat_natCast]at MK
 have e0:(Value.agg #[.int .i64 0,.int .i64 0]).cells= #[.int .i64 0,.int .i64 0]:=rfl
 rw[e0]at MK
 clear hi hz0 hz1 hz2 e0
 obtain⟨ob,hob⟩:=aC w.heap.size
 have RW:Hid ((w.alloc (.cells (madeCells #[.int .i64 0,.int .i64 0] (N*2)) 63)).rowIs ob 63 (N*2) (fun _=>.int .i64 0)):=by rw[<- hob];exact made_two _ _
 have A0:Hid (Ab w (w.alloc (.cells (madeCells #[.int .i64 0,.int .i64 0] (N*2)) 63))):=bl1 w _
 have HO:Hid (w.heap.size<=ob):=Nat.le_of_eq hob
 generalize w.alloc (.cells (madeCells #[.int .i64 0,.int .i64 0] (N*2)) 63)=wm at*
 go_enter func22,ntmps22
 go_wp2
 have HB:=hid hob
 clear MK hob
 go_loopw [11] (fun iv wr=> ∃k:Nat,k<=N/\iv=.int .i64 (k:Nat)/\Ab w wr/\wr.rowIs ob 63 (N*2) (fun i=>.int .i64 (if i/2<k then(if i%2=0 then f (i/2)else g (i/2))else 0))) (fun iv _=>N - (intOf iv).toNat)
 case atStart=>exact⟨0,by omega,rfl,A0.out,RW.out.congr (fun i _=>by simp)⟩
 case round=>
  obtain⟨k,hk,rfl,A,R⟩:=hrel
  have A1:=hid A
  have R1:=hid R
  clear A R A0 RW
  by_cases hkN:k<N
  ·have hkN':(k:Int)<N:=by omega
   have C:=hid (H.out k hkN wr A1.out)
   have HK:=hid hkN
   go_wp2_with fail
   refine C.out.mono ?_
   rintro e w1 ⟨rfl,b1⟩
   have A2:Hid (Ab w w1):=A1.out.call b1
   have R2:=hid (rowIs.ab R1.out b1)
   have x1:=R2.out.cell (i:=k*2) (by omega)
   have x2:=R2.out.frozen (k*2)
   have x3:=R2.out.cell (i:=k*2+1) (by omega)
   have x4:=R2.out.frozen (k*2+1)
   clear b1 C A1 R1 hkN
   go_wp2
   go_roundw
   case rel=>
    refine⟨k+1,by omega,by simp,Ab.setk (Ab.setk A2.out HO.out _) HO.out _,((R2.out.set (k*2) (.int .i64 (f k))).set (k*2+1) (.int .i64 (g k))).congr (fun i _=> ?_)⟩
    have q1:(k*2)/2=k:=by omega
    have q2:(k*2+1)/2=k:=by omega
    by_cases e1:i=k*2+1
    ·subst e1
     simp[q2]
    ·by_cases e2:i=k*2
     ·subst e2;simp[q1]
     ·have e3:(i/2<k+1) ↔ i/2<k:=by omega
      simp[e1,e2,e3]
   case measure=>have:=HK.out;simp[intOf];omega
  ·obtain rfl:k=N:=by omega
   go_wp2
   go_ret
   rw[HB.out]
   refine⟨rfl,by have h:=A1.out;unfold Ab at h;rw[HB.out]at h;exact h,R1.out.congr (fun i hi=> ?_)⟩
   have:i/2<k:=by omega
   simp[this]
end
section
open Go.RowKit Cu Tf
def bhC(n i:Nat):Int:=if i%2=0 then(bsC n (edT n (i/2)/4) ((edT n (i/2)%4+2)%4):Nat)else(bsC n (bsC n (edT n (i/2)/4) (edT n (i/2)%4)) ((bsS n (edT n (i/2)/4) (edT n (i/2)%4)+2)%4):Nat)
def GridOf(n gb:Nat)(w:World):Prop:=
 ∃mb eb cap m bb ab lb pb,GX n gb mb eb cap m (.slice (some ⟨bb,0,none⟩) (12*n*n) (12*n*n)) (.slice (some ⟨ab,0,none⟩) (6*n*n) (6*n*n)) (.slice (some ⟨lb,0,none⟩) (12*n*n) (12*n*n)) (.slice (some ⟨pb,0,none⟩) (12*n*n) (12*n*n)) w/\
  w.rowIs bb 63 (12*n*n*2) (fun i=>.int .i64 (bhC n i))/\w.rowIs ab 2 (6*n*n) (fun k=>.int .i64 (arI (ArC n k)))/\
  w.rowIs lb 66 (12*n*n) (fun k=>.float .f64 (LnC n (edT n k/4) (edT n k%4)))/\w.rowIs pb 66 (12*n*n) (fun k=>.float .f64 (GpC n (edT n k/4) (edT n k%4)))
theorem GridOf.to{n gb:Nat}{w w':World}(h:GridOf n gb w)(a:Ab w w'):GridOf n gb w':=by
 obtain⟨mb,eb,cap,m,bb,ab,lb,pb,h1,h2,h3,h4,h5⟩:=h
 exact⟨mb,eb,cap,m,bb,ab,lb,pb,h1.to a,rowIs.ab h2 a,rowIs.ab h3 a,rowIs.ab h4 a,rowIs.ab h5 a⟩
theorem EG.set{w:World}{n eb gb k:Nat}{v:Value}(h:EG w n eb)(hne:gb≠eb):EG (w.setCell ⟨gb,k,none⟩ v) n eb:=by
 have hb:(w.setCell ⟨gb,k,none⟩ v).heap[eb]? =w.heap[eb]? :=Below.heap_setCell _ _ _ _ (fun e=>hne e.symm)
 refine⟨by simpa [World.setCell]using h.1,fun t ht hl=> ?_⟩
 have hc: ∀j,(w.setCell ⟨gb,k,none⟩ v).cell? ⟨eb,j,none⟩=w.cell? ⟨eb,j,none⟩:=fun j=>World.cell?_of_block (by exact hb)
 simp only[hc]
 exact h.2 t ht hl
theorem GX.put3{n gb mb eb cap m:Nat}{v3 v4 v5 v6:Value}{w:World}(h:GX n gb mb eb cap m v3 v4 v5 v6 w)(v:Value):GX n gb mb eb cap m v v4 v5 v6 (w.setCell ⟨gb,3,none⟩ v):=by
 obtain⟨h1,h2,h3,h4,h5,h6,h7⟩:=h
 refine⟨?_,h2.set h7,h3.block (Below.heap_setCell _ _ _ _ (fun e=>h6 e.symm)),h4,h5,h6,h7⟩
 have:=aI (v:=v) (k:=3) h1
 simpa using this
theorem GX.put4{n gb mb eb cap m:Nat}{v3 v4 v5 v6:Value}{w:World}(h:GX n gb mb eb cap m v3 v4 v5 v6 w)(v:Value):GX n gb mb eb cap m v3 v v5 v6 (w.setCell ⟨gb,4,none⟩ v):=by
 obtain⟨h1,h2,h3,h4,h5,h6,h7⟩:=h
 refine⟨?_,h2.set h7,h3.block (Below.heap_setCell _ _ _ _ (fun e=>h6 e.symm)),h4,h5,h6,h7⟩
 have:=aI (v:=v) (k:=4) h1
 simpa using this
theorem GX.put5{n gb mb eb cap m:Nat}{v3 v4 v5 v6:Value}{w:World}(h:GX n gb mb eb cap m v3 v4 v5 v6 w)(v:Value):GX n gb mb eb cap m v3 v4 v v6 (w.setCell ⟨gb,5,none⟩ v):=by
 obtain⟨h1,h2,h3,h4,h5,h6,h7⟩:=h
 refine⟨?_,h2.set h7,h3.block (Below.heap_setCell _ _ _ _ (fun e=>h6 e.symm)),h4,h5,h6,h7⟩
 have:=aI (v:=v) (k:=5) h1
 simpa using this
theorem GX.put6{n gb mb eb cap m:Nat}{v3 v4 v5 v6:Value}{w:World}(h:GX n gb mb eb cap m v3 v4 v5 v6 w)(v:Value):GX n gb mb eb cap m v3 v4 v5 v (w.setCell ⟨gb,6,none⟩ v):=by
 obtain⟨h1,h2,h3,h4,h5,h6,h7⟩:=h
 refine⟨?_,h2.set h7,h3.block (Below.heap_setCell _ _ _ _ (fun e=>h6 e.symm)),h4,h5,h6,h7⟩
 have:=aI (v:=v) (k:=6) h1
 simpa using this
theorem GX.fr{n gb mb eb cap m:Nat}{v3 v4 v5 v6:Value}{w:World}(h:GX n gb mb eb cap m v3 v4 v5 v6 w)(k:Nat):w.frozen? ⟨gb,k,none⟩=false:=aE h.1 k
theorem pQ(k:Int)(w:World):(Instr.makeMap 55 (some (.int .i64 k))).run prog w=.ok (.map (some w.heap.size)) (w.alloc (.map #[] 0)):=by
 simp[Instr.makeMap,run_underlying underlying55,asInt,asIntOf]
theorem ge_start(n:Nat)(w:World):GE w.heap.size n 0 (w.heap.size+1) w.heap.size (.slice none 0 0) (.slice none 0 0) (.slice none 0 0) (.slice none 0 0) (.slice none 0 0) ((w.alloc (.map #[] 0)).alloc (.cells #[.int .i64 n,.slice none 0 0,.map (some w.heap.size),.slice none 0 0,.slice none 0 0,.slice none 0 0,.slice none 0 0] 59)):=by
 refine⟨heap_alloc2_new _ _ _,World.ownsRow_nil _ _ _ _,?_,⟨by omega,by omega,by omega⟩,by simp[Value.ownBlock],by simp[Value.ownBlock]⟩
 have h:=(MapIs.made w).congr (g':=gT n 0) (fun c s _ _=>(gT_zero n c s).symm)
 exact h.block (Below.heap_alloc _ _ _ (by simp))
theorem nX(n:Nat)(w:World):Ab w ((w.alloc (.map #[] 0)).alloc (.cells #[.int .i64 n,.slice none 0 0,.map (some w.heap.size),.slice none 0 0,.slice none 0 0,.slice none 0 0,.slice none 0 0] 59)):=bl2 _ _ _
theorem new_at(n:Nat)(w:World)(hn:1<=n/\n<=32)(hF:Fr w):
  Calls prog 6 #[.int .i64 n] w fun e w'=> ∃gb,e=.returned (.tuple #[.pointer (some ⟨gb,0,none⟩),.int .i64 0])/\Ab w w'/\w.heap.size<=gb/\GridOf n gb w':=by
 have CE:=hid (fun u=>rS n hn u)
 have h12:=n12 hn
 obtain⟨N,hN⟩:=aC (6*n*n)
 rw[hN]at CE
 have hN1:(N:Int)<=6144:=by omega
 have hN0:(N:Int)≠0:=by omega
 have HF:=hid hF
 have Hn:=hid hn
 have HN:=hid hN
 have H12:=hid h12
 have hmm:=pQ (4*(N:Int))
 have AE:=hid (mP n N (w.heap.size+1) w.heap.size (.slice none 0 0) (.slice none 0 0) (.slice none 0 0) (.slice none 0 0) w _ hn hN.symm hF (nX n w) (ge_start n w))
 clear hn hF hN h12
 go_enter func6,ntmps6
 go_wp2_with (go_at_call 18;refine(CE.out _).mono ?_;rintro e w' ⟨rfl,hw⟩;have hw2:=hw.symm;subst hw2)
 refine AE.out.mono ?_
 rintro e w1 ⟨rfl,A1,es,G1⟩
 obtain⟨eb,cap,-,rfl,G2⟩:=G1.all Hn.out.1
 have G:=hid G2
 have A:=hid A1
 obtain⟨M,hM⟩:=aC (12*n*n)
 have HM:=hid hM
 have hM1:(M:Int)<=12288:=by have:=H12.out.1;omega
 clear A1 G1 G2 AE CE hmm hM
 have LL:=hid (nU N (w.heap.size+1) (fun k=>arI (ArC n k)) w1 (by omega) (fun k hk u hu=>sN n (w.heap.size+1) k u Hn.out (by rw[HN.out];exact hk) (G.out.to hu).cells.1))
 go_wp2_with fail
 refine LL.out.mono ?_
 rintro e w2 ⟨rfl,b2,R2⟩
 obtain⟨bA,hbA⟩:=aC w1.heap.size
 have hlt:=lt_of_block G.out.1
 have HA:Hid (bA≠w.heap.size+1):=by show _≠_;omega
 rw[hbA]at R2
 rw[hbA]
 have x1:=(G.out.to b2).cells.2.2.2.2.1
 have x2:=(G.out.to b2).fr 4
 go_upto_region 7 with fail
 obtain⟨uA,huA⟩:=aC (w2.setCell ⟨w.heap.size+1,4,none⟩ (.slice (some ⟨bA,0,none⟩) N N))
 rw[huA]
 have G':=hid ((G.out.to b2).put4 (.slice (some ⟨bA,0,none⟩) N N))
 have RA:=hid (R2.setOther (a:=⟨w.heap.size+1,4,none⟩) HA.out (.slice (some ⟨bA,0,none⟩) N N))
 have A':=hid (Ab.setk (A.out.call b2) (g:=w.heap.size+1) (k:=4) (by omega) (.slice (some ⟨bA,0,none⟩) N N))
 rw[huA]at G' RA A'
 clear LL R2 hlt G A hbA x1 x2 b2 huA
 clear w2 w1
 have G:=G'
 have A:=A'
 clear G' A'
 have c1:=G.out.cells.2.1
 rw[HM.out]at c1
 have LL:=hid (pP M (w.heap.size+1) (fun k=>(bsC n (edT n k/4) ((edT n k%4+2)%4):Nat)) (fun k=>(bsC n (bsC n (edT n k/4) (edT n k%4)) ((bsS n (edT n k/4) (edT n k%4)+2)%4):Nat)) uA (by omega) (fun k hk u hu=>by obtain⟨e1,e2,e3⟩:=bS Hn.out.1 (k:=k) (by rw[HM.out];exact hk);have h:=jV n _ _ _ _ _ (edT n k) _ _ _ _ u Hn.out e1 e2 (G.out.to hu);rw[e3]at h;exact h))
 go_wp2_with fail
 refine LL.out.mono ?_
 rintro e w2 ⟨rfl,b2,R2⟩
 clear c1
 obtain⟨bB,hbB⟩:=aC uA.heap.size
 have hlt:=lt_of_block G.out.1
 have HB:Hid (bB≠w.heap.size+1):=by show _≠_;omega
 rw[hbB]at R2
 rw[hbB]
 have x1:=(G.out.to b2).cells.2.2.2.1
 have x2:=(G.out.to b2).fr 3
 go_upto_region 8 with fail
 obtain⟨uB,huB⟩:=aC (w2.setCell ⟨w.heap.size+1,3,none⟩ (.slice (some ⟨bB,0,none⟩) M M))
 rw[huB]
 have G':=hid ((G.out.to b2).put3 (.slice (some ⟨bB,0,none⟩) M M))
 have RB:=hid (R2.setOther (a:=⟨w.heap.size+1,3,none⟩) HB.out (.slice (some ⟨bB,0,none⟩) M M))
 have RA':=hid ((rowIs.ab RA.out b2).setOther (a:=⟨w.heap.size+1,3,none⟩) HA.out (.slice (some ⟨bB,0,none⟩) M M))
 have A':=hid (Ab.setk (A.out.call b2) (g:=w.heap.size+1) (k:=3) (by omega) (.slice (some ⟨bB,0,none⟩) M M))
 rw[huB]at G' RB A' RA'
 clear LL R2 hlt G A hbB x1 x2 b2 huB RA
 clear w2 uA
 have G:=G'
 have A:=A'
 have RA:=RA'
 clear G' A' RA'
 have c1:=G.out.cells.2.1
 rw[HM.out]at c1
 have LL:=hid (pN M (w.heap.size+1) (fun k=>LnC n (edT n k/4) (edT n k%4)) uB (by omega) (fun k hk u hu=>by obtain⟨e1,e2,e3⟩:=bS Hn.out.1 (k:=k) (by rw[HM.out];exact hk);have h:=nV n _ _ _ _ _ (edT n k) _ _ _ _ u Hn.out e1 e2 (HF.out.to (A.out.trans hu)) (G.out.to hu);rw[e3]at h;exact h))
 go_wp2_with fail
 refine LL.out.mono ?_
 rintro e w2 ⟨rfl,b2,R2⟩
 clear c1
 obtain⟨bL,hbL⟩:=aC uB.heap.size
 have hlt:=lt_of_block G.out.1
 have HL:Hid (bL≠w.heap.size+1):=by show _≠_;omega
 rw[hbL]at R2
 rw[hbL]
 have x1:=(G.out.to b2).cells.2.2.2.2.2.1
 have x2:=(G.out.to b2).fr 5
 go_upto_region 9 with fail
 obtain⟨uL,huL⟩:=aC (w2.setCell ⟨w.heap.size+1,5,none⟩ (.slice (some ⟨bL,0,none⟩) M M))
 rw[huL]
 have G':=hid ((G.out.to b2).put5 (.slice (some ⟨bL,0,none⟩) M M))
 have RL:=hid (R2.setOther (a:=⟨w.heap.size+1,5,none⟩) HL.out (.slice (some ⟨bL,0,none⟩) M M))
 have RA':=hid ((rowIs.ab RA.out b2).setOther (a:=⟨w.heap.size+1,5,none⟩) HA.out (.slice (some ⟨bL,0,none⟩) M M))
 have RB':=hid ((rowIs.ab RB.out b2).setOther (a:=⟨w.heap.size+1,5,none⟩) HB.out (.slice (some ⟨bL,0,none⟩) M M))
 have A':=hid (Ab.setk (A.out.call b2) (g:=w.heap.size+1) (k:=5) (by omega) (.slice (some ⟨bL,0,none⟩) M M))
 rw[huL]at G' RL A' RA' RB'
 clear LL R2 hlt G A hbL x1 x2 b2 huL RA RB
 clear w2 uB
 have G:=G'
 have A:=A'
 have RA:=RA'
 have RB:=RB'
 clear G' A' RA' RB'
 have c1:=G.out.cells.2.1
 rw[HM.out]at c1
 have LL:=hid (pO M (w.heap.size+1) (fun k=>GpC n (edT n k/4) (edT n k%4)) uL (by omega) (fun k hk u hu=>by obtain⟨e1,e2,e3⟩:=bS Hn.out.1 (k:=k) (by rw[HM.out];exact hk);have h:=gapOf_at n _ _ _ _ _ (edT n k) _ _ _ _ u Hn.out e1 e2 (HF.out.to (A.out.trans hu)) (G.out.to hu);rw[e3]at h;exact h))
 go_wp2_with fail
 refine LL.out.mono ?_
 rintro e w2 ⟨rfl,b2,R2⟩
 clear c1
 obtain⟨bP,hbP⟩:=aC uL.heap.size
 have hlt:=lt_of_block G.out.1
 have HP:Hid (bP≠w.heap.size+1):=by show _≠_;omega
 rw[hbP]at R2
 rw[hbP]
 have x1:=(G.out.to b2).cells.2.2.2.2.2.2
 have x2:=(G.out.to b2).fr 6
 go_upto_region 10 with fail
 obtain⟨uP,huP⟩:=aC (w2.setCell ⟨w.heap.size+1,6,none⟩ (.slice (some ⟨bP,0,none⟩) M M))
 rw[huP]
 have G':=hid ((G.out.to b2).put6 (.slice (some ⟨bP,0,none⟩) M M))
 have RP:=hid (R2.setOther (a:=⟨w.heap.size+1,6,none⟩) HP.out (.slice (some ⟨bP,0,none⟩) M M))
 have RA':=hid ((rowIs.ab RA.out b2).setOther (a:=⟨w.heap.size+1,6,none⟩) HA.out (.slice (some ⟨bP,0,none⟩) M M))
 have RB':=hid ((rowIs.ab RB.out b2).setOther (a:=⟨w.heap.size+1,6,none⟩) HB.out (.slice (some ⟨bP,0,none⟩) M M))
 have RL':=hid ((rowIs.ab RL.out b2).setOther (a:=⟨w.heap.size+1,6,none⟩) HL.out (.slice (some ⟨bP,0,none⟩) M M))
 have A':=hid (Ab.setk (A.out.call b2) (g:=w.heap.size+1) (k:=6) (by omega) (.slice (some ⟨bP,0,none⟩) M M))
 rw[huP]at G' RP A' RA' RB' RL'
 clear LL R2 hlt G A hbP x1 x2 b2 huP RA RB RL
 clear w2 uL
 have G:=G'
 have A:=A'
 have RA:=RA'
 have RB:=RB'
 have RL:=RL'
 clear G' A' RA' RB' RL'
 go_wp2
 go_ret2
 refine⟨w.heap.size+1,rfl,A.out,by omega,?_⟩
 have hN:=HN.out
 have hM:=HM.out
 subst hN hM
 exact⟨w.heap.size,eb,cap,_,bB,bA,bL,bP,G.out,RB.out.congr (fun i _=>by unfold bhC;rfl),RA.out,RL.out,RP.out⟩
end
section
open Go.RowKit Cu Tf
attribute [local go_sem] aG
theorem new_no(n:Int)(w:World)(h: ¬(1<=n/\n<=32)):
  Calls prog 6 #[.int .i64 n] w fun e w'=>e=.returned (.tuple #[.pointer none,.int .i64 10])/\w'=w:=by
 have CE:=hid (fun u=>fU n u)
 have hz:clN n=0:=by unfold clN;rw[if_neg h]
 rw[hz]at CE
 clear h hz
 go_enter func6,ntmps6
 go_wp2_with (go_at_call 18;refine(CE.out _).mono ?_;rintro e w' ⟨rfl,rfl⟩)
 go_ret2
 exact⟨rfl,rfl⟩
theorem fO(k n:Int)(w:World):Calls prog 35 #[.int .i64 k,.int .i64 n] w fun e w'=>e=.returned (.bool (inR k n))/\w'=w:=by
 by_cases h:0<=k
 ·go_enter func35,ntmps35
  go_wp2
  go_ret
  exact⟨by simp[inR,h],rfl⟩
 ·go_enter func35,ntmps35
  go_wp2
  go_ret
  exact⟨by simp[inR];omega,rfl⟩
theorem dT{n gb:Nat}{w:World}(g:GridOf n gb w):Calls prog 14 #[.pointer (some ⟨gb,0,none⟩)] w fun e w'=>e=.returned (.int .i64 (6*n*n:Nat))/\w'=w:=by
 obtain⟨mb,eb,cap,m,bb,ab,lb,pb,h1,-⟩:=g
 obtain⟨-,-,-,-,c4,-⟩:=h1.cells
 generalize 6*n*n=N at*
 clear h1
 go_enter func14,ntmps14
 go_wp2
 go_ret
 exact⟨rfl,rfl⟩
theorem cY{n gb:Nat}{w:World}(g:GridOf n gb w):Calls prog 15 #[.pointer (some ⟨gb,0,none⟩)] w fun e w'=>e=.returned (.int .i64 (12*n*n:Nat))/\w'=w:=by
 obtain⟨mb,eb,cap,m,bb,ab,lb,pb,h1,-⟩:=g
 obtain⟨-,c1,-⟩:=h1.cells
 clear h1
 generalize 12*n*n=M at*
 go_enter func15,ntmps15
 go_wp2
 go_ret
 exact⟨rfl,rfl⟩
theorem jW{k N:Nat}(h:k<N):inR (k:Int) (N:Int)=true:=by rw[aN];omega
theorem gEdge_ok{n gb t:Nat}{w:World}(hn:1<=n/\n<=32)(ht:t<24*n*n)(hl:isL n t=true)(g:GridOf n gb w):
  Calls prog 36 #[.pointer (some ⟨gb,0,none⟩),.int .i64 (eN n t:Nat)] w fun e w'=>e=.returned (.tuple #[.agg #[.int .i64 (t/4:Nat),.int .i64 (t%4:Nat),.int .i64 (bsC n (t/4) (t%4):Nat),.int .i64 (bsS n (t/4) (t%4):Nat)],.bool true])/\Below w.heap.size w w':=by
 have E1:=hid (cY (g.to (bl1 w (.cells #[.int .i64 0,.int .i64 0,.int .i64 0,.int .i64 0] 73))))
 have C1:=hid (fun u=>fO (eN n t:Nat) (12*n*n:Nat) u)
 rw[jW (fK hn.1 ht hl)]at C1
 obtain⟨mb,eb,cap,m,bb,ab,lb,pb,h1,-⟩:=g
 obtain⟨-,c1,-⟩:=h1.cells
 obtain⟨y0,y1,y2,y3⟩:=h1.2.1.2 t ht hl
 have lg:=lt_of_block h1.1
 have le:=h1.2.1.1
 have kN:=fK hn.1 ht hl
 have R0:=hid (heap_alloc_new w (.cells #[.int .i64 0,.int .i64 0,.int .i64 0,.int .i64 0] 73))
 have A0:=hid (bl1 w (.cells #[.int .i64 0,.int .i64 0,.int .i64 0,.int .i64 0] 73))
 generalize bsC n (t/4) (t%4)=d at*
 generalize bsS n (t/4) (t%4)=b at*
 generalize t/4=c at*
 generalize t%4=s at*
 generalize eN n t=k at*
 generalize 12*n*n=M at*
 have hk1:(k:Int)<M:=by omega
 clear h1 hn ht hl
 go_enter func36,ntmps36
 go_wp2_with (first
  | (go_at_call 15;refine(E1.out).mono ?_;rintro e w' ⟨rfl,hw⟩;have hw2:=hw.symm;subst hw2)
  | (go_at_call 35;refine(C1.out _).mono ?_;rintro e w' ⟨rfl,hw⟩;have hw2:=hw.symm;subst hw2))
 refine bodyPost_ret ?_ rfl ⟨rfl,?_⟩
 ·exact cA results36 _ _ w.heap.size _ _ (0,0) _ _ rfl rfl (heap_alloc_new w _) underlying73 rfl (by kernel_rfl)
 ·exact bl1 w _
theorem pR{n gb t:Nat}{w:World}(hn:1<=n/\n<=32)(ht:t<24*n*n)(hl:isL n t=true)(g:GridOf n gb w):
  Calls prog 37 #[.pointer (some ⟨gb,0,none⟩),.int .i64 (eN n t:Nat)] w fun e w'=>e=.returned (.tuple #[.int .i64 (bsC n (t/4) ((t%4+2)%4):Nat),.int .i64 (bsC n (bsC n (t/4) (t%4)) ((bsS n (t/4) (t%4)+2)%4):Nat),.bool true])/\Below w.heap.size w w':=by
 have E1:=hid (cY g)
 have C1:=hid (fun u=>fO (eN n t:Nat) (12*n*n:Nat) u)
 have kN:=fK hn.1 ht hl
 rw[jW kN]at C1
 obtain⟨mb,eb,cap,m,bb,ab,lb,pb,h1,h2,-⟩:=g
 obtain⟨-,-,-,c3,-⟩:=h1.cells
 have y0:=h2.cell (i:=eN n t*2) (by omega)
 have y1:=h2.cell (i:=eN n t*2+1) (by omega)
 have e0:bhC n (eN n t*2)=(bsC n (t/4) ((t%4+2)%4):Nat):=by
  unfold bhC
  rw[if_pos (by omega),show eN n t*2/2=eN n t by omega,edT_eN hn.1 ht hl]
 have e1:bhC n (eN n t*2+1)=(bsC n (bsC n (t/4) (t%4)) ((bsS n (t/4) (t%4)+2)%4):Nat):=by
  unfold bhC
  rw[if_neg (by omega),show(eN n t*2+1)/2=eN n t by omega,edT_eN hn.1 ht hl]
 rw[e0]at y0
 rw[e1]at y1
 have lg:=lt_of_block h1.1
 have le:=h2.lt
 clear e0 e1 h2
 generalize bsC n (bsC n (t/4) (t%4)) ((bsS n (t/4) (t%4)+2)%4)=q2 at*
 generalize bsC n (t/4) ((t%4+2)%4)=q1 at*
 generalize eN n t=k at*
 generalize 12*n*n=M at*
 have hk1:(k:Int)<M:=by omega
 clear h1 hn ht hl
 go_enter func37,ntmps37
 go_upto_region 4 with(first
  | (go_at_call 15;refine(E1.out).mono ?_;rintro e w' ⟨rfl,hw⟩;have hw2:=hw.symm;subst hw2)
  | (go_at_call 35;refine(C1.out _).mono ?_;rintro e w' ⟨rfl,hw⟩;have hw2:=hw.symm;subst hw2))
 go_region
 go_wp2
 refine bodyPost_ret ?_ rfl ⟨rfl,?_⟩
 ·simp[results,results37,go_sem]
 ·first | exact bl1 w _ | exact Below.drew (bl1 w _)
theorem nY{n gb k:Nat}{w:World}(hn:1<=n/\n<=32)(hk:k<6*n*n)(g:GridOf n gb w):
  Calls prog 12 #[.pointer (some ⟨gb,0,none⟩),.int .i64 k] w fun e w'=>e=.returned (.int .i64 (arI (ArC n k)))/\Below w.heap.size w w':=by
 have E1:=hid (dT g)
 have C1:=hid (fun u=>fO (k:Nat) (6*n*n:Nat) u)
 have hN:=(n12 hn)
 rw[jW hk]at C1
 obtain⟨mb,eb,cap,m,bb,ab,lb,pb,h1,-,hr,-⟩:=g
 have c0:=h1.cells.2.2.2.2.1
 have y0:=hr.cell hk
 have lg:=lt_of_block h1.1
 have le:=hr.lt
 clear hr
 generalize arI (ArC n k)=V at*
 have hk2:((6*n*n:Nat):Int)<=12288:=by omega
 generalize 6*n*n=M at*
 have hk1:(k:Int)<M:=by omega
 clear h1 hn hN hk
 go_enter func12,ntmps12
 go_wp2_with (first
  | (go_at_call 14;refine(E1.out).mono ?_;rintro e w' ⟨rfl,hw⟩;have hw2:=hw.symm;subst hw2)
  | (go_at_call 35;refine(C1.out _).mono ?_;rintro e w' ⟨rfl,hw⟩;have hw2:=hw.symm;subst hw2))
 go_ret
 exact⟨rfl,Below.refl _ _⟩
end
section
open Go.RowKit Cu
theorem rplus_ex(p:P3)(k:Int)(q:P3)(w:World)(hp:Sm p)(hr:Sm (sc k q)):
  Calls prog 44 #[.agg #[.int .i64 p.1,.int .i64 p.2.1,.int .i64 p.2.2],.int .i64 k,.agg #[.int .i64 q.1,.int .i64 q.2.1,.int .i64 q.2.2]] w fun e w'=>e=.returned (.agg #[.int .i64 (pl p (sc k q)).1,.int .i64 (pl p (sc k q)).2.1,.int .i64 (pl p (sc k q)).2.2])/\w'=((w.alloc (.cells #[.int .i64 p.1,.int .i64 p.2.1,.int .i64 p.2.2] 92)).alloc (.cells #[.int .i64 q.1,.int .i64 q.2.1,.int .i64 q.2.2] 92)).alloc (.cells #[.int .i64 (pl p (sc k q)).1,.int .i64 (pl p (sc k q)).2.1,.int .i64 (pl p (sc k q)).2.2] 92):=by
 obtain⟨x,y,z⟩:=p
 obtain⟨a,b,c⟩:=q
 obtain⟨hx,hy,hz⟩:=hp
 obtain⟨ha,hb,hc⟩:=hr
 simp only[pl,sc]at*
 go_enter func44,ntmps44
 go_wp2
 refine bodyPost_ret ?_ rfl ⟨rfl,rfl⟩
 exact results_cell_row results44 _ _ (w.heap.size+2) _ _ (0,0) _ rfl (aV _ _ _ _) underlying92 rfl (by kernel_rfl)
theorem aY(p:P3)(k:Int)(q:P3)(w:World)(hp:Sm p)(hr:Sm (sc k q)):
  Calls prog 44 #[.agg #[.int .i64 p.1,.int .i64 p.2.1,.int .i64 p.2.2],.int .i64 k,.agg #[.int .i64 q.1,.int .i64 q.2.1,.int .i64 q.2.2]] w fun e w'=>e=.returned (.agg #[.int .i64 (pl p (sc k q)).1,.int .i64 (pl p (sc k q)).2.1,.int .i64 (pl p (sc k q)).2.2])/\Below w.heap.size w w':=
 (rplus_ex p k q w hp hr).mono fun _ _ ⟨he,hw⟩=>⟨he,hw ▸ bl3 _ _ _ _⟩
theorem cT(p q:P3)(w:World)(hp:Sm p)(hq:Un q):
  Calls prog 48 #[.agg #[.int .i64 p.1,.int .i64 p.2.1,.int .i64 p.2.2],.agg #[.int .i64 q.1,.int .i64 q.2.1,.int .i64 q.2.2]] w fun e w'=>e=.returned (.int .i64 (dt p q))/\Below w.heap.size w w':=by
 obtain⟨x,y,z⟩:=p
 obtain⟨a,b,c⟩:=q
 have hx:=(aZ hq.1 10000 hp.1).1
 have hy:=(aZ hq.2.1 10000 hp.2.1).1
 have hz:=(aZ hq.2.2 10000 hp.2.2).1
 clear hp hq
 simp only[dt]at*
 go_enter func48,ntmps48
 go_wp2
 go_ret
 exact⟨rfl,bl2 _ _ _⟩
theorem bK{P:Program}{fn:Func}{p q r:Tmp}{ty:TypeId}(h:fn.results= #[.cell p ty,.cell q ty,.cell r ty])(tmps:Array Value)(w:World)(g0 g1 g2:Nat)(t:TypeId)(c0 c1 c2:Array Value)(d:TypeDesc)
  (hp:tmps.getD p undef=.pointer (some ⟨g0,0,none⟩)) (hq:tmps.getD q undef=.pointer (some ⟨g1,0,none⟩)) (hr:tmps.getD r undef=.pointer (some ⟨g2,0,none⟩))
  (h0:w.heap[g0]? =some (.cells c0 t)) (h1:w.heap[g1]? =some (.cells c1 t)) (h2:w.heap[g2]? =some (.cells c2 t))
  (hu:P.underlying ty=some d) (hd:(match d with | .struct _ | .array _ _=>true | _=>false)=true) (i0:(P.info? ty).map (·.size)=some c0.size) (i1:(P.info? ty).map (·.size)=some c1.size) (i2:(P.info? ty).map (·.size)=some c2.size):
  (results fn tmps).run P w=.ok (.tuple #[.agg c0,.agg c1,.agg c2]) w:=by
 have hp':tmps[p]?.getD undef=.pointer (some ⟨g0,0,none⟩):=by simpa using hp
 have hq':tmps[q]?.getD undef=.pointer (some ⟨g1,0,none⟩):=by simpa using hq
 have hr':tmps[r]?.getD undef=.pointer (some ⟨g2,0,none⟩):=by simpa using hr
 simp[results,h,hp',hq',hr',asAddr,run_loadVar_row w g0 t ty c0 (0,0) d h0 hu hd i0,run_loadVar_row w g1 t ty c1 (0,0) d h1 hu hd i1,run_loadVar_row w g2 t ty c2 (0,0) d h2 hu hd i2]
def A3(W:World)(g:Nat)(w:World):Prop:=
 (w.os=W.os/\w.tape=W.tape/\w.output=W.output/\W.heap.size<=w.heap.size/\ ∀k,k<W.heap.size->(k<g\/g+3<=k)->w.heap[k]? =W.heap[k]?)/\
 ∀j,j<3-> ∃a b c:Value,w.heap[g+j]? =some (.cells #[a,b,c] 92)
theorem Ab.a3{W w:World}(h:Ab W w){g:Nat}(hg: ∀j,j<3-> ∃a b c:Value,W.heap[g+j]? =some (.cells #[a,b,c] 92)):A3 W g w:=
 ⟨⟨Below.os h,Below.tape h,Below.output h,Below.size h,fun k hk _=>Below.block h k hk⟩,fun j hj=>by obtain⟨a,b,c,e⟩:=hg j hj;exact⟨a,b,c,h.heap e⟩⟩
theorem A3.drew{W w:World}{g:Nat}(a:A3 W g w):A3 W g w.drew:=a
theorem A3.call{W u w:World}{g:Nat}(a:A3 W g u)(b:Below u.heap.size u w):A3 W g w:=by
 obtain⟨⟨h1,h2,h3,h4,h5⟩,h6⟩:=a
 refine⟨⟨b.os.trans h1,b.tape.trans h2,b.output.trans h3,Nat.le_trans h4 b.size,fun k hk hne=>(b.block k (by omega)).trans (h5 k hk hne)⟩,fun j hj=> ?_⟩
 obtain⟨x,y,z,e⟩:=h6 j hj
 exact⟨x,y,z,(b.block _ (lt_of_block e)).trans e⟩
theorem A3.set{W w:World}{g:Nat}(a:A3 W g w)(i:Nat)(hi:i<3)(k:Nat)(v:Value):A3 W g (w.setCell ⟨g+i,k,none⟩ v):=by
 obtain⟨⟨h1,h2,h3,h4,h5⟩,h6⟩:=a
 refine⟨⟨h1,h2,h3,by simpa [World.setCell]using h4,fun l hl hne=>(Below.heap_setCell _ _ _ _ (by show l≠g+i;omega)).trans (h5 l hl hne)⟩,fun j hj=> ?_⟩
 obtain⟨x,y,z,e⟩:=h6 j hj
 by_cases hji:j=i
 ·subst hji
  obtain⟨p,q,r,e2⟩:=set_k (a:=x) (b:=y) (c:=z) (v:=v) k
  have o:=aI (k:=k) (v:=v) e
  rw[e2]at o
  exact⟨p,q,r,o⟩
 ·exact⟨x,y,z,(Below.heap_setCell _ _ _ _ (by show g+j≠g+i;omega)).trans e⟩
theorem A3.heap{W w:World}{g k:Nat}{o:Obj}(a:A3 W g w)(n1:k<g\/g+3<=k)(hk:W.heap[k]? =some o):w.heap[k]? =some o:=by
 have hlt:k<W.heap.size:=by
  rcases Nat.lt_or_ge k W.heap.size with h1 | h1
  ·exact h1
  ·rw[Array.getElem?_eq_none h1]at hk;cases hk
 exact(a.1.2.2.2.2 k hlt n1).trans hk
theorem A3.ab{w0 W w:World}{g:Nat}(a:A3 W g w)(b:Ab w0 W)(hg:w0.heap.size<=g):Ab w0 w:=by
 obtain⟨⟨h1,h2,h3,h4,h5⟩,_⟩:=a
 exact⟨h1.trans b.os,h2.trans b.tape,h3.trans b.output,Nat.le_trans (Below.size b) h4,fun k hk=>(h5 k (Nat.lt_of_lt_of_le hk (Below.size b)) (by omega)).trans (b.block k hk)⟩
theorem A3.facts{W w:World}{g:Nat}(a:A3 W g w)(j:Nat)(hj:j<3):(w.frozen? ⟨g+j,0,none⟩=false/\w.frozen? ⟨g+j,1,none⟩=false/\w.frozen? ⟨g+j,2,none⟩=false)/\w.cell? ⟨g+j,0,none⟩=some (rv w (g+j) 0)/\w.cell? ⟨g+j,1,none⟩=some (rv w (g+j) 1)/\w.cell? ⟨g+j,2,none⟩=some (rv w (g+j) 2):=by
 obtain⟨x,y,z,hg⟩:=a.2 j hj
 have e: ∀k,w.cell? ⟨g+j,k,none⟩= #[x,y,z][k]? :=fun k=>cell_of_row _ _ k _ _ _ hg
 refine⟨⟨aE hg 0,aE hg 1,aE hg 2⟩,?_,?_,?_⟩<;>simp[rv,e]
end
end Go.Proofs.YtilfdnipahabbaaDoor
