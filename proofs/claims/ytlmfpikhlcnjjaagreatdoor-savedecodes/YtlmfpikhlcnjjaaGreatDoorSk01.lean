/-
  Some of the texts of this proof, one behind the other.
-/
import Derived.Deep.Quiet
import Derived.BigQuiet
import Derived.Maps.AppendAt
import Ieee.Arith
import Derived.Deep.MidRow
import Derived.Test.YtlmfpikhlcnjjaaGreatDoorSk00
set_option maxRecDepth 100000
set_option maxHeartbeats 400000000
namespace Go.Proofs.YtlmfpikhlcnjjaaGreatDoor
open _root_.Go.Proofs.Tryz
section
open Go.RowKit Cu
theorem least_u(N k0:Nat)(m:Nat->Bool)(g0 g1:Nat)(w:World)(hN:(N:Int)<=24)(hk:(k0:Int)<N)(h1:m k0=true)(h2: ∀k,k<k0->m k=false)
  (H:Hid (∀k:Nat,k<N-> ∀w',Ab w w'->Calls prog 95 #[.int .i64 k,.pointer (some ⟨g0,0,none⟩),.pointer (some ⟨g1,0,none⟩)] w' fun e w''=>e=.returned (.bool (m k))/\Below w'.heap.size w' w'')):
  Calls prog 94 #[.int .i64 N,.func (.func 95) #[] #[.pointer (some ⟨g0,0,none⟩),.pointer (some ⟨g1,0,none⟩)]] w fun e w'=>e=.returned (.int .i64 k0)/\Below w.heap.size w w':=by
 have H1:=hid h1
 have H2:=hid h2
 clear h1 h2
 go_enter func94,ntmps94
 go_wp2
 go_loopw [7] (fun iv wr=> ∃k:Nat,k<=k0/\iv=.int .i64 (k:Nat)/\Ab w wr) (fun iv _=>k0 - (intOf iv).toNat)
 case atStart=>exact⟨0,by omega,rfl,Ab.refl _⟩
 case round=>
  obtain⟨k,hk0,rfl,A⟩:=hrel
  have hkN:(k:Int)<N:=by omega
  by_cases he:k=k0
  ·subst he
   have C:=H.out k (by omega) wr A
   rw[H1.out]at C
   have C':=hid C
   clear C H H1 H2
   go_wp2_with fail
   refine C'.out.mono ?_
   rintro e w1 ⟨rfl,b1⟩
   go_wp2
   go_ret
   exact⟨rfl,A.call b1⟩
  ·have C:=H.out k (by omega) wr A
   rw[H2.out k (by omega)]at C
   have C':=hid C
   clear C
   go_wp2_with fail
   refine C'.out.mono ?_
   rintro e w1 ⟨rfl,b1⟩
   go_wp2
   go_roundw
   case rel=>exact⟨k+1,by omega,by simp,A.call b1⟩
   case measure=>simp[intOf];omega
theorem least_s(N k0:Nat)(m:Nat->Bool)(g0 g1:Nat)(w:World)(hN:(N:Int)<=24)(hk:(k0:Int)<N)(h1:m k0=true)(h2: ∀k,k<k0->m k=false)
  (H:Hid (∀k:Nat,k<N-> ∀w',Ab w w'->Calls prog 96 #[.int .i64 k,.pointer (some ⟨g0,0,none⟩),.pointer (some ⟨g1,0,none⟩)] w' fun e w''=>e=.returned (.bool (m k))/\Below w'.heap.size w' w'')):
  Calls prog 94 #[.int .i64 N,.func (.func 96) #[] #[.pointer (some ⟨g0,0,none⟩),.pointer (some ⟨g1,0,none⟩)]] w fun e w'=>e=.returned (.int .i64 k0)/\Below w.heap.size w w':=by
 have H1:=hid h1
 have H2:=hid h2
 clear h1 h2
 go_enter func94,ntmps94
 go_wp2
 go_loopw [7] (fun iv wr=> ∃k:Nat,k<=k0/\iv=.int .i64 (k:Nat)/\Ab w wr) (fun iv _=>k0 - (intOf iv).toNat)
 case atStart=>exact⟨0,by omega,rfl,Ab.refl _⟩
 case round=>
  obtain⟨k,hk0,rfl,A⟩:=hrel
  have hkN:(k:Int)<N:=by omega
  by_cases he:k=k0
  ·subst he
   have C:=H.out k (by omega) wr A
   rw[H1.out]at C
   have C':=hid C
   clear C H H1 H2
   go_wp2_with fail
   refine C'.out.mono ?_
   rintro e w1 ⟨rfl,b1⟩
   go_wp2
   go_ret
   exact⟨rfl,A.call b1⟩
  ·have C:=H.out k (by omega) wr A
   rw[H2.out k (by omega)]at C
   have C':=hid C
   clear C
   go_wp2_with fail
   refine C'.out.mono ?_
   rintro e w1 ⟨rfl,b1⟩
   go_wp2
   go_roundw
   case rel=>exact⟨k+1,by omega,by simp,A.call b1⟩
   case measure=>simp[intOf];omega
theorem sD(k n:Nat)(p:P3)(g0 g1:Nat)(w:World)(hk:k<6)(hp:Sm p)(h:Fr w)(hg0:g0<w.heap.size)(hg1:g1<w.heap.size)(ha:Pc w g0 0 p)(hs:w.cell? ⟨g1,0,none⟩=some (.int .i64 n)):
  Calls prog 95 #[.int .i64 k,.pointer (some ⟨g0,0,none⟩),.pointer (some ⟨g1,0,none⟩)] w fun e w'=>e=.returned (.bool (decide (dt p (cC k)=n)))/\Below w.heap.size w w':=by
 obtain⟨U,F,hF1,hF2⟩:=cls w
 have HF:=hid hF2
 have HF1:=hid hF1
 have x0: ∀u,(F u).cell? ⟨g0,0,none⟩=some (.int .i64 p.1):=fun u=>((hF1 u).pc hg0 ha).1
 have x1: ∀u,(F u).cell? ⟨g0,1,none⟩=some (.int .i64 p.2.1):=fun u=>((hF1 u).pc hg0 ha).2.1
 have x2: ∀u,(F u).cell? ⟨g0,2,none⟩=some (.int .i64 p.2.2):=fun u=>((hF1 u).pc hg0 ha).2.2
 have x3: ∀u,(F u).cell? ⟨g1,0,none⟩=some (.int .i64 n):=fun u=>(Below.cell (hF1 u) (by exact hg1)).trans hs
 have y0: ∀u,(F u).cell? ⟨1,k*9,none⟩=some (.int .i64 (cC k).1):=fun u=>((h.to (hF1 u)).2 k hk).1.1
 have y1: ∀u,(F u).cell? ⟨1,k*9+1,none⟩=some (.int .i64 (cC k).2.1):=fun u=>((h.to (hF1 u)).2 k hk).1.2.1
 have y2: ∀u,(F u).cell? ⟨1,k*9+2,none⟩=some (.int .i64 (cC k).2.2):=fun u=>((h.to (hF1 u)).2 k hk).1.2.2
 have T:=hid (fun w=>fK p (cC k) w hp (un_C hk))
 have hk':(k:Int)<6:=by omega
 have D:=HF.out _ (Ab.refl w).drew
 clear hF1 hF2 h ha hs hk
 go_enter func95,ntmps95
 go_wp2_with fail
 refine aR F (by kernel_rfl) (by kernel_rfl) D ?_
 repeat(go_big_quiet_step (first | rfl | (go_at_call 80;exact aP HF HF1 (T.out _))))
 refine wpQuiet_nil ?_
 intro wz hwz
 obtain⟨u,rfl⟩:=hwz
 go_wp2
 go_ret
 exact⟨by simp[Bool.beq_eq_decide_eq],HF1.out u⟩
theorem pR(k f:Nat)(p:P3)(g0 g1:Nat)(w:World)(hk:k<4)(hf:f<6)(h:Fr w)(hg0:g0<w.heap.size)(hg1:g1<w.heap.size)(ha:Pc w g1 0 p)(hs:w.cell? ⟨g0,0,none⟩=some (.int .i64 f)):
  Calls prog 96 #[.int .i64 k,.pointer (some ⟨g0,0,none⟩),.pointer (some ⟨g1,0,none⟩)] w fun e w'=>e=.returned (.bool (decide (wy f k=p)))/\Below w.heap.size w w':=by
 obtain⟨U,F,hF1,hF2⟩:=cls w
 have HF:=hid hF2
 have HF1:=hid hF1
 have x0: ∀u,(F u).cell? ⟨g1,0,none⟩=some (.int .i64 p.1):=fun u=>((hF1 u).pc hg1 ha).1
 have x1: ∀u,(F u).cell? ⟨g1,1,none⟩=some (.int .i64 p.2.1):=fun u=>((hF1 u).pc hg1 ha).2.1
 have x2: ∀u,(F u).cell? ⟨g1,2,none⟩=some (.int .i64 p.2.2):=fun u=>((hF1 u).pc hg1 ha).2.2
 have x3: ∀u,(F u).cell? ⟨g0,0,none⟩=some (.int .i64 f):=fun u=>(Below.cell (hF1 u) (by exact hg0)).trans hs
 have T:=hid (fun u=>way_at f k (F u) hf hk (h.to (hF1 u)))
 have D:=HF.out _ (Ab.refl w).drew
 have EQ: ∀u,(Op.equalIn 10000 109 (.agg #[.int .i64 (wy f k).1,.int .i64 (wy f k).2.1,.int .i64 (wy f k).2.2]) (.agg #[.int .i64 p.1,.int .i64 p.2.1,.int .i64 p.2.2])).run prog (F u)=.ok (decide (wy f k=p)) (F u):=fun u=>pt_cmp 9998 _ _ _
 clear hF1 hF2 h ha hs hk hf
 go_enter func96,ntmps96
 go_wp2_with fail
 refine aR F (by kernel_rfl) (by kernel_rfl) D ?_
 repeat(go_big_quiet_step (first | rfl | (go_at_call 76;exact aP HF HF1 (T.out _))))
 refine wpQuiet_nil ?_
 intro wz hwz
 obtain⟨u,rfl⟩:=hwz
 go_wp2
 go_ret
 exact⟨rfl,HF1.out u⟩
end
section
open Go.RowKit Cu
theorem wr6{x:Int}(h: -1000000<=x/\x<=1000000):wrap64 x=x:=by unfold wrap64;omega
theorem nG{w W w':World}(h:Ab w W)(b:Below W.heap.size W w'):Below w.heap.size w w':=h.call b
theorem sE(f s:Nat)(p:P3)(w:World)(hf:f<6)(hs:s<4)(hp:wy f s=p)(h:Fr w):
  Calls prog 83 #[.int .i64 f,.agg #[.int .i64 p.1,.int .i64 p.2.1,.int .i64 p.2.2]] w fun e w'=>e=.returned (.int .i64 s)/\Below w.heap.size w w':=by
 have hmf: ∀(fn:Fn) (first cap:Array Value) (w:World),(Instr.makeFunc fn first cap).run prog w=.ok (.func fn first cap) w:=fun _ _ _ _=>rfl
 have A1:Ab w ((w.alloc (.cells #[.int .i64 f] 3)).alloc (.cells #[.int .i64 p.1,.int .i64 p.2.1,.int .i64 p.2.2] 109)):=bl2 _ _ _
 have L:=hid (least_s 4 s (fun k=>decide (wy f k=p)) w.heap.size (w.heap.size+1) ((w.alloc (.cells #[.int .i64 f] 3)).alloc (.cells #[.int .i64 p.1,.int .i64 p.2.1,.int .i64 p.2.2] 109)) (by decide) (by omega) (by simp[hp])
  (fun k hk=>by simp only[decide_eq_false_iff_not];intro e;have:=wy_inj f hf s hs k (by omega) (e.trans hp.symm);omega)
  (hid (fun k hk w' hw=>pR k f p w.heap.size (w.heap.size+1) w' hk hf (h.to (A1.trans hw)) (Nat.lt_of_lt_of_le (by simp;omega) hw.size) (Nat.lt_of_lt_of_le (by simp) hw.size)
   (pc_row (hw.heap (heap_alloc2_new _ _ _))) (aA 0 (hw.heap (heap_alloc2_old _ _ _))))))
 have AW:=hid A1
 clear hp h A1
 go_enter func83,ntmps83
 go_wp2_with fail
 refine L.out.mono ?_
 rintro e w1 ⟨rfl,b1⟩
 go_wp2
 go_ret
 exact⟨rfl,nG AW.out b1⟩
theorem under_at(n f i j:Nat)(p:P3)(w:World)(hn:1<=n/\n<=32)(hf:f<6)(hi:i<n)(hj:j<n)(hp:md n f i j=p)(h:Fr w):
  Calls prog 81 #[.int .i64 n,.agg #[.int .i64 p.1,.int .i64 p.2.1,.int .i64 p.2.2]] w fun e w'=>e=.returned (.tuple #[.int .i64 f,.int .i64 i,.int .i64 j])/\Below w.heap.size w w':=by
 have hmf: ∀(fn:Fn) (first cap:Array Value) (w:World),(Instr.makeFunc fn first cap).run prog w=.ok (.func fn first cap) w:=fun _ _ _ _=>rfl
 have A1:Ab w ((w.alloc (.cells #[.int .i64 n] 3)).alloc (.cells #[.int .i64 p.1,.int .i64 p.2.1,.int .i64 p.2.2] 109)):=bl2 _ _ _
 have hm:=md_le hf hi hj hn.2
 rw[hp]at hm
 have hsm:Sm p:=by unfold Sm;omega
 have hd:=md_dt (n:=n) (i:=i) (j:=j) hf
 rw[hp]at hd
 have L:=hid (least_u 6 f (fun k=>decide (dt p (cC k)=n)) (w.heap.size+1) w.heap.size ((w.alloc (.cells #[.int .i64 n] 3)).alloc (.cells #[.int .i64 p.1,.int .i64 p.2.1,.int .i64 p.2.2] 109)) (by decide) (by omega) (by simp[hd.1])
  (fun k hk=>by simp only[decide_eq_false_iff_not];rw[<- hp,md_face hf (by omega) hi hj];omega)
  (hid (fun k hk w' hw=>sD k n p (w.heap.size+1) w.heap.size w' hk hsm (h.to (A1.trans hw)) (Nat.lt_of_lt_of_le (by simp) hw.size) (Nat.lt_of_lt_of_le (by simp;omega) hw.size)
   (pc_row (hw.heap (heap_alloc2_new _ _ _))) (aA 0 (hw.heap (heap_alloc2_old _ _ _))))))
 have T1:Hid (∀w,Calls prog 80 #[.agg #[.int .i64 p.1,.int .i64 p.2.1,.int .i64 p.2.2],.agg #[.int .i64 (cR f).1,.int .i64 (cR f).2.1,.int .i64 (cR f).2.2]] w fun e w'=>e=.returned (.int .i64 (2*i+1 - n))/\Below w.heap.size w w'):=fun w=>by rw[<- hd.2.1];exact fK p (cR f) w hsm (un_R hf)
 have T2:Hid (∀w,Calls prog 80 #[.agg #[.int .i64 p.1,.int .i64 p.2.1,.int .i64 p.2.2],.agg #[.int .i64 (cU f).1,.int .i64 (cU f).2.1,.int .i64 (cU f).2.2]] w fun e w'=>e=.returned (.int .i64 (2*j+1 - n))/\Below w.heap.size w w'):=fun w=>by rw[<- hd.2.2];exact fK p (cU f) w hsm (un_U hf)
 have AW:=hid A1
 have HH:=hid h
 have hf':(f:Int)<6:=by omega
 have V1:Hid (wrap64 ((wrap64 (wrap64 (2*(i:Int)+1) - 1)).tdiv 2)=i):=by
  show _=_
  rw[wr6 (x:=2*(i:Int)+1) (by omega),show 2*(i:Int)+1 - 1=2*i by omega,wr6 (x:=2*(i:Int)) (by omega),Int.mul_tdiv_cancel_left _ (by decide)];exact wr6 (by omega)
 have V2:Hid (wrap64 ((wrap64 (wrap64 (2*(j:Int)+1) - 1)).tdiv 2)=j):=by
  show _=_
  rw[wr6 (x:=2*(j:Int)+1) (by omega),show 2*(j:Int)+1 - 1=2*j by omega,wr6 (x:=2*(j:Int)) (by omega),Int.mul_tdiv_cancel_left _ (by decide)];exact wr6 (by omega)
 have HN:=hid hn
 have H0:=h.1
 clear hp h A1 hd hsm hm hn hi hj
 go_enter func81,ntmps81
 go_wp2_with fail
 refine L.out.mono ?_
 rintro e w1 ⟨rfl,b1⟩
 have A2:Ab w w1:=nG AW.out b1
 obtain⟨⟨k0,k1,k2⟩,⟨k3,k4,k5⟩,⟨k6,k7,k8⟩⟩:=(HH.out.to A2).2 f (by omega)
 have hz:1<w1.heap.size:=Nat.lt_of_lt_of_le H0 A2.size
 have B1:=hid b1
 have A2':=hid A2
 clear b1 A2 L HN
 go_upto_region 3 with fail
 generalize hW:World.alloc w1 _=W
 have A3:Ab w1 W:=by rw[<- hW];exact bl1 _ _
 have r8:W.heap[w1.heap.size]? =some (.cells #[.int .i64 (cC f).1,.int .i64 (cC f).2.1,.int .i64 (cC f).2.2,.int .i64 (cR f).1,.int .i64 (cR f).2.1,.int .i64 (cR f).2.2,.int .i64 (cU f).1,.int .i64 (cU f).2.1,.int .i64 (cU f).2.2] 116):=by rw[<- hW];exact heap_alloc_new _ _
 have A4:Ab ((w.alloc (.cells #[.int .i64 n] 3)).alloc (.cells #[.int .i64 p.1,.int .i64 p.2.1,.int .i64 p.2.2] 109)) W:=Ab.trans B1.out A3
 have r3:=A4.heap (heap_alloc2_new _ _ _)
 have r2:=A4.heap (heap_alloc2_old _ _ _)
 obtain⟨U,F,hF1,hF2⟩:=cls W
 have HF:=hid hF2
 have HF1:=hid hF1
 have x0: ∀u,(F u).cell? ⟨w.heap.size+1,0,none⟩=some (.int .i64 p.1):=fun u=>aA 0 ((hF1 u).heap r3)
 have x1: ∀u,(F u).cell? ⟨w.heap.size+1,1,none⟩=some (.int .i64 p.2.1):=fun u=>aA 1 ((hF1 u).heap r3)
 have x2: ∀u,(F u).cell? ⟨w.heap.size+1,2,none⟩=some (.int .i64 p.2.2):=fun u=>aA 2 ((hF1 u).heap r3)
 have x3: ∀u,(F u).cell? ⟨w.heap.size,0,none⟩=some (.int .i64 n):=fun u=>aA 0 ((hF1 u).heap r2)
 have y0: ∀u,(F u).cell? ⟨w1.heap.size,3,none⟩=some (.int .i64 (cR f).1):=fun u=>aA 3 ((hF1 u).heap r8)
 have z0: ∀u,(F u).cell? ⟨w1.heap.size,6,none⟩=some (.int .i64 (cU f).1):=fun u=>aA 6 ((hF1 u).heap r8)
 have y1: ∀u,(F u).cell? ⟨w1.heap.size,4,none⟩=some (.int .i64 (cR f).2.1):=fun u=>aA 4 ((hF1 u).heap r8)
 have z1: ∀u,(F u).cell? ⟨w1.heap.size,7,none⟩=some (.int .i64 (cU f).2.1):=fun u=>aA 7 ((hF1 u).heap r8)
 have y2: ∀u,(F u).cell? ⟨w1.heap.size,5,none⟩=some (.int .i64 (cR f).2.2):=fun u=>aA 5 ((hF1 u).heap r8)
 have z2: ∀u,(F u).cell? ⟨w1.heap.size,8,none⟩=some (.int .i64 (cU f).2.2):=fun u=>aA 8 ((hF1 u).heap r8)
 have D:=HF.out _ (Ab.refl W).drew
 have AA:=hid (A2'.out.trans A3)
 clear hF1 hF2 r2 r3 r8 k0 k1 k2 k3 k4 k5 k6 k7 k8 A3 A4 hW B1 A2'
 refine aR F (by kernel_rfl) (by kernel_rfl) D ?_
 repeat(go_big_quiet_step (first | rfl | (go_at_call_of 80 (cR f);exact aP HF HF1 (T1.out _)) | (go_at_call_of 80 (cU f);exact aP HF HF1 (T2.out _))))
 refine wpQuiet_nil ?_
 intro wz hwz
 obtain⟨u,rfl⟩:=hwz
 go_wp2
 refine bodyPost_ret (v:=.tuple #[.int .i64 f,.int .i64 i,.int .i64 j]) (by simp[results,results81,go_sem,V1.out,V2.out]) rfl ⟨rfl,AA.out.trans (HF1.out u)⟩
end
section
open Go.RowKit Cu
def Ay(W:World)(g h:Nat)(w:World):Prop:=
 (w.os=W.os/\w.tape=W.tape/\w.output=W.output/\W.heap.size<=w.heap.size/\ ∀k,k<W.heap.size->k≠g->k≠h->w.heap[k]? =W.heap[k]?)/\
 (∃a b c:Value,w.heap[g]? =some (.cells #[a,b,c] 109))/\(∃a b c:Value,w.heap[h]? =some (.cells #[a,b,c] 109))
theorem Ab.y{W w:World}(h:Ab W w){g k:Nat}{a b c x y z:Value}(hg:W.heap[g]? =some (.cells #[a,b,c] 109))(hk:W.heap[k]? =some (.cells #[x,y,z] 109)):Ay W g k w:=
 ⟨⟨Below.os h,Below.tape h,Below.output h,Below.size h,fun i hi _ _=>Below.block h i hi⟩,⟨_,_,_,h.heap hg⟩,⟨_,_,_,h.heap hk⟩⟩
theorem Ay.drew{W w:World}{g h:Nat}(a:Ay W g h w):Ay W g h w.drew:=a
theorem Ay.call{W u w:World}{g h:Nat}(a:Ay W g h u)(b:Below u.heap.size u w):Ay W g h w:=by
 obtain⟨⟨h1,h2,h3,h4,h5⟩,⟨x,y,z,hg⟩,⟨x',y',z',hh⟩⟩:=a
 exact⟨⟨b.os.trans h1,b.tape.trans h2,b.output.trans h3,Nat.le_trans h4 b.size,fun k hk hne hne2=>(b.block k (by omega)).trans (h5 k hk hne hne2)⟩,⟨x,y,z,(b.block g (lt_of_block hg)).trans hg⟩,⟨x',y',z',(b.block h (lt_of_block hh)).trans hh⟩⟩
theorem set_k{a b c v:Value}(k:Nat): ∃x y z:Value,#[a,b,c].setIfInBounds k v= #[x,y,z]:=by
 rcases k with _ | _ | _ | k
 ·exact⟨v,b,c,rfl⟩
 ·exact⟨a,v,c,rfl⟩
 ·exact⟨a,b,v,rfl⟩
 ·exact⟨a,b,c,by simp[Array.setIfInBounds]⟩
theorem Ay.setg{W w:World}{g h:Nat}(a:Ay W g h w)(hne:g≠h)(k:Nat)(v:Value):Ay W g h (w.setCell ⟨g,k,none⟩ v):=by
 obtain⟨⟨h1,h2,h3,h4,h5⟩,⟨x,y,z,hg⟩,⟨x',y',z',hh⟩⟩:=a
 obtain⟨p,q,r,e⟩:=set_k (a:=x) (b:=y) (c:=z) (v:=v) k
 have o:=aN (k:=k) (v:=v) hg
 rw[e]at o
 exact⟨⟨h1,h2,h3,by simpa [World.setCell]using h4,fun i hi n1 n2=>(Below.heap_setCell _ _ _ _ n1).trans (h5 i hi n1 n2)⟩,⟨p,q,r,o⟩,⟨x',y',z',(Below.heap_setCell _ _ _ _ (by exact fun e=>hne e.symm)).trans hh⟩⟩
theorem Ay.swap{W w:World}{g h:Nat}(a:Ay W g h w):Ay W h g w:=
 ⟨⟨a.1.1,a.1.2.1,a.1.2.2.1,a.1.2.2.2.1,fun k hk n1 n2=>a.1.2.2.2.2 k hk n2 n1⟩,a.2.2,a.2.1⟩
theorem Ay.seth{W w:World}{g h:Nat}(a:Ay W g h w)(hne:g≠h)(k:Nat)(v:Value):Ay W g h (w.setCell ⟨h,k,none⟩ v):=(a.swap.setg hne.symm k v).swap
theorem Ay.heap{W w:World}{g h k:Nat}{o:Obj}(a:Ay W g h w)(n1:k≠g)(n2:k≠h)(hk:W.heap[k]? =some o):w.heap[k]? =some o:=by
 have hlt:k<W.heap.size:=by
  rcases Nat.lt_or_ge k W.heap.size with h1 | h1
  ·exact h1
  ·rw[Array.getElem?_eq_none h1]at hk;cases hk
 exact(a.1.2.2.2.2 k hlt n1 n2).trans hk
theorem Ay.ab{w0 W w:World}{g h:Nat}(a:Ay W g h w)(b:Ab w0 W)(hg:w0.heap.size<=g)(hh:w0.heap.size<=h):Ab w0 w:=by
 obtain⟨⟨h1,h2,h3,h4,h5⟩,_⟩:=a
 exact⟨h1.trans b.os,h2.trans b.tape,h3.trans b.output,Nat.le_trans (Below.size b) h4,fun k hk=>(h5 k (Nat.lt_of_lt_of_le hk (Below.size b)) (by omega) (by omega)).trans (b.block k hk)⟩
theorem Ay.factsg{W w:World}{g h:Nat}(a:Ay W g h w):(w.frozen? ⟨g,0,none⟩=false/\w.frozen? ⟨g,1,none⟩=false/\w.frozen? ⟨g,2,none⟩=false)/\w.cell? ⟨g,0,none⟩=some (rv w g 0)/\w.cell? ⟨g,1,none⟩=some (rv w g 1)/\w.cell? ⟨g,2,none⟩=some (rv w g 2):=by
 obtain⟨_,⟨x,y,z,hg⟩,_⟩:=a
 have e: ∀k,w.cell? ⟨g,k,none⟩= #[x,y,z][k]? :=fun k=>cell_of_row _ _ k _ _ _ hg
 refine⟨⟨aC hg 0,aC hg 1,aC hg 2⟩,?_,?_,?_⟩<;>simp[rv,e]
theorem kU(n c f i j s f2 i2 j2 s2:Nat)(p q r bk:P3)(d:Int)(w:World)(hn:1<=n/\n<=32)(hf:f<6)(hs:s<4)(hf2:f2<6)(hi2:i2<n)(hj2:j2<n)(hs2:s2<4)(hi:i<n)(hj:j<n)(h:Fr w)
  (PL:Hid (∀w,Calls prog 74 #[.int .i64 n,.int .i64 c] w fun e w'=>e=.returned (.tuple #[.int .i64 f,.int .i64 i,.int .i64 j,.bool true])/\ ∃k,w'=w.drewN k))
  (hp:md n f i j=p) (hq:pl p (wy f s)=q) (hd:dt q (wy f s)=d) (sp:Sm p) (sq:Sm q)
  (hr:md n f2 i2 j2=r) (hb:wy f2 s2=bk) (hw:(¬d=n/\pl q (wy f s)=r/\sc (-1) (wy f s)=bk)\/(d=n/\pl q (sc (-1) (cC f))=r/\cC f=bk)):
  Calls prog 63 #[.int .i64 n,.int .i64 c,.int .i64 s] w fun e w'=>e=.returned (.tuple #[.int .i64 (cN n f2 i2 j2),.int .i64 s2])/\Below w.heap.size w w':=by
 have CT:Hid (∀w,Calls prog 75 #[.int .i64 s,.int .i64 4] w fun e w'=>e=.returned (.bool true)/\w'=w):=fun w=>by
  have:=gM s 4 w
  rwa [show inR s 4=true by rw[bM];omega]at this
 have WY:=hid (fun(u:World) (hu:Ab w u)=>way_at f s u hf hs (h.to hu))
 have MI:Hid (∀u,Ab w u->Calls prog 77 #[.int .i64 n,.int .i64 f,.int .i64 i,.int .i64 j] u fun e w'=>e=.returned (.agg #[.int .i64 p.1,.int .i64 p.2.1,.int .i64 p.2.2])/\Below u.heap.size u w'):=fun u hu=>by
  rw[<- hp];exact sC n f i j u (by omega) hf (by omega) (by omega) (h.to hu)
 have PQ:Hid (∀u,Calls prog 78 #[.agg #[.int .i64 p.1,.int .i64 p.2.1,.int .i64 p.2.2],.agg #[.int .i64 (wy f s).1,.int .i64 (wy f s).2.1,.int .i64 (wy f s).2.2]] u fun e w'=>e=.returned (.agg #[.int .i64 q.1,.int .i64 q.2.1,.int .i64 q.2.2])/\Below u.heap.size u w'):=fun u=>by
  rw[<- hq];exact lW p (wy f s) u sp (kT hf).sm
 have TM:=hid (fun u=>dG (wy f s) (-1) u (iA (kT hf) (by omega)))
 have AL:Hid (∀u,Calls prog 80 #[.agg #[.int .i64 q.1,.int .i64 q.2.1,.int .i64 q.2.2],.agg #[.int .i64 (wy f s).1,.int .i64 (wy f s).2.1,.int .i64 (wy f s).2.2]] u fun e w'=>e=.returned (.int .i64 d)/\Below u.heap.size u w'):=fun u=>by
  rw[<- hd];exact fK q (wy f s) u sq (kT hf)
 have HH:=hid h
 have R0:=hid (Ab.refl w)
 have HP:=hid hp
 clear h hp hd sp
 go_enter func63,ntmps63
 go_upto_region 4 with(first
  | (go_at_call 74;refine(PL.out _).mono ?_;rintro e w' ⟨rfl,k,rfl⟩)
  | (go_at_call 75;refine(CT.out _).mono ?_;rintro e w' ⟨rfl,rfl⟩))
 have A1:Ab w (w.drewN k):=(Ab.refl w).drewN k
 go_wp2_with fail
 refine(WY.out _ A1).mono ?_
 rintro e w1 ⟨rfl,b1⟩
 have A2:=hid (A1.call b1)
 clear b1 A1 PL CT WY R0
 go_upto_region 5 with fail
 generalize hW:World.alloc w1 _=W
 obtain⟨g12,hg12⟩:=aB w1.heap.size
 have r12:W.heap[g12]? =some (.cells #[.int .i64 (wy f s).1,.int .i64 (wy f s).2.1,.int .i64 (wy f s).2.2] 109):=by rw[<- hW,<- hg12];exact heap_alloc_new _ _
 have A3:Ab w W:=by rw[<- hW];exact A2.out.alloc _
 rw[hg12]
 clear hW hg12 A2
 have KS:Hid (∀w',Ab W w'->Ab W w'/\w'.cell? ⟨g12,0,none⟩=some (.int .i64 (wy f s).1)/\w'.cell? ⟨g12,1,none⟩=some (.int .i64 (wy f s).2.1)/\w'.cell? ⟨g12,2,none⟩=some (.int .i64 (wy f s).2.2)):=fun w' hw=>⟨hw,aA 0 (hw.heap r12),aA 1 (hw.heap r12),aA 2 (hw.heap r12)⟩
 have AW:=Ab.refl W
 have R12:=hid r12
 have A3':=hid A3
 have MI':Hid (∀u,Ab W u->Calls prog 77 #[.int .i64 n,.int .i64 f,.int .i64 i,.int .i64 j] u fun e w'=>e=.returned (.agg #[.int .i64 p.1,.int .i64 p.2.1,.int .i64 p.2.2])/\Below u.heap.size u w'/\Ab W w'):=fun u hu=>(MI.out u (A3.trans hu)).mono fun _ _ ⟨he,hb⟩=>⟨he,hb,hu.call hb⟩
 have PQ':Hid (∀u,Ab W u->Calls prog 78 #[.agg #[.int .i64 p.1,.int .i64 p.2.1,.int .i64 p.2.2],.agg #[.int .i64 (wy f s).1,.int .i64 (wy f s).2.1,.int .i64 (wy f s).2.2]] u fun e w'=>e=.returned (.agg #[.int .i64 q.1,.int .i64 q.2.1,.int .i64 q.2.2])/\Below u.heap.size u w'/\Ab W w'):=fun u hu=>(PQ.out u).mono fun _ _ ⟨he,hb⟩=>⟨he,hb,hu.call hb⟩
 clear r12 A3 MI PQ
 go_cut [13]from 37 to 43 (fun s13 wx=> ∃g13,s13=.pointer (some ⟨g13,0,none⟩)/\Ab W wx/\W.heap.size<=g13/\wx.heap[g13]? =some (.cells #[.int .i64 q.1,.int .i64 q.2.1,.int .i64 q.2.2] 109))
 case first=>
  go_region_held3 (fun w'=>Ab W w'/\w'.cell? ⟨g12,0,none⟩=some (.int .i64 (wy f s).1)/\w'.cell? ⟨g12,1,none⟩=some (.int .i64 (wy f s).2.1)/\w'.cell? ⟨g12,2,none⟩=some (.int .i64 (wy f s).2.2)) ((refine KS.out _ ?_;(with_reducible (repeat(first | assumption | apply Ab.drew | apply Ab.alloc | (refine Ab.call ?_ (by assumption)) | (refine Ab.setk ?_ (by first | assumption | exact Nat.le_refl _ | omega) _))));done)) (first
   | (go_at_call 77;refine(MI'.out _ ?_).mono ?_;(exact And.left (by assumption));rintro e w2 ⟨rfl,b2,a2⟩;have l2:W.heap.size<=w2.heap.size:=Nat.le_trans (by first | exact Nat.le_refl _ | (simp;done)) (Below.size b2);(try(have n2:=newrow b2;have n2':=rowfacts n2;obtain⟨⟨_,_,_⟩,_,_,_⟩:=n2')))
   | (go_at_call 78;refine(PQ'.out _ ?_).mono ?_;(exact And.left (by assumption));rintro e w3 ⟨rfl,b3,a3⟩;(try(have n3:=Ab.heap b3 n2;have n3':=rowfacts n3;obtain⟨⟨_,_,_⟩,_,_,_⟩:=n3'));(try(have n4:=newrow' b3;have n4':=rowfacts n4;obtain⟨⟨_,_,_⟩,_,_,_⟩:=n4'))))
  all_goals go_wp2_with fail
  all_goals go_meet
  all_goals refine⟨_,rfl,?_,?_,?_⟩
  all_goals first
   | exact heap_alloc_new _ _
   | exact jA n4
   | exact jA n3
   | exact a3.size
   | exact l2
   | exact Nat.le_refl _
   | ((with_reducible (repeat(first | assumption | apply Ab.drew | apply Ab.alloc | (refine Ab.setk ?_ (by first | assumption | exact Nat.le_refl _ | omega) _))));done)
 case rest=>
 obtain⟨g13,rfl,A4,hg13,r13⟩:=hcut
 have r12:=A4.heap R12.out
 have hA:=hid (A3'.out.trans A4)
 clear KS AW R12 A3' MI' PQ' hg13 A4
 have KS:Hid (∀w',Ab wc w'->Ab wc w'/\w'.cell? ⟨g12,0,none⟩=some (.int .i64 (wy f s).1)/\w'.cell? ⟨g12,1,none⟩=some (.int .i64 (wy f s).2.1)/\w'.cell? ⟨g12,2,none⟩=some (.int .i64 (wy f s).2.2)):=fun w' hw=>⟨hw,aA 0 (hw.heap r12),aA 1 (hw.heap r12),aA 2 (hw.heap r12)⟩
 have AW:=Ab.refl wc
 have R12:=hid r12
 have R13:=hid r13
 clear r12 r13
 go_upto_region 6 with fail
 go_cut [14,15]from 44 to 46 (fun s14 s15 wx=> ∃g14 g15,s14=.pointer (some ⟨g14,0,none⟩)/\s15=.pointer (some ⟨g15,0,none⟩)/\Ab wc wx/\wc.heap.size<=g14/\wc.heap.size<=g15/\g14≠g15/\wx.heap[g14]? =some (.cells #[.int .i64 (wy f s).1,.int .i64 (wy f s).2.1,.int .i64 (wy f s).2.2] 109)/\wx.heap[g15]? =some (.cells #[.int .i64 (sc (-1) (wy f s)).1,.int .i64 (sc (-1) (wy f s)).2.1,.int .i64 (sc (-1) (wy f s)).2.2] 109))
 case first=>
  go_region_held3 (fun w'=>Ab wc w'/\w'.cell? ⟨g12,0,none⟩=some (.int .i64 (wy f s).1)/\w'.cell? ⟨g12,1,none⟩=some (.int .i64 (wy f s).2.1)/\w'.cell? ⟨g12,2,none⟩=some (.int .i64 (wy f s).2.2)) ((refine KS.out _ ?_;(with_reducible (repeat(first | assumption | apply Ab.drew | apply Ab.alloc | (refine Ab.call ?_ (by assumption)) | (refine Ab.setk ?_ (by first | assumption | exact Nat.le_refl _ | omega) _))));done)) (first
   | (go_at_call 79;refine(TM.out _).mono ?_;rintro e w2 ⟨rfl,rfl⟩))
  all_goals go_wp2_with fail
  all_goals go_meet
  all_goals refine⟨_,_,rfl,rfl,?_,?_,?_,?_,?_,?_⟩
  all_goals first
   | ((with_reducible (repeat(first | assumption | apply Ab.drew | apply Ab.alloc)));done)
   | omega
   | (rw[kS];(repeat(first | exact qW _ _ _ (by first | (simp;done) | (simp;omega)) | rw[Below.heap_alloc _ _ _ (by first | (simp;done) | (simp;omega))]));done)
 case rest=>
 obtain⟨g14,g15,rfl,rfl,A6,h14,h15,hne,r14,r15⟩:=hcut
 have r12:=A6.heap R12.out
 have r13:=A6.heap R13.out
 have A7:=hid (hA.out.trans A6)
 have n13:g13<g14/\g13<g15/\g12<g14/\g12<g15/\w.heap.size<=g14/\w.heap.size<=g15:=by
  have:=lt_of_block R13.out
  have:=lt_of_block R12.out
  have:=hA.out.size
  omega
 obtain⟨-,q0,q1,q2⟩:=rowfacts r13
 obtain⟨-,o0,o1,o2⟩:=rowfacts r12
 have R13':=hid r13
 have R14:=hid r14
 have R15:=hid r15
 have PR:Hid (∀v,pl q v=r->Sm v-> ∀u,Calls prog 78 #[.agg #[.int .i64 q.1,.int .i64 q.2.1,.int .i64 q.2.2],.agg #[.int .i64 v.1,.int .i64 v.2.1,.int .i64 v.2.2]] u fun e w'=>e=.returned (.agg #[.int .i64 r.1,.int .i64 r.2.1,.int .i64 r.2.2])/\Below u.heap.size u w'):=fun v hv sv u=>by
  rw[<- hv];exact lW q v u sq sv
 have UN:Hid (∀u,Ab w u->Calls prog 81 #[.int .i64 n,.agg #[.int .i64 r.1,.int .i64 r.2.1,.int .i64 r.2.2]] u fun e w'=>e=.returned (.tuple #[.int .i64 f2,.int .i64 i2,.int .i64 j2])/\Below u.heap.size u w'):=fun u hu=>under_at n f2 i2 j2 r u hn hf2 hi2 hj2 hr (HH.out.to hu)
 have CE:=hid (fun u=>qZ n f2 i2 j2 u)
 have SD:Hid (∀u,Ab w u->Calls prog 83 #[.int .i64 f2,.agg #[.int .i64 bk.1,.int .i64 bk.2.1,.int .i64 bk.2.2]] u fun e w'=>e=.returned (.int .i64 s2)/\Below u.heap.size u w'):=fun u hu=>sE f2 s2 bk u hf2 hs2 hb (HH.out.to hu)
 have T8:=hid (fun u=>nF (cC f) (-1) u (iA (un_C hf) (by omega)))
 have SF:=hid (iA (k:= -1) (un_C hf) (by omega))
 have SW:=hid (kT (s:=s) hf).sm
 have hf':(f:Int)<6:=by omega
 have H15:=hid h15
 have HNE:=hid hne
 have N13:=hid n13
 clear r12 r13 r14 r15 n13 h14 h15 hne TM KS AW R12 R13 hA A6
 rcases hw with⟨w1,w2,w3⟩ | ⟨w1,w2,w3⟩
 ·have PR':=hid (PR.out _ w2 SW.out)
  rw[w3]at R15
  clear w2 w3 PR T8 SF SW hq
  go_upto_region 9 with(go_at_call 80;refine(AL.out _).mono ?_;rintro e w7 ⟨rfl,b7⟩)
  obtain⟨-,t0,t1,t2⟩:=rowfacts (Ab.heap b7 R13'.out)
  obtain⟨-,t3,t4,t5⟩:=rowfacts (Ab.heap b7 R14.out)
  have A9:=hid (A7.out.call b7)
  have R15':=hid (Ab.heap b7 R15.out)
  go_wp2_with (first
   | (go_at_call 78;refine(PR'.out _).mono ?_;rintro e w8 ⟨rfl,b8⟩)
   | (go_at_call 81;refine(UN.out _ (A9.out.call b8)).mono ?_;rintro e w9 ⟨rfl,b9⟩))
  have B15:=Ab.heap b9 (Ab.heap b8 R15'.out)
  have A10:=hid ((A9.out.call b8).call b9)
  obtain⟨U,F,hF1,hF2⟩:=cls w9
  have HF:=hid hF2
  have HF1:=hid hF1
  have x0: ∀u,(F u).cell? ⟨g15,0,none⟩=some (.int .i64 bk.1):=fun u=>aA 0 ((hF1 u).heap B15)
  have x1: ∀u,(F u).cell? ⟨g15,1,none⟩=some (.int .i64 bk.2.1):=fun u=>aA 1 ((hF1 u).heap B15)
  have x2: ∀u,(F u).cell? ⟨g15,2,none⟩=some (.int .i64 bk.2.2):=fun u=>aA 2 ((hF1 u).heap B15)
  have SD':=hid (fun u=>SD.out (F u) (A10.out.trans (hF1 u)))
  have D:=HF.out _ (Ab.refl w9).drew
  clear hF1 hF2 B15 b8 b9 UN SD PR'
  refine aR F (by kernel_rfl) (by kernel_rfl) D ?_
  repeat(go_big_quiet_step (first | rfl | (go_at_call 82;exact(CE.out _).mono (fun _ _ ⟨he,hw⟩=>⟨he,_,hw⟩)) | (go_at_call 83;exact aP HF HF1 (SD'.out _))))
  refine wpQuiet_nil ?_
  intro wz hwz
  obtain⟨u,rfl⟩:=hwz
  go_wp2
  go_ret2
  exact⟨rfl,A10.out.trans (HF1.out u)⟩
 ·have PR':=hid (PR.out _ w2 SF.out)
  have W3:=hid w3
  clear w2 w3 PR SW hq
  have hf0:(0:Int)<=(f:Int):=by omega
  have FRW:=hid (fun u (hu:Ab w u)=>(HH.out.to hu).2 f hf)
  go_upto_region 8 with(go_at_call 80;refine(AL.out _).mono ?_;rintro e w7 ⟨rfl,b7⟩)
  have A8:=A7.out.call b7
  have ne: ¬g14=g15:=HNE.out
  have ne': ¬g15=g14:=fun e=>HNE.out e.symm
  have nz: ¬g14=0:=by have:=N13.out;omega
  have nz': ¬g15=0:=by have:=N13.out;omega
  have nz2: ¬0=g14:=by have:=N13.out;omega
  have nz3: ¬0=g15:=by have:=N13.out;omega
  have nn:=N13.out
  have hz:1<w.heap.size:=HH.out.1
  have KS:Hid (∀w',Ay w7 g14 g15 w'->Ay w7 g14 g15 w'/\w'.cell? ⟨1,f*9,none⟩=some (.int .i64 (cC f).1)/\w'.cell? ⟨1,f*9+1,none⟩=some (.int .i64 (cC f).2.1)/\w'.cell? ⟨1,f*9+2,none⟩=some (.int .i64 (cC f).2.2)):=fun w' hw=>by
   obtain⟨⟨k0,k1,k2⟩,_,_⟩:=FRW.out w' (hw.ab A8 nn.2.2.2.2.1 nn.2.2.2.2.2)
   exact⟨hw,k0,k1,k2⟩
  have Y0:Ay w7 g14 g15 w7:=(Ab.refl w7).y (Ab.heap b7 R14.out) (Ab.heap b7 R15.out)
  have R13'':=hid (Ab.heap b7 R13'.out)
  have A8':=hid A8
  have B7:=hid b7
  clear A8 nn b7 R13' R14 R15 A7
  go_cut [8]from 52 to 60 (fun s8 wx=>s8=.int .i64 f/\Ay w7 g14 g15 wx/\wx.heap[g14]? =some (.cells #[.int .i64 (sc (-1) (cC f)).1,.int .i64 (sc (-1) (cC f)).2.1,.int .i64 (sc (-1) (cC f)).2.2] 109)/\wx.heap[g15]? =some (.cells #[.int .i64 (cC f).1,.int .i64 (cC f).2.1,.int .i64 (cC f).2.2] 109))
  case first=>
   go_region_held3 (fun w'=>Ay w7 g14 g15 w'/\w'.cell? ⟨1,f*9,none⟩=some (.int .i64 (cC f).1)/\w'.cell? ⟨1,f*9+1,none⟩=some (.int .i64 (cC f).2.1)/\w'.cell? ⟨1,f*9+2,none⟩=some (.int .i64 (cC f).2.2)) ((refine KS.out _ ?_;(with_reducible (repeat(first | assumption | apply Ay.drew | (refine Ay.setg ?_ ne _ _) | (refine Ay.seth ?_ ne _ _) | (refine Ay.call ?_ (by assumption)))));done)) (first
    | (go_at_call 79;refine(T8.out _).mono ?_;rintro e w2 ⟨rfl,b2⟩;have y2:=Y0.drew.call b2;have y3:=y2.factsg;have y4:=y2.swap.factsg;obtain⟨⟨_,_,_⟩,_,_,_⟩:=y3;obtain⟨⟨_,_,_⟩,_,_,_⟩:=y4))
   have Y2:=Y0.drew.call b2
   obtain⟨-,⟨a1,a2,a3,hg⟩,⟨c1,c2,c3,hh⟩⟩:=id Y2
   clear Y0 KS
   go_wp2_with fail
   go_meet
   refine⟨rfl,(((((Y2.setg ne _ _).setg ne _ _).setg ne _ _).seth ne _ _).seth ne _ _).seth ne _ _,?_,?_⟩
   ·exact(Below.heap_setCell _ _ _ _ ne).trans ((Below.heap_setCell _ _ _ _ ne).trans ((Below.heap_setCell _ _ _ _ ne).trans (jA hg)))
   ·exact jA ((Below.heap_setCell _ _ _ _ ne').trans ((Below.heap_setCell _ _ _ _ ne').trans ((Below.heap_setCell _ _ _ _ ne').trans hh)))
  case rest=>
   obtain⟨rfl,YB,z14,z15⟩:=hcut
   rw[W3.out]at z15
   have nn:g13≠g14/\g13≠g15/\w.heap.size<=g14/\w.heap.size<=g15:=by have:=N13.out;omega
   clear KS Y0
   obtain⟨-,t0,t1,t2⟩:=rowfacts (YB.heap nn.1 nn.2.1 R13''.out)
   obtain⟨-,t3,t4,t5⟩:=rowfacts z14
   have A9:=hid (YB.ab A8'.out nn.2.2.1 nn.2.2.2)
   have R15':=hid z15
   go_wp2_with (first
    | (go_at_call 78;refine(PR'.out _).mono ?_;rintro e w8 ⟨rfl,b8⟩)
    | (go_at_call 81;refine(UN.out _ (A9.out.call b8)).mono ?_;rintro e w9 ⟨rfl,b9⟩))
   have B15:=Ab.heap b9 (Ab.heap b8 R15'.out)
   have A10:=hid ((A9.out.call b8).call b9)
   obtain⟨U,F,hF1,hF2⟩:=cls w9
   have HF:=hid hF2
   have HF1:=hid hF1
   have x0: ∀u,(F u).cell? ⟨g15,0,none⟩=some (.int .i64 bk.1):=fun u=>aA 0 ((hF1 u).heap B15)
   have x1: ∀u,(F u).cell? ⟨g15,1,none⟩=some (.int .i64 bk.2.1):=fun u=>aA 1 ((hF1 u).heap B15)
   have x2: ∀u,(F u).cell? ⟨g15,2,none⟩=some (.int .i64 bk.2.2):=fun u=>aA 2 ((hF1 u).heap B15)
   have SD':=hid (fun u=>SD.out (F u) (A10.out.trans (hF1 u)))
   have D:=HF.out _ (Ab.refl w9).drew
   clear hF1 hF2 B15 b8 b9 UN SD PR'
   refine aR F (by kernel_rfl) (by kernel_rfl) D ?_
   repeat(go_big_quiet_step (first | rfl | (go_at_call 82;exact(CE.out _).mono (fun _ _ ⟨he,hw⟩=>⟨he,_,hw⟩)) | (go_at_call 83;exact aP HF HF1 (SD'.out _))))
   refine wpQuiet_nil ?_
   intro wz hwz
   obtain⟨u,rfl⟩:=hwz
   go_wp2
   go_ret2
   exact⟨rfl,A10.out.trans (HF1.out u)⟩
end
section
open Go.RowKit Cu
theorem lX{n:Nat}(hn:1<=n/\n<=32):clN n=(6*n*n:Nat):=by
 unfold clN
 rw[if_pos (by omega)]
 simp
theorem jE(n c:Nat)(hn:1<=n/\n<=32)(hc:c<6*n*n)(w:World):
  Calls prog 74 #[.int .i64 n,.int .i64 c] w fun e w'=>e=.returned (.tuple #[.int .i64 (cf n c),.int .i64 (ci n c),.int .i64 (cj n c),.bool true])/\ ∃k,w'=w.drewN k:=by
 have h:=place_at n c w
 have hin:inR c (clN n)=true:=by rw[bM,lX hn];omega
 rw[hin,show pF n c=(cf n c:Nat)by simp[pF,hin,cf],show pI n c=(ci n c:Nat)by simp[pI,hin,ci],show pJ n c=(cj n c:Nat)by simp[pJ,hin,cj]]at h
 exact h
theorem pS{n f i j:Nat}(hn:1<=n/\n<=32)(hf:f<6)(hi:i<n)(hj:j<n):cN n f i j=(nm n f i j:Nat):=by
 unfold cN
 rw[if_pos ⟨by omega,by rw[bM];omega,by rw[bM];omega,by rw[bM];omega⟩]
 simp[nm]
theorem sm_100{p:P3}(h:(-100<=p.1/\p.1<=100)/\(-100<=p.2.1/\p.2.1<=100)/\(-100<=p.2.2/\p.2.2<=100)):Sm p:=by unfold Sm;omega
theorem sm_pl{p q:P3}(h:(-100<=p.1/\p.1<=100)/\(-100<=p.2.1/\p.2.1<=100)/\(-100<=p.2.2/\p.2.2<=100))(k:Un q):Sm (pl p q):=by unfold Un at k;simp only[Sm,pl];omega
theorem kV(n c s:Nat)(w:World)(hn:1<=n/\n<=32)(hc:c<6*n*n)(hs:s<4)(h:Fr w):
  Calls prog 63 #[.int .i64 n,.int .i64 c,.int .i64 s] w fun e w'=>e=.returned (.tuple #[.int .i64 (bsC n c s),.int .i64 (bsS n c s)])/\Below w.heap.size w w':=by
 obtain⟨h1,h2,h3,h4⟩:=fE hn.1 hc
 have hm:=md_le h1 h2 h3 hn.2
 have he:=at_ah (s:=s) hs h2 h3
 have hl:=mZ (s:=s) h2 h3
 have hms:md n (cf n c) (ci n c) (cj n c)=ms n (cf n c) s (ah n s (ci n c) (cj n c)) (lf n s (ci n c) (cj n c)):=by
  have:=md_ms (f:=cf n c) h1 hs hl.1 hl.2
  rwa [he.1,he.2]at this
 obtain⟨d1,d2⟩:=ms_step (n:=n) (a:=ah n s (ci n c) (cj n c)) (b:=lf n s (ci n c) (cj n c)) h1 hs
 rw[<- hms]at d1 d2
 obtain⟨w1,w2⟩:=wy_back _ h1 s hs
 have PL:=hid (jE n c hn hc)
 by_cases ha:ah n s (ci n c) (cj n c)+1<n
 ·have k:=kQ (s:=s) ha hl.2
  have hr:=md_ms (f:=cf n c) h1 hs ha hl.2
  have:=kU n c (cf n c) (ci n c) (cj n c) s (cf n c) _ _ ((s+2)%4) _ _ _ _ _ w hn h1 hs h1 k.1 k.2 (by omega) h2 h3 h PL rfl rfl d1 (sm_100 hm) (sm_pl hm (kT h1)) hr rfl
   (Or.inl ⟨by omega,d2,w1⟩)
  rw[pS hn h1 k.1 k.2]at this
  unfold bsC bsS
  rw[if_pos ha,if_pos ha]
  exact this
 ·obtain⟨n1,n2⟩:=nf_lt _ h1 s hs
  have h0:0<n:=by omega
  have k:=kQ (s:=ns (cf n c) s) h0 hl.2
  have hr:=md_ms n1 n2 h0 hl.2
  have hedge:=ms_edge (n:=n) (a:=ah n s (ci n c) (cj n c)) (b:=lf n s (ci n c) (cj n c)) h1 hs (by omega)
  rw[<- hms]at hedge
  have:=kU n c (cf n c) (ci n c) (cj n c) s (nf (cf n c) s) _ _ ((ns (cf n c) s+2)%4) _ _ _ _ _ w hn h1 hs n1 k.1 k.2 (by omega) h2 h3 h PL rfl rfl d1 (sm_100 hm) (sm_pl hm (kT h1)) hr rfl
   (Or.inr ⟨by omega,hedge,w2⟩)
  rw[pS hn n1 k.1 k.2]at this
  unfold bsC bsS
  rw[if_neg ha,if_neg ha]
  exact this
theorem sF(n:Nat)(hn:1<=n/\n<=32)(w:World):Calls prog 34 #[.int .i64 n] w fun e w'=>e=.returned (.int .i64 (6*n*n:Nat))/\w'=w:=by
 rw[<- lX hn];exact aZ n w
end
section
open Go.RowKit Cu
def GE(B n T gb mb:Nat)(es v3 v4 v5 v6:Value)(w:World):Prop:=
 w.heap[gb]? =some (.cells #[.int .i64 n,es,.map (some mb),v3,v4,v5,v6] 65)/\w.ownsRow B 98 4 es (eN n T) (edL n T)/\MapIs w mb (2*T) (gT n T)/\(B<=gb/\B<=mb/\gb≠mb)/\es.ownBlock≠some gb/\es.ownBlock≠some mb
theorem GE.to{B n T gb mb:Nat}{es v3 v4 v5 v6:Value}{w w':World}(h:GE B n T gb mb es v3 v4 v5 v6 w)(a:Ab w w'):GE B n T gb mb es v3 v4 v5 v6 w':=by
 obtain⟨h1,h2,h3,h4,h5⟩:=h
 refine⟨a.heap h1,?_,h3.block (Below.block a _ h3.lt),h4,h5⟩
 exact h2.kept (row:=none) ⟨Below.os a,Below.tape a,Below.output a,Below.size a,fun k hk _=>Below.block a k hk⟩ (by cases es.ownBlock<;>simp)
theorem GE.cells{B n T gb mb:Nat}{es v3 v4 v5 v6:Value}{w:World}(h:GE B n T gb mb es v3 v4 v5 v6 w):
  w.cell? ⟨gb,0,none⟩=some (.int .i64 n)/\w.cell? ⟨gb,1,none⟩=some es/\w.cell? ⟨gb,2,none⟩=some (.map (some mb))/\w.frozen? ⟨gb,1,none⟩=false:=
 ⟨aA 0 h.1,aA 1 h.1,aA 2 h.1,aC h.1 1⟩
theorem GE.sl{B n T gb mb:Nat}{es v3 v4 v5 v6:Value}{w:World}(h:GE B n T gb mb es v3 v4 v5 v6 w): ∃a0 cap,es=.slice a0 (eN n T) cap:=by
 rcases h.2.1.2 with⟨rfl,h0⟩ | ⟨g,cap,cur,rfl,_⟩
 ·exact⟨none,0,by rw[h0]⟩
 ·exact⟨_,cap,rfl⟩
theorem GE.maps{B n T gb mb:Nat}{es v3 v4 v5 v6:Value}{w1 w2 w3:World}(h:GE B n T gb mb es v3 v4 v5 v6 w1)(g1:w1.grownBy w2 (some mb))(g2:w2.grownBy w3 (some mb)):
  w3.heap[gb]? =some (.cells #[.int .i64 n,es,.map (some mb),v3,v4,v5,v6] 65)/\w3.ownsRow B 98 4 es (eN n T) (edL n T):=by
 obtain⟨h1,h2,h3,h4,h5⟩:=h
 have g:=g1.trans g2
 exact⟨(g.block gb (lt_of_block h1) (by simp;omega)).trans h1,h2.kept g (.inr h5.2)⟩
theorem jF{w w':World}{r:Option Nat}(h:w.drew.grownBy w' r):w.grownBy w' r:=⟨h.os,h.tape,h.output,h.size,h.block⟩
theorem sG{w:World}{B:Nat}{e:TypeId}{sz k:Nat}{v:Value}{xs:List Value}(h:w.ownsRow B e sz v k xs): ∃a0 cap,v=.slice a0 k cap:=by
 rcases h.2 with⟨rfl,h0⟩ | ⟨g,cap,cur,rfl,_⟩
 ·exact⟨none,0,by rw[h0]⟩
 ·exact⟨_,cap,rfl⟩
theorem sH{w3 w5:World}{o o':Obj}{gb:Nat}{v:Value}(h:w3.heap[gb]? =some o)(hne:v.ownBlock≠some gb)(hg:(w3.alloc o').grownBy w5 v.ownBlock):w5.heap[gb]? =some o:=
 (hg.block gb (by have:=lt_of_block h;simp;omega) (fun e=>hne e.symm)).trans ((Below.heap_alloc _ _ _ (lt_of_block h)).trans h)
theorem kO(w:World)(a b c d:Value)(t:TypeId): ∀j u,[a,b,c,d][j]? =some u->(w.alloc (.cells #[a,b,c,d] t)).cell? ((⟨w.heap.size,0,none⟩:Addr).add j)=some u:=by
 intro j u hj
 have ha:(⟨w.heap.size,0,none⟩:Addr).add j=⟨w.heap.size,j,none⟩:=by unfold Addr.add;split<;>simp_all
 rw[ha,cell_of_row _ _ j _ _ (0,0) (heap_alloc_new w _)]
 simpa using hj
theorem GE.next{B n T gb mb:Nat}{es v v3 v4 v5 v6:Value}{o':Obj}{w1 w3 w5:World}(hn:1<=n)(hT:T<24*n*n)(hl:isL n T=true)(G:GE B n T gb mb es v3 v4 v5 v6 w1)(hm:w1.grownBy w3 (some mb))(hg:(w3.alloc o').grownBy w5 es.ownBlock)
  (R5:w5.heap[gb]? =some (.cells #[.int .i64 n,es,.map (some mb),v3,v4,v5,v6] 65)) (ho:w5.ownsRow B 98 4 v (eN n T+1) (edL n T++edV n T)) (hat:v.ownBlock=es.ownBlock\/v.ownBlock=some (w3.alloc o').heap.size)
  (M:MapIs w3 mb (2*T+1+1) (fun c s=>if c=(bsC n (T/4) (T%4):Nat)/\s=(bsS n (T/4) (T%4):Nat)then(((eN n T:Nat):Int),-1)else if c=(T/4:Nat)/\s=(T%4:Nat)then(((eN n T:Nat):Int),1)else gT n T c s)):
  GE B n (T+1) gb mb v v3 v4 v5 v6 (w5.setCell ⟨gb,1,none⟩ v):=by
 obtain⟨g1,g2,g3,g4,g5,g6⟩:=G
 have l1:=lt_of_block g1
 have l3:=hm.size
 have lm:=M.lt
 have ne1:v.ownBlock≠some gb:=by
  rcases hat with h | h
  ·rw[h];exact g5
  ·rw[h];simp;omega
 have ne2:v.ownBlock≠some mb:=by
  rcases hat with h | h
  ·rw[h];exact g6
  ·rw[h];simp;omega
 have gs:w5.grownBy (w5.setCell ⟨gb,1,none⟩ v) (some gb):=⟨rfl,rfl,rfl,by simp[World.setCell],fun k _ hk=>Below.heap_setCell _ _ _ _ (by simpa using hk)⟩
 refine⟨?_,?_,?_,g4,ne1,ne2⟩
 ·have:=aN (v:=v) (k:=1) R5
  simpa using this
 ·have h:=ho.kept gs (.inr ne1)
  rw[<- iM hl,<- fJ hl]at h
  exact h
 ·have e:(w5.setCell ⟨gb,1,none⟩ v).heap[mb]? =w3.heap[mb]? :=
   (gs.block mb (by have:=hg.size;simp at this;omega) (by simp;omega)).trans ((hg.block mb (by simp;omega) (fun e=>g6 e.symm)).trans (Below.heap_alloc _ _ _ lm))
  have h:=(M.block e).congr (fun c s _ _=>gT_step hn hT hl c s)
  exact h.mono (by omega)
theorem infoEdge:(Tryz.prog.info? 98).map (fun i=>(i.zero,i.size,i.bytes))=some (some (.agg #[.int .i64 0,.int .i64 0,.int .i64 0,.int .i64 0]),4,32):=by kernel_rfl
theorem nH(n N gb mb:Nat)(v3 v4 v5 v6:Value)(w0 w:World)(hn:1<=n/\n<=32)(hN:N=6*n*n)(hF:Fr w0)(A:Ab w0 w)(G:GE w0.heap.size n 0 gb mb (.slice none 0 0) v3 v4 v5 v6 w):
  Calls prog 35 #[.pointer (some ⟨gb,0,none⟩),.int .i64 N] w fun e w'=>e=.returned (.tuple #[])/\Ab w0 w'/\ ∃es,GE w0.heap.size n (24*n*n) gb mb es v3 v4 v5 v6 w':=by
 have HF:=hid hF
 have HG:=hid G
 have HA:=hid A
 have HN:=hid hN
 have HL:Hid (N<=6144):=by
  show N<=6144
  rw[hN,Nat.mul_assoc]
  have:=Nat.mul_le_mul hn.2 hn.2
  omega
 have HE:Hid (24*n*n=4*N):=by
  show 24*n*n=4*N
  rw[hN,show 24=4*6 from rfl,Nat.mul_assoc 4 6 n,Nat.mul_assoc 4 (6*n) n]
 obtain⟨i0,hi,hz0,hz1,hz2⟩:=info_parts infoEdge
 have HI:=hid (And.intro hi (And.intro hz0 (And.intro hz1 hz2)))
 have Hn:=hid hn
 clear hF G A hN hi hz0 hz1 hz2 hn
 have hN':(N:Int)<=6144:=by have:=HL.out;omega
 go_enter func35,ntmps35
 go_wp2
 go_loopw [9] (fun iv wr=> ∃c:Nat,c<=N/\iv=.int .i64 (c:Nat)/\Ab w0 wr/\ ∃es,GE w0.heap.size n (4*c) gb mb es v3 v4 v5 v6 wr) (fun iv _=>N - (intOf iv).toNat)
 case atStart=>exact⟨0,by omega,rfl,HA.out,_,HG.out⟩
 case round=>
  obtain⟨c,hc,rfl,A,es,G⟩:=hrel
  have A1:=hid A
  have G1:=hid G
  clear A G HG HA
  by_cases hcN:c<N
  ·have hcN':(c:Int)<N:=by omega
   go_wp2
   go_loopw [12] (fun iv wr=> ∃s:Nat,s<=4/\iv=.int .i64 (s:Nat)/\Ab w0 wr/\ ∃es,GE w0.heap.size n (4*c+s) gb mb es v3 v4 v5 v6 wr) (fun iv _=>4 - (intOf iv).toNat)
   case atStart=>exact⟨0,by omega,rfl,A1.out,es,G1.out⟩
   case round=>
    clear A1 G1
    obtain⟨s,hs,rfl,A,es',G⟩:=hrel
    by_cases hs4:s<4
    ·have hs4':(s:Int)<4:=by omega
     obtain⟨a0,cap,rfl⟩:=G.sl
     obtain⟨c0,c1,c2,c3⟩:=G.cells
     have hc6:c<6*n*n:=by rw[<- HN.out];exact hcN
     have BE:=hid (kV n c s wr Hn.out hc6 hs4 (HF.out.to A))
     have AA:=hid A
     have GG:=hid G
     have HT:=hid (t_lt hc6 hs4)
     obtain⟨d6,b4⟩:=kR Hn.out.1 hc6 hs4
     have hd6:bsC n c s<6144:=by have:=HL.out;rw[HN.out]at this;omega
     have hT4:=hid (t_dec (c:=c) hs4)
     have hlis:Hid (isL n (4*c+s)=decide (c<bsC n c s)):=by show isL n (4*c+s)=_;unfold isL;rw[hT4.out.1,hT4.out.2]
     have hKle:Hid (eN n (4*c+s)<=12*n*n):=by
      have:=qV (n:=n) (Nat.le_of_lt HT.out);rw[lR Hn.out.1]at this;exact this
     have hKb:eN n (4*c+s)<=12288:=by
      have h1:=hKle.out;have h2:=HE.out;have h3:=HL.out
      have:2*(12*n*n)=24*n*n:=by rw[show 24=2*12 from rfl,Nat.mul_assoc 2 12 n,Nat.mul_assoc 2 (12*n) n]
      omega
     obtain⟨d,hd⟩:=aB (bsC n c s)
     obtain⟨b,hb⟩:=aB (bsS n c s)
     obtain⟨K,hK⟩:=aB (eN n (4*c+s))
     rw[hd,hb]at BE
     rw[hd]at hlis d6 hd6
     rw[hb]at b4
     rw[hK]at hKb c1
     have GG':Hid (GE w0.heap.size n (4*c+s) gb mb (.slice a0 K cap) v3 v4 v5 v6 wr):=by rw[<- hK];exact GG.out
     have HD:=hid (And.intro hd (And.intro hb hK))
     clear A G GG hd hb hK hKle hc6
     go_wp2_with fail
     refine BE.out.mono ?_
     rintro e w1 ⟨rfl,b1⟩
     have A2:Hid (Ab w0 w1):=AA.out.call b1
     have G2:Hid (GE w0.heap.size n (4*c+s) gb mb (.slice a0 K cap) v3 v4 v5 v6 w1):=GG'.out.to b1
     clear c0 c1 c2 c3 AA GG' b1 BE
     by_cases hl:c<d
     ·have hl':(c:Int)<d:=by omega
      have hisL:Hid (isL n (4*c+s)=true):=by show _=_;rw[hlis.out];simp[hl]
      obtain⟨w2,hu1,M1,g1⟩:=(G2.out.2.2.1.block (w':=w1.drew) rfl).upd (c:=c) (s:=s) (x:=K) (y:=1) (by have:=HL.out;have:=HT.out;have:=HE.out;omega) (by unfold W64;have:=HL.out;omega) (by unfold W64;omega)
      obtain⟨w3,hu2,M2,g2⟩:=(M1.block (w':=w2.drew) rfl).upd (c:=d) (s:=b) (x:=K) (y:= -1) (by have:=HL.out;have:=HT.out;have:=HE.out;omega) (by unfold W64;omega) (by unfold W64;omega)
      replace g1:=jF g1
      replace g2:=jF g2
      obtain⟨c0,c1,c2,c3⟩:=G2.out.cells
      have GM:=hid (G2.out.maps g1 g2)
      have d1:w2.cell? ⟨gb,1,none⟩=some (.slice a0 K cap):=g1.cell c1 (by have:=G2.out.2.2.2.1.2.2;simp;omega)
      have d2:w2.cell? ⟨gb,2,none⟩=some (.map (some mb)):=g1.cell c2 (by have:=G2.out.2.2.2.1.2.2;simp;omega)
      have M2':=hid M2
      have g12:=hid (And.intro g1 g2)
      clear M1 M2 g1 g2
      go_upto_region 8 with fail
      go_region
      go_upto_region 9 with fail
      go_region
      clear c0 c1 c2 c3 d1 d2 hu1 hu2
      have c1:w3.cell? ⟨gb,1,none⟩=some (.slice a0 K cap):=aA 1 GM.out.1
      have OW:Hid (w3.ownsRow w0.heap.size 98 4 (.slice a0 K cap) K (edL n (4*c+s))):=by have h:=GM.out.2;rw[HD.out.2.2]at h;exact h
      have A3:Hid (Ab w0 w3):=(A2.out.grown (g12.out.1.trans g12.out.2) (Ab.size A2.out) (fun k hk=>by cases hk;exact G2.out.2.2.2.1.2.1))
      obtain⟨hi,hz0,hz1,hz2⟩:=HI.out
      go_upto_region 10 with fail
      go_wp2_with (first
       | (at_builtin;refine wpList_append_own_at _ rfl _ _ 62 rfl w0.heap.size 98 i0 (.agg #[.int .i64 0,.int .i64 0,.int .i64 0,.int .i64 0]) 4 32 underlying62 hi hz0 hz1 hz2 rfl (by decide) _ _ _ rfl (OW.out.alloc _) ⟨w3.heap.size,0,none⟩ 1 1 [.int .i64 c,.int .i64 s,.int .i64 d,.int .i64 b] rfl rfl (kO _ _ _ _ _ _) (by simp[Value.oneCell']) (by unfold maxLen;omega) (by omega) (by have:=Ab.size A3.out;simp;omega) ?_;intro v' w5 ho hg _ hat;obtain⟨a1,cap1,rfl⟩:=sG ho;have R5:=hid (sH GM.out.1 G2.out.2.2.2.2.1 hg);have f1:=aC R5.out 1;have x1:=aA 1 R5.out;have HO:=hid (And.intro ho (And.intro hg hat));clear ho hg hat))
      go_roundw
      case rel=>
       have hT:=HT.out
       refine⟨s+1,by omega,by simp,?_,(.slice a1 (K+1) cap1),?_⟩
       ·exact Ab.setk (Below.grown (A3.out.alloc (.cells #[.int .i64 c,.int .i64 s,.int .i64 d,.int .i64 b] 98)) HO.out.2.1 (Ab.size (A3.out.alloc _)) (fun k hk=>(OW.out.lt k hk).1)) G2.out.2.2.2.1.1 _
       ·have e1:=hT4.out.1
        have e2:=hT4.out.2
        have e3:=HD.out
        have hed:edV n (4*c+s)=[.int .i64 c,.int .i64 s,.int .i64 d,.int .i64 b]:=by unfold edV;rw[e1,e2,e3.1,e3.2.1]
        refine GE.next (T:=4*c+s) Hn.out.1 hT hisL.out G2.out (g12.out.1.trans g12.out.2) HO.out.2.1 R5.out ?_ HO.out.2.2 ?_
        ·rw[hed,e3.2.2];exact HO.out.1
        ·rw[e1,e2,e3.1,e3.2.1,e3.2.2];exact M2'.out
      case measure=>simp[intOf];omega
     ·have hl': ¬(c:Int)<d:=by omega
      have hisL:Hid (isL n (4*c+s)=false):=by show _=_;rw[hlis.out];simp[hl]
      go_wp2
      go_roundw
      case rel=>
       refine⟨s+1,by omega,by simp,A2.out,(.slice a0 K cap),?_⟩
       have g:=G2.out
       have hh:=hisL.out
       show GE w0.heap.size n (4*c+s+1) gb mb (.slice a0 K cap) v3 v4 v5 v6 w1
       exact⟨g.1,by rw[lS hh,jC hh];exact g.2.1,(g.2.2.1.congr (fun c' s' _ _=>gT_stay Hn.out.1 hh c' s')).mono (by omega),g.2.2.2⟩
      case measure=>simp[intOf];omega
    ·obtain rfl:s=4:=by omega
     have AA:=hid A
     have GG:=hid G
     clear A G
     go_wp2
     go_roundw
     case rel=>exact⟨c+1,by omega,by simp,AA.out,_,GG.out⟩
     case measure=>simp[intOf];omega
  ·obtain rfl:c=N:=by omega
   go_wp2
   go_end0
   exact⟨rfl,A1.out,es,by rw[HE.out];exact G1.out⟩
end
namespace Tf
def rne(n g:Nat):Nat:=n/g+(if g<2*(n%g)\/(g=2*(n%g)/\n/g%2=1)then 1 else 0)
theorem aQ(k:Nat):0<2 ^ k:=Nat.two_pow_pos k
theorem rB(d:Nat):1 <<< d=2 ^ d:=by rw[Nat.shiftLeft_eq,Nat.one_mul]
theorem jG(neg:Bool)(n d:Nat):Ieee.Toward.even.cut neg n d=rne n (2 ^ d):=by
 unfold Ieee.Toward.cut rne
 simp only[rB]
 by_cases h:d<=n.log2+2
 ·rw[Nat.min_eq_left h]
  by_cases a:2 ^ d<2*(n%2 ^ d)
  ·simp[a]
  ·by_cases b:2 ^ d=2*(n%2 ^ d)
   ·by_cases c:n/2 ^ d%2=1
    ·simp[<- b,c]
    ·simp[<- b,c]
   ·simp[a,b]
 ·rw[Nat.min_eq_right (by omega)]
  have h1:n<2 ^ (n.log2+1):=Nat.lt_log2_self
  have h2:2 ^ (n.log2+2)=2*2 ^ (n.log2+1):=by rw[Nat.pow_succ];omega
  have h3:2 ^ (n.log2+2)<=2 ^ d:=Nat.pow_le_pow_right (by omega) (by omega)
  have q1:n/2 ^ (n.log2+2)=0:=Nat.div_eq_of_lt (by omega)
  have q2:n/2 ^ d=0:=Nat.div_eq_of_lt (by omega)
  have r1:n%2 ^ (n.log2+2)=n:=Nat.mod_eq_of_lt (by omega)
  have r2:n%2 ^ d=n:=Nat.mod_eq_of_lt (by omega)
  rw[q1,q2,r1,r2]
  have a1: ¬2 ^ (n.log2+2)<2*n:=by omega
  have a2: ¬2 ^ d<2*n:=by omega
  simp[a1,a2]
theorem lY(n:Nat):rne n 1=n:=by
 unfold rne;simp[Nat.mod_one]
theorem rne_mul(q g:Nat)(hg:0<g):rne (q*g) g=q:=by
 unfold rne
 rw[Nat.mul_mod_left,Nat.mul_div_cancel _ hg]
 have: ¬(g<2*0\/g=2*0/\q%2=1):=by omega
 rw[if_neg this];omega
theorem sI(n g c:Nat)(hc:0<c):rne (n*c) (g*c)=rne n g:=by
 unfold rne
 rw[Nat.mul_div_mul_right _ _ hc,Nat.mul_mod_mul_right]
 have e1:(g*c<2*(n%g*c)) ↔ g<2*(n%g):=by
  rw[<- Nat.mul_assoc];exact Nat.mul_lt_mul_right hc
 have e2:(g*c=2*(n%g*c)) ↔ g=2*(n%g):=by
  rw[<- Nat.mul_assoc];exact Nat.mul_left_inj (by omega)
 simp only[e1,e2]
def mag(p r:Nat):Nat:=if r<2 ^ p then r else(2 ^ p+r%2 ^ p)*2 ^ (r/2 ^ p - 1)
def rung(p d V:Nat):Nat:=(V.log2 - (p+d))*2 ^ p+rne V (2 ^ (V.log2 - (p+d)+d))
theorem lZ(r g:Nat)(hg:0<g):((r+1)%g=r%g+1/\(r+1)/g=r/g)\/(r%g=g - 1/\(r+1)%g=0/\(r+1)/g=r/g+1):=by
 have h1:=Nat.div_add_mod r g
 have h2:=Nat.mod_lt r hg
 by_cases c:r%g+1<g
 ·left
  have e:r+1=(r%g+1)+g*(r/g):=by omega
  constructor
  ·rw[e,Nat.add_mul_mod_self_left,Nat.mod_eq_of_lt c]
  ·rw[e,Nat.add_mul_div_left _ _ hg,Nat.div_eq_of_lt c];omega
 ·right
  have e:r+1=g*(r/g+1):=by rw[Nat.mul_add];omega
  refine⟨by omega,?_,?_⟩
  ·rw[e,Nat.mul_mod_right]
  ·rw[e,Nat.mul_div_cancel_left _ hg]
def gap(p r:Nat):Nat:=2 ^ (r/2 ^ p - 1)
theorem iO(p r:Nat):0<gap p r:=aQ _
theorem fL(p r:Nat):mag p (r+1)=mag p r+gap p r:=by
 have hp:=aQ p
 unfold mag gap
 by_cases h:r<2 ^ p
 ·rw[if_pos h,Nat.div_eq_of_lt h]
  by_cases h':r+1<2 ^ p
  ·rw[if_pos h']
  ·have e:r+1=2 ^ p:=by omega
   rw[if_neg h',e,Nat.mod_self,Nat.div_self hp];simp
 ·rw[if_neg h,if_neg (by omega)]
  have hk:1<=r/2 ^ p:=(Nat.le_div_iff_mul_le hp).2 (by omega)
  rcases lZ r (2 ^ p) hp with⟨a,b⟩ | ⟨a,b,c⟩
  ·rw[a,b,<- Nat.add_assoc,Nat.add_mul _ 1,Nat.one_mul]
  ·rw[b,c,a]
   obtain⟨k,hk'⟩: ∃k,r/2 ^ p=k+1:=⟨r/2 ^ p - 1,by omega⟩
   rw[hk']
   simp only[Nat.add_sub_cancel,Nat.add_zero]
   rw[Nat.pow_succ 2 k]
   have:2 ^ p+(2 ^ p - 1)=2*2 ^ p - 1:=by omega
   rw[this,Nat.sub_mul,Nat.one_mul]
   have h1:2 ^ k<=2*2 ^ p*2 ^ k:=Nat.le_mul_of_pos_left _ (by omega)
   have h2:2 ^ p*(2 ^ k*2)=2*2 ^ p*2 ^ k:=by rw[Nat.mul_comm (2 ^ k) 2,<- Nat.mul_assoc,Nat.mul_comm (2 ^ p) 2]
   omega
theorem eF(p:Nat):mag p 0=0:=by unfold mag;rw[if_pos (aQ p)]
theorem fM{p r r':Nat}(h:r<r'):mag p r<mag p r':=by
 induction r' with
 | zero=>omega
 | succ n ih=>
  have:=iO p n
  rw[fL]
  by_cases c:r=n
  ·subst c;omega
  ·have:=ih (by omega);omega
theorem dM{p r r':Nat}:mag p r<mag p r' ↔ r<r':=by
 constructor
 ·intro h
  by_cases c:r<r'
  ·exact c
  ·by_cases e:r=r'
   ·subst e;omega
   ·have:=fM (p:=p) (show r'<r by omega);omega
 ·exact fM
theorem mag_le{p r r':Nat}:mag p r<=mag p r' ↔ r<=r':=by
 have:= @dM p r' r
 omega
theorem mag_inj{p r r':Nat}:mag p r=mag p r' ↔ r=r':=by
 have:= @dM p r' r
 have:= @dM p r r'
 omega
theorem le_mag(p r:Nat):r<=mag p r:=by
 induction r with
 | zero=>omega
 | succ n ih=>have:=iO p n;rw[fL];omega
theorem rC{n k:Nat}(h:2 ^ k<=n)(h':n<2 ^ (k+1)):n.log2=k:=by
 have:n≠0:=by have:=aQ k;omega
 exact(Nat.log2_eq_iff this).2 ⟨h,h'⟩
theorem jH{n k:Nat}(h:n<2 ^ (k+1)):n.log2<=k:=by
 by_cases c:n=0
 ·subst c;simp
 ·have:=(Nat.log2_lt c).2 h;omega
theorem cL(p d r V:Nat)(hp:1<=p)(h1:mag p r*2 ^ d<=V)(h2:V<mag p (r+1)*2 ^ d):
  rung p d V=if(mag p r+mag p (r+1))*2 ^ d<2*V\/((mag p r+mag p (r+1))*2 ^ d=2*V/\r%2=1)then r+1 else r:=by
 have hp0:=aQ p
 have hd0:=aQ d
 rw[fL]at h2 ⊢
 have hg:=iO p r
 by_cases h:r<2 ^ p
 ·have em:mag p r=r:=by unfold mag;rw[if_pos h]
  have eg:gap p r=1:=by unfold gap;rw[Nat.div_eq_of_lt h]
  rw[em,eg]at h2 ⊢
  rw[em]at h1
  have hV:V<2 ^ (p+d):=by
   rw[Nat.pow_add]
   exact Nat.lt_of_lt_of_le h2 (Nat.mul_le_mul_right _ (by omega))
  have hl:V.log2 - (p+d)=0:=by
   obtain⟨q,hq⟩: ∃q,p+d=q+1:=⟨p+d - 1,by omega⟩
   rw[hq]at hV
   have:=jH hV;omega
  have hq:V/2 ^ d=r:=Nat.div_eq_of_lt_le h1 h2
  have hm:=Nat.div_add_mod V (2 ^ d)
  rw[hq,Nat.mul_comm]at hm
  unfold rung
  rw[hl,Nat.zero_add,Nat.zero_mul,Nat.zero_add]
  unfold rne
  rw[hq]
  have e2:(r+(r+1))*2 ^ d=2*(r*2 ^ d)+2 ^ d:=by
   rw[<- Nat.add_assoc,Nat.add_mul,Nat.one_mul,Nat.add_mul];omega
  rw[e2]
  by_cases c:2 ^ d<2*(V%2 ^ d)\/(2 ^ d=2*(V%2 ^ d)/\r%2=1)
  ·rw[if_pos c,if_pos (by omega)]
  ·rw[if_neg c,if_neg (by omega)];rfl
 ·have hk:1<=r/2 ^ p:=(Nat.le_div_iff_mul_le hp0).2 (by omega)
  obtain⟨k,hk'⟩: ∃k,r/2 ^ p=k+1:=⟨r/2 ^ p - 1,by omega⟩
  have eg:gap p r=2 ^ k:=by unfold gap;rw[hk'];rfl
  have em:mag p r=(2 ^ p+r%2 ^ p)*2 ^ k:=by unfold mag;rw[if_neg h,hk'];rfl
  have hf:=Nat.mod_lt r hp0
  have hdm:=Nat.div_add_mod r (2 ^ p)
  rw[hk']at hdm
  generalize hF:r%2 ^ p=F at*
  have hk0:=aQ (k+d)
  have e1:(2 ^ p+F)*2 ^ k*2 ^ d=(2 ^ p+F)*2 ^ (k+d):=by rw[Nat.mul_assoc,<- Nat.pow_add]
  rw[em,eg,Nat.add_mul,e1,<- Nat.pow_add]at h2
  rw[em,e1]at h1
  rw[em,eg,<- Nat.add_assoc,Nat.add_mul _ (2 ^ k),Nat.add_mul,e1,<- Nat.pow_add]
  have hlo:2 ^ (p+(k+d))<=V:=by
   rw[Nat.pow_add]
   exact Nat.le_trans (Nat.mul_le_mul_right _ (by omega)) h1
  have hhi:V<2 ^ (p+(k+d)+1):=by
   have:(2 ^ p+F)*2 ^ (k+d)+2 ^ (k+d)=(2 ^ p+F+1)*2 ^ (k+d):=by rw[Nat.add_mul _ 1,Nat.one_mul]
   have h3:(2 ^ p+F+1)*2 ^ (k+d)<=(2*2 ^ p)*2 ^ (k+d):=Nat.mul_le_mul_right _ (by omega)
   have h4:(2*2 ^ p)*2 ^ (k+d)=2 ^ (p+(k+d)+1):=by rw[Nat.pow_succ,Nat.pow_add 2 p,Nat.mul_comm _ 2,Nat.mul_assoc]
   omega
  have hlog:=rC hlo hhi
  have es:V.log2 - (p+d)=k:=by omega
  unfold rung
  rw[es]
  have hq:V/2 ^ (k+d)=2 ^ p+F:=by
   refine Nat.div_eq_of_lt_le h1 ?_
   rw[Nat.add_mul _ 1,Nat.one_mul];exact h2
  have hm:=Nat.div_add_mod V (2 ^ (k+d))
  rw[hq,Nat.mul_comm]at hm
  unfold rne
  rw[hq]
  generalize hR:V%2 ^ (k+d)=R at*
  generalize hA:(2 ^ p+F)*2 ^ (k+d)=A at*
  generalize hG:2 ^ (k+d)=G at*
  have hpar:(2 ^ p+F)%2=r%2:=by
   obtain⟨q,rfl⟩: ∃q,p=q+1:=⟨p - 1,by omega⟩
   rw[Nat.pow_succ]at hdm ⊢
   have:2 ^ q*2*(k+1)=2*(2 ^ q*(k+1)):=by rw[Nat.mul_comm (2 ^ q) 2,Nat.mul_assoc]
   omega
  rw[hpar]
  have hr:k*2 ^ p+(2 ^ p+F)=r:=by
   rw[Nat.mul_add,Nat.mul_comm (2 ^ p) k]at hdm;omega
  by_cases c:G<2*R\/(G=2*R/\r%2=1)
  ·rw[if_pos c,if_pos (by omega)];omega
  ·rw[if_neg c,if_neg (by omega)];omega
theorem nJ(p d V:Nat): ∃r,mag p r*2 ^ d<=V/\V<mag p (r+1)*2 ^ d:=by
 have hd:=aQ d
 have key: ∀n,V<mag p n*2 ^ d-> ∃r,mag p r*2 ^ d<=V/\V<mag p (r+1)*2 ^ d:=by
  intro n
  induction n with
  | zero=>intro h;rw[eF]at h;omega
  | succ n ih=>
   intro h
   by_cases c:V<mag p n*2 ^ d
   ·exact ih c
   ·exact⟨n,by omega,h⟩
 refine key (V+1) ?_
 have h1:=le_mag p (V+1)
 have h2:mag p (V+1)*1<=mag p (V+1)*2 ^ d:=Nat.mul_le_mul_left _ hd
 omega
theorem nK(p d r:Nat)(hp:1<=p):rung p d (mag p r*2 ^ d)=r:=by
 have hd:=aQ d
 have:=iO p r
 have e:=fL p r
 have hlt:mag p r*2 ^ d<mag p (r+1)*2 ^ d:=(Nat.mul_lt_mul_right hd).2 (by omega)
 rw[cL p d r _ hp (Nat.le_refl _) hlt]
 have e2:(mag p r+mag p (r+1))*2 ^ d=mag p r*2 ^ d+mag p (r+1)*2 ^ d:=Nat.add_mul ..
 rw[if_neg (by omega)]
theorem sJ(p r:Nat)(hp:1<=p):rung p 0 (mag p r)=r:=by
 have:=nK p 0 r hp
 rwa [Nat.pow_zero,Nat.mul_one]at this
theorem jI(p d r V:Nat)(hp:1<=p)(h1:mag p r*2 ^ d<=V)(h2:V<mag p (r+1)*2 ^ d):r<=rung p d V/\rung p d V<=r+1:=by
 rw[cL p d r V hp h1 h2];split<;>omega
theorem sK{p d V V':Nat}(hp:1<=p)(h:V<=V'):rung p d V<=rung p d V':=by
 have hd:=aQ d
 obtain⟨r,a,b⟩:=nJ p d V
 obtain⟨r',a',b'⟩:=nJ p d V'
 have hr:r<r'+1:=(dM (p:=p)).1 ((Nat.mul_lt_mul_right hd).1 (by omega))
 by_cases e:r=r'
 ·subst e
  rw[cL p d r V hp a b,cL p d r V' hp a' b']
  split<;>split<;>omega
 ·have h1:=jI p d r V hp a b
  have h2:=jI p d r' V' hp a' b'
  omega
theorem rung_ge{p d r V:Nat}(hp:1<=p)(h:mag p r*2 ^ d<=V):r<=rung p d V:=by
 have:=sK (d:=d) hp h
 rwa [nK p d r hp]at this
end Tf
end Go.Proofs.YtlmfpikhlcnjjaaGreatDoor
