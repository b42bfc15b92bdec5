/-
  Some of the texts of this proof, one behind the other.
-/
import Derived.StillTail
import Derived.BigQuiet
import Derived.Deep.QuietTactic
import Derived.Test.YtjheiemgfibgpaaDoorUa06
set_option maxRecDepth 100000
set_option maxHeartbeats 400000000
namespace Go.Proofs.YtjheiemgfibgpaaDoor
open _root_.Go.Proofs.Tryd
section
open Go.RowKit Tf Cu Go.Deep
namespace Spl
theorem ow_row{a m c:Nat}:ow (fun i=>a+i) m c=(decide (a<=c)&&decide (c<a+m)):=by
 rw[Bool.eq_iff_iff]
 unfold ow
 rw[List.any_eq_true,Bool.and_eq_true,decide_eq_true_eq,decide_eq_true_eq]
 constructor
 ·rintro⟨i,h1,h2⟩
  have h1:=List.mem_range.1 h1
  have h2:c=a+i:=by simpa using h2
  omega
 ·rintro⟨h1,h2⟩
  refine⟨c - a,List.mem_range.2 (by omega),?_⟩
  simp
  omega
theorem ow_in{n P k c:Nat}:ow (fun i=>cO n P k+i) (cO n P (k+1) - cO n P k) c=inP (6*n*n) P k c:=by
 have s:=bH (6*n*n) P k
 rw[ow_row,Bool.eq_iff_iff,kT,Bool.and_eq_true,decide_eq_true_eq,decide_eq_true_eq]
 unfold cO
 omega
theorem ow_list{l:List Nat}{c:Nat}:ow (fun i=>l.getD i 0) l.length c=true ↔ c ∈ l:=by
 unfold ow
 rw[List.any_eq_true,List.mem_iff_getElem]
 constructor
 ·rintro⟨i,h1,h2⟩
  have h1:=List.mem_range.1 h1
  refine⟨i,h1,?_⟩
  have h2:c=l.getD i 0:=by simpa using h2
  rw[h2,List.getD_eq_getElem?_getD,List.getElem?_eq_getElem h1]
  rfl
 ·rintro⟨i,h1,h2⟩
  refine⟨i,List.mem_range.2 h1,?_⟩
  dsimp only
  rw[List.getD_eq_getElem?_getD,List.getElem?_eq_getElem h1,h2]
  simp
theorem pW{l:List Nat}{i:Nat}(h:i<l.length):l.getD i 0 ∈ l:=by
 rw[List.getD_eq_getElem?_getD,List.getElem?_eq_getElem h]
 exact List.getElem_mem h
theorem get_lt{l:List Nat}(h:l.Pairwise (· < ·)){i j:Nat}(hij:i<j)(hj:j<l.length):l.getD i 0<l.getD j 0:=by
 rw[List.getD_eq_getElem?_getD,List.getElem?_eq_getElem (show i<l.length by omega),List.getD_eq_getElem?_getD,List.getElem?_eq_getElem hj]
 exact List.pairwise_iff_getElem.1 h i j _ _ hij
theorem pX{n P k c:Nat}(hn:1<=n)(hk:k<P):mk3 (rt n) (fun e=>bsC n (edT n e/4) ((edT n e%4+2)%4)) (fun e=>bsC n (bsC n (edT n e/4) (edT n e%4)) ((bsS n (edT n e/4) (edT n e%4)+2)%4)) (fun i=>eO n P k+i) (eO n P (k+1) - eO n P k) c=true ↔ ∃e,e ∈ edP n P k/\(c=rt n e\/c=bsC n (edT n e/4) ((edT n e%4+2)%4)\/c=bsC n (bsC n (edT n e/4) (edT n e%4)) ((bsS n (edT n e/4) (edT n e%4)+2)%4)):=by
 unfold mk3
 rw[List.any_eq_true,iZ hn hk]
 constructor
 ·rintro⟨i,h1,h2⟩
  have h1:=List.mem_range.1 h1
  refine⟨eO n P k+i,List.mem_range'_1.2 ?_,?_⟩
  ·unfold eO at*
   omega
  ·simpa [or_assoc]using h2
 ·rintro⟨e,h1,h2⟩
  rw[List.mem_range'_1]at h1
  refine⟨e - eO n P k,List.mem_range.2 (by unfold eO;omega),?_⟩
  dsimp only
  rw[show eO n P k+(e - eO n P k)=e by unfold eO;omega]
  simpa [or_assoc]using h2
theorem mY{n P k c:Nat}:ask n P k c=true ↔ ∃e,e ∈ edP n P k/\(c=lf n e\/c=rt n e\/c=bsC n (edT n e/4) ((edT n e%4+2)%4)\/c=bsC n (bsC n (edT n e/4) (edT n e%4)) ((bsS n (edT n e/4) (edT n e%4)+2)%4)):=by
 rw[ask_iff]
 unfold fr4 lf rt
 constructor
 ·rintro⟨e,h1,h2⟩
  exact⟨e,h1,by simpa [or_assoc]using h2⟩
 ·rintro⟨e,h1,h2⟩
  exact⟨e,h1,by simpa [or_assoc]using h2⟩
theorem needs_at{n gb P k gc ge be hc:Nat}{hp:Option Addr}{W0 w:World}(hn:1<=n/\n<=32)(hk:k<P)(g:GridOf n gb W0)(u:upR gc (6*n*n) W0)(v:upR ge (12*n*n) W0)(a0:Ab W0 w)(lb:W0.heap.size<=be)(re:w.rowIs be 4 (12*n*n) (fun e=>.bool (decide (e<eO n P k))))(ih:Sh.IsI W0 hp (hlP n P k).length (rd (hlP n P k))):
  Calls prog 11 #[.pointer (some ⟨gb,0,none⟩),.agg #[win gc (cO n P k) (cO n P (k+1)),win ge (eO n P k) (eO n P (k+1)),.slice hp (hlP n P k).length hc],.slice (some ⟨be,0,none⟩) (12*n*n) (12*n*n)] w fun e w'=>e=.returned (.bool true)/\Ab W0 w'/\w'.rowIs be 4 (12*n*n) (fun e=>.bool (decide (e<eO n P (k+1)))):=by
 have n1:=n12 hn
 have n2:6*n*n<=6144:=by
  have h1:6*n<=6*32:=Nat.mul_le_mul_left _ hn.2
  exact Nat.le_trans (Nat.mul_le_mul h1 hn.2) (by decide)
 have n0:0<6*n*n:=Nat.mul_pos (Nat.mul_pos (by decide) hn.1) hn.1
 have c1:=fK (N:=6*n*n) (P:=P) (k:=k+1) (by omega) (by omega)
 have c2:=bH (6*n*n) P k
 have d1:=gJ hn.1 c1
 have d2:=cQ (n:=n) c2
 have hlen:(hlP n P k).length<=12288:=by
  have h:=List.length_filter_le (fun c=>ask n P k c&& !inP (6*n*n) P k c) (List.range (6*n*n))
  rw[List.length_range]at h
  unfold hlP
  omega
 have ed: ∀i,i<eO n P (k+1) - eO n P k->eO n P k+i ∈ edP n P k:=fun i hi=>by
  rw[iZ hn.1 hk,List.mem_range'_1]
  unfold eO at*
  omega
 refine(needs_go gb (6*n*n) (12*n*n) gc (wo (cO n P k) (cO n P (k+1))) (cO n P (k+1) - cO n P k) (cO n P (k+1) - cO n P k) ge (wo (eO n P k) (eO n P (k+1))) (eO n P (k+1) - eO n P k) (eO n P (k+1) - eO n P k) hp (hlP n P k).length hc be (eO n P k) (fun i=>cO n P k+i) (fun i=>eO n P k+i) (fun i=>(hlP n P k).getD i 0) (lf n) (fun e=>edT n e%4) (rt n) (fun e=>bsS n (edT n e/4) (edT n e%4)) (fun e=>bsC n (edT n e/4) ((edT n e%4+2)%4)) (fun e=>bsC n (bsC n (edT n e/4) (edT n e%4)) ((bsS n (edT n e/4) (edT n e%4)+2)%4)) W0 w ⟨n0,n2⟩ n1 ⟨by unfold cO;omega,by unfold eO;omega,hlen⟩
  (hid a0) (hid lb) (hid (re.congr (fun i _=>by simp))) (hid ((eJ u (by unfold cO;omega) (by omega)).congr (fun i hi=>by unfold rd;rw[dZ hi]))) (hid ((eJ v (by unfold eO;omega) (by omega)).congr (fun i hi=>by unfold rd;rw[dZ hi]))) (hid ih)
  (hid (fun i hi=>by unfold cO at*;omega)) (hid (fun i hi=>⟨rfl,by unfold eO at*;omega⟩)) (hid (fun e he=>pV hn.1 he)) (hid (fun i hi=> ?_)) (hid (fun i hi=> ?_)) (hid (fun i j hij hj=> ?_)) (hid (fun c hc h1 h2=> ?_))
  (hid (fun v a=>bM (g.to a))) (hid (fun v k a hk=>oJ hn hk (g.to a))) (hid (fun v k a hk=>mV hn hk (g.to a)))).mono ?_
 ·rw[ow_in]
  exact(mem_ed.1 (ed i hi)).2
 ·have hm:=iY.1 (pW hi)
  refine⟨hm.1,by rw[ow_in];exact hm.2.2,?_⟩
  rw[pX hn.1 hk]
  obtain⟨e,h1,h2⟩:=mY.1 hm.2.1
  refine⟨e,h1,?_⟩
  rcases h2 with h2 | h2
  ·have h3:=(mem_ed.1 h1).2
   rw[<- h2,hm.2.2]at h3
   cases h3
  ·exact h2
 ·exact Nat.ne_of_lt (get_lt (pT n P k) hij hj)
 ·rw[ow_in]at h2
  rw[ow_list,iY]
  obtain⟨e,h3,h4⟩:=(pX hn.1 hk).1 h1
  exact⟨hc,mY.2 ⟨e,h3,.inr h4⟩,h2⟩
 ·rintro e w' ⟨rfl,h1,h2⟩
  refine⟨rfl,h1,h2.congr (fun i _=> ?_)⟩
  rw[show eO n P k+(eO n P (k+1) - eO n P k)=eO n P (k+1)by unfold eO;omega]
end Spl
end
section
open Go.RowKit Tf Cu Go.Deep
namespace Spl
theorem bR{w:World}{p:Option Addr}{n g k:Nat}{f:Nat->Nat}(v:Value)(h:IsFl w p n f)(hp: ∀b o,p=some ⟨b,o,none⟩->b≠g):IsFl (w.setCell ⟨g,k,none⟩ v) p n f:=fun i hi=>by
 obtain⟨h1,b,o,h2,h3,h4⟩:=h i hi
 exact⟨h1,b,o,h2,by simpa [World.setCell]using h3,(World.cell?_of_block (Below.heap_setCell _ _ _ _ (hp b o h2))).trans h4⟩
theorem cV{w:World}{p:Option Addr}{n g k:Nat}{f:Nat->Int}(v:Value)(h:Sh.IsI w p n f)(hp: ∀b o,p=some ⟨b,o,none⟩->b≠g):Sh.IsI (w.setCell ⟨g,k,none⟩ v) p n f:=fun i hi=>by
 obtain⟨h1,b,o,h2,h3,h4⟩:=h i hi
 exact⟨h1,b,o,h2,by simpa [World.setCell]using h3,(World.cell?_of_block (Below.heap_setCell _ _ _ _ (hp b o h2))).trans h4⟩
theorem pY{M n:Nat}{v:Value}{f:Nat->Nat}{w:World}(h:OwnG M v ((List.range n).map f) w)(hf: ∀i,i<n->f i<18446744073709551616): ∃p c,v=.slice p n c/\IsFl w p n f/\ ∀b o,p=some ⟨b,o,none⟩->M<=b/\b<w.heap.size:=by
 obtain⟨p,c,e,i⟩:=h.fl (fun x hx=>by obtain⟨j,hj,rfl⟩:=List.mem_map.1 hx;exact hf j (List.mem_range.1 hj))
 rw[List.length_map,List.length_range]at e i
 refine⟨p,c,e,fun k hk=> ?_,fun b o q=>World.ownsRow.lt h b (by rw[e,q];rfl)⟩
 have q:=i k hk
 simpa [List.getD,hk]using q
theorem pZ{M n:Nat}{v:Value}{f:Nat->Int}{w:World}(h:Sh.Own M v ((List.range n).map f) w)(hf: ∀i,i<n->W64 (f i)): ∃p c,v=.slice p n c/\Sh.IsI w p n f/\ ∀b o,p=some ⟨b,o,none⟩->M<=b/\b<w.heap.size:=by
 obtain⟨p,c,e,i⟩:=Sh.Own.in h (fun x hx=>by obtain⟨j,hj,rfl⟩:=List.mem_map.1 hx;exact hf j (List.mem_range.1 hj))
 rw[List.length_map,List.length_range]at e i
 refine⟨p,c,e,fun k hk=> ?_,fun b o q=>World.ownsRow.lt h b (by rw[e,q];rfl)⟩
 have q:=i k hk
 simpa [List.getD,hk]using q
def Bnd(n1 n2 n3 n4:Nat)(A:Nat->Nat)(B C:Nat->Int)(D:Nat->Nat):Prop:=(∀i,i<n1->A i<18446744073709551616)/\(∀i,i<n2->W64 (B i))/\(∀i,i<n3->W64 (C i))/\(∀i,i<n4->D i<18446744073709551616)
def SeaP(g:Nat)(p1:Option Addr)(c1:Nat)(p2:Option Addr)(c2:Nat)(p3:Option Addr)(c3:Nat)(p4:Option Addr)(c4:Nat)(n1 n2 n3 n4:Nat)(A:Nat->Nat)(B C:Nat->Int)(D:Nat->Nat)(sk st:Int)(v:World):Prop:=v.heap[g]? =some (.cells #[.slice p1 n1 c1,.slice p2 n2 c2,.slice p3 n3 c3,.slice p4 n4 c4,.int .i64 sk,.int .i64 st] 41)/\IsFl v p1 n1 A/\Sh.IsI v p2 n2 B/\Sh.IsI v p3 n3 C/\IsFl v p4 n4 D
theorem qA{M:Nat}{vv:Value}{n1 n2 n3 n4:Nat}{A:Nat->Nat}{B C:Nat->Int}{D:Nat->Nat}{sk st:Int}{u:World}(h:OwnS M vv n1 n2 n3 n4 A B C D sk st u)(hb:Bnd n1 n2 n3 n4 A B C D):
  ∃p1 c1 p2 c2 p3 c3 p4 c4,vv=.agg #[.slice p1 n1 c1,.slice p2 n2 c2,.slice p3 n3 c3,.slice p4 n4 c4,.int .i64 sk,.int .i64 st]/\(IsFl u p1 n1 A/\Sh.IsI u p2 n2 B/\Sh.IsI u p3 n3 C/\IsFl u p4 n4 D)/\((∀b o,p1=some ⟨b,o,none⟩->M<=b)/\(∀b o,p2=some ⟨b,o,none⟩->M<=b)/\(∀b o,p3=some ⟨b,o,none⟩->M<=b)/\ ∀b o,p4=some ⟨b,o,none⟩->M<=b):=by
 obtain⟨v1,v2,v3,v4,rfl,h1,h2,h3,h4,-,-⟩:=h
 obtain⟨p1,c1,rfl,i1,m1⟩:=pY h1 hb.1
 obtain⟨p2,c2,rfl,i2,m2⟩:=pZ h2 hb.2.1
 obtain⟨p3,c3,rfl,i3,m3⟩:=pZ h3 hb.2.2.1
 obtain⟨p4,c4,rfl,i4,m4⟩:=pY h4 hb.2.2.2
 exact⟨p1,c1,p2,c2,p3,c3,p4,c4,rfl,⟨i1,i2,i3,i4⟩,fun b o q=>(m1 b o q).1,fun b o q=>(m2 b o q).1,fun b o q=>(m3 b o q).1,fun b o q=>(m4 b o q).1⟩
end Spl
end
section
open Go.RowKit Tf Cu Go.Deep
namespace Spl
def bl4:Value->List Nat
 | .agg a=>(a.toList.take 4).filterMap Value.ownBlock
 | _=>[]
theorem OwnS.blk{M:Nat}{v:Value}{nb nw nt ns:Nat}{A:Nat->Nat}{B C:Nat->Int}{D:Nat->Nat}{sk st:Int}{w:World}(h:OwnS M v nb nw nt ns A B C D sk st w){b:Nat}(hb:b ∈ bl4 v):M<=b/\b<w.heap.size:=by
 obtain⟨v1,v2,v3,v4,rfl,h1,h2,h3,h4,d1,d2⟩:=h
 simp only[bl4,List.take_succ_cons,List.take_zero,List.mem_filterMap,List.mem_cons,List.not_mem_nil,or_false]at hb
 obtain⟨u,hu,hv⟩:=hb
 rcases hu with rfl | rfl | rfl | rfl
 ·exact World.ownsRow.lt h1 b hv
 ·exact World.ownsRow.lt h2 b hv
 ·exact World.ownsRow.lt h3 b hv
 ·exact World.ownsRow.lt h4 b hv
theorem sea_box{M g:Nat}{vv:Value}{n1 n2 n3 n4:Nat}{A:Nat->Nat}{B C:Nat->Int}{D:Nat->Nat}{sk st:Int}{z:World}(q:z.heap[g]? =some (.cells #[.slice none 0 0,.slice none 0 0,.slice none 0 0,.slice none 0 0,.int .i64 0,.int .i64 0] 41))(os:OwnS M vv n1 n2 n3 n4 A B C D sk st z)(hb:Bnd n1 n2 n3 n4 A B C D)(ng: ∀b,b ∈ bl4 vv->b≠g):
  ∃p1 c1 p2 c2 p3 c3 p4 c4,vv=.agg #[.slice p1 n1 c1,.slice p2 n2 c2,.slice p3 n3 c3,.slice p4 n4 c4,.int .i64 sk,.int .i64 st]/\SeaP g p1 c1 p2 c2 p3 c3 p4 c4 n1 n2 n3 n4 A B C D sk st ((((((z.setCell ⟨g,0,none⟩ (.slice p1 n1 c1)).setCell ⟨g,1,none⟩ (.slice p2 n2 c2)).setCell ⟨g,2,none⟩ (.slice p3 n3 c3)).setCell ⟨g,3,none⟩ (.slice p4 n4 c4)).setCell ⟨g,4,none⟩ (.int .i64 sk)).setCell ⟨g,5,none⟩ (.int .i64 st))/\
   ((∀b o,p1=some ⟨b,o,none⟩->M<=b)/\(∀b o,p2=some ⟨b,o,none⟩->M<=b)/\(∀b o,p3=some ⟨b,o,none⟩->M<=b)/\ ∀b o,p4=some ⟨b,o,none⟩->M<=b):=by
 obtain⟨p1,c1,p2,c2,p3,c3,p4,c4,e,⟨i1,i2,i3,i4⟩,m1,m2,m3,m4⟩:=qA os hb
 subst e
 have mem: ∀(p:Option Addr) (n c:Nat) (b o:Nat),p=some ⟨b,o,none⟩->(Value.slice p n c).ownBlock=some b:=fun p n c b o e=>by subst e;rfl
 have ne: ∀b,(∃u:Value,(u=.slice p1 n1 c1\/u=.slice p2 n2 c2\/u=.slice p3 n3 c3\/u=.slice p4 n4 c4)/\u.ownBlock=some b)->b≠g:=fun b h=>ng b (by
  obtain⟨u,hu,hv⟩:=h
  simp only[bl4,List.take_succ_cons,List.take_zero,List.mem_filterMap,List.mem_cons,List.not_mem_nil,or_false]
  exact⟨u,hu,hv⟩)
 have o1: ∀b o,p1=some ⟨b,o,none⟩->b≠g:=fun b o k=>ne b ⟨_,.inl rfl,mem p1 n1 c1 b o k⟩
 have o2: ∀b o,p2=some ⟨b,o,none⟩->b≠g:=fun b o k=>ne b ⟨_,.inr (.inl rfl),mem p2 n2 c2 b o k⟩
 have o3: ∀b o,p3=some ⟨b,o,none⟩->b≠g:=fun b o k=>ne b ⟨_,.inr (.inr (.inl rfl)),mem p3 n3 c3 b o k⟩
 have o4: ∀b o,p4=some ⟨b,o,none⟩->b≠g:=fun b o k=>ne b ⟨_,.inr (.inr (.inr rfl)),mem p4 n4 c4 b o k⟩
 have fl: ∀(p:Option Addr) (n:Nat) (f:Nat->Nat),(∀b o,p=some ⟨b,o,none⟩->b≠g)->IsFl z p n f->IsFl ((((((z.setCell ⟨g,0,none⟩ (.slice p1 n1 c1)).setCell ⟨g,1,none⟩ (.slice p2 n2 c2)).setCell ⟨g,2,none⟩ (.slice p3 n3 c3)).setCell ⟨g,3,none⟩ (.slice p4 n4 c4)).setCell ⟨g,4,none⟩ (.int .i64 sk)).setCell ⟨g,5,none⟩ (.int .i64 st)) p n f:=fun p n f o i=>bR _ (bR _ (bR _ (bR _ (bR _ (bR _ i o) o) o) o) o) o
 have ii: ∀(p:Option Addr) (n:Nat) (f:Nat->Int),(∀b o,p=some ⟨b,o,none⟩->b≠g)->Sh.IsI z p n f->Sh.IsI ((((((z.setCell ⟨g,0,none⟩ (.slice p1 n1 c1)).setCell ⟨g,1,none⟩ (.slice p2 n2 c2)).setCell ⟨g,2,none⟩ (.slice p3 n3 c3)).setCell ⟨g,3,none⟩ (.slice p4 n4 c4)).setCell ⟨g,4,none⟩ (.int .i64 sk)).setCell ⟨g,5,none⟩ (.int .i64 st)) p n f:=fun p n f o i=>cV _ (cV _ (cV _ (cV _ (cV _ (cV _ i o) o) o) o) o) o
 exact⟨p1,c1,p2,c2,p3,c3,p4,c4,rfl,⟨row6 q,fl _ _ _ o1 i1,ii _ _ _ o2 i2,ii _ _ _ o3 i3,fl _ _ _ o4 i4⟩,m1,m2,m3,m4⟩
theorem eC(w:World)(o:Obj):(w.alloc o).drew.heap[w.heap.size]? =some o:=heap_alloc_new w o
theorem lit22{x:Int}(h:(Lit.int .i64 x).wf=true):W64 x:=by
 unfold W64
 simp only[Lit.wf,Bool.and_eq_true,decide_eq_true_eq]at h
 have q1:IntKind.i64.min= -9223372036854775808:=by decide
 have q2:IntKind.i64.max=9223372036854775807:=by decide
 omega
def Mb(M:Nat)(p1 p2 p3 p4:Option Addr):Prop:=(∀b o,p1=some ⟨b,o,none⟩->M<=b)/\(∀b o,p2=some ⟨b,o,none⟩->M<=b)/\(∀b o,p3=some ⟨b,o,none⟩->M<=b)/\ ∀b o,p4=some ⟨b,o,none⟩->M<=b
theorem Mb.up{M N:Nat}{p1 p2 p3 p4:Option Addr}(h:Mb N p1 p2 p3 p4)(hm:M<=N):Mb M p1 p2 p3 p4:=⟨fun b o e=>Nat.le_trans hm (h.1 b o e),fun b o e=>Nat.le_trans hm (h.2.1 b o e),fun b o e=>Nat.le_trans hm (h.2.2.1 b o e),fun b o e=>Nat.le_trans hm (h.2.2.2 b o e)⟩
theorem sea_nw2{M:Nat}{vv:Value}{n1 n2 n3 n4:Nat}{A:Nat->Nat}{B C:Nat->Int}{D:Nat->Nat}{sk st:Int}{u:World}(h:OwnS M vv n1 n2 n3 n4 A B C D sk st u)(hb:Bnd n1 n2 n3 n4 A B C D):
  ∃p1 c1 p2 c2 p3 c3 p4 c4,vv=.agg #[.slice p1 n1 c1,.slice p2 n2 c2,.slice p3 n3 c3,.slice p4 n4 c4,.int .i64 sk,.int .i64 st]/\SeaP u.heap.size p1 c1 p2 c2 p3 c3 p4 c4 n1 n2 n3 n4 A B C D sk st (u.alloc (.cells #[.slice p1 n1 c1,.slice p2 n2 c2,.slice p3 n3 c3,.slice p4 n4 c4,.int .i64 sk,.int .i64 st] 41))/\Mb M p1 p2 p3 p4:=by
 obtain⟨p1,c1,p2,c2,p3,c3,p4,c4,e,⟨i1,i2,i3,i4⟩,mm⟩:=qA h hb
 have a: ∀o,Ab u (u.alloc o):=fun o=>bl1 _ _
 exact⟨p1,c1,p2,c2,p3,c3,p4,c4,e,⟨heap_alloc_new _ _,i1.below (a _),i2.below (a _),i3.below (a _),i4.below (a _)⟩,mm⟩
theorem qC{U z:World}{g:Nat}{vv:Value}{n1 n2 n3 n4:Nat}{A:Nat->Nat}{B C:Nat->Int}{D:Nat->Nat}{sk st:Int}(q:U.heap[g]? =some (.cells #[.slice none 0 0,.slice none 0 0,.slice none 0 0,.slice none 0 0,.int .i64 0,.int .i64 0] 41))(b:Ab U z)(os:OwnS U.heap.size vv n1 n2 n3 n4 A B C D sk st z)(hb:Bnd n1 n2 n3 n4 A B C D):
  ∃p1 c1 p2 c2 p3 c3 p4 c4,vv=.agg #[.slice p1 n1 c1,.slice p2 n2 c2,.slice p3 n3 c3,.slice p4 n4 c4,.int .i64 sk,.int .i64 st]/\z.heap[g]? =some (.cells #[.slice none 0 0,.slice none 0 0,.slice none 0 0,.slice none 0 0,.int .i64 0,.int .i64 0] 41)/\SeaP g p1 c1 p2 c2 p3 c3 p4 c4 n1 n2 n3 n4 A B C D sk st ((((((z.setCell ⟨g,0,none⟩ (.slice p1 n1 c1)).setCell ⟨g,1,none⟩ (.slice p2 n2 c2)).setCell ⟨g,2,none⟩ (.slice p3 n3 c3)).setCell ⟨g,3,none⟩ (.slice p4 n4 c4)).setCell ⟨g,4,none⟩ (.int .i64 sk)).setCell ⟨g,5,none⟩ (.int .i64 st))/\Mb U.heap.size p1 p2 p3 p4:=by
 obtain⟨p1,c1,p2,c2,p3,c3,p4,c4,e,s,m⟩:=sea_box (b.heap q) os hb (fun d hd e=>by have h1:=(os.blk hd).1;have h2:=lt_of_block q;omega)
 exact⟨p1,c1,p2,c2,p3,c3,p4,c4,e,b.heap q,s,m⟩
end Spl
end
section
open Go.RowKit
def backB(md:Region.Mode)(ops:Array Oper)(n:Nat):Bool:=
 (List.range n).all fun i=>match ops[i]? with
  | some o=>o.after.all (fun e=> !Region.binds md e||decide (e.on<i))&&(match o.guard with | none=>true | some (j,_)=>decide (j<n))
  | none=>true
def finA(m n:Nat):Array Bool:=Array.replicate n true++Array.replicate (m - n) false
theorem dA{md:Region.Mode}{ops:Array Oper}{n:Nat}(h:backB md ops n=true){i:Nat}{o:Oper}(hi:i<n)(ho:ops[i]? =some o):
  (∀e ∈ o.after,Region.binds md e=true->e.on<i)/\(∀j b,o.guard=some (j,b)->j<n):=by
 have a:=List.all_eq_true.1 h i (List.mem_range.2 hi)
 simp only[ho,Bool.and_eq_true]at a
 refine⟨fun e he hb=> ?_,fun j b hg=> ?_⟩
 ·have:=Array.all_eq_true_iff_forall_mem.1 a.1 e he
  simpa [hb]using this
 ·have:=a.2
  rw[hg]at this
  simpa using this
theorem kV{l:Array Bool}{i:Nat}(h:i<l.size)(d d':Bool):l.getD i d=l.getD i d':=by simp[h]
theorem dI{P:Program}{md:Region.Mode}{ops:Array Oper}{Q:Exit->Act->World->Prop}: ∀(g k:Nat) (listed:Array Bool) (a:Act) (w:World),wpAny P md ops Q g listed a w->wpAny P md ops Q (g+k) listed a w
 | 0,0,_,_,_,h=>h
 | 0,k+1,listed,a,w,h=>by
  rw[Nat.zero_add]
  exact⟨fun _=>h.2,fun i hi=>by rw[h.1]at hi;cases hi⟩
 | g+1,k,listed,a,w,h=>by
  rw[show g+1+k=(g+k)+1 by omega]
  exact⟨h.1,fun i hi=>wpOp_mono (fun a' w' h'=>dI g k _ a' w' h') (h.2 i hi)⟩
section
variable {P:Program} {md:Region.Mode} {ops hd:Array Oper} {C:World->Prop} {n:Nat}
theorem bN(hhd: ∀i,i<n->hd[i]? =ops[i]?)(hb:backB md ops n=true){listed lh:Array Bool}(hl:lh.size=n)(hls:n<=listed.size)(he: ∀i,i<n->lh.getD i true=listed.getD i true){i:Nat}(hi:i<n):
  i ∈ Region.ready md hd lh ↔ i ∈ Region.ready md ops listed:=by
 rw[mem_ready,mem_ready,he i hi,hhd i hi]
 refine and_congr Iff.rfl (exists_congr fun o=>and_congr_right fun ho=>forall_congr' fun e=>forall_congr' fun hm=>forall_congr' fun hbd=> ?_)
 have lt:=(dA hb hi ho).1 e hm hbd
 rw[kV (d:=false) (d':=true) (by omega),kV (l:=listed) (d:=false) (d':=true) (by omega),he _ (by omega)]
theorem bO(hsz:n<=ops.size)(hb:backB md ops n=true){listed:Array Bool}(hls:n<=listed.size):
  (∀i,i<n->listed.getD i true=true)\/ ∃i,i<n/\i ∈ Region.ready md ops listed:=by
 have key: ∀k,k<=n->(∀i,i<k->listed.getD i true=true)\/ ∃i,i<n/\i ∈ Region.ready md ops listed:=by
  intro k
  induction k with
  | zero=>exact fun _=>.inl (fun i hi=>by omega)
  | succ k ih=>
   intro hk
   rcases ih (by omega)with h | h
   ·cases c:listed.getD k true
    ·right
     refine⟨k,by omega,mem_ready.2 ⟨c,ops[k]'(by omega),by simp,fun e he hbd=> ?_⟩⟩
     have lt:=(dA hb (i:=k) (o:=ops[k]'(by omega)) (by omega) (by simp)).1 e he hbd
     rw[kV (d:=false) (d':=true) (by omega)]
     exact h _ lt
    ·left
     intro i hi
     by_cases e:i=k
     ·rw[e];exact c
     ·exact h i (by omega)
   ·exact .inr h
 exact key n (Nat.le_refl _)
theorem qOp_head(hhd: ∀i,i<n->hd[i]? =ops[i]?)(hb:backB md ops n=true){i:Nat}(hi:i<n){K:Act->Prop}{a:Act}(h:qOp P hd C i K a):qOp P ops C i K a:=by
 unfold qOp at*
 rw[hhd i hi]at h
 cases ho:ops[i]? with
 | none=>rw[ho]at h;exact h
 | some o=>
  rw[ho]at h
  have e:Region.wanted o (yielded hd a.tmps)=Region.wanted o (yielded ops a.tmps):=by
   unfold Region.wanted
   cases hg:o.guard with
   | none=>rfl
   | some jb=>
    obtain⟨j,b⟩:=jb
    have lt:=(dA hb hi ho).2 j b hg
    show(yielded hd a.tmps j==some b)=(yielded ops a.tmps j==some b)
    unfold yielded
    rw[hhd j lt]
  simp only[e]at h
  exact h
theorem gB{listed:Array Bool}(hn:n<ops.size)(inv:HeadInv md ops n listed)(h: ∀i,i<n->listed.getD i true=true):listed=finA ops.size n:=by
 have s:=inv.size
 unfold finA
 refine Array.ext (by simp;omega) fun i h1 h2=> ?_
 by_cases c:i<n
 ·have:=h i c
  rw[Array.getElem_append_left (by simpa using c)]
  simp[h1]at this
  simpa using this
 ·have:=inv.tail i (by omega) (by omega)
  rw[Array.getElem_append_right (by simp;omega)]
  simp[h1]at this
  simpa using this
theorem jA{g:Nat}{Q1:Act->Prop}{Q':Exit->Act->World->Prop}(hhd: ∀i,i<n->hd[i]? =ops[i]?)(hsz:hd.size=n)(hn:n<ops.size)(hb:backB md ops n=true)(hs:Region.sinkB md ops n=true)(hc:Region.chainB md ops n=true)
  (hL: ∀a w,C w->Q1 a->wpAny P md ops Q' g (finA ops.size n) a w):
  ∀(fuel:Nat) (listed lh:Array Bool) (a:Act) (w:World),C w->HeadInv md ops n listed->lh.size=n->(∀i,i<n->lh.getD i true=listed.getD i true)->
   wpAnyQ P md hd C Q1 fuel lh a->wpAny P md ops Q' (fuel+g) listed a w:=by
 intro fuel
 induction fuel with
 | zero=>
  intro listed lh a w hC inv hl he h
  have hls:n<=listed.size:=by rw[inv.size];omega
  rcases bO (by omega) hb hls with all | ⟨i,hi,hr⟩
  ·rw[Nat.zero_add,gB hn inv all]
   exact hL a w hC h.2
  ·have:=(bN hhd hb hl hls he hi).2 hr
   rw[h.1]at this
   cases this
 | succ fuel ih=>
  intro listed lh a w hC inv hl he h
  have hls:n<=listed.size:=by rw[inv.size];omega
  rcases bO (by omega) hb hls with all | ⟨i0,hi0,hr0⟩
  ·have no:Region.ready md hd lh=[]:=by
    rw[List.eq_nil_iff_forall_not_mem]
    intro i hi
    obtain⟨u,o,ho,_⟩:=mem_ready.1 hi
    have lt:i<n:=by rw[<- hsz];exact(Array.getElem?_eq_some_iff.1 ho).1
    rw[he i lt,all i lt]at u
    cases u
   rw[Nat.add_comm (fuel+1) g,gB hn inv all]
   exact dI g (fuel+1) _ a w (hL a w hC (h.1 no))
  ·rw[show fuel+1+g=(fuel+g)+1 by omega]
   refine⟨fun h0=>(by rw[h0]at hr0;cases hr0),fun i hi=> ?_⟩
   have lt:i<n:=by
    by_cases c:i<n
    ·exact c
    ·exact absurd hi (tail_waits hs hc hn inv _ i0 rfl hi0 (mem_ready.1 hr0).1 i (by omega))
   have hq:=qOp_head hhd hb lt (h.2 i ((bN hhd hb hl hls he lt).2 hi))
   refine wpOp_of_qOp hC (fun a' w' hC' h'=>ih _ _ a' w' hC' (inv.set hi lt) (by simp[hl]) (fun j hj=> ?_) h') hq
   by_cases e:i=j
   ·subst e
    simp[hl,lt,show i<listed.size by omega]
   ·rw[getD_set_ne true e,getD_set_ne true e,he j hj]
end
def tailB(ops:Array Oper)(n:Nat):Bool:=
 decide (n<ops.size)&&backB .any ops n&&Region.sinkB .any ops n&&Region.chainB .any ops n&&Region.seqB .any ops (ops.size - n) n (finA ops.size n)
theorem gK{P:Program}{id:Nat}{Q:Exit->Act->World->Prop}{a:Act}{w:World}{l:List Oper}{U:Type}(n:Nat)(F:U->World)(hm:P.follows .mixedOrders=true)(hB:Region.lexB .any (l.take n).toArray=true)(hT:tailB l.toArray n=true)
  (hC: ∃u,w.drew=F u)
  (h:wpQuiet P (l.take n).toArray (fun w'=> ∃u,w'=F u) (fun a'=> ∀w',(∃u,w'=F u)->wpList P l.toArray Q (l.drop n) a' w') (l.take n) a):(Code.region id l.toArray true).wp P Q a w:=by
 simp only[tailB,Bool.and_eq_true,decide_eq_true_eq]at hT
 obtain⟨⟨⟨⟨hn,hb⟩,hs⟩,hc⟩,hq⟩:=hT
 have hn':n<l.length:=by simpa using hn
 have htl:(l.take n).toArray.size=n:=by simp;omega
 have hdl:(l.drop n).length=l.toArray.size - n:=by simp
 refine wp_region_any hm ?_
 simp only[Region.lexB,Bool.and_eq_true]at hB
 have H:=wpAnyQ_lex (P:=P) (C:=fun w'=> ∃u,w'=F u) (md:=.any) hB.1 (l.take n) 0 (Array.replicate (l.take n).toArray.size false) a (by simp) (by simpa using hB.2) h
 have inv0:HeadInv .any l.toArray n (Array.replicate l.toArray.size false):=
  ⟨by simp,fun j oj _ hl=>(by rw[getD_replicate_false]at hl;cases hl),fun t _ ht=>getD_in (by simpa using ht) (getD_replicate_false _ _)⟩
 have:=jA (P:=P) (Q':=Q) (g:=l.toArray.size - n) (hd:=(l.take n).toArray) (ops:=l.toArray) (fun i hi=>by simp[hi]) htl hn hb hs hc
  (fun a' w' hC' h'=>by
   have:=wpAny_of_seq (P:=P) (md:=.any) (ops:=l.toArray) (Q':=Q) (l.drop n) n (finA l.toArray.size n) a' w' (fun j=>by simp) (by rw[hdl];exact hq) (h' w' hC')
   rwa [hdl]at this)
  (l.take n).length _ _ a w.drew hC inv0 (by simpa using htl) (fun i hi=>by
   rw[getD_in (listed:=Array.replicate l.toArray.size false) (by simp;omega) (getD_replicate_false _ _)]
   exact getD_in (by rw[Array.size_replicate];omega) (getD_replicate_false _ _)) H
 have e:(l.take n).length+(l.toArray.size - n)=l.toArray.size:=by simp;omega
 rw[e]at this
 exact this
end
section
open Go.RowKit
def Fresh(W:World)(S:Nat->Option Nat)(b:Nat):Prop:=W.heap.size<=b/\ ∀i c,S i=some c->c≠b
def putL(S:Nat->Option Nat)(i b:Nat):Nat->Option Nat:=fun k=>if k=i then some b else S k
def Has(W:World)(sp:Nat->Option (Obj × (Nat->Value)))(S:Nat->Option Nat)(w:World):Prop:=Ab W w/\ ∀i b,S i=some b->W.heap.size<=b/\ ∃o mk,sp i=some (o,mk)/\w.heap[b]? =some o
theorem gC(S:Nat->Option Nat){i j:Nat}(b c:Nat)(h:i≠j):putL (putL S i b) j c=putL (putL S j c) i b:=by
 funext k
 unfold putL
 by_cases e:k=j
 ·subst e;simp[Ne.symm h]
 ·by_cases e2:k=i
  ·subst e2;simp[e]
  ·simp[e,e2]
theorem Fresh.put{W:World}{S:Nat->Option Nat}{i b c:Nat}(h:Fresh W S c)(n:b≠c):Fresh W (putL S i b) c:=
 ⟨h.1,fun k d e=>by
  unfold putL at e
  by_cases q:k=i
  ·rw[if_pos q]at e;injection e with e;exact fun x=>n (e.trans x)
  ·rw[if_neg q]at e;exact h.2 k d e⟩
theorem Fresh.of_put{W:World}{S:Nat->Option Nat}{i b c:Nat}(h:Fresh W (putL S i b) c)(hi:S i=none):Fresh W S c/\b≠c:=by
 refine⟨⟨h.1,fun k d e=>h.2 k d ?_⟩,h.2 i b (by simp[putL])⟩
 unfold putL
 by_cases q:k=i
 ·subst q;rw[hi]at e;cases e
 ·rw[if_neg q];exact e
theorem Has.lt{W:World}{sp:Nat->Option (Obj × (Nat->Value))}{S:Nat->Option Nat}{w:World}(h:Has W sp S w){i b:Nat}(e:S i=some b):b<w.heap.size:=by
 obtain⟨_,o,mk,_,q⟩:=h.2 i b e
 exact lt_of_block q
theorem Has.fresh{W:World}{sp:Nat->Option (Obj × (Nat->Value))}{S:Nat->Option Nat}{w:World}(h:Has W sp S w):Fresh W S w.heap.size:=
 ⟨h.1.size,fun i c e=>by have:=h.lt e;omega⟩
theorem Has.lay{W:World}{sp:Nat->Option (Obj × (Nat->Value))}{S:Nat->Option Nat}{w:World}(h:Has W sp S w){i:Nat}{o:Obj}{mk:Nat->Value}(e:sp i=some (o,mk)):Has W sp (putL S i w.heap.size) (w.alloc o):=
 ⟨h.1.alloc o,fun k b q=>by
  unfold putL at q
  by_cases c:k=i
  ·subst c
   rw[if_pos rfl]at q
   injection q with q
   subst q
   exact⟨h.1.size,o,mk,e,heap_alloc_new _ _⟩
  ·rw[if_neg c]at q
   obtain⟨h1,o',mk',h2,h3⟩:=h.2 k b q
   exact⟨h1,o',mk',h2,Ab.heap (bl1 _ _) h3⟩⟩
section
variable {P:Program} {ops:Array Oper} {md:Region.Mode} {W:World} {sp:Nat->Option (Obj × (Nat->Value))}
def YF(P:Program)(ops:Array Oper)(W:World)(o:Oper)(v:Value)(a:Act):Prop:=
 (Region.wanted o (yielded ops a.tmps)=true/\ ∀w,Ab W w->(execOp a.eval o).run P w=.ok (.value v) w)\/(Region.wanted o (yielded ops a.tmps)=false/\v=undef)
def LF(P:Program)(ops:Array Oper)(W:World)(o:Oper)(ob:Obj)(mk:Nat->Value)(a:Act):Prop:=
 Region.wanted o (yielded ops a.tmps)=true/\ ∀w,Ab W w->(execOp a.eval o).run P w=.ok (.value (mk w.heap.size)) (w.alloc ob)
theorem YF.same{o:Oper}{v:Value}{a a':Act}(h:YF P ops W o v a)(he:execOp a'.eval o=execOp a.eval o)(hw:Region.wanted o (yielded ops a'.tmps)=Region.wanted o (yielded ops a.tmps)):YF P ops W o v a':=by
 unfold YF at*
 rw[he,hw]
 exact h
theorem LF.same{o:Oper}{ob:Obj}{mk:Nat->Value}{a a':Act}(h:LF P ops W o ob mk a)(he:execOp a'.eval o=execOp a.eval o)(hw:Region.wanted o (yielded ops a'.tmps)=Region.wanted o (yielded ops a.tmps)):LF P ops W o ob mk a':=by
 unfold LF at*
 rw[he,hw]
 exact h
theorem YF.one{o:Oper}{v u:Value}{a:Act}(h:YF P ops W o v a)(k:YF P ops W o u a):v=u:=by
 rcases h with⟨w1,h⟩ | ⟨w1,rfl⟩
 ·rcases k with⟨_,k⟩ | ⟨w2,_⟩
  ·have:=(h W (Ab.refl W)).symm.trans (k W (Ab.refl W))
   injection this with e
   injection e
  ·rw[w1]at w2;cases w2
 ·rcases k with⟨w2,_⟩ | ⟨_,rfl⟩
  ·rw[w1]at w2;cases w2
  ·rfl
def fOp(P:Program)(ops:Array Oper)(W:World)(sp:Nat->Option (Obj × (Nat->Value)))(i:Nat)(K:Act->(Nat->Option Nat)->Prop)(a:Act)(S:Nat->Option Nat):Prop:=
 match ops[i]? with
 | none=>K a S
 | some o=>
  match sp i with
  | none=> ∃v,YF P ops W o v a/\K (a.put o.dst v) S
  | some (ob,mk)=>LF P ops W o ob mk a/\ ∀b,Fresh W S b->K (a.put o.dst (mk b)) (putL S i b)
theorem dR{i:Nat}{K K':Act->(Nat->Option Nat)->Prop}{a:Act}{S:Nat->Option Nat}(h: ∀a S,K a S->K' a S)(hh:fOp P ops W sp i K a S):fOp P ops W sp i K' a S:=by
 unfold fOp at*
 cases ho:ops[i]? with
 | none=>simp only[ho]at hh ⊢;exact h _ _ hh
 | some o=>
  cases hs:sp i with
  | none=>
   simp only[ho,hs]at hh ⊢
   obtain⟨v,h1,h2⟩:=hh
   exact⟨v,h1,h _ _ h2⟩
  | some x=>
   simp only[ho,hs]at hh ⊢
   exact⟨hh.1,fun b hb=>h _ _ (hh.2 b hb)⟩
def wpAnyF(P:Program)(md:Region.Mode)(ops:Array Oper)(W:World)(sp:Nat->Option (Obj × (Nat->Value)))(Q:Act->(Nat->Option Nat)->Prop):Nat->Array Bool->Act->(Nat->Option Nat)->Prop
 | 0,listed,a,S=>Region.ready md ops listed=[]/\Q a S
 | fuel+1,listed,a,S=>
  (Region.ready md ops listed=[]->Q a S)/\
  ∀i ∈ Region.ready md ops listed,fOp P ops W sp i (wpAnyF P md ops W sp Q fuel (listed.setIfInBounds i true)) a S
def Tidy(W:World)(listed:Array Bool)(S:Nat->Option Nat):Prop:=(∀k,listed.getD k true=false->S k=none)/\ ∃n,W.heap.size<=n/\ ∀i c,S i=some c->c<n
theorem Tidy.fresh{listed:Array Bool}{S:Nat->Option Nat}(h:Tidy W listed S): ∃b,Fresh W S b:=by
 obtain⟨_,n,h1,h2⟩:=h
 exact⟨n,h1,fun i c e=>by have:=h2 i c e;omega⟩
theorem Tidy.set{listed:Array Bool}{S:Nat->Option Nat}(h:Tidy W listed S)(j:Nat):Tidy W (listed.setIfInBounds j true) S:=
 ⟨fun k hk=>by
  by_cases e:j=k
  ·subst e
   by_cases l:j<listed.size
   ·simp[l]at hk
   ·exact h.1 j (by rw[Array.setIfInBounds_eq_of_size_le (by omega)]at hk;exact hk)
  ·rw[getD_set_ne true e]at hk;exact h.1 k hk,h.2⟩
theorem Tidy.lay{listed:Array Bool}{S:Nat->Option Nat}(h:Tidy W listed S){j:Nat}(hj:listed.getD j true=false)(b:Nat):Tidy W (listed.setIfInBounds j true) (putL S j b):=by
 obtain⟨h1,n,h2,h3⟩:=h
 refine⟨fun k hk=> ?_,max n (b+1),by omega,fun i c e=> ?_⟩
 ·by_cases e:j=k
  ·subst e
   by_cases l:j<listed.size
   ·simp[l]at hk
   ·simp[l]at hj
  ·rw[getD_set_ne true e]at hk
   unfold putL
   rw[if_neg (Ne.symm e)]
   exact h1 k hk
 ·unfold putL at e
  by_cases q:i=j
  ·rw[if_pos q]at e;injection e with e;omega
  ·rw[if_neg q]at e;have:=h3 i c e;omega
theorem jC{j:Nat}{oi oj:Oper}{v:Value}(hj:ops[j]? =some oj)(hap:oi.apart ops oj=true)(hsi: ∀cs b,oi.op≠ .select cs b)(hsj: ∀cs b,oj.op≠ .select cs b)
  {K:Act->(Nat->Option Nat)->Prop} {a:Act} {S:Nat->Option Nat} (hy:YF P ops W oi v a) (h:fOp P ops W sp j K (a.put oi.dst v) S):
  fOp P ops W sp j (fun a' S'=>YF P ops W oi v a'/\K (a'.put oi.dst v) S') a S:=by
 obtain⟨h1,h2,h3⟩:=Oper.apart_spec hap
 have keep: ∀u,YF P ops W oi v (a.put oj.dst u):=fun u=>hy.same (execOp_put oi hsi a oj.dst u h3) (wanted_put oi a oj.dst u h3)
 unfold fOp at*
 cases hs:sp j with
 | none=>
  simp only[hj,hs]at h ⊢
  obtain⟨u,hu,hk⟩:=h
  exact⟨u,hu.same (execOp_put oj hsj a oi.dst v h1).symm (wanted_put oj a oi.dst v h1).symm,keep u,by rw[<- Act.put_comm a v u h2];exact hk⟩
 | some x=>
  simp only[hj,hs]at h ⊢
  exact⟨h.1.same (execOp_put oj hsj a oi.dst v h1).symm (wanted_put oj a oi.dst v h1).symm,fun b hb=>⟨keep _,by rw[<- Act.put_comm a v _ h2];exact h.2 b hb⟩⟩
theorem jD{i j:Nat}{oi oj:Oper}{ob:Obj}{mk:Nat->Value}(hij:i≠j)(hj:ops[j]? =some oj)(hap:oi.apart ops oj=true)(hsi: ∀cs b,oi.op≠ .select cs b)(hsj: ∀cs b,oj.op≠ .select cs b)
  {K:Act->(Nat->Option Nat)->Prop} {a:Act} {S:Nat->Option Nat} (hf: ∃b,Fresh W S b) (hSj:S j=none) (hy:LF P ops W oi ob mk a) (h: ∀b,Fresh W S b->fOp P ops W sp j K (a.put oi.dst (mk b)) (putL S i b)):
  fOp P ops W sp j (fun a' S'=>LF P ops W oi ob mk a'/\ ∀b,Fresh W S' b->K (a'.put oi.dst (mk b)) (putL S' i b)) a S:=by
 obtain⟨h1,h2,h3⟩:=Oper.apart_spec hap
 have keep: ∀u,LF P ops W oi ob mk (a.put oj.dst u):=fun u=>hy.same (execOp_put oi hsi a oj.dst u h3) (wanted_put oi a oj.dst u h3)
 obtain⟨b0,hb0⟩:=hf
 unfold fOp at*
 cases hs:sp j with
 | none=>
  simp only[hj,hs]at h ⊢
  obtain⟨u,hu,_⟩:=h b0 hb0
  have hu':YF P ops W oj u a:=hu.same (execOp_put oj hsj a oi.dst _ h1).symm (wanted_put oj a oi.dst _ h1).symm
  refine⟨u,hu',keep u,fun b hb=> ?_⟩
  obtain⟨u2,hu2,hk⟩:=h b hb
  have e:u2=u:=YF.one (hu2.same (execOp_put oj hsj a oi.dst _ h1).symm (wanted_put oj a oi.dst _ h1).symm) hu'
  subst e
  rw[<- Act.put_comm a (mk b) u2 h2]
  exact hk
 | some x=>
  simp only[hj,hs]at h ⊢
  refine⟨(h b0 hb0).1.same (execOp_put oj hsj a oi.dst _ h1).symm (wanted_put oj a oi.dst _ h1).symm,fun c hc=>⟨keep _,fun b hb=> ?_⟩⟩
  obtain⟨q1,q2⟩:=hb.of_put hSj
  have:=(h b q1).2 c (hc.put (Ne.symm q2))
  rw[gC S b c hij,Act.put_comm a (mk b) _ h2]at this
  exact this
theorem firstY{Q:Act->(Nat->Option Nat)->Prop}{i:Nat}{oi:Oper}{v:Value}(hi:ops[i]? =some oi)(hsp:sp i=none)(hsel: ∀(j:Nat) (o:Oper) cs b,ops[j]? =some o->o.op≠ .select cs b):
  ∀(fuel:Nat) (listed:Array Bool) (a:Act) (S:Nat->Option Nat),
   (∀j oj,ops[j]? =some oj->j≠i->listed.getD j true=false->(∀e ∈ oj.after,Region.binds md e=true->e.on≠i)->oi.apart ops oj=true)->
   i ∈ Region.ready md ops listed->YF P ops W oi v a->
   wpAnyF P md ops W sp Q fuel (listed.setIfInBounds i true) (a.put oi.dst v) S->wpAnyF P md ops W sp Q (fuel+1) listed a S:=by
 have go: ∀(K:Act->(Nat->Option Nat)->Prop) (a:Act) (S:Nat->Option Nat),YF P ops W oi v a->K (a.put oi.dst v) S->fOp P ops W sp i K a S:=fun K a S hy h=>by
  unfold fOp;simp only[hi,hsp];exact⟨v,hy,h⟩
 intro fuel
 induction fuel with
 | zero=>
  intro listed a S _ hr hy H
  refine⟨fun h=>(by rw[h]at hr;cases hr),fun j hj=> ?_⟩
  by_cases hji:j=i
  ·subst hji;exact go _ _ _ hy H
  ·have:=ready_mono hj hji
   rw[H.1]at this
   cases this
 | succ fuel ih=>
  intro listed a S hfree hr hy H
  refine⟨fun h=>(by rw[h]at hr;cases hr),fun j hj=> ?_⟩
  by_cases hji:j=i
  ·subst hji;exact go _ _ _ hy H
  ·have h1:=H.2 j (ready_mono hj hji)
   obtain⟨hjun,oj,hoj,hall⟩:=mem_ready.1 hj
   have hnot: ∀e ∈ oj.after,Region.binds md e=true->e.on≠i:=fun e he hb heq=>by
    have h1:=hall e he hb
    have h0:=(mem_ready.1 hr).1
    rw[heq]at h1
    rcases Nat.lt_or_ge i listed.size with h' | h'
    ·simp[h']at h0 h1;rw[h0]at h1;cases h1
    ·simp[Array.getElem?_eq_none h']at h1
   have h2:=jC hoj (hfree j oj hoj hji hjun hnot) (fun cs b=>hsel i oi cs b hi) (fun cs b=>hsel j oj cs b hoj) hy h1
   have hfree': ∀k ok,ops[k]? =some ok->k≠i->(listed.setIfInBounds j true).getD k true=false->
     (∀e ∈ ok.after,Region.binds md e=true->e.on≠i)->oi.apart ops ok=true:=fun k ok hk hki hun hno=>by
    refine hfree k ok hk hki ?_ hno
    by_cases hjk:j=k
    ·subst hjk;exact hjun
    ·rw[getD_set_ne true hjk]at hun;exact hun
   refine dR (fun a' S' h3=>ih (listed.setIfInBounds j true) a' S' hfree' (ready_mono hr (Ne.symm hji)) h3.1 ?_) h2
   rw[Array.setIfInBounds_comm _ _ hji]
   exact h3.2
theorem firstL{Q:Act->(Nat->Option Nat)->Prop}{i:Nat}{oi:Oper}{ob:Obj}{mk:Nat->Value}(hi:ops[i]? =some oi)(hsp:sp i=some (ob,mk))(hsel: ∀(j:Nat) (o:Oper) cs b,ops[j]? =some o->o.op≠ .select cs b):
  ∀(fuel:Nat) (listed:Array Bool) (a:Act) (S:Nat->Option Nat),Tidy W listed S->
   (∀j oj,ops[j]? =some oj->j≠i->listed.getD j true=false->(∀e ∈ oj.after,Region.binds md e=true->e.on≠i)->oi.apart ops oj=true)->
   i ∈ Region.ready md ops listed->LF P ops W oi ob mk a->
   (∀b,Fresh W S b->wpAnyF P md ops W sp Q fuel (listed.setIfInBounds i true) (a.put oi.dst (mk b)) (putL S i b))->wpAnyF P md ops W sp Q (fuel+1) listed a S:=by
 have go: ∀(K:Act->(Nat->Option Nat)->Prop) (a:Act) (S:Nat->Option Nat),LF P ops W oi ob mk a->(∀b,Fresh W S b->K (a.put oi.dst (mk b)) (putL S i b))->fOp P ops W sp i K a S:=fun K a S hy h=>by
  unfold fOp;simp only[hi,hsp];exact⟨hy,h⟩
 intro fuel
 induction fuel with
 | zero=>
  intro listed a S ty _ hr hy H
  refine⟨fun h=>(by rw[h]at hr;cases hr),fun j hj=> ?_⟩
  by_cases hji:j=i
  ·subst hji;exact go _ _ _ hy H
  ·obtain⟨b,hb⟩:=ty.fresh
   have:=ready_mono hj hji
   rw[(H b hb).1]at this
   cases this
 | succ fuel ih=>
  intro listed a S ty hfree hr hy H
  refine⟨fun h=>(by rw[h]at hr;cases hr),fun j hj=> ?_⟩
  by_cases hji:j=i
  ·subst hji;exact go _ _ _ hy H
  ·have h1:=fun b hb=>(H b hb).2 j (ready_mono hj hji)
   obtain⟨hjun,oj,hoj,hall⟩:=mem_ready.1 hj
   have hnot: ∀e ∈ oj.after,Region.binds md e=true->e.on≠i:=fun e he hb heq=>by
    have h1:=hall e he hb
    have h0:=(mem_ready.1 hr).1
    rw[heq]at h1
    rcases Nat.lt_or_ge i listed.size with h' | h'
    ·simp[h']at h0 h1;rw[h0]at h1;cases h1
    ·simp[Array.getElem?_eq_none h']at h1
   have hap:=hfree j oj hoj hji hjun hnot
   have hfree': ∀k ok,ops[k]? =some ok->k≠i->(listed.setIfInBounds j true).getD k true=false->
     (∀e ∈ ok.after,Region.binds md e=true->e.on≠i)->oi.apart ops ok=true:=fun k ok hk hki hun hno=>by
    refine hfree k ok hk hki ?_ hno
    by_cases hjk:j=k
    ·subst hjk;exact hjun
    ·rw[getD_set_ne true hjk]at hun;exact hun
   have h2:=jD (Ne.symm hji) hoj hap (fun cs b=>hsel i oi cs b hi) (fun cs b=>hsel j oj cs b hoj) ty.fresh (ty.1 j hjun) hy h1
   -- what j leaves is tidy
   have h4:fOp P ops W sp j (fun a' S'=>Tidy W (listed.setIfInBounds j true) S'/\LF P ops W oi ob mk a'/\ ∀b,Fresh W S' b->wpAnyF P md ops W sp Q fuel ((listed.setIfInBounds i true).setIfInBounds j true) (a'.put oi.dst (mk b)) (putL S' i b)) a S:=by
    unfold fOp at h2 ⊢
    cases hs:sp j with
    | none=>
     simp only[hoj,hs]at h2 ⊢
     obtain⟨u,hu,hk⟩:=h2
     exact⟨u,hu,ty.set j,hk⟩
    | some x=>
     simp only[hoj,hs]at h2 ⊢
     exact⟨h2.1,fun b hb=>⟨ty.lay hjun b,h2.2 b hb⟩⟩
   refine dR (fun a' S' h3=>ih (listed.setIfInBounds j true) a' S' h3.1 hfree' (ready_mono hr (Ne.symm hji)) h3.2.1 (fun b hb=> ?_)) h4
   rw[Array.setIfInBounds_comm _ _ hji]
   exact h3.2.2 b hb
def wpFree(P:Program)(ops:Array Oper)(W:World)(sp:Nat->Option (Obj × (Nat->Value)))(Q:Act->(Nat->Option Nat)->Prop):List Oper->Nat->Act->(Nat->Option Nat)->Prop
 | [],_,a,S=>Q a S
 | o :: rest,k,a,S=>
  match sp k with
  | none=> ∃v,YF P ops W o v a/\wpFree P ops W sp Q rest (k+1) (a.put o.dst v) S
  | some (ob,mk)=>LF P ops W o ob mk a/\ ∀b,Fresh W S b->wpFree P ops W sp Q rest (k+1) (a.put o.dst (mk b)) (putL S k b)
theorem bI{Q:Act->(Nat->Option Nat)->Prop}(hs:Region.noSelect ops=true): ∀(l:List Oper) (k:Nat) (listed:Array Bool) (a:Act) (S:Nat->Option Nat),(∀j,l[j]? =ops[k+j]?)->Tidy W listed S->
  Region.lexFrom md ops l.length k listed=true->wpFree P ops W sp Q l k a S->wpAnyF P md ops W sp Q l.length listed a S
 | [],_,_,_,_,_,_,hB,h=>⟨by simpa [Region.lexFrom]using hB,h⟩
 | o :: l,k,listed,a,S,hl,ty,hB,h=>by
  have h0:ops[k]? =some o:=by simpa using(hl 0).symm
  simp only[List.length_cons,Region.lexFrom,Bool.and_eq_true]at hB
  obtain⟨⟨hr,hf⟩,hB'⟩:=hB
  have hr':k ∈ Region.ready md ops listed:=by simpa using hr
  have hl': ∀j,l[j]? =ops[k+1+j]? :=fun j=>by have:=hl (j+1);simpa [Nat.add_assoc,Nat.add_comm 1 j]using this
  cases hsp:sp k with
  | none=>
   simp only[wpFree,hsp]at h
   obtain⟨v,hy,hK⟩:=h
   exact firstY h0 hsp (Region.noSelect_spec hs) l.length listed a S (Region.free_spec h0 hf) hr' hy
    (bI hs l (k+1) _ _ _ hl' (ty.set k) hB' hK)
  | some x=>
   obtain⟨ob,mk⟩:=x
   simp only[wpFree,hsp]at h
   exact firstL h0 hsp (Region.noSelect_spec hs) l.length listed a S ty (Region.free_spec h0 hf) hr' h.1
    (fun b hb=>bI hs l (k+1) _ _ _ hl' (ty.lay (mem_ready.1 hr').1 b) hB' (h.2 b hb))
theorem dS{i:Nat}{a:Act}{S:Nat->Option Nat}{K:Act->(Nat->Option Nat)->Prop}{K':Act->World->Prop}{Q':Exit->Act->World->Prop}{w:World}(hC:Has W sp S w)(h: ∀a S w',Has W sp S w'->K a S->K' a w')(hh:fOp P ops W sp i K a S):wpOp P ops Q' i K' a w:=by
 unfold fOp at hh
 unfold wpOp
 cases ho:ops[i]? with
 | none=>simp only[ho]at hh ⊢;exact h _ _ _ hC hh
 | some o=>
  cases hs:sp i with
  | none=>
   simp only[ho,hs]at hh ⊢
   obtain⟨v,hy,hk⟩:=hh
   rcases hy with⟨w1,hv⟩ | ⟨w1,rfl⟩
   ·rw[if_pos w1]
    refine .inl ?_
    unfold Oper.wp
    rw[hv w hC.1]
    exact h _ _ _ hC hk
   ·rw[if_neg (by rw[w1];exact Bool.false_ne_true)]
    exact h _ _ _ hC hk
  | some x=>
   obtain⟨ob,mk⟩:=x
   simp only[ho,hs]at hh ⊢
   obtain⟨⟨w1,hv⟩,hk⟩:=hh
   rw[if_pos w1]
   refine .inl ?_
   unfold Oper.wp
   rw[hv w hC.1]
   exact h _ _ _ (hC.lay hs) (hk _ hC.fresh)
end
theorem jE{P:Program}{md:Region.Mode}{ops hd:Array Oper}{W:World}{sp:Nat->Option (Obj × (Nat->Value))}{n:Nat}(hhd: ∀i,i<n->hd[i]? =ops[i]?)(hb:backB md ops n=true){i:Nat}(hi:i<n){K:Act->(Nat->Option Nat)->Prop}{a:Act}{S:Nat->Option Nat}(h:fOp P hd W sp i K a S):fOp P ops W sp i K a S:=by
 unfold fOp at*
 rw[hhd i hi]at h
 cases ho:ops[i]? with
 | none=>rw[ho]at h;exact h
 | some o=>
  have e:Region.wanted o (yielded hd a.tmps)=Region.wanted o (yielded ops a.tmps):=by
   unfold Region.wanted
   cases hg:o.guard with
   | none=>rfl
   | some jb=>
    obtain⟨j,b⟩:=jb
    have lt:=(dA hb hi ho).2 j b hg
    show(yielded hd a.tmps j==some b)=(yielded ops a.tmps j==some b)
    unfold yielded
    rw[hhd j lt]
  simp only[ho]at h ⊢
  cases hs:sp i with
  | none=>
   simp only[hs]at h ⊢
   unfold YF at*
   rw[e]at h
   exact h
  | some x=>
   simp only[hs]at h ⊢
   unfold LF at*
   rw[e]at h
   exact h
theorem cJ{P:Program}{md:Region.Mode}{ops hd:Array Oper}{W:World}{sp:Nat->Option (Obj × (Nat->Value))}{n:Nat}{g:Nat}{Q1:Act->(Nat->Option Nat)->Prop}{Q':Exit->Act->World->Prop}(hhd: ∀i,i<n->hd[i]? =ops[i]?)(hsz:hd.size=n)(hn:n<ops.size)(hb:backB md ops n=true)(hs:Region.sinkB md ops n=true)(hc:Region.chainB md ops n=true)
  (hL: ∀a S w,Has W sp S w->Q1 a S->wpAny P md ops Q' g (finA ops.size n) a w):
  ∀(fuel:Nat) (listed lh:Array Bool) (a:Act) (S:Nat->Option Nat) (w:World),Has W sp S w->HeadInv md ops n listed->lh.size=n->(∀i,i<n->lh.getD i true=listed.getD i true)->
   wpAnyF P md hd W sp Q1 fuel lh a S->wpAny P md ops Q' (fuel+g) listed a w:=by
 intro fuel
 induction fuel with
 | zero=>
  intro listed lh a S w hC inv hl he h
  have hls:n<=listed.size:=by rw[inv.size];omega
  rcases bO (by omega) hb hls with all | ⟨i,hi,hr⟩
  ·rw[Nat.zero_add,gB hn inv all]
   exact hL a S w hC h.2
  ·have:=(bN hhd hb hl hls he hi).2 hr
   rw[h.1]at this
   cases this
 | succ fuel ih=>
  intro listed lh a S w hC inv hl he h
  have hls:n<=listed.size:=by rw[inv.size];omega
  rcases bO (by omega) hb hls with all | ⟨i0,hi0,hr0⟩
  ·have no:Region.ready md hd lh=[]:=by
    rw[List.eq_nil_iff_forall_not_mem]
    intro i hi
    obtain⟨u,o,ho,_⟩:=mem_ready.1 hi
    have lt:i<n:=by rw[<- hsz];exact(Array.getElem?_eq_some_iff.1 ho).1
    rw[he i lt,all i lt]at u
    cases u
   rw[Nat.add_comm (fuel+1) g,gB hn inv all]
   exact dI g (fuel+1) _ a w (hL a S w hC (h.1 no))
  ·rw[show fuel+1+g=(fuel+g)+1 by omega]
   refine⟨fun h0=>(by rw[h0]at hr0;cases hr0),fun i hi=> ?_⟩
   have lt:i<n:=by
    by_cases c:i<n
    ·exact c
    ·exact absurd hi (tail_waits hs hc hn inv _ i0 rfl hi0 (mem_ready.1 hr0).1 i (by omega))
   have hq:=jE hhd hb lt (h.2 i ((bN hhd hb hl hls he lt).2 hi))
   refine dS hC (fun a' S' w' hC' h'=>ih _ _ a' S' w' hC' (inv.set hi lt) (by simp[hl]) (fun j hj=> ?_) h') hq
   by_cases e:i=j
   ·subst e
    simp[hl,lt,show i<listed.size by omega]
   ·rw[getD_set_ne true e,getD_set_ne true e,he j hj]
theorem dT{P:Program}{id:Nat}{Q:Exit->Act->World->Prop}{a:Act}{w:World}{l:List Oper}(n:Nat)(sp:Nat->Option (Obj × (Nat->Value)))(hm:P.follows .mixedOrders=true)(hB:Region.lexB .any (l.take n).toArray=true)(hT:tailB l.toArray n=true)
  (h:wpFree P (l.take n).toArray w.drew sp (fun a' S=> ∀w',Has w.drew sp S w'->wpList P l.toArray Q (l.drop n) a' w') (l.take n) 0 a (fun _=>none)):(Code.region id l.toArray true).wp P Q a w:=by
 simp only[tailB,Bool.and_eq_true,decide_eq_true_eq]at hT
 obtain⟨⟨⟨⟨hn,hb⟩,hs⟩,hc⟩,hq⟩:=hT
 have hn':n<l.length:=by simpa using hn
 have htl:(l.take n).toArray.size=n:=by simp;omega
 have hdl:(l.drop n).length=l.toArray.size - n:=by simp
 refine wp_region_any hm ?_
 simp only[Region.lexB,Bool.and_eq_true]at hB
 have H:=bI (P:=P) (W:=w.drew) (sp:=sp) (md:=.any) hB.1 (l.take n) 0 (Array.replicate (l.take n).toArray.size false) a (fun _=>none) (by simp) ⟨fun _ _=>rfl,w.drew.heap.size,Nat.le_refl _,fun i c e=>by cases e⟩ (by simpa using hB.2) h
 have inv0:HeadInv .any l.toArray n (Array.replicate l.toArray.size false):=
  ⟨by simp,fun j oj _ hl=>(by rw[getD_replicate_false]at hl;cases hl),fun t _ ht=>getD_in (by simpa using ht) (getD_replicate_false _ _)⟩
 have:=cJ (P:=P) (Q':=Q) (g:=l.toArray.size - n) (hd:=(l.take n).toArray) (ops:=l.toArray) (fun i hi=>by simp[hi]) htl hn hb hs hc
  (fun a' S' w' hC' h'=>by
   have:=wpAny_of_seq (P:=P) (md:=.any) (ops:=l.toArray) (Q':=Q) (l.drop n) n (finA l.toArray.size n) a' w' (fun j=>by simp) (by rw[hdl];exact hq) (h' w' hC')
   rwa [hdl]at this)
  (l.take n).length _ _ a (fun _=>none) w.drew ⟨Ab.refl _,fun i b e=>by cases e⟩ inv0 (by simpa using htl) (fun i hi=>by
   rw[getD_in (listed:=Array.replicate l.toArray.size false) (by simp;omega) (getD_replicate_false _ _)]
   exact getD_in (by rw[Array.size_replicate];omega) (getD_replicate_false _ _)) H
 have e:(l.take n).length+(l.toArray.size - n)=l.toArray.size:=by simp;omega
 rw[e]at this
 exact this
end
section
open Go.RowKit
def plainB:Op->Bool
 | .move _ | .assign _ | .pick _ _ _ | .build _ _ | .load _ _ | .binOp _ _ _ _ _ | .unOp _ _ _ | .convert _ _ _ | .slice _ _ _ _ _ | .fieldAddr _ _ _ | .field _ _ _ | .indexAddr _ _ _ | .index _ _ _ | .extract _ _=>true
 | _=>false
theorem val_only{P:Program}{s:Sem Value}{w w':World}{n:Next}(e:(do pure (Next.value (<- s)):Sem Next).run P w=.ok n w'): ∃x,n=.value x:=by
 rw[Sem.run_bind]at e
 cases h:s.run P w with
 | ok x w1=>
  rw[h]at e
  simp at e
  exact⟨x,e.1.symm⟩
 | halt x w1=>rw[h]at e;simp at e
theorem rK{P:Program}{α:Type}{s:Sem α}{f:α->Value}{w w':World}{n:Next}(e:((s.run P w).andThen fun x w=>Result.ok (Next.value (f x)) w)=.ok n w'): ∃x,n=.value x:=by
 cases h:s.run P w with
 | ok x w1=>
  rw[h]at e
  simp at e
  exact⟨f x,e.1.symm⟩
 | halt x w1=>rw[h]at e;simp at e
theorem gL{P:Program}{ρ:Operand->Value}{o:Oper}{w w':World}{n:Next}(h:plainB o.op=true)(e:(execOp ρ o).run P w=.ok n w'): ∃x,n=.value x:=by
 unfold execOp at e
 cases ho:o.op<;>rw[ho]at h e<;>first | (simp[plainB]at h;done) | exact val_only e | (simp at e;first | exact⟨_,e.1.symm⟩ | exact rK (f:=fun b=>if b=true then ρ _ else ρ _) e)
section
variable {P:Program} {ops:Array Oper} {W:World} {sp:Nat->Option (Obj × (Nat->Value))} {Q:Act->(Nat->Option Nat)->Prop} {o:Oper} {rest:List Oper} {k:Nat} {a:Act} {S:Nat->Option Nat}
theorem aE{U:Type}{F:U->World}(HF:Hid (∀w',Ab W w'-> ∃u,w'=F u))(hs:sp k=none)(hp:plainB o.op=true)(h:wpQuiet P ops (fun w'=> ∃u,w'=F u) (fun a'=>wpFree P ops W sp Q rest (k+1) a' S) [o] a):wpFree P ops W sp Q (o :: rest) k a S:=by
 simp only[wpFree,hs]
 simp only[wpQuiet]at h
 by_cases c:Region.wanted o (yielded ops a.tmps)=true
 ·rw[if_pos c]at h
  obtain⟨v,h1,h2⟩:=h
  refine⟨v,.inl ⟨c,fun w hw=> ?_⟩,h2⟩
  have q:=h1 w (HF.out w hw)
  unfold Oper.quietAt at q
  cases e:(execOp a.eval o).run P w with
  | ok n w'=>
   obtain⟨x,rfl⟩:=gL hp e
   rw[e]at q
   obtain⟨q1,q2⟩:=q
   rw[q1,q2]
  | halt x w'=>rw[e]at q;exact absurd q (by simp[Oper.quietUpon])
 ·rw[if_neg c]at h
  exact⟨undef,.inr ⟨by simpa using c,rfl⟩,h⟩
theorem aK{ob:Obj}{mk:Nat->Value}(hs:sp k=some (ob,mk))(hw:Region.wanted o (yielded ops a.tmps)=true)(hr: ∀w,Ab W w->(execOp a.eval o).run P w=.ok (.value (mk w.heap.size)) (w.alloc ob))
  (h: ∀b,Fresh W S b->wpFree P ops W sp Q rest (k+1) (a.put o.dst (mk b)) (putL S k b)):wpFree P ops W sp Q (o :: rest) k a S:=by
 simp only[wpFree,hs]
 exact⟨⟨hw,hr⟩,h⟩
theorem run_val{s:Sem Value}{w w':World}{x:Value}(h:s.run P w=.ok x w'):(do pure (Next.value (<- s)):Sem Next).run P w=.ok (.value x) w':=by
 rw[Sem.run_bind,h]
 rfl
theorem fL{t:TypeId}{x y:Operand}{vx vy:Value}{mk:Nat->Value}{ob:Obj}(ho:o.op=.makeSlice t x y)(hx:a.eval x=vx)(hy:a.eval y=vy)(M: ∀w:World,(Instr.makeSlice t vx vy).run P w=.ok (mk w.heap.size) (w.alloc ob)):
  ∀w,Ab W w->(execOp a.eval o).run P w=.ok (.value (mk w.heap.size)) (w.alloc ob):=by
 intro w _
 unfold execOp
 rw[ho]
 simp only[hx,hy]
 exact run_val (M w)
theorem rL{t:TypeId}{mk:Nat->Value}{ob:Obj}(ho:o.op=.alloc t)(M: ∀w:World,(Instr.alloc t true (.tuple #[])).run P w=.ok (mk w.heap.size) (w.alloc ob)):
  ∀w,Ab W w->(execOp a.eval o).run P w=.ok (.value (mk w.heap.size)) (w.alloc ob):=by
 intro w _
 unfold execOp
 rw[ho]
 exact run_val (M w)
theorem eK(h:Q a S):wpFree P ops W sp Q [] k a S:=h
end
theorem Has.at{W:World}{sp:Nat->Option (Obj × (Nat->Value))}{S:Nat->Option Nat}{w:World}(h:Has W sp S w){i b:Nat}{ob:Obj}{mk:Nat->Value}(e:S i=some b)(s:sp i=some (ob,mk)):w.heap[b]? =some ob/\W.heap.size<=b:=by
 obtain⟨h1,o,m,h2,h3⟩:=h.2 i b e
 rw[s]at h2
 injection h2 with h2
 injection h2 with h2
 subst h2
 exact⟨h3,h1⟩
end
section
open Go.RowKit Tf Cu Go.Deep
attribute [local go_sem] aL aM aN aO aP aQ aV aG
def lkW(i:Nat):Int:=if i=1 then 2863311530 else 1431655765
theorem ar13: ∀c,c<6->arI (ArC 1 c)=1431655765:=by decide+kernel
def LkR(w:World)(gd g4 b1 b2 b3 b4:Nat)(f:Nat->Int)(v:World):Prop:=
 Ab w v/\v.heap[g4]? =some (.cells #[.slice (some ⟨b1,0,none⟩) 6 6,.slice (some ⟨b2,0,none⟩) 6 6,.slice (some ⟨b3,0,none⟩) 6 6,.slice (some ⟨b4,0,none⟩) 12 12,.int .i64 0,.int .i64 0] 41)/\v.heap[gd]? =some (.cells #[.slice none 0 0,.slice none 0 0,.slice none 0 0,.slice none 0 0,.int .i64 0,.int .i64 0] 41)/\v.rowIs b1 45 6 (fun _=>.float .f64 0)/\v.rowIs b2 2 6 (fun i=>.int .i64 (f i))/\v.rowIs b3 2 6 (fun _=>.int .i64 0)/\v.rowIs b4 45 12 (fun _=>.float .f64 0)
def LkI(w:World)(gd g4 b1 b2 b3 b4 c:Nat)(v:World):Prop:=LkR w gd g4 b1 b2 b3 b4 (fun i=>if i<c then lkW i else 0) v
theorem LkR.to2{w:World}{gd g4 b1 b2 b3 b4:Nat}{f:Nat->Int}{v v':World}(h:LkR w gd g4 b1 b2 b3 b4 f v)(a:Ab v v'):LkR w gd g4 b1 b2 b3 b4 f v':=by
 obtain⟨h1,h2,h3,h4,h5,h6,h7⟩:=h
 exact⟨h1.trans a,a.heap h2,a.heap h3,rowIs.ab h4 a,rowIs.ab h5 a,rowIs.ab h6 a,rowIs.ab h7 a⟩
theorem LkI.to{w:World}{gd g4 b1 b2 b3 b4 c:Nat}{v v':World}(h:LkI w gd g4 b1 b2 b3 b4 c v)(a:Ab v v'):LkR w gd g4 b1 b2 b3 b4 (fun i=>if i<c then lkW i else 0) v':=LkR.to2 h a
theorem LkR.fin{w:World}{gd g4 b1 b2 b3 b4 c:Nat}{f:Nat->Int}{v:World}(h:LkR w gd g4 b1 b2 b3 b4 f v)(e: ∀i,f i=if i<c then lkW i else 0):LkI w gd g4 b1 b2 b3 b4 c v:=by
 obtain⟨h1,h2,h3,h4,h5,h6,h7⟩:=h
 exact⟨h1,h2,h3,h4,h5.congr (fun i _=>by dsimp only;rw[e i]),h6,h7⟩
theorem LkR.set{w:World}{gd g4 b1 b2 b3 b4:Nat}{f:Nat->Int}{v:World}(h:LkR w gd g4 b1 b2 b3 b4 f v)(nn:g4≠b2/\b1≠b2/\b3≠b2/\b4≠b2/\b1≠b4/\b3≠b4)(hl:gd+1<=b1/\gd+1<=b2/\gd+1<=b3/\gd+1<=b4/\gd+1<=g4)(c:Nat)(x:Int)(hw:w.heap.size<=gd):LkR w gd g4 b1 b2 b3 b4 (fun i=>if i=c then x else f i) (v.setCell ⟨b2,c,none⟩ (.int .i64 x)):=by
 obtain⟨h1,h2,h3,h4,h5,h6,h7⟩:=h
 refine⟨h1.setk (by omega) _,by rw[aF nn.1];exact h2,by rw[aF (by omega)];exact h3,h4.setOther nn.2.1 _,(h5.set c _).congr (fun i _=> ?_),h6.setOther nn.2.2.1 _,h7.setOther nn.2.2.2.1 _⟩
 by_cases e:i=c
 ·simp[e]
 ·simp[e]
end
end Go.Proofs.YtjheiemgfibgpaaDoor
