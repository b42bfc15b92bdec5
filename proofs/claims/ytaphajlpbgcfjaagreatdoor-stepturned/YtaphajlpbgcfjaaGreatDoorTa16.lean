/-
  Some of the texts of this proof, one behind the other.
-/
import Derived.Lib.SliceRun
import Derived.Deep.AppendSrc
import Derived.Deep.AppendLies
import Derived.Test.YtaphajlpbgcfjaaGreatDoorTa15
set_option maxRecDepth 100000
set_option maxHeartbeats 400000000
namespace Go.Proofs.YtaphajlpbgcfjaaGreatDoor
open _root_.Go.Proofs.Tryz
section
open Go.RowKit Tf Cu Go.Deep
namespace Ss
theorem src_fl20{w:World}{pb:Option Addr}{L:Nat}{B:Nat->Nat}(h:IsFl w pb L B)(cb:Nat):Src prog 1 26 (.slice pb L cb) L ((List.range L).map fun k=>Value.float .f64 (B k)) w:=by
 have one: ∀u ∈ (List.range L).map (fun k=>Value.float .f64 (B k)),u.oneCell'=true:=fun u hu=>by
  obtain⟨k,_,rfl⟩:=List.mem_map.1 hu
  rfl
 cases pb with
 | none=>
  have:L=0:=by
   rcases Nat.eq_zero_or_pos L with h0 | h0
   ·exact h0
   ·obtain⟨_,b,o,h2,_⟩:=h 0 h0
    cases h2
  subst this
  exact Src.ofNil w underlying26 cb
 | some a=>
  refine Src.ofSlice w underlying26 a L cb _ (by simp) (fun j u hu=> ?_) one
  have hj:j<L:=by
   rcases Nat.lt_or_ge j L with h1 | h1
   ·exact h1
   ·rw[List.getElem?_eq_none (by simpa using h1)]at hu;cases hu
  obtain⟨_,b,o,h2,_,h4⟩:=h j hj
  cases h2
  simp[hj]at hu
  rw[mO,<- hu]
  exact h4
theorem vG{ops:Array Oper}{rest:List Oper}{o:Oper}{a:Act}{w:World}{Q:Exit->Act->World->Prop}(hgd:o.guard=none)(s x:Operand)
  (ho:o.op=.call {callee:=.builtin .append,args:= #[s,x],argTypes:= #[26,26]})
  (B:Nat) (v:Value) (l:List Nat) (hs:a.eval s=v) (hown:OwnG B v l w)
  (ad:Addr) (m c:Nat) (news:List Nat) (hx:a.eval x=.slice (some ad) m c) (hl:news.length=m) (hnews: ∀j u,(news.map (Value.float .f64))[j]? =some u->w.cell? (ad.add j)=some u)
  (hm:0<m) (hlen:l.length+m<=17592186044416) (hB:B<=w.heap.size) (nm:Nat) (hnm:l.length+m=nm)
  (h: ∀g cap w',OwnG B (.slice (some ⟨g,0,none⟩) nm cap) (l++news) w'->w.grownBy w' v.ownBlock->(v.ownBlock=some g\/g=w.heap.size)->B<=g->wpList prog ops Q rest (a.put o.dst (.slice (some ⟨g,0,none⟩) nm cap)) w'):wpList prog ops Q (o :: rest) a w:=by
 subst hnm
 obtain⟨i0,hi,hz0,hz1,hz2⟩:=info_g
 refine wpList_append_lies w hgd s x _ ho B 22 i0 (.float .f64 0) 1 8 underlying26 hi hz0 hz1 hz2 rfl (by decide) v l.length (l.map (Value.float .f64)) hs hown ad m c (news.map (Value.float .f64)) hx (by simpa using hl) hnews (fun u hu=>by
  obtain⟨y,_,rfl⟩:=List.mem_map.1 hu
  rfl) hm (by unfold maxLen;omega) (by omega) hB _ rfl ?_
 intro g cap w' o1 g1 e1 _
 have hb:B<=g:=by
  rcases o1.2 with⟨q,_⟩ | ⟨g2,_,_,q,hb,_⟩
  ·cases q
  ·injection q with q1 q2 q3
   injection q1 with q4
   injection q4 with q5
   omega
 refine h g cap w' ?_ g1 e1 hb
 unfold OwnG
 rw[List.length_append,List.map_append,hl]
 exact o1
theorem Ei(w:World)(a:Option Addr)(n c:Nat):(binOp .eql 26 (.slice a n c) (.slice none 0 0)).run prog w=.ok (.bool a.isNone) w:=Lib.run_eql_slice_nil w _ _ a n c 0 0 underlying26
attribute [local go_sem] Ei
theorem uH{ops:Array Oper}{rest:List Oper}{o:Oper}{a:Act}{w:World}{Q:Exit->Act->World->Prop}(hgd:o.guard=none)(s x:Operand)
  (ho:o.op=.call {callee:=.builtin .append,args:= #[s,x],argTypes:= #[26,26]})
  (g:Nat) (hs:a.eval s=.slice (some ⟨g,0,none⟩) 0 0) (src:Value) (hx:a.eval x=src) (hsrc:Src prog 1 26 src 0 [] w)
  (h:wpList prog ops Q rest (a.put o.dst (.slice (some ⟨g,0,none⟩) 0 0)) w):wpList prog ops Q (o :: rest) a w:=by
 obtain⟨i0,hi,hz0,hz1,hz2⟩:=info_g
 refine wpList_plain hgd fun _ hK=> ?_
 have hr:=run_append_room_src (P:=prog) w 26 26 o.type 22 i0 underlying26 hi g 0 0 0 src 0 [] (by rw[hz1];exact hsrc) (Nat.le_refl _) (fun j hj=>absurd hj (Nat.not_lt_zero j)) (fun j hj=>absurd hj (Nat.not_lt_zero j))
 unfold Oper.wp execOp
 simp only[ho,resolve,invoke,builtin,Sem.run_bind,Sem.run_pure,Result.andThen_ok,List.map_toArray,List.map_cons,List.map_nil,hs,hx,hr]
 exact hK _ _ h
theorem Ej{w:World}{b o N:Nat}{D:Nat->Nat}(h:IsFl w (some ⟨b,o,none⟩) N D): ∀j u,(((List.range N).map D).map (Value.float .f64))[j]? =some u->w.cell? ((⟨b,o,none⟩:Addr).add j)=some u:=fun j u hu=>by
 have hj:j<N:=by
  rcases Nat.lt_or_ge j N with h1 | h1
  ·exact h1
  ·rw[List.getElem?_eq_none (by simpa using h1)]at hu;cases hu
 simp[hj]at hu
 rw[mO,<- hu]
 exact(h.at0 hj).2.2
theorem vH(n c:Nat)(w:World):Calls prog 57 #[.slice none n c] w fun e w'=>e=.returned (.slice none 0 0)/\w'=w:=by
 go_enter func57,ntmps57
 go_wp2
 go_ret
 exact⟨rfl,rfl⟩
theorem vJ(p:Addr)(c:Nat)(f:Nat->Nat)(w:World):Calls prog 57 #[.slice (some p) 0 c] w fun e w'=>e=.returned (.slice (some ⟨w.heap.size,0,none⟩) 0 0)/\w'=w.alloc (.cells #[] 22):=by
 have SR:=hid (src_fl20 ((fun k hk=>absurd hk (Nat.not_lt_zero k):IsFl (w.alloc (.cells #[] 22)) (some p) 0 f)) c)
 go_enter func57,ntmps57
 go_wp2_with (first
  | (at_builtin;refine uH rfl (.tmp 5) (.tmp 6) rfl w.heap.size rfl (.slice (some p) 0 c) rfl SR.out ?_))
 go_ret
 exact⟨rfl,rfl⟩
theorem BR(b o n c:Nat)(f:Nat->Nat)(w:World)(h0:0<n)(hn:n<=17592186044416)(hf:IsFl w (some ⟨b,o,none⟩) n f):Calls prog 57 #[.slice (some ⟨b,o,none⟩) n c] w fun e w'=> ∃v,e=.returned v/\Below w.heap.size w w'/\OwnG w.heap.size v ((List.range n).map f) w':=by
 have O2:=hid (OwnG.new w w.heap.size (Nat.le_refl _))
 have N1:=hid (Ej (hf.below (bl1 w (.cells #[] 22))))
 have LS:Hid (w.heap.size<=(w.alloc (.cells #[] 22)).heap.size):=by show _<=_;simp
 have H0:=hid h0
 have HN:=hid hn
 clear hf h0 hn
 go_enter func57,ntmps57
 go_wp2_with (first
  | (at_builtin;refine vG rfl (.tmp 5) (.tmp 6) rfl w.heap.size (.slice (some ⟨w.heap.size,0,none⟩) 0 0) [] rfl O2.out ⟨b,o,none⟩ n c ((List.range n).map f) rfl (by simp) N1.out H0.out (by have:=HN.out;simp;omega) LS.out n (by simp) ?_;intro g1 c1 w1 o1 x1 y1 _;have O1:=hid o1;have X1:=hid x1;clear o1 x1 y1))
 go_ret
 refine⟨_,rfl,Below.grown (bl1 w _:Below _ _ _) X1.out LS.out (fun k hk=>(World.ownsRow.lt O2.out k hk).1),?_⟩
 have h:=O1.out
 rw[List.nil_append]at h
 exact h
theorem BS(p:Option Addr)(n c:Nat)(f:Nat->Nat)(w:World)(hn:n<=17592186044416)(hf:IsFl w p n f):Calls prog 57 #[.slice p n c] w fun e w'=> ∃v,e=.returned v/\Below w.heap.size w w'/\OwnG w.heap.size v ((List.range n).map f) w':=by
 rcases Nat.eq_zero_or_pos n with h0 | h0
 ·subst h0
  cases p with
  | none=>
   refine(vH 0 c w).mono ?_
   rintro e w' ⟨rfl,rfl⟩
   exact⟨_,rfl,Below.refl _ _,(⟨by simp,.inl ⟨rfl,rfl⟩⟩:OwnG _ _ _ _)⟩
  | some a=>
   refine(vJ a c f w).mono ?_
   rintro e w' ⟨rfl,rfl⟩
   exact⟨_,rfl,bl1 _ _,OwnG.new w w.heap.size (Nat.le_refl _)⟩
 ·obtain⟨b,o,rfl⟩:=hf.some0 h0
  exact BR b o n c f w h0 hn hf
theorem vK{ops:Array Oper}{rest:List Oper}{o:Oper}{a:Act}{w:World}{Q:Exit->Act->World->Prop}(hgd:o.guard=none)(s x:Operand)
  (ho:o.op=.call {callee:=.builtin .append,args:= #[s,x],argTypes:= #[27,27]})
  (B:Nat) (v:Value) (l:List Int) (hs:a.eval s=v) (hown:Sh.Own B v l w)
  (ad:Addr) (m c:Nat) (news:List Int) (hx:a.eval x=.slice (some ad) m c) (hl:news.length=m) (hnews: ∀j u,(news.map (Value.int .i64))[j]? =some u->w.cell? (ad.add j)=some u)
  (hm:0<m) (hlen:l.length+m<=17592186044416) (hB:B<=w.heap.size) (nm:Nat) (hnm:l.length+m=nm)
  (h: ∀g cap w',Sh.Own B (.slice (some ⟨g,0,none⟩) nm cap) (l++news) w'->w.grownBy w' v.ownBlock->(v.ownBlock=some g\/g=w.heap.size)->B<=g->wpList prog ops Q rest (a.put o.dst (.slice (some ⟨g,0,none⟩) nm cap)) w'):wpList prog ops Q (o :: rest) a w:=by
 subst hnm
 obtain⟨i0,hi,hz0,hz1,hz2⟩:=Sh.qM
 refine wpList_append_lies w hgd s x _ ho B 2 i0 (.int .i64 0) 1 8 underlying27 hi hz0 hz1 hz2 rfl (by decide) v l.length (l.map (Value.int .i64)) hs hown ad m c (news.map (Value.int .i64)) hx (by simpa using hl) hnews (fun u hu=>by
  obtain⟨y,_,rfl⟩:=List.mem_map.1 hu
  rfl) hm (by unfold maxLen;omega) (by omega) hB _ rfl ?_
 intro g cap w' o1 g1 e1 _
 have hb:B<=g:=by
  rcases o1.2 with⟨q,_⟩ | ⟨g2,_,_,q,hb,_⟩
  ·cases q
  ·injection q with q1 q2 q3
   injection q1 with q4
   injection q4 with q5
   omega
 refine h g cap w' ?_ g1 e1 hb
 unfold Sh.Own
 rw[List.length_append,List.map_append,hl]
 exact o1
theorem Ek(w:World)(a:Option Addr)(n c:Nat):(binOp .eql 27 (.slice a n c) (.slice none 0 0)).run prog w=.ok (.bool a.isNone) w:=Lib.run_eql_slice_nil w _ _ a n c 0 0 underlying27
attribute [local go_sem] Ek
theorem uI{ops:Array Oper}{rest:List Oper}{o:Oper}{a:Act}{w:World}{Q:Exit->Act->World->Prop}(hgd:o.guard=none)(s x:Operand)
  (ho:o.op=.call {callee:=.builtin .append,args:= #[s,x],argTypes:= #[27,27]})
  (g:Nat) (hs:a.eval s=.slice (some ⟨g,0,none⟩) 0 0) (src:Value) (hx:a.eval x=src) (hsrc:Src prog 1 27 src 0 [] w)
  (h:wpList prog ops Q rest (a.put o.dst (.slice (some ⟨g,0,none⟩) 0 0)) w):wpList prog ops Q (o :: rest) a w:=by
 obtain⟨i0,hi,hz0,hz1,hz2⟩:=Sh.qM
 refine wpList_plain hgd fun _ hK=> ?_
 have hr:=run_append_room_src (P:=prog) w 27 27 o.type 2 i0 underlying27 hi g 0 0 0 src 0 [] (by rw[hz1];exact hsrc) (Nat.le_refl _) (fun j hj=>absurd hj (Nat.not_lt_zero j)) (fun j hj=>absurd hj (Nat.not_lt_zero j))
 unfold Oper.wp execOp
 simp only[ho,resolve,invoke,builtin,Sem.run_bind,Sem.run_pure,Result.andThen_ok,List.map_toArray,List.map_cons,List.map_nil,hs,hx,hr]
 exact hK _ _ h
theorem El{w:World}{b o N:Nat}{D:Nat->Int}(h:Sh.IsI w (some ⟨b,o,none⟩) N D): ∀j u,(((List.range N).map D).map (Value.int .i64))[j]? =some u->w.cell? ((⟨b,o,none⟩:Addr).add j)=some u:=fun j u hu=>by
 have hj:j<N:=by
  rcases Nat.lt_or_ge j N with h1 | h1
  ·exact h1
  ·rw[List.getElem?_eq_none (by simpa using h1)]at hu;cases hu
 simp[hj]at hu
 rw[Sh.kK,<- hu]
 exact(h.at0 hj).2.2
theorem vL(n c:Nat)(w:World):Calls prog 78 #[.slice none n c] w fun e w'=>e=.returned (.slice none 0 0)/\w'=w:=by
 go_enter func78,ntmps78
 go_wp2
 go_ret
 exact⟨rfl,rfl⟩
theorem vM(p:Addr)(c:Nat)(f:Nat->Int)(w:World):Calls prog 78 #[.slice (some p) 0 c] w fun e w'=>e=.returned (.slice (some ⟨w.heap.size,0,none⟩) 0 0)/\w'=w.alloc (.cells #[] 2):=by
 have SR:=hid (Sh.D7 (Sh.IsI.nil (w.alloc (.cells #[] 2)) (some p) f) c)
 go_enter func78,ntmps78
 go_wp2_with (first
  | (at_builtin;refine uI rfl (.tmp 5) (.tmp 6) rfl w.heap.size rfl (.slice (some p) 0 c) rfl SR.out ?_))
 go_ret
 exact⟨rfl,rfl⟩
theorem BT(b o n c:Nat)(f:Nat->Int)(w:World)(h0:0<n)(hn:n<=17592186044416)(hf:Sh.IsI w (some ⟨b,o,none⟩) n f):Calls prog 78 #[.slice (some ⟨b,o,none⟩) n c] w fun e w'=> ∃v,e=.returned v/\Below w.heap.size w w'/\Sh.Own w.heap.size v ((List.range n).map f) w':=by
 have O2:=hid (Sh.mP w w.heap.size (Nat.le_refl _))
 have N1:=hid (El (hf.below (bl1 w (.cells #[] 2))))
 have LS:Hid (w.heap.size<=(w.alloc (.cells #[] 2)).heap.size):=by show _<=_;simp
 have H0:=hid h0
 have HN:=hid hn
 clear hf h0 hn
 go_enter func78,ntmps78
 go_wp2_with (first
  | (at_builtin;refine vK rfl (.tmp 5) (.tmp 6) rfl w.heap.size (.slice (some ⟨w.heap.size,0,none⟩) 0 0) [] rfl O2.out ⟨b,o,none⟩ n c ((List.range n).map f) rfl (by simp) N1.out H0.out (by have:=HN.out;simp;omega) LS.out n (by simp) ?_;intro g1 c1 w1 o1 x1 y1 _;have O1:=hid o1;have X1:=hid x1;clear o1 x1 y1))
 go_ret
 refine⟨_,rfl,Below.grown (bl1 w _:Below _ _ _) X1.out LS.out (fun k hk=>(World.ownsRow.lt O2.out k hk).1),?_⟩
 have h:=O1.out
 rw[List.nil_append]at h
 exact h
theorem BU(p:Option Addr)(n c:Nat)(f:Nat->Int)(w:World)(hn:n<=17592186044416)(hf:Sh.IsI w p n f):Calls prog 78 #[.slice p n c] w fun e w'=> ∃v,e=.returned v/\Below w.heap.size w w'/\Sh.Own w.heap.size v ((List.range n).map f) w':=by
 rcases Nat.eq_zero_or_pos n with h0 | h0
 ·subst h0
  cases p with
  | none=>
   refine(vL 0 c w).mono ?_
   rintro e w' ⟨rfl,rfl⟩
   exact⟨_,rfl,Below.refl _ _,Sh.Own.new _ _⟩
  | some a=>
   refine(vM a c f w).mono ?_
   rintro e w' ⟨rfl,rfl⟩
   exact⟨_,rfl,bl1 _ _,Sh.mP w w.heap.size (Nat.le_refl _)⟩
 ·obtain⟨b,o,rfl⟩:=hf.some0 h0
  exact BT b o n c f w h0 hn hf
def mkS(n:Nat)(x:Cg.Ix):Value:=match x.1 with
 | some b=>.slice (some ⟨b,0,none⟩) n x.2
 | none=>.slice none 0 0
theorem pC(n:Nat)(x:Cg.Ix):(mkS n x).ownBlock=x.1:=by
 obtain⟨x1,x2⟩:=x
 cases x1<;>rfl
theorem row_ix{t:TypeId}{B n:Nat}{v:Value}{l:List Value}{w:World}(h:w.ownsRow B t 1 v n l): ∃x:Cg.Ix,v=mkS n x/\ ∀b,x.1=some b->B<=b/\b<w.heap.size:=by
 rcases h.2 with⟨rfl,h0⟩ | ⟨g,cap,cur,rfl,hb,hg,-⟩
 ·exact⟨(none,0),rfl,fun b e=>by cases e⟩
 ·refine⟨(some g,cap),rfl,fun b e=> ?_⟩
  injection e with e
  subst e
  exact⟨hb,lt_of_block hg⟩
theorem BV{t:TypeId}{B B' n:Nat}{v:Value}{l:List Value}{w:World}(h:w.ownsRow B t 1 v n l)(hb:B'<=B):w.ownsRow B' t 1 v n l:=by
 refine⟨h.1,?_⟩
 rcases h.2 with h0 | ⟨g,cap,cur,e,h1,rest⟩
 ·exact .inl h0
 ·exact .inr ⟨g,cap,cur,e,by omega,rest⟩
theorem cloneF(p:Option Addr)(n c:Nat)(f:Nat->Nat)(M:Nat)(w:World)(hn:n<=17592186044416)(hf:IsFl w p n f)(hM:M<=w.heap.size):
  Calls prog 57 #[.slice p n c] w fun e w2=> ∃x,e=.returned (mkS n x)/\Ab w w2/\(∀b,x.1=some b->w.heap.size<=b/\b<w2.heap.size)/\OwnG M (mkS n x) ((List.range n).map f) w2:=
 (BS p n c f w hn hf).mono fun e w2 h=>by
  obtain⟨v,rfl,h1,h2⟩:=h
  have h3:=h2
  unfold OwnG at h3
  rw[List.length_map,List.length_range]at h3
  obtain⟨x,rfl,hx⟩:=row_ix h3
  exact⟨x,rfl,h1,hx,BV h2 hM⟩
theorem cloneI(p:Option Addr)(n c:Nat)(f:Nat->Int)(M:Nat)(w:World)(hn:n<=17592186044416)(hf:Sh.IsI w p n f)(hM:M<=w.heap.size):
  Calls prog 78 #[.slice p n c] w fun e w2=> ∃x,e=.returned (mkS n x)/\Ab w w2/\(∀b,x.1=some b->w.heap.size<=b/\b<w2.heap.size)/\Sh.Own M (mkS n x) ((List.range n).map f) w2:=
 (BU p n c f w hn hf).mono fun e w2 h=>by
  obtain⟨v,rfl,h1,h2⟩:=h
  have h3:=h2
  unfold Sh.Own at h3
  rw[List.length_map,List.length_range]at h3
  obtain⟨x,rfl,hx⟩:=row_ix h3
  exact⟨x,rfl,h1,hx,BV h2 hM⟩
end Ss
end
section
open Go.RowKit Tf Cu Go.Deep
attribute [local go_sem] aL aM aV aW aX aY aZ aG
namespace Ss
theorem uJ(n:Nat)(x:Cg.Ix): ∃p m c,mkS n x=.slice p m c:=by
 obtain⟨x1,x2⟩:=x
 cases x1
 ·exact⟨_,_,_,rfl⟩
 ·exact⟨_,_,_,rfl⟩
theorem bN{t:TypeId}{B n g:Nat}{v:Value}{l:List Value}{w:World}(h:w.ownsRow B t 1 v n l)(hg:v.ownBlock≠some g)(k:Nat)(u:Value):(w.setCell ⟨g,k,none⟩ u).ownsRow B t 1 v n l:=by
 refine⟨h.1,?_⟩
 rcases h.2 with h0 | ⟨b,cap,cur,e,h1,h2,rest⟩
 ·exact .inl h0
 ·refine .inr ⟨b,cap,cur,e,h1,?_,rest⟩
  rw[aO (fun q=>hg (by rw[e];show some b=some g;rw[q]))]
  exact h2
theorem dS{t:TypeId}{B n g:Nat}{v:Value}{l:List Value}{w:World}(h:w.ownsRow B t 1 v n l)(hg:v.ownBlock≠some g)(x0 x1 x2 x3 x4 x5:Value):((((((w.setCell ⟨g,0,none⟩ x0).setCell ⟨g,1,none⟩ x1).setCell ⟨g,2,none⟩ x2).setCell ⟨g,3,none⟩ x3).setCell ⟨g,4,none⟩ x4).setCell ⟨g,5,none⟩ x5).ownsRow B t 1 v n l:=
 bN (bN (bN (bN (bN (bN h hg _ _) hg _ _) hg _ _) hg _ _) hg _ _) hg _ _
theorem copy_at(pb:Option Addr)(lb cb:Nat)(B:Nat->Nat)(pw:Option Addr)(lw cw:Nat)(W:Nat->Int)(pt:Option Addr)(lt ct:Nat)(T:Nat->Int)(ps:Option Addr)(ls cs:Nat)(S:Nat->Nat)(sky st:Int)(w:World)(HL:Hid (lb<=17592186044416/\lw<=17592186044416/\lt<=17592186044416/\ls<=17592186044416))(i1:IsFl w pb lb B)(i2:Sh.IsI w pw lw W)(i3:Sh.IsI w pt lt T)(i4:IsFl w ps ls S):
  Calls prog 95 #[.agg #[.slice pb lb cb,.slice pw lw cw,.slice pt lt ct,.slice ps ls cs,.int .i64 sky,.int .i64 st]] w fun e w'=> ∃v,e=.returned v/\Below w.heap.size w w'/\OwnS w.heap.size v lb lw lt ls B W T S sky st w':=by
 have I1:=hid i1
 have I2:=hid i2
 have I3:=hid i3
 have I4:=hid i4
 obtain⟨A0,R0,Q0⟩:=bT w (.cells #[.slice pb lb cb,.slice pw lw cw,.slice pt lt ct,.slice ps ls cs,.int .i64 sky,.int .i64 st] 29) (.cells #[.slice none 0 0,.slice none 0 0,.slice none 0 0,.slice none 0 0,.int .i64 0,.int .i64 0] 29)
 clear i1 i2 i3 i4
 go_enter func95,ntmps95
 go_upto_region 1 with fail
 generalize hW:World.alloc (World.alloc w _) _=V0 at*
 obtain⟨ga,hga⟩:=aD w.heap.size
 obtain⟨gr,hgr⟩:=aD (w.heap.size+1)
 have HG:Hid (w.heap.size<=gr):=by show _<=_;omega
 rw[hgr]at Q0 ⊢
 rw[hga]at R0
 try rw[hga]
 clear hgr hW
 have HM:=hid hga
 clear hga
 obtain⟨UU,E,hF1,hF2⟩:=cls V0.drew
 have HU:=hid hF2
 have HU1:=hid hF1
 have e0: ∀u,(E u).cell? ⟨ga,0,none⟩=some (.slice pb lb cb):=fun u=>aA 0 ((hF1 u).heap R0.out)
 have e1: ∀u,(E u).cell? ⟨ga,1,none⟩=some (.slice pw lw cw):=fun u=>aA 1 ((hF1 u).heap R0.out)
 have e2: ∀u,(E u).cell? ⟨ga,2,none⟩=some (.slice pt lt ct):=fun u=>aA 2 ((hF1 u).heap R0.out)
 have e3: ∀u,(E u).cell? ⟨ga,3,none⟩=some (.slice ps ls cs):=fun u=>aA 3 ((hF1 u).heap R0.out)
 have e4: ∀u,(E u).cell? ⟨ga,4,none⟩=some (.int .i64 sky):=fun u=>aA 4 ((hF1 u).heap R0.out)
 have e5: ∀u,(E u).cell? ⟨ga,5,none⟩=some (.int .i64 st):=fun u=>aA 5 ((hF1 u).heap R0.out)
 have C1:Hid (∀v,Ab V0.drew v->Calls prog 57 #[.slice pb lb cb] v (fun e w2=> ∃x,e=.returned (mkS lb x)/\Ab v w2/\(∀b,x.1=some b->v.heap.size<=b/\b<w2.heap.size)/\(fun x w'=>OwnG w.heap.size (mkS lb x) ((List.range lb).map B) w') x w2)):=fun v a=>cloneF pb lb cb B w.heap.size v HL.out.1 (I1.out.below (A0.out.trans ((Ab.refl V0).drew.trans a))) (A0.out.trans ((Ab.refl V0).drew.trans a)).size
 have C2:Hid (∀v,Ab V0.drew v->Calls prog 78 #[.slice pw lw cw] v (fun e w2=> ∃x,e=.returned (mkS lw x)/\Ab v w2/\(∀b,x.1=some b->v.heap.size<=b/\b<w2.heap.size)/\(fun x w'=>Sh.Own w.heap.size (mkS lw x) ((List.range lw).map W) w') x w2)):=fun v a=>cloneI pw lw cw W w.heap.size v HL.out.2.1 (I2.out.below (A0.out.trans ((Ab.refl V0).drew.trans a))) (A0.out.trans ((Ab.refl V0).drew.trans a)).size
 have C3:Hid (∀v,Ab V0.drew v->Calls prog 78 #[.slice pt lt ct] v (fun e w2=> ∃x,e=.returned (mkS lt x)/\Ab v w2/\(∀b,x.1=some b->v.heap.size<=b/\b<w2.heap.size)/\(fun x w'=>Sh.Own w.heap.size (mkS lt x) ((List.range lt).map T) w') x w2)):=fun v a=>cloneI pt lt ct T w.heap.size v HL.out.2.2.1 (I3.out.below (A0.out.trans ((Ab.refl V0).drew.trans a))) (A0.out.trans ((Ab.refl V0).drew.trans a)).size
 have C4:Hid (∀v,Ab V0.drew v->Calls prog 57 #[.slice ps ls cs] v (fun e w2=> ∃x,e=.returned (mkS ls x)/\Ab v w2/\(∀b,x.1=some b->v.heap.size<=b/\b<w2.heap.size)/\(fun x w'=>OwnG w.heap.size (mkS ls x) ((List.range ls).map S) w') x w2)):=fun v a=>cloneF ps ls cs S w.heap.size v HL.out.2.2.2 (I4.out.below (A0.out.trans ((Ab.refl V0).drew.trans a))) (A0.out.trans ((Ab.refl V0).drew.trans a)).size
 clear hF1 hF2
 have STB:Cg.Stable (fun k=>if k=2 then some ((fun x w'=>OwnG w.heap.size (mkS lb x) ((List.range lb).map B) w'),mkS lb)else if k=5 then some ((fun x w'=>Sh.Own w.heap.size (mkS lw x) ((List.range lw).map W) w'),mkS lw)else if k=8 then some ((fun x w'=>Sh.Own w.heap.size (mkS lt x) ((List.range lt).map T) w'),mkS lt)else if k=11 then some ((fun x w'=>OwnG w.heap.size (mkS ls x) ((List.range ls).map S) w'),mkS ls)else none):=fun i R mk h x v v' hr ha=>by
  by_cases q2:i=2
  ·subst q2
   simp only[if_true,Option.some.injEq,Prod.mk.injEq]at h
   obtain⟨h1,h2⟩:=h
   subst h1 h2
   exact OwnG.to hr ha
  ·by_cases q5:i=5
   ·subst q5
    simp only[if_true,if_neg (show¬(5:Nat)=2 by decide),Option.some.injEq,Prod.mk.injEq]at h
    obtain⟨h1,h2⟩:=h
    subst h1 h2
    exact Sh.Own.to hr ha
   ·by_cases q8:i=8
    ·subst q8
     simp only[if_true,if_neg (show¬(8:Nat)=2 by decide),if_neg (show¬(8:Nat)=5 by decide),Option.some.injEq,Prod.mk.injEq]at h
     obtain⟨h1,h2⟩:=h
     subst h1 h2
     exact Sh.Own.to hr ha
    ·by_cases q11:i=11
     ·subst q11
      simp only[if_true,if_neg (show¬(11:Nat)=2 by decide),if_neg (show¬(11:Nat)=5 by decide),if_neg (show¬(11:Nat)=8 by decide),Option.some.injEq,Prod.mk.injEq]at h
      obtain⟨h1,h2⟩:=h
      subst h1 h2
      exact OwnG.to hr ha
     ·simp only[if_neg q2,if_neg q5,if_neg q8,if_neg q11]at h
      cases h
 refine Cg.iV 16 (fun k=>if k=2 then some ((fun x w'=>OwnG w.heap.size (mkS lb x) ((List.range lb).map B) w'),mkS lb)else if k=5 then some ((fun x w'=>Sh.Own w.heap.size (mkS lw x) ((List.range lw).map W) w'),mkS lw)else if k=8 then some ((fun x w'=>Sh.Own w.heap.size (mkS lt x) ((List.range lt).map T) w'),mkS lt)else if k=11 then some ((fun x w'=>OwnG w.heap.size (mkS ls x) ((List.range ls).map S) w'),mkS ls)else none) STB (by kernel_rfl) (by kernel_rfl) (by kernel_rfl) ?_
 simp only[List.take_succ_cons,List.take_zero]
 refine Cg.bK HU (by rfl) (by rfl) ?_
 go_big_quiet_step (with_reducible rfl)
 refine wpQuiet_nil ?_
 refine Cg.bK HU (by rfl) (by rfl) ?_
 go_big_quiet_step (with_reducible rfl)
 refine wpQuiet_nil ?_
 refine Cg.cX (ob:=(fun x w'=>OwnG w.heap.size (mkS lb x) ((List.range lb).map B) w')) (mk:=mkS lb) (by rfl) (by kernel_rfl) ?_ ?_
 ·refine Cg.lV (f:=57) (args:= #[.slice pb lb cb]) ?_ C1.out
  intro v
  refine jU (x:=.tmp 4) (ats:= #[26]) (by rfl) (by rfl) func57 (by kernel_rfl) (by kernel_rfl) v
 intro x1 fx1
 simp only[Act.put,List.setIfInBounds_toArray,List.set_cons_succ,List.set_cons_zero]
 refine Cg.bK HU (by rfl) (by rfl) ?_
 go_big_quiet_step (with_reducible rfl)
 refine wpQuiet_nil ?_
 refine Cg.bK HU (by rfl) (by rfl) ?_
 go_big_quiet_step (with_reducible rfl)
 refine wpQuiet_nil ?_
 refine Cg.cX (ob:=(fun x w'=>Sh.Own w.heap.size (mkS lw x) ((List.range lw).map W) w')) (mk:=mkS lw) (by rfl) (by kernel_rfl) ?_ ?_
 ·refine Cg.lV (f:=78) (args:= #[.slice pw lw cw]) ?_ C2.out
  intro v
  refine jU (x:=.tmp 7) (ats:= #[27]) (by rfl) (by rfl) func78 (by kernel_rfl) (by kernel_rfl) v
 intro x2 fx2
 simp only[Act.put,List.setIfInBounds_toArray,List.set_cons_succ,List.set_cons_zero]
 refine Cg.bK HU (by rfl) (by rfl) ?_
 go_big_quiet_step (with_reducible rfl)
 refine wpQuiet_nil ?_
 refine Cg.bK HU (by rfl) (by rfl) ?_
 go_big_quiet_step (with_reducible rfl)
 refine wpQuiet_nil ?_
 refine Cg.cX (ob:=(fun x w'=>Sh.Own w.heap.size (mkS lt x) ((List.range lt).map T) w')) (mk:=mkS lt) (by rfl) (by kernel_rfl) ?_ ?_
 ·refine Cg.lV (f:=78) (args:= #[.slice pt lt ct]) ?_ C3.out
  intro v
  refine jU (x:=.tmp 10) (ats:= #[27]) (by rfl) (by rfl) func78 (by kernel_rfl) (by kernel_rfl) v
 intro x3 fx3
 simp only[Act.put,List.setIfInBounds_toArray,List.set_cons_succ,List.set_cons_zero]
 refine Cg.bK HU (by rfl) (by rfl) ?_
 go_big_quiet_step (with_reducible rfl)
 refine wpQuiet_nil ?_
 refine Cg.bK HU (by rfl) (by rfl) ?_
 go_big_quiet_step (with_reducible rfl)
 refine wpQuiet_nil ?_
 refine Cg.cX (ob:=(fun x w'=>OwnG w.heap.size (mkS ls x) ((List.range ls).map S) w')) (mk:=mkS ls) (by rfl) (by kernel_rfl) ?_ ?_
 ·refine Cg.lV (f:=57) (args:= #[.slice ps ls cs]) ?_ C4.out
  intro v
  refine jU (x:=.tmp 13) (ats:= #[26]) (by rfl) (by rfl) func57 (by kernel_rfl) (by kernel_rfl) v
 intro x4 fx4
 simp only[Act.put,List.setIfInBounds_toArray,List.set_cons_succ,List.set_cons_zero]
 refine Cg.bK HU (by rfl) (by rfl) ?_
 go_big_quiet_step (with_reducible rfl)
 refine wpQuiet_nil ?_
 refine Cg.bK HU (by rfl) (by rfl) ?_
 go_big_quiet_step (with_reducible rfl)
 refine wpQuiet_nil ?_
 refine Cg.bK HU (by rfl) (by rfl) ?_
 go_big_quiet_step (with_reducible rfl)
 refine wpQuiet_nil ?_
 refine Cg.bK HU (by rfl) (by rfl) ?_
 go_big_quiet_step (with_reducible rfl)
 refine wpQuiet_nil ?_
 refine Cg.kQ ?_
 intro wz hz
 have h1:=hz.at (i:=2) (x:=x1) (R:=(fun x w'=>OwnG w.heap.size (mkS lb x) ((List.range lb).map B) w')) (mk:=mkS lb) (by rfl) (by rfl)
 have h2:=hz.at (i:=5) (x:=x2) (R:=(fun x w'=>Sh.Own w.heap.size (mkS lw x) ((List.range lw).map W) w')) (mk:=mkS lw) (by rfl) (by rfl)
 have h3:=hz.at (i:=8) (x:=x3) (R:=(fun x w'=>Sh.Own w.heap.size (mkS lt x) ((List.range lt).map T) w')) (mk:=mkS lt) (by rfl) (by rfl)
 have h4:=hz.at (i:=11) (x:=x4) (R:=(fun x w'=>OwnG w.heap.size (mkS ls x) ((List.range ls).map S) w')) (mk:=mkS ls) (by rfl) (by rfl)
 have n14:Dj (mkS lb x1) (mkS ls x4):=fun b q r=>by
  rw[pC]at q r
  exact(fx4 b r).2 2 x1 (by rfl) q
 have n23:Dj (mkS lw x2) (mkS lt x3):=fun b q r=>by
  rw[pC]at q r
  exact(fx3 b r).2 5 x2 (by rfl) q
 have AZ:Hid (Ab V0 wz):=(Ab.refl V0).drew.trans hz.1
 have G1:Hid (gr<V0.heap.size):=Rv.bI Q0.out
 have far: ∀(n:Nat) (x:Cg.Ix),(∀b,x.1=some b->V0.drew.heap.size<=b/\b<wz.heap.size)->(mkS n x).ownBlock≠some gr:=fun n x h q=>by
  rw[pC]at q
  have h1:V0.heap.size<=gr:=(h gr q).1
  have h2:=G1.out
  omega
 have O1:Hid (OwnG w.heap.size (mkS lb x1) ((List.range lb).map B) wz/\(mkS lb x1).ownBlock≠some gr):=⟨h1.1,far _ _ h1.2⟩
 have O2:Hid (Sh.Own w.heap.size (mkS lw x2) ((List.range lw).map W) wz/\(mkS lw x2).ownBlock≠some gr):=⟨h2.1,far _ _ h2.2⟩
 have O3:Hid (Sh.Own w.heap.size (mkS lt x3) ((List.range lt).map T) wz/\(mkS lt x3).ownBlock≠some gr):=⟨h3.1,far _ _ h3.2⟩
 have O4:Hid (OwnG w.heap.size (mkS ls x4) ((List.range ls).map S) wz/\(mkS ls x4).ownBlock≠some gr):=⟨h4.1,far _ _ h4.2⟩
 have NN:=hid (And.intro n14 n23)
 have RZ:=hid (AZ.out.heap Q0.out)
 obtain⟨p1,m1,c1,q1⟩:=uJ lb x1
 obtain⟨p2,m2,c2,q2⟩:=uJ lw x2
 obtain⟨p3,m3,c3,q3⟩:=uJ lt x3
 obtain⟨p4,m4,c4,q4⟩:=uJ ls x4
 rw[q1]at O1 NN ⊢
 rw[q2]at O2 NN ⊢
 rw[q3]at O3 NN ⊢
 rw[q4]at O4 NN ⊢
 clear hz fx1 fx2 fx3 fx4 h1 h2 h3 h4 n14 n23 HU HU1 e0 e1 e2 e3 e4 e5 C1 C2 C3 C4 STB q1 q2 q3 q4 far
 clear E UU
 have t0:=aF RZ.out
 have f0:=eB RZ.out
 simp only[List.drop_succ_cons,List.drop_zero]
 go_wp2_with fail
 have RY:=hid (qD (x:=.slice p1 m1 c1) (y:=.slice p2 m2 c2) (z:=.slice p3 m3 c3) (p:=.slice p4 m4 c4) (q:=.int .i64 sky) (r:=.int .i64 st) RZ.out)
 refine bodyPost_ret (v:=.agg #[.slice p1 m1 c1,.slice p2 m2 c2,.slice p3 m3 c3,.slice p4 m4 c4,.int .i64 sky,.int .i64 st]) ?_ rfl ?_
 ·exact results_cell_row results95 _ _ gr _ _ (0,0) _ rfl RY.out underlying29 rfl (by kernel_rfl)
 have hg:=HG.out
 refine⟨_,rfl,(((((((A0.out.trans AZ.out).setk hg _).setk hg _).setk hg _).setk hg _).setk hg _).setk hg _),_,_,_,_,rfl,?_,?_,?_,?_,NN.out.1,NN.out.2⟩
 ·exact dS O1.out.1 O1.out.2 _ _ _ _ _ _
 ·exact dS O2.out.1 O2.out.2 _ _ _ _ _ _
 ·exact dS O3.out.1 O3.out.2 _ _ _ _ _ _
 ·exact dS O4.out.1 O4.out.2 _ _ _ _ _ _
end Ss
end
section
open Go.RowKit Tf Cu Go.Deep
attribute [local go_sem] aL aM aV aW aX aY aZ aG
namespace Ss
theorem sameF_at(a b:Nat)(r:Bool)(w:World)(hr:decide (a=b)=r):
  Calls prog 150 #[.float .f64 a,.float .f64 b] w fun e w'=>e=.returned (.bool r)/\w'=w:=by
 by_cases h:a=b
 ·have d1:((a:Int)==(b:Int))=true:=by simp[h]
  have R:Hid (r=true):=hr.symm.trans (decide_eq_true h)
  clear hr h
  go_enter func150,ntmps150
  go_wp2
  go_ret
  exact⟨by rw[R.out];rfl,rfl⟩
 ·have d1:((a:Int)==(b:Int))=false:=by simp;omega
  have R:Hid (r=false):=hr.symm.trans (decide_eq_false h)
  clear hr h
  go_enter func150,ntmps150
  go_wp2
  go_ret
  exact⟨by rw[R.out];rfl,rfl⟩
theorem xF(x lo hi:Nat)(r:Bool)(w:World)(hr:((fgt x lo||feq x lo)&&(flt x hi||feq x hi))=r):
  Calls prog 93 #[.float .f64 x,.float .f64 lo,.float .f64 hi] w fun e w'=>e=.returned (.bool r)/\w'=w:=by
 cases h1:(fgt x lo||feq x lo)with
 | false=>
  have R:Hid (r=false):=hr.symm.trans (by rw[h1];rfl)
  clear hr
  go_enter func93,ntmps93
  go_wp2
  go_ret
  exact⟨by rw[R.out];rfl,rfl⟩
 | true=>
  cases h2:(flt x hi||feq x hi)with
  | false=>
   have R:Hid (r=false):=hr.symm.trans (by rw[h1,h2];rfl)
   clear hr
   go_enter func93,ntmps93
   go_wp2
   go_ret
   exact⟨by rw[R.out];rfl,rfl⟩
  | true=>
   have R:Hid (r=true):=hr.symm.trans (by rw[h1,h2];rfl)
   clear hr
   go_enter func93,ntmps93
   go_wp2
   go_ret
   exact⟨by rw[R.out];rfl,rfl⟩
theorem canon_in{x lo:Nat}(hx:x<18446744073709551616)(hl:lo<18446744073709551616)(h:(fgt x lo||feq x lo)=true):decide (x=canonB x)=decide (x≠9223372036854775808):=by
 have n:isN x=false:=by
  rw[eC x lo hx hl,iA x lo hx hl]at h
  cases q:isN x with
  | false=>rfl
  | true=>rw[q]at h;simp at h
 unfold canonB
 rw[if_neg (by rw[n];decide)]
 unfold mg
 by_cases z:x%9223372036854775808=0
 ·rw[if_pos z]
  by_cases e:x=9223372036854775808
  ·rw[decide_eq_false (by omega),decide_eq_false (fun q=>q e)]
  ·rw[decide_eq_true (by omega),decide_eq_true e]
 ·rw[if_neg z,decide_eq_true rfl,decide_eq_true (by omega)]
theorem gZ(x lo hi:Nat)(r:Bool)(w:World)(hx:x<18446744073709551616)(hl:lo<18446744073709551616)(hr:btw x lo hi=r):
  Calls prog 100 #[.float .f64 x,.float .f64 lo,.float .f64 hi] w fun e w'=>e=.returned (.bool r)/\w'=w:=by
 unfold btw at hr
 cases h1:((fgt x lo||feq x lo)&&(flt x hi||feq x hi))with
 | false=>
  have R:Hid (r=false):=hr.symm.trans (by rw[h1];rfl)
  have CW:=hid (xF x lo hi false w h1)
  clear hr hx hl h1
  go_enter func100,ntmps100
  go_wp2_with fail
  refine CW.out.mono ?_
  rintro e9 v9 ⟨rfl,hv9⟩
  have hv8:=hv9.symm
  subst hv8
  go_wp2
  go_ret
  exact⟨by rw[R.out];rfl,rfl⟩
 | true=>
  have R:Hid (decide (x≠9223372036854775808)=r):=by
   show _=_
   rw[<- hr,h1]
   rfl
  have CW:=hid (xF x lo hi true w h1)
  have h3:=canon_in hx hl ((Bool.and_eq_true _ _).mp h1).1
  have CC:=hid (tB x _ w hx rfl)
  have CS:=hid (sameF_at x (canonB x) r w (by rw[h3];exact R.out))
  generalize canonB x=y at*
  clear hr hx hl h1 h3 R
  go_enter func100,ntmps100
  go_wp2_with fail
  refine CW.out.mono ?_
  rintro e9 v9 ⟨rfl,hv9⟩
  have hv8:=hv9.symm
  subst hv8
  go_wp2_with fail
  refine CC.out.mono ?_
  rintro e9 v9 ⟨rfl,hv9⟩
  have hv8:=hv9.symm
  subst hv8
  go_wp2_with fail
  refine CS.out.mono ?_
  rintro e9 v9 ⟨rfl,hv9⟩
  have hv8:=hv9.symm
  subst hv8
  go_wp2
  go_ret
  exact⟨rfl,rfl⟩
theorem xG(p:Option Addr)(N c:Nat)(f:Nat->Nat)(m nm:Nat)(q:Nat->Bool)(w:World)(hm:Op.negFloat .f64 m=nm)(hn:nm<18446744073709551616)(hN:N<=281474976710656)(hf:IsFl w p N f)(hq: ∀i,i<N->q i= !btw (f i) nm m):
  Calls prog 45 #[.slice p N c,.float .f64 m] w fun e w'=>e=.returned (.int .i64 (fp q N))/\w'=w:=by
 have HF:=hid hf
 have HN:=hid hN
 have HQ:=hid hq
 have HNM:=hid hn
 clear hf hN hq hn
 go_enter func45,ntmps45
 go_wp2
 go_loopw [9] (fun iv wr=> ∃k:Nat,k<=N/\iv=.int .i64 (k:Nat)/\(∀i,i<k->q i=false)/\wr=w) (fun iv _=>N - (intOf iv).toNat)
 case atStart=>exact⟨0,by omega,rfl,fun i hi=>absurd hi (Nat.not_lt_zero i),rfl⟩
 case round=>
  obtain⟨k,hk,rfl,g1,hwr⟩:=hrel
  have hwr2:=hwr.symm
  subst hwr2
  have G1:=hid g1
  clear g1
  by_cases hkn:k<N
  ·have HK:=hid hkn
   have kI:(k:Int)<N:=by omega
   have kB:(k:Int)<=281474976710656:=by have:=HN.out;omega
   obtain⟨b0,o0,rfl⟩:=HF.out.some0 (show 0<N by omega)
   obtain⟨x,hx⟩:=aD (f k)
   have xa:=HF.out.at0 hkn
   have xc:=xa.2.2
   have xl:=(HF.out k hkn).1
   rw[hx]at xc xl
   have qk:=HQ.out k hkn
   rw[hx]at qk
   clear hx hkn hk xa
   cases hb:btw x nm m with
   | false=>
    have CB:=hid (gZ x nm m false w xl HNM.out hb)
    have QK:Hid (q k=true):=qk.trans (by rw[hb];rfl)
    have E:Hid (fp q N=(k:Nat)):=DS G1.out QK.out HK.out
    clear qk hb xl
    go_wp2_with fail
    refine CB.out.mono ?_
    rintro e9 v9 ⟨rfl,hv9⟩
    have hv8:=hv9.symm
    subst hv8
    go_wp2
    go_ret
    exact⟨by rw[E.out];rfl,by first | trivial | rfl⟩
   | true=>
    have CB:=hid (gZ x nm m true w xl HNM.out hb)
    have QK:Hid (q k=false):=qk.trans (by rw[hb];rfl)
    clear qk hb xl
    go_wp2_with fail
    refine CB.out.mono ?_
    rintro e9 v9 ⟨rfl,hv9⟩
    have hv8:=hv9.symm
    subst hv8
    go_wp2
    refine⟨⟨k+1,by have:=HK.out;omega,by simp,fun i hi=> ?_,by first | trivial | rfl⟩,by have:=HK.out;simp[intOf];omega⟩
    by_cases l:i<k
    ·exact G1.out i l
    ·obtain rfl:i=k:=by omega
     exact QK.out
  ·have e6:N=k:=by omega
   subst e6
   have E:Hid (fp q N= -1):=gF G1.out
   go_wp2
   go_ret
   exact⟨by rw[E.out];rfl,by first | trivial | rfl⟩
theorem GJ(p:Option Addr)(N c:Nat)(f:Nat->Int)(th rm:Int)(w:World)(hN:N<=281474976710656)(hf:Sh.IsI w p N f)(ht:0<=th/\th<=4503599627370496)(hrm:rm=4503599627370496 - th):
  Calls prog 46 #[.slice p N c,.int .i64 rm] w fun e w'=>e=.returned (.int .i64 (fp (bQ f th) N))/\w'=w:=by
 have HF:=hid hf
 have HN:=hid hN
 have HT:=hid ht
 have HR:=hid hrm
 clear hf hN ht hrm
 go_enter func46,ntmps46
 go_wp2
 go_loopw [1,9] (fun sv iv wr=> ∃k:Nat,k<=N/\iv=.int .i64 (k:Nat)/\sv=.int .i64 (4503599627370496 - (th+Sh.sumN f k))/\(0<=th+Sh.sumN f k/\th+Sh.sumN f k<=4503599627370496)/\(∀i,i<k->bQ f th i=false)/\wr=w) (fun _ iv _=>N - (intOf iv).toNat)
 case atStart=>exact⟨0,by omega,rfl,by show _=Value.int .i64 (4503599627370496 - (th+0));rw[Int.add_zero,HR.out],by show 0<=th+0/\th+0<=_;have:=HT.out;omega,fun i hi=>absurd hi (Nat.not_lt_zero i),rfl⟩
 case round=>
  obtain⟨k,hk,rfl,rfl,hb,g1,hwr⟩:=hrel
  have hwr2:=hwr.symm
  subst hwr2
  have G1:=hid g1
  clear g1
  obtain⟨s,hs⟩:=aD (4503599627370496 - (th+Sh.sumN f k))
  have s1:0<=s:=by omega
  have s2:s<=4503599627370496:=by omega
  rw[hs]
  clear hb
  by_cases hkn:k<N
  ·have HK:=hid hkn
   have kI:(k:Int)<N:=by omega
   have kB:(k:Int)<=281474976710656:=by have:=HN.out;omega
   obtain⟨b0,o0,rfl⟩:=HF.out.some0 (show 0<N by omega)
   obtain⟨x,hx⟩:=aD (f k)
   have xc:=(HF.out.at0 hkn).2.2
   rw[hx]at xc
   have QE:Hid (bQ f th k=(decide (x<0)||decide (s<x))):=by show bQ f th k=_;unfold bQ;rw[hs,hx]
   have M3:Hid (th+Sh.sumN f (k+1)=4503599627370496 - s+x):=by show th+(Sh.sumN f k+f k)=_;rw[hx];omega
   clear hx hs hkn hk
   by_cases q1:x<0
   ·have d1:decide (x<0)=true:=decide_eq_true q1
    have E:Hid (fp (bQ f th) N=(k:Nat)):=DS G1.out (QE.out.trans (by rw[d1];rfl)) HK.out
    go_wp2
    go_ret
    exact⟨by rw[E.out];rfl,by first | trivial | rfl⟩
   ·have d1:decide (x<0)=false:=decide_eq_false q1
    by_cases q2:s<x
    ·have d2:decide (s<x)=true:=decide_eq_true q2
     have E:Hid (fp (bQ f th) N=(k:Nat)):=DS G1.out (QE.out.trans (by rw[d1,d2];rfl)) HK.out
     go_wp2
     go_ret
     exact⟨by rw[E.out];rfl,by first | trivial | rfl⟩
    ·have d2:decide (s<x)=false:=decide_eq_false q2
     have QF:Hid (bQ f th k=false):=QE.out.trans (by rw[d1,d2];rfl)
     have n1:0<=s - x:=by omega
     have n2:s - x<=4503599627370496:=by omega
     have N3:Hid (4503599627370496 - (4503599627370496 - s+x)=s - x):=by show _=_;omega
     have N4:Hid (0<=4503599627370496 - s+x/\4503599627370496 - s+x<=4503599627370496):=by show _/\_;omega
     clear q1 q2
     go_wp2
     refine⟨⟨k+1,by have:=HK.out;omega,by simp,by rw[M3.out,N3.out],by rw[M3.out];exact N4.out,fun i hi=> ?_,by first | trivial | rfl⟩,by have:=HK.out;simp[intOf];omega⟩
     by_cases l:i<k
     ·exact G1.out i l
     ·obtain rfl:i=k:=by omega
      exact QF.out
  ·have e6:N=k:=by omega
   subst e6
   have E:Hid (fp (bQ f th) N= -1):=gF G1.out
   go_wp2
   go_ret
   exact⟨by rw[E.out];rfl,by first | trivial | rfl⟩
end Ss
end
section
open Go.RowKit Go.Deep
namespace Rn
open Sh
theorem rW(n r1 r2 r3 r4:Int)(w:World):
  Calls prog 102 #[.int .i64 n,.agg #[.int .i64 r1,.int .i64 r2,.int .i64 r3,.int .i64 r4]] w fun e w'=>e=.returned (.bool (vB n (r1,r2,r3,r4)))/\Below w.heap.size w w':=by
 obtain⟨A0,R0⟩:=aR w (.cells #[.int .i64 r1,.int .i64 r2,.int .i64 r3,.int .i64 r4] 72)
 have VE:Hid (vB n (r1,r2,r3,r4)=(decide (0<=r1)&&decide (r1<n)&&decide (-4503599627370496<=r2)&&decide (r2<=4503599627370496)&&decide (0<=r3)&&decide (r3<=r4))):=rfl
 cases h0:decide (0<=r1)with
 | false=>
  have KO:Hid (vB n (r1,r2,r3,r4)=false):=VE.out.trans (by rw[h0]<;>rfl)
  clear VE
  go_enter func102,ntmps102
  go_upto_region 1 with fail
  generalize hW:World.alloc w _=W0 at*
  obtain⟨gw,hgw⟩:=aD w.heap.size
  rw[hgw]at R0 ⊢
  clear hgw hW
  have x0:=aA 0 R0.out
  have x1:=aA 1 R0.out
  have x2:=aA 2 R0.out
  have x3:=aA 3 R0.out
  go_wp2
  go_ret
  exact⟨by rw[KO.out];rfl,A0.out⟩
 | true=>
  cases h1:decide (r1<n)with
  | false=>
   have KO:Hid (vB n (r1,r2,r3,r4)=false):=VE.out.trans (by rw[h0,h1]<;>rfl)
   clear VE
   go_enter func102,ntmps102
   go_upto_region 1 with fail
   generalize hW:World.alloc w _=W0 at*
   obtain⟨gw,hgw⟩:=aD w.heap.size
   rw[hgw]at R0 ⊢
   clear hgw hW
   have x0:=aA 0 R0.out
   have x1:=aA 1 R0.out
   have x2:=aA 2 R0.out
   have x3:=aA 3 R0.out
   go_wp2
   go_ret
   exact⟨by rw[KO.out];rfl,A0.out⟩
  | true=>
   cases h2:decide (-4503599627370496<=r2)with
   | false=>
    have KO:Hid (vB n (r1,r2,r3,r4)=false):=VE.out.trans (by rw[h0,h1,h2]<;>rfl)
    clear VE
    go_enter func102,ntmps102
    go_upto_region 1 with fail
    generalize hW:World.alloc w _=W0 at*
    obtain⟨gw,hgw⟩:=aD w.heap.size
    rw[hgw]at R0 ⊢
    clear hgw hW
    have x0:=aA 0 R0.out
    have x1:=aA 1 R0.out
    have x2:=aA 2 R0.out
    have x3:=aA 3 R0.out
    go_wp2
    go_ret
    exact⟨by rw[KO.out];rfl,A0.out⟩
   | true=>
    cases h3:decide (r2<=4503599627370496)with
    | false=>
     have KO:Hid (vB n (r1,r2,r3,r4)=false):=VE.out.trans (by rw[h0,h1,h2,h3]<;>rfl)
     clear VE
     go_enter func102,ntmps102
     go_upto_region 1 with fail
     generalize hW:World.alloc w _=W0 at*
     obtain⟨gw,hgw⟩:=aD w.heap.size
     rw[hgw]at R0 ⊢
     clear hgw hW
     have x0:=aA 0 R0.out
     have x1:=aA 1 R0.out
     have x2:=aA 2 R0.out
     have x3:=aA 3 R0.out
     go_wp2
     go_ret
     exact⟨by rw[KO.out];rfl,A0.out⟩
    | true=>
     cases h4:decide (0<=r3)with
     | false=>
      have KO:Hid (vB n (r1,r2,r3,r4)=false):=VE.out.trans (by rw[h0,h1,h2,h3,h4]<;>rfl)
      clear VE
      go_enter func102,ntmps102
      go_upto_region 1 with fail
      generalize hW:World.alloc w _=W0 at*
      obtain⟨gw,hgw⟩:=aD w.heap.size
      rw[hgw]at R0 ⊢
      clear hgw hW
      have x0:=aA 0 R0.out
      have x1:=aA 1 R0.out
      have x2:=aA 2 R0.out
      have x3:=aA 3 R0.out
      go_wp2
      go_ret
      exact⟨by rw[KO.out];rfl,A0.out⟩
     | true=>
      cases h5:decide (r3<=r4)with
      | false=>
       have KO:Hid (vB n (r1,r2,r3,r4)=false):=VE.out.trans (by rw[h0,h1,h2,h3,h4,h5]<;>rfl)
       clear VE
       go_enter func102,ntmps102
       go_upto_region 1 with fail
       generalize hW:World.alloc w _=W0 at*
       obtain⟨gw,hgw⟩:=aD w.heap.size
       rw[hgw]at R0 ⊢
       clear hgw hW
       have x0:=aA 0 R0.out
       have x1:=aA 1 R0.out
       have x2:=aA 2 R0.out
       have x3:=aA 3 R0.out
       go_wp2
       go_ret
       exact⟨by rw[KO.out];rfl,A0.out⟩
      | true=>
       have KO:Hid (vB n (r1,r2,r3,r4)=true):=VE.out.trans (by rw[h0,h1,h2,h3,h4,h5]<;>rfl)
       clear VE
       go_enter func102,ntmps102
       go_upto_region 1 with fail
       generalize hW:World.alloc w _=W0 at*
       obtain⟨gw,hgw⟩:=aD w.heap.size
       rw[hgw]at R0 ⊢
       clear hgw hW
       have x0:=aA 0 R0.out
       have x1:=aA 1 R0.out
       have x2:=aA 2 R0.out
       have x3:=aA 3 R0.out
       go_wp2
       go_ret
       exact⟨by rw[KO.out];rfl,A0.out⟩
def dV(x:Int):Bool:=decide (x<0)||decide (4503599627370496<x)
theorem nN(x:Int)(w:World):Calls prog 76 #[.int .i64 x] w fun e w'=>e=.returned (.bool (dV x))/\w'=w:=by
 cases h1:decide (x<0)with
 | true=>
  have F:Hid (dV x=true):=by show _=_;unfold dV;rw[h1];rfl
  go_enter func76,ntmps76
  go_wp2
  go_ret
  exact⟨by rw[F.out];rfl,rfl⟩
 | false=>
  cases h2:decide (4503599627370496<x)with
  | true=>
   have F:Hid (dV x=true):=by show _=_;unfold dV;rw[h1,h2];rfl
   go_enter func76,ntmps76
   go_wp2
   go_ret
   exact⟨by rw[F.out];rfl,rfl⟩
  | false=>
   have F:Hid (dV x=false):=by show _=_;unfold dV;rw[h1,h2];rfl
   go_enter func76,ntmps76
   go_wp2
   go_ret
   exact⟨by rw[F.out];rfl,rfl⟩
theorem sA{x:Int}:dV x=false ↔ 0<=x/\x<=4503599627370496:=by
 unfold dV
 rw[Bool.or_eq_false_iff,decide_eq_false_iff_not,decide_eq_false_iff_not]
 omega
theorem II(p:Option Addr)(n cp:Nat)(f:Nat->Int)(w:World)(hn:n<=17592186044416)(hf:IsI w p n f)(HA:Hid (∀i,i<n->dV (f i)=false)):
  Calls prog 122 #[.slice p n cp,.func (.func 76) #[] #[]] w fun e w'=>e=.returned (.int .i64 (-1))/\w'=w:=by
 have HF:=hid hf
 have HN:=hid hn
 clear hf hn
 go_enter func122,ntmps122
 go_wp2
 go_loopw [8] (fun iv wr=> ∃c:Nat,c<=n/\iv=.int .i64 (c:Nat)/\wr=w) (fun iv _=>n - (intOf iv).toNat)
 case atStart=>exact⟨0,by omega,rfl,rfl⟩
 case round=>
  obtain⟨c,hc,rfl,hwr⟩:=hrel
  have hwr2:=hwr.symm
  subst hwr2
  by_cases hcn:c<n
  ·have HC:=hid hcn
   have hcI:(c:Int)<n:=by omega
   have hcB:(c:Int)<=17592186044416:=by have:=HN.out;omega
   obtain⟨b0,o0,rfl⟩:=HF.out.some0 (show 0<n by omega)
   obtain⟨x,hx⟩:=aD (f c)
   have at0:=HF.out.at0 hcn
   have hp:=HA.out c hcn
   rw[hx]at at0 hp
   have xc:=at0.2.2
   have CF:=hid (nN x w)
   rw[hp]at CF
   clear at0 hx hcn hc hp
   go_wp2_with fail
   refine CF.out.mono ?_
   rintro e9 v9 ⟨rfl,hv9⟩
   have hv8:=hv9.symm
   subst hv8
   go_wp2
   exact⟨⟨c+1,by have:=HC.out;omega,by simp,by first | trivial | rfl⟩,by have:=HC.out;simp[intOf];omega⟩
  ·have e6:n=c:=by omega
   subst e6
   go_wp2
   go_ret
   exact⟨rfl,by first | trivial | rfl⟩
theorem En(p:Option Addr)(n cp:Nat)(f:Nat->Int)(w:World)(hn:n<=17592186044416)(hf:IsI w p n f)(HA:Hid (¬ ∀i,i<n->dV (f i)=false)):
  Calls prog 122 #[.slice p n cp,.func (.func 76) #[] #[]] w fun e w'=>(∃i:Nat,i<=17592186044416/\e=.returned (.int .i64 (i:Nat)))/\w'=w:=by
 have HF:=hid hf
 have HN:=hid hn
 clear hf hn
 go_enter func122,ntmps122
 go_wp2
 go_loopw [8] (fun iv wr=> ∃c:Nat,c<=n/\iv=.int .i64 (c:Nat)/\(∀i,i<c->dV (f i)=false)/\wr=w) (fun iv _=>n - (intOf iv).toNat)
 case atStart=>exact⟨0,by omega,rfl,fun i hi=>absurd hi (Nat.not_lt_zero i),rfl⟩
 case round=>
  obtain⟨c,hc,rfl,g1,hwr⟩:=hrel
  have hwr2:=hwr.symm
  subst hwr2
  have G1:=hid g1
  clear g1
  by_cases hcn:c<n
  ·have HC:=hid hcn
   have hcI:(c:Int)<n:=by omega
   have hcB:(c:Int)<=17592186044416:=by have:=HN.out;omega
   obtain⟨b0,o0,rfl⟩:=HF.out.some0 (show 0<n by omega)
   obtain⟨x,hx⟩:=aD (f c)
   have at0:=HF.out.at0 hcn
   rw[hx]at at0
   have xc:=at0.2.2
   have CF:=hid (nN x w)
   have XE:=hid hx
   clear at0 hx hcn hc
   cases hp:dV x with
   | true=>
    rw[hp]at CF
    have hp2:=hid hp
    clear hp
    go_wp2_with fail
    refine CF.out.mono ?_
    rintro e9 v9 ⟨rfl,hv9⟩
    have hv8:=hv9.symm
    subst hv8
    go_wp2
    go_ret
    exact⟨⟨c,by have:=HC.out;have:=HN.out;omega,rfl⟩,by first | trivial | rfl⟩
   | false=>
    rw[hp]at CF
    have hp2:=hid hp
    clear hp
    go_wp2_with fail
    refine CF.out.mono ?_
    rintro e9 v9 ⟨rfl,hv9⟩
    have hv8:=hv9.symm
    subst hv8
    go_wp2
    refine⟨⟨c+1,by have:=HC.out;omega,by simp,fun i hi=> ?_,by first | trivial | rfl⟩,by have:=HC.out;simp[intOf];omega⟩
    by_cases l:i<c
    ·exact G1.out i l
    ·obtain rfl:i=c:=by omega
     rw[XE.out]
     exact hp2.out
  ·have e6:n=c:=by omega
   subst e6
   exact absurd G1.out HA.out
theorem qP(p:Option Addr)(n cp:Nat)(f:Nat->Int)(w:World)(hn:n<=17592186044416)(hf:IsI w p n f)(HA: ∀i,i<n->dV (f i)=false):
  Calls prog 65 #[.slice p n cp,.func (.func 76) #[] #[]] w fun e w'=>e=.returned (.bool false)/\w'=w:=by
 have IX:=hid (II p n cp f w hn hf HA)
 clear hn hf HA
 go_enter func65,ntmps65
 go_wp2_with fail
 refine IX.out.mono ?_
 rintro e9 v9 ⟨rfl,hv9⟩
 have hv8:=hv9.symm
 subst hv8
 go_wp2
 go_ret
 exact⟨rfl,rfl⟩
theorem Eo(p:Option Addr)(n cp:Nat)(f:Nat->Int)(w:World)(hn:n<=17592186044416)(hf:IsI w p n f)(HA: ¬ ∀i,i<n->dV (f i)=false):
  Calls prog 65 #[.slice p n cp,.func (.func 76) #[] #[]] w fun e w'=>e=.returned (.bool true)/\w'=w:=by
 have IX:=hid (En p n cp f w hn hf HA)
 clear hn hf HA
 go_enter func65,ntmps65
 go_wp2_with fail
 refine IX.out.mono ?_
 rintro e9 v9 ⟨⟨i,hi,rfl⟩,hv9⟩
 have hv8:=hv9.symm
 subst hv8
 go_wp2
 go_ret
 exact⟨rfl,rfl⟩
theorem falls_at(r1 r2 r3 r4 st:Int)(w:World):Calls prog 82 #[.agg #[.int .i64 r1,.int .i64 r2,.int .i64 r3,.int .i64 r4],.int .i64 st] w fun e w'=>e=.returned (.bool (fallB st (r1,r2,r3,r4)))/\Below w.heap.size w w':=by
 obtain⟨A0,R0⟩:=aR w (.cells #[.int .i64 r1,.int .i64 r2,.int .i64 r3,.int .i64 r4] 72)
 have VE:Hid (fallB st (r1,r2,r3,r4)=(decide (r3<=st)&&decide (st<r4))):=rfl
 cases h0:decide (r3<=st)with
 | false=>
  have KO:Hid (fallB st (r1,r2,r3,r4)=false):=VE.out.trans (by rw[h0]<;>rfl)
  clear VE
  go_enter func82,ntmps82
  go_upto_region 1 with fail
  generalize hW:World.alloc w _=W0 at*
  obtain⟨gw,hgw⟩:=aD w.heap.size
  rw[hgw]at R0 ⊢
  clear hgw hW
  have x2:=aA 2 R0.out
  have x3:=aA 3 R0.out
  go_wp2
  go_ret
  exact⟨by rw[KO.out];rfl,A0.out⟩
 | true=>
  cases h1:decide (st<r4)with
  | false=>
   have KO:Hid (fallB st (r1,r2,r3,r4)=false):=VE.out.trans (by rw[h0,h1]<;>rfl)
   clear VE
   go_enter func82,ntmps82
   go_upto_region 1 with fail
   generalize hW:World.alloc w _=W0 at*
   obtain⟨gw,hgw⟩:=aD w.heap.size
   rw[hgw]at R0 ⊢
   clear hgw hW
   have x2:=aA 2 R0.out
   have x3:=aA 3 R0.out
   go_wp2
   go_ret
   exact⟨by rw[KO.out];rfl,A0.out⟩
  | true=>
   have KO:Hid (fallB st (r1,r2,r3,r4)=true):=VE.out.trans (by rw[h0,h1]<;>rfl)
   clear VE
   go_enter func82,ntmps82
   go_upto_region 1 with fail
   generalize hW:World.alloc w _=W0 at*
   obtain⟨gw,hgw⟩:=aD w.heap.size
   rw[hgw]at R0 ⊢
   clear hgw hW
   have x2:=aA 2 R0.out
   have x3:=aA 3 R0.out
   go_wp2
   go_ret
   exact⟨by rw[KO.out];rfl,A0.out⟩
theorem BX(lw:Nat)(pr:Option Addr)(lr cr:Nat)(R:Nat->Int × Int × Int × Int)(w:World)(hlr:lr<=1024)(IR:Hid (IsRn w pr lr R))(HV:Hid (∀k,k<lr->vB (lw:Nat) (R k)=true)):
  Calls prog 77 #[.int .i64 (lw:Nat),.slice pr lr cr] w fun e w'=>e=.returned (.bool true)/\Below w.heap.size w w':=by
 have h4:decide ((1024:Int)<(lr:Int))=false:=decide_eq_false (by omega)
 have HLR:=hid hlr
 clear hlr
 go_enter func77,ntmps77
 go_wp2
 go_loopw [12] (fun iv wq=> ∃c:Nat,c<=lr/\iv=.int .i64 (c:Nat)/\Ab w wq) (fun iv _=>lr - (intOf iv).toNat)
 case atStart=>exact⟨0,by omega,rfl,Ab.refl w⟩
 case round=>
  obtain⟨c,hc,rfl,ar⟩:=hrel
  have AQ:=hid ar
  clear ar
  by_cases hcn:c<lr
  ·have HC:=hid hcn
   have hcI:(c:Int)<lr:=by omega
   have hcB:(c:Int)<=1024:=by have:=HLR.out;omega
   obtain⟨rb,ro,rfl⟩:=IR.out.some0 (show 0<lr by omega)
   obtain⟨r1,r2,r3,r4,hr⟩: ∃a b c' d,R c=(a,b,c',d):=⟨_,_,_,_,rfl⟩
   have at0:=((IR.out.below AQ.out).at0 hcn)
   rw[hr]at at0
   have y0:=at0.2.2.1
   have y1:=at0.2.2.2.1
   have y2:=at0.2.2.2.2.1
   have y3:=at0.2.2.2.2.2
   have RE:=hid hr
   clear at0 hr hcn hc
   have A1:=kU (bl1 wr (.cells #[.int .i64 r1,.int .i64 r2,.int .i64 r3,.int .i64 r4] 72))
   have CV:=hid (fun v=>rW (lw:Nat) r1 r2 r3 r4 v)
   rw[<- RE.out,HV.out c HC.out]at CV
   go_wp2_with fail
   refine(CV.out _).mono ?_
   rintro e9 v9 ⟨rfl,b9⟩
   have A9:Hid (Ab w v9):=AQ.out.trans (A1.out.trans b9)
   clear b9
   go_wp2
   exact⟨⟨c+1,by have:=HC.out;omega,by simp,A9.out⟩,by have:=HC.out;simp[intOf];omega⟩
  ·have e6:lr=c:=by omega
   subst e6
   go_wp2
   go_ret
   exact⟨rfl,AQ.out⟩
theorem allv_no(lw:Nat)(pr:Option Addr)(lr cr:Nat)(R:Nat->Int × Int × Int × Int)(w:World)(hlr:lr<=1024)(IR:Hid (IsRn w pr lr R))(HB:Hid (¬ ∀k,k<lr->vB (lw:Nat) (R k)=true)):
  Calls prog 77 #[.int .i64 (lw:Nat),.slice pr lr cr] w fun e w'=>e=.returned (.bool false)/\Below w.heap.size w w':=by
 have h4:decide ((1024:Int)<(lr:Int))=false:=decide_eq_false (by omega)
 have HLR:=hid hlr
 clear hlr
 go_enter func77,ntmps77
 go_wp2
 go_loopw [12] (fun iv wq=> ∃c:Nat,c<=lr/\iv=.int .i64 (c:Nat)/\Ab w wq/\(∀k,k<c->vB (lw:Nat) (R k)=true)) (fun iv _=>lr - (intOf iv).toNat)
 case atStart=>exact⟨0,by omega,rfl,Ab.refl w,fun i hi=>absurd hi (Nat.not_lt_zero i)⟩
 case round=>
  obtain⟨c,hc,rfl,ar,g1⟩:=hrel
  have AQ:=hid ar
  clear ar
  have G1:=hid g1
  clear g1
  by_cases hcn:c<lr
  ·have HC:=hid hcn
   have hcI:(c:Int)<lr:=by omega
   have hcB:(c:Int)<=1024:=by have:=HLR.out;omega
   obtain⟨rb,ro,rfl⟩:=IR.out.some0 (show 0<lr by omega)
   obtain⟨r1,r2,r3,r4,hr⟩: ∃a b c' d,R c=(a,b,c',d):=⟨_,_,_,_,rfl⟩
   have at0:=((IR.out.below AQ.out).at0 hcn)
   rw[hr]at at0
   have y0:=at0.2.2.1
   have y1:=at0.2.2.2.1
   have y2:=at0.2.2.2.2.1
   have y3:=at0.2.2.2.2.2
   have RE:=hid hr
   clear at0 hr hcn hc
   have A1:=kU (bl1 wr (.cells #[.int .i64 r1,.int .i64 r2,.int .i64 r3,.int .i64 r4] 72))
   cases vb:vB (lw:Nat) (R c)with
   | false=>
    have CV:=hid (fun v=>rW (lw:Nat) r1 r2 r3 r4 v)
    rw[<- RE.out,vb]at CV
    go_wp2_with fail
    refine(CV.out _).mono ?_
    rintro e9 v9 ⟨rfl,b9⟩
    have A9:Hid (Ab w v9):=AQ.out.trans (A1.out.trans b9)
    clear b9
    go_wp2
    go_ret
    exact⟨rfl,A9.out⟩
   | true=>
    have VB:=hid vb
    have CV:=hid (fun v=>rW (lw:Nat) r1 r2 r3 r4 v)
    rw[<- RE.out,vb]at CV
    clear vb
    go_wp2_with fail
    refine(CV.out _).mono ?_
    rintro e9 v9 ⟨rfl,b9⟩
    have A9:Hid (Ab w v9):=AQ.out.trans (A1.out.trans b9)
    clear b9
    go_wp2
    refine⟨⟨c+1,by have:=HC.out;omega,by simp,A9.out,fun k hk=> ?_⟩,by have:=HC.out;simp[intOf];omega⟩
    by_cases l:k<c
    ·exact G1.out k l
    ·obtain rfl:k=c:=by omega
     exact VB.out
  ·have e6:lr=c:=by omega
   subst e6
   exact absurd G1.out HB.out
theorem IJ(lw:Nat)(pr:Option Addr)(lr cr:Nat)(w:World)(h4:decide ((1024:Int)<(lr:Int))=true):
  Calls prog 77 #[.int .i64 (lw:Nat),.slice pr lr cr] w fun e w'=>e=.returned (.bool false)/\Below w.heap.size w w':=by
 go_enter func77,ntmps77
 go_wp2
 go_ret
 exact⟨rfl,Below.refl _ _⟩
end Rn
end
end Go.Proofs.YtaphajlpbgcfjaaGreatDoor
