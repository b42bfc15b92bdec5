/-
  Some of the texts of this proof, one behind the other.
-/
import Derived.Deep.AppendSrc
import Derived.Deep.QuietTactic
import Derived.Test.YtjheiemgfibgpaaDoorUf09
set_option maxRecDepth 100000
set_option maxHeartbeats 400000000
namespace Go.Proofs.YtjheiemgfibgpaaDoor
open _root_.Go.Proofs.Tryd
section
open Go.RowKit Tf Cu Go.Deep
namespace Spl
def mrk(i:Nat):Value:=.int .i64 (1000+(i:Int))
structure Ls (B T:Nat) (b o L c:Nat->Nat) (w:World):Prop where
 le: ∀i,i<T->L i<=c i/\L i<=12288/\c i<=maxLen
 blk: ∀i,i<T->0<c i->B<=b i/\b i<w.heap.size
 there: ∀i k,i<T->k<c i->(w.cell? ⟨b i,o i+k,none⟩).isSome=true/\w.frozen? ⟨b i,o i+k,none⟩=false
 apart: ∀i j x y,i<T->j<T->i≠j->x<c i->y<c j->b i=b j->o i+x≠o j+y
def Fld(T:Nat)(b o f:Nat->Nat)(w:World):Prop:= ∀i k,i<T->k<f i->w.cell? ⟨b i,o i+k,none⟩=some (mrk i)
def bQ(L:Nat->Nat)(i m:Nat)(j:Nat):Nat:=if j<i then L j else if j=i then m else 0
theorem Ls.to{B T:Nat}{b o L c:Nat->Nat}{w w':World}(h:Ls B T b o L c w)(a:Ab w w'):Ls B T b o L c w':=by
 refine⟨h.le,fun i hi hc=>⟨(h.blk i hi hc).1,Nat.lt_of_lt_of_le (h.blk i hi hc).2 (Below.size a)⟩,fun i k hi hk=> ?_,h.apart⟩
 have e:=a.block (b i) (h.blk i hi (by omega)).2
 rw[World.cell?_of_block (a:=⟨b i,o i+k,none⟩) e,World.frozen?_of_block (a:=⟨b i,o i+k,none⟩) e]
 exact h.there i k hi hk
theorem Fld.to{T:Nat}{b o f:Nat->Nat}{w w':World}(h:Fld T b o f w)(a:Ab w w'):Fld T b o f w':=fun i k hi hk=>by
 have q:=h i k hi hk
 exact(World.cell?_of_block (a:=⟨b i,o i+k,none⟩) (a.block (b i) (World.block_lt_of_cell? _ _ q))).trans q
theorem Ls.set{B T:Nat}{b o L c:Nat->Nat}{w:World}(h:Ls B T b o L c w)(g k:Nat)(v:Value):Ls B T b o L c (w.setCell ⟨g,k,none⟩ v):=by
 refine⟨h.le,fun i hi hc=>⟨(h.blk i hi hc).1,by simpa [World.setCell]using(h.blk i hi hc).2⟩,fun i k' hi hk=> ?_,h.apart⟩
 obtain⟨h1,h2⟩:=h.there i k' hi hk
 refine⟨?_,by rw[World.frozen?_setCell];exact h2⟩
 by_cases e:(⟨g,k,none⟩:Addr)=⟨b i,o i+k',none⟩
 ·rw[e,World.cell?_setCell_same' _ _ _ h1]
  rfl
 ·rw[World.cell?_setCell_other _ _ _ _ e]
  exact h1
theorem Fld.set{B T:Nat}{b o L c f f2:Nat->Nat}{w:World}(h:Ls B T b o L c w)(hf:Fld T b o f w){i m:Nat}(hi:i<T)(hm:f i=m)(hk:m<c i)(hc: ∀j,j<T->f j<=c j)(h1: ∀j,j≠i->f2 j<=f j)(h2:f2 i<=m+1):Fld T b o f2 (w.setCell ⟨b i,o i+m,none⟩ (mrk i)):=fun j k hj hkj=>by
 have th:=(h.there i m hi hk).1
 by_cases e:j=i
 ·subst e
  by_cases e2:k=m
  ·subst e2
   exact World.cell?_setCell_same' _ _ _ th
  ·rw[World.cell?_setCell_other _ _ _ _ (by intro q;injection q;omega)]
   exact hf j k hj (by omega)
 ·have hk2:k<f j:=Nat.lt_of_lt_of_le hkj (h1 j e)
  rw[World.cell?_setCell_other _ _ _ _ (by
   intro q
   injection q with q1 q2 q3
   exact h.apart i j m k hi hj (fun q=>e q.symm) hk (Nat.lt_of_lt_of_le hk2 (hc j hj)) q1 q2)]
  exact hf j k hj hk2
structure Kp (W w:World) (g lo hi:Nat):Prop where
 os:w.os=W.os
 tape:w.tape=W.tape
 output:w.output=W.output
 size:W.heap.size<=w.heap.size
 block: ∀k,k<W.heap.size->k≠g->w.heap[k]? =W.heap[k]?
 cell:g<W.heap.size-> ∀x,¬(lo<=x/\x<hi)->w.cell? ⟨g,x,none⟩=W.cell? ⟨g,x,none⟩
 froz:g<W.heap.size-> ∀x,w.frozen? ⟨g,x,none⟩=W.frozen? ⟨g,x,none⟩
 some:g<W.heap.size-> ∀x,(W.cell? ⟨g,x,none⟩).isSome=true->(w.cell? ⟨g,x,none⟩).isSome=true
 same:hi<=lo->g<W.heap.size->w.heap[g]? =W.heap[g]?
theorem Kp.refl(W:World)(g lo hi:Nat):Kp W W g lo hi:=⟨rfl,rfl,rfl,Nat.le_refl _,fun _ _ _=>rfl,fun _ _ _=>rfl,fun _ _=>rfl,fun _ _ h=>h,fun _ _=>rfl⟩
theorem Kp.to{W w w':World}{g lo hi:Nat}(h:Kp W w g lo hi)(a:Ab w w'):Kp W w' g lo hi:=by
 have q:g<W.heap.size->w'.heap[g]? =w.heap[g]? :=fun hg=>a.block g (Nat.lt_of_lt_of_le hg h.size)
 refine⟨a.os.trans h.os,a.tape.trans h.tape,a.output.trans h.output,Nat.le_trans h.size (Below.size a),fun k hk hn=>(a.block k (Nat.lt_of_lt_of_le hk h.size)).trans (h.block k hk hn),fun hg x hx=> ?_,fun hg x=> ?_,fun hg x hs=> ?_,fun he hg=>(q hg).trans (h.same he hg)⟩
 ·rw[World.cell?_of_block (a:=⟨g,x,none⟩) (q hg)];exact h.cell hg x hx
 ·rw[World.frozen?_of_block (a:=⟨g,x,none⟩) (q hg)];exact h.froz hg x
 ·rw[World.cell?_of_block (a:=⟨g,x,none⟩) (q hg)];exact h.some hg x hs
theorem Kp.set{W w:World}{g lo hi:Nat}(h:Kp W w g lo hi){b k:Nat}(hb:W.heap.size<=b\/(b=g/\lo<=k/\k<hi))(v:Value):Kp W (w.setCell ⟨b,k,none⟩ v) g lo hi:=by
 refine⟨h.os,h.tape,h.output,by simpa [World.setCell]using h.size,fun i hi2 hn=> ?_,fun hg x hx=> ?_,fun hg x=> ?_,fun hg x hs=> ?_,fun he hg=>(aH (fun e=>by rcases hb with hb | hb<;>omega)).trans (h.same he hg)⟩
 ·refine(aH (fun e=> ?_)).trans (h.block i hi2 hn)
  rcases hb with hb | hb
  ·omega
  ·exact hn (e.trans hb.1)
 ·rw[World.cell?_setCell_other _ _ _ _ (by
   intro q
   injection q with q1 q2 q3
   rcases hb with hb | hb
   ·omega
   ·exact hx (by omega))]
  exact h.cell hg x hx
 ·rw[World.frozen?_setCell]
  exact h.froz hg x
 ·have:=h.some hg x hs
  by_cases e:(⟨b,k,none⟩:Addr)=⟨g,x,none⟩
  ·rw[e,World.cell?_setCell_same' _ _ _ this]
   rfl
  ·rw[World.cell?_setCell_other _ _ _ _ e]
   exact this
def Cur(W:World)(i b o L c:Nat)(p:Option Addr)(k:Nat)(v:Value)(w:World):Prop:=
 ∃a cp,v=.slice a (L+k) cp/\L+k<=cp/\cp<=maxLen/\
  ((a=p/\cp=c/\ ∀j,L<=j->j<L+k->w.cell? ⟨b,o+j,none⟩=some (mrk i))\/
   ∃q,a=some ⟨q,0,none⟩/\W.heap.size<=q/\q<w.heap.size/\(∀j,j<L+k->w.cell? ⟨q,j,none⟩=some (mrk i))/\ ∀j,j<cp->(w.cell? ⟨q,j,none⟩).isSome=true/\w.frozen? ⟨q,j,none⟩=false)
theorem Cur.start{W:World}{i b o L c:Nat}{p:Option Addr}(hc:L<=c/\c<=maxLen):Cur W i b o L c p 0 (.slice p L c) W:=⟨p,c,rfl,hc.1,hc.2,.inl ⟨rfl,rfl,fun j h1 h2=>by omega⟩⟩
theorem Cur.to{W w w':World}{i b o L c:Nat}{p:Option Addr}{k:Nat}{v:Value}(h:Cur W i b o L c p k v w)(a:Ab w w'):Cur W i b o L c p k v w':=by
 obtain⟨x,cp,e,h1,h2,h3⟩:=h
 refine⟨x,cp,e,h1,h2,?_⟩
 rcases h3 with⟨q1,q2,q3⟩ | ⟨q,q1,q2,q3,q4,q5⟩
 ·refine .inl ⟨q1,q2,fun j l1 l2=> ?_⟩
  have f:=q3 j l1 l2
  exact(World.cell?_of_block (a:=⟨b,o+j,none⟩) (a.block b (World.block_lt_of_cell? _ _ f))).trans f
 ·have e:=a.block q q3
  refine .inr ⟨q,q1,q2,Nat.lt_of_lt_of_le q3 (Below.size a),fun j hj=> ?_,fun j hj=> ?_⟩
  ·rw[World.cell?_of_block (a:=⟨q,j,none⟩) e];exact q4 j hj
  ·rw[World.cell?_of_block (a:=⟨q,j,none⟩) e,World.frozen?_of_block (a:=⟨q,j,none⟩) e];exact q5 j hj
theorem kV{n j:Nat}{x u:Value}(h:(List.replicate n x)[j]? =some u):j<n/\u=x:=by
 have h1:=(List.getElem?_eq_some_iff.1 h).1
 rw[List.length_replicate]at h1
 rw[List.getElem?_replicate,if_pos h1]at h
 injection h with h
 exact⟨h1,h.symm⟩
theorem run_cur{W w:World}{i b o L c:Nat}{p:Option Addr}{k:Nat}{v:Value}(h:Cur W i b o L c p k v w)(kp:Kp W w b (o+L) (o+c))(hp:0<c->p=some ⟨b,o,none⟩/\b<W.heap.size)(hf: ∀j,j<L->W.cell? ⟨b,o+j,none⟩=some (mrk i))(hs: ∀j,j<c->(W.cell? ⟨b,o+j,none⟩).isSome=true/\W.frozen? ⟨b,o+j,none⟩=false)(hl:L+k+1<=1048576)
  (ty:TypeId) (x:Value) (hx:Src prog 1 32 x 1 [mrk i] w):
  ∃v' w',(Builtin.append_ #[32,32] ty #[v,x]).run prog w=.ok v' w'/\Cur W i b o L c p (k+1) v' w'/\Kp W w' b (o+L) (o+c):=by
 obtain⟨i0,hi,hz0,hz1,hz2⟩:=info_n
 obtain⟨a,cp,rfl,l1,l2,h3⟩:=h
 have hx':Src prog i0.size 32 x 1 [mrk i] w:=by rw[hz1];exact hx
 have grow:cp<L+k+1->(Builtin.firstCells i0.size (L+k) (.slice a (L+k) cp)).run prog w.drew=.ok (List.replicate (L+k) (mrk i)).toArray w.drew-> ∃v' w',(Builtin.append_ #[32,32] ty #[.slice a (L+k) cp,x]).run prog w=.ok v' w'/\Cur W i b o L c p (k+1) v' w'/\Kp W w' b (o+L) (o+c):=by
  intro hg hold
  have hrun:=run_append_grow_src (P:=prog) w 32 32 ty 3 i0 (.int .i64 0) underlying32 hi hz0 a (L+k) cp (List.replicate (L+k) (mrk i)) hold x 1 [mrk i] hx' hg (by omega) (growslice_fits hg (by rw[hz2];omega))
  have ge:=grownCap_ge w (L+k+1) cp 3
  have gm:=grownCap_le_maxLen w (L+k+1) cp 3 (by unfold maxLen;omega)
  have sz:(List.replicate (L+k) (mrk i)++[mrk i]).length=L+k+1:=by simp
  generalize grownCap w (L+k+1) cp 3=G at*
  have A:Ab w (w.drew.alloc (.cells ((List.replicate (L+k) (mrk i)++[mrk i]).toArray++Builtin.zeroCells (Value.int .i64 0).cells (G - (L+k+1))) 3)):=(Ab.refl w).drew.trans (bl1 _ _)
  refine⟨_,_,hrun,⟨_,G,rfl,ge,gm,.inr ⟨w.heap.size,rfl,kp.size,by rw[cY];show w.heap.size<w.heap.size+1;omega,fun j hj=> ?_,fun j hj=>⟨?_,World.frozen?_alloc_new w.drew _ _ j⟩⟩⟩,kp.to A⟩
  ·have e1:(w.drew.alloc (.cells ((List.replicate (L+k) (mrk i)++[mrk i]).toArray++Builtin.zeroCells (Value.int .i64 0).cells (G - (L+k+1))) 3)).cell? ⟨w.heap.size,j,none⟩=_:=World.cell?_alloc_new w.drew _ _ j
   rw[e1,Array.getElem?_append_left (by rw[List.size_toArray,sz];omega),List.getElem?_toArray,<- List.replicate_succ',List.getElem?_replicate,if_pos (by omega)]
  ·have e1:(w.drew.alloc (.cells ((List.replicate (L+k) (mrk i)++[mrk i]).toArray++Builtin.zeroCells (Value.int .i64 0).cells (G - (L+k+1))) 3)).cell? ⟨w.heap.size,j,none⟩=_:=World.cell?_alloc_new w.drew _ _ j
   have hsz:((List.replicate (L+k) (mrk i)++[mrk i]).toArray++Builtin.zeroCells (Value.int .i64 0).cells (G - (L+k+1))).size=G:=by
    rw[Array.size_append,List.size_toArray,sz,size_zeroCells]
    have:(Value.int .i64 0).cells.size=1:=rfl
    rw[this]
    omega
   rw[e1,Array.getElem?_eq_getElem (by rw[hsz];exact hj)]
   rfl
 rcases h3 with⟨q1,q2,q3⟩ | ⟨q,q1,q2,q3,q4,q5⟩
 ·subst q2
  by_cases hc:L+k+1<=cp
  ·obtain⟨e,hb⟩:=hp (by omega)
   have ea:a=some ⟨b,o,none⟩:=q1.trans e
   clear q1
   subst ea
   have c0:(w.cell? ⟨b,o+(L+k),none⟩).isSome=true:=kp.some hb _ (hs (L+k) (by omega)).1
   have c1:w.frozen? ⟨b,o+(L+k),none⟩=false:=by rw[kp.froz hb];exact(hs (L+k) (by omega)).2
   have hr:=run_append_room_src (P:=prog) w 32 32 ty 3 i0 underlying32 hi b o (L+k) cp x 1 [mrk i] hx' hc (fun j hj=>by
    have:j=0:=by simpa using hj
    subst this
    rw[hz1,Nat.mul_one]
    exact c0) (fun j hj=>by
    have:j=0:=by simpa using hj
    subst this
    rw[hz1,Nat.mul_one]
    exact c1)
   rw[hz1,Nat.mul_one]at hr
   refine⟨_,_,hr,⟨_,cp,rfl,hc,l2,.inl ⟨e.symm,rfl,fun j j1 j2=> ?_⟩⟩,kp.set (.inr ⟨rfl,by omega,by omega⟩) _⟩
   show(w.setCell ⟨b,o+(L+k),none⟩ (mrk i)).cell? ⟨b,o+j,none⟩=_
   by_cases ej:j=L+k
   ·subst ej
    exact World.cell?_setCell_same' _ _ _ c0
   ·rw[World.cell?_setCell_other _ _ _ _ (by intro q;injection q;omega)]
    exact q3 j j1 (by omega)
  ·refine grow (by omega) ?_
   subst q1
   rcases Nat.eq_zero_or_pos cp with h0 | h0
   ·subst h0
    have e0:L+k=0:=by omega
    rw[e0]
    cases a with
    | none=>exact run_firstCells_none w.drew _ 0 0 0
    | some a'=>exact run_firstCells_some w.drew _ 0 a' 0 0 [] (by simp) (by intro _ _ h';simp at h')
   ·obtain⟨e,hb⟩:=hp h0
    rw[e]
    refine run_firstCells_some w.drew _ (L+k) ⟨b,o,none⟩ (L+k) cp _ (by rw[hz1];simp) (fun j u hu=> ?_)
    rw[Addr.add_lit]
    obtain⟨hj,rfl⟩:=kV hu
    ·by_cases hL:j<L
     ·show w.cell? ⟨b,o+j,none⟩=_
      rw[kp.cell hb _ (by omega)]
      exact hf j hL
     ·exact q3 j (by omega) hj
 ·subst q1
  by_cases hc:L+k+1<=cp
  ·have c0:(w.cell? ⟨q,0+(L+k),none⟩).isSome=true:=by rw[Nat.zero_add];exact(q5 (L+k) (by omega)).1
   have c1:w.frozen? ⟨q,0+(L+k),none⟩=false:=by rw[Nat.zero_add];exact(q5 (L+k) (by omega)).2
   have hr:=run_append_room_src (P:=prog) w 32 32 ty 3 i0 underlying32 hi q 0 (L+k) cp x 1 [mrk i] hx' hc (fun j hj=>by
    have:j=0:=by simpa using hj
    subst this
    rw[hz1,Nat.mul_one]
    exact c0) (fun j hj=>by
    have:j=0:=by simpa using hj
    subst this
    rw[hz1,Nat.mul_one]
    exact c1)
   rw[hz1,Nat.mul_one]at hr
   refine⟨_,_,hr,⟨_,cp,rfl,hc,l2,.inr ⟨q,rfl,q2,?_,fun j hj=> ?_,fun j hj=> ?_⟩⟩,kp.set (.inl q2) _⟩
   ·show q<(w.setCell ⟨q,0+(L+k),none⟩ (mrk i)).heap.size
    simpa [World.setCell]using q3
   ·show(w.setCell ⟨q,0+(L+k),none⟩ (mrk i)).cell? ⟨q,j,none⟩=_
    by_cases ej:j=L+k
    ·have e:(⟨q,j,none⟩:Addr)=⟨q,0+(L+k),none⟩:=by rw[ej,Nat.zero_add]
     rw[e]
     exact World.cell?_setCell_same' _ _ _ c0
    ·rw[World.cell?_setCell_other _ _ _ _ (by intro q;injection q;omega)]
     exact q4 j (by omega)
   ·show((w.setCell ⟨q,0+(L+k),none⟩ (mrk i)).cell? ⟨q,j,none⟩).isSome=true/\(w.setCell ⟨q,0+(L+k),none⟩ (mrk i)).frozen? ⟨q,j,none⟩=false
    rw[World.frozen?_setCell]
    refine⟨?_,(q5 j hj).2⟩
    by_cases ej:j=L+k
    ·have e:(⟨q,j,none⟩:Addr)=⟨q,0+(L+k),none⟩:=by rw[ej,Nat.zero_add]
     rw[e,World.cell?_setCell_same' _ _ _ c0]
     rfl
    ·rw[World.cell?_setCell_other _ _ _ _ (by intro q;injection q;omega)]
     exact(q5 j hj).1
  ·refine grow (by omega) ?_
   refine run_firstCells_some w.drew _ (L+k) ⟨q,0,none⟩ (L+k) cp _ (by rw[hz1];simp) (fun j u hu=> ?_)
   rw[Addr.add_lit]
   obtain⟨hj,rfl⟩:=kV hu
   ·show w.cell? ⟨q,0+j,none⟩=_
    rw[Nat.zero_add]
    exact q4 j hj
theorem qP{ops:Array Oper}{rest:List Oper}{or:Oper}{ac:Act}{w:World}{Q:Exit->Act->World->Prop}(hgd:or.guard=none)(s y:Operand)
  (ho:or.op=.call {callee:=.builtin .append,args:= #[s,y],argTypes:= #[32,32]})
  {W:World} {i b o L c:Nat} {p:Option Addr} {k:Nat} {v x:Value} (hsv:ac.eval s=v) (hyx:ac.eval y=x) (h:Cur W i b o L c p k v w) (kp:Kp W w b (o+L) (o+c)) (hp:0<c->p=some ⟨b,o,none⟩/\b<W.heap.size) (hf: ∀j,j<L->W.cell? ⟨b,o+j,none⟩=some (mrk i)) (hs: ∀j,j<c->(W.cell? ⟨b,o+j,none⟩).isSome=true/\W.frozen? ⟨b,o+j,none⟩=false) (hl:L+k+1<=1048576)
  (hx:Src prog 1 32 x 1 [mrk i] w)
  (hK: ∀v' w',Cur W i b o L c p (k+1) v' w'->Kp W w' b (o+L) (o+c)->wpList prog ops Q rest (ac.put or.dst v') w'):wpList prog ops Q (or :: rest) ac w:=by
 refine wpList_plain hgd fun K hK'=> ?_
 obtain⟨v',w',hrun,r1,r2⟩:=run_cur h kp hp hf hs hl or.type x hx
 unfold Oper.wp
 simp[execOp,ho,resolve,invoke,builtin,hsv,hyx,hrun,Result.andThen]
 exact hK' _ _ (hK v' w' r1 r2)
def Gr(N0:Nat)(b o L c:Nat->Nat)(m:Nat)(G:Nat->Value)(w:World):Prop:=
 ∀i,i<m-> ∃q r cp,G i=.slice (some ⟨q,r,none⟩) (L i+16) cp/\(∀j,j<L i+16->w.cell? ⟨q,r+j,none⟩=some (mrk i))/\((q=b i/\r=o i/\L i+16<=c i)\/(N0<=q/\q<w.heap.size))
theorem Gr.to{N0:Nat}{b o L c:Nat->Nat}{m:Nat}{G:Nat->Value}{w w':World}(h:Gr N0 b o L c m G w)(a:Ab w w'):Gr N0 b o L c m G w':=fun i hi=>by
 obtain⟨q,r,cp,h1,h2,h3⟩:=h i hi
 have lt:q<w.heap.size:=World.block_lt_of_cell? _ _ (h2 0 (by omega))
 refine⟨q,r,cp,h1,fun j hj=>(World.cell?_of_block (a:=⟨q,r+j,none⟩) (a.block q lt)).trans (h2 j hj),?_⟩
 rcases h3 with h3 | h3
 ·exact .inl h3
 ·exact .inr ⟨h3.1,Nat.lt_of_lt_of_le h3.2 (Below.size a)⟩
theorem Gr.step{N0 B T:Nat}{b o L c:Nat->Nat}{p:Nat->Option Addr}{m:Nat}{G:Nat->Value}{W w:World}{v:Value}(l:Ls B T b o L c W)(f:Fld T b o L W)(g:Gr N0 b o L c m G W)(hm:m<T)(hN: ∀i,i<T->0<c i->b i<N0)(hNW:N0<=W.heap.size)(hp:0<c m->p m=some ⟨b m,o m,none⟩)
  (cu:Cur W m (b m) (o m) (L m) (c m) (p m) 16 v w) (kp:Kp W w (b m) (o m+L m) (o m+c m)):
  Ls B T b o L c w/\Fld T b o L w/\Gr N0 b o L c (m+1) (fun i=>if i=m then v else G i) w:=by
 have keep: ∀(q x:Nat),q<W.heap.size->(q=b m-> ¬(o m+L m<=x/\x<o m+c m))->w.cell? ⟨q,x,none⟩=W.cell? ⟨q,x,none⟩:=fun q x hq hx=>by
  by_cases e:q=b m
  ·subst e
   exact kp.cell hq x (hx rfl)
  ·exact World.cell?_of_block (a:=⟨q,x,none⟩) (kp.block q hq e)
 have froz: ∀(q x:Nat),q<W.heap.size->w.frozen? ⟨q,x,none⟩=W.frozen? ⟨q,x,none⟩:=fun q x hq=>by
  by_cases e:q=b m
  ·subst e
   exact kp.froz hq x
  ·exact World.frozen?_of_block (a:=⟨q,x,none⟩) (kp.block q hq e)
 have far: ∀i k,i<T->i≠m->k<c i->b i=b m-> ¬(o m+L m<=o i+k/\o i+k<o m+c m):=fun i k hi hn hk e q=>by
  exact l.apart i m k (o i+k - o m) hi hm hn hk (by omega) e (by omega)
 refine⟨⟨l.le,fun i hi hc=>⟨(l.blk i hi hc).1,Nat.lt_of_lt_of_le (l.blk i hi hc).2 kp.size⟩,fun i k hi hk=> ?_,l.apart⟩,fun i k hi hk=> ?_,fun i hi=> ?_⟩
 ·have lt:=(l.blk i hi (by omega)).2
  obtain⟨t1,t2⟩:=l.there i k hi hk
  refine⟨?_,by rw[froz _ _ lt];exact t2⟩
  by_cases e:i=m
  ·subst e
   exact kp.some lt _ t1
  ·rw[keep _ _ lt (fun q=>far i k hi e hk q)]
   exact t1
 ·have le:=(l.le i hi).1
  have lt:=(l.blk i hi (by omega)).2
  rw[keep _ _ lt (fun q=>by
   by_cases e:i=m
   ·subst e
    omega
   ·exact far i k hi e (by omega) q)]
  exact f i k hi hk
 ·dsimp only
  by_cases e:i=m
  ·rw[if_pos e]
   subst e
   obtain⟨a,cp,rfl,l1,l2,h3⟩:=cu
   rcases h3 with⟨q1,q2,q3⟩ | ⟨q,q1,q2,q3,q4,q5⟩
   ·subst q2
    have e:=hp (by omega)
    have lt:=(l.blk i hm (by omega)).2
    refine⟨b i,o i,c i,by rw[q1,e],fun j hj=> ?_,.inl ⟨rfl,rfl,l1⟩⟩
    by_cases hL:j<L i
    ·rw[keep _ _ lt (fun _=>by omega)]
     exact f i j hm hL
    ·exact q3 j (by omega) hj
   ·refine⟨q,0,cp,by rw[q1],fun j hj=> ?_,.inr ⟨by omega,q3⟩⟩
    rw[Nat.zero_add]
    exact q4 j hj
  ·rw[if_neg e]
   have hi2:i<m:=by omega
   obtain⟨q,r,cp,h1,h2,h3⟩:=g i hi2
   have lt:q<W.heap.size:=World.block_lt_of_cell? _ _ (h2 0 (by omega))
   refine⟨q,r,cp,h1,fun j hj=> ?_,?_⟩
   ·rw[keep _ _ lt (fun qb=> ?_)]
    ·exact h2 j hj
    ·rcases h3 with⟨z1,z2,z3⟩ | z
     ·have:=far i j (by omega) e (by omega) (by omega)
      rw[z2]
      exact this
     ·intro q'
      have:=hN m hm (by omega)
      omega
   ·rcases h3 with h3 | h3
    ·exact .inl h3
    ·exact .inr ⟨h3.1,Nat.lt_of_lt_of_le h3.2 kp.size⟩
theorem AbQ.chain{V v w:World}{P:Nat->Prop}(a:AbQ V P v)(b:AbQ v P w):AbQ V P w:=by
 obtain⟨h1,h2,h3,h4,h5⟩:=a
 obtain⟨q1,q2,q3,q4,q5⟩:=b
 exact⟨q1.trans h1,q2.trans h2,q3.trans h3,Nat.le_trans h4 q4,fun k hk hp=>(q5 k (Nat.lt_of_lt_of_le hk h4) hp).trans (h5 k hk hp)⟩
theorem AbQ.kp{V W w:World}{P:Nat->Prop}{g o L c:Nat}(a:AbQ V P W)(k:Kp W w g (o+L) (o+c))(hp:0<c->P g):AbQ V P w:=by
 obtain⟨h1,h2,h3,h4,h5⟩:=a
 refine⟨k.os.trans h1,k.tape.trans h2,k.output.trans h3,Nat.le_trans h4 k.size,fun i hi hn=> ?_⟩
 have lt:=Nat.lt_of_lt_of_le hi h4
 by_cases e:i=g
 ·subst e
  refine(k.same ?_ lt).trans (h5 i hi hn)
  by_cases hc:0<c
  ·exact absurd (hp hc) hn
  ·omega
 ·exact(k.block i lt e).trans (h5 i hi hn)
theorem Kp.far{W w:World}{g o L c N0 i:Nat}(k:Kp W w g (o+L) (o+c))(hg:0<c->g<N0)(hi:N0<=i)(hl:i<W.heap.size):w.heap[i]? =W.heap[i]? :=by
 by_cases e:i=g
 ·subst e
  refine k.same ?_ hl
  by_cases hc:0<c
  ·have:=hg hc
   omega
  ·omega
 ·exact k.block i hl e
theorem Cur.own{W w:World}{i b o L c:Nat}{p:Option Addr}{v:Value}(h:Cur W i b o L c p 16 v w)(hp:0<c->p=some ⟨b,o,none⟩){k:Nat}(hk:v.ownBlock=some k):(k=b/\0<c)\/W.heap.size<=k:=by
 obtain⟨a,cp,rfl,l1,l2,h3⟩:=h
 rcases h3 with⟨q1,q2,q3⟩ | ⟨q,q1,q2,q3,q4,q5⟩
 ·have hc:0<c:=by omega
  rw[q1,hp hc]at hk
  injection hk with hk
  exact .inl ⟨hk.symm,hc⟩
 ·rw[q1]at hk
  injection hk with hk
  have hk:q=k:=hk
  exact .inr (by omega)
theorem gr_grown{N0 B T m:Nat}{b o L c:Nat->Nat}{G:Nat->Value}{w w':World}{row:Option Nat}(ls:Ls B T b o L c w)(fl:Fld T b o L w)(gr:Gr N0 b o L c m G w)(hN: ∀i,i<T->0<c i->b i<N0)(x:w.grownBy w' row)(hr: ∀k,row=some k->N0<=k)(ng: ∀j,j<m-> ∀k,(G j).ownBlock=some k->row≠some k):Ls B T b o L c w'/\Fld T b o L w'/\Gr N0 b o L c m G w':=by
 have old: ∀i,i<T->0<c i->w'.heap[b i]? =w.heap[b i]? :=fun i hi hc=>x.block _ (ls.blk i hi hc).2 (fun e=>by
  have h1:=hr _ e.symm
  have h2:=hN i hi hc
  omega)
 refine⟨⟨ls.le,fun i hi hc=>⟨(ls.blk i hi hc).1,Nat.lt_of_lt_of_le (ls.blk i hi hc).2 x.size⟩,fun i k hi hk=> ?_,ls.apart⟩,fun i k hi hk=> ?_,fun i hi=> ?_⟩
 ·have e:=old i hi (by omega)
  rw[World.cell?_of_block (a:=⟨b i,o i+k,none⟩) e,World.frozen?_of_block (a:=⟨b i,o i+k,none⟩) e]
  exact ls.there i k hi hk
 ·have:=(ls.le i hi).1
  exact(World.cell?_of_block (a:=⟨b i,o i+k,none⟩) (old i hi (by omega))).trans (fl i k hi hk)
 ·obtain⟨q,r,cp,h1,h2,h3⟩:=gr i hi
  have lt:q<w.heap.size:=World.block_lt_of_cell? _ _ (h2 0 (by omega))
  have e:=x.block q lt (fun e=>ng i hi q (by rw[h1];rfl) e.symm)
  refine⟨q,r,cp,h1,fun j hj=>(World.cell?_of_block (a:=⟨q,r+j,none⟩) e).trans (h2 j hj),?_⟩
  rcases h3 with h3 | h3
  ·exact .inl h3
  ·exact .inr ⟨h3.1,Nat.lt_of_lt_of_le h3.2 x.size⟩
theorem Gr.own{N0 m:Nat}{b o L c:Nat->Nat}{G:Nat->Value}{w:World}(gr:Gr N0 b o L c m G w){j k:Nat}(hj:j<m)(hk:(G j).ownBlock=some k):k<w.heap.size:=by
 obtain⟨q,r,cp,h1,h2,h3⟩:=gr j hj
 rw[h1]at hk
 injection hk with hk
 have hk:q=k:=hk
 have:=World.block_lt_of_cell? _ _ (h2 0 (by omega))
 exact hk ▸ this
end Spl
end
section
open Go.RowKit Tf Cu Go.Deep
attribute [local go_sem] aK aL aM aN aO aP aR aE
namespace Spl
theorem row_far{v:World}{b g k n:Nat}{t:TypeId}{f:Nat->Value}{x:Value}(h:v.rowIs b t n f)(hb:b≠g):(v.setCell ⟨g,k,none⟩ x).rowIs b t n f:=h.of_block (aH hb)
theorem fH{w:World}{b g j k:Nat}{x:Value}(h:b≠g):(w.setCell ⟨g,k,none⟩ x).cell? ⟨b,j,none⟩=w.cell? ⟨b,j,none⟩:=World.cell?_of_block (aH h)
theorem AbQ.cell{V w:World}{P:Nat->Prop}{b k:Nat}(a:AbQ V P w)(hb:b<V.heap.size)(hp: ¬P b):w.cell? ⟨b,k,none⟩=V.cell? ⟨b,k,none⟩:=World.cell?_of_block (a.2.2.2.2 b hb hp)
end Spl
end
section
open Go.RowKit Tf Cu Go.Deep
namespace Spl
def OwnV(B:Nat)(v:Value)(K:Nat)(X:Nat->Value)(w:World):Prop:=w.ownsRow B 32 1 v K ((List.range K).map X)
theorem OwnV.to{B:Nat}{v:Value}{K:Nat}{X:Nat->Value}{w w':World}(h:OwnV B v K X w)(hb:Ab w w'):OwnV B v K X w':=by
 refine⟨h.1,?_⟩
 rcases h.2 with h0 | ⟨g,cap,cur,e,hb',hg,h1,h2,h3,h4⟩
 ·exact .inl h0
 ·exact .inr ⟨g,cap,cur,e,hb',hb.heap hg,h1,h2,h3,h4⟩
theorem OwnV.at{B:Nat}{v:Value}{K:Nat}{X:Nat->Value}{w:World}(h:OwnV B v K X w)(h0:0<K): ∃g cap,v=.slice (some ⟨g,0,none⟩) K cap/\B<=g/\g<w.heap.size/\ ∀i,i<K->w.cell? ⟨g,i,none⟩=some (X i):=by
 obtain⟨g,cap,F,e,hb,hc,r,hf⟩:=dS h h0
 refine⟨g,cap,e,hb,r.lt,fun i hi=> ?_⟩
 rw[r.cell (by omega),hf i hi]
theorem OwnV.nil{B:Nat}{v:Value}{X:Nat->Value}{w:World}(h:OwnV B v 0 X w): ∃p cap,v=.slice p 0 cap:=by
 rcases h.2 with⟨e,-⟩ | ⟨g,cap,cur,e,rest⟩
 ·exact⟨_,_,e⟩
 ·exact⟨_,_,e⟩
theorem infoV:(Tryd.prog.info? 32).map (fun i=>(i.zero,i.size,i.bytes))=some (some (.slice none 0 0),1,24):=by kernel_rfl
theorem info_v: ∃i,Tryd.prog.info? 32=some i/\i.zero=some (.slice none 0 0)/\i.size=1/\i.bytes=24:=by
 have h:=infoV
 cases e:Tryd.prog.info? 32 with
 | none=>rw[e]at h;cases h
 | some i=>
  rw[e]at h
  injection h with h
  injection h with h1 h2
  injection h2 with h2 h3
  exact⟨i,rfl,h1,h2,h3⟩
theorem bs_three(p q r:Option Addr)(n m l c d f:Nat)(w:World):(Instr.buildSlice 83 3 #[(0,.slice p n c),(1,.slice q m d),(2,.slice r l f)]).run prog w=.ok (.slice (some ⟨w.heap.size,0,none⟩) 3 3) (w.alloc (.cells #[.slice p n c,.slice q m d,.slice r l f] 32)):=by
 simp[go_sem,Instr.buildSlice,run_underlying underlying83]
theorem ov_three{B K:Nat}{X:Nat->Value}{v:Value}{w:World}(h:w.ownsRow B 32 1 v (K*3+3) ((List.range (K*3)).map X++[X (K*3),X (K*3+1),X (K*3+2)])):OwnV B v ((K+1)*3) X w:=by
 have e:(K+1)*3=K*3+1+1+1:=by omega
 unfold OwnV
 rw[e,List.range_succ,List.range_succ,List.range_succ]
 simpa using h
theorem OwnV.sl{B:Nat}{v:Value}{K:Nat}{X:Nat->Value}{w:World}(h:OwnV B v K X w): ∃q g cap,v=.slice q K cap/\ ∀i,i<K->q=some ⟨g,0,none⟩/\B<=g/\g<w.heap.size/\w.cell? ⟨g,i,none⟩=some (X i):=by
 by_cases h0:0<K
 ·obtain⟨g,cap,e,h1,h2,h3⟩:=h.at h0
  exact⟨_,g,cap,e,fun i hi=>⟨rfl,h1,h2,h3 i hi⟩⟩
 ·have e:K=0:=by omega
  subst e
  obtain⟨p,cap,e⟩:=h.nil
  exact⟨p,0,cap,e,fun i hi=>by omega⟩
theorem Fld.mono{T:Nat}{b o f f2:Nat->Nat}{w:World}(h:Fld T b o f w)(l: ∀j,f2 j<=f j):Fld T b o f2 w:=fun i k hi hk=>h i k hi (Nat.lt_of_lt_of_le hk (l i))
theorem fil_zero(L:Nat->Nat)(j:Nat):bQ L 0 0 j=0:=by unfold bQ;split<;>(try split)<;>omega
theorem fil_le{T:Nat}{L c:Nat->Nat}{i m:Nat}(hl: ∀j,j<T->L j<=c j)(hm:m<=L i)(j:Nat)(hj:j<T):bQ L i m j<=c j:=by
 have:=hl j hj
 unfold bQ
 split
 ·exact this
 ·split
  ·rename_i e
   rw[e]at this ⊢
   omega
  ·omega
theorem fil_next(L:Nat->Nat)(i:Nat)(j:Nat):bQ L (i+1) 0 j<=bQ L i (L i) j:=by
 unfold bQ
 by_cases h1:j<i
 ·rw[if_pos (by omega),if_pos h1];exact Nat.le_refl _
 ·by_cases h2:j=i
  ·rw[if_pos (by omega),if_neg h1,if_pos h2,h2];exact Nat.le_refl _
  ·rw[if_neg (by omega),if_neg h1,if_neg h2];split<;>omega
theorem oT(L:Nat->Nat)(i m:Nat):bQ L i m i=m:=by unfold bQ;rw[if_neg (by omega),if_pos rfl]
theorem tP(L:Nat->Nat)(i m m2 j:Nat)(h:j≠i):bQ L i m2 j<=bQ L i m j:=by
 unfold bQ
 split
 ·exact Nat.le_refl _
 ·exact Nat.le_refl _
theorem OwnV.blkeq{B:Nat}{v:Value}{K:Nat}{X:Nat->Value}{w w':World}(h:OwnV B v K X w)(e: ∀k,v.ownBlock=some k->w'.heap[k]? =w.heap[k]?):OwnV B v K X w':=by
 rcases h.2 with⟨q,e2⟩ | ⟨g,cap,cur,q,hb,hg,rest⟩
 ·exact⟨h.1,.inl ⟨q,e2⟩⟩
 ·exact⟨h.1,.inr ⟨g,cap,cur,q,hb,(e g (by rw[q];rfl)).trans hg,rest⟩⟩
theorem ov_next{B i:Nat}{G:Nat->Value}{v u:Value}{w:World}(h:w.ownsRow B 32 1 v (i+1) ((List.range i).map G++[u])):OwnV B v (i+1) (fun j=>if j=i then u else G j) w:=by
 unfold OwnV
 have e:(List.range (i+1)).map (fun j=>if j=i then u else G j)=(List.range i).map G++[u]:=by
  rw[List.range_succ,List.map_append]
  congr 1
  ·apply List.map_congr_left
   intro j hj
   rw[if_neg (by have:=List.mem_range.1 hj;omega)]
  ·simp
 rw[e]
 exact h
theorem fil_all(T:Nat)(L:Nat->Nat){b o:Nat->Nat}{w:World}(h:Fld T b o (bQ L T 0) w):Fld T b o L w:=fun i k hi hk=>h i k hi (by unfold bQ;rw[if_pos hi];exact hk)
theorem kW(P T:Nat)(Pm:Nat->Prop)(pl:Option Addr)(gl cl B:Nat)(p:Nat->Option Addr)(b o L c:Nat->Nat)(w:World)(hP:P<=64)(HT:Hid (P*3=T))(HPm:Hid (∀k,Pm k ↔ ∃i,i<T/\0<c i/\k=b i))
  (LS:Hid (Ls B T b o L c w)) (HP:Hid (∀i,i<T->0<c i->p i=some ⟨b i,o i,none⟩))
  (HQ:Hid (∀i,i<T->pl=some ⟨gl,0,none⟩/\w.cell? ⟨gl,i,none⟩=some (.slice (p i) (L i) (c i)))):
  Calls prog 16 #[.slice pl P cl] w fun e w'=>e=.returned (.bool true)/\AbQ w Pm w':=by
 have PB:=hid hP
 have pB:(P:Int)<=64:=by omega
 obtain⟨i0,hi,hz0,hz1,hz2⟩:=info_v
 have IV:=hid (And.intro hi (And.intro hz0 (And.intro hz1 hz2)))
 clear hP hi hz0 hz1 hz2
 obtain⟨X,hX⟩: ∃X:Nat->Value,∀i,X i=.slice (p i) (L i) (c i):=⟨fun i=>.slice (p i) (L i) (c i),fun _=>rfl⟩
 have HX:=hid hX
 clear hX
 go_enter func16,ntmps16
 go_wp2_with fail
 go_loopw [3,4] (fun lv kv wr=> ∃k:Nat,k<=P/\kv=.int .i64 (k:Nat)/\Ab w wr/\OwnV w.heap.size lv (k*3) X wr) (fun _ kv _=>P - (intOf kv).toNat)
 case atStart=>exact⟨0,by omega,rfl,Ab.refl _,⟨rfl,.inl ⟨rfl,rfl⟩⟩⟩
 case round=>
  obtain⟨k,hk,rfl,ar,ow⟩:=hrel
  have AR:=hid ar
  have OW:=hid ow
  have HKL:=hid hk
  have kB:(k:Int)<=64:=by omega
  clear ar ow hk
  by_cases hkn:k<P
  ·have HK:=hid hkn
   have kI:(k:Int)<P:=by omega
   obtain⟨rfl,r0⟩:=HQ.out (k*3) (by have:=HT.out;omega)
   have r1:=(HQ.out (k*3+1) (by have:=HT.out;omega)).2
   have r2:=(HQ.out (k*3+2) (by have:=HT.out;omega)).2
   have gL:gl<w.heap.size:=World.block_lt_of_cell? _ _ r0
   have K0:=hid ((Below.cell AR.out gL).trans r0)
   have K1:=hid ((Below.cell AR.out gL).trans r1)
   have K2:=hid ((Below.cell AR.out gL).trans r2)
   have h0:=HX.out (k*3)
   have h1:=HX.out (k*3+1)
   have h2:=HX.out (k*3+2)
   have HX3:=hid (And.intro h0 (And.intro h1 h2))
   clear h0 h1 h2 r0 r1 r2
   have GL:Hid (gl<wr.heap.size):=Nat.lt_of_lt_of_le gL (Below.size AR.out)
   clear gL hkn
   generalize p (k*3)=p0 at*
   generalize p (k*3+1)=p1 at*
   generalize p (k*3+2)=p2 at*
   generalize L (k*3)=L0 at*
   generalize L (k*3+1)=L1 at*
   generalize L (k*3+2)=L2 at*
   generalize c (k*3)=c0 at*
   generalize c (k*3+1)=c1 at*
   generalize c (k*3+2)=c2 at*
   go_upto_region 5 with fail
   obtain⟨UU,E,hF1,hF2⟩:=cls wr.drew
   have HU:=hid hF2
   have e0: ∀u,(E u).cell? ⟨gl,k*3,none⟩=some (.slice p0 L0 c0):=fun u=>(Below.cell (hF1 u) (show gl<_ from GL.out)).trans K0.out
   have e1: ∀u,(E u).cell? ⟨gl,k*3+1,none⟩=some (.slice p1 L1 c1):=fun u=>(Below.cell (hF1 u) (show gl<_ from GL.out)).trans K1.out
   have e2: ∀u,(E u).cell? ⟨gl,k*3+2,none⟩=some (.slice p2 L2 c2):=fun u=>(Below.cell (hF1 u) (show gl<_ from GL.out)).trans K2.out
   clear hF1 hF2
   refine Cf.cB 17 (fun j=>if j=16 then some (Obj.cells #[.slice p0 L0 c0,.slice p1 L1 c1,.slice p2 L2 c2] 32,fun g=>.slice (some ⟨g,0,none⟩) 3 3)else none) (by kernel_rfl) (by kernel_rfl) (by kernel_rfl) ?_
   simp only[List.take_succ_cons,List.take_zero]
   refine Cf.aD HU (by rfl) (by rfl) ?_
   go_big_quiet_step (with_reducible rfl)
   refine wpQuiet_nil ?_
   refine Cf.aD HU (by rfl) (by rfl) ?_
   go_big_quiet_step (with_reducible rfl)
   refine wpQuiet_nil ?_
   refine Cf.aD HU (by rfl) (by rfl) ?_
   go_big_quiet_step (with_reducible rfl)
   refine wpQuiet_nil ?_
   refine Cf.aD HU (by rfl) (by rfl) ?_
   go_big_quiet_step (with_reducible rfl)
   refine wpQuiet_nil ?_
   refine Cf.aD HU (by rfl) (by rfl) ?_
   go_big_quiet_step (with_reducible rfl)
   refine wpQuiet_nil ?_
   refine Cf.aD HU (by rfl) (by rfl) ?_
   go_big_quiet_step (with_reducible rfl)
   refine wpQuiet_nil ?_
   refine Cf.aD HU (by rfl) (by rfl) ?_
   go_big_quiet_step (with_reducible rfl)
   refine wpQuiet_nil ?_
   refine Cf.aD HU (by rfl) (by rfl) ?_
   go_big_quiet_step (with_reducible rfl)
   refine wpQuiet_nil ?_
   refine Cf.aD HU (by rfl) (by rfl) ?_
   go_big_quiet_step (with_reducible rfl)
   refine wpQuiet_nil ?_
   refine Cf.aD HU (by rfl) (by rfl) ?_
   go_big_quiet_step (with_reducible rfl)
   refine wpQuiet_nil ?_
   refine Cf.aD HU (by rfl) (by rfl) ?_
   go_big_quiet_step (with_reducible rfl)
   refine wpQuiet_nil ?_
   refine Cf.aD HU (by rfl) (by rfl) ?_
   go_big_quiet_step (with_reducible rfl)
   refine wpQuiet_nil ?_
   refine Cf.aD HU (by rfl) (by rfl) ?_
   go_big_quiet_step (with_reducible rfl)
   refine wpQuiet_nil ?_
   refine Cf.aD HU (by rfl) (by rfl) ?_
   go_big_quiet_step (with_reducible rfl)
   refine wpQuiet_nil ?_
   refine Cf.aD HU (by rfl) (by rfl) ?_
   go_big_quiet_step (with_reducible rfl)
   refine wpQuiet_nil ?_
   refine Cf.aD HU (by rfl) (by rfl) ?_
   go_big_quiet_step (with_reducible rfl)
   refine wpQuiet_nil ?_
   refine Cf.aQ (ob:=Obj.cells #[.slice p0 L0 c0,.slice p1 L1 c1,.slice p2 L2 c2] 32) (mk:=fun g=>.slice (some ⟨g,0,none⟩) 3 3) (by rfl) (by kernel_rfl) ?_ ?_
   ·exact Cf.eC (fun v _=>jU (vs:= #[(0,.slice p0 L0 c0),(1,.slice p1 L1 c1),(2,.slice p2 L2 c2)]) (by rfl) (by simp[Act.eval]) (bs_three p0 p1 p2 L0 L1 L2 c0 c1 c2 v))
   intro bb fb
   simp only[Act.put,List.setIfInBounds_toArray,List.set_cons_succ,List.set_cons_zero]
   refine Cf.dA ?_
   intro w3 hz
   obtain⟨hbb,-⟩:=hz.at (i:=16) (b:=bb) (ob:=Obj.cells #[.slice p0 L0 c0,.slice p1 L1 c1,.slice p2 L2 c2] 32) (by rfl) (by rfl)
   have B3:Hid (Ab wr w3):=(Ab.refl wr).drew.trans hz.1
   have A3:Hid (Ab w w3):=AR.out.trans B3.out
   have OW3:=hid (OW.out.to B3.out)
   have HBB:=hid hbb
   clear hbb hz fb HU e0 e1 e2 E UU
   simp only[List.drop_succ_cons,List.drop_zero]
   go_wp2_with (at_builtin;refine wpList_append_lies _ rfl (.tmp 19) (.tmp 35) 83 rfl w.heap.size 32 i0 (.slice none 0 0) 1 24 underlying83 IV.out.1 IV.out.2.1 IV.out.2.2.1 IV.out.2.2.2 rfl (by decide) _ (k*3) ((List.range (k*3)).map X) rfl OW3.out ⟨bb,0,none⟩ 3 3 [.slice p0 L0 c0,.slice p1 L1 c1,.slice p2 L2 c2] rfl rfl (World.news_of_block (cs:= #[.slice p0 L0 c0,.slice p1 L1 c1,.slice p2 L2 c2]) (t:=32) (fr:=(0,0)) HBB.out) (by intro u hu;simp at hu;rcases hu with rfl | rfl | rfl<;>rfl) (by decide) (by have:=HK.out;have:=PB.out;unfold maxLen;omega) (by have:=HK.out;have:=PB.out;omega) (Below.size A3.out) _ rfl ?_;intro g1 cc1 w4 o4 g4 e4 l4;have O4:=hid o4;have A4:Hid (Ab w w4):=(A3.out:Below _ _ _).grown g4 (Below.size A3.out) (fun k hk=>(World.ownsRow.lt OW3.out k hk).1);clear o4 g4 e4 l4)
   refine⟨⟨k+1,by have:=HK.out;omega,by simp,A4.out,?_⟩,by have:=HK.out;simp[intOf];omega⟩
   have h:=O4.out
   obtain⟨h0,h1,h2⟩:=HX3.out
   rw[<- h0,<- h1,<- h2]at h
   have h':=ov_three h
   rw[show(k+1)*3=k*3+3 by omega]at h' ⊢
   exact h'
  ·have e6:P=k:=by have:=HKL.out;omega
   subst e6
   obtain⟨q,gL,cL,hq,LV0⟩:=OW.out.sl
   rename World=>V1
   have LV:=hid LV0
   have TB:Hid (T<=192):=by have:=PB.out;have:=HT.out;show _<=_;omega
   have tB:(T:Int)<=192:=by have:=TB.out;omega
   rw[HT.out]at LV hq
   have NB:Hid (∀i,i<T->0<c i->b i<w.heap.size):=fun i hi hc=>(LS.out.blk i hi hc).2
   have LS1:=hid (LS.out.to AR.out)
   rw[hq]
   clear hq OW HQ HT PB LV0 HKL
   have GP:Hid (∀k,w.heap.size<=k-> ¬Pm k):=fun k hk hp=>by
    obtain⟨j,h1,h2,h3⟩:=(HPm.out k).1 hp
    have:=NB.out j h1 h2
    omega
   go_wp2_with fail
   go_loopw [5] (fun iv wr=> ∃i:Nat,i<=T/\iv=.int .i64 (i:Nat)/\AbQ V1 Pm wr/\Ls B T b o L c wr/\Fld T b o (bQ L i 0) wr) (fun iv _=>T - (intOf iv).toNat)
   case atStart=>exact⟨0,by omega,rfl,AbQ.refl _ _,LS1.out,fun i k hi hk=>by rw[fil_zero]at hk;omega⟩
   case round=>
    obtain⟨i,hi,rfl,aq,ls,fl⟩:=hrel
    rename World=>wq
    have AQ:=hid aq
    have LQ:=hid ls
    have FQ:=hid fl
    have HIL:=hid hi
    have iB:(i:Int)<=192:=by omega
    clear aq ls fl hi
    by_cases hin:i<T
    ·have HI:=hid hin
     have iI:(i:Int)<T:=by omega
     obtain⟨rfl,l1,l2,l3⟩:=LV.out i hin
     have y0:=(AQ.out.cell (k:=i) l2 (GP.out gL l1)).trans l3
     rw[HX.out i]at y0
     have Y0:=hid y0
     have GL2:Hid (gL<V1.heap.size):=l2
     have ci:=LQ.out.le i hin
     have CI:=hid ci
     have PI:=hid (HP.out i hin)
     have SET:=hid (fun(w2:World) (m:Nat) (h:Ls B T b o L c w2) (f:Fld T b o (bQ L i m) w2) (hm:m<L i)=>Fld.set (f2:=bQ L i (m+1)) h f hin (oT L i m) (Nat.lt_of_lt_of_le hm (h.le i hin).1) (fun j hj=>fil_le (fun j hj=>(h.le j hj).1) (Nat.le_of_lt hm) j hj) (fun j hj=>tP L i m (m+1) j hj) (by rw[oT];omega))
     have THR:=hid (fun(w2:World) (m:Nat) (h:Ls B T b o L c w2) (hm:m<L i)=>h.there i m hin (Nat.lt_of_lt_of_le hm (h.le i hin).1))
     have PMI:Hid (0<c i->Pm (b i)):=fun h=>(HPm.out _).2 ⟨i,hin,h,rfl⟩
     obtain⟨Li,hLi⟩:=aB (L i)
     obtain⟨bi,hbi⟩:=aB (b i)
     obtain⟨oi,hoi⟩:=aB (o i)
     obtain⟨cc,hcc⟩:=aB (c i)
     obtain⟨pi,hpi⟩:=aB (p i)
     have HLI:=hid hLi
     rw[hLi]at SET THR CI Y0
     rw[hbi]at SET THR PI PMI
     rw[hoi]at SET THR PI
     rw[hcc]at CI PI PMI Y0
     rw[hpi]at PI Y0
     have liB:(Li:Int)<=12288:=by have:=CI.out;omega
     clear hin l1 l2 l3 y0 ci hbi hoi hcc hpi hLi
     go_wp2_with fail
     go_loopw [6] (fun kv wr=> ∃m:Nat,m<=Li/\kv=.int .i64 (m:Nat)/\AbQ V1 Pm wr/\Ls B T b o L c wr/\Fld T b o (bQ L i m) wr) (fun kv _=>Li - (intOf kv).toNat)
     case atStart=>exact⟨0,by omega,rfl,AQ.out,LQ.out,FQ.out⟩
     case round=>
      obtain⟨m,hm,rfl,ap,lp,fp⟩:=hrel
      rename World=>wp
      have AP:=hid ap
      have LP:=hid lp
      have FP:=hid fp
      have HML:=hid hm
      have mB:(m:Int)<=12288:=by omega
      have y0:=(AP.out.cell (k:=i) GL2.out (GP.out gL (LV.out i HI.out).2.1)).trans ((AQ.out.cell (k:=i) GL2.out (GP.out gL (LV.out i HI.out).2.1)).symm.trans Y0.out)
      clear ap lp fp hm
      by_cases hmn:m<Li
      ·have HM:=hid hmn
       have mI:(m:Int)<Li:=by omega
       obtain⟨z0,z2⟩:=THR.out wp m LP.out hmn
       obtain⟨u0,z1⟩:=Option.isSome_iff_exists.1 z0
       clear z0
       have S1:=hid (SET.out wp m LP.out FP.out hmn)
       have pz:=PI.out (by have:=CI.out;omega)
       subst pz
       clear hmn
       go_wp2_with fail
       refine⟨⟨m+1,by have:=HM.out;omega,by simp,AP.out.set (.inl (PMI.out (by have:=CI.out;have:=HM.out;omega))) _,LP.out.set _ _ _,S1.out⟩,by have:=HM.out;simp[intOf];omega⟩
      ·have e6:Li=m:=by have:=HML.out;omega
       subst e6
       go_wp2_with fail
       refine⟨⟨i+1,by have:=HI.out;omega,by simp,AP.out,LP.out,FP.out.mono (fun j=> ?_)⟩,by have:=HI.out;simp[intOf];omega⟩
       rw[<- HLI.out]
       exact fil_next L i j
    ·have e7:T=i:=by have:=HIL.out;omega
     subst e7
     have FL:=hid (fil_all T L FQ.out)
     rename World=>V2
     have V12:Hid (AbQ w Pm V2):=((AbQ.refl w Pm).to AR.out).chain (AbQ.chain (AbQ.refl V1 Pm) AQ.out |> fun h=>by
      obtain⟨h1,h2,h3,h4,h5⟩:=h
      exact⟨h1,h2,h3,h4,h5⟩)
     have LV2:Hid (∀i,i<T->q=some ⟨gL,0,none⟩/\w.heap.size<=gL/\gL<V2.heap.size/\V2.cell? ⟨gL,i,none⟩=some (.slice (p i) (L i) (c i))):=fun i hi=>by
      obtain⟨h1,h2,h3,h4⟩:=LV.out i hi
      refine⟨h1,h2,Nat.lt_of_lt_of_le h3 AQ.out.2.2.2.1,?_⟩
      rw[AQ.out.cell h3 (GP.out gL h2),h4,HX.out i]
     have N2:Hid (∀i,i<T->0<c i->b i<V2.heap.size):=fun i hi hc=>(LQ.out.blk i hi hc).2
     clear FQ LV AQ HIL hin LS1 AR NB
     go_wp2_with fail
     go_loopw [7,8] (fun gv iv wr=> ∃(i:Nat) (G:Nat->Value),i<=T/\iv=.int .i64 (i:Nat)/\AbQ V2 Pm wr/\Ls B T b o L c wr/\Fld T b o L wr/\Gr V2.heap.size b o L c i G wr/\OwnV V2.heap.size gv i G wr/\ ∀j,j<i-> ∀k,(G j).ownBlock=some k->gv.ownBlock≠some k) (fun _ iv _=>T - (intOf iv).toNat)
     case atStart=>exact⟨0,fun _=>.slice none 0 0,by omega,rfl,AbQ.refl _ _,LQ.out,FL.out,fun i hi=>by omega,⟨rfl,.inl ⟨rfl,rfl⟩⟩,fun j hj=>by omega⟩
     case round=>
      obtain⟨i,G,hi,rfl,aq,ls,fl,gr,ov,ng⟩:=hrel
      rename World=>W
      have AW:=hid aq
      have LW:=hid ls
      have FW:=hid fl
      have GW:=hid gr
      have OV:=hid ov
      have NG:=hid ng
      have HIL:=hid hi
      have iB:(i:Int)<=192:=by omega
      clear aq ls fl gr ov ng hi
      by_cases hin:i<T
      ·have HI:=hid hin
       have iI:(i:Int)<T:=by omega
       obtain⟨rfl,l1,l2,l3⟩:=LV2.out i hin
       have y0:=(AW.out.cell (k:=i) l2 (GP.out gL l1)).trans l3
       have CI:=hid (LW.out.le i hin)
       have PI:=hid (HP.out i hin)
       have BI:=hid (N2.out i hin)
       have VW:Hid (V2.heap.size<=W.heap.size):=AW.out.2.2.2.1
       have HPC:Hid (0<c i->p i=some ⟨b i,o i,none⟩/\b i<W.heap.size):=fun h=>⟨PI.out h,Nat.lt_of_lt_of_le (BI.out h) VW.out⟩
       have HFC:=hid (fun j hj=>FW.out i j hin hj)
       have HSC:=hid (fun j hj=>LW.out.there i j hin hj)
       have PMI:Hid (0<c i->Pm (b i)):=fun h=>(HPm.out _).2 ⟨i,hin,h,rfl⟩
       have STEP:=hid (fun v w' (cu:Cur W i (b i) (o i) (L i) (c i) (p i) 16 v w') (kp:Kp W w' (b i) (o i+L i) (o i+c i))=>Gr.step LW.out FW.out GW.out hin N2.out VW.out PI.out cu kp)
       obtain⟨Li,hLi⟩:=aB (L i)
       obtain⟨bi,hbi⟩:=aB (b i)
       obtain⟨oi,hoi⟩:=aB (o i)
       obtain⟨cc,hcc⟩:=aB (c i)
       obtain⟨pi,hpi⟩:=aB (p i)
       rw[hLi]at CI HFC STEP y0
       rw[hbi]at PI BI HPC HFC HSC PMI STEP
       rw[hoi]at PI HPC HFC HSC STEP
       rw[hcc]at CI PI BI HPC HSC PMI STEP y0
       rw[hpi]at PI HPC STEP y0
       have liB:(Li:Int)<=12288:=by have:=CI.out;omega
       have CS:Hid (Cur W i bi oi Li cc pi 0 (.slice pi Li cc) W):=Cur.start ⟨CI.out.1,CI.out.2.2⟩
       clear hin l1 l2 l3 hbi hoi hcc hpi hLi
       go_wp2_with fail
       go_loopw [9,10] (fun hv kv wr=> ∃k:Nat,k<=16/\kv=.int .i64 (k:Nat)/\Cur W i bi oi Li cc pi k hv wr/\Kp W wr bi (oi+Li) (oi+cc)) (fun _ kv _=>16 - (intOf kv).toNat)
       case atStart=>exact⟨0,by omega,rfl,CS.out,Kp.refl _ _ _ _⟩
       case round=>
        obtain⟨k,hk,rfl,cu,kp⟩:=hrel
        rename World=>wr
        have CU:=hid cu
        have KP:=hid kp
        have HKL:=hid hk
        have kB2:(k:Int)<=16:=by omega
        clear cu kp hk
        by_cases hkn:k<16
        ·have HK:=hid hkn
         have kI:(k:Int)<16:=by omega
         have SRC:Hid (Src prog 1 32 (.slice (some ⟨wr.heap.size,0,none⟩) 1 1) 1 [mrk i] (wr.alloc (.cells #[.int .i64 (1000+(i:Int))] 3))):=Src.ofSlice _ underlying32 _ 1 1 [mrk i] rfl (World.news_of_block (cs:= #[.int .i64 (1000+(i:Int))]) (t:=3) (fr:=(0,0)) (heap_alloc_new wr _)) (by intro u hu;simp at hu;subst hu;rfl)
         have LB:Hid (Li+k+1<=1048576):=by have:=CI.out;have:=HK.out;show _<=_;omega
         clear hkn
         go_wp2_with (at_builtin;refine qP rfl (.tmp 74) (.tmp 77) rfl rfl rfl (CU.out.to (bl1 wr (.cells #[.int .i64 (1000+(i:Int))] 3))) (KP.out.to (bl1 wr (.cells #[.int .i64 (1000+(i:Int))] 3))) HPC.out HFC.out HSC.out LB.out SRC.out ?_;intro v7 w7 c7 k7;have CU7:=hid c7;have KP7:=hid k7;clear c7 k7)
         exact⟨⟨k+1,by have:=HK.out;omega,by simp,CU7.out,KP7.out⟩,by have:=HK.out;simp[intOf];omega⟩
        ·have e6:k=16:=by have:=HKL.out;omega
         subst e6
         have CUX:=hid CU.out
         obtain⟨s1,s2,s3⟩:=STEP.out u9 wr CU.out KP.out
         have LR:=hid s1
         have FR:=hid s2
         have GRR:=hid s3
         obtain⟨a9,c9,e9,-⟩:=CU.out
         subst e9
         have AR2:Hid (AbQ V2 Pm wr):=AW.out.kp KP.out PMI.out
         have OVR:Hid (OwnV V2.heap.size u7 i G wr):=OwnV.blkeq OV.out (fun k hk=>KP.out.far BI.out (World.ownsRow.lt OV.out k hk).1 (World.ownsRow.lt OV.out k hk).2)
         have OVA:Hid (OwnV V2.heap.size u7 i G (wr.alloc (.cells #[.slice a9 (Li+16) c9] 32))):=OVR.out.to (bl1 _ _)
         have NGR:Hid (∀j,j<i+1-> ∀k,((fun j=>if j=i then Value.slice a9 (Li+16) c9 else G j) j).ownBlock=some k->u7.ownBlock≠some k):=fun j hj k hk e=>by
          dsimp only at hk
          by_cases ej:j=i
          ·rw[if_pos ej]at hk
           have h1:=World.ownsRow.lt OV.out k e
           rcases CUX.out.own PI.out hk with⟨h2,h3⟩ | h2
           ·have:=BI.out h3
            omega
           ·omega
          ·rw[if_neg ej]at hk
           exact NG.out j (by omega) k hk e
         have SB2:Hid (V2.heap.size<=(wr.alloc (.cells #[.slice a9 (Li+16) c9] 32)).heap.size):=by have:=AR2.out.2.2.2.1;rw[cY];show _<=_;omega
         go_wp2_with (at_builtin;refine wpList_append_lies _ rfl (.tmp 79) (.tmp 81) 83 rfl V2.heap.size 32 i0 (.slice none 0 0) 1 24 underlying83 IV.out.1 IV.out.2.1 IV.out.2.2.1 IV.out.2.2.2 rfl (by decide) u7 i ((List.range i).map G) rfl OVA.out ⟨wr.heap.size,0,none⟩ 1 1 [.slice a9 (Li+16) c9] rfl rfl (World.news_of_block (cs:= #[.slice a9 (Li+16) c9]) (t:=32) (fr:=(0,0)) (heap_alloc_new wr _)) (by intro u hu;simp at hu;subst hu;rfl) (by decide) (by have:=HI.out;have:=TB.out;unfold maxLen;omega) (by have:=HI.out;have:=TB.out;omega) SB2.out _ rfl ?_;intro g1 cc1 w4 o4 g4 e4 l4;have O4:=hid o4;have G4:=hid g4;have E4:=hid e4;clear o4 g4 e4 l4)
         obtain⟨t1,t2,t3⟩:=gr_grown (LR.out.to (bl1 wr (.cells #[.slice a9 (Li+16) c9] 32))) (FR.out.to (bl1 wr (.cells #[.slice a9 (Li+16) c9] 32))) (GRR.out.to (bl1 wr (.cells #[.slice a9 (Li+16) c9] 32))) N2.out G4.out (fun k hk=>(World.ownsRow.lt OV.out k hk).1) NGR.out
         refine⟨⟨i+1,_,by have:=HI.out;omega,by simp,(AR2.out.to (bl1 wr (.cells #[.slice a9 (Li+16) c9] 32))).grown G4.out (fun k hk=>.inr (World.ownsRow.lt OV.out k hk).1),t1,t2,t3,?_,fun j hj k hk e=> ?_⟩,by have:=HI.out;simp[intOf];omega⟩
         ·exact ov_next O4.out
         ·injection e with e
          have e:g1=k:=e
          rcases E4.out with h | h
          ·exact NGR.out j hj k hk (by rw[h,e])
          ·have:=GRR.out.own hj hk
           rw[cY]at h
           omega
      ·have e8:T=i:=by have:=HIL.out;omega
       subst e8
       obtain⟨qg,gG,cG,hqg,GV0⟩:=OV.out.sl
       have GV:=hid GV0
       have LW3:Hid (∀i,i<T->q=some ⟨gL,0,none⟩/\gL<W.heap.size/\W.cell? ⟨gL,i,none⟩=some (.slice (p i) (L i) (c i))):=fun i hi=>by
        obtain⟨h1,h2,h3,h4⟩:=LV2.out i hi
        exact⟨h1,Nat.lt_of_lt_of_le h3 AW.out.2.2.2.1,(AW.out.cell h3 (GP.out gL h2)).trans h4⟩
       have DONE:Hid (AbQ w Pm W):=V12.out.chain AW.out
       rw[hqg]
       clear hqg GV0 OV NG LV2 AW V12 hin HIL
       go_wp2_with fail
       go_loopw [11] (fun iv wr=> ∃i:Nat,i<=T/\iv=.int .i64 (i:Nat)/\Ab W wr) (fun iv _=>T - (intOf iv).toNat)
       case atStart=>exact⟨0,by omega,rfl,Ab.refl _⟩
       case round=>
        obtain⟨i,hi,rfl,aq⟩:=hrel
        rename World=>wq
        have AQ:=hid aq
        have HIL:=hid hi
        have iB:(i:Int)<=192:=by omega
        clear aq hi
        by_cases hin:i<T
        ·have HI:=hid hin
         have iI:(i:Int)<T:=by omega
         obtain⟨rfl,l2,l3⟩:=LW3.out i hin
         obtain⟨rfl,-,m2,m3⟩:=GV.out i hin
         obtain⟨qq,rr,cp,g1,g2,-⟩:=GW.out i hin
         rw[g1]at m3
         have GZ:=hid g2
         have QL:Hid (qq<W.heap.size):=World.block_lt_of_cell? _ _ (g2 0 (by omega))
         have FZ:=hid (fun k hk=>FW.out i k hin hk)
         have PI:=hid (HP.out i hin)
         have BL:=hid (fun h=>(LW.out.blk i hin h).2)
         have CI:=hid (LW.out.le i hin)
         have Y0:=hid l3
         have M0:=hid m3
         have LL:Hid (gL<W.heap.size/\gG<W.heap.size):=⟨l2,m2⟩
         obtain⟨Li,hLi⟩:=aB (L i)
         obtain⟨bi,hbi⟩:=aB (b i)
         obtain⟨oi,hoi⟩:=aB (o i)
         obtain⟨cc,hcc⟩:=aB (c i)
         obtain⟨pi,hpi⟩:=aB (p i)
         rw[hLi]at CI FZ GZ Y0 M0
         rw[hbi]at PI BL FZ
         rw[hoi]at PI FZ
         rw[hcc]at CI PI BL Y0
         rw[hpi]at PI Y0
         have liB:(Li:Int)<=12288:=by have:=CI.out;omega
         clear hin l2 l3 m2 m3 g1 g2 hbi hoi hcc hpi hLi
         go_wp2_with fail
         go_loopw [12] (fun kv wr=> ∃k:Nat,k<=Li+16/\kv=.int .i64 (k:Nat)/\Ab W wr) (fun kv _=>Li+16 - (intOf kv).toNat)
         case atStart=>exact⟨0,by omega,rfl,AQ.out⟩
         case round=>
          obtain⟨k,hk,rfl,ap⟩:=hrel
          rename World=>wp
          have AP:=hid ap
          have HKL:=hid hk
          have kB2:(k:Int)<=12304:=by omega
          have y0:=(Below.cell AP.out LL.out.1).trans Y0.out
          have m0:=(Below.cell AP.out LL.out.2).trans M0.out
          clear ap hk
          by_cases hkn:k<Li+16
          ·have HK:=hid hkn
           have kI:(k:Int)<(Li:Int)+16:=by omega
           have z1:=(Below.cell AP.out (p:=⟨qq,rr+k,none⟩) QL.out).trans (GZ.out k hkn)
           unfold mrk at z1
           by_cases hkl:k<Li
           ·have kL:(k:Int)<Li:=by omega
            have pz:=PI.out (by have:=CI.out;omega)
            have bz:=BL.out (by have:=CI.out;omega)
            have z2:=(Below.cell AP.out (p:=⟨bi,oi+k,none⟩) bz).trans (FZ.out k hkl)
            unfold mrk at z2
            subst pz
            clear hkn hkl bz
            go_wp2_with fail
            exact⟨⟨k+1,by have:=HK.out;omega,by simp,AP.out⟩,by have:=HK.out;simp[intOf];omega⟩
           ·have kL: ¬(k:Int)<Li:=by omega
            clear hkn hkl
            go_wp2_with fail
            exact⟨⟨k+1,by have:=HK.out;omega,by simp,AP.out⟩,by have:=HK.out;simp[intOf];omega⟩
          ·have e6:k=Li+16:=by have:=HKL.out;omega
           subst e6
           go_wp2_with fail
           exact⟨⟨i+1,by have:=HI.out;omega,by simp,AP.out⟩,by have:=HI.out;simp[intOf];omega⟩
        ·have e9:T=i:=by have:=HIL.out;omega
         subst e9
         go_wp2_with fail
         go_ret
         exact⟨rfl,DONE.out.to AQ.out⟩
end Spl
end
section
open Go.RowKit Tf Cu Go.Deep
namespace Spl
theorem ls_0(n P k:Nat):lsP n P (k*3)=clP (6*n*n) P k:=by
 unfold lsP
 rw[if_pos (by omega),show k*3/3=k by omega]
theorem ls_1(n P k:Nat):lsP n P (k*3+1)=edP n P k:=by
 unfold lsP
 rw[if_neg (by omega),if_pos (by omega),show(k*3+1)/3=k by omega]
theorem ls_2(n P k:Nat):lsP n P (k*3+2)=hlP n P k:=by
 unfold lsP
 rw[if_neg (by omega),if_neg (by omega),show(k*3+2)/3=k by omega]
theorem gd_mem{l:List Nat}{i:Nat}(h:i<l.length):l.getD i 0 ∈ l:=by
 rw[List.getD_eq_getElem?_getD,List.getElem?_eq_getElem h]
 exact List.getElem_mem h
theorem wi_of{l:List Nat}{N:Nat}(h: ∀x ∈ l,x<N):wi l.length (rd l) N:=fun i hi=>by
 have:=h _ (gd_mem hi)
 unfold rd
 omega
theorem fit_part{n P k lb lw lt ls:Nat}(hk:k<P)(hf:fit4 n lb lw lt ls):fit22 n (lsP n P (k*3)).length (lsP n P (k*3+1)).length (lsP n P (k*3+2)).length (rd (lsP n P (k*3))) (rd (lsP n P (k*3+1))) (rd (lsP n P (k*3+2))) lb lw lt ls:=by
 refine⟨hf,wi_of fun x hx=> ?_,wi_of fun x hx=> ?_,wi_of fun x hx=> ?_⟩
 ·rw[ls_0]at hx
  have h1:=(iL.1 (mem_cl.1 hx)).2
  have h2:=hO (N:=6*n*n) (P:=P) (k:=k+1) (by omega) (by omega)
  omega
 ·rw[ls_2]at hx
  exact(mem_hl.1 hx).1
 ·rw[ls_1]at hx
  exact(mem_ed.1 hx).1
theorem mk_part(n P k:Nat):mk2 (lsP n P (k*3)).length (lsP n P (k*3+2)).length (rd (lsP n P (k*3))) (rd (lsP n P (k*3+2)))=mkC n P k:=by
 rw[ls_0,ls_2]
 rfl
theorem mke_part(n P k:Nat):hs (lsP n P (k*3+1)).length (rd (lsP n P (k*3+1)))=mkE n P k:=by
 rw[ls_1]
 rfl
theorem oU(n P i:Nat)(hn:1<=n/\n<=32)(hP:1<=P/\P<=64):(lsP n P i).length<=12288:=by
 have n1:=n12 hn
 have n2:6*n*n<=12*n*n:=Nat.mul_le_mul_right _ (Nat.mul_le_mul_right _ (by decide))
 unfold lsP
 split
 ·rw[qJ]
  have:=lo_size (N:=6*n*n) (P:=P) (by omega) (i/3)
  have:=Nat.div_le_self (6*n*n) P
  have:=n12 hn
  have:6*n*n<=6144:=by
   have h1:6*n<=6*32:=Nat.mul_le_mul_left _ hn.2
   exact Nat.le_trans (Nat.mul_le_mul h1 hn.2) (by decide)
  omega
 ·split
  ·have h:=List.length_filter_le (fun e=>inP (6*n*n) P (i/3) (lf n e)) (List.range (12*n*n))
   rw[List.length_range]at h
   exact Nat.le_trans h n1
  ·have h:=List.length_filter_le (fun c=>ask n P (i/3) c&& !inP (6*n*n) P (i/3) c) (List.range (6*n*n))
   rw[List.length_range]at h
   exact Nat.le_trans h (by omega)
theorem bnd_part{w:World}{n P k:Nat}{pb pw pt ps:Option Addr}{B:Nat->Nat}{Wt T:Nat->Int}{S:Nat->Nat}{lb lw lt ls:Nat}(hf:fit4 n lb lw lt ls)(IB:IsFl w pb lb B)(IW:Sh.IsI w pw lw Wt)(IT:Sh.IsI w pt lt T)(IS:IsFl w ps ls S):
  Bnd (6*n*n) (6*n*n) (6*n*n) (12*n*n) (shB (mkC n P k) B) (shW (mkC n P k) Wt) (shW (mkC n P k) T) (shB (mkE n P k) S):=by
 obtain⟨rfl,rfl,rfl,rfl⟩:=hf
 refine⟨fun i hi=> ?_,fun i hi=> ?_,fun i hi=> ?_,fun i hi=> ?_⟩
 ·unfold shB;split
  ·exact(IB i hi).1
  ·decide
 ·unfold shW;split
  ·exact(IW i hi).1
  ·unfold W64;decide
 ·unfold shW;split
  ·exact(IT i hi).1
  ·unfold W64;decide
 ·unfold shB;split
  ·exact(IS i hi).1
  ·decide
end Spl
end
section
open Go.RowKit Tf Cu Go.Deep
namespace Spl
structure Ly (B n P gc ge i:Nat) (v:Value) (p:Option Addr) (b o c:Nat) (w:World):Prop where
 val:v=.slice p (lsP n P i).length c
 le:(lsP n P i).length<=c/\c<=maxLen
 addr:0<c->p=some ⟨b,o,none⟩/\B<=b/\b<w.heap.size
 there: ∀k,k<c->(w.cell? ⟨b,o+k,none⟩).isSome=true/\w.frozen? ⟨b,o+k,none⟩=false
 cel:i%3=0->0<c->b=gc/\cO n P (i/3)<=o/\o+c<=cO n P (i/3+1)
 edg:i%3=1->0<c->b=ge/\eO n P (i/3)<=o/\o+c<=eO n P (i/3+1)
 hal:i%3=2->0<c->v.ownBlock=some b
theorem win_ly{g a b M:Nat}{w:World}(h:upR g M w)(hb:b<=M)(k:Nat)(hk:k<b - a):(w.cell? ⟨g,wo a b+k,none⟩).isSome=true/\w.frozen? ⟨g,wo a b+k,none⟩=false:=by
 have e:wo a b=a:=if_neg (by omega)
 rw[e]
 exact⟨by rw[h.cell (i:=a+k) (by omega)];rfl,h.frozen _⟩
theorem ly_one{B n P gl gc ge i:Nat}{X:Nat->Value}{w:World}(hn:1<=n/\n<=32)(h:OwnPs B n P gl gc ge X w)(hi:i<P*3): ∃p b o c,Ly B n P gc ge i (X i) p b o c w:=by
 obtain⟨-,h2,h3,⟨m1,m2,m3,-,-,-⟩,h4⟩:=h
 have n1:=n12 hn
 have n3:12*n*n=2*(6*n*n):=by rw[<- Nat.mul_assoc,<- Nat.mul_assoc]
 have mx:(12288:Nat)<=maxLen:=by unfold maxLen;omega
 have hk:i/3<P:=by omega
 obtain⟨k1,k2,k3,-⟩:=h4 (i/3) hk
 have u:=hO (N:=6*n*n) (P:=P) (k:=i/3+1) (by omega) (by omega)
 have ue:=kP hn.1 u
 by_cases i0:i%3=0
 ·rw[show i/3*3=i by omega]at k1
  have l:(lsP n P i).length=cO n P (i/3+1) - cO n P (i/3):=by unfold lsP;rw[if_pos i0,qJ];rfl
  refine⟨some ⟨gc,wo (cO n P (i/3)) (cO n P (i/3+1)),none⟩,gc,wo (cO n P (i/3)) (cO n P (i/3+1)),cO n P (i/3+1) - cO n P (i/3),by rw[l];exact k1,⟨by omega,by unfold cO;omega⟩,fun _=>⟨rfl,m2,h2.lt⟩,win_ly h2 u,fun _ hc=>⟨rfl,?_⟩,fun e=>by omega,fun e=>by omega⟩
  have e:wo (cO n P (i/3)) (cO n P (i/3+1))=cO n P (i/3):=if_neg (by omega)
  omega
 ·by_cases i1:i%3=1
  ·rw[show i/3*3+1=i by omega]at k2
   have l:(lsP n P i).length=eO n P (i/3+1) - eO n P (i/3):=by unfold lsP;rw[if_neg i0,if_pos i1,ed_len hn.1 hk];rfl
   refine⟨some ⟨ge,wo (eO n P (i/3)) (eO n P (i/3+1)),none⟩,ge,wo (eO n P (i/3)) (eO n P (i/3+1)),eO n P (i/3+1) - eO n P (i/3),by rw[l];exact k2,⟨by omega,by unfold eO;omega⟩,fun _=>⟨rfl,m3,h3.lt⟩,win_ly h3 ue,fun e=>by omega,fun _ hc=>⟨rfl,?_⟩,fun e=>by omega⟩
   have e:wo (eO n P (i/3)) (eO n P (i/3+1))=eO n P (i/3):=if_neg (by omega)
   omega
  ·rw[show i/3*3+2=i by omega]at k3
   have l:lsP n P i=hlP n P (i/3):=by unfold lsP;rw[if_neg i0,if_neg i1]
   rcases k3.2 with⟨q,e⟩ | ⟨g,cap,cur,q,hb,hg,q1,q2,q3,q4⟩
   ·exact⟨none,0,0,0,by rw[l,e];exact q,⟨by rw[l];omega,by omega⟩,fun h=>by omega,fun k hk=>by omega,fun e=>by omega,fun e=>by omega,fun _ h=>by omega⟩
   ·refine⟨some ⟨g,0,none⟩,g,0,cap,by rw[l];exact q,⟨by rw[l];exact q1,q2⟩,fun _=>⟨rfl,hb,lt_of_block hg⟩,fun k hk=>⟨?_,by simp[World.frozen?,hg]⟩,fun e=>by omega,fun e=>by omega,fun _ _=>by rw[q];rfl⟩
    rw[Nat.zero_add]
    have hk2:k<cur.size:=by omega
    simp[World.cell?,hg,hk2]
theorem ly_apart{B n P gl gc ge i j:Nat}{X:Nat->Value}{w:World}(h:OwnPs B n P gl gc ge X w)(hi:i<P*3)(hj:j<P*3)(hn:i≠j){p p':Option Addr}{b o c b' o' c':Nat}(a:Ly B n P gc ge i (X i) p b o c w)(a':Ly B n P gc ge j (X j) p' b' o' c' w){x y:Nat}(hx:x<c)(hy:y<c')(e:b=b'):o+x≠o'+y:=by
 obtain⟨-,-,-,⟨-,-,-,-,-,ne⟩,h4⟩:=h
 have hx0:0<c:=by omega
 have hy0:0<c':=by omega
 have far: ∀i,i<P*3->i%3=2-> ∀b,(X i).ownBlock=some b->b≠gc/\b≠ge:=fun i hi i2 b hb=>by
  obtain⟨-,-,-,k4,-⟩:=h4 (i/3) (by omega)
  rw[show i/3*3+2=i by omega]at k4
  exact(k4 b hb).2
 have dj: ∀i j,i<P*3->j<i->i%3=2->j%3=2->Dj (X i) (X j):=fun i j hi hj i2 j2=>by
  obtain⟨-,-,-,-,k5⟩:=h4 (i/3) (by omega)
  have:=k5 (j/3) (by omega)
  rw[show i/3*3+2=i by omega,show j/3*3+2=j by omega]at this
  exact this
 have ci:i%3=0\/i%3=1\/i%3=2:=by omega
 have cj:j%3=0\/j%3=1\/j%3=2:=by omega
 rcases ci with i0 | i1 | i2
 ·obtain⟨q1,q2,q3⟩:=a.cel i0 hx0
  rcases cj with j0 | j1 | j2
  ·obtain⟨r1,r2,r3⟩:=a'.cel j0 hy0
   rcases Nat.lt_or_ge (i/3) (j/3)with l | l
   ·have:cO n P (i/3+1)<=cO n P (j/3):=gB (by omega)
    omega
   ·have:cO n P (j/3+1)<=cO n P (i/3):=gB (by omega)
    omega
  ·obtain⟨r1,-⟩:=a'.edg j1 hy0
   exact absurd (by rw[<- q1,e,r1]) ne
  ·have:=(far j hj j2 b' (a'.hal j2 hy0)).1
   exact absurd (by rw[<- e,q1]) this
 ·obtain⟨q1,q2,q3⟩:=a.edg i1 hx0
  rcases cj with j0 | j1 | j2
  ·obtain⟨r1,-⟩:=a'.cel j0 hy0
   exact absurd (by rw[<- r1,<- e,q1]) ne
  ·obtain⟨r1,r2,r3⟩:=a'.edg j1 hy0
   rcases Nat.lt_or_ge (i/3) (j/3)with l | l
   ·have:eO n P (i/3+1)<=eO n P (j/3):=dG (gB (by omega))
    omega
   ·have:eO n P (j/3+1)<=eO n P (i/3):=dG (gB (by omega))
    omega
  ·have:=(far j hj j2 b' (a'.hal j2 hy0)).2
   exact absurd (by rw[<- e,q1]) this
 ·have hb:=a.hal i2 hx0
  have fi:=far i hi i2 b hb
  rcases cj with j0 | j1 | j2
  ·obtain⟨r1,-⟩:=a'.cel j0 hy0
   exact absurd (by rw[e,r1]) fi.1
  ·obtain⟨r1,-⟩:=a'.edg j1 hy0
   exact absurd (by rw[e,r1]) fi.2
  ·have hb':=a'.hal j2 hy0
   rcases Nat.lt_or_ge j i with l | l
   ·exact absurd (by rw[hb',e]) (dj i j hi l i2 j2 b hb)
   ·exact absurd (by rw[hb,e]) (dj j i hj (by omega) j2 i2 b' hb')
theorem own_ls{B n P gl gc ge:Nat}{X:Nat->Value}{w:World}(hn:1<=n/\n<=32)(hP:1<=P/\P<=64)(h:OwnPs B n P gl gc ge X w): ∃(p:Nat->Option Addr) (b o c:Nat->Nat),Ls B (P*3) b o (fun i=>(lsP n P i).length) c w/\(∀i,i<P*3->0<c i->p i=some ⟨b i,o i,none⟩)/\(gl<w.heap.size/\B<=gl)/\ ∀i,i<P*3->w.cell? ⟨gl,i,none⟩=some (.slice (p i) (lsP n P i).length (c i)):=by
 have q: ∀i,∃z:Option Addr × Nat × Nat × Nat,i<P*3->Ly B n P gc ge i (X i) z.1 z.2.1 z.2.2.1 z.2.2.2 w:=fun i=>by
  by_cases hi:i<P*3
  ·obtain⟨p,b,o,c,l⟩:=ly_one hn h hi
   exact⟨(p,b,o,c),fun _=>l⟩
  ·exact⟨(none,0,0,0),fun k=>absurd k hi⟩
 obtain⟨z,hz⟩: ∃z:Nat->Option Addr × Nat × Nat × Nat,∀i,i<P*3->Ly B n P gc ge i (X i) (z i).1 (z i).2.1 (z i).2.2.1 (z i).2.2.2 w:=⟨fun i=>Classical.choose (q i),fun i=>Classical.choose_spec (q i)⟩
 refine⟨fun i=>(z i).1,fun i=>(z i).2.1,fun i=>(z i).2.2.1,fun i=>(z i).2.2.2,⟨fun i hi=>⟨(hz i hi).le.1,oU n P i hn hP,(hz i hi).le.2⟩,fun i hi hc=>((hz i hi).addr hc).2,fun i k hi hk=>(hz i hi).there k hk,fun i j x y hi hj hne hx hy e=>ly_apart h hi hj hne (hz i hi) (hz j hj) hx hy e⟩,fun i hi hc=>((hz i hi).addr hc).1,⟨h.1.lt,h.2.2.2.1.1⟩,fun i hi=> ?_⟩
 rw[<- (hz i hi).val]
 exact h.1.cell hi
theorem oV{n P gl gc ge:Nat}{X:Nat->Value}{w0 w1 w2:World}(hn:1<=n/\n<=32)(hP:1<=P/\P<=64)(h:OwnPs w0.heap.size n P gl gc ge X w1)(a:Ab w1 w2):
  Calls prog 16 #[.slice (some ⟨gl,0,none⟩) P P] w2 fun e w'=>e=.returned (.bool true)/\AbQ w2 (fun k=>w0.heap.size<=k/\k<w1.heap.size) w':=by
 obtain⟨p,b,o,c,ls,hp,hl,hq⟩:=own_ls hn hP h
 refine(kW P (P*3) (fun k=> ∃i,i<P*3/\0<c i/\k=b i) (some ⟨gl,0,none⟩) gl P w0.heap.size p b o (fun i=>(lsP n P i).length) c w2 hP.2 rfl (hid fun k=>Iff.rfl) (ls.to a) (hid hp) (hid fun i hi=>⟨rfl,(Below.cell a (p:=⟨gl,i,none⟩) hl.1).trans (hq i hi)⟩)).mono ?_
 rintro e w' ⟨rfl,h1,h2,h3,h4,h5⟩
 refine⟨rfl,h1,h2,h3,h4,fun k hk hn=>h5 k hk (fun⟨i,q1,q2,q3⟩=>hn ?_)⟩
 rw[q3]
 exact ls.blk i q1 q2
theorem oW(w:World):Calls prog 16 #[.slice none 0 0] w fun e w'=>e=.returned (.bool true)/\Ab w w':=by
 refine(kW 0 0 (fun _=>False) none 0 0 0 (fun _=>none) (fun _=>0) (fun _=>0) (fun _=>0) (fun _=>0) w (by omega) rfl (hid fun k=>⟨fun h=>h.elim,fun⟨i,hi,_⟩=>by omega⟩) ⟨fun i hi=>by omega,fun i hi=>by omega,fun i k hi=>by omega,fun i j x y hi=>by omega⟩ (hid fun i hi=>by omega) (hid fun i hi=>by omega)).mono ?_
 rintro e w' ⟨rfl,h1,h2,h3,h4,h5⟩
 exact⟨rfl,h1,h2,h3,h4,fun k hk=>h5 k hk (fun h=>h)⟩
end Spl
end
end Go.Proofs.YtjheiemgfibgpaaDoor
