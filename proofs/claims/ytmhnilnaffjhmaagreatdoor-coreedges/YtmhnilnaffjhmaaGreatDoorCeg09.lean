/-
  Some of the texts of this proof, one behind the other.
-/
import Derived.Test.YtmhnilnaffjhmaaGreatDoorRows
import Derived.Deep.OwnRows
import Derived.Deep.Cut
import Derived.Deep.CutRange
import Derived.Deep.AppendLies
import Derived.Deep.AppendSrc
import Derived.OwnWalk
import Derived.Deep.QuietTactic
import Derived.Test.YtmhnilnaffjhmaaGreatDoorCeg08
set_option maxRecDepth 100000
set_option maxHeartbeats 400000000
namespace Go.Proofs.YtmhnilnaffjhmaaGreatDoor
open _root_.Go.Proofs.Tryz
section
open Cu
namespace Ms
open Sh
def tk(n:Nat)(F:Nat->Int)(t:Nat):Int:=eS n t*F (eE n t)
def mv(n:Nat)(W F:Nat->Int)(c:Nat):Int:=W c - sumN (fun s=>tk n F (4*c+s)) 4
theorem yO(f g:Nat->Int): ∀n,sumN (fun i=>f i+g i) n=sumN f n+sumN g n
 | 0=>rfl
 | n+1=>by
  show sumN (fun i=>f i+g i) n+(f n+g n)=sumN f n+f n+(sumN g n+g n)
  rw[yO f g n]
  omega
theorem yP(f g:Nat->Int): ∀n,sumN (fun i=>f i - g i) n=sumN f n - sumN g n
 | 0=>rfl
 | n+1=>by
  show sumN (fun i=>f i - g i) n+(f n - g n)=sumN f n+f n - (sumN g n+g n)
  rw[yP f g n]
  omega
theorem rV(f:Nat->Int): ∀n,sumN (fun i=> -f i) n= -sumN f n
 | 0=>rfl
 | n+1=>by
  show sumN (fun i=> -f i) n+ -f n= -(sumN f n+f n)
  rw[rV f n]
  omega
theorem uG(h:Nat->Int): ∀m,sumN (fun c=>sumN (fun s=>h (4*c+s)) 4) m=sumN h (4*m)
 | 0=>rfl
 | m+1=>by
  show sumN (fun c=>sumN (fun s=>h (4*c+s)) 4) m+(0+h (4*m+0)+h (4*m+1)+h (4*m+2)+h (4*m+3))=sumN h (4*m+4)
  rw[uG h m]
  show _=sumN h (4*m)+h (4*m)+h (4*m+1)+h (4*m+2)+h (4*m+3)
  rw[Nat.add_zero]
  omega
theorem oE(h:Nat->Int): ∀n,sumN h n=((List.range n).map h).sum
 | 0=>rfl
 | n+1=>by
  show sumN h n+h n=_
  rw[oE h n,List.range_succ,List.map_append,List.sum_append]
  simp
theorem perm_sum{l m:List Int}(h:l.Perm m):l.sum=m.sum:=by
 induction h with
 | nil=>rfl
 | cons x _ ih=>rw[List.sum_cons,List.sum_cons,ih]
 | swap x y l=>rw[List.sum_cons,List.sum_cons,List.sum_cons,List.sum_cons];omega
 | trans _ _ ih1 ih2=>rw[ih1,ih2]
theorem tk_mt{n:Nat}{F:Nat->Int}{t:Nat}(hn:1<=n)(h:t<24*n*n):tk n F (mt n t)= -tk n F t:=by
 unfold tk
 rw[rT hn h,yM hn h,Int.neg_mul]
theorem tk_all{n:Nat}(F:Nat->Int)(hn:1<=n):sumN (tk n F) (24*n*n)=0:=by
 have h1:=perm_sum ((Ch hn).map (tk n F))
 rw[List.map_map]at h1
 have h2:(List.range (24*n*n)).map (tk n F ∘ mt n)=(List.range (24*n*n)).map (fun t=> -tk n F t):=List.map_congr_left fun t ht=>tk_mt hn (List.mem_range.1 ht)
 rw[h2,<- oE,<- oE,rV]at h1
 omega
theorem kept{n:Nat}(W F:Nat->Int)(hn:1<=n):sumN (mv n W F) (6*n*n)=sumN W (6*n*n):=by
 have e:sumN (mv n W F) (6*n*n)=sumN W (6*n*n) - sumN (fun c=>sumN (fun s=>tk n F (4*c+s)) 4) (6*n*n):=yP W _ _
 have f:=uG (tk n F) (6*n*n)
 rw[show 4*(6*n*n)=24*n*n by rw[Nat.mul_assoc,Nat.mul_assoc];omega,tk_all F hn]at f
 rw[e,f]
 omega
theorem tk_add(n:Nat)(F G:Nat->Int)(t:Nat):tk n (fun i=>F i+G i) t=tk n F t+tk n G t:=Int.mul_add _ _ _
theorem tk_neg(n:Nat)(F:Nat->Int)(t:Nat):tk n (fun i=> -F i) t= -tk n F t:=Int.mul_neg _ _
theorem mv_two(n:Nat)(W F G:Nat->Int)(c:Nat):mv n (mv n W F) G c=mv n W (fun i=>F i+G i) c:=by
 unfold mv
 have e:sumN (fun s=>tk n (fun i=>F i+G i) (4*c+s)) 4=sumN (fun s=>tk n F (4*c+s)+tk n G (4*c+s)) 4:=cG fun s _=>tk_add n F G _
 rw[e,yO]
 omega
theorem mv_back(n:Nat)(W F:Nat->Int)(c:Nat):mv n (mv n W F) (fun i=> -F i) c=W c:=by
 unfold mv
 have e:sumN (fun s=>tk n (fun i=> -F i) (4*c+s)) 4=sumN (fun s=> -tk n F (4*c+s)) 4:=cG fun s _=>tk_neg n F _
 rw[e,rV]
 omega
theorem tk_congr{n:Nat}{F G:Nat->Int}{t:Nat}(hn:1<=n)(h:t<24*n*n)(e: ∀i,i<12*n*n->F i=G i):tk n F t=tk n G t:=by
 unfold tk
 rw[e _ (fQ hn h)]
theorem mV{n:Nat}{W V F G:Nat->Int}{c:Nat}(hn:1<=n)(hc:c<6*n*n)(e:W c=V c)(f: ∀i,i<12*n*n->F i=G i):mv n W F c=mv n V G c:=by
 unfold mv
 rw[e,cG (fun s hs=>tk_congr hn (fE hc hs) f)]
theorem eE_iff{n k t:Nat}(hn:1<=n)(hk:k<12*n*n)(h:t<24*n*n):eE n t=k ↔ t=edT n k\/t=mt n (edT n k):=by
 obtain⟨t1,t2,t3⟩:=bM hn hk
 constructor
 ·intro e
  unfold eE at e
  by_cases l:isL n t=true
  ·rw[if_pos l]at e
   left
   rw[<- e,lO hn h l]
  ·rw[if_neg l]at e
   right
   have l2:isL n (mt n t)=true:=by rw[hQ hn h];simpa using l
   have:=lO hn (cX hn h) l2
   rw[e]at this
   rw[this,gX hn h]
 ·rintro(rfl | rfl)
  ·unfold eE;rw[if_pos t2,t3]
  ·rw[rT hn t1];unfold eE;rw[if_pos t2,t3]
theorem Dw{n k:Nat}(hn:1<=n)(hk:k<12*n*n):edT n k/4<mt n (edT n k)/4:=by
 obtain⟨t1,t2,t3⟩:=bM hn hk
 have h:=(eO hn t1).1
 rw[h]
 exact of_decide_eq_true t2
def oneF(k:Nat)(q:Int)(i:Nat):Int:=if i=k then q else 0
theorem tk_one{n k t:Nat}{q:Int}(hn:1<=n)(hk:k<12*n*n)(h:t<24*n*n):tk n (oneF k q) t=if t=edT n k then q else if t=mt n (edT n k)then -q else 0:=by
 obtain⟨t1,t2,t3⟩:=bM hn hk
 have i:=eE_iff hn hk h
 unfold tk oneF
 by_cases a:t=edT n k
 ·rw[if_pos (i.2 (Or.inl a)),if_pos a]
  unfold eS
  rw[a,if_pos t2]
  omega
 ·by_cases b:t=mt n (edT n k)
  ·rw[if_pos (i.2 (Or.inr b)),if_neg a,if_pos b,b,yM hn t1]
   unfold eS
   rw[if_pos t2]
   omega
  ·rw[if_neg (fun e=>(i.1 e).elim a b),if_neg a,if_neg b]
   omega
theorem mv_one{n k c:Nat}{q:Int}(W:Nat->Int)(hn:1<=n)(hk:k<12*n*n)(hc:c<6*n*n):mv n W (oneF k q) c=if c=edT n k/4 then W c - q else if c=mt n (edT n k)/4 then W c+q else W c:=by
 have ne:=Dw hn hk
 have e:sumN (fun s=>tk n (oneF k q) (4*c+s)) 4=sumN (fun s=>if 4*c+s=edT n k then q else if 4*c+s=mt n (edT n k)then -q else 0) 4:=cG fun s hs=>tk_one hn hk (fE hc hs)
 unfold mv
 rw[e]
 generalize edT n k=a at*
 generalize mt n a=b at*
 show W c - (0+(if 4*c+0=a then q else if 4*c+0=b then -q else 0)+(if 4*c+1=a then q else if 4*c+1=b then -q else 0)+(if 4*c+2=a then q else if 4*c+2=b then -q else 0)+(if 4*c+3=a then q else if 4*c+3=b then -q else 0))=_
 by_cases ca:c=a/4
 ·rw[if_pos ca]
  have h4:a%4=0\/a%4=1\/a%4=2\/a%4=3:=by omega
  rcases h4 with h | h | h | h
  ·rw[if_pos (show 4*c+0=a by omega),if_neg (show¬4*c+1=a by omega),if_neg (show¬4*c+1=b by omega),if_neg (show¬4*c+2=a by omega),if_neg (show¬4*c+2=b by omega),if_neg (show¬4*c+3=a by omega),if_neg (show¬4*c+3=b by omega)];omega
  ·rw[if_neg (show¬4*c+0=a by omega),if_neg (show¬4*c+0=b by omega),if_pos (show 4*c+1=a by omega),if_neg (show¬4*c+2=a by omega),if_neg (show¬4*c+2=b by omega),if_neg (show¬4*c+3=a by omega),if_neg (show¬4*c+3=b by omega)];omega
  ·rw[if_neg (show¬4*c+0=a by omega),if_neg (show¬4*c+0=b by omega),if_neg (show¬4*c+1=a by omega),if_neg (show¬4*c+1=b by omega),if_pos (show 4*c+2=a by omega),if_neg (show¬4*c+3=a by omega),if_neg (show¬4*c+3=b by omega)];omega
  ·rw[if_neg (show¬4*c+0=a by omega),if_neg (show¬4*c+0=b by omega),if_neg (show¬4*c+1=a by omega),if_neg (show¬4*c+1=b by omega),if_neg (show¬4*c+2=a by omega),if_neg (show¬4*c+2=b by omega),if_pos (show 4*c+3=a by omega)];omega
 ·rw[if_neg ca]
  rw[if_neg (show¬4*c+0=a by omega),if_neg (show¬4*c+1=a by omega),if_neg (show¬4*c+2=a by omega),if_neg (show¬4*c+3=a by omega)]
  by_cases cb:c=b/4
  ·rw[if_pos cb]
   have h4:b%4=0\/b%4=1\/b%4=2\/b%4=3:=by omega
   rcases h4 with h | h | h | h
   ·rw[if_pos (show 4*c+0=b by omega),if_neg (show¬4*c+1=b by omega),if_neg (show¬4*c+2=b by omega),if_neg (show¬4*c+3=b by omega)];omega
   ·rw[if_neg (show¬4*c+0=b by omega),if_pos (show 4*c+1=b by omega),if_neg (show¬4*c+2=b by omega),if_neg (show¬4*c+3=b by omega)];omega
   ·rw[if_neg (show¬4*c+0=b by omega),if_neg (show¬4*c+1=b by omega),if_pos (show 4*c+2=b by omega),if_neg (show¬4*c+3=b by omega)];omega
   ·rw[if_neg (show¬4*c+0=b by omega),if_neg (show¬4*c+1=b by omega),if_neg (show¬4*c+2=b by omega),if_pos (show 4*c+3=b by omega)];omega
  ·rw[if_neg cb,if_neg (show¬4*c+0=b by omega),if_neg (show¬4*c+1=b by omega),if_neg (show¬4*c+2=b by omega),if_neg (show¬4*c+3=b by omega)];omega
end Ms
end
section
open Tf Cu
namespace St
open Ss Fc
section
variable {n r:Nat}
def okB(n:Nat)(B:Nat->Nat)(W:Nat->Int)(S:Nat->Nat):Prop:=(∀c,c<6*n*n->B c<18446744073709551616/\W c<=9223372036854775807)/\ ∀e,e<12*n*n->cnF (S e)
theorem spE_cn{G dt D:Nat}{B:Nat->Nat}{W:Nat->Int}{S:Nat->Nat}(e:Nat):cnF (spE n G dt D B W S e):=by
 obtain⟨h1,h2,h3,-⟩:=oB n G dt D B W S e
 exact⟨h1,h3,fun q=>by rw[q]at h2;revert h2;decide+kernel⟩
theorem og_tk(F:Nat->Int)(t:Nat):Sh.og n F t=if 0<Ms.tk n F t then Ms.tk n F t else 0:=by
 unfold Sh.og Ms.tk
 rw[Int.mul_comm]
end
end St
end
section
open Go.RowKit Go.Deep
namespace Sh
def IsI(w:World)(a0:Option Addr)(len:Nat)(xs:Nat->Int):Prop:= ∀k,k<len->(-9223372036854775808<=xs k/\xs k<=9223372036854775807)/\ ∃b o,a0=some ⟨b,o,none⟩/\b<w.heap.size/\w.cell? ⟨b,o+k,none⟩=some (.int .i64 (xs k))
theorem IsI.below{w w':World}{a0:Option Addr}{len:Nat}{xs:Nat->Int}(h:IsI w a0 len xs)(hb:Below w.heap.size w w'):IsI w' a0 len xs:=by
 intro k hk
 obtain⟨h1,b,o,h2,h3,h4⟩:=h k hk
 exact⟨h1,b,o,h2,Nat.lt_of_lt_of_le h3 hb.size,(Below.cell hb h3).trans h4⟩
theorem IsI.some0{w:World}{a0:Option Addr}{len:Nat}{xs:Nat->Int}(h:IsI w a0 len xs)(h0:0<len): ∃b o,a0=some ⟨b,o,none⟩:=by
 obtain⟨_,b,o,h2,_⟩:=h 0 h0
 exact⟨b,o,h2⟩
theorem IsI.at0{w:World}{b o len k:Nat}{xs:Nat->Int}(h:IsI w (some ⟨b,o,none⟩) len xs)(hk:k<len):(-9223372036854775808<=xs k/\xs k<=9223372036854775807)/\b<w.heap.size/\w.cell? ⟨b,o+k,none⟩=some (.int .i64 (xs k)):=by
 obtain⟨h1,b',o',h2,h3,h4⟩:=h k hk
 cases h2
 exact⟨h1,h3,h4⟩
theorem IsI.nil(w:World)(a0:Option Addr)(xs:Nat->Int):IsI w a0 0 xs:=fun k hk=>absurd hk (Nat.not_lt_zero k)
theorem IsI.congr{w:World}{a0:Option Addr}{len:Nat}{xs ys:Nat->Int}(h:IsI w a0 len xs)(e: ∀k,k<len->xs k=ys k):IsI w a0 len ys:=fun k hk=>by rw[<- e k hk];exact h k hk
theorem qD(b off j:Nat):(⟨b,off,none⟩:Addr).add j=⟨b,off+j,none⟩:=by unfold Addr.add;split<;>simp_all
theorem oG{w:World}{b n:Nat}{f:Nat->Int}(h:w.rowIs b 2 n (fun i=>.int .i64 (f i)))(hf: ∀i,i<n-> -9223372036854775808<=f i/\f i<=9223372036854775807):IsI w (some ⟨b,0,none⟩) n f:=fun k hk=>⟨hf k hk,b,0,rfl,h.lt,by rw[Nat.zero_add];exact h.cell hk⟩
theorem cP{w w':World}{b:Nat}{t:TypeId}{n:Nat}{f:Nat->Value}(h:w.rowIs b t n f)(a:Ab w w'):w'.rowIs b t n f:=h.of_block (Below.block a _ h.lt)
theorem eW:(Tryz.prog.info? 2).map (fun i=>(i.zero,i.size,i.bytes))=some (some (.int .i64 0),1,8):=by kernel_rfl
def Own(B:Nat)(v:Value)(l:List Int)(w:World):Prop:=w.ownsRow B 2 1 v l.length (l.map (Value.int .i64))
theorem Own.in{B:Nat}{v:Value}{l:List Int}{w:World}(h:Own B v l w)(hl: ∀x ∈ l,-9223372036854775808<=x/\x<=9223372036854775807): ∃a0 cap,v=.slice a0 l.length cap/\IsI w a0 l.length (fun j=>l.getD j 0):=by
 rcases h.2 with⟨rfl,h0⟩ | ⟨g,cap,cur,rfl,hb,hg,h1,h2,h3,h4⟩
 ·exact⟨none,0,by rw[h0],fun k hk=>by omega⟩
 ·refine⟨some ⟨g,0,none⟩,cap,rfl,fun k hk=> ?_⟩
  have hx:l.getD k 0=l[k]:=by simp[List.getD,hk]
  refine⟨by dsimp only;rw[hx];exact hl _ (List.getElem_mem _),g,0,rfl,lt_of_block hg,?_⟩
  have e:=h.cells (g:=g) rfl k (.int .i64 (l.getD k 0)) (by simp[hk])
  rw[qD]at e
  exact e
theorem Own.new(w:World)(B:Nat):Own B (.slice none 0 0) [] w:=⟨by simp,.inl ⟨rfl,rfl⟩⟩
theorem Own.to{B:Nat}{v:Value}{l:List Int}{w w':World}(h:Own B v l w)(hb:Ab w w'):Own B v l w':=by
 refine⟨h.1,?_⟩
 rcases h.2 with h0 | ⟨g,cap,cur,e,hb',hg,h1,h2,h3,h4⟩
 ·exact .inl h0
 ·exact .inr ⟨g,cap,cur,e,hb',hb.heap hg,h1,h2,h3,h4⟩
theorem wB: ∃i,Tryz.prog.info? 2=some i/\i.zero=some (.int .i64 0)/\i.size=1/\i.bytes=8:=by
 have h:=eW
 cases e:Tryz.prog.info? 2 with
 | none=>rw[e]at h;cases h
 | some i=>
  rw[e]at h
  simp at h
  exact⟨i,rfl,h.1,h.2.1,h.2.2⟩
theorem qE(w:World)(B:Nat)(hB:B<=w.heap.size):Own B (.slice (some ⟨w.heap.size,0,none⟩) 0 0) [] (w.alloc (.cells #[] 2)):=
 ⟨by simp,.inr ⟨w.heap.size,0,#[],rfl,hB,heap_alloc_new _ _,Nat.le_refl _,by unfold maxLen;omega,by simp,by simp⟩⟩
theorem Bd{ops:Array Oper}{rest:List Oper}{o:Oper}{a:Act}{w:World}{Q:Exit->Act->World->Prop}(hgd:o.guard=none)(s x:Operand)
  (ho:o.op=.call {callee:=.builtin .append,args:= #[s,x],argTypes:= #[46,46]})
  (B:Nat) (v:Value) (l:List Int) (hs:a.eval s=v) (hown:Own B v l w)
  (ad:Addr) (m c:Nat) (news:List Int) (hx:a.eval x=.slice (some ad) m c) (hl:news.length=m) (hnews: ∀j u,(news.map (Value.int .i64))[j]? =some u->w.cell? (ad.add j)=some u)
  (hm:0<m) (hlen:l.length+m<=1048576) (hB:B<=w.heap.size) (nm:Nat) (hnm:l.length+m=nm)
  (h: ∀g cap w',Own B (.slice (some ⟨g,0,none⟩) nm cap) (l++news) w'->w.grownBy w' v.ownBlock->(v.ownBlock=some g\/g=w.heap.size)->B<=g->wpList prog ops Q rest (a.put o.dst (.slice (some ⟨g,0,none⟩) nm cap)) w'):wpList prog ops Q (o :: rest) a w:=by
 subst hnm
 obtain⟨i0,hi,hz0,hz1,hz2⟩:=wB
 refine wpList_append_lies w hgd s x _ ho B 2 i0 (.int .i64 0) 1 8 underlying46 hi hz0 hz1 hz2 rfl (by decide) v l.length (l.map (Value.int .i64)) hs hown ad m c (news.map (Value.int .i64)) hx (by simpa using hl) hnews (fun u hu=>by
  obtain⟨y,_,rfl⟩:=List.mem_map.1 hu
  rfl) hm (by unfold maxLen;omega) (by omega) hB _ rfl ?_
 intro g cap w' o1 g1 e1 _
 have hb:B<=g:=by
  rcases o1.2 with⟨q,_⟩ | ⟨g2,_,_,q,hb,_⟩
  ·cases q
  ·injection q with q1 q2 q3
   injection q1 with q4
   injection q4 with q5
   omega
 refine h g cap w' ?_ g1 e1 hb
 unfold Own
 rw[List.length_append,List.map_append,hl]
 exact o1
theorem src_in{w:World}{pb:Option Addr}{L:Nat}{B:Nat->Int}(h:IsI w pb L B)(cb:Nat):Src prog 1 46 (.slice pb L cb) L ((List.range L).map fun k=>Value.int .i64 (B k)) w:=by
 have one: ∀u ∈ (List.range L).map (fun k=>Value.int .i64 (B k)),u.oneCell'=true:=fun u hu=>by
  obtain⟨k,_,rfl⟩:=List.mem_map.1 hu
  rfl
 cases pb with
 | none=>
  have:L=0:=by
   rcases Nat.eq_zero_or_pos L with h0 | h0
   ·exact h0
   ·obtain⟨_,b,o,h2,_⟩:=h 0 h0
    cases h2
  subst this
  exact Src.ofNil w underlying46 cb
 | some a=>
  refine Src.ofSlice w underlying46 a L cb _ (by simp) (fun j u hu=> ?_) one
  have hj:j<L:=by
   rcases Nat.lt_or_ge j L with h1 | h1
   ·exact h1
   ·rw[List.getElem?_eq_none (by simpa using h1)]at hu;cases hu
  obtain⟨_,b,o,h2,_,h4⟩:=h j hj
  cases h2
  simp[hj]at hu
  rw[qD,<- hu]
  exact h4
end Sh
end
section
open Go.RowKit
namespace Sh
theorem wrapu(v:Int):IntKind.u64.wrap v=v%18446744073709551616:=by rw[IntKind.wrap_u64]
theorem rW{a b m:Int}(ha:0<=a)(hb:0<=b)(ha2:a<=m)(hb2:b<=m):0<=a*b/\a*b<=m*m:=⟨Int.mul_nonneg ha hb,Int.mul_le_mul ha2 hb2 hb (by omega)⟩
end Sh
end
section
open Go.RowKit
namespace Sh
theorem yQ(k:Nat):(0:Int)<2 ^ k:=Int.pow_pos (by decide)
end Sh
end
section
open Go.RowKit Go.Deep
namespace Sh
def W64(x:Int):Prop:= -9223372036854775808<=x/\x<=9223372036854775807
def PartC:Prop:= ∀(x y z:Int) (w:World),W64 x->W64 y->W64 z->Calls prog 93 #[.int .i64 x,.int .i64 y,.int .i64 z] w fun e w'=>e=.returned (.int .i64 (part x y z))/\Below w.heap.size w w'
def good(W:Int)(n:Nat)(f:Nat->Int):Prop:=0<=W/\(∀i,i<n->0<=f i)/\sumN f n<=9223372036854775807
def cutL(W:Int)(n:Nat)(f:Nat->Int):List Int:=(List.range n).map fun i=>lR W (sumN f n) (f i)
def CutC:Prop:= ∀(W:Int) (p:Option Addr) (n c:Nat) (f:Nat->Int) (w:World),W64 W->n<=65536->IsI w p n f->
 (good W n f->Calls prog 155 #[.int .i64 W,.slice p n c] w fun e w'=> ∃v,e=.returned (.tuple #[v,.int .i64 0])/\Below w.heap.size w w'/\Own w.heap.size v (cutL W n f) w')/\
 (¬good W n f->Calls prog 155 #[.int .i64 W,.slice p n c] w fun e w'=>e=.returned (.tuple #[.slice none 0 0,.int .i64 1])/\Below w.heap.size w w')
end Sh
end
section
open Go.RowKit Go.Deep Cu
namespace Sh
def fits(n lw:Nat)(W:Nat->Int)(lf:Nat)(F:Nat->Int):Prop:=lw=6*n*n/\lf=12*n*n/\(∀c,c<lw->0<=W c)/\(∀e,e<lf-> -4503599627370496<=F e/\F e<=4503599627370496)
def AllC:Prop:= ∀(n gb:Nat) (pw:Option Addr) (lw cw:Nat) (W:Nat->Int) (pf:Option Addr) (lf cf:Nat) (F:Nat->Int) (w:World),(1<=n/\n<=32)->GridOf n gb w->lw<=65536->lf<=65536->IsI w pw lw W->IsI w pf lf F->
 (fits n lw W lf F->Calls prog 75 #[.pointer (some ⟨gb,0,none⟩),.slice pw lw cw,.slice pf lf cf] w fun e w'=> ∃v,e=.returned (.tuple #[v,.int .i64 0])/\Below w.heap.size w w'/\Own w.heap.size v ((List.range (12*n*n)).map (allF n W F)) w')/\
 (¬fits n lw W lf F->Calls prog 75 #[.pointer (some ⟨gb,0,none⟩),.slice pw lw cw,.slice pf lf cf] w fun e w'=>e=.returned (.tuple #[.slice none 0 0,.int .i64 1])/\Below w.heap.size w w')
theorem allF_in{n:Nat}{W F:Nat->Int}{e:Nat}(hn:1<=n)(he:e<12*n*n)(hW: ∀c,c<6*n*n->0<=W c)(hF: ∀e,e<12*n*n-> -4503599627370496<=F e/\F e<=4503599627370496): -4503599627370496<=allF n W F e/\allF n W F e<=4503599627370496:=by
 have s:=EN hn he hW (m:=4503599627370496) ⟨by omega,by omega⟩ hF
 have b:=hF e he
 rcases Int.le_total 0 (F e)with h | h
 ·have:=s.1 h;omega
 ·have:=s.2 h;omega
end Sh
end
section
namespace Tr
open Sh
def tkA(h w:Int)(f:Nat->Int)(k:Nat):Int:=Sh.part h (sumN f (k+1)) w - Sh.part h (sumN f k) w
def okA(w:Int)(f:Nat->Int)(n:Nat):Prop:=(∀i,i<n->0<=f i)/\sumN f n<=w
theorem wE(h w:Int):Sh.part h 0 w=0:=by
 unfold Sh.part
 split
 ·rfl
 ·rw[Int.mul_zero,Int.zero_ediv]
  rfl
theorem tk_dry(h:Int)(f:Nat->Int)(k:Nat):tkA h 0 f k=0:=by
 have e: ∀y,Sh.part h y 0=0:=fun y=>by unfold Sh.part;rw[if_pos (by omega)]
 unfold tkA
 rw[e,e]
 rfl
section
variable {h w:Int} {f:Nat->Int} {n:Nat}
theorem okA.sum(o:okA w f n){k:Nat}(hk:k<=n):0<=sumN f k/\sumN f k<=w:=by
 have a:=fI o.1 hk
 have b:=fO (f:=f) (n:=k) (fun i hi=>o.1 i (by omega))
 have:=o.2
 exact⟨b,by omega⟩
theorem wF(h w:Int)(f:Nat->Int): ∀n,sumN (tkA h w f) n=Sh.part h (sumN f n) w
 | 0=>(wE h w).symm
 | n+1=>by
  show sumN (tkA h w f) n+tkA h w f n=_
  rw[wF h w f n]
  unfold tkA
  omega
theorem tk_own(h0:0<=h)(h1:h<=9223372036854775807)(o:okA w f n){k:Nat}(hk:k<n):tkA h w f k=Sh.part h (f k) w\/tkA h w f k=Sh.part h (f k) w+1:=by
 obtain⟨s0,s1⟩:=o.sum (k:=k) (by omega)
 obtain⟨t0,t1⟩:=o.sum (k:=k+1) (by omega)
 have fk:=o.1 k hk
 have st:sumN f (k+1)=sumN f k+f k:=rfl
 rcases Int.lt_or_le 0 w with hw | hw
 ·have a:=(jG h0 h1 s0 hw s1).1
  have b:=(jG h0 h1 t0 hw t1).1
  have c:=(jG h0 h1 fk hw (by omega)).1
  unfold tkA
  rw[a,b,c,st,Int.mul_add]
  have d1:=mQ (a:=h*sumN f k) hw
  have d2:=mQ (a:=h*f k) hw
  have d3:=mQ (a:=h*sumN f k+h*f k) hw
  generalize h*sumN f k=x at*
  generalize h*f k=y at*
  generalize x/w=p at*
  generalize y/w=q at*
  generalize(x+y)/w=r at*
  have l1:w*(p+q)<=w*r+(w - 1):=by rw[Int.mul_add];omega
  have l2:w*r<=w*(p+q)+(2*w - 2):=by rw[Int.mul_add];omega
  have m1:p+q<=r:=by
   rcases Int.lt_or_le r (p+q)with g | g
   ·have:w*(r+1)<=w*(p+q):=Int.mul_le_mul_of_nonneg_left (by omega) (by omega)
    rw[Int.mul_add]at this
    omega
   ·exact g
  have m2:r<=p+q+1:=by
   rcases Int.lt_or_le (p+q+1) r with g | g
   ·have:w*(p+q+2)<=w*r:=Int.mul_le_mul_of_nonneg_left (by omega) (by omega)
    rw[Int.mul_add]at this
    omega
   ·exact g
  omega
 ·left
  have e:w=0:=by omega
  have g:f k=0:=by omega
  rw[e,g,tk_dry,wE]
theorem tk_nn(h0:0<=h)(h1:h<=9223372036854775807)(o:okA w f n){k:Nat}(hk:k<n):0<=tkA h w f k:=by
 have a:=gK h (f k) w
 rcases tk_own h0 h1 o hk with e | e<;>omega
theorem tk_zero{k:Nat}(e:f k=0):tkA h w f k=0:=by
 have st:sumN f (k+1)=sumN f k+f k:=rfl
 unfold tkA
 rw[st,e,Int.add_zero]
 omega
theorem Dx(h0:0<=h)(h1:h<=9223372036854775807)(o:okA w f n):sumN (tkA h w f) n<=h/\(0<w->sumN f n=w->sumN (tkA h w f) n=h):=by
 obtain⟨s0,s1⟩:=o.sum (k:=n) (by omega)
 rw[wF]
 rcases Int.lt_or_le 0 w with hw | hw
 ·obtain⟨a,b,c⟩:=jG h0 h1 s0 hw s1
  refine⟨c,fun _ e=> ?_⟩
  rw[a,e,Int.mul_ediv_cancel _ (by omega)]
 ·have e:Sh.part h (sumN f n) w=0:=by unfold Sh.part;rw[if_pos (by omega)]
  rw[e]
  exact⟨h0,fun h=>by omega⟩
theorem tk_in(h0:0<=h)(h1:h<=9223372036854775807)(o:okA w f n){k:Nat}(hk:k<n):tkA h w f k<=h:=by
 have a:=Dx h0 h1 o
 have c:=fI (f:=tkA h w f) (n:=n) (fun i hi=>tk_nn h0 h1 o hi) (m:=k+1) (by omega)
 have d:=fO (f:=tkA h w f) (n:=k) (fun i hi=>tk_nn h0 h1 o (by omega))
 have st:sumN (tkA h w f) (k+1)=sumN (tkA h w f) k+tkA h w f k:=rfl
 omega
end
end Tr
end
section
open Cu
namespace Sh
def allP(n:Nat)(W F:Nat->Int)(T e:Nat):Int:=(if edT n e<T then ct n W F (edT n e)else 0) - (if mt n (edT n e)<T then ct n W F (mt n (edT n e))else 0)
theorem ER(n:Nat)(W F:Nat->Int)(e:Nat):allP n W F 0 e=0:=by unfold allP;simp
theorem allP_all{n:Nat}{W F:Nat->Int}{e:Nat}(hn:1<=n)(he:e<12*n*n):allP n W F (24*n*n) e=allF n W F e:=by
 obtain⟨t1,-,-⟩:=bM hn he
 unfold allP allF
 rw[if_pos t1,if_pos (cX hn t1)]
theorem mt_ne{n t:Nat}(hn:1<=n)(h:t<24*n*n):mt n t≠t:=fun e=>by
 have k:=hQ hn h
 rw[e]at k
 cases q:isL n t<;>rw[q]at k<;>cases k
theorem EV{n:Nat}{W F:Nat->Int}{T e:Nat}(hn:1<=n)(hT:T<24*n*n)(he:e<12*n*n)(hW: ∀c,c<6*n*n->0<=W c)(hF: ∀e,e<12*n*n-> -4503599627370496<=F e/\F e<=4503599627370496):
  allP n W F (T+1) e=if e=eE n T/\0<ct n W F T then ct n W F T*eS n T else allP n W F T e:=by
 obtain⟨t1,t2,t3⟩:=bM hn he
 have m1:=cX hn t1
 have eE1:eE n (edT n e)=e:=by unfold eE;rw[if_pos t2,t3]
 have hm:=cX hn hT
 have b: ∀t,t<24*n*n->og n F t<=9223372036854775807:=fun t ht=>by have:=mT (n:=n) (F:=F) (t:=t) (m:=4503599627370496) (by omega) (hF _ (fQ hn ht));omega
 have cT:=rU (n:=n) (hW _ (aW hT)) (b T hT)
 have ne:=mt_ne hn hT
 by_cases q:e=eE n T
 ·have ed:edT n e=if isL n T=true then T else mt n T:=by rw[q];exact oD hn hT
  by_cases l:isL n T=true
  ·rw[if_pos l]at ed
   have es:eS n T=1:=by unfold eS;rw[if_pos l]
   unfold allP
   rw[ed,es,if_pos (show T<T+1 by omega),if_neg (show¬T<T by omega)]
   by_cases z:0<ct n W F T
   ·rw[if_pos (show e=eE n T/\0<ct n W F T from⟨q,z⟩)]
    have o:og n F (mt n T)=0:=(oC (F:=F) hn hT).resolve_left (by omega)
    rw[mU (hW _ (aW hm)) o]
    simp
   ·rw[if_neg (show¬(e=eE n T/\0<ct n W F T)from fun h=>z h.2)]
    have z0:ct n W F T=0:=by omega
    rw[z0]
    have k:(mt n T<T+1) ↔ (mt n T<T):=by omega
    simp only[k]
  ·rw[if_neg l]at ed
   have es:eS n T= -1:=by unfold eS;rw[if_neg l]
   unfold allP
   rw[ed,es,gX hn hT,if_pos (show T<T+1 by omega),if_neg (show¬T<T by omega)]
   by_cases z:0<ct n W F T
   ·rw[if_pos (show e=eE n T/\0<ct n W F T from⟨q,z⟩)]
    have o:og n F (mt n T)=0:=(oC (F:=F) hn hT).resolve_left (by omega)
    rw[mU (hW _ (aW hm)) o]
    simp
   ·rw[if_neg (show¬(e=eE n T/\0<ct n W F T)from fun h=>z h.2)]
    have z0:ct n W F T=0:=by omega
    rw[z0]
    have k:(mt n T<T+1) ↔ (mt n T<T):=by omega
    simp only[k]
 ·rw[if_neg (show¬(e=eE n T/\0<ct n W F T)from fun h=>q h.1)]
  have n1:edT n e≠T:=fun h=>q (by rw[<- h,eE1])
  have n2:mt n (edT n e)≠T:=fun h=>q (by rw[<- h,rT hn t1,eE1])
  unfold allP
  have k1:(edT n e<T+1) ↔ (edT n e<T):=by omega
  have k2:(mt n (edT n e)<T+1) ↔ (mt n (edT n e)<T):=by omega
  simp only[k1,k2]
end Sh
end
section
open Cu
namespace Tr
open Sh
def oA(n:Nat)(F:Nat->Int)(c:Nat)(s:Nat):Int:=og n F (4*c+s)
def tks(n:Nat)(W H F:Nat->Int)(t:Nat):Int:=tkA (H (t/4)) (W (t/4)) (oA n F (t/4)) (t%4)
def flF(n:Nat)(W H F:Nat->Int)(e:Nat):Int:=tks n W H F (edT n e) - tks n W H F (mt n (edT n e))
def Be(n lw:Nat)(W:Nat->Int)(lh:Nat)(H:Nat->Int)(lf:Nat)(F:Nat->Int):Prop:=lw=6*n*n/\lh=6*n*n/\lf=12*n*n/\(∀c,c<lw->0<=W c)/\(∀c,c<lh->0<=H c)/\(∀e,e<lf-> -4503599627370496<=F e/\F e<=4503599627370496)/\(∀c,c<lw->oS n F c<=W c)
section
variable {n:Nat} {W H F:Nat->Int} {t c:Nat}
theorem oA_ok(h:oS n F c<=W c):okA (W c) (oA n F c) 4:=⟨fun _ _=>yN _ _ _,h⟩
theorem oA_t(t:Nat):oA n F (t/4) (t%4)=og n F t:=by
 unfold oA
 have:4*(t/4)+t%4=t:=by omega
 rw[this]
theorem sA(h0:0<=H (t/4))(h1:H (t/4)<=9223372036854775807)(o:oS n F (t/4)<=W (t/4)):0<=tks n W H F t:=tk_nn h0 h1 (oA_ok o) (by omega)
theorem tks_le(h0:0<=H (t/4))(h1:H (t/4)<=9223372036854775807)(o:oS n F (t/4)<=W (t/4)):tks n W H F t<=H (t/4):=tk_in h0 h1 (oA_ok o) (by omega)
theorem kC(h:og n F t=0):tks n W H F t=0:=tk_zero (by rw[oA_t];exact h)
theorem flF_side(hn:1<=n)(h:t<24*n*n):flF n W H F (eE n t)*eS n t=tks n W H F t - tks n W H F (mt n t):=by
 unfold flF
 rw[oD hn h]
 unfold eS
 by_cases c:isL n t=true
 ·rw[if_pos c,if_pos c];omega
 ·rw[if_neg c,if_neg c,gX hn h];omega
theorem flF_in(hn:1<=n){e:Nat}(he:e<12*n*n)(hH: ∀c,c<6*n*n->0<=H c/\H c<=9223372036854775807)(o: ∀c,c<6*n*n->oS n F c<=W c): -9223372036854775807<=flF n W H F e/\flF n W H F e<=9223372036854775807:=by
 obtain⟨t1,t2,t3⟩:=bM hn he
 have m1:=cX hn t1
 have a:=hH _ (aW t1)
 have b:=hH _ (aW m1)
 have c1:=sA (t:=edT n e) a.1 a.2 (o _ (aW t1))
 have c2:=sA (t:=mt n (edT n e)) b.1 b.2 (o _ (aW m1))
 have d1:=tks_le (t:=edT n e) a.1 a.2 (o _ (aW t1))
 have d2:=tks_le (t:=mt n (edT n e)) b.1 b.2 (o _ (aW m1))
 unfold flF
 omega
theorem Bf(n:Nat)(W H F:Nat->Int)(c:Nat):sumN (fun s=>tks n W H F (4*c+s)) 4=Sh.part (H c) (oS n F c) (W c):=by
 have e:sumN (fun s=>tks n W H F (4*c+s)) 4=sumN (tkA (H c) (W c) (oA n F c)) 4:=by
  refine cG (fun s hs=> ?_)
  unfold tks
  rw[(lY hs).1,(lY hs).2]
 rw[e,wF]
 rfl
theorem Bg(h0:0<=H c)(h1:H c<=9223372036854775807)(o:oS n F c<=W c):Sh.part (H c) (oS n F c) (W c)<=H c/\(0<oS n F c->oS n F c=W c->Sh.part (H c) (oS n F c) (W c)=H c):=by
 have a:=Dx h0 h1 (oA_ok o)
 rw[wF]at a
 refine⟨a.1,fun p q=>a.2 ?_ q⟩
 omega
theorem cut_og(hn:1<=n)(h:t<24*n*n)(hW: ∀c,c<6*n*n->0<=W c){m:Int}(hm:0<=m/\m<=9223372036854775807)(hF: ∀e,e<12*n*n-> -m<=F e/\F e<=m):og n (allF n W F) t=ct n W F t:=Bb hn h hW hm hF
theorem cut_oS(hn:1<=n)(hc:c<6*n*n)(hW: ∀c,c<6*n*n->0<=W c){m:Int}(hm:0<=m/\m<=2305843009213693951)(hF: ∀e,e<12*n*n-> -m<=F e/\F e<=m):oS n (allF n W F) c<=W c:=by
 have e:oS n (allF n W F) c=sumN (fun s=>ct n W F (4*c+s)) 4:=by
  unfold oS
  exact cG (fun s hs=>cut_og hn (fE hc hs) hW ⟨hm.1,by omega⟩ hF)
 rw[e]
 have k:=Bc hc hn (hW c hc) hm hF
 rcases Int.lt_or_le (W c) (oS n F c)with q | q
 ·exact(k.2 q).1
 ·rw[k.1 q];exact q
end
def flP(n:Nat)(W H F:Nat->Int)(T:Nat)(e:Nat):Int:=(if edT n e<T then tks n W H F (edT n e)else 0) - (if mt n (edT n e)<T then tks n W H F (mt n (edT n e))else 0)
theorem flP_0(n:Nat)(W H F:Nat->Int)(e:Nat):flP n W H F 0 e=0:=by unfold flP;rw[if_neg (by omega),if_neg (by omega)];rfl
theorem flP_all{n:Nat}{W H F:Nat->Int}{e:Nat}(hn:1<=n)(he:e<12*n*n):flP n W H F (24*n*n) e=flF n W H F e:=by
 obtain⟨t1,_,_⟩:=bM hn he
 unfold flP flF
 rw[if_pos t1,if_pos (cX hn t1)]
theorem flP_step{n:Nat}{W H F:Nat->Int}{T e:Nat}(hn:1<=n)(hT:T<24*n*n)(he:e<12*n*n)(hH: ∀c,c<6*n*n->0<=H c/\H c<=9223372036854775807)(o: ∀c,c<6*n*n->oS n F c<=W c):
  flP n W H F (T+1) e=if e=eE n T/\0<tks n W H F T then tks n W H F T*eS n T else flP n W H F T e:=by
 obtain⟨t1,t2,t3⟩:=bM hn he
 have m1:=cX hn t1
 have eE1:eE n (edT n e)=e:=by unfold eE;rw[if_pos t2,t3]
 have cT:=sA (t:=T) (hH _ (aW hT)).1 (hH _ (aW hT)).2 (o _ (aW hT))
 have gz:0<tks n W H F T->og n F (mt n T)=0:=fun z=>(oC (F:=F) hn hT).resolve_left (fun h=>by have:=kC (W:=W) (H:=H) h;omega)
 have ne:=mt_ne hn hT
 by_cases q:e=eE n T
 ·have ed:edT n e=if isL n T=true then T else mt n T:=by rw[q];exact oD hn hT
  by_cases l:isL n T=true
  ·rw[if_pos l]at ed
   have es:eS n T=1:=by unfold eS;rw[if_pos l]
   unfold flP
   rw[ed,es,if_pos (show T<T+1 by omega),if_neg (show¬T<T by omega)]
   by_cases z:0<tks n W H F T
   ·rw[if_pos (show e=eE n T/\0<tks n W H F T from⟨q,z⟩)]
    rw[kC (W:=W) (H:=H) (gz z)]
    simp
   ·rw[if_neg (show¬(e=eE n T/\0<tks n W H F T)from fun h=>z h.2)]
    have z0:tks n W H F T=0:=by omega
    rw[z0]
    have k:(mt n T<T+1) ↔ (mt n T<T):=by omega
    simp only[k]
  ·rw[if_neg l]at ed
   have es:eS n T= -1:=by unfold eS;rw[if_neg l]
   unfold flP
   rw[ed,es,gX hn hT,if_pos (show T<T+1 by omega),if_neg (show¬T<T by omega)]
   by_cases z:0<tks n W H F T
   ·rw[if_pos (show e=eE n T/\0<tks n W H F T from⟨q,z⟩)]
    rw[kC (W:=W) (H:=H) (gz z)]
    simp
   ·rw[if_neg (show¬(e=eE n T/\0<tks n W H F T)from fun h=>z h.2)]
    have z0:tks n W H F T=0:=by omega
    rw[z0]
    have k:(mt n T<T+1) ↔ (mt n T<T):=by omega
    simp only[k]
 ·rw[if_neg (show¬(e=eE n T/\0<tks n W H F T)from fun h=>q h.1)]
  have n1:edT n e≠T:=fun h=>q (by rw[<- h,eE1])
  have n2:mt n (edT n e)≠T:=fun h=>q (by rw[<- h,rT hn t1,eE1])
  unfold flP
  have k1:(edT n e<T+1) ↔ (edT n e<T):=by omega
  have k2:(mt n (edT n e)<T+1) ↔ (mt n (edT n e)<T):=by omega
  simp only[k1,k2]
end Tr
end
section
open Go.RowKit Tf Cu Go.Deep
namespace Rv
def kb(x:Nat):Nat:=placeB (canonB x)
def kB(B:Nat->Nat)(c:Nat):Nat:=kb (B c)
def dnR(n:Nat)(B:Nat->Nat)(c:Nat):Int:=dnI (kB B) (fun s=>bsC n c s) c
def shR(n:Nat)(x:Int)(c:Nat):Bool:=flt (dpB x (arC n c)) 4602678819172646912
def runR(n:Nat)(B:Nat->Nat)(W T:Nat->Int):(Nat->Int) × (Nat->Int):=rvL (dnR n B) (shR n) (W,T) (ordL (kB B) (6*n*n))
def wG(n lb lw lt ls:Nat)(W T:Nat->Int):Prop:=(lb=6*n*n/\lw=6*n*n/\lt=6*n*n/\ls=12*n*n)/\okV (6*n*n) W/\okV (6*n*n) T
def RunC:Prop:= ∀(n gb:Nat) (pb:Option Addr) (lb cb:Nat) (B:Nat->Nat) (pw:Option Addr) (lw cw:Nat) (W:Nat->Int) (pt:Option Addr) (lt ct:Nat) (T:Nat->Int) (ps:Option Addr) (ls cs:Nat) (Sp:Nat->Nat) (sky st:Int) (w:World),(1<=n/\n<=32)->GridOf n gb w->IsFl w pb lb B->Sh.IsI w pw lw W->Sh.IsI w pt lt T->IsFl w ps ls Sp->
 (wG n lb lw lt ls W T->Calls prog 47 #[.pointer (some ⟨gb,0,none⟩),.agg #[.slice pb lb cb,.slice pw lw cw,.slice pt lt ct,.slice ps ls cs,.int .i64 sky,.int .i64 st]] w fun e w'=> ∃v u,e=.returned (.tuple #[v,u,.int .i64 0])/\Below w.heap.size w w'/\Sh.Own w.heap.size v ((List.range (6*n*n)).map (runR n B W T).1) w'/\Sh.Own w.heap.size u ((List.range (6*n*n)).map (runR n B W T).2) w'/\ ∀k,v.ownBlock=some k->u.ownBlock≠some k)/\
 (¬wG n lb lw lt ls W T->Calls prog 47 #[.pointer (some ⟨gb,0,none⟩),.agg #[.slice pb lb cb,.slice pw lw cw,.slice pt lt ct,.slice ps ls cs,.int .i64 sky,.int .i64 st]] w fun e w'=>e=.returned (.tuple #[.slice none 0 0,.slice none 0 0,.int .i64 1])/\Below w.heap.size w w')
theorem bsC_lt{n c s:Nat}(hn:1<=n)(hc:c<6*n*n)(hs:s<4):bsC n c s<6*n*n:=by
 have ht:4*c+s<24*n*n:=fE hc hs
 have h:=(eO hn ht).1
 have m:=aW (cX hn ht)
 rw[h]at m
 have e1:(4*c+s)/4=c:=by omega
 have e2:(4*c+s)%4=s:=by omega
 rw[e1,e2]at m
 exact m
theorem okD_R{n:Nat}{B:Nat->Nat}(hn:1<=n):okD (6*n*n) (dnR n B):=fun c hc h=>by
 obtain⟨d,e,k,⟨s,hs,q⟩,-⟩:=dnI_yes h
 have e2:(dnR n B c).toNat=d:=by show(dnI _ _ _).toNat=d;rw[e];rfl
 rw[e2,<- q]
 refine⟨bsC_lt hn hc hs,fun h2=> ?_⟩
 rw[<- q,h2]at k
 omega
theorem runR_ok{n lb lw lt ls:Nat}{B:Nat->Nat}{W T:Nat->Int}(hn:1<=n)(g:wG n lb lw lt ls W T):(okV (6*n*n) (runR n B W T).1/\okV (6*n*n) (runR n B W T).2)/\Sh.sumN (runR n B W T).1 (6*n*n)=Sh.sumN W (6*n*n)/\Sh.sumN (runR n B W T).2 (6*n*n)=Sh.sumN T (6*n*n):=rvL_ok (okD_R hn) (fun _ h=>ordL_mem.1 h) g.2
end Rv
end
section
open Tf Cu
namespace St
open Ss Fc
def wtF(n:Nat)(lim:Int)(G dt D:Nat)(B:Nat->Nat)(W:Nat->Int)(S:Nat->Nat):Nat->Int:=flB n lim B W (spE n G dt D B W S) dt
def waF(n:Nat)(lim:Int)(G dt D:Nat)(B:Nat->Nat)(W:Nat->Int)(S:Nat->Nat):Nat->Int:=Sh.allF n W (wtF n lim G dt D B W S)
def trF(n:Nat)(lim:Int)(G dt D:Nat)(B:Nat->Nat)(W T:Nat->Int)(S:Nat->Nat):Nat->Int:=Tr.flF n W T (waF n lim G dt D B W S)
def mvW(n:Nat)(lim:Int)(G dt D:Nat)(B:Nat->Nat)(W:Nat->Int)(S:Nat->Nat):Nat->Int:=Ms.mv n W (waF n lim G dt D B W S)
def mvT(n:Nat)(lim:Int)(G dt D:Nat)(B:Nat->Nat)(W T:Nat->Int)(S:Nat->Nat):Nat->Int:=Ms.mv n T (trF n lim G dt D B W T S)
def raX(n:Nat)(lim:Int)(G dt D:Nat)(lr:Nat)(R:Nat->Int × Int × Int × Int)(B:Nat->Nat)(W:Nat->Int)(S:Nat->Nat)(sky st:Int):(Nat->Int) × Int:=Rn.rnN st R (mvW n lim G dt D B W S,sky) lr
def riX(n:Nat)(lim:Int)(G dt D:Nat)(rv:Bool)(lr:Nat)(R:Nat->Int × Int × Int × Int)(B:Nat->Nat)(W T:Nat->Int)(S:Nat->Nat)(sky st:Int):(Nat->Int) × (Nat->Int):=
 if rv=true then Rv.runR n B (raX n lim G dt D lr R B W S sky st).1 (mvT n lim G dt D B W T S)else((raX n lim G dt D lr R B W S sky st).1,mvT n lim G dt D B W T S)
def stN(st:Int):Int:=if st<4611686018427387904 then st+1 else st
def okP(n G dt D lr:Nat)(R:Nat->Int × Int × Int × Int):Prop:=(1<=n/\n<=32)/\(G<18446744073709551616/\dt<18446744073709551616/\D<18446744073709551616)/\lr<=1024/\ ∀k,k<lr->Rn.okR (6*n*n) (R k)
def okS(n:Nat)(B:Nat->Nat)(W T:Nat->Int)(S:Nat->Nat)(sky st:Int):Prop:=okN (6*n*n) B W T S sky st/\(∀c,c<6*n*n->B c<18446744073709551616)/\ ∀e,e<12*n*n->S e<18446744073709551616
theorem sB{W:Nat->Int}{n i:Nat}(h: ∀j,j<n->0<=W j)(hi:i<n):W i<=Sh.sumN W n:=by
 have m:=Sh.fI h (m:=i+1) (by omega)
 have e:Sh.sumN W (i+1)=Sh.sumN W i+W i:=rfl
 have z:=Sh.fO (f:=W) (n:=i) (fun j hj=>h j (by omega))
 omega
section
variable {n:Nat}
theorem tk_og(F:Nat->Int)(t:Nat):Ms.tk n F t<=Sh.og n F t:=by
 rw[og_tk]
 split<;>omega
theorem Dy{f g:Nat->Int}{c:Nat}(h: ∀s,s<4->f (4*c+s)<=g (4*c+s)):Sh.sumN (fun s=>f (4*c+s)) 4<=Sh.sumN (fun s=>g (4*c+s)) 4:=by
 have h0:=h 0 (by omega)
 have h1:=h 1 (by omega)
 have h2:=h 2 (by omega)
 have h3:=h 3 (by omega)
 show 0+f (4*c+0)+f (4*c+1)+f (4*c+2)+f (4*c+3)<=0+g (4*c+0)+g (4*c+1)+g (4*c+2)+g (4*c+3)
 omega
theorem mv_nn{W F:Nat->Int}{c:Nat}(h:Sh.oS n F c<=W c):0<=Ms.mv n W F c:=by
 have k:=Dy (f:=Ms.tk n F) (g:=Sh.og n F) (c:=c) (fun s _=>tk_og _ _)
 unfold Sh.oS at h
 unfold Ms.mv
 omega
theorem mvt_nn{W T F:Nat->Int}(hn:1<=n){c:Nat}(hc:c<6*n*n)(hT: ∀c,c<6*n*n->0<=T c/\T c<=9223372036854775807)(o: ∀c,c<6*n*n->Sh.oS n F c<=W c):0<=Ms.mv n T (Tr.flF n W T F) c:=by
 have k:=Dy (f:=Ms.tk n (Tr.flF n W T F)) (g:=Tr.tks n W T F) (c:=c) (fun s hs=>by
  have ht:=fE hc hs
  have h2:=cX hn ht
  have e:Ms.tk n (Tr.flF n W T F) (4*c+s)=Tr.tks n W T F (4*c+s) - Tr.tks n W T F (mt n (4*c+s)):=by
   unfold Ms.tk
   rw[Int.mul_comm]
   exact Tr.flF_side hn ht
  have z:=Tr.sA (t:=mt n (4*c+s)) (hT _ (aW h2)).1 (hT _ (aW h2)).2 (o _ (aW h2))
  rw[e]
  omega)
 have m:=(Tr.Bg (hT c hc).1 (hT c hc).2 (o c hc)).1
 rw[Tr.Bf]at k
 unfold Ms.mv
 omega
end
section
variable {n G dt D lr:Nat} {lim:Int} {rv:Bool} {R:Nat->Int × Int × Int × Int} {B:Nat->Nat} {W T:Nat->Int} {S:Nat->Nat} {sky st:Int}
theorem okS_B(h:okS n B W T S sky st):okB n B W S:=by
 obtain⟨⟨-,k0,⟨w1,w2⟩,-,s1,-⟩,b,s⟩:=h
 have e2:2*(6*n*n)=12*n*n:=by rw[Nat.mul_assoc,Nat.mul_assoc];omega
 refine⟨fun c hc=>⟨b c hc,?_⟩,fun e he=>bS_cn (s e he) (s1 e (by omega))⟩
 have:=sB w1 hc
 have:=k0.1
 omega
theorem yR(hp:okP n G dt D lr R)(h:okS n B W T S sky st){e:Nat}(_he:e<12*n*n): -4503599627370496<=wtF n lim G dt D B W S e/\wtF n lim G dt D B W S e<=4503599627370496:=by
 have k:=okS_B h
 exact qn_in (oB n G dt D B W S e).1 (rS hp.1.1 (fun i hi=>(k.1 i hi).1) (fun i hi=>(k.1 i hi).2) _ _).1 (yL _ _) hp.2.1.2.1
theorem wa_fit(hp:okP n G dt D lr R)(h:okS n B W T S sky st):Sh.fits n (6*n*n) W (12*n*n) (wtF n lim G dt D B W S):=⟨rfl,rfl,h.1.2.2.1.1,fun _ he=>yR hp h he⟩
theorem wa_in(hp:okP n G dt D lr R)(h:okS n B W T S sky st){e:Nat}(he:e<12*n*n): -4503599627370496<=waF n lim G dt D B W S e/\waF n lim G dt D B W S e<=4503599627370496:=Sh.allF_in hp.1.1 he h.1.2.2.1.1 (fun _ he=>yR hp h he)
theorem wa_oS(hp:okP n G dt D lr R)(h:okS n B W T S sky st){c:Nat}(hc:c<6*n*n):Sh.oS n (waF n lim G dt D B W S) c<=W c:=Tr.cut_oS hp.1.1 hc h.1.2.2.1.1 (m:=4503599627370496) ⟨by omega,by omega⟩ (fun _ he=>yR hp h he)
theorem okT(h:okS n B W T S sky st){c:Nat}(hc:c<6*n*n):0<=T c/\T c<=9223372036854775807:=by
 have:=h.1.2.2.2.1.b hc
 omega
theorem tr_fit(hp:okP n G dt D lr R)(h:okS n B W T S sky st):Tr.Be n (6*n*n) W (6*n*n) T (12*n*n) (waF n lim G dt D B W S):=⟨rfl,rfl,rfl,h.1.2.2.1.1,h.1.2.2.2.1.1,fun _ he=>wa_in hp h he,fun _ hc=>wa_oS hp h hc⟩
theorem tr_in(hp:okP n G dt D lr R)(h:okS n B W T S sky st){e:Nat}(he:e<12*n*n): -9223372036854775807<=trF n lim G dt D B W T S e/\trF n lim G dt D B W T S e<=9223372036854775807:=Tr.flF_in hp.1.1 he (fun _ hc=>okT h hc) (fun _ hc=>wa_oS hp h hc)
theorem Bh(hp:okP n G dt D lr R)(h:okS n B W T S sky st):(∀c,c<6*n*n->0<=mvW n lim G dt D B W S c/\mvW n lim G dt D B W S c<=4503599627370496)/\Sh.sumN (mvW n lim G dt D B W S) (6*n*n)=Sh.sumN W (6*n*n):=by
 have k:Sh.sumN (mvW n lim G dt D B W S) (6*n*n)=Sh.sumN W (6*n*n):=Ms.kept W _ hp.1.1
 have nn: ∀c,c<6*n*n->0<=mvW n lim G dt D B W S c:=fun c hc=>mv_nn (wa_oS hp h hc)
 refine⟨fun c hc=>⟨nn c hc,?_⟩,k⟩
 have:=sB nn hc
 have:=h.1.2.2.1.2
 have:=h.1.2.1
 omega
theorem Bi(hp:okP n G dt D lr R)(h:okS n B W T S sky st):Rv.okV (6*n*n) (mvT n lim G dt D B W T S)/\Sh.sumN (mvT n lim G dt D B W T S) (6*n*n)=Sh.sumN T (6*n*n):=by
 have k:Sh.sumN (mvT n lim G dt D B W T S) (6*n*n)=Sh.sumN T (6*n*n):=Ms.kept T _ hp.1.1
 exact⟨⟨fun c hc=>mvt_nn hp.1.1 hc (fun _ hc=>okT h hc) (fun _ hc=>wa_oS hp h hc),by rw[k];exact h.1.2.2.2.1.2⟩,k⟩
theorem ra_good(hp:okP n G dt D lr R)(h:okS n B W T S sky st):Rn.rO (6*n*n) (mvW n lim G dt D B W S) sky lr R st:=⟨h.1.2.2.2.2.2.1,h.1.2.1,hp.2.2.1,(Bh hp h).1,hp.2.2.2⟩
theorem ra_ok(hp:okP n G dt D lr R)(h:okS n B W T S sky st):Rv.okV (6*n*n) (raX n lim G dt D lr R B W S sky st).1/\0<=(raX n lim G dt D lr R B W S sky st).2/\Sh.sumN (raX n lim G dt D lr R B W S sky st).1 (6*n*n)+(raX n lim G dt D lr R B W S sky st).2=Sh.sumN W (6*n*n)+sky:=by
 have m:=Bh (lim:=lim) hp h
 have nn:=Rn.vS (n:=6*n*n) (st:=st) (R:=R) (X:=(mvW n lim G dt D B W S,sky)) ⟨fun c hc=>(m.1 c hc).1,h.1.2.1.1⟩ (k:=lr) hp.2.2.2
 have k:=Rn.yF (n:=6*n*n) (st:=st) (R:=R) (X:=(mvW n lim G dt D B W S,sky)) (k:=lr) hp.2.2.2
 have e:Sh.sumN (raX n lim G dt D lr R B W S sky st).1 (6*n*n)+(raX n lim G dt D lr R B W S sky st).2=Sh.sumN W (6*n*n)+sky:=by
  refine k.trans ?_
  dsimp only
  rw[m.2]
 refine⟨⟨nn.1,?_⟩,nn.2,e⟩
 have:=nn.2
 have:=h.1.2.2.1.2
 have z:(raX n lim G dt D lr R B W S sky st).2=(Rn.rnN st R (mvW n lim G dt D B W S,sky) lr).2:=rfl
 omega
theorem Dz(hp:okP n G dt D lr R)(h:okS n B W T S sky st):Rv.wG n (6*n*n) (6*n*n) (6*n*n) (12*n*n) (raX n lim G dt D lr R B W S sky st).1 (mvT n lim G dt D B W T S):=⟨⟨rfl,rfl,rfl,rfl⟩,(ra_ok hp h).1,(Bi hp h).1⟩
theorem ri_ok(hp:okP n G dt D lr R)(h:okS n B W T S sky st):(Rv.okV (6*n*n) (riX n lim G dt D rv lr R B W T S sky st).1/\Rv.okV (6*n*n) (riX n lim G dt D rv lr R B W T S sky st).2)/\Sh.sumN (riX n lim G dt D rv lr R B W T S sky st).1 (6*n*n)+(raX n lim G dt D lr R B W S sky st).2=Sh.sumN W (6*n*n)+sky/\Sh.sumN (riX n lim G dt D rv lr R B W T S sky st).2 (6*n*n)=Sh.sumN T (6*n*n):=by
 have g:=Dz (lim:=lim) hp h
 have m:=Bi (lim:=lim) hp h
 have a:=ra_ok (lim:=lim) hp h
 unfold riX
 cases rv with
 | false=>
  rw[if_neg (by decide)]
  exact⟨⟨a.1,m.1⟩,a.2.2,m.2⟩
 | true=>
  rw[if_pos rfl]
  have k:=Rv.runR_ok (B:=B) hp.1.1 g
  refine⟨k.1,?_,?_⟩
  ·rw[k.2.1];exact a.2.2
  ·rw[k.2.2];exact m.2
theorem one_ok(hp:okP n G dt D lr R)(h:okS n B W T S sky st):okS n B (riX n lim G dt D rv lr R B W T S sky st).1 (riX n lim G dt D rv lr R B W T S sky st).2 (spE n G dt D B W S) (raX n lim G dt D lr R B W S sky st).2 (stN st):=by
 have k:=ri_ok (lim:=lim) (rv:=rv) hp h
 have a:=ra_ok (lim:=lim) hp h
 have w:=h.1.2.2.1.2
 have s:=Sh.fO k.1.1.1
 refine⟨⟨h.1.1,⟨a.2.1,by omega⟩,⟨k.1.1.1,by omega⟩,k.1.2,fun e _=> ?_,?_⟩,h.2.1,fun e _=>(oB n G dt D B W S e).1⟩
 ·have q:=oB n G dt D B W S e
  rw[bS_iff q.1]
  exact⟨q.2.2.1,q.2.2.2,(spE_cn e).2.2⟩
 ·have:=h.1.2.2.2.2.2
  unfold stN
  split<;>omega
end
end St
end
section
open Tf Cu
namespace Co
open Ss Fc St
def sn(n i c:Nat):Int:=Sh.sumN (fun s=>if eE n (4*c+s)<i then 1 else 0) 4
theorem mW(n i c:Nat):sn n i c=0+(if eE n (4*c+0)<i then 1 else 0)+(if eE n (4*c+1)<i then 1 else 0)+(if eE n (4*c+2)<i then 1 else 0)+(if eE n (4*c+3)<i then 1 else 0):=rfl
theorem sn_0(n c:Nat):sn n 0 c=0:=by
 rw[mW]
 simp
theorem sn_in(n i c:Nat):0<=sn n i c/\sn n i c<=4:=by
 rw[mW]
 repeat' split
 all_goals omega
theorem sn_all{n c:Nat}(hn:1<=n)(hc:c<6*n*n):sn n (12*n*n) c=4:=by
 have h:=fun s (hs:s<4)=>fQ hn (fE hc hs)
 rw[mW,if_pos (h 0 (by omega)),if_pos (h 1 (by omega)),if_pos (h 2 (by omega)),if_pos (h 3 (by omega))]
 rfl
theorem DA(c T:Nat):(0:Int)+(if 4*c+0=T then 1 else 0)+(if 4*c+1=T then 1 else 0)+(if 4*c+2=T then 1 else 0)+(if 4*c+3=T then 1 else 0)=if c=T/4 then 1 else 0:=by
 repeat' split
 all_goals omega
theorem eL_eR{n i:Nat}(hn:1<=n)(hi:i<12*n*n):eL n i<eR n i/\eR n i<6*n*n:=by
 obtain⟨t1,t2,-⟩:=bM hn hi
 have d:=eO hn t1
 unfold isL at t2
 have t3:=of_decide_eq_true t2
 unfold eL eR
 exact⟨by rw[d.1];exact t3,aW (cX hn t1)⟩
theorem wH{n i c:Nat}(hn:1<=n)(hi:i<12*n*n)(hc:c<6*n*n):sn n (i+1) c=sn n i c+(if c=eL n i then 1 else 0)+(if c=eR n i then 1 else 0):=by
 have ne:=(eL_eR hn hi).1
 have key: ∀s,s<4->(if eE n (4*c+s)<i+1 then(1:Int)else 0)=(if eE n (4*c+s)<i then 1 else 0)+(if 4*c+s=edT n i then 1 else 0)+(if 4*c+s=mt n (edT n i)then 1 else 0):=fun s hs=>by
  have q:=Ms.eE_iff hn hi (fE hc hs)
  have nT: ¬(4*c+s=edT n i/\4*c+s=mt n (edT n i)):=fun h=>by
   unfold eL eR at ne
   rw[<- h.2,h.1]at ne
   omega
  by_cases a:4*c+s=edT n i
  ·have e:=q.2 (.inl a)
   rw[if_pos (by omega),if_neg (by omega),if_pos a,if_neg (fun b=>nT ⟨a,b⟩)]
   rfl
  ·by_cases b:4*c+s=mt n (edT n i)
   ·have e:=q.2 (.inr b)
    rw[if_pos (by omega),if_neg (by omega),if_neg a,if_pos b]
    rfl
   ·have e:eE n (4*c+s)≠i:=fun e=>by
     rcases q.1 e with h | h
     ·exact a h
     ·exact b h
    rw[if_neg a,if_neg b]
    by_cases l:eE n (4*c+s)<i
    ·rw[if_pos l,if_pos (by omega)];rfl
    ·rw[if_neg l,if_neg (by omega)];rfl
 have f1:=DA c (edT n i)
 have f2:=DA c (mt n (edT n i))
 rw[mW,mW,key 0 (by omega),key 1 (by omega),key 2 (by omega),key 3 (by omega)]
 show _=_+(if c=edT n i/4 then 1 else 0)+(if c=mt n (edT n i)/4 then 1 else 0)
 rw[<- f1,<- f2]
 omega
theorem sn_hit{n i:Nat}(hn:1<=n)(hi:i<12*n*n):sn n (i+1) (eL n i)=sn n i (eL n i)+1/\sn n (i+1) (eR n i)=sn n i (eR n i)+1:=by
 have k:=eL_eR hn hi
 have a:=wH hn hi (c:=eL n i) (by omega)
 have b:=wH hn hi (c:=eR n i) k.2
 rw[if_pos rfl,if_neg (by omega)]at a
 rw[if_neg (by omega),if_pos rfl]at b
 exact⟨by omega,by omega⟩
theorem sn_miss{n i c:Nat}(hn:1<=n)(hi:i<12*n*n)(hc:c<6*n*n)(h1:c≠eL n i)(h2:c≠eR n i):sn n (i+1) c=sn n i c:=by
 have a:=wH hn hi hc
 rw[if_neg h1,if_neg h2]at a
 omega
end Co
end
section
open Tf Cu
namespace St
open Ss Fc
section
variable {n G dt D lr:Nat} {lim:Int} {R:Nat->Int × Int × Int × Int} {B:Nat->Nat} {W T:Nat->Int} {S:Nat->Nat} {sky st:Int}
def rest(n:Nat)(B:Nat->Nat)(W:Nat->Int)(S:Nat->Nat):Prop:= ∀e,e<12*n*n->S e=0/\(opE n B W e=true->lvC n B W (eL n e)=lvC n B W (eR n e))
end
end St
end
section
open Tf Cu
namespace St
open Ss Fc
def w1(_:Nat):Int:=1431655765
def w2(i:Nat):Int:=if i=0 then 2863311530 else 1431655765
theorem og_c{n:Nat}{F H:Nat->Int}(hn:1<=n)(z: ∀e,e<12*n*n->F e=H e){t:Nat}(ht:t<24*n*n):Sh.og n F t=Sh.og n H t:=by
 unfold Sh.og
 rw[z _ (fQ hn ht)]
theorem all_c{n:Nat}{V F H:Nat->Int}(hn:1<=n)(z: ∀e,e<12*n*n->F e=H e){e:Nat}(he:e<12*n*n):Sh.allF n V F e=Sh.allF n V H e:=by
 obtain⟨t1,t2,t3⟩:=bM hn he
 have m1:=cX hn t1
 have ct: ∀t,t<24*n*n->Sh.ct n V F t=Sh.ct n V H t:=fun t ht=>by
  unfold Sh.ct Sh.oS
  rw[og_c hn z ht]
  congr 1
  exact Sh.cG (fun s hs=>og_c hn z (fE (aW ht) hs))
 unfold Sh.allF
 rw[ct _ t1,ct _ m1]
theorem aw_ar: ∀c,c<6->arC 1 c=1431655765:=by decide+kernel
end St
end
section
open Tf Cu
namespace Co
open Ss Fc St
def w3(i:Nat):Int:=if i=0 then 1433053866 else 1431655765
def sp3(e:Nat):Nat:=if e<4 then 4555004673799709393 else 0
def fl3(e:Nat):Int:=if e<4 then 214249 else 0
theorem po_sp: ∀e,e<12->spE 1 4607182418800017408 4602678819172646912 0 (fun _=>0) w3 (fun _=>0) e=sp3 e:=by decide+kernel
theorem po_q: ∀e,e<12->qnB (sp3 e) (rdAll 1 0 6 6 (fun _=>0) w3 (e:Nat) (sp3 e)) (lnE 1 e) 4602678819172646912=fl3 e:=by decide+kernel
theorem po_wt{e:Nat}(he:e<12):wtF 1 0 4607182418800017408 4602678819172646912 0 (fun _=>0) w3 (fun _=>0) e=fl3 e:=by
 unfold wtF flB
 rw[po_sp e he]
 exact po_q e he
theorem po_mv:Ms.mv 1 w3 (Sh.allF 1 w3 fl3) 0=1432196870:=by decide+kernel
theorem po_mvW:mvW 1 0 4607182418800017408 4602678819172646912 0 (fun _=>0) w3 (fun _=>0) 0=1432196870:=by
 rw[<- po_mv]
 exact Ms.mV (n:=1) (by decide) (by decide) rfl (fun i hi=>all_c (n:=1) (by decide) (fun e he=>po_wt he) hi)
theorem po_eL: ∀e,e<12->(decide (eL 1 e=0)=decide (e<4)):=by decide+kernel
theorem po_gt:fgt 4555004673799709393 0=true/\fgt 0 0=false:=by decide
end Co
end
section
open Go.RowKit Go.Deep
namespace Sh
theorem yS{ops:Array Oper}{rest:List Oper}{o:Oper}{a:Act}{w:World}{Q:Exit->Act->World->Prop}(hgd:o.guard=none)(s x:Operand)
  (ho:o.op=.call {callee:=.builtin .append,args:= #[s,x],argTypes:= #[46,46]})
  (g:Nat) (hs:a.eval s=.slice (some ⟨g,0,none⟩) 0 0) (src:Value) (hx:a.eval x=src) (hsrc:Src prog 1 46 src 0 [] w)
  (h:wpList prog ops Q rest (a.put o.dst (.slice (some ⟨g,0,none⟩) 0 0)) w):wpList prog ops Q (o :: rest) a w:=by
 obtain⟨i0,hi,hz0,hz1,hz2⟩:=wB
 refine wpList_plain hgd fun _ hK=> ?_
 have hr:=run_append_room_src (P:=prog) w 46 46 o.type 2 i0 underlying46 hi g 0 0 0 src 0 [] (by rw[hz1];exact hsrc) (Nat.le_refl _) (fun j hj=>absurd hj (Nat.not_lt_zero j)) (fun j hj=>absurd hj (Nat.not_lt_zero j))
 unfold Oper.wp execOp
 simp only[ho,resolve,invoke,builtin,Sem.run_bind,Sem.run_pure,Result.andThen_ok,List.map_toArray,List.map_cons,List.map_nil,hs,hx,hr]
 exact hK _ _ h
theorem news_in{w:World}{b o N:Nat}{D:Nat->Int}(h:IsI w (some ⟨b,o,none⟩) N D): ∀j u,(((List.range N).map D).map (Value.int .i64))[j]? =some u->w.cell? ((⟨b,o,none⟩:Addr).add j)=some u:=fun j u hu=>by
 have hj:j<N:=by
  rcases Nat.lt_or_ge j N with h1 | h1
  ·exact h1
  ·rw[List.getElem?_eq_none (by simpa using h1)]at hu;cases hu
 simp[hj]at hu
 rw[qD,<- hu]
 exact(h.at0 hj).2.2
end Sh
end
section
open Go.RowKit Go.Deep
namespace Rn
open Sh
def W4(r:Int × Int × Int × Int):Prop:=Sh.W64 r.1/\Sh.W64 r.2.1/\Sh.W64 r.2.2.1/\Sh.W64 r.2.2.2
def IsRn(w:World)(p:Option Addr)(n:Nat)(R:Nat->Int × Int × Int × Int):Prop:=
 ∀k,k<n->W4 (R k)/\ ∃b o,p=some ⟨b,o,none⟩/\b<w.heap.size/\w.cell? ⟨b,o+k*4,none⟩=some (.int .i64 (R k).1)/\w.cell? ⟨b,o+k*4+1,none⟩=some (.int .i64 (R k).2.1)/\w.cell? ⟨b,o+k*4+2,none⟩=some (.int .i64 (R k).2.2.1)/\w.cell? ⟨b,o+k*4+3,none⟩=some (.int .i64 (R k).2.2.2)
theorem IsRn.below{w w':World}{p:Option Addr}{n:Nat}{R:Nat->Int × Int × Int × Int}(h:IsRn w p n R)(hb:Below w.heap.size w w'):IsRn w' p n R:=fun k hk=>by
 obtain⟨h1,b,o,e,l,c0,c1,c2,c3⟩:=h k hk
 exact⟨h1,b,o,e,Nat.lt_of_lt_of_le l hb.size,(hb.cell (p:=⟨b,_,none⟩) l).trans c0,(hb.cell (p:=⟨b,_,none⟩) l).trans c1,(hb.cell (p:=⟨b,_,none⟩) l).trans c2,(hb.cell (p:=⟨b,_,none⟩) l).trans c3⟩
theorem IsRn.some0{w:World}{p:Option Addr}{n:Nat}{R:Nat->Int × Int × Int × Int}(h:IsRn w p n R)(h0:0<n): ∃b o,p=some ⟨b,o,none⟩:=by
 obtain⟨_,b,o,e,_⟩:=h 0 h0
 exact⟨b,o,e⟩
theorem IsRn.at0{w:World}{b o n:Nat}{R:Nat->Int × Int × Int × Int}(h:IsRn w (some ⟨b,o,none⟩) n R){k:Nat}(hk:k<n):W4 (R k)/\b<w.heap.size/\w.cell? ⟨b,o+k*4,none⟩=some (.int .i64 (R k).1)/\w.cell? ⟨b,o+k*4+1,none⟩=some (.int .i64 (R k).2.1)/\w.cell? ⟨b,o+k*4+2,none⟩=some (.int .i64 (R k).2.2.1)/\w.cell? ⟨b,o+k*4+3,none⟩=some (.int .i64 (R k).2.2.2):=by
 obtain⟨h1,b',o',e,l,h2⟩:=h k hk
 cases e
 exact⟨h1,l,h2⟩
def vB(n:Int)(r:Int × Int × Int × Int):Bool:=decide (0<=r.1)&&decide (r.1<n)&&decide (-4503599627370496<=r.2.1)&&decide (r.2.1<=4503599627370496)&&decide (0<=r.2.2.1)&&decide (r.2.2.1<=r.2.2.2)
theorem Bj{n:Nat}{r:Int × Int × Int × Int}:vB (n:Int) r=true ↔ okR n r:=by
 unfold vB okR
 simp only[Bool.and_eq_true,decide_eq_true_eq]
 constructor
 ·rintro⟨⟨⟨⟨⟨a,b⟩,c⟩,d⟩,e⟩,f⟩
  exact⟨a,b,c,d,e,f⟩
 ·rintro⟨a,b,c,d,e,f⟩
  exact⟨⟨⟨⟨⟨a,b⟩,c⟩,d⟩,e⟩,f⟩
def FallC:Prop:= ∀(pw:Option Addr) (lw cw:Nat) (W:Nat->Int) (s:Int) (pr:Option Addr) (lr cr:Nat) (R:Nat->Int × Int × Int × Int) (st:Int) (w:World),Sh.W64 s->Sh.W64 st->lw<=17592186044416->lr<=17592186044416->IsI w pw lw W->IsRn w pr lr R->
 (rO lw W s lr R st->Calls prog 46 #[.slice pw lw cw,.int .i64 s,.slice pr lr cr,.int .i64 st] w fun e w'=> ∃v,e=.returned (.tuple #[v,.int .i64 (rnN st R (W,s) lr).2,.int .i64 0])/\Below w.heap.size w w'/\Own w.heap.size v ((List.range lw).map (rnN st R (W,s) lr).1) w')/\
 (¬rO lw W s lr R st->Calls prog 46 #[.slice pw lw cw,.int .i64 s,.slice pr lr cr,.int .i64 st] w fun e w'=>e=.returned (.tuple #[.slice none 0 0,.int .i64 0,.int .i64 1])/\Below w.heap.size w w')
end Rn
end
section
open Go.RowKit Tf Cu Go.Deep
namespace Ss
def Dj(v u:Value):Prop:= ∀k,v.ownBlock=some k->u.ownBlock≠some k
def OwnS(M:Nat)(v:Value)(nb nw nt ns:Nat)(B:Nat->Nat)(W T:Nat->Int)(S:Nat->Nat)(sky st:Int)(w:World):Prop:=
 ∃v1 v2 v3 v4,v=.agg #[v1,v2,v3,v4,.int .i64 sky,.int .i64 st]/\OwnG M v1 ((List.range nb).map B) w/\Sh.Own M v2 ((List.range nw).map W) w/\Sh.Own M v3 ((List.range nt).map T) w/\OwnG M v4 ((List.range ns).map S) w/\Dj v1 v4/\Dj v2 v3
end Ss
end
section
open Go.RowKit Go.Deep
namespace Rn
open Sh
theorem wJ{ops:Array Oper}{rest:List Oper}{o:Oper}{a:Act}{w:World}{Q:Exit->Act->World->Prop}(hgd:o.guard=none)(s x:Operand)
  (ho:o.op=.call {callee:=.builtin .append,args:= #[s,x],argTypes:= #[46,46]})
  (B:Nat) (v:Value) (l:List Int) (hs:a.eval s=v) (hown:Own B v l w)
  (ad:Addr) (m c:Nat) (news:List Int) (hx:a.eval x=.slice (some ad) m c) (hl:news.length=m) (hnews: ∀j u,(news.map (Value.int .i64))[j]? =some u->w.cell? (ad.add j)=some u)
  (hm:0<m) (hlen:l.length+m<=17592186044416) (hB:B<=w.heap.size) (nm:Nat) (hnm:l.length+m=nm)
  (h: ∀g cap w',Own B (.slice (some ⟨g,0,none⟩) nm cap) (l++news) w'->w.grownBy w' v.ownBlock->(v.ownBlock=some g\/g=w.heap.size)->B<=g->wpList prog ops Q rest (a.put o.dst (.slice (some ⟨g,0,none⟩) nm cap)) w'):wpList prog ops Q (o :: rest) a w:=by
 subst hnm
 obtain⟨i0,hi,hz0,hz1,hz2⟩:=Sh.wB
 refine wpList_append_lies w hgd s x _ ho B 2 i0 (.int .i64 0) 1 8 underlying46 hi hz0 hz1 hz2 rfl (by decide) v l.length (l.map (Value.int .i64)) hs hown ad m c (news.map (Value.int .i64)) hx (by simpa using hl) hnews (fun u hu=>by
  obtain⟨y,_,rfl⟩:=List.mem_map.1 hu
  rfl) hm (by unfold maxLen;omega) (by omega) hB _ rfl ?_
 intro g cap w' o1 g1 e1 _
 have hb:B<=g:=by
  rcases o1.2 with⟨q,_⟩ | ⟨g2,_,_,q,hb,_⟩
  ·cases q
  ·injection q with q1 q2 q3
   injection q1 with q4
   injection q4 with q5
   omega
 refine h g cap w' ?_ g1 e1 hb
 unfold Own
 rw[List.length_append,List.map_append,hl]
 exact o1
theorem EX{B:Nat}{v:Value}{l:List Int}{w:World}(h:Own B v l w)(h0:0<l.length): ∃g cap F,v=.slice (some ⟨g,0,none⟩) l.length cap/\B<=g/\l.length<=cap/\cap<=maxLen/\w.rowIs g 2 cap F/\ ∀i,i<l.length->F i=.int .i64 (l.getD i 0):=by
 rcases h.2 with⟨rfl,hz⟩ | ⟨g,cap,cur,e,hb,hg,h1,h2,h3,h4⟩
 ·omega
 ·refine⟨g,cap,fun i=>(cur[i]?).getD (.bool false),e,hb,h1,h2,⟨cur,hg,by omega,fun i hi=> ?_⟩,fun i hi=> ?_⟩
  ·have:i<cur.size:=by omega
   simp[this]
  ·have q:(cur.toList.take l.length)[i]? =(l.map (Value.int .i64))[i]? :=by
    have h4':cur.toList.take l.length=l.map (Value.int .i64):=by simpa using h4
    rw[h4']
   rw[List.getElem?_take,if_pos hi,Array.getElem?_toList]at q
   dsimp only
   rw[q]
   simp[hi,List.getD]
theorem EY{B n:Nat}{v:Value}{x:Nat->Int}{w:World}(h:Own B v ((List.range n).map x) w)(h0:0<n): ∃g cap F,v=.slice (some ⟨g,0,none⟩) n cap/\B<=g/\n<=cap/\cap<=maxLen/\w.rowIs g 2 cap F/\ ∀i,i<n->F i=.int .i64 (x i):=by
 have e:((List.range n).map x).length=n:=by simp
 obtain⟨g,cap,F,h1,h2,h3,h4,h5,h6⟩:=EX h (by rw[e];exact h0)
 rw[e]at h1 h3 h6
 exact⟨g,cap,F,h1,h2,h3,h4,h5,fun i hi=>by rw[h6 i hi];simp[List.getD,hi]⟩
theorem E0{B g cap n:Nat}{F:Nat->Value}{x:Nat->Int}{w:World}(h:w.rowIs g 2 cap F)(hB:B<=g)(hn:n<=cap)(hc:cap<=maxLen)(hF: ∀i,i<n->F i=.int .i64 (x i)):Own B (.slice (some ⟨g,0,none⟩) n cap) ((List.range n).map x) w:=by
 obtain⟨c,hb,hs,hf⟩:=h
 refine⟨by simp,.inr ⟨g,cap,c,by simp,hB,hb,by simpa using hn,hc,by omega,?_⟩⟩
 apply List.ext_getElem?
 intro i
 rw[List.getElem?_take,List.length_map,List.length_range]
 by_cases hi:i<n
 ·have e:=hf i (by omega)
  rw[hF i hi]at e
  rw[if_pos (by omega)]
  rw[<- Array.getElem?_toList]at e
  rw[e]
  simp[hi]
 ·rw[if_neg (by omega),List.getElem?_eq_none (by simp;omega)]
theorem rn_skip{st:Int}{R:Nat->Int × Int × Int × Int}{X:(Nat->Int) × Int}{c:Nat}{r1 r2 r3 r4:Int}(hr:R c=(r1,r2,r3,r4))(h:st<r3\/r4<=st):rnN st R X (c+1)=rnN st R X c:=by
 show rn1 st (R c) (rnN st R X c)=_
 refine rn1_no ?_
 rw[hr]
 unfold fallB
 rcases h with h | h
 ·rw[decide_eq_false (show¬r3<=st by omega)]
  rfl
 ·rw[decide_eq_false (show¬st<r4 by omega),Bool.and_false]
theorem rn_fall{st:Int}{R:Nat->Int × Int × Int × Int}{X:(Nat->Int) × Int}{c k:Nat}{r2 r3 r4 sk x:Int}(hr:R c=((k:Int),r2,r3,r4))(h1: ¬st<r3)(h2: ¬r4<=st)(hs:(rnN st R X c).2=sk)(hx:(rnN st R X c).1 k=x):
  (rnN st R X (c+1)).2=sk - dn r2 sk x/\ ∀i,(rnN st R X (c+1)).1 i=if i=k then x+dn r2 sk x else(rnN st R X c).1 i:=by
 have f:fallB st (R c)=true:=by
  rw[hr]
  unfold fallB
  rw[decide_eq_true (show r3<=st by omega),decide_eq_true (show st<r4 by omega)]
  rfl
 have e:rnN st R X (c+1)=(fun i=>if i=k then(rnN st R X c).1 i+dn r2 sk x else(rnN st R X c).1 i,sk - dn r2 sk x):=by
  show rn1 st (R c) (rnN st R X c)=_
  unfold rn1
  rw[if_pos f,hr]
  simp only[Int.toNat_natCast,hs,hx]
 rw[e]
 refine⟨rfl,fun i=> ?_⟩
 dsimp only
 by_cases q:i=k
 ·rw[if_pos q,if_pos q,q,hx]
 ·rw[if_neg q,if_neg q]
end Rn
end
end Go.Proofs.YtmhnilnaffjhmaaGreatDoor
