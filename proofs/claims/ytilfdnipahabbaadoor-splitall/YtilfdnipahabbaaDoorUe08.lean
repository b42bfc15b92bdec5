/-
  Some of the texts of this proof, one behind the other.
-/
import Derived.Test.YtilfdnipahabbaaDoorRows
import Derived.ProofKit
import Derived.OpenShut
import Derived.WalkLawsBesides
import Derived.Stop.Joined
import Derived.Carry
import Derived.Lib.SmallJoins
import Derived.Deep.Slices
import Derived.Deep.OwnRows
import Derived.Deep.AppendLies
import Derived.OwnWalk
import Derived.Deep.Cut
import Derived.Deep.CutRange
import Derived.Deep.AppendSrc
import Derived.Deep.QuietTactic
import Derived.Test.YtilfdnipahabbaaDoorUe07
set_option maxRecDepth 100000
set_option maxHeartbeats 400000000
namespace Go.Proofs.YtilfdnipahabbaaDoor
open _root_.Go.Proofs.Tryd
section
open Go.RowKit Cu Tf
attribute [local go_sem] aG
theorem RefOf.c0{n rb:Nat}{w:World}(h:RefOf n rb w):w.cell? ⟨rb,0,none⟩=some (.int .i64 n):=by
 obtain⟨ab,eb,cap,h1,-⟩:=h
 exact aA 0 h1
theorem pU{n rb t:Nat}{w:World}(hn:1<=n/\n<=32)(ht:t<24*n*n)(hl:isL n t=true)(g:RefOf n rb w):
  Calls prog 53 #[.pointer (some ⟨rb,0,none⟩),.int .i64 (eN n t:Nat)] w fun e w'=>e=.returned (.tuple #[.int .i64 (bsC n (t/4) ((t%4+2)%4):Nat),.int .i64 (bsC n (bsC n (t/4) (t%4)) ((bsS n (t/4) (t%4)+2)%4):Nat),.bool true])/\Below w.heap.size w w':=by
 have hc:=bM ht
 obtain⟨bc,bs⟩:=eG hn.1 hc (s:=t%4) (by omega)
 have EG1:=hid (fun v (g:RefOf n rb v)=>oA hn ht hl g)
 have B1:=hid (fun u=>fP n (t/4) ((t%4+2)%4) u hn hc (by omega))
 have B2:=hid (fun u=>fP n (bsC n (t/4) (t%4)) ((bsS n (t/4) (t%4)+2)%4) u hn bc (by omega))
 have e4:(((t%4:Nat):Int)+2).tmod 4=(((t%4+2)%4:Nat):Int):=by rw[Int.tmod_eq_emod_of_nonneg (by omega)];omega
 have e5:(((bsS n (t/4) (t%4):Nat):Int)+2).tmod 4=(((bsS n (t/4) (t%4)+2)%4:Nat):Int):=by rw[Int.tmod_eq_emod_of_nonneg (by omega)];omega
 have hs4:((t%4:Nat):Int)<4:=by omega
 have ho4:((bsS n (t/4) (t%4):Nat):Int)<4:=by omega
 generalize bsC n (bsC n (t/4) (t%4)) ((bsS n (t/4) (t%4)+2)%4)=a2 at*
 generalize bsC n (t/4) ((t%4+2)%4)=a1 at*
 generalize bsS n (bsC n (t/4) (t%4)) ((bsS n (t/4) (t%4)+2)%4)=z2 at*
 generalize bsS n (t/4) ((t%4+2)%4)=z1 at*
 generalize(bsS n (t/4) (t%4)+2)%4=o1 at*
 generalize(t%4+2)%4=s1 at*
 generalize bsC n (t/4) (t%4)=d at*
 generalize bsS n (t/4) (t%4)=o at*
 generalize t/4=c at*
 generalize t%4=s at*
 generalize eN n t=k at*
 have Q0:=hid g
 have AW0:=hid (Ab.refl w)
 clear hn ht hl g hc bc bs
 go_enter func53,ntmps53
 go_wp2_with fail
 refine Calls.mono (EG1.out _ Q0.out) ?_
 rintro e v1 ⟨rfl,b1⟩
 have ST:Hid (Ab w (v1.alloc (.cells #[.int .i64 c,.int .i64 s,.int .i64 d,.int .i64 o] 73))):=Ab.call (show Ab _ _ from b1) (bl1 v1 (.cells #[.int .i64 c,.int .i64 s,.int .i64 d,.int .i64 o] 73))
 have AW1:Hid (Ab w (v1.alloc (.cells #[.int .i64 c,.int .i64 s,.int .i64 d,.int .i64 o] 73))):=(AW0.out).trans ST.out
 have Q1:Hid (RefOf n rb (v1.alloc (.cells #[.int .i64 c,.int .i64 s,.int .i64 d,.int .i64 o] 73))):=Q0.out.to ST.out
 have RX1:=hid (heap_alloc_new v1 (.cells #[.int .i64 c,.int .i64 s,.int .i64 d,.int .i64 o] 73))
 clear ST Q0 AW0
 clear b1
 go_upto_region 4 with fail
 obtain⟨UU,F,hF1,hF2⟩:=cls (v1.alloc (.cells #[.int .i64 c,.int .i64 s,.int .i64 d,.int .i64 o] 73))
 have HU:=hid hF2
 have HU1:=hid hF1
 have xr0: ∀u,(F u).cell? ⟨rb,0,none⟩=some (.int .i64 n):=fun u=>(Q1.out.to (hF1 u)).c0
 have xX0: ∀u,(F u).cell? ⟨v1.heap.size,0,none⟩=some (.int .i64 c):=fun u=>aA 0 ((hF1 u).heap RX1.out)
 have xX1: ∀u,(F u).cell? ⟨v1.heap.size,1,none⟩=some (.int .i64 s):=fun u=>aA 1 ((hF1 u).heap RX1.out)
 have xX2: ∀u,(F u).cell? ⟨v1.heap.size,2,none⟩=some (.int .i64 d):=fun u=>aA 2 ((hF1 u).heap RX1.out)
 have xX3: ∀u,(F u).cell? ⟨v1.heap.size,3,none⟩=some (.int .i64 o):=fun u=>aA 3 ((hF1 u).heap RX1.out)
 have D:=HU.out _ (Ab.refl (v1.alloc (.cells #[.int .i64 c,.int .i64 s,.int .i64 d,.int .i64 o] 73))).drew
 clear hF1 hF2
 refine aK F (by kernel_rfl) (by kernel_rfl) D ?_
 repeat(go_big_quiet_step (first
  | (with_reducible rfl)
  | (go_at_call 28;exact aF HU HU1 (B1.out _))))
 refine wpQuiet_nil ?_
 intro wz4 hwz
 obtain⟨u,hu⟩:=hwz
 have bz:Ab (v1.alloc (.cells #[.int .i64 c,.int .i64 s,.int .i64 d,.int .i64 o] 73)) wz4:=by rw[hu];exact HU1.out u
 clear hu u
 clear HU HU1 D xr0 xX0 xX1 xX2 xX3
 clear F UU
 have ST:Hid (Ab (v1.alloc (.cells #[.int .i64 c,.int .i64 s,.int .i64 d,.int .i64 o] 73)) wz4):=bz
 have AW2:Hid (Ab w wz4):=(AW1.out).trans ST.out
 have RX2:Hid (wz4.heap[v1.heap.size]? =some (.cells #[.int .i64 c,.int .i64 s,.int .i64 d,.int .i64 o] 73)):=Ab.heap ST.out RX1.out
 have Q2:Hid (RefOf n rb wz4):=Q1.out.to ST.out
 clear ST RX1 Q1 AW1
 clear bz
 go_upto_region 5 with fail
 obtain⟨UU,F,hF1,hF2⟩:=cls wz4
 have HU:=hid hF2
 have HU1:=hid hF1
 have xr0: ∀u,(F u).cell? ⟨rb,0,none⟩=some (.int .i64 n):=fun u=>(Q2.out.to (hF1 u)).c0
 have xX0: ∀u,(F u).cell? ⟨v1.heap.size,0,none⟩=some (.int .i64 c):=fun u=>aA 0 ((hF1 u).heap RX2.out)
 have xX1: ∀u,(F u).cell? ⟨v1.heap.size,1,none⟩=some (.int .i64 s):=fun u=>aA 1 ((hF1 u).heap RX2.out)
 have xX2: ∀u,(F u).cell? ⟨v1.heap.size,2,none⟩=some (.int .i64 d):=fun u=>aA 2 ((hF1 u).heap RX2.out)
 have xX3: ∀u,(F u).cell? ⟨v1.heap.size,3,none⟩=some (.int .i64 o):=fun u=>aA 3 ((hF1 u).heap RX2.out)
 have D:=HU.out _ (Ab.refl wz4).drew
 clear hF1 hF2
 refine aK F (by kernel_rfl) (by kernel_rfl) D ?_
 repeat(go_big_quiet_step (first
  | (with_reducible rfl)
  | (go_at_call 28;exact aF HU HU1 (B2.out _))))
 refine wpQuiet_nil ?_
 intro wz5 hwz
 obtain⟨u,hu⟩:=hwz
 have bz:Ab wz4 wz5:=by rw[hu];exact HU1.out u
 clear hu u
 clear HU HU1 D xr0 xX0 xX1 xX2 xX3
 clear F UU
 have ST:Hid (Ab wz4 wz5):=bz
 have AW3:Hid (Ab w wz5):=(AW2.out).trans ST.out
 have RX3:Hid (wz5.heap[v1.heap.size]? =some (.cells #[.int .i64 c,.int .i64 s,.int .i64 d,.int .i64 o] 73)):=Ab.heap ST.out RX2.out
 have Q3:Hid (RefOf n rb wz5):=Q2.out.to ST.out
 clear ST RX2 Q2 AW2
 clear bz
 go_wp2
 refine bodyPost_ret ?_ rfl ⟨rfl,?_⟩
 ·simp[results,results53,go_sem]
 ·exact AW3.out
end
section
open Tf Ieee Cu
def mgF(a:Nat):Nat:=a%9223372036854775808
def pe(a:Nat):Nat:=mgF a/4503599627370496 - 1
end
section
open Tf Ieee Cu
def a0(n:Nat)(k h:Int):Nat:=ar n (n,k,h) (n,k+2,h) (n,k+2,h+2) (n,k,h+2)
end
section
open Go.RowKit Tf Cu Go.Deep
namespace Spl
def lf(n e:Nat):Nat:=edT n e/4
def fr4(n t c:Nat):Bool:=c==t/4||c==bsC n (t/4) (t%4)||c==bsC n (t/4) ((t%4+2)%4)||c==bsC n (bsC n (t/4) (t%4)) ((bsS n (t/4) (t%4)+2)%4)
def lo(N P k:Nat):Nat:=k*N/P
def inP(N P k c:Nat):Bool:=decide (lo N P k<=c)&&decide (c<lo N P (k+1))
def clP(N P k:Nat):List Nat:=List.range' (lo N P k) (lo N P (k+1) - lo N P k)
def edP(n P k:Nat):List Nat:=(List.range (12*n*n)).filter fun e=>inP (6*n*n) P k (lf n e)
def ask(n P k c:Nat):Bool:=(edP n P k).any fun e=>fr4 n (edT n e) c
def hlP(n P k:Nat):List Nat:=(List.range (6*n*n)).filter fun c=>ask n P k c&& !inP (6*n*n) P k c
theorem iV{N P k c:Nat}:inP N P k c=true ↔ lo N P k<=c/\c<lo N P (k+1):=by
 unfold inP;simp
theorem rE(N P:Nat):lo N P 0=0:=by unfold lo;simp
theorem lo_all{N P:Nat}(h:0<P):lo N P P=N:=by unfold lo;exact Nat.mul_div_cancel_left N h
theorem cB(N P k:Nat):lo N P k<=lo N P (k+1):=by
 unfold lo;exact Nat.div_le_div_right (Nat.mul_le_mul_right N (Nat.le_succ k))
theorem lo_mono{N P j k:Nat}(h:j<=k):lo N P j<=lo N P k:=by
 unfold lo;exact Nat.div_le_div_right (Nat.mul_le_mul_right N h)
theorem iJ{N P k:Nat}(hP:0<P)(h:k<=P):lo N P k<=N:=by
 have:=lo_mono (N:=N) (P:=P) h
 rw[lo_all hP]at this
 exact this
theorem lo_size{N P:Nat}(hP:0<P)(k:Nat):N/P<=lo N P (k+1) - lo N P k/\lo N P (k+1) - lo N P k<=N/P+1:=by
 unfold lo
 rw[Nat.succ_mul]
 have h1:=Nat.div_add_mod (k*N) P
 have h2:=Nat.div_add_mod N P
 have h3:=Nat.div_add_mod (k*N+N) P
 have m1:=Nat.mod_lt (k*N) hP
 have m2:=Nat.mod_lt N hP
 have m3:=Nat.mod_lt (k*N+N) hP
 generalize k*N=x at*
 generalize x/P=a at*
 generalize N/P=b at*
 generalize(x+N)/P=c at*
 have l1:a+b<=c:=by
  apply Nat.le_of_lt_succ
  apply Nat.lt_of_mul_lt_mul_left (a:=P)
  rw[Nat.mul_succ,Nat.mul_add]
  omega
 have l2:c<=a+b+1:=by
  apply Nat.le_of_lt_succ
  apply Nat.lt_of_mul_lt_mul_left (a:=P)
  rw[Nat.mul_succ,Nat.mul_succ,Nat.mul_add]
  omega
 omega
theorem mem_cl{N P k c:Nat}:c ∈ clP N P k ↔ inP N P k c=true:=by
 unfold clP
 rw[iV,List.mem_range'_1]
 have:=cB N P k
 omega
theorem cl_len(N P k:Nat):(clP N P k).length=lo N P (k+1) - lo N P k:=by unfold clP;simp
theorem mem_ed{n P k e:Nat}:e ∈ edP n P k ↔ e<12*n*n/\inP (6*n*n) P k (lf n e)=true:=by
 unfold edP;rw[List.mem_filter,List.mem_range]
theorem mem_hl{n P k c:Nat}:c ∈ hlP n P k ↔ c<6*n*n/\ask n P k c=true/\inP (6*n*n) P k c=false:=by
 unfold hlP;rw[List.mem_filter,List.mem_range];simp
def shB(q:Nat->Bool)(B:Nat->Nat)(c:Nat):Nat:=if q c=true then B c else 0
def shW(q:Nat->Bool)(W:Nat->Int)(c:Nat):Int:=if q c=true then W c else 0
def hs(l:Nat)(f:Nat->Int)(c:Nat):Bool:=(List.range l).any fun i=>f i==(c:Int)
def rd(l:List Nat)(i:Nat):Int:=((l.getD i 0:Nat):Int)
def eB(n c:Nat):Nat:=eN n (4*c)
theorem lf_lt{n e c:Nat}(hn:1<=n)(he:e<12*n*n):lf n e<c ↔ e<eB n c:=by
 obtain⟨-,h2,h3⟩:=bS hn he
 unfold lf eB
 constructor
 ·intro h
  have:=mK (u:=4*c) h2 (by omega)
  omega
 ·intro h
  rcases Nat.lt_or_ge (edT n e) (4*c)with q | q
  ·omega
  ·have:=fR (n:=n) q
   omega
theorem fI{n c d:Nat}(h:c<=d):eB n c<=eB n d:=fR (by omega)
theorem eB_all{n:Nat}(hn:1<=n):eB n (6*n*n)=12*n*n:=by
 unfold eB
 rw[show 4*(6*n*n)=24*n*n by rw[<- Nat.mul_assoc,<- Nat.mul_assoc]]
 exact fN hn
theorem oB{n c:Nat}(hn:1<=n)(h:c<=6*n*n):eB n c<=12*n*n:=by
 have:=fI (n:=n) h
 rw[eB_all hn]at this
 exact this
theorem filt_row{M a b:Nat}(q:Nat->Bool)(h1:a<=b)(h2:b<=M)(h: ∀e,e<M->(q e=true ↔ a<=e/\e<b)):(List.range M).filter q=List.range' a (b - a):=by
 have e:List.range M=List.range' 0 a++(List.range' a (b - a)++List.range' b (M - b)):=by
  have k1:List.range' a (b - a)++List.range' b (M - b)=List.range' a (M - a):=by
   have:=List.range'_append_1 (s:=a) (m:=b - a) (n:=M - b)
   rw[show a+(b - a)=b by omega,show b - a+(M - b)=M - a by omega]at this
   exact this
  have k2:=List.range'_append_1 (s:=0) (m:=a) (n:=M - a)
  rw[show 0+a=a by omega,show a+(M - a)=M by omega]at k2
  rw[k1,k2,List.range_eq_range']
 rw[e,List.filter_append,List.filter_append]
 have f1:(List.range' 0 a).filter q=[]:=by
  rw[List.filter_eq_nil_iff]
  intro x hx
  rw[List.mem_range'_1]at hx
  intro k
  have:=(h x (by omega)).1 k
  omega
 have f2:(List.range' a (b - a)).filter q=List.range' a (b - a):=by
  rw[List.filter_eq_self]
  intro x hx
  rw[List.mem_range'_1]at hx
  exact(h x (by omega)).2 (by omega)
 have f3:(List.range' b (M - b)).filter q=[]:=by
  rw[List.filter_eq_nil_iff]
  intro x hx
  rw[List.mem_range'_1]at hx
  intro k
  have:=(h x (by omega)).1 k
  omega
 rw[f1,f2,f3]
 simp
theorem pV{n P k:Nat}(hn:1<=n)(hk:k<P):edP n P k=List.range' (eB n (lo (6*n*n) P k)) (eB n (lo (6*n*n) P (k+1)) - eB n (lo (6*n*n) P k)):=by
 unfold edP
 refine filt_row _ (fI (cB _ _ _)) (oB hn (iJ (by omega) (by omega))) (fun e he=> ?_)
 rw[iV,lf_lt hn he,<- Nat.not_lt,lf_lt hn he,Nat.not_lt]
theorem ed_len{n P k:Nat}(hn:1<=n)(hk:k<P):(edP n P k).length=eB n (lo (6*n*n) P (k+1)) - eB n (lo (6*n*n) P k):=by
 rw[pV hn hk,List.length_range']
theorem lY{a m i:Nat}(h:i<m):(List.range' a m).getD i 0=a+i:=by
 rw[List.getD_eq_getElem?_getD,List.getElem?_range' h]
 simp
end Spl
end
section
open Go.ChangeShapes Go.WideShapes Go.ChangeAt Go.WideMaps Go.WideElems Go.RowKit Go.Deep
theorem sO(b off j:Nat):(⟨b,off,none⟩:Addr).add j=⟨b,off+j,none⟩:=by
 by_cases c:j=0
 ·subst c;simp[Addr.add]
 ·simp[Addr.add,c]
end
section
open Go.RowKit Go.Deep
theorem cH(W:World)(A:Obj):(W.alloc A).heap.size=W.heap.size+1:=by
 show(W.heap.push A).size=_
 simp
theorem bV{v:World}{g n:Nat}{z:Value}{T:TypeId}(h:v.heap[g]? =some (Obj.cells (madeCells #[z] n) T)):v.rowIs g T n (fun _=>z):=by
 have e:=World.rowIs_made v z n T
 have l:=heap_alloc_new v (Obj.cells (madeCells #[z] n) T)
 obtain⟨c,h1,h2⟩:=e
 rw[l]at h1
 exact⟨c,h.trans h1,h2⟩
theorem row6{w:World}{g:Nat}{a b c d e f x y z p q r:Value}{T:TypeId}(h:w.heap[g]? =some (.cells #[a,b,c,d,e,f] T)):
  ((((((w.setCell ⟨g,0,none⟩ x).setCell ⟨g,1,none⟩ y).setCell ⟨g,2,none⟩ z).setCell ⟨g,3,none⟩ p).setCell ⟨g,4,none⟩ q).setCell ⟨g,5,none⟩ r).heap[g]? =some (.cells #[x,y,z,p,q,r] T):=by
 have h1:=aI (v:=x) (k:=0) h
 have h2:=aI (v:=y) (k:=1) h1
 have h3:=aI (v:=z) (k:=2) h2
 have h4:=aI (v:=p) (k:=3) h3
 have h5:=aI (v:=q) (k:=4) h4
 have h6:=aI (v:=r) (k:=5) h5
 simpa using h6
theorem aH{v:World}{b k g:Nat}{x:Value}(h:g≠b):(v.setCell ⟨b,k,none⟩ x).heap[g]? =v.heap[g]? :=blk_setCell_other _ _ _ _ h
end
section
open Go.RowKit Go.Deep
theorem rowIs.fl{w:World}{b n:Nat}{f:Nat->Nat}(h:w.rowIs b 66 n (fun i=>.float .f64 (f i)))(hf: ∀i,i<n->f i<18446744073709551616):IsFl w (some ⟨b,0,none⟩) n f:=fun k hk=>⟨hf k hk,b,0,rfl,h.lt,by rw[Nat.zero_add];exact h.cell hk⟩
end
section
open Go.RowKit Tf Cu Go.Deep
def OwnG(B:Nat)(v:Value)(l:List Nat)(w:World):Prop:=w.ownsRow B 66 1 v l.length (l.map (Value.float .f64))
theorem OwnG.fl{B:Nat}{v:Value}{l:List Nat}{w:World}(h:OwnG B v l w)(hl: ∀x ∈ l,x<18446744073709551616): ∃a0 cap,v=.slice a0 l.length cap/\IsFl w a0 l.length (fun j=>l.getD j 0):=by
 rcases h.2 with⟨rfl,h0⟩ | ⟨g,cap,cur,rfl,hb,hg,h1,h2,h3,h4⟩
 ·exact⟨none,0,by rw[h0],fun k hk=>by omega⟩
 ·refine⟨some ⟨g,0,none⟩,cap,rfl,fun k hk=> ?_⟩
  have hx:l.getD k 0=l[k]:=by simp[List.getD,hk]
  refine⟨by dsimp only;rw[hx];exact hl _ (List.getElem_mem _),g,0,rfl,lt_of_block hg,?_⟩
  have e:=h.cells (g:=g) rfl k (.float .f64 (l.getD k 0)) (by simp[hk])
  rw[sO]at e
  exact e
end
section
open Go.RowKit Go.Deep
namespace Sh
def IsI(w:World)(a0:Option Addr)(len:Nat)(xs:Nat->Int):Prop:= ∀k,k<len->(-9223372036854775808<=xs k/\xs k<=9223372036854775807)/\ ∃b o,a0=some ⟨b,o,none⟩/\b<w.heap.size/\w.cell? ⟨b,o+k,none⟩=some (.int .i64 (xs k))
theorem IsI.below{w w':World}{a0:Option Addr}{len:Nat}{xs:Nat->Int}(h:IsI w a0 len xs)(hb:Below w.heap.size w w'):IsI w' a0 len xs:=by
 intro k hk
 obtain⟨h1,b,o,h2,h3,h4⟩:=h k hk
 exact⟨h1,b,o,h2,Nat.lt_of_lt_of_le h3 hb.size,(Below.cell hb h3).trans h4⟩
theorem IsI.some0{w:World}{a0:Option Addr}{len:Nat}{xs:Nat->Int}(h:IsI w a0 len xs)(h0:0<len): ∃b o,a0=some ⟨b,o,none⟩:=by
 obtain⟨_,b,o,h2,_⟩:=h 0 h0
 exact⟨b,o,h2⟩
theorem IsI.at0{w:World}{b o len k:Nat}{xs:Nat->Int}(h:IsI w (some ⟨b,o,none⟩) len xs)(hk:k<len):(-9223372036854775808<=xs k/\xs k<=9223372036854775807)/\b<w.heap.size/\w.cell? ⟨b,o+k,none⟩=some (.int .i64 (xs k)):=by
 obtain⟨h1,b',o',h2,h3,h4⟩:=h k hk
 cases h2
 exact⟨h1,h3,h4⟩
theorem IsI.congr{w:World}{a0:Option Addr}{len:Nat}{xs ys:Nat->Int}(h:IsI w a0 len xs)(e: ∀k,k<len->xs k=ys k):IsI w a0 len ys:=fun k hk=>by rw[<- e k hk];exact h k hk
theorem lZ(b off j:Nat):(⟨b,off,none⟩:Addr).add j=⟨b,off+j,none⟩:=by unfold Addr.add;split<;>simp_all
theorem row_in{w:World}{b n:Nat}{f:Nat->Int}(h:w.rowIs b 2 n (fun i=>.int .i64 (f i)))(hf: ∀i,i<n-> -9223372036854775808<=f i/\f i<=9223372036854775807):IsI w (some ⟨b,0,none⟩) n f:=fun k hk=>⟨hf k hk,b,0,rfl,h.lt,by rw[Nat.zero_add];exact h.cell hk⟩
def Own(B:Nat)(v:Value)(l:List Int)(w:World):Prop:=w.ownsRow B 2 1 v l.length (l.map (Value.int .i64))
theorem Own.in{B:Nat}{v:Value}{l:List Int}{w:World}(h:Own B v l w)(hl: ∀x ∈ l,-9223372036854775808<=x/\x<=9223372036854775807): ∃a0 cap,v=.slice a0 l.length cap/\IsI w a0 l.length (fun j=>l.getD j 0):=by
 rcases h.2 with⟨rfl,h0⟩ | ⟨g,cap,cur,rfl,hb,hg,h1,h2,h3,h4⟩
 ·exact⟨none,0,by rw[h0],fun k hk=>by omega⟩
 ·refine⟨some ⟨g,0,none⟩,cap,rfl,fun k hk=> ?_⟩
  have hx:l.getD k 0=l[k]:=by simp[List.getD,hk]
  refine⟨by dsimp only;rw[hx];exact hl _ (List.getElem_mem _),g,0,rfl,lt_of_block hg,?_⟩
  have e:=h.cells (g:=g) rfl k (.int .i64 (l.getD k 0)) (by simp[hk])
  rw[lZ]at e
  exact e
end Sh
end
section
open Go.RowKit Tf Cu Go.Deep
namespace Spl
def Dj(v u:Value):Prop:= ∀k,v.ownBlock=some k->u.ownBlock≠some k
def OwnS(M:Nat)(v:Value)(nb nw nt ns:Nat)(B:Nat->Nat)(W T:Nat->Int)(S:Nat->Nat)(sky st:Int)(w:World):Prop:=
 ∃v1 v2 v3 v4,v=.agg #[v1,v2,v3,v4,.int .i64 sky,.int .i64 st]/\OwnG M v1 ((List.range nb).map B) w/\Sh.Own M v2 ((List.range nw).map W) w/\Sh.Own M v3 ((List.range nt).map T) w/\OwnG M v4 ((List.range ns).map S) w/\Dj v1 v4/\Dj v2 v3
def fit4(n lb lw lt ls:Nat):Prop:=lb=6*n*n/\lw=6*n*n/\lt=6*n*n/\ls=12*n*n
def OwnN(B:Nat)(v:Value)(l:List Nat)(w:World):Prop:=w.ownsRow B 3 1 v l.length (l.map fun c=>Value.int .i64 (c:Nat))
def lsP(n P i:Nat):List Nat:=if i%3=0 then clP (6*n*n) P (i/3)else if i%3=1 then edP n P (i/3)else hlP n P (i/3)
def wo(a b:Nat):Nat:=if b=a then 0 else a
def win(g a b:Nat):Value:=.slice (some ⟨g,wo a b,none⟩) (b - a) (b - a)
def cO(n P k:Nat):Nat:=lo (6*n*n) P k
def eO(n P k:Nat):Nat:=eB n (lo (6*n*n) P k)
def PsX(B gl gc ge K:Nat)(a z:Nat->Nat)(H:Nat->List Nat)(X:Nat->Value)(w:World):Prop:=
 ∀k,k<K->X (k*3)=win gc (a k) (a (k+1))/\X (k*3+1)=win ge (z k) (z (k+1))/\OwnN B (X (k*3+2)) (H k) w/\
  ((∀b,(X (k*3+2)).ownBlock=some b->b≠gl/\b≠gc/\b≠ge)/\ ∀j,j<k->Dj (X (k*3+2)) (X (j*3+2)))
def upR(g m:Nat)(w:World):Prop:=w.rowIs g 3 m (fun i=>.int .i64 (i:Nat))
def OwnPs(B n P gl gc ge:Nat)(X:Nat->Value)(w:World):Prop:=
 w.rowIs gl 39 (P*3) X/\upR gc (6*n*n) w/\upR ge (12*n*n) w/\(B<=gl/\B<=gc/\B<=ge/\gl≠gc/\gl≠ge/\gc≠ge)/\PsX B gl gc ge P (cO n P) (eO n P) (hlP n P) X w
def SplitC:Prop:= ∀(n gb:Nat) (parts:Int) (w:World),(1<=n/\n<=32)->GridOf n gb w->W64 parts->
 ((1<=parts/\parts<=64)->Calls prog 5 #[.pointer (some ⟨gb,0,none⟩),.int .i64 parts] w fun e w'=> ∃gl gc ge X,e=.returned (.tuple #[.slice (some ⟨gl,0,none⟩) parts.toNat parts.toNat,.int .i64 0])/\Below w.heap.size w w'/\OwnPs w.heap.size n parts.toNat gl gc ge X w')/\
 (¬(1<=parts/\parts<=64)->Calls prog 5 #[.pointer (some ⟨gb,0,none⟩),.int .i64 parts] w fun e w'=>e=.returned (.tuple #[.slice none 0 0,.int .i64 1])/\Below w.heap.size w w')
def SplitN:Prop:= ∀(parts:Int) (w:World),Calls prog 5 #[.pointer none,.int .i64 parts] w fun e w'=>e=.returned (.tuple #[.slice none 0 0,.int .i64 2])/\Below w.heap.size w w'
def wi(l:Nat)(f:Nat->Int)(N:Nat):Prop:= ∀i,i<l->0<=f i/\f i<(N:Int)
def fit22(n lc le lh:Nat)(C E H:Nat->Int)(lb lw lt ls:Nat):Prop:=fit4 n lb lw lt ls/\wi lc C (6*n*n)/\wi lh H (6*n*n)/\wi le E (12*n*n)
def mk2(lc lh:Nat)(C H:Nat->Int)(c:Nat):Bool:=hs lc C c||hs lh H c
def LocalC:Prop:= ∀(n gb:Nat) (pc:Option Addr) (lc cc:Nat) (C:Nat->Int) (pe:Option Addr) (le ce:Nat) (E:Nat->Int) (ph:Option Addr) (lh ch:Nat) (H:Nat->Int) (pb:Option Addr) (lb cb:Nat) (B:Nat->Nat) (pw:Option Addr) (lw cw:Nat) (W:Nat->Int) (pt:Option Addr) (lt ct:Nat) (T:Nat->Int) (ps:Option Addr) (ls cs:Nat) (S:Nat->Nat) (sky st:Int) (w:World),(1<=n/\n<=32)->GridOf n gb w->(W64 sky/\W64 st)->(lc<=281474976710656/\le<=281474976710656/\lh<=281474976710656)->(lb<=281474976710656/\lw<=281474976710656/\lt<=281474976710656/\ls<=281474976710656)->Sh.IsI w pc lc C->Sh.IsI w pe le E->Sh.IsI w ph lh H->IsFl w pb lb B->Sh.IsI w pw lw W->Sh.IsI w pt lt T->IsFl w ps ls S->
 (fit22 n lc le lh C E H lb lw lt ls->Calls prog 11 #[.pointer (some ⟨gb,0,none⟩),.agg #[.slice pc lc cc,.slice pe le ce,.slice ph lh ch],.agg #[.slice pb lb cb,.slice pw lw cw,.slice pt lt ct,.slice ps ls cs,.int .i64 sky,.int .i64 st]] w fun e w'=> ∃v,e=.returned (.tuple #[v,.int .i64 0])/\Below w.heap.size w w'/\OwnS w.heap.size v lb lw lt ls (shB (mk2 lc lh C H) B) (shW (mk2 lc lh C H) W) (shW (mk2 lc lh C H) T) (shB (hs le E) S) 0 st w')/\
 (¬fit22 n lc le lh C E H lb lw lt ls->Calls prog 11 #[.pointer (some ⟨gb,0,none⟩),.agg #[.slice pc lc cc,.slice pe le ce,.slice ph lh ch],.agg #[.slice pb lb cb,.slice pw lw cw,.slice pt lt ct,.slice ps ls cs,.int .i64 sky,.int .i64 st]] w fun e w'=>e=.returned (.tuple #[.agg #[.slice none 0 0,.slice none 0 0,.slice none 0 0,.slice none 0 0,.int .i64 0,.int .i64 0],.int .i64 1])/\Below w.heap.size w w')
theorem OwnN.in{B:Nat}{v:Value}{l:List Nat}{w:World}(h:OwnN B v l w)(hl: ∀x ∈ l,x<=9223372036854775807): ∃a0 cap,v=.slice a0 l.length cap/\Sh.IsI w a0 l.length (rd l):=by
 rcases h.2 with⟨rfl,h0⟩ | ⟨g,cap,cur,rfl,hb,hg,h1,h2,h3,h4⟩
 ·exact⟨none,0,by rw[h0],fun k hk=>by omega⟩
 ·refine⟨some ⟨g,0,none⟩,cap,rfl,fun k hk=> ?_⟩
  have hx:l.getD k 0=l[k]:=by simp[List.getD,hk]
  have:=hl _ (List.getElem_mem hk)
  refine⟨by unfold rd;rw[hx];omega,g,0,rfl,lt_of_block hg,?_⟩
  have e:=h.cells (g:=g) rfl k (.int .i64 ((l.getD k 0:Nat):Int)) (by simp[hk])
  rw[Sh.lZ]at e
  exact e
theorem ls_lt{n P i x:Nat}(hn:1<=n/\n<=32)(hi:i<P*3)(h:x ∈ lsP n P i):x<12*n*n:=by
 have e:12*n*n=2*(6*n*n):=by rw[<- Nat.mul_assoc,<- Nat.mul_assoc]
 have p:0<6*n*n:=Nat.mul_pos (Nat.mul_pos (by decide) hn.1) hn.1
 unfold lsP at h
 split at h
 ·have:=(iV.1 (mem_cl.1 h)).2
  have:=iJ (N:=6*n*n) (P:=P) (k:=i/3+1) (by omega) (by omega)
  omega
 ·split at h
  ·exact(mem_ed.1 h).1
  ·have:=(mem_hl.1 h).1
   omega
theorem n12{n:Nat}(hn:1<=n/\n<=32):12*n*n<=12288:=by
 have h1:12*n<=12*32:=Nat.mul_le_mul_left _ hn.2
 exact Nat.le_trans (Nat.mul_le_mul h1 hn.2) (by decide)
def PsAt(n P g:Nat)(p:Nat->Option Addr)(c:Nat->Nat)(w:World):Prop:=g<w.heap.size/\ ∀i,i<P*3->w.cell? ⟨g,i,none⟩=some (.slice (p i) (lsP n P i).length (c i))/\Sh.IsI w (p i) (lsP n P i).length (rd (lsP n P i))
theorem PsAt.to{n P g:Nat}{p:Nat->Option Addr}{c:Nat->Nat}{w w':World}(h:PsAt n P g p c w)(a:Ab w w'):PsAt n P g p c w':=by
 have hh:w'.heap[g]? =w.heap[g]? :=by
  rw[Ab.heap a (Array.getElem?_eq_getElem h.1),Array.getElem?_eq_getElem h.1]
 refine⟨lt_of_block (Ab.heap a (Array.getElem?_eq_getElem h.1)),fun i hi=>⟨?_,(h.2 i hi).2.below a⟩⟩
 rw[World.cell?_of_block hh]
 exact(h.2 i hi).1
theorem mA{g a b M:Nat}{w:World}(h:upR g M w)(hb:b<=M)(hs:M<=9223372036854775807):Sh.IsI w (some ⟨g,wo a b,none⟩) (b - a) (rd (List.range' a (b - a))):=by
 intro k hk
 have e:rd (List.range' a (b - a)) k=((a+k:Nat):Int):=by unfold rd;rw[lY hk]
 have e2:wo a b=a:=if_neg (by omega)
 rw[e,e2]
 exact⟨by omega,g,a,rfl,h.lt,h.cell (i:=a+k) (by omega)⟩
theorem kY{B n P gl gc ge:Nat}{X:Nat->Value}{w:World}(hn:1<=n/\n<=32)(h:OwnPs B n P gl gc ge X w): ∃p c,(∀i,i<P*3->X i=.slice (p i) (lsP n P i).length (c i))/\PsAt n P gl p c w:=by
 obtain⟨h1,h2,h3,-,h4⟩:=h
 have n1:=n12 hn
 have n2:6*n*n<=12*n*n:=Nat.mul_le_mul_right _ (Nat.mul_le_mul_right _ (by decide))
 have q: ∀i,i<P*3-> ∃a0 cap,X i=.slice a0 (lsP n P i).length cap/\Sh.IsI w a0 (lsP n P i).length (rd (lsP n P i)):=by
  intro i hi
  have hk:i/3<P:=by omega
  obtain⟨k1,k2,k3,-⟩:=h4 (i/3) hk
  unfold lsP
  by_cases m0:i%3=0
  ·rw[if_pos m0]
   rw[show i/3*3=i by omega]at k1
   have l:=cl_len (6*n*n) P (i/3)
   have u:=iJ (N:=6*n*n) (P:=P) (k:=i/3+1) (by omega) (by omega)
   have s:=cB (6*n*n) P (i/3)
   rw[k1,l]
   refine⟨_,_,rfl,?_⟩
   exact mA h2 (by unfold cO;omega) (by omega)
  ·rw[if_neg m0]
   by_cases m1:i%3=1
   ·rw[if_pos m1]
    rw[show i/3*3+1=i by omega]at k2
    have u:=oB hn.1 (iJ (N:=6*n*n) (P:=P) (k:=i/3+1) (by omega) (by omega))
    have s:=fI (n:=n) (cB (6*n*n) P (i/3))
    rw[k2,ed_len hn.1 hk,pV hn.1 hk]
    refine⟨_,_,rfl,?_⟩
    exact mA h3 (by unfold eO;omega) (by omega)
   ·rw[if_neg m1]
    rw[show i/3*3+2=i by omega]at k3
    exact k3.in (fun x hx=>by have:=(mem_hl.1 hx).1;omega)
 have q': ∀i,∃z:Option Addr × Nat,i<P*3->X i=.slice z.1 (lsP n P i).length z.2/\Sh.IsI w z.1 (lsP n P i).length (rd (lsP n P i)):=fun i=>by
  by_cases hi:i<P*3
  ·obtain⟨a0,cap,k⟩:=q i hi
   exact⟨(a0,cap),fun _=>k⟩
  ·exact⟨(none,0),fun k=>absurd k hi⟩
 obtain⟨z,hz⟩: ∃z:Nat->Option Addr × Nat,∀i,i<P*3->X i=.slice (z i).1 (lsP n P i).length (z i).2/\Sh.IsI w (z i).1 (lsP n P i).length (rd (lsP n P i)):=⟨fun i=>Classical.choose (q' i),fun i=>Classical.choose_spec (q' i)⟩
 refine⟨fun i=>(z i).1,fun i=>(z i).2,fun i hi=>(hz i hi).1,h1.lt,fun i hi=>⟨?_,(hz i hi).2⟩⟩
 rw[<- (hz i hi).1]
 exact h1.cell hi
end Spl
end
section
open Go.RowKit Tf Cu Go.Deep
namespace Spl
def cst(l:List Nat):List Int:=l.map fun c=>((c:Nat):Int)
theorem iW(l:List Nat):(cst l).length=l.length:=List.length_map _
theorem iX(l:List Nat)(x:Nat):cst l++[(x:Int)]=cst (l++[x]):=by
 unfold cst
 rw[List.map_append]
 rfl
def OT(t:TypeId)(B:Nat)(v:Value)(l:List Int)(w:World):Prop:=w.ownsRow B t 1 v l.length (l.map (Value.int .i64))
theorem OT.ofN{B:Nat}{v:Value}{l:List Nat}{w:World}(h:OwnN B v l w):OT 3 B v (cst l) w:=by
 unfold OT cst
 rw[List.length_map,List.map_map]
 exact h
theorem OT.toN{B:Nat}{v:Value}{l:List Nat}{w:World}(h:OT 3 B v (cst l) w):OwnN B v l w:=by
 unfold OT cst at h
 rw[List.length_map,List.map_map]at h
 exact h
theorem OT.mono{t:TypeId}{B C:Nat}{v:Value}{l:List Int}{w:World}(h:OT t B v l w)(hc:C<=B):OT t C v l w:=by
 rcases h.2 with⟨q,e⟩ | ⟨g,cap,cur,q,hb,rest⟩
 ·exact⟨h.1,.inl ⟨q,e⟩⟩
 ·exact⟨h.1,.inr ⟨g,cap,cur,q,Nat.le_trans hc hb,rest⟩⟩
theorem OT.val{t:TypeId}{B:Nat}{v:Value}{l:List Int}{w:World}(h:OT t B v l w): ∃p cap,v=.slice p l.length cap:=by
 rcases h.2 with⟨q,e⟩ | ⟨g,cap,cur,q,hb,rest⟩
 ·exact⟨none,0,by rw[q,e]⟩
 ·exact⟨_,cap,q⟩
theorem OT.blk{t:TypeId}{B:Nat}{v:Value}{l:List Int}{w:World}(h:OT t B v l w){k:Nat}(hk:v.ownBlock=some k):B<=k/\k<w.heap.size:=World.ownsRow.lt h k hk
theorem OT.blkeq{t:TypeId}{B:Nat}{v:Value}{l:List Int}{w w':World}(h:OT t B v l w)(e: ∀k,v.ownBlock=some k->w'.heap[k]? =w.heap[k]?):OT t B v l w':=by
 rcases h.2 with⟨q,e2⟩ | ⟨g,cap,cur,q,hb,hg,rest⟩
 ·exact⟨h.1,.inl ⟨q,e2⟩⟩
 ·exact⟨h.1,.inr ⟨g,cap,cur,q,hb,(e g (by rw[q];rfl)).trans hg,rest⟩⟩
theorem OT.other{t:TypeId}{B:Nat}{v:Value}{l:List Int}{w:World}(h:OT t B v l w){g c:Nat}(u:Value)(hg:v.ownBlock≠some g):OT t B v l (w.setCell ⟨g,c,none⟩ u):=h.blkeq (fun k hk=>Below.heap_setCell _ _ _ _ (fun e=>hg (by have e2:k=g:=e;rw[<- e2];exact hk)))
theorem OT.grown{t:TypeId}{B:Nat}{v:Value}{l:List Int}{w w':World}{row:Option Nat}(h:OT t B v l w)(x:w.grownBy w' row)(hg: ∀k,v.ownBlock=some k->row≠some k):OT t B v l w':=h.blkeq (fun k hk=>x.block k (h.blk hk).2 (fun e=>hg k hk e.symm))
theorem OT.to{t:TypeId}{B:Nat}{v:Value}{l:List Int}{w w':World}(h:OT t B v l w)(a:Ab w w'):OT t B v l w':=h.blkeq (fun k hk=>a.block k (h.blk hk).2)
theorem infoN:(Tryd.prog.info? 3).map (fun i=>(i.zero,i.size,i.bytes))=some (some (.int .i64 0),1,8):=by kernel_rfl
theorem info_n: ∃i,Tryd.prog.info? 3=some i/\i.zero=some (.int .i64 0)/\i.size=1/\i.bytes=8:=by
 have h:=infoN
 cases e:Tryd.prog.info? 3 with
 | none=>rw[e]at h;cases h
 | some i=>
  rw[e]at h
  injection h with h
  injection h with h1 h2
  injection h2 with h2 h3
  exact⟨i,rfl,h1,h2,h3⟩
theorem cJ{ops:Array Oper}{rest:List Oper}{o:Oper}{a:Act}{w:World}{Q:Exit->Act->World->Prop}(hgd:o.guard=none)(s x:Operand)
  (ho:o.op=.call {callee:=.builtin .append,args:= #[s,x],argTypes:= #[37,37]})
  (B:Nat) (v:Value) (l:List Int) (hs:a.eval s=v) (hown:OT 3 B v l w)
  (ad:Addr) (m c:Nat) (news:List Int) (hx:a.eval x=.slice (some ad) m c) (hl:news.length=m) (hnews: ∀j u,(news.map (Value.int .i64))[j]? =some u->w.cell? (ad.add j)=some u)
  (hm:0<m) (hlen:l.length+m<=1048576) (hB:B<=w.heap.size) (nm:Nat) (hnm:l.length+m=nm)
  (h: ∀g cap w',OT 3 B (.slice (some ⟨g,0,none⟩) nm cap) (l++news) w'->w.grownBy w' v.ownBlock->(v.ownBlock=some g\/g=w.heap.size)->B<=g->wpList prog ops Q rest (a.put o.dst (.slice (some ⟨g,0,none⟩) nm cap)) w'):wpList prog ops Q (o :: rest) a w:=by
 subst hnm
 obtain⟨i0,hi,hz0,hz1,hz2⟩:=info_n
 refine wpList_append_lies w hgd s x _ ho B 3 i0 (.int .i64 0) 1 8 underlying37 hi hz0 hz1 hz2 rfl (by decide) v l.length (l.map (Value.int .i64)) hs hown ad m c (news.map (Value.int .i64)) hx (by simpa using hl) hnews (fun u hu=>by
  obtain⟨y,_,rfl⟩:=List.mem_map.1 hu
  rfl) hm (by unfold maxLen;omega) (by omega) hB _ rfl ?_
 intro g cap w' o1 g1 e1 _
 have hb:B<=g:=by
  rcases o1.2 with⟨q,_⟩ | ⟨g2,_,_,q,hb,_⟩
  ·cases q
  ·injection q with q1 q2 q3
   injection q1 with q4
   injection q4 with q5
   omega
 refine h g cap w' ?_ g1 e1 hb
 unfold OT
 rw[List.length_append,List.map_append,hl]
 exact o1
end Spl
end
section
open Go.RowKit Tf Cu Go.Deep
namespace Spl
theorem pW(m:Nat)(w:World)(hm:m<=12288):Calls prog 13 #[.int .i64 (m:Nat)] w fun e w'=> ∃b,e=.returned (.slice (some ⟨b,0,none⟩) m m)/\Ab w w'/\w.heap.size<=b/\upR b m w':=by
 have M2: ∀v:World,(Instr.makeSlice 37 (.int .i64 (m:Nat)) (.int .i64 (m:Nat))).run prog v=.ok (.slice (some ⟨v.heap.size,0,none⟩) m m) (v.alloc (Obj.cells (madeCells #[.int .i64 0] m) 3)):=fun v=>run_make_row' (P:=prog) 37 3 (.int .i64 0) 8 underlying37 infoN rfl .i64 .i64 m (by omega) (by omega) v
 have HN:=hid hm
 have nB:(m:Int)<=12288:=by omega
 clear hm
 have A1:=gQ (bl1 w (Obj.cells (madeCells #[.int .i64 0] m) 3))
 have N1:Hid ((w.alloc (Obj.cells (madeCells #[.int .i64 0] m) 3)).rowIs w.heap.size 3 m (fun _=>.int .i64 0)):=bV (heap_alloc_new _ _)
 go_enter func13,ntmps13
 go_upto_region 2 with fail
 generalize hW:World.alloc w _=V1 at*
 obtain⟨b,hb⟩:=aC w.heap.size
 have LE:Hid (w.heap.size<=b):=by show _<=_;omega
 rw[hb]at N1 ⊢
 clear hb hW M2
 go_wp2
 go_loopw [9] (fun iv wr=> ∃k:Nat,k<=m/\iv=.int .i64 (k:Nat)/\Ab w wr/\wr.rowIs b 3 m (fun i=>.int .i64 (if i<k then(i:Int)else 0))) (fun iv _=>m - (intOf iv).toNat)
 case atStart=>exact⟨0,by omega,rfl,A1.out,N1.out.congr (fun i _=>by simp)⟩
 case round=>
  obtain⟨k,hk,rfl,ar',r2⟩:=hrel
  have AW:=hid ar'
  have P2:=hid r2
  clear ar' r2 N1 A1
  by_cases hkn:k<m
  ·have HK:=hid hkn
   have kI:(k:Int)<m:=by omega
   have kB:(k:Int)<=12288:=by omega
   have z1:=P2.out.cell hkn
   have z2:=P2.out.frozen k
   clear hk hkn
   go_wp2_with fail
   refine⟨⟨k+1,by have:=HK.out;omega,by simp,AW.out.setk LE.out _,(P2.out.set k _).congr (fun i _=> ?_)⟩,by have:=HK.out;simp[intOf];omega⟩
   by_cases e:i=k
   ·subst e;simp
   ·have e2:(i<k+1) ↔ i<k:=by omega
    simp[e,e2]
  ·have e6:m=k:=by omega
   subst e6
   go_wp2
   go_ret
   exact⟨b,rfl,AW.out,LE.out,P2.out.congr (fun i hi=>by simp[hi])⟩
def rt(n e:Nat):Nat:=bsC n (edT n e/4) (edT n e%4)
theorem edge22{n gb e:Nat}{w:World}(hn:1<=n/\n<=32)(he:e<12*n*n)(g:GridOf n gb w):
  Calls prog 36 #[.pointer (some ⟨gb,0,none⟩),.int .i64 (e:Nat)] w fun r w'=>r=.returned (.tuple #[.agg #[.int .i64 (lf n e:Nat),.int .i64 (edT n e%4:Nat),.int .i64 (rt n e:Nat),.int .i64 (bsS n (edT n e/4) (edT n e%4):Nat)],.bool true])/\Below w.heap.size w w':=by
 obtain⟨h1,h2,h3⟩:=bS hn.1 he
 have h:=gEdge_ok hn h1 h2 g
 rw[h3]at h
 exact h
theorem ahead_go(gb M L c a:Nat)(lfF s1F rtF s2F:Nat->Nat)(w:World)(hM:M<=12288)(hL:L<=M)(ha:a<=L)(hc:c<=12288)
  (CE:Hid (∀v,Ab w v->Calls prog 15 #[.pointer (some ⟨gb,0,none⟩)] v fun e w'=>e=.returned (.int .i64 (M:Nat))/\w'=v))
  (CG:Hid (∀v (k:Nat),Ab w v->k<M->Calls prog 36 #[.pointer (some ⟨gb,0,none⟩),.int .i64 (k:Nat)] v fun e w'=>e=.returned (.tuple #[.agg #[.int .i64 (lfF k:Nat),.int .i64 (s1F k:Nat),.int .i64 (rtF k:Nat),.int .i64 (s2F k:Nat)],.bool true])/\Below v.heap.size v w'))
  (CL:Hid (∀k,k<M->(lfF k<c ↔ k<L))):
  Calls prog 16 #[.pointer (some ⟨gb,0,none⟩),.int .i64 (a:Nat),.int .i64 (c:Nat)] w fun e w'=>e=.returned (.int .i64 (L:Nat))/\Ab w w':=by
 have HN:=hid (And.intro hM (And.intro hL (And.intro ha hc)))
 have nB:(M:Int)<=12288:=by omega
 have A1:=hid (Ab.refl w)
 clear hM hL ha hc
 go_enter func16,ntmps16
 go_wp2
 go_loopw [1] (fun iv wr=> ∃k:Nat,k<=L/\iv=.int .i64 (k:Nat)/\Ab w wr) (fun iv _=>M - (intOf iv).toNat)
 case atStart=>exact⟨a,by have:=HN.out;omega,rfl,A1.out⟩
 case round=>
  obtain⟨k,hk,rfl,ar'⟩:=hrel
  have AW:=hid ar'
  have HKL:=hid hk
  have kB:(k:Int)<=12288:=by have:=HN.out;omega
  clear ar' A1 hk
  go_wp2_with fail
  refine(CE.out wr AW.out).mono ?_
  rintro e9 v1 ⟨rfl,hw⟩
  have hw2:=hw.symm
  subst hw2
  by_cases hkn:k<M
  ·have HK:=hid hkn
   have kI:(k:Int)<M:=by omega
   have C2:=hid (CG.out wr k AW.out hkn)
   have C3:=hid (CL.out k hkn)
   obtain⟨x,hx⟩:=aC (lfF k)
   obtain⟨s1,hs1⟩:=aC (s1F k)
   obtain⟨y,hy⟩:=aC (rtF k)
   obtain⟨s2,hs2⟩:=aC (s2F k)
   rw[hx,hs1,hy,hs2]at C2
   rw[hx]at C3
   clear hx hs1 hy hs2 hkn
   go_wp2_with fail
   refine C2.out.mono ?_
   rintro e9 v4 ⟨rfl,b4⟩
   have A4:Hid (Ab w v4):=AW.out.trans b4
   clear b4 C2 AW
   have R5:=hid (heap_alloc_new v4 (.cells #[.int .i64 (x:Nat),.int .i64 (s1:Nat),.int .i64 (y:Nat),.int .i64 (s2:Nat)] 73))
   have A5:Hid (Ab w (v4.alloc (.cells #[.int .i64 (x:Nat),.int .i64 (s1:Nat),.int .i64 (y:Nat),.int .i64 (s2:Nat)] 73))):=A4.out.trans (bl1 _ _)
   go_upto_region 3 with fail
   generalize hW:World.alloc v4 _=v5 at*
   obtain⟨g,hg⟩:=aC v4.heap.size
   rw[hg]at R5 ⊢
   clear hg hW A4
   have x0:=aA 0 R5.out
   by_cases hl:x<c
   ·have d:decide ((x:Int)≥(c:Int))=false:=decide_eq_false (by omega)
    have d2:decide (x≥c)=false:=decide_eq_false (by omega)
    have d3: ¬c<=x:=by omega
    have HL:=hid (C3.out.1 hl)
    clear hl
    go_wp2_with fail
    exact⟨⟨k+1,HL.out,by simp,A5.out⟩,by have:=HK.out;simp[intOf];omega⟩
   ·have d:decide ((x:Int)≥(c:Int))=true:=decide_eq_true (by omega)
    have d2:decide (x≥c)=true:=decide_eq_true (by omega)
    have d3:c<=x:=by omega
    have e6:L=k:=by
     have h1:=C3.out
     have h2:=HKL.out
     rcases Nat.lt_or_ge k L with q | q
     ·exact absurd (h1.2 q) hl
     ·omega
    subst e6
    clear hl
    go_wp2
    go_ret
    exact⟨rfl,A5.out⟩
  ·have e6:M=k:=by have:=HN.out;have:=HKL.out;omega
   subst e6
   have e7:L=M:=by have:=HN.out;have:=HKL.out;omega
   subst e7
   go_wp2
   go_ret
   exact⟨rfl,AW.out⟩
theorem ahead_at{n gb a c:Nat}{w:World}(hn:1<=n/\n<=32)(hc:c<=6*n*n)(ha:a<=eB n c)(g:GridOf n gb w):
  Calls prog 16 #[.pointer (some ⟨gb,0,none⟩),.int .i64 (a:Nat),.int .i64 (c:Nat)] w fun e w'=>e=.returned (.int .i64 (eB n c:Nat))/\Ab w w':=by
 have n1:=n12 hn
 have n2:6*n*n<=12*n*n:=Nat.mul_le_mul_right _ (Nat.mul_le_mul_right _ (by decide))
 exact ahead_go gb (12*n*n) (eB n c) c a (lf n) (fun e=>edT n e%4) (rt n) (fun e=>bsS n (edT n e/4) (edT n e%4)) w n1 (oB hn.1 hc) ha (by omega) (hid (fun v b=>cY (g.to b))) (hid (fun v k b hk=>edge22 hn hk (g.to b))) (hid (fun k hk=>lf_lt hn.1 hk))
end Spl
end
section
open Go.RowKit Tf Cu Go.Deep
namespace Spl
def mk4(x y a b eI:Nat->Nat)(K c:Nat):Bool:=(List.range K).any fun i=>c==x (eI i)||c==y (eI i)||c==a (eI i)||c==b (eI i)
def ow(cI:Nat->Nat)(K c:Nat):Bool:=(List.range K).any fun i=>c==cI i
theorem mk4_step(x y a b eI:Nat->Nat)(K c:Nat):mk4 x y a b eI (K+1) c=(mk4 x y a b eI K c||(c==x (eI K)||c==y (eI K)||c==a (eI K)||c==b (eI K))):=by
 unfold mk4;rw[List.range_succ,List.any_append];simp
theorem ow_step(cI:Nat->Nat)(K c:Nat):ow cI (K+1) c=(ow cI K c||c==cI K):=by
 unfold ow;rw[List.range_succ,List.any_append];simp
theorem infoB:(Tryd.prog.info? 4).map (fun i=>(i.zero,i.size,i.bytes))=some (some (.bool false),1,1):=by kernel_rfl
theorem hY(q:Nat->Bool)(k:Nat):(List.range (k+1)).filter q=(List.range k).filter q++(if q k=true then [k]else []):=by
 rw[List.range_succ,List.filter_append]
 cases h:q k<;>simp[h]
theorem halo_go(gb N M qc oc lc cc qe oe le ce:Nat)(cI eI:Nat->Nat)(lfF s1F rtF s2F bl br:Nat->Nat)(w:World)(hN:0<N/\N<=6144)(hM:M<=12288)(hl:lc<=12288/\le<=12288)
  (IC:Hid (Sh.IsI w (some ⟨qc,oc,none⟩) lc (fun i=>((cI i:Nat):Int)))) (IE:Hid (Sh.IsI w (some ⟨qe,oe,none⟩) le (fun i=>((eI i:Nat):Int))))
  (HC:Hid (∀i,i<lc->cI i<N)) (HE:Hid (∀i,i<le->eI i<M)) (HB:Hid (∀k,k<M->lfF k<N/\rtF k<N/\bl k<N/\br k<N))
  (CC:Hid (∀v,Ab w v->Calls prog 14 #[.pointer (some ⟨gb,0,none⟩)] v fun e w'=>e=.returned (.int .i64 (N:Nat))/\w'=v))
  (CG:Hid (∀v (k:Nat),Ab w v->k<M->Calls prog 36 #[.pointer (some ⟨gb,0,none⟩),.int .i64 (k:Nat)] v fun e w'=>e=.returned (.tuple #[.agg #[.int .i64 (lfF k:Nat),.int .i64 (s1F k:Nat),.int .i64 (rtF k:Nat),.int .i64 (s2F k:Nat)],.bool true])/\Below v.heap.size v w'))
  (CB:Hid (∀v (k:Nat),Ab w v->k<M->Calls prog 37 #[.pointer (some ⟨gb,0,none⟩),.int .i64 (k:Nat)] v fun e w'=>e=.returned (.tuple #[.int .i64 (bl k:Nat),.int .i64 (br k:Nat),.bool true])/\Below v.heap.size v w')):
  Calls prog 17 #[.pointer (some ⟨gb,0,none⟩),.agg #[.slice (some ⟨qc,oc,none⟩) lc cc,.slice (some ⟨qe,oe,none⟩) le ce,.slice none 0 0]] w fun e w'=> ∃v,e=.returned v/\Ab w w'/\OwnN w.heap.size v ((List.range N).filter fun c=>mk4 lfF rtF bl br eI le c&& !ow cI lc c) w':=by
 have M2: ∀v:World,(Instr.makeSlice 81 (.int .i64 (N:Nat)) (.int .i64 (N:Nat))).run prog v=.ok (.slice (some ⟨v.heap.size,0,none⟩) N N) (v.alloc (Obj.cells (madeCells #[.bool false] N) 4)):=fun v=>run_make_row' (P:=prog) 81 4 (.bool false) 1 underlying81 infoB rfl .i64 .i64 N (by omega) (by omega) v
 have HN:=hid (And.intro hN (And.intro hM hl))
 have nB:(N:Int)<=6144:=by omega
 have lB:(lc:Int)<=12288:=by omega
 have mB:(le:Int)<=12288:=by omega
 clear hN hM hl
 obtain⟨A0,Q0⟩:=qF w (.cells #[.slice (some ⟨qc,oc,none⟩) lc cc,.slice (some ⟨qe,oe,none⟩) le ce,.slice none 0 0] 39)
 go_enter func17,ntmps17
 go_upto_region 1 with fail
 generalize hW:World.alloc w _=V0 at*
 obtain⟨ga,hga⟩:=aC w.heap.size
 have LA:Hid (w.heap.size<=ga/\ga<V0.heap.size):=by have h1:=lt_of_block Q0.out;show _/\_;omega
 have HG:=hid hga
 rw[hga]at Q0 ⊢
 clear hga hW
 go_wp2_with fail
 refine(CC.out V0 A0.out).mono ?_
 rintro e9 v1 ⟨rfl,hw⟩
 have hw2:=hw.symm
 subst hw2
 have A1:Hid (Ab w (V0.alloc (Obj.cells (madeCells #[.bool false] N) 4))):=A0.out.trans (bl1 _ _)
 have Q1:Hid ((V0.alloc (Obj.cells (madeCells #[.bool false] N) 4)).heap[ga]? =some (.cells #[.slice (some ⟨qc,oc,none⟩) lc cc,.slice (some ⟨qe,oe,none⟩) le ce,.slice none 0 0] 39)):=Ab.heap (bl1 _ _) Q0.out
 have N1:Hid ((V0.alloc (Obj.cells (madeCells #[.bool false] N) 4)).rowIs V0.heap.size 4 N (fun _=>.bool false)):=bV (heap_alloc_new _ _)
 go_upto_region 2 with fail
 generalize hW:World.alloc V0 _=V1 at*
 obtain⟨b,hb⟩:=aC V0.heap.size
 have LE:Hid (w.heap.size<=b/\ga≠b):=by have:=LA.out;show _/\_;omega
 rw[hb]at N1 ⊢
 clear hb hW M2 A0 Q0 CC LA
 have x0:=aA 0 Q1.out
 have x1:=aA 1 Q1.out
 go_wp2_with fail
 go_loopw [24] (fun iv wr=> ∃k:Nat,k<=le/\iv=.int .i64 (k:Nat)/\Ab w wr/\wr.heap[ga]? =some (.cells #[.slice (some ⟨qc,oc,none⟩) lc cc,.slice (some ⟨qe,oe,none⟩) le ce,.slice none 0 0] 39)/\wr.rowIs b 4 N (fun c=>.bool (mk4 lfF rtF bl br eI k c))) (fun iv _=>le - (intOf iv).toNat)
 case atStart=>exact⟨0,by omega,rfl,A1.out,Q1.out,N1.out.congr (fun i _=>by simp[mk4])⟩
 case round=>
  obtain⟨k,hk,rfl,ar',q2,r2⟩:=hrel
  have AW:=hid ar'
  have P2:=hid r2
  have Q2:=hid q2
  have HKL:=hid hk
  have kB:(k:Int)<=12288:=by have:=HN.out;omega
  clear ar' r2 q2 N1 A1 Q1 x0 x1 hk
  by_cases hkn:k<le
  ·have HK:=hid hkn
   have kI:(k:Int)<le:=by omega
   have hm:=HE.out k hkn
   have C1:=hid (fun v a=>CG.out v (eI k) a hm)
   have C2:=hid (fun v a=>CB.out v (eI k) a hm)
   have ye:wr.cell? ⟨qe,oe+k,none⟩=some (.int .i64 (eI k:Nat)):=((IE.out.below AW.out).at0 hkn).2.2
   have hb4:=HB.out _ hm
   have ST:=hid (fun c=>mk4_step lfF rtF bl br eI k c)
   obtain⟨e,he⟩:=aC (eI k)
   rw[he]at C1 C2 ye hb4 ST
   obtain⟨x,hx⟩:=aC (lfF e)
   obtain⟨s1,hs1⟩:=aC (s1F e)
   obtain⟨y,hy⟩:=aC (rtF e)
   obtain⟨s2,hs2⟩:=aC (s2F e)
   obtain⟨z,hz⟩:=aC (bl e)
   obtain⟨u,hu⟩:=aC (br e)
   rw[hx,hs1,hy,hs2]at C1
   rw[hz,hu]at C2
   rw[hx,hy,hz,hu]at hb4 ST
   have xI:(x:Int)<N:=by omega
   have yI:(y:Int)<N:=by omega
   have zI:(z:Int)<N:=by omega
   have uI:(u:Int)<N:=by omega
   have H4:=hid hb4
   clear he hx hs1 hy hs2 hz hu hkn hm hb4
   go_wp2_with fail
   refine(C1.out wr AW.out).mono ?_
   rintro e9 v4 ⟨rfl,b4⟩
   have A4:Hid (Ab wr v4):=b4
   clear b4 C1 ye
   have R5:=hid (heap_alloc_new v4 (.cells #[.int .i64 (x:Nat),.int .i64 (s1:Nat),.int .i64 (y:Nat),.int .i64 (s2:Nat)] 73))
   have A5:Hid (Ab wr (v4.alloc (.cells #[.int .i64 (x:Nat),.int .i64 (s1:Nat),.int .i64 (y:Nat),.int .i64 (s2:Nat)] 73))):=A4.out.trans (bl1 _ _)
   have L5:Hid (wr.heap.size<=v4.heap.size):=A4.out.size
   go_upto_region 6 with fail
   generalize hW:World.alloc v4 _=v5 at*
   obtain⟨g,hg⟩:=aC v4.heap.size
   rw[hg]at R5 L5 ⊢
   clear hg hW A4
   go_wp2_with fail
   refine(C2.out v5 (AW.out.trans A5.out)).mono ?_
   rintro e9 v6 ⟨rfl,b6⟩
   have A6:Hid (Ab wr v6):=A5.out.trans b6
   have R6:=hid (Ab.heap b6 R5.out)
   have P6:=hid (rowIs.ab P2.out A6.out)
   clear b6 R5 A5 C2
   have LT:Hid (g≠b):=by have h1:=P2.out.lt;have h2:=L5.out;show _≠_;omega
   have gb1:g≠b:=LT.out
   have gb2:b≠g:=fun h=>LT.out h.symm
   have y0:=aA 0 R6.out
   have y2:=aA 2 R6.out
   have z1:=P6.out.cell H4.out.1
   have z2:=P6.out.cell H4.out.2.1
   have z3:=P6.out.frozen x
   have z4:=P6.out.frozen y
   have S1:=hid (P6.out.set x (.bool true))
   have S2:=hid (S1.out.set y (.bool true))
   obtain⟨q5,z5⟩: ∃q,(v6.setCell ⟨b,x,none⟩ (.bool true)).cell? ⟨b,y,none⟩=some q:=⟨_,S1.out.cell H4.out.2.1⟩
   have z6:=S1.out.frozen y
   have S7:=hid S2.out.drew
   have A7:Hid (Ab w ((v6.setCell ⟨b,x,none⟩ (.bool true)).setCell ⟨b,y,none⟩ (.bool true)).drew):=Ab.drew (((AW.out.trans A6.out).setk LE.out.1 _).setk LE.out.1 _)
   have Q7:Hid (((v6.setCell ⟨b,x,none⟩ (.bool true)).setCell ⟨b,y,none⟩ (.bool true)).drew.heap[ga]? =some (.cells #[.slice (some ⟨qc,oc,none⟩) lc cc,.slice (some ⟨qe,oe,none⟩) le ce,.slice none 0 0] 39)):=(aH LE.out.2).trans ((aH LE.out.2).trans (Ab.heap A6.out Q2.out))
   go_upto_region 7 with fail
   go_region
   generalize hW:World.drew _=v7 at*
   clear hW y0 y2 z1 z2 z3 z4 z5 z6 S1 S2 R6 P6 A6 Q2 P2 AW
   have z1:=S7.out.cell H4.out.2.2.1
   have z3:=S7.out.frozen z
   have S8:=hid (S7.out.set z (.bool true))
   have S9:=hid (S8.out.set u (.bool true))
   obtain⟨q5,z5⟩: ∃q,(v7.setCell ⟨b,z,none⟩ (.bool true)).cell? ⟨b,u,none⟩=some q:=⟨_,S8.out.cell H4.out.2.2.2⟩
   have z6:=S8.out.frozen u
   go_wp2_with fail
   refine⟨⟨k+1,by have:=HK.out;omega,by simp,(A7.out.setk LE.out.1 _).setk LE.out.1 _,(aH LE.out.2).trans ((aH LE.out.2).trans Q7.out),S9.out.congr (fun i _=> ?_)⟩,by have:=HK.out;simp[intOf];omega⟩
   rw[ST.out i]
   by_cases e1:i=u
   ·subst e1;simp
   ·by_cases e2:i=z
    ·subst e2;simp
    ·by_cases e3:i=y
     ·subst e3;simp
     ·by_cases e4:i=x
      ·subst e4;simp
      ·simp[e1,e2,e3,e4]
  ·have e6:k=le:=by have:=HKL.out;omega
   subst e6
   have x0:=aA 0 Q2.out
   clear CG CB HE HB IE
   go_wp2_with fail
   go_loopw [59] (fun iv wr=> ∃j:Nat,j<=lc/\iv=.int .i64 (j:Nat)/\Ab w wr/\wr.rowIs b 4 N (fun c=>.bool (mk4 lfF rtF bl br eI k c&& !ow cI j c))) (fun iv _=>lc - (intOf iv).toNat)
   case atStart=>exact⟨0,by omega,rfl,AW.out,P2.out.congr (fun i _=>by simp[ow])⟩
   case round=>
    obtain⟨j,hj,rfl,ar',r2⟩:=hrel
    have AX:=hid ar'
    have P3:=hid r2
    have HJL:=hid hj
    have jB:(j:Int)<=12288:=by have:=HN.out;omega
    clear ar' r2 AW P2 Q2 x0 hj
    by_cases hjn:j<lc
    ·have HJ:=hid hjn
     have jI:(j:Int)<lc:=by omega
     have ST:=hid (fun c=>ow_step cI j c)
     have hm:=HC.out j hjn
     have ye:wr.cell? ⟨qc,oc+j,none⟩=some (.int .i64 (cI j:Nat)):=((IC.out.below AX.out).at0 hjn).2.2
     obtain⟨x,hx⟩:=aC (cI j)
     rw[hx]at ye hm ST
     have xI:(x:Int)<N:=by omega
     have z1:=P3.out.cell hm
     have z2:=P3.out.frozen x
     clear hx hjn hm
     go_wp2_with fail
     refine⟨⟨j+1,by have:=HJ.out;omega,by simp,AX.out.setk LE.out.1 _,(P3.out.set x _).congr (fun i _=> ?_)⟩,by have:=HJ.out;simp[intOf];omega⟩
     rw[ST.out i]
     by_cases e1:i=x
     ·subst e1;simp
     ·have e2:(i==x)=false:=by simp[e1]
      rw[e2];simp[e1]
    ·have e6:j=lc:=by have:=HJL.out;omega
     subst e6
     go_wp2_with fail
     rename World=>wq
     obtain⟨q,hq⟩: ∃q:Nat->Bool,(fun c=>(mk4 lfF rtF bl br eI k c&& !ow cI j c))=q:=⟨_,rfl⟩
     have P4:Hid (wq.rowIs b 4 N (fun c=>.bool (q c))):=by rw[<- hq];exact P3.out
     have HQ:=hid hq
     clear P3 hq HJL HKL
     have News:Hid (∀(v:World) (x:Nat) (j:Nat) (u:Value),(([(x:Int)]:List Int).map (Value.int .i64))[j]? =some u->(v.alloc (.cells #[.int .i64 (x:Nat)] 3)).cell? ((⟨v.heap.size,0,none⟩:Addr).add j)=some u):=fun v x=>World.news_of_block (cs:= #[.int .i64 (x:Nat)]) (t:=3) (fr:=(0,0)) (heap_alloc_new v _)
     have O0:Hid (OT 3 wq.heap.size (.slice none 0 0) (cst ((List.range 0).filter q)) wq):=⟨by simp[cst],.inl ⟨rfl,rfl⟩⟩
     obtain⟨g0,hg0⟩:=aC wq.heap.size
     have HG0:=hid hg0
     rw[hg0]at O0
     clear hg0
     go_loopw [15,69] (fun ov iv wr=> ∃m:Nat,m<=N/\iv=.int .i64 (m:Nat)/\Ab wq wr/\OT 3 g0 ov (cst ((List.range m).filter q)) wr) (fun _ iv _=>N - (intOf iv).toNat)
     case atStart=>exact⟨0,by omega,rfl,Ab.refl wq,O0.out⟩
     case round=>
      obtain⟨m,hm,rfl,ar',o2⟩:=hrel
      have AR:=hid ar'
      have OV:=hid o2
      have HML:=hid hm
      have SB:=hid (hY q m)
      have mBd:(m:Int)<=6144:=by omega
      have HL:Hid ((cst ((List.range m).filter q)).length+1<=1048576):=by
       have h1:=HML.out
       have h2:=HN.out
       have h3:=List.length_filter_le q (List.range m)
       show _<=_
       rw[iW]
       rw[List.length_range]at h3
       omega
      have P5:=hid (rowIs.ab P4.out AR.out)
      clear ar' o2 hm O0
      by_cases hmn:m<N
      ·have HM:=hid hmn
       have mI:(m:Int)<N:=by omega
       have z1:=P5.out.cell hmn
       obtain⟨qv,hqv⟩:=aC (q m)
       rw[hqv]at z1 SB
       obtain⟨out,hout⟩:=aC ((List.range m).filter q)
       rw[hout]at OV SB HL
       clear hqv hout hmn
       cases qv with
       | false=>
        go_wp2_with fail
        refine⟨⟨m+1,by have:=HM.out;omega,by simp,AR.out,?_⟩,by have:=HM.out;simp[intOf];omega⟩
        rw[SB.out]
        simpa using OV.out
       | true=>
        have SE:Hid ((List.range (m+1)).filter q=out++[m]):=by show _=_;rw[SB.out];rfl
        clear SB
        have SZ:Hid ((wr.alloc (.cells #[.int .i64 (m:Nat)] 3)).heap.size=wr.heap.size+1):=cH _ _
        go_wp2_with (at_builtin;refine cJ rfl (.tmp 75) (.tmp 77) rfl g0 _ (cst out) rfl (OV.out.to (bl1 wr (.cells #[.int .i64 (m:Nat)] 3))) ⟨wr.heap.size,0,none⟩ 1 1 [(m:Int)] rfl rfl (News.out wr m) (by decide) HL.out (by have h1:=AR.out.size;have h2:=SZ.out;have h3:=HG0.out;omega) ((cst out).length+1) rfl ?_;intro g7 c7 w7 o7 a7 _ _;have O7:=hid o7;have A7:Hid (Ab wq w7):=(AR.out.trans (bl1 wr (.cells #[.int .i64 (m:Nat)] 3)):Below _ _ _).grown a7 (by have h1:=AR.out.size;have h2:=SZ.out;omega) (fun k hk=>by have:=(World.ownsRow.lt OV.out k hk).1;rw[HG0.out];exact this);clear o7 a7)
        refine⟨⟨m+1,by have:=HM.out;omega,by simp,A7.out,?_⟩,by have:=HM.out;simp[intOf];omega⟩
        rw[SE.out,<- iX]
        exact O7.out
      ·have e6:m=N:=by have:=HML.out;omega
       subst e6
       go_wp2
       go_ret
       refine⟨_,rfl,AX.out.trans AR.out,?_⟩
       rw[HQ.out]
       refine OT.toN (OT.mono OV.out ?_)
       rw[<- HG0.out]
       exact AX.out.size
theorem behind22{n gb e:Nat}{w:World}(hn:1<=n/\n<=32)(he:e<12*n*n)(g:GridOf n gb w):
  Calls prog 37 #[.pointer (some ⟨gb,0,none⟩),.int .i64 (e:Nat)] w fun r w'=>r=.returned (.tuple #[.int .i64 (bsC n (edT n e/4) ((edT n e%4+2)%4):Nat),.int .i64 (bsC n (bsC n (edT n e/4) (edT n e%4)) ((bsS n (edT n e/4) (edT n e%4)+2)%4):Nat),.bool true])/\Below w.heap.size w w':=by
 obtain⟨h1,h2,h3⟩:=bS hn.1 he
 have h:=pR hn h1 h2 g
 rw[h3]at h
 exact h
theorem rF{n e:Nat}(hn:1<=n)(he:e<12*n*n):lf n e<6*n*n/\rt n e<6*n*n/\bsC n (edT n e/4) ((edT n e%4+2)%4)<6*n*n/\bsC n (bsC n (edT n e/4) (edT n e%4)) ((bsS n (edT n e/4) (edT n e%4)+2)%4)<6*n*n:=by
 obtain⟨h1,-,-⟩:=bS hn he
 have c1:=bM h1
 have c2:=(eG hn c1 (s:=edT n e%4) (Nat.mod_lt _ (by decide))).1
 exact⟨c1,c2,(eG hn c1 (Nat.mod_lt _ (by decide))).1,(eG hn c2 (Nat.mod_lt _ (by decide))).1⟩
theorem sP{n P k:Nat}(hn:1<=n)(hk:k<P):((List.range (6*n*n)).filter fun c=>mk4 (lf n) (rt n) (fun e=>bsC n (edT n e/4) ((edT n e%4+2)%4)) (fun e=>bsC n (bsC n (edT n e/4) (edT n e%4)) ((bsS n (edT n e/4) (edT n e%4)+2)%4)) (fun i=>eO n P k+i) (eO n P (k+1) - eO n P k) c&& !ow (fun i=>cO n P k+i) (cO n P (k+1) - cO n P k) c)=hlP n P k:=by
 unfold hlP
 refine List.filter_congr (fun c _=> ?_)
 have e1:mk4 (lf n) (rt n) (fun e=>bsC n (edT n e/4) ((edT n e%4+2)%4)) (fun e=>bsC n (bsC n (edT n e/4) (edT n e%4)) ((bsS n (edT n e/4) (edT n e%4)+2)%4)) (fun i=>eO n P k+i) (eO n P (k+1) - eO n P k) c=ask n P k c:=by
  unfold ask
  rw[pV hn hk,List.range'_eq_map_range,List.any_map]
  rfl
 have e2:ow (fun i=>cO n P k+i) (cO n P (k+1) - cO n P k) c=inP (6*n*n) P k c:=by
  have s:=cB (6*n*n) P k
  rw[Bool.eq_iff_iff,iV]
  unfold ow cO
  rw[List.any_eq_true]
  constructor
  ·rintro⟨i,h1,h2⟩
   have h1:=List.mem_range.1 h1
   have h2:c=lo (6*n*n) P k+i:=by simpa using h2
   omega
  ·rintro⟨h1,h2⟩
   refine⟨c - lo (6*n*n) P k,List.mem_range.2 (by omega),?_⟩
   simp
   omega
 rw[e1,e2]
theorem halo_at{n gb P k gc ge:Nat}{w:World}(hn:1<=n/\n<=32)(hk:k<P)(g:GridOf n gb w)(u:upR gc (6*n*n) w)(v:upR ge (12*n*n) w):
  Calls prog 17 #[.pointer (some ⟨gb,0,none⟩),.agg #[win gc (cO n P k) (cO n P (k+1)),win ge (eO n P k) (eO n P (k+1)),.slice none 0 0]] w fun e w'=> ∃v,e=.returned v/\Ab w w'/\OwnN w.heap.size v (hlP n P k) w':=by
 have n1:=n12 hn
 have n2:6*n*n<=6144:=by
  have h1:6*n<=6*32:=Nat.mul_le_mul_left _ hn.2
  exact Nat.le_trans (Nat.mul_le_mul h1 hn.2) (by decide)
 have n0:0<6*n*n:=Nat.mul_pos (Nat.mul_pos (by decide) hn.1) hn.1
 have c1:=iJ (N:=6*n*n) (P:=P) (k:=k+1) (by omega) (by omega)
 have c2:=cB (6*n*n) P k
 have d1:=oB hn.1 c1
 have d2:=fI (n:=n) c2
 have h:=halo_go gb (6*n*n) (12*n*n) gc (wo (cO n P k) (cO n P (k+1))) (cO n P (k+1) - cO n P k) (cO n P (k+1) - cO n P k) ge (wo (eO n P k) (eO n P (k+1))) (eO n P (k+1) - eO n P k) (eO n P (k+1) - eO n P k) (fun i=>cO n P k+i) (fun i=>eO n P k+i) (lf n) (fun e=>edT n e%4) (rt n) (fun e=>bsS n (edT n e/4) (edT n e%4)) (fun e=>bsC n (edT n e/4) ((edT n e%4+2)%4)) (fun e=>bsC n (bsC n (edT n e/4) (edT n e%4)) ((bsS n (edT n e/4) (edT n e%4)+2)%4)) w ⟨n0,n2⟩ n1 (by unfold cO eO;omega)
  (hid ((mA u (by unfold cO;omega) (by omega)).congr (fun i hi=>by unfold rd;rw[lY hi]))) (hid ((mA v (by unfold eO;omega) (by omega)).congr (fun i hi=>by unfold rd;rw[lY hi])))
  (hid (fun i hi=>by unfold cO at*;omega)) (hid (fun i hi=>by unfold eO at*;omega)) (hid (fun e he=>rF hn.1 he))
  (hid (fun v a=>dT (g.to a))) (hid (fun v k a hk=>edge22 hn hk (g.to a))) (hid (fun v k a hk=>behind22 hn hk (g.to a)))
 rw[sP hn.1 hk]at h
 exact h
end Spl
end
end Go.Proofs.YtilfdnipahabbaaDoor
