/-
  Some of the texts of this proof, one behind the other.
-/
import Derived.Test.YtilfdnipahabbaaGreatDoorRows
import Derived.ProofKit
import Derived.OpenShut
import Derived.WalkLawsBesides
import Derived.Stop.Joined
import Derived.Carry
import Derived.Lib.SmallJoins
import Derived.Deep.Slices
import Derived.Deep.OwnRows
import Derived.Deep.AppendLies
import Derived.OwnWalk
import Derived.Deep.Cut
import Derived.Deep.CutRange
import Derived.Deep.AppendSrc
import Derived.Deep.QuietTactic
import Derived.StillTail
import Derived.BigQuiet
import Derived.Test.YtilfdnipahabbaaGreatDoorUd07
set_option maxRecDepth 100000
set_option maxHeartbeats 400000000
namespace Go.Proofs.YtilfdnipahabbaaGreatDoor
open _root_.Go.Proofs.Tryz
section
open Go.ChangeShapes Go.WideShapes Go.ChangeAt Go.WideMaps Go.WideElems Go.RowKit Go.Deep
def IsIn(w:World)(a0:Option Addr)(len:Nat)(xs:Nat->Int):Prop:= ∀k,k<len->(-9223372036854775808<=xs k/\xs k<=9223372036854775807)/\ ∃b o,a0=some ⟨b,o,none⟩/\b<w.heap.size/\w.cell? ⟨b,o+k,none⟩=some (.int .i64 (xs k))
theorem tI{H:Type}{enc:TypeId × Value->H}{P:Program}{w:World}{base:Nat}{spare:Nat->Bool}{held:Bool}{t:TypeId}{fuel:Nat}{v:Value}{x:DataW H × List MemPlace}(ht:P.underlying t=some (.float .f64))(h:DataW.trod enc P w base spare held fuel t [v]=some x):
  ∃b,v=.float .f64 b/\(Lit.float .f64 b).wf=true:=by
 cases fuel with
 | zero=>simp[DataW.trod]at h
 | succ n=>
  unfold DataW.trod at h
  rw[ht]at h
  split at h<;>simp_all
theorem qQ{H:Type}{enc:TypeId × Value->H}{P:Program}{w:World}{base:Nat}{spare:Nat->Bool}{held:Bool}{t:TypeId}{fuel:Nat}{v:Value}{x:DataW H × List MemPlace}(ht:P.underlying t=some (.float .f64))(h:DataW.trod enc P w base spare held fuel t [v]=some x):
  ∃b,v=.float .f64 b/\b<18446744073709551616:=by
 obtain⟨k,e,wf⟩:=tI ht h
 exact⟨k,e,by simpa [Lit.wf]using wf⟩
theorem lD(b off j:Nat):(⟨b,off,none⟩:Addr).add j=⟨b,off+j,none⟩:=by
 by_cases c:j=0
 ·subst c;simp[Addr.add]
 ·simp[Addr.add,c]
theorem mO{w:World}{a:Addr}{v:Value}(h:w.cell? a=some v):a.block<w.heap.size:=by
 by_cases c:a.block<w.heap.size
 ·exact c
 ·exfalso
  have:w.heap[a.block]? =none:=by simp;omega
  simp[World.cell?,this]at h
theorem iT{α:Type}{n:Nat}{R:Nat->α->Prop}(d:α)(h: ∀i,i<n-> ∃x,R i x): ∃f:Nat->α,∀i,i<n->R i (f i):=by
 have: ∀i,∃x,i<n->R i x:=fun i=>by
  by_cases c:i<n
  ·obtain⟨x,h1⟩:=h i c
   exact⟨x,fun _=>h1⟩
  ·exact⟨d,fun h=>absurd h c⟩
 exact⟨fun i=>(this i).choose,fun i hi=>(this i).choose_spec hi⟩
theorem lF{H:Type}{enc:TypeId × Value->H}{W:World}{cs:List Value}{fuel:Nat}{x:DataW H × List MemPlace}
  (hf:DataW.trod enc prog W 0 (fun _=>true) true fuel 23 cs=some x): ∃a0 len cap xs,cs=[.slice a0 len cap]/\IsFl W a0 len xs/\len<=cap/\cap<=maxLen:=by
 rcases open_slice1 underlying23 (by kernel_rfl) hf with⟨hcs,_⟩ | ⟨a,l,c,m,n,V,D,Pl,hcs,_,hl,hm,hmm,_,hx⟩
 ·exact⟨none,0,0,fun _=>0,hcs,fun k hk=>by omega,Nat.le_refl _,Nat.zero_le _⟩
 ·simp only[if_true]at hmm
  have each: ∀i,i<l-> ∃x:Nat,W.cell? (a.add i)=some (.float .f64 x)/\x<18446744073709551616:=by
   intro i hi
   obtain⟨h1,h2⟩:=hx i (by omega)
   obtain⟨x,e,wx⟩:=qQ underlying53 h2
   rw[e]at h1
   exact⟨x,h1,wx⟩
  obtain⟨f,hf⟩:=iT 0 each
  refine⟨some a,l,c,f,hcs,fun k hk=>⟨(hf k hk).2,?_⟩,hl,hm⟩
  have h0:=(hf k hk).1
  have z:=(hf 0 (by omega)).1
  obtain⟨b,off,spot⟩:=a
  have hspot:spot=none:=by simpa [Addr.add]using World.cell?_spot z
  subst hspot
  rw[lD]at h0
  exact⟨b,off,rfl,mO h0,h0⟩
end
section
open Go.RowKit Go.Deep
theorem bO(W:World)(A:Obj):(W.alloc A).heap.size=W.heap.size+1:=by
 show(W.heap.push A).size=_
 simp
theorem bM{v:World}{g n:Nat}{z:Value}{T:TypeId}(h:v.heap[g]? =some (Obj.cells (madeCells #[z] n) T)):v.rowIs g T n (fun _=>z):=by
 have e:=World.rowIs_made v z n T
 have l:=heap_alloc_new v (Obj.cells (madeCells #[z] n) T)
 obtain⟨c,h1,h2⟩:=e
 rw[l]at h1
 exact⟨c,h.trans h1,h2⟩
theorem fI{w:World}{g:Nat}{a b c d e f x y z p q r:Value}{T:TypeId}(h:w.heap[g]? =some (.cells #[a,b,c,d,e,f] T)):
  ((((((w.setCell ⟨g,0,none⟩ x).setCell ⟨g,1,none⟩ y).setCell ⟨g,2,none⟩ z).setCell ⟨g,3,none⟩ p).setCell ⟨g,4,none⟩ q).setCell ⟨g,5,none⟩ r).heap[g]? =some (.cells #[x,y,z,p,q,r] T):=by
 have h1:=aK (v:=x) (k:=0) h
 have h2:=aK (v:=y) (k:=1) h1
 have h3:=aK (v:=z) (k:=2) h2
 have h4:=aK (v:=p) (k:=3) h3
 have h5:=aK (v:=q) (k:=4) h4
 have h6:=aK (v:=r) (k:=5) h5
 simpa using h6
theorem aH{v:World}{b k g:Nat}{x:Value}(h:g≠b):(v.setCell ⟨b,k,none⟩ x).heap[g]? =v.heap[g]? :=blk_setCell_other _ _ _ _ h
end
section
open Go.RowKit Go.Deep
theorem rowIs.fl{w:World}{b n:Nat}{f:Nat->Nat}(h:w.rowIs b 53 n (fun i=>.float .f64 (f i)))(hf: ∀i,i<n->f i<18446744073709551616):IsFl w (some ⟨b,0,none⟩) n f:=fun k hk=>⟨hf k hk,b,0,rfl,h.lt,by rw[Nat.zero_add];exact h.cell hk⟩
end
section
open Go.RowKit Tf Cu Go.Deep
def OwnG(B:Nat)(v:Value)(l:List Nat)(w:World):Prop:=w.ownsRow B 53 1 v l.length (l.map (Value.float .f64))
theorem OwnG.fl{B:Nat}{v:Value}{l:List Nat}{w:World}(h:OwnG B v l w)(hl: ∀x ∈ l,x<18446744073709551616): ∃a0 cap,v=.slice a0 l.length cap/\IsFl w a0 l.length (fun j=>l.getD j 0):=by
 rcases h.2 with⟨rfl,h0⟩ | ⟨g,cap,cur,rfl,hb,hg,h1,h2,h3,h4⟩
 ·exact⟨none,0,by rw[h0],fun k hk=>by omega⟩
 ·refine⟨some ⟨g,0,none⟩,cap,rfl,fun k hk=> ?_⟩
  have hx:l.getD k 0=l[k]:=by simp[List.getD,hk]
  refine⟨by dsimp only;rw[hx];exact hl _ (List.getElem_mem _),g,0,rfl,lt_of_block hg,?_⟩
  have e:=h.cells (g:=g) rfl k (.float .f64 (l.getD k 0)) (by simp[hk])
  rw[lD]at e
  exact e
end
section
open Go.RowKit Go.Deep
namespace Sh
def IsI(w:World)(a0:Option Addr)(len:Nat)(xs:Nat->Int):Prop:= ∀k,k<len->(-9223372036854775808<=xs k/\xs k<=9223372036854775807)/\ ∃b o,a0=some ⟨b,o,none⟩/\b<w.heap.size/\w.cell? ⟨b,o+k,none⟩=some (.int .i64 (xs k))
theorem IsI.below{w w':World}{a0:Option Addr}{len:Nat}{xs:Nat->Int}(h:IsI w a0 len xs)(hb:Below w.heap.size w w'):IsI w' a0 len xs:=by
 intro k hk
 obtain⟨h1,b,o,h2,h3,h4⟩:=h k hk
 exact⟨h1,b,o,h2,Nat.lt_of_lt_of_le h3 hb.size,(Below.cell hb h3).trans h4⟩
theorem IsI.some0{w:World}{a0:Option Addr}{len:Nat}{xs:Nat->Int}(h:IsI w a0 len xs)(h0:0<len): ∃b o,a0=some ⟨b,o,none⟩:=by
 obtain⟨_,b,o,h2,_⟩:=h 0 h0
 exact⟨b,o,h2⟩
theorem IsI.at0{w:World}{b o len k:Nat}{xs:Nat->Int}(h:IsI w (some ⟨b,o,none⟩) len xs)(hk:k<len):(-9223372036854775808<=xs k/\xs k<=9223372036854775807)/\b<w.heap.size/\w.cell? ⟨b,o+k,none⟩=some (.int .i64 (xs k)):=by
 obtain⟨h1,b',o',h2,h3,h4⟩:=h k hk
 cases h2
 exact⟨h1,h3,h4⟩
theorem IsI.congr{w:World}{a0:Option Addr}{len:Nat}{xs ys:Nat->Int}(h:IsI w a0 len xs)(e: ∀k,k<len->xs k=ys k):IsI w a0 len ys:=fun k hk=>by rw[<- e k hk];exact h k hk
theorem iU(b off j:Nat):(⟨b,off,none⟩:Addr).add j=⟨b,off+j,none⟩:=by unfold Addr.add;split<;>simp_all
theorem mP{w:World}{b n:Nat}{f:Nat->Int}(h:w.rowIs b 2 n (fun i=>.int .i64 (f i)))(hf: ∀i,i<n-> -9223372036854775808<=f i/\f i<=9223372036854775807):IsI w (some ⟨b,0,none⟩) n f:=fun k hk=>⟨hf k hk,b,0,rfl,h.lt,by rw[Nat.zero_add];exact h.cell hk⟩
def Own(B:Nat)(v:Value)(l:List Int)(w:World):Prop:=w.ownsRow B 2 1 v l.length (l.map (Value.int .i64))
theorem Own.in{B:Nat}{v:Value}{l:List Int}{w:World}(h:Own B v l w)(hl: ∀x ∈ l,-9223372036854775808<=x/\x<=9223372036854775807): ∃a0 cap,v=.slice a0 l.length cap/\IsI w a0 l.length (fun j=>l.getD j 0):=by
 rcases h.2 with⟨rfl,h0⟩ | ⟨g,cap,cur,rfl,hb,hg,h1,h2,h3,h4⟩
 ·exact⟨none,0,by rw[h0],fun k hk=>by omega⟩
 ·refine⟨some ⟨g,0,none⟩,cap,rfl,fun k hk=> ?_⟩
  have hx:l.getD k 0=l[k]:=by simp[List.getD,hk]
  refine⟨by dsimp only;rw[hx];exact hl _ (List.getElem_mem _),g,0,rfl,lt_of_block hg,?_⟩
  have e:=h.cells (g:=g) rfl k (.int .i64 (l.getD k 0)) (by simp[hk])
  rw[iU]at e
  exact e
end Sh
end
section
open Go.RowKit Tf Cu Go.Deep
namespace Spl
def Dj(v u:Value):Prop:= ∀k,v.ownBlock=some k->u.ownBlock≠some k
def OwnS(M:Nat)(v:Value)(nb nw nt ns:Nat)(B:Nat->Nat)(W T:Nat->Int)(S:Nat->Nat)(sky st:Int)(w:World):Prop:=
 ∃v1 v2 v3 v4,v=.agg #[v1,v2,v3,v4,.int .i64 sky,.int .i64 st]/\OwnG M v1 ((List.range nb).map B) w/\Sh.Own M v2 ((List.range nw).map W) w/\Sh.Own M v3 ((List.range nt).map T) w/\OwnG M v4 ((List.range ns).map S) w/\Dj v1 v4/\Dj v2 v3
def fit4(n lb lw lt ls:Nat):Prop:=lb=6*n*n/\lw=6*n*n/\lt=6*n*n/\ls=12*n*n
def OwnN(B:Nat)(v:Value)(l:List Nat)(w:World):Prop:=w.ownsRow B 3 1 v l.length (l.map fun c=>Value.int .i64 (c:Nat))
def lsP(n P i:Nat):List Nat:=if i%3=0 then clP (6*n*n) P (i/3)else if i%3=1 then edP n P (i/3)else hlP n P (i/3)
def wo(a b:Nat):Nat:=if b=a then 0 else a
def win(g a b:Nat):Value:=.slice (some ⟨g,wo a b,none⟩) (b - a) (b - a)
def cO(n P k:Nat):Nat:=lo (6*n*n) P k
def eO(n P k:Nat):Nat:=eB n (lo (6*n*n) P k)
def PsX(B gl gc ge K:Nat)(a z:Nat->Nat)(H:Nat->List Nat)(X:Nat->Value)(w:World):Prop:=
 ∀k,k<K->X (k*3)=win gc (a k) (a (k+1))/\X (k*3+1)=win ge (z k) (z (k+1))/\OwnN B (X (k*3+2)) (H k) w/\
  ((∀b,(X (k*3+2)).ownBlock=some b->b≠gl/\b≠gc/\b≠ge)/\ ∀j,j<k->Dj (X (k*3+2)) (X (j*3+2)))
def upR(g m:Nat)(w:World):Prop:=w.rowIs g 3 m (fun i=>.int .i64 (i:Nat))
def OwnPs(B n P gl gc ge:Nat)(X:Nat->Value)(w:World):Prop:=
 w.rowIs gl 29 (P*3) X/\upR gc (6*n*n) w/\upR ge (12*n*n) w/\(B<=gl/\B<=gc/\B<=ge/\gl≠gc/\gl≠ge/\gc≠ge)/\PsX B gl gc ge P (cO n P) (eO n P) (hlP n P) X w
def SplitC:Prop:= ∀(n gb:Nat) (parts:Int) (w:World),(1<=n/\n<=32)->GridOf n gb w->W64 parts->
 ((1<=parts/\parts<=64)->Calls prog 10 #[.pointer (some ⟨gb,0,none⟩),.int .i64 parts] w fun e w'=> ∃gl gc ge X,e=.returned (.tuple #[.slice (some ⟨gl,0,none⟩) parts.toNat parts.toNat,.int .i64 0])/\Below w.heap.size w w'/\OwnPs w.heap.size n parts.toNat gl gc ge X w')/\
 (¬(1<=parts/\parts<=64)->Calls prog 10 #[.pointer (some ⟨gb,0,none⟩),.int .i64 parts] w fun e w'=>e=.returned (.tuple #[.slice none 0 0,.int .i64 1])/\Below w.heap.size w w')
def wi(l:Nat)(f:Nat->Int)(N:Nat):Prop:= ∀i,i<l->0<=f i/\f i<(N:Int)
def lG(n lc le lh:Nat)(C E H:Nat->Int)(lb lw lt ls:Nat):Prop:=fit4 n lb lw lt ls/\wi lc C (6*n*n)/\wi lh H (6*n*n)/\wi le E (12*n*n)
def mk2(lc lh:Nat)(C H:Nat->Int)(c:Nat):Bool:=hs lc C c||hs lh H c
def LocalC:Prop:= ∀(n gb:Nat) (pc:Option Addr) (lc cc:Nat) (C:Nat->Int) (pe:Option Addr) (le ce:Nat) (E:Nat->Int) (ph:Option Addr) (lh ch:Nat) (H:Nat->Int) (pb:Option Addr) (lb cb:Nat) (B:Nat->Nat) (pw:Option Addr) (lw cw:Nat) (W:Nat->Int) (pt:Option Addr) (lt ct:Nat) (T:Nat->Int) (ps:Option Addr) (ls cs:Nat) (S:Nat->Nat) (sky st:Int) (w:World),(1<=n/\n<=32)->GridOf n gb w->(W64 sky/\W64 st)->(lc<=281474976710656/\le<=281474976710656/\lh<=281474976710656)->(lb<=281474976710656/\lw<=281474976710656/\lt<=281474976710656/\ls<=281474976710656)->Sh.IsI w pc lc C->Sh.IsI w pe le E->Sh.IsI w ph lh H->IsFl w pb lb B->Sh.IsI w pw lw W->Sh.IsI w pt lt T->IsFl w ps ls S->
 (lG n lc le lh C E H lb lw lt ls->Calls prog 5 #[.pointer (some ⟨gb,0,none⟩),.agg #[.slice pc lc cc,.slice pe le ce,.slice ph lh ch],.agg #[.slice pb lb cb,.slice pw lw cw,.slice pt lt ct,.slice ps ls cs,.int .i64 sky,.int .i64 st]] w fun e w'=> ∃v,e=.returned (.tuple #[v,.int .i64 0])/\Below w.heap.size w w'/\OwnS w.heap.size v lb lw lt ls (shB (mk2 lc lh C H) B) (shW (mk2 lc lh C H) W) (shW (mk2 lc lh C H) T) (shB (hs le E) S) 0 st w')/\
 (¬lG n lc le lh C E H lb lw lt ls->Calls prog 5 #[.pointer (some ⟨gb,0,none⟩),.agg #[.slice pc lc cc,.slice pe le ce,.slice ph lh ch],.agg #[.slice pb lb cb,.slice pw lw cw,.slice pt lt ct,.slice ps ls cs,.int .i64 sky,.int .i64 st]] w fun e w'=>e=.returned (.tuple #[.agg #[.slice none 0 0,.slice none 0 0,.slice none 0 0,.slice none 0 0,.int .i64 0,.int .i64 0],.int .i64 1])/\Below w.heap.size w w')
def LocalN:Prop:= ∀(p s:Value) (w:World),(∃v1 v2 v3,p=.agg #[v1,v2,v3])->(∃v1 v2 v3 v4 v5 v6,s=.agg #[v1,v2,v3,v4,v5,v6])->Calls prog 5 #[.pointer none,p,s] w fun e w'=>e=.returned (.tuple #[.agg #[.slice none 0 0,.slice none 0 0,.slice none 0 0,.slice none 0 0,.int .i64 0,.int .i64 0],.int .i64 2])/\Below w.heap.size w w'
theorem OwnN.in{B:Nat}{v:Value}{l:List Nat}{w:World}(h:OwnN B v l w)(hl: ∀x ∈ l,x<=9223372036854775807): ∃a0 cap,v=.slice a0 l.length cap/\Sh.IsI w a0 l.length (rd l):=by
 rcases h.2 with⟨rfl,h0⟩ | ⟨g,cap,cur,rfl,hb,hg,h1,h2,h3,h4⟩
 ·exact⟨none,0,by rw[h0],fun k hk=>by omega⟩
 ·refine⟨some ⟨g,0,none⟩,cap,rfl,fun k hk=> ?_⟩
  have hx:l.getD k 0=l[k]:=by simp[List.getD,hk]
  have:=hl _ (List.getElem_mem hk)
  refine⟨by unfold rd;rw[hx];omega,g,0,rfl,lt_of_block hg,?_⟩
  have e:=h.cells (g:=g) rfl k (.int .i64 ((l.getD k 0:Nat):Int)) (by simp[hk])
  rw[Sh.iU]at e
  exact e
theorem n12{n:Nat}(hn:1<=n/\n<=32):12*n*n<=12288:=by
 have h1:12*n<=12*32:=Nat.mul_le_mul_left _ hn.2
 exact Nat.le_trans (Nat.mul_le_mul h1 hn.2) (by decide)
def PsAt(n P g:Nat)(p:Nat->Option Addr)(c:Nat->Nat)(w:World):Prop:=g<w.heap.size/\ ∀i,i<P*3->w.cell? ⟨g,i,none⟩=some (.slice (p i) (lsP n P i).length (c i))/\Sh.IsI w (p i) (lsP n P i).length (rd (lsP n P i))
theorem PsAt.to{n P g:Nat}{p:Nat->Option Addr}{c:Nat->Nat}{w w':World}(h:PsAt n P g p c w)(a:Ab w w'):PsAt n P g p c w':=by
 have hh:w'.heap[g]? =w.heap[g]? :=by
  rw[Ab.heap a (Array.getElem?_eq_getElem h.1),Array.getElem?_eq_getElem h.1]
 refine⟨lt_of_block (Ab.heap a (Array.getElem?_eq_getElem h.1)),fun i hi=>⟨?_,(h.2 i hi).2.below a⟩⟩
 rw[World.cell?_of_block hh]
 exact(h.2 i hi).1
theorem mQ{g a b M:Nat}{w:World}(h:upR g M w)(hb:b<=M)(hs:M<=9223372036854775807):Sh.IsI w (some ⟨g,wo a b,none⟩) (b - a) (rd (List.range' a (b - a))):=by
 intro k hk
 have e:rd (List.range' a (b - a)) k=((a+k:Nat):Int):=by unfold rd;rw[mM hk]
 have e2:wo a b=a:=if_neg (by omega)
 rw[e,e2]
 exact⟨by omega,g,a,rfl,h.lt,h.cell (i:=a+k) (by omega)⟩
theorem tJ{B n P gl gc ge:Nat}{X:Nat->Value}{w:World}(hn:1<=n/\n<=32)(h:OwnPs B n P gl gc ge X w): ∃p c,(∀i,i<P*3->X i=.slice (p i) (lsP n P i).length (c i))/\PsAt n P gl p c w:=by
 obtain⟨h1,h2,h3,-,h4⟩:=h
 have n1:=n12 hn
 have n2:6*n*n<=12*n*n:=Nat.mul_le_mul_right _ (Nat.mul_le_mul_right _ (by decide))
 have q: ∀i,i<P*3-> ∃a0 cap,X i=.slice a0 (lsP n P i).length cap/\Sh.IsI w a0 (lsP n P i).length (rd (lsP n P i)):=by
  intro i hi
  have hk:i/3<P:=by omega
  obtain⟨k1,k2,k3,-⟩:=h4 (i/3) hk
  unfold lsP
  by_cases m0:i%3=0
  ·rw[if_pos m0]
   rw[show i/3*3=i by omega]at k1
   have l:=cl_len (6*n*n) P (i/3)
   have u:=lC (N:=6*n*n) (P:=P) (k:=i/3+1) (by omega) (by omega)
   have s:=dC (6*n*n) P (i/3)
   rw[k1,l]
   refine⟨_,_,rfl,?_⟩
   exact mQ h2 (by unfold cO;omega) (by omega)
  ·rw[if_neg m0]
   by_cases m1:i%3=1
   ·rw[if_pos m1]
    rw[show i/3*3+1=i by omega]at k2
    have u:=oT hn.1 (lC (N:=6*n*n) (P:=P) (k:=i/3+1) (by omega) (by omega))
    have s:=fF (n:=n) (dC (6*n*n) P (i/3))
    rw[k2,ed_len hn.1 hk,qP hn.1 hk]
    refine⟨_,_,rfl,?_⟩
    exact mQ h3 (by unfold eO;omega) (by omega)
   ·rw[if_neg m1]
    rw[show i/3*3+2=i by omega]at k3
    exact k3.in (fun x hx=>by have:=(mem_hl.1 hx).1;omega)
 have q': ∀i,∃z:Option Addr × Nat,i<P*3->X i=.slice z.1 (lsP n P i).length z.2/\Sh.IsI w z.1 (lsP n P i).length (rd (lsP n P i)):=fun i=>by
  by_cases hi:i<P*3
  ·obtain⟨a0,cap,k⟩:=q i hi
   exact⟨(a0,cap),fun _=>k⟩
  ·exact⟨(none,0),fun k=>absurd k hi⟩
 obtain⟨z,hz⟩: ∃z:Nat->Option Addr × Nat,∀i,i<P*3->X i=.slice (z i).1 (lsP n P i).length (z i).2/\Sh.IsI w (z i).1 (lsP n P i).length (rd (lsP n P i)):=⟨fun i=>Classical.choose (q' i),fun i=>Classical.choose_spec (q' i)⟩
 refine⟨fun i=>(z i).1,fun i=>(z i).2,fun i hi=>(hz i hi).1,h1.lt,fun i hi=>⟨?_,(hz i hi).2⟩⟩
 rw[<- (hz i hi).1]
 exact h1.cell hi
end Spl
end
section
open Go.RowKit Tf Cu Go.Deep
namespace Spl
theorem cE{w:World}{p:Option Addr}{n g k:Nat}{f:Nat->Nat}(v:Value)(h:IsFl w p n f)(hp: ∀b o,p=some ⟨b,o,none⟩->b≠g):IsFl (w.setCell ⟨g,k,none⟩ v) p n f:=fun i hi=>by
 obtain⟨h1,b,o,h2,h3,h4⟩:=h i hi
 exact⟨h1,b,o,h2,by simpa [World.setCell]using h3,(World.cell?_of_block (Below.heap_setCell _ _ _ _ (hp b o h2))).trans h4⟩
theorem dJ{w:World}{p:Option Addr}{n g k:Nat}{f:Nat->Int}(v:Value)(h:Sh.IsI w p n f)(hp: ∀b o,p=some ⟨b,o,none⟩->b≠g):Sh.IsI (w.setCell ⟨g,k,none⟩ v) p n f:=fun i hi=>by
 obtain⟨h1,b,o,h2,h3,h4⟩:=h i hi
 exact⟨h1,b,o,h2,by simpa [World.setCell]using h3,(World.cell?_of_block (Below.heap_setCell _ _ _ _ (hp b o h2))).trans h4⟩
theorem sE{M n:Nat}{v:Value}{f:Nat->Nat}{w:World}(h:OwnG M v ((List.range n).map f) w)(hf: ∀i,i<n->f i<18446744073709551616): ∃p c,v=.slice p n c/\IsFl w p n f/\ ∀b o,p=some ⟨b,o,none⟩->M<=b/\b<w.heap.size:=by
 obtain⟨p,c,e,i⟩:=h.fl (fun x hx=>by obtain⟨j,hj,rfl⟩:=List.mem_map.1 hx;exact hf j (List.mem_range.1 hj))
 rw[List.length_map,List.length_range]at e i
 refine⟨p,c,e,fun k hk=> ?_,fun b o q=>World.ownsRow.lt h b (by rw[e,q];rfl)⟩
 have q:=i k hk
 simpa [List.getD,hk]using q
theorem sF{M n:Nat}{v:Value}{f:Nat->Int}{w:World}(h:Sh.Own M v ((List.range n).map f) w)(hf: ∀i,i<n->W64 (f i)): ∃p c,v=.slice p n c/\Sh.IsI w p n f/\ ∀b o,p=some ⟨b,o,none⟩->M<=b/\b<w.heap.size:=by
 obtain⟨p,c,e,i⟩:=Sh.Own.in h (fun x hx=>by obtain⟨j,hj,rfl⟩:=List.mem_map.1 hx;exact hf j (List.mem_range.1 hj))
 rw[List.length_map,List.length_range]at e i
 refine⟨p,c,e,fun k hk=> ?_,fun b o q=>World.ownsRow.lt h b (by rw[e,q];rfl)⟩
 have q:=i k hk
 simpa [List.getD,hk]using q
def Bnd(n1 n2 n3 n4:Nat)(A:Nat->Nat)(B C:Nat->Int)(D:Nat->Nat):Prop:=(∀i,i<n1->A i<18446744073709551616)/\(∀i,i<n2->W64 (B i))/\(∀i,i<n3->W64 (C i))/\(∀i,i<n4->D i<18446744073709551616)
def SeaP(g:Nat)(p1:Option Addr)(c1:Nat)(p2:Option Addr)(c2:Nat)(p3:Option Addr)(c3:Nat)(p4:Option Addr)(c4:Nat)(n1 n2 n3 n4:Nat)(A:Nat->Nat)(B C:Nat->Int)(D:Nat->Nat)(sk st:Int)(v:World):Prop:=v.heap[g]? =some (.cells #[.slice p1 n1 c1,.slice p2 n2 c2,.slice p3 n3 c3,.slice p4 n4 c4,.int .i64 sk,.int .i64 st] 26)/\IsFl v p1 n1 A/\Sh.IsI v p2 n2 B/\Sh.IsI v p3 n3 C/\IsFl v p4 n4 D
theorem SeaP.to{g:Nat}{p1:Option Addr}{c1:Nat}{p2:Option Addr}{c2:Nat}{p3:Option Addr}{c3:Nat}{p4:Option Addr}{c4:Nat}{n1 n2 n3 n4:Nat}{A:Nat->Nat}{B C:Nat->Int}{D:Nat->Nat}{sk st:Int}{v v':World}(h:SeaP g p1 c1 p2 c2 p3 c3 p4 c4 n1 n2 n3 n4 A B C D sk st v)(a:Ab v v'):SeaP g p1 c1 p2 c2 p3 c3 p4 c4 n1 n2 n3 n4 A B C D sk st v':=⟨a.heap h.1,h.2.1.below a,h.2.2.1.below a,h.2.2.2.1.below a,h.2.2.2.2.below a⟩
theorem mR{M:Nat}{vv:Value}{n1 n2 n3 n4:Nat}{A:Nat->Nat}{B C:Nat->Int}{D:Nat->Nat}{sk st:Int}{u:World}(h:OwnS M vv n1 n2 n3 n4 A B C D sk st u)(hb:Bnd n1 n2 n3 n4 A B C D):
  ∃p1 c1 p2 c2 p3 c3 p4 c4,vv=.agg #[.slice p1 n1 c1,.slice p2 n2 c2,.slice p3 n3 c3,.slice p4 n4 c4,.int .i64 sk,.int .i64 st]/\(IsFl u p1 n1 A/\Sh.IsI u p2 n2 B/\Sh.IsI u p3 n3 C/\IsFl u p4 n4 D)/\((∀b o,p1=some ⟨b,o,none⟩->M<=b)/\(∀b o,p2=some ⟨b,o,none⟩->M<=b)/\(∀b o,p3=some ⟨b,o,none⟩->M<=b)/\ ∀b o,p4=some ⟨b,o,none⟩->M<=b):=by
 obtain⟨v1,v2,v3,v4,rfl,h1,h2,h3,h4,-,-⟩:=h
 obtain⟨p1,c1,rfl,i1,m1⟩:=sE h1 hb.1
 obtain⟨p2,c2,rfl,i2,m2⟩:=sF h2 hb.2.1
 obtain⟨p3,c3,rfl,i3,m3⟩:=sF h3 hb.2.2.1
 obtain⟨p4,c4,rfl,i4,m4⟩:=sE h4 hb.2.2.2
 exact⟨p1,c1,p2,c2,p3,c3,p4,c4,rfl,⟨i1,i2,i3,i4⟩,fun b o q=>(m1 b o q).1,fun b o q=>(m2 b o q).1,fun b o q=>(m3 b o q).1,fun b o q=>(m4 b o q).1⟩
theorem sea_nw{M:Nat}{vv:Value}{n1 n2 n3 n4:Nat}{A:Nat->Nat}{B C:Nat->Int}{D:Nat->Nat}{sk st:Int}{u:World}(h:OwnS M vv n1 n2 n3 n4 A B C D sk st u)(hb:Bnd n1 n2 n3 n4 A B C D):
  ∃p1 c1 p2 c2 p3 c3 p4 c4,vv=.agg #[.slice p1 n1 c1,.slice p2 n2 c2,.slice p3 n3 c3,.slice p4 n4 c4,.int .i64 sk,.int .i64 st]/\SeaP u.heap.size p1 c1 p2 c2 p3 c3 p4 c4 n1 n2 n3 n4 A B C D sk st (u.alloc (.cells #[.slice p1 n1 c1,.slice p2 n2 c2,.slice p3 n3 c3,.slice p4 n4 c4,.int .i64 sk,.int .i64 st] 26)):=by
 obtain⟨p1,c1,p2,c2,p3,c3,p4,c4,e,⟨i1,i2,i3,i4⟩,-⟩:=mR h hb
 have a: ∀o,Ab u (u.alloc o):=fun o=>bl1 _ _
 exact⟨p1,c1,p2,c2,p3,c3,p4,c4,e,heap_alloc_new _ _,i1.below (a _),i2.below (a _),i3.below (a _),i4.below (a _)⟩
end Spl
end
section
open Go.RowKit Tf Cu Go.Deep
namespace Spl
def bl4:Value->List Nat
 | .agg a=>(a.toList.take 4).filterMap Value.ownBlock
 | _=>[]
theorem OwnS.blk{M:Nat}{v:Value}{nb nw nt ns:Nat}{A:Nat->Nat}{B C:Nat->Int}{D:Nat->Nat}{sk st:Int}{w:World}(h:OwnS M v nb nw nt ns A B C D sk st w){b:Nat}(hb:b ∈ bl4 v):M<=b/\b<w.heap.size:=by
 obtain⟨v1,v2,v3,v4,rfl,h1,h2,h3,h4,d1,d2⟩:=h
 simp only[bl4,List.take_succ_cons,List.take_zero,List.mem_filterMap,List.mem_cons,List.not_mem_nil,or_false]at hb
 obtain⟨u,hu,hv⟩:=hb
 rcases hu with rfl | rfl | rfl | rfl
 ·exact World.ownsRow.lt h1 b hv
 ·exact World.ownsRow.lt h2 b hv
 ·exact World.ownsRow.lt h3 b hv
 ·exact World.ownsRow.lt h4 b hv
theorem sea_box{M g:Nat}{vv:Value}{n1 n2 n3 n4:Nat}{A:Nat->Nat}{B C:Nat->Int}{D:Nat->Nat}{sk st:Int}{z:World}(q:z.heap[g]? =some (.cells #[.slice none 0 0,.slice none 0 0,.slice none 0 0,.slice none 0 0,.int .i64 0,.int .i64 0] 26))(os:OwnS M vv n1 n2 n3 n4 A B C D sk st z)(hb:Bnd n1 n2 n3 n4 A B C D)(ng: ∀b,b ∈ bl4 vv->b≠g):
  ∃p1 c1 p2 c2 p3 c3 p4 c4,vv=.agg #[.slice p1 n1 c1,.slice p2 n2 c2,.slice p3 n3 c3,.slice p4 n4 c4,.int .i64 sk,.int .i64 st]/\SeaP g p1 c1 p2 c2 p3 c3 p4 c4 n1 n2 n3 n4 A B C D sk st ((((((z.setCell ⟨g,0,none⟩ (.slice p1 n1 c1)).setCell ⟨g,1,none⟩ (.slice p2 n2 c2)).setCell ⟨g,2,none⟩ (.slice p3 n3 c3)).setCell ⟨g,3,none⟩ (.slice p4 n4 c4)).setCell ⟨g,4,none⟩ (.int .i64 sk)).setCell ⟨g,5,none⟩ (.int .i64 st))/\
   ((∀b o,p1=some ⟨b,o,none⟩->M<=b)/\(∀b o,p2=some ⟨b,o,none⟩->M<=b)/\(∀b o,p3=some ⟨b,o,none⟩->M<=b)/\ ∀b o,p4=some ⟨b,o,none⟩->M<=b):=by
 obtain⟨p1,c1,p2,c2,p3,c3,p4,c4,e,⟨i1,i2,i3,i4⟩,m1,m2,m3,m4⟩:=mR os hb
 subst e
 have mem: ∀(p:Option Addr) (n c:Nat) (b o:Nat),p=some ⟨b,o,none⟩->(Value.slice p n c).ownBlock=some b:=fun p n c b o e=>by subst e;rfl
 have ne: ∀b,(∃u:Value,(u=.slice p1 n1 c1\/u=.slice p2 n2 c2\/u=.slice p3 n3 c3\/u=.slice p4 n4 c4)/\u.ownBlock=some b)->b≠g:=fun b h=>ng b (by
  obtain⟨u,hu,hv⟩:=h
  simp only[bl4,List.take_succ_cons,List.take_zero,List.mem_filterMap,List.mem_cons,List.not_mem_nil,or_false]
  exact⟨u,hu,hv⟩)
 have o1: ∀b o,p1=some ⟨b,o,none⟩->b≠g:=fun b o k=>ne b ⟨_,.inl rfl,mem p1 n1 c1 b o k⟩
 have o2: ∀b o,p2=some ⟨b,o,none⟩->b≠g:=fun b o k=>ne b ⟨_,.inr (.inl rfl),mem p2 n2 c2 b o k⟩
 have o3: ∀b o,p3=some ⟨b,o,none⟩->b≠g:=fun b o k=>ne b ⟨_,.inr (.inr (.inl rfl)),mem p3 n3 c3 b o k⟩
 have o4: ∀b o,p4=some ⟨b,o,none⟩->b≠g:=fun b o k=>ne b ⟨_,.inr (.inr (.inr rfl)),mem p4 n4 c4 b o k⟩
 have fl: ∀(p:Option Addr) (n:Nat) (f:Nat->Nat),(∀b o,p=some ⟨b,o,none⟩->b≠g)->IsFl z p n f->IsFl ((((((z.setCell ⟨g,0,none⟩ (.slice p1 n1 c1)).setCell ⟨g,1,none⟩ (.slice p2 n2 c2)).setCell ⟨g,2,none⟩ (.slice p3 n3 c3)).setCell ⟨g,3,none⟩ (.slice p4 n4 c4)).setCell ⟨g,4,none⟩ (.int .i64 sk)).setCell ⟨g,5,none⟩ (.int .i64 st)) p n f:=fun p n f o i=>cE _ (cE _ (cE _ (cE _ (cE _ (cE _ i o) o) o) o) o) o
 have ii: ∀(p:Option Addr) (n:Nat) (f:Nat->Int),(∀b o,p=some ⟨b,o,none⟩->b≠g)->Sh.IsI z p n f->Sh.IsI ((((((z.setCell ⟨g,0,none⟩ (.slice p1 n1 c1)).setCell ⟨g,1,none⟩ (.slice p2 n2 c2)).setCell ⟨g,2,none⟩ (.slice p3 n3 c3)).setCell ⟨g,3,none⟩ (.slice p4 n4 c4)).setCell ⟨g,4,none⟩ (.int .i64 sk)).setCell ⟨g,5,none⟩ (.int .i64 st)) p n f:=fun p n f o i=>dJ _ (dJ _ (dJ _ (dJ _ (dJ _ (dJ _ i o) o) o) o) o) o
 exact⟨p1,c1,p2,c2,p3,c3,p4,c4,rfl,⟨fI q,fl _ _ _ o1 i1,ii _ _ _ o2 i2,ii _ _ _ o3 i3,fl _ _ _ o4 i4⟩,m1,m2,m3,m4⟩
theorem fK(w:World)(o:Obj):(w.alloc o).drew.heap[w.heap.size]? =some o:=heap_alloc_new w o
def Mb(M:Nat)(p1 p2 p3 p4:Option Addr):Prop:=(∀b o,p1=some ⟨b,o,none⟩->M<=b)/\(∀b o,p2=some ⟨b,o,none⟩->M<=b)/\(∀b o,p3=some ⟨b,o,none⟩->M<=b)/\ ∀b o,p4=some ⟨b,o,none⟩->M<=b
theorem Mb.up{M N:Nat}{p1 p2 p3 p4:Option Addr}(h:Mb N p1 p2 p3 p4)(hm:M<=N):Mb M p1 p2 p3 p4:=⟨fun b o e=>Nat.le_trans hm (h.1 b o e),fun b o e=>Nat.le_trans hm (h.2.1 b o e),fun b o e=>Nat.le_trans hm (h.2.2.1 b o e),fun b o e=>Nat.le_trans hm (h.2.2.2 b o e)⟩
theorem sea_nw2{M:Nat}{vv:Value}{n1 n2 n3 n4:Nat}{A:Nat->Nat}{B C:Nat->Int}{D:Nat->Nat}{sk st:Int}{u:World}(h:OwnS M vv n1 n2 n3 n4 A B C D sk st u)(hb:Bnd n1 n2 n3 n4 A B C D):
  ∃p1 c1 p2 c2 p3 c3 p4 c4,vv=.agg #[.slice p1 n1 c1,.slice p2 n2 c2,.slice p3 n3 c3,.slice p4 n4 c4,.int .i64 sk,.int .i64 st]/\SeaP u.heap.size p1 c1 p2 c2 p3 c3 p4 c4 n1 n2 n3 n4 A B C D sk st (u.alloc (.cells #[.slice p1 n1 c1,.slice p2 n2 c2,.slice p3 n3 c3,.slice p4 n4 c4,.int .i64 sk,.int .i64 st] 26))/\Mb M p1 p2 p3 p4:=by
 obtain⟨p1,c1,p2,c2,p3,c3,p4,c4,e,⟨i1,i2,i3,i4⟩,mm⟩:=mR h hb
 have a: ∀o,Ab u (u.alloc o):=fun o=>bl1 _ _
 exact⟨p1,c1,p2,c2,p3,c3,p4,c4,e,⟨heap_alloc_new _ _,i1.below (a _),i2.below (a _),i3.below (a _),i4.below (a _)⟩,mm⟩
theorem sG{U z:World}{g:Nat}{vv:Value}{n1 n2 n3 n4:Nat}{A:Nat->Nat}{B C:Nat->Int}{D:Nat->Nat}{sk st:Int}(q:U.heap[g]? =some (.cells #[.slice none 0 0,.slice none 0 0,.slice none 0 0,.slice none 0 0,.int .i64 0,.int .i64 0] 26))(b:Ab U z)(os:OwnS U.heap.size vv n1 n2 n3 n4 A B C D sk st z)(hb:Bnd n1 n2 n3 n4 A B C D):
  ∃p1 c1 p2 c2 p3 c3 p4 c4,vv=.agg #[.slice p1 n1 c1,.slice p2 n2 c2,.slice p3 n3 c3,.slice p4 n4 c4,.int .i64 sk,.int .i64 st]/\z.heap[g]? =some (.cells #[.slice none 0 0,.slice none 0 0,.slice none 0 0,.slice none 0 0,.int .i64 0,.int .i64 0] 26)/\SeaP g p1 c1 p2 c2 p3 c3 p4 c4 n1 n2 n3 n4 A B C D sk st ((((((z.setCell ⟨g,0,none⟩ (.slice p1 n1 c1)).setCell ⟨g,1,none⟩ (.slice p2 n2 c2)).setCell ⟨g,2,none⟩ (.slice p3 n3 c3)).setCell ⟨g,3,none⟩ (.slice p4 n4 c4)).setCell ⟨g,4,none⟩ (.int .i64 sk)).setCell ⟨g,5,none⟩ (.int .i64 st))/\Mb U.heap.size p1 p2 p3 p4:=by
 obtain⟨p1,c1,p2,c2,p3,c3,p4,c4,e,s,m⟩:=sea_box (b.heap q) os hb (fun d hd e=>by have h1:=(os.blk hd).1;have h2:=lt_of_block q;omega)
 exact⟨p1,c1,p2,c2,p3,c3,p4,c4,e,b.heap q,s,m⟩
end Spl
end
section
open Go.RowKit
def backB(md:Region.Mode)(ops:Array Oper)(n:Nat):Bool:=
 (List.range n).all fun i=>match ops[i]? with
  | some o=>o.after.all (fun e=> !Region.binds md e||decide (e.on<i))&&(match o.guard with | none=>true | some (j,_)=>decide (j<n))
  | none=>true
def finA(m n:Nat):Array Bool:=Array.replicate n true++Array.replicate (m - n) false
theorem dR{md:Region.Mode}{ops:Array Oper}{n:Nat}(h:backB md ops n=true){i:Nat}{o:Oper}(hi:i<n)(ho:ops[i]? =some o):
  (∀e ∈ o.after,Region.binds md e=true->e.on<i)/\(∀j b,o.guard=some (j,b)->j<n):=by
 have a:=List.all_eq_true.1 h i (List.mem_range.2 hi)
 simp only[ho,Bool.and_eq_true]at a
 refine⟨fun e he hb=> ?_,fun j b hg=> ?_⟩
 ·have:=Array.all_eq_true_iff_forall_mem.1 a.1 e he
  simpa [hb]using this
 ·have:=a.2
  rw[hg]at this
  simpa using this
theorem mS{l:Array Bool}{i:Nat}(h:i<l.size)(d d':Bool):l.getD i d=l.getD i d':=by simp[h]
theorem dZ{P:Program}{md:Region.Mode}{ops:Array Oper}{Q:Exit->Act->World->Prop}: ∀(g k:Nat) (listed:Array Bool) (a:Act) (w:World),wpAny P md ops Q g listed a w->wpAny P md ops Q (g+k) listed a w
 | 0,0,_,_,_,h=>h
 | 0,k+1,listed,a,w,h=>by
  rw[Nat.zero_add]
  exact⟨fun _=>h.2,fun i hi=>by rw[h.1]at hi;cases hi⟩
 | g+1,k,listed,a,w,h=>by
  rw[show g+1+k=(g+k)+1 by omega]
  exact⟨h.1,fun i hi=>wpOp_mono (fun a' w' h'=>dZ g k _ a' w' h') (h.2 i hi)⟩
section
variable {P:Program} {md:Region.Mode} {ops hd:Array Oper} {C:World->Prop} {n:Nat}
theorem bZ(hhd: ∀i,i<n->hd[i]? =ops[i]?)(hb:backB md ops n=true){listed lh:Array Bool}(hl:lh.size=n)(hls:n<=listed.size)(he: ∀i,i<n->lh.getD i true=listed.getD i true){i:Nat}(hi:i<n):
  i ∈ Region.ready md hd lh ↔ i ∈ Region.ready md ops listed:=by
 rw[mem_ready,mem_ready,he i hi,hhd i hi]
 refine and_congr Iff.rfl (exists_congr fun o=>and_congr_right fun ho=>forall_congr' fun e=>forall_congr' fun hm=>forall_congr' fun hbd=> ?_)
 have lt:=(dR hb hi ho).1 e hm hbd
 rw[mS (d:=false) (d':=true) (by omega),mS (l:=listed) (d:=false) (d':=true) (by omega),he _ (by omega)]
theorem cA(hsz:n<=ops.size)(hb:backB md ops n=true){listed:Array Bool}(hls:n<=listed.size):
  (∀i,i<n->listed.getD i true=true)\/ ∃i,i<n/\i ∈ Region.ready md ops listed:=by
 have key: ∀k,k<=n->(∀i,i<k->listed.getD i true=true)\/ ∃i,i<n/\i ∈ Region.ready md ops listed:=by
  intro k
  induction k with
  | zero=>exact fun _=>.inl (fun i hi=>by omega)
  | succ k ih=>
   intro hk
   rcases ih (by omega)with h | h
   ·cases c:listed.getD k true
    ·right
     refine⟨k,by omega,mem_ready.2 ⟨c,ops[k]'(by omega),by simp,fun e he hbd=> ?_⟩⟩
     have lt:=(dR hb (i:=k) (o:=ops[k]'(by omega)) (by omega) (by simp)).1 e he hbd
     rw[mS (d:=false) (d':=true) (by omega)]
     exact h _ lt
    ·left
     intro i hi
     by_cases e:i=k
     ·rw[e];exact c
     ·exact h i (by omega)
   ·exact .inr h
 exact key n (Nat.le_refl _)
theorem qOp_head(hhd: ∀i,i<n->hd[i]? =ops[i]?)(hb:backB md ops n=true){i:Nat}(hi:i<n){K:Act->Prop}{a:Act}(h:qOp P hd C i K a):qOp P ops C i K a:=by
 unfold qOp at*
 rw[hhd i hi]at h
 cases ho:ops[i]? with
 | none=>rw[ho]at h;exact h
 | some o=>
  rw[ho]at h
  have e:Region.wanted o (yielded hd a.tmps)=Region.wanted o (yielded ops a.tmps):=by
   unfold Region.wanted
   cases hg:o.guard with
   | none=>rfl
   | some jb=>
    obtain⟨j,b⟩:=jb
    have lt:=(dR hb hi ho).2 j b hg
    show(yielded hd a.tmps j==some b)=(yielded ops a.tmps j==some b)
    unfold yielded
    rw[hhd j lt]
  simp only[e]at h
  exact h
theorem hQ{listed:Array Bool}(hn:n<ops.size)(inv:HeadInv md ops n listed)(h: ∀i,i<n->listed.getD i true=true):listed=finA ops.size n:=by
 have s:=inv.size
 unfold finA
 refine Array.ext (by simp;omega) fun i h1 h2=> ?_
 by_cases c:i<n
 ·have:=h i c
  rw[Array.getElem_append_left (by simpa using c)]
  simp[h1]at this
  simpa using this
 ·have:=inv.tail i (by omega) (by omega)
  rw[Array.getElem_append_right (by simp;omega)]
  simp[h1]at this
  simpa using this
theorem kA{g:Nat}{Q1:Act->Prop}{Q':Exit->Act->World->Prop}(hhd: ∀i,i<n->hd[i]? =ops[i]?)(hsz:hd.size=n)(hn:n<ops.size)(hb:backB md ops n=true)(hs:Region.sinkB md ops n=true)(hc:Region.chainB md ops n=true)
  (hL: ∀a w,C w->Q1 a->wpAny P md ops Q' g (finA ops.size n) a w):
  ∀(fuel:Nat) (listed lh:Array Bool) (a:Act) (w:World),C w->HeadInv md ops n listed->lh.size=n->(∀i,i<n->lh.getD i true=listed.getD i true)->
   wpAnyQ P md hd C Q1 fuel lh a->wpAny P md ops Q' (fuel+g) listed a w:=by
 intro fuel
 induction fuel with
 | zero=>
  intro listed lh a w hC inv hl he h
  have hls:n<=listed.size:=by rw[inv.size];omega
  rcases cA (by omega) hb hls with all | ⟨i,hi,hr⟩
  ·rw[Nat.zero_add,hQ hn inv all]
   exact hL a w hC h.2
  ·have:=(bZ hhd hb hl hls he hi).2 hr
   rw[h.1]at this
   cases this
 | succ fuel ih=>
  intro listed lh a w hC inv hl he h
  have hls:n<=listed.size:=by rw[inv.size];omega
  rcases cA (by omega) hb hls with all | ⟨i0,hi0,hr0⟩
  ·have no:Region.ready md hd lh=[]:=by
    rw[List.eq_nil_iff_forall_not_mem]
    intro i hi
    obtain⟨u,o,ho,_⟩:=mem_ready.1 hi
    have lt:i<n:=by rw[<- hsz];exact(Array.getElem?_eq_some_iff.1 ho).1
    rw[he i lt,all i lt]at u
    cases u
   rw[Nat.add_comm (fuel+1) g,hQ hn inv all]
   exact dZ g (fuel+1) _ a w (hL a w hC (h.1 no))
  ·rw[show fuel+1+g=(fuel+g)+1 by omega]
   refine⟨fun h0=>(by rw[h0]at hr0;cases hr0),fun i hi=> ?_⟩
   have lt:i<n:=by
    by_cases c:i<n
    ·exact c
    ·exact absurd hi (tail_waits hs hc hn inv _ i0 rfl hi0 (mem_ready.1 hr0).1 i (by omega))
   have hq:=qOp_head hhd hb lt (h.2 i ((bZ hhd hb hl hls he lt).2 hi))
   refine wpOp_of_qOp hC (fun a' w' hC' h'=>ih _ _ a' w' hC' (inv.set hi lt) (by simp[hl]) (fun j hj=> ?_) h') hq
   by_cases e:i=j
   ·subst e
    simp[hl,lt,show i<listed.size by omega]
   ·rw[getD_set_ne true e,getD_set_ne true e,he j hj]
end
def tailB(ops:Array Oper)(n:Nat):Bool:=
 decide (n<ops.size)&&backB .any ops n&&Region.sinkB .any ops n&&Region.chainB .any ops n&&Region.seqB .any ops (ops.size - n) n (finA ops.size n)
theorem bW{P:Program}{id:Nat}{Q:Exit->Act->World->Prop}{a:Act}{w:World}{l:List Oper}{U:Type}(n:Nat)(F:U->World)(hm:P.follows .mixedOrders=true)(hB:Region.lexB .any (l.take n).toArray=true)(hT:tailB l.toArray n=true)
  (hC: ∃u,w.drew=F u)
  (h:wpQuiet P (l.take n).toArray (fun w'=> ∃u,w'=F u) (fun a'=> ∀w',(∃u,w'=F u)->wpList P l.toArray Q (l.drop n) a' w') (l.take n) a):(Code.region id l.toArray true).wp P Q a w:=by
 simp only[tailB,Bool.and_eq_true,decide_eq_true_eq]at hT
 obtain⟨⟨⟨⟨hn,hb⟩,hs⟩,hc⟩,hq⟩:=hT
 have hn':n<l.length:=by simpa using hn
 have htl:(l.take n).toArray.size=n:=by simp;omega
 have hdl:(l.drop n).length=l.toArray.size - n:=by simp
 refine wp_region_any hm ?_
 simp only[Region.lexB,Bool.and_eq_true]at hB
 have H:=wpAnyQ_lex (P:=P) (C:=fun w'=> ∃u,w'=F u) (md:=.any) hB.1 (l.take n) 0 (Array.replicate (l.take n).toArray.size false) a (by simp) (by simpa using hB.2) h
 have inv0:HeadInv .any l.toArray n (Array.replicate l.toArray.size false):=
  ⟨by simp,fun j oj _ hl=>(by rw[getD_replicate_false]at hl;cases hl),fun t _ ht=>getD_in (by simpa using ht) (getD_replicate_false _ _)⟩
 have:=kA (P:=P) (Q':=Q) (g:=l.toArray.size - n) (hd:=(l.take n).toArray) (ops:=l.toArray) (fun i hi=>by simp[hi]) htl hn hb hs hc
  (fun a' w' hC' h'=>by
   have:=wpAny_of_seq (P:=P) (md:=.any) (ops:=l.toArray) (Q':=Q) (l.drop n) n (finA l.toArray.size n) a' w' (fun j=>by simp) (by rw[hdl];exact hq) (h' w' hC')
   rwa [hdl]at this)
  (l.take n).length _ _ a w.drew hC inv0 (by simpa using htl) (fun i hi=>by
   rw[getD_in (listed:=Array.replicate l.toArray.size false) (by simp;omega) (getD_replicate_false _ _)]
   exact getD_in (by rw[Array.size_replicate];omega) (getD_replicate_false _ _)) H
 have e:(l.take n).length+(l.toArray.size - n)=l.toArray.size:=by simp;omega
 rw[e]at this
 exact this
end
section
open Go.RowKit
def Fresh(W:World)(S:Nat->Option Nat)(b:Nat):Prop:=W.heap.size<=b/\ ∀i c,S i=some c->c≠b
def putL(S:Nat->Option Nat)(i b:Nat):Nat->Option Nat:=fun k=>if k=i then some b else S k
def Has(W:World)(sp:Nat->Option (Obj × (Nat->Value)))(S:Nat->Option Nat)(w:World):Prop:=Ab W w/\ ∀i b,S i=some b->W.heap.size<=b/\ ∃o mk,sp i=some (o,mk)/\w.heap[b]? =some o
theorem hU(S:Nat->Option Nat){i j:Nat}(b c:Nat)(h:i≠j):putL (putL S i b) j c=putL (putL S j c) i b:=by
 funext k
 unfold putL
 by_cases e:k=j
 ·subst e;simp[Ne.symm h]
 ·by_cases e2:k=i
  ·subst e2;simp[e]
  ·simp[e,e2]
theorem Fresh.put{W:World}{S:Nat->Option Nat}{i b c:Nat}(h:Fresh W S c)(n:b≠c):Fresh W (putL S i b) c:=
 ⟨h.1,fun k d e=>by
  unfold putL at e
  by_cases q:k=i
  ·rw[if_pos q]at e;injection e with e;exact fun x=>n (e.trans x)
  ·rw[if_neg q]at e;exact h.2 k d e⟩
theorem Fresh.of_put{W:World}{S:Nat->Option Nat}{i b c:Nat}(h:Fresh W (putL S i b) c)(hi:S i=none):Fresh W S c/\b≠c:=by
 refine⟨⟨h.1,fun k d e=>h.2 k d ?_⟩,h.2 i b (by simp[putL])⟩
 unfold putL
 by_cases q:k=i
 ·subst q;rw[hi]at e;cases e
 ·rw[if_neg q];exact e
theorem Has.lt{W:World}{sp:Nat->Option (Obj × (Nat->Value))}{S:Nat->Option Nat}{w:World}(h:Has W sp S w){i b:Nat}(e:S i=some b):b<w.heap.size:=by
 obtain⟨_,o,mk,_,q⟩:=h.2 i b e
 exact lt_of_block q
theorem Has.fresh{W:World}{sp:Nat->Option (Obj × (Nat->Value))}{S:Nat->Option Nat}{w:World}(h:Has W sp S w):Fresh W S w.heap.size:=
 ⟨h.1.size,fun i c e=>by have:=h.lt e;omega⟩
theorem Has.lay{W:World}{sp:Nat->Option (Obj × (Nat->Value))}{S:Nat->Option Nat}{w:World}(h:Has W sp S w){i:Nat}{o:Obj}{mk:Nat->Value}(e:sp i=some (o,mk)):Has W sp (putL S i w.heap.size) (w.alloc o):=
 ⟨h.1.alloc o,fun k b q=>by
  unfold putL at q
  by_cases c:k=i
  ·subst c
   rw[if_pos rfl]at q
   injection q with q
   subst q
   exact⟨h.1.size,o,mk,e,heap_alloc_new _ _⟩
  ·rw[if_neg c]at q
   obtain⟨h1,o',mk',h2,h3⟩:=h.2 k b q
   exact⟨h1,o',mk',h2,Ab.heap (bl1 _ _) h3⟩⟩
section
variable {P:Program} {ops:Array Oper} {md:Region.Mode} {W:World} {sp:Nat->Option (Obj × (Nat->Value))}
def YF(P:Program)(ops:Array Oper)(W:World)(o:Oper)(v:Value)(a:Act):Prop:=
 (Region.wanted o (yielded ops a.tmps)=true/\ ∀w,Ab W w->(execOp a.eval o).run P w=.ok (.value v) w)\/(Region.wanted o (yielded ops a.tmps)=false/\v=undef)
def LF(P:Program)(ops:Array Oper)(W:World)(o:Oper)(ob:Obj)(mk:Nat->Value)(a:Act):Prop:=
 Region.wanted o (yielded ops a.tmps)=true/\ ∀w,Ab W w->(execOp a.eval o).run P w=.ok (.value (mk w.heap.size)) (w.alloc ob)
theorem YF.same{o:Oper}{v:Value}{a a':Act}(h:YF P ops W o v a)(he:execOp a'.eval o=execOp a.eval o)(hw:Region.wanted o (yielded ops a'.tmps)=Region.wanted o (yielded ops a.tmps)):YF P ops W o v a':=by
 unfold YF at*
 rw[he,hw]
 exact h
theorem LF.same{o:Oper}{ob:Obj}{mk:Nat->Value}{a a':Act}(h:LF P ops W o ob mk a)(he:execOp a'.eval o=execOp a.eval o)(hw:Region.wanted o (yielded ops a'.tmps)=Region.wanted o (yielded ops a.tmps)):LF P ops W o ob mk a':=by
 unfold LF at*
 rw[he,hw]
 exact h
theorem YF.one{o:Oper}{v u:Value}{a:Act}(h:YF P ops W o v a)(k:YF P ops W o u a):v=u:=by
 rcases h with⟨w1,h⟩ | ⟨w1,rfl⟩
 ·rcases k with⟨_,k⟩ | ⟨w2,_⟩
  ·have:=(h W (Ab.refl W)).symm.trans (k W (Ab.refl W))
   injection this with e
   injection e
  ·rw[w1]at w2;cases w2
 ·rcases k with⟨w2,_⟩ | ⟨_,rfl⟩
  ·rw[w1]at w2;cases w2
  ·rfl
def fOp(P:Program)(ops:Array Oper)(W:World)(sp:Nat->Option (Obj × (Nat->Value)))(i:Nat)(K:Act->(Nat->Option Nat)->Prop)(a:Act)(S:Nat->Option Nat):Prop:=
 match ops[i]? with
 | none=>K a S
 | some o=>
  match sp i with
  | none=> ∃v,YF P ops W o v a/\K (a.put o.dst v) S
  | some (ob,mk)=>LF P ops W o ob mk a/\ ∀b,Fresh W S b->K (a.put o.dst (mk b)) (putL S i b)
theorem eP{i:Nat}{K K':Act->(Nat->Option Nat)->Prop}{a:Act}{S:Nat->Option Nat}(h: ∀a S,K a S->K' a S)(hh:fOp P ops W sp i K a S):fOp P ops W sp i K' a S:=by
 unfold fOp at*
 cases ho:ops[i]? with
 | none=>simp only[ho]at hh ⊢;exact h _ _ hh
 | some o=>
  cases hs:sp i with
  | none=>
   simp only[ho,hs]at hh ⊢
   obtain⟨v,h1,h2⟩:=hh
   exact⟨v,h1,h _ _ h2⟩
  | some x=>
   simp only[ho,hs]at hh ⊢
   exact⟨hh.1,fun b hb=>h _ _ (hh.2 b hb)⟩
def wpAnyF(P:Program)(md:Region.Mode)(ops:Array Oper)(W:World)(sp:Nat->Option (Obj × (Nat->Value)))(Q:Act->(Nat->Option Nat)->Prop):Nat->Array Bool->Act->(Nat->Option Nat)->Prop
 | 0,listed,a,S=>Region.ready md ops listed=[]/\Q a S
 | fuel+1,listed,a,S=>
  (Region.ready md ops listed=[]->Q a S)/\
  ∀i ∈ Region.ready md ops listed,fOp P ops W sp i (wpAnyF P md ops W sp Q fuel (listed.setIfInBounds i true)) a S
def Tidy(W:World)(listed:Array Bool)(S:Nat->Option Nat):Prop:=(∀k,listed.getD k true=false->S k=none)/\ ∃n,W.heap.size<=n/\ ∀i c,S i=some c->c<n
theorem Tidy.fresh{listed:Array Bool}{S:Nat->Option Nat}(h:Tidy W listed S): ∃b,Fresh W S b:=by
 obtain⟨_,n,h1,h2⟩:=h
 exact⟨n,h1,fun i c e=>by have:=h2 i c e;omega⟩
theorem Tidy.set{listed:Array Bool}{S:Nat->Option Nat}(h:Tidy W listed S)(j:Nat):Tidy W (listed.setIfInBounds j true) S:=
 ⟨fun k hk=>by
  by_cases e:j=k
  ·subst e
   by_cases l:j<listed.size
   ·simp[l]at hk
   ·exact h.1 j (by rw[Array.setIfInBounds_eq_of_size_le (by omega)]at hk;exact hk)
  ·rw[getD_set_ne true e]at hk;exact h.1 k hk,h.2⟩
theorem Tidy.lay{listed:Array Bool}{S:Nat->Option Nat}(h:Tidy W listed S){j:Nat}(hj:listed.getD j true=false)(b:Nat):Tidy W (listed.setIfInBounds j true) (putL S j b):=by
 obtain⟨h1,n,h2,h3⟩:=h
 refine⟨fun k hk=> ?_,max n (b+1),by omega,fun i c e=> ?_⟩
 ·by_cases e:j=k
  ·subst e
   by_cases l:j<listed.size
   ·simp[l]at hk
   ·simp[l]at hj
  ·rw[getD_set_ne true e]at hk
   unfold putL
   rw[if_neg (Ne.symm e)]
   exact h1 k hk
 ·unfold putL at e
  by_cases q:i=j
  ·rw[if_pos q]at e;injection e with e;omega
  ·rw[if_neg q]at e;have:=h3 i c e;omega
theorem kC{j:Nat}{oi oj:Oper}{v:Value}(hj:ops[j]? =some oj)(hap:oi.apart ops oj=true)(hsi: ∀cs b,oi.op≠ .select cs b)(hsj: ∀cs b,oj.op≠ .select cs b)
  {K:Act->(Nat->Option Nat)->Prop} {a:Act} {S:Nat->Option Nat} (hy:YF P ops W oi v a) (h:fOp P ops W sp j K (a.put oi.dst v) S):
  fOp P ops W sp j (fun a' S'=>YF P ops W oi v a'/\K (a'.put oi.dst v) S') a S:=by
 obtain⟨h1,h2,h3⟩:=Oper.apart_spec hap
 have keep: ∀u,YF P ops W oi v (a.put oj.dst u):=fun u=>hy.same (execOp_put oi hsi a oj.dst u h3) (wanted_put oi a oj.dst u h3)
 unfold fOp at*
 cases hs:sp j with
 | none=>
  simp only[hj,hs]at h ⊢
  obtain⟨u,hu,hk⟩:=h
  exact⟨u,hu.same (execOp_put oj hsj a oi.dst v h1).symm (wanted_put oj a oi.dst v h1).symm,keep u,by rw[<- Act.put_comm a v u h2];exact hk⟩
 | some x=>
  simp only[hj,hs]at h ⊢
  exact⟨h.1.same (execOp_put oj hsj a oi.dst v h1).symm (wanted_put oj a oi.dst v h1).symm,fun b hb=>⟨keep _,by rw[<- Act.put_comm a v _ h2];exact h.2 b hb⟩⟩
theorem kD{i j:Nat}{oi oj:Oper}{ob:Obj}{mk:Nat->Value}(hij:i≠j)(hj:ops[j]? =some oj)(hap:oi.apart ops oj=true)(hsi: ∀cs b,oi.op≠ .select cs b)(hsj: ∀cs b,oj.op≠ .select cs b)
  {K:Act->(Nat->Option Nat)->Prop} {a:Act} {S:Nat->Option Nat} (hf: ∃b,Fresh W S b) (hSj:S j=none) (hy:LF P ops W oi ob mk a) (h: ∀b,Fresh W S b->fOp P ops W sp j K (a.put oi.dst (mk b)) (putL S i b)):
  fOp P ops W sp j (fun a' S'=>LF P ops W oi ob mk a'/\ ∀b,Fresh W S' b->K (a'.put oi.dst (mk b)) (putL S' i b)) a S:=by
 obtain⟨h1,h2,h3⟩:=Oper.apart_spec hap
 have keep: ∀u,LF P ops W oi ob mk (a.put oj.dst u):=fun u=>hy.same (execOp_put oi hsi a oj.dst u h3) (wanted_put oi a oj.dst u h3)
 obtain⟨b0,hb0⟩:=hf
 unfold fOp at*
 cases hs:sp j with
 | none=>
  simp only[hj,hs]at h ⊢
  obtain⟨u,hu,_⟩:=h b0 hb0
  have hu':YF P ops W oj u a:=hu.same (execOp_put oj hsj a oi.dst _ h1).symm (wanted_put oj a oi.dst _ h1).symm
  refine⟨u,hu',keep u,fun b hb=> ?_⟩
  obtain⟨u2,hu2,hk⟩:=h b hb
  have e:u2=u:=YF.one (hu2.same (execOp_put oj hsj a oi.dst _ h1).symm (wanted_put oj a oi.dst _ h1).symm) hu'
  subst e
  rw[<- Act.put_comm a (mk b) u2 h2]
  exact hk
 | some x=>
  simp only[hj,hs]at h ⊢
  refine⟨(h b0 hb0).1.same (execOp_put oj hsj a oi.dst _ h1).symm (wanted_put oj a oi.dst _ h1).symm,fun c hc=>⟨keep _,fun b hb=> ?_⟩⟩
  obtain⟨q1,q2⟩:=hb.of_put hSj
  have:=(h b q1).2 c (hc.put (Ne.symm q2))
  rw[hU S b c hij,Act.put_comm a (mk b) _ h2]at this
  exact this
theorem firstY{Q:Act->(Nat->Option Nat)->Prop}{i:Nat}{oi:Oper}{v:Value}(hi:ops[i]? =some oi)(hsp:sp i=none)(hsel: ∀(j:Nat) (o:Oper) cs b,ops[j]? =some o->o.op≠ .select cs b):
  ∀(fuel:Nat) (listed:Array Bool) (a:Act) (S:Nat->Option Nat),
   (∀j oj,ops[j]? =some oj->j≠i->listed.getD j true=false->(∀e ∈ oj.after,Region.binds md e=true->e.on≠i)->oi.apart ops oj=true)->
   i ∈ Region.ready md ops listed->YF P ops W oi v a->
   wpAnyF P md ops W sp Q fuel (listed.setIfInBounds i true) (a.put oi.dst v) S->wpAnyF P md ops W sp Q (fuel+1) listed a S:=by
 have go: ∀(K:Act->(Nat->Option Nat)->Prop) (a:Act) (S:Nat->Option Nat),YF P ops W oi v a->K (a.put oi.dst v) S->fOp P ops W sp i K a S:=fun K a S hy h=>by
  unfold fOp;simp only[hi,hsp];exact⟨v,hy,h⟩
 intro fuel
 induction fuel with
 | zero=>
  intro listed a S _ hr hy H
  refine⟨fun h=>(by rw[h]at hr;cases hr),fun j hj=> ?_⟩
  by_cases hji:j=i
  ·subst hji;exact go _ _ _ hy H
  ·have:=ready_mono hj hji
   rw[H.1]at this
   cases this
 | succ fuel ih=>
  intro listed a S hfree hr hy H
  refine⟨fun h=>(by rw[h]at hr;cases hr),fun j hj=> ?_⟩
  by_cases hji:j=i
  ·subst hji;exact go _ _ _ hy H
  ·have h1:=H.2 j (ready_mono hj hji)
   obtain⟨hjun,oj,hoj,hall⟩:=mem_ready.1 hj
   have hnot: ∀e ∈ oj.after,Region.binds md e=true->e.on≠i:=fun e he hb heq=>by
    have h1:=hall e he hb
    have h0:=(mem_ready.1 hr).1
    rw[heq]at h1
    rcases Nat.lt_or_ge i listed.size with h' | h'
    ·simp[h']at h0 h1;rw[h0]at h1;cases h1
    ·simp[Array.getElem?_eq_none h']at h1
   have h2:=kC hoj (hfree j oj hoj hji hjun hnot) (fun cs b=>hsel i oi cs b hi) (fun cs b=>hsel j oj cs b hoj) hy h1
   have hfree': ∀k ok,ops[k]? =some ok->k≠i->(listed.setIfInBounds j true).getD k true=false->
     (∀e ∈ ok.after,Region.binds md e=true->e.on≠i)->oi.apart ops ok=true:=fun k ok hk hki hun hno=>by
    refine hfree k ok hk hki ?_ hno
    by_cases hjk:j=k
    ·subst hjk;exact hjun
    ·rw[getD_set_ne true hjk]at hun;exact hun
   refine eP (fun a' S' h3=>ih (listed.setIfInBounds j true) a' S' hfree' (ready_mono hr (Ne.symm hji)) h3.1 ?_) h2
   rw[Array.setIfInBounds_comm _ _ hji]
   exact h3.2
theorem firstL{Q:Act->(Nat->Option Nat)->Prop}{i:Nat}{oi:Oper}{ob:Obj}{mk:Nat->Value}(hi:ops[i]? =some oi)(hsp:sp i=some (ob,mk))(hsel: ∀(j:Nat) (o:Oper) cs b,ops[j]? =some o->o.op≠ .select cs b):
  ∀(fuel:Nat) (listed:Array Bool) (a:Act) (S:Nat->Option Nat),Tidy W listed S->
   (∀j oj,ops[j]? =some oj->j≠i->listed.getD j true=false->(∀e ∈ oj.after,Region.binds md e=true->e.on≠i)->oi.apart ops oj=true)->
   i ∈ Region.ready md ops listed->LF P ops W oi ob mk a->
   (∀b,Fresh W S b->wpAnyF P md ops W sp Q fuel (listed.setIfInBounds i true) (a.put oi.dst (mk b)) (putL S i b))->wpAnyF P md ops W sp Q (fuel+1) listed a S:=by
 have go: ∀(K:Act->(Nat->Option Nat)->Prop) (a:Act) (S:Nat->Option Nat),LF P ops W oi ob mk a->(∀b,Fresh W S b->K (a.put oi.dst (mk b)) (putL S i b))->fOp P ops W sp i K a S:=fun K a S hy h=>by
  unfold fOp;simp only[hi,hsp];exact⟨hy,h⟩
 intro fuel
 induction fuel with
 | zero=>
  intro listed a S ty _ hr hy H
  refine⟨fun h=>(by rw[h]at hr;cases hr),fun j hj=> ?_⟩
  by_cases hji:j=i
  ·subst hji;exact go _ _ _ hy H
  ·obtain⟨b,hb⟩:=ty.fresh
   have:=ready_mono hj hji
   rw[(H b hb).1]at this
   cases this
 | succ fuel ih=>
  intro listed a S ty hfree hr hy H
  refine⟨fun h=>(by rw[h]at hr;cases hr),fun j hj=> ?_⟩
  by_cases hji:j=i
  ·subst hji;exact go _ _ _ hy H
  ·have h1:=fun b hb=>(H b hb).2 j (ready_mono hj hji)
   obtain⟨hjun,oj,hoj,hall⟩:=mem_ready.1 hj
   have hnot: ∀e ∈ oj.after,Region.binds md e=true->e.on≠i:=fun e he hb heq=>by
    have h1:=hall e he hb
    have h0:=(mem_ready.1 hr).1
    rw[heq]at h1
    rcases Nat.lt_or_ge i listed.size with h' | h'
    ·simp[h']at h0 h1;rw[h0]at h1;cases h1
    ·simp[Array.getElem?_eq_none h']at h1
   have hap:=hfree j oj hoj hji hjun hnot
   have hfree': ∀k ok,ops[k]? =some ok->k≠i->(listed.setIfInBounds j true).getD k true=false->
     (∀e ∈ ok.after,Region.binds md e=true->e.on≠i)->oi.apart ops ok=true:=fun k ok hk hki hun hno=>by
    refine hfree k ok hk hki ?_ hno
    by_cases hjk:j=k
    ·subst hjk;exact hjun
    ·rw[getD_set_ne true hjk]at hun;exact hun
   have h2:=kD (Ne.symm hji) hoj hap (fun cs b=>hsel i oi cs b hi) (fun cs b=>hsel j oj cs b hoj) ty.fresh (ty.1 j hjun) hy h1
   -- what j leaves is tidy
   have h4:fOp P ops W sp j (fun a' S'=>Tidy W (listed.setIfInBounds j true) S'/\LF P ops W oi ob mk a'/\ ∀b,Fresh W S' b->wpAnyF P md ops W sp Q fuel ((listed.setIfInBounds i true).setIfInBounds j true) (a'.put oi.dst (mk b)) (putL S' i b)) a S:=by
    unfold fOp at h2 ⊢
    cases hs:sp j with
    | none=>
     simp only[hoj,hs]at h2 ⊢
     obtain⟨u,hu,hk⟩:=h2
     exact⟨u,hu,ty.set j,hk⟩
    | some x=>
     simp only[hoj,hs]at h2 ⊢
     exact⟨h2.1,fun b hb=>⟨ty.lay hjun b,h2.2 b hb⟩⟩
   refine eP (fun a' S' h3=>ih (listed.setIfInBounds j true) a' S' h3.1 hfree' (ready_mono hr (Ne.symm hji)) h3.2.1 (fun b hb=> ?_)) h4
   rw[Array.setIfInBounds_comm _ _ hji]
   exact h3.2.2 b hb
def wpFree(P:Program)(ops:Array Oper)(W:World)(sp:Nat->Option (Obj × (Nat->Value)))(Q:Act->(Nat->Option Nat)->Prop):List Oper->Nat->Act->(Nat->Option Nat)->Prop
 | [],_,a,S=>Q a S
 | o :: rest,k,a,S=>
  match sp k with
  | none=> ∃v,YF P ops W o v a/\wpFree P ops W sp Q rest (k+1) (a.put o.dst v) S
  | some (ob,mk)=>LF P ops W o ob mk a/\ ∀b,Fresh W S b->wpFree P ops W sp Q rest (k+1) (a.put o.dst (mk b)) (putL S k b)
theorem bU{Q:Act->(Nat->Option Nat)->Prop}(hs:Region.noSelect ops=true): ∀(l:List Oper) (k:Nat) (listed:Array Bool) (a:Act) (S:Nat->Option Nat),(∀j,l[j]? =ops[k+j]?)->Tidy W listed S->
  Region.lexFrom md ops l.length k listed=true->wpFree P ops W sp Q l k a S->wpAnyF P md ops W sp Q l.length listed a S
 | [],_,_,_,_,_,_,hB,h=>⟨by simpa [Region.lexFrom]using hB,h⟩
 | o :: l,k,listed,a,S,hl,ty,hB,h=>by
  have h0:ops[k]? =some o:=by simpa using(hl 0).symm
  simp only[List.length_cons,Region.lexFrom,Bool.and_eq_true]at hB
  obtain⟨⟨hr,hf⟩,hB'⟩:=hB
  have hr':k ∈ Region.ready md ops listed:=by simpa using hr
  have hl': ∀j,l[j]? =ops[k+1+j]? :=fun j=>by have:=hl (j+1);simpa [Nat.add_assoc,Nat.add_comm 1 j]using this
  cases hsp:sp k with
  | none=>
   simp only[wpFree,hsp]at h
   obtain⟨v,hy,hK⟩:=h
   exact firstY h0 hsp (Region.noSelect_spec hs) l.length listed a S (Region.free_spec h0 hf) hr' hy
    (bU hs l (k+1) _ _ _ hl' (ty.set k) hB' hK)
  | some x=>
   obtain⟨ob,mk⟩:=x
   simp only[wpFree,hsp]at h
   exact firstL h0 hsp (Region.noSelect_spec hs) l.length listed a S ty (Region.free_spec h0 hf) hr' h.1
    (fun b hb=>bU hs l (k+1) _ _ _ hl' (ty.lay (mem_ready.1 hr').1 b) hB' (h.2 b hb))
theorem eR{i:Nat}{a:Act}{S:Nat->Option Nat}{K:Act->(Nat->Option Nat)->Prop}{K':Act->World->Prop}{Q':Exit->Act->World->Prop}{w:World}(hC:Has W sp S w)(h: ∀a S w',Has W sp S w'->K a S->K' a w')(hh:fOp P ops W sp i K a S):wpOp P ops Q' i K' a w:=by
 unfold fOp at hh
 unfold wpOp
 cases ho:ops[i]? with
 | none=>simp only[ho]at hh ⊢;exact h _ _ _ hC hh
 | some o=>
  cases hs:sp i with
  | none=>
   simp only[ho,hs]at hh ⊢
   obtain⟨v,hy,hk⟩:=hh
   rcases hy with⟨w1,hv⟩ | ⟨w1,rfl⟩
   ·rw[if_pos w1]
    refine .inl ?_
    unfold Oper.wp
    rw[hv w hC.1]
    exact h _ _ _ hC hk
   ·rw[if_neg (by rw[w1];exact Bool.false_ne_true)]
    exact h _ _ _ hC hk
  | some x=>
   obtain⟨ob,mk⟩:=x
   simp only[ho,hs]at hh ⊢
   obtain⟨⟨w1,hv⟩,hk⟩:=hh
   rw[if_pos w1]
   refine .inl ?_
   unfold Oper.wp
   rw[hv w hC.1]
   exact h _ _ _ (hC.lay hs) (hk _ hC.fresh)
end
theorem kE{P:Program}{md:Region.Mode}{ops hd:Array Oper}{W:World}{sp:Nat->Option (Obj × (Nat->Value))}{n:Nat}(hhd: ∀i,i<n->hd[i]? =ops[i]?)(hb:backB md ops n=true){i:Nat}(hi:i<n){K:Act->(Nat->Option Nat)->Prop}{a:Act}{S:Nat->Option Nat}(h:fOp P hd W sp i K a S):fOp P ops W sp i K a S:=by
 unfold fOp at*
 rw[hhd i hi]at h
 cases ho:ops[i]? with
 | none=>rw[ho]at h;exact h
 | some o=>
  have e:Region.wanted o (yielded hd a.tmps)=Region.wanted o (yielded ops a.tmps):=by
   unfold Region.wanted
   cases hg:o.guard with
   | none=>rfl
   | some jb=>
    obtain⟨j,b⟩:=jb
    have lt:=(dR hb hi ho).2 j b hg
    show(yielded hd a.tmps j==some b)=(yielded ops a.tmps j==some b)
    unfold yielded
    rw[hhd j lt]
  simp only[ho]at h ⊢
  cases hs:sp i with
  | none=>
   simp only[hs]at h ⊢
   unfold YF at*
   rw[e]at h
   exact h
  | some x=>
   simp only[hs]at h ⊢
   unfold LF at*
   rw[e]at h
   exact h
theorem cX{P:Program}{md:Region.Mode}{ops hd:Array Oper}{W:World}{sp:Nat->Option (Obj × (Nat->Value))}{n:Nat}{g:Nat}{Q1:Act->(Nat->Option Nat)->Prop}{Q':Exit->Act->World->Prop}(hhd: ∀i,i<n->hd[i]? =ops[i]?)(hsz:hd.size=n)(hn:n<ops.size)(hb:backB md ops n=true)(hs:Region.sinkB md ops n=true)(hc:Region.chainB md ops n=true)
  (hL: ∀a S w,Has W sp S w->Q1 a S->wpAny P md ops Q' g (finA ops.size n) a w):
  ∀(fuel:Nat) (listed lh:Array Bool) (a:Act) (S:Nat->Option Nat) (w:World),Has W sp S w->HeadInv md ops n listed->lh.size=n->(∀i,i<n->lh.getD i true=listed.getD i true)->
   wpAnyF P md hd W sp Q1 fuel lh a S->wpAny P md ops Q' (fuel+g) listed a w:=by
 intro fuel
 induction fuel with
 | zero=>
  intro listed lh a S w hC inv hl he h
  have hls:n<=listed.size:=by rw[inv.size];omega
  rcases cA (by omega) hb hls with all | ⟨i,hi,hr⟩
  ·rw[Nat.zero_add,hQ hn inv all]
   exact hL a S w hC h.2
  ·have:=(bZ hhd hb hl hls he hi).2 hr
   rw[h.1]at this
   cases this
 | succ fuel ih=>
  intro listed lh a S w hC inv hl he h
  have hls:n<=listed.size:=by rw[inv.size];omega
  rcases cA (by omega) hb hls with all | ⟨i0,hi0,hr0⟩
  ·have no:Region.ready md hd lh=[]:=by
    rw[List.eq_nil_iff_forall_not_mem]
    intro i hi
    obtain⟨u,o,ho,_⟩:=mem_ready.1 hi
    have lt:i<n:=by rw[<- hsz];exact(Array.getElem?_eq_some_iff.1 ho).1
    rw[he i lt,all i lt]at u
    cases u
   rw[Nat.add_comm (fuel+1) g,hQ hn inv all]
   exact dZ g (fuel+1) _ a w (hL a S w hC (h.1 no))
  ·rw[show fuel+1+g=(fuel+g)+1 by omega]
   refine⟨fun h0=>(by rw[h0]at hr0;cases hr0),fun i hi=> ?_⟩
   have lt:i<n:=by
    by_cases c:i<n
    ·exact c
    ·exact absurd hi (tail_waits hs hc hn inv _ i0 rfl hi0 (mem_ready.1 hr0).1 i (by omega))
   have hq:=kE hhd hb lt (h.2 i ((bZ hhd hb hl hls he lt).2 hi))
   refine eR hC (fun a' S' w' hC' h'=>ih _ _ a' S' w' hC' (inv.set hi lt) (by simp[hl]) (fun j hj=> ?_) h') hq
   by_cases e:i=j
   ·subst e
    simp[hl,lt,show i<listed.size by omega]
   ·rw[getD_set_ne true e,getD_set_ne true e,he j hj]
theorem dD{P:Program}{id:Nat}{Q:Exit->Act->World->Prop}{a:Act}{w:World}{l:List Oper}(n:Nat)(sp:Nat->Option (Obj × (Nat->Value)))(hm:P.follows .mixedOrders=true)(hB:Region.lexB .any (l.take n).toArray=true)(hT:tailB l.toArray n=true)
  (h:wpFree P (l.take n).toArray w.drew sp (fun a' S=> ∀w',Has w.drew sp S w'->wpList P l.toArray Q (l.drop n) a' w') (l.take n) 0 a (fun _=>none)):(Code.region id l.toArray true).wp P Q a w:=by
 simp only[tailB,Bool.and_eq_true,decide_eq_true_eq]at hT
 obtain⟨⟨⟨⟨hn,hb⟩,hs⟩,hc⟩,hq⟩:=hT
 have hn':n<l.length:=by simpa using hn
 have htl:(l.take n).toArray.size=n:=by simp;omega
 have hdl:(l.drop n).length=l.toArray.size - n:=by simp
 refine wp_region_any hm ?_
 simp only[Region.lexB,Bool.and_eq_true]at hB
 have H:=bU (P:=P) (W:=w.drew) (sp:=sp) (md:=.any) hB.1 (l.take n) 0 (Array.replicate (l.take n).toArray.size false) a (fun _=>none) (by simp) ⟨fun _ _=>rfl,w.drew.heap.size,Nat.le_refl _,fun i c e=>by cases e⟩ (by simpa using hB.2) h
 have inv0:HeadInv .any l.toArray n (Array.replicate l.toArray.size false):=
  ⟨by simp,fun j oj _ hl=>(by rw[getD_replicate_false]at hl;cases hl),fun t _ ht=>getD_in (by simpa using ht) (getD_replicate_false _ _)⟩
 have:=cX (P:=P) (Q':=Q) (g:=l.toArray.size - n) (hd:=(l.take n).toArray) (ops:=l.toArray) (fun i hi=>by simp[hi]) htl hn hb hs hc
  (fun a' S' w' hC' h'=>by
   have:=wpAny_of_seq (P:=P) (md:=.any) (ops:=l.toArray) (Q':=Q) (l.drop n) n (finA l.toArray.size n) a' w' (fun j=>by simp) (by rw[hdl];exact hq) (h' w' hC')
   rwa [hdl]at this)
  (l.take n).length _ _ a (fun _=>none) w.drew ⟨Ab.refl _,fun i b e=>by cases e⟩ inv0 (by simpa using htl) (fun i hi=>by
   rw[getD_in (listed:=Array.replicate l.toArray.size false) (by simp;omega) (getD_replicate_false _ _)]
   exact getD_in (by rw[Array.size_replicate];omega) (getD_replicate_false _ _)) H
 have e:(l.take n).length+(l.toArray.size - n)=l.toArray.size:=by simp;omega
 rw[e]at this
 exact this
end
section
open Go.RowKit
def plainB:Op->Bool
 | .move _ | .assign _ | .pick _ _ _ | .build _ _ | .load _ _ | .binOp _ _ _ _ _ | .unOp _ _ _ | .convert _ _ _ | .slice _ _ _ _ _ | .fieldAddr _ _ _ | .field _ _ _ | .indexAddr _ _ _ | .index _ _ _ | .extract _ _=>true
 | _=>false
theorem val_only{P:Program}{s:Sem Value}{w w':World}{n:Next}(e:(do pure (Next.value (<- s)):Sem Next).run P w=.ok n w'): ∃x,n=.value x:=by
 rw[Sem.run_bind]at e
 cases h:s.run P w with
 | ok x w1=>
  rw[h]at e
  simp at e
  exact⟨x,e.1.symm⟩
 | halt x w1=>rw[h]at e;simp at e
theorem tK{P:Program}{α:Type}{s:Sem α}{f:α->Value}{w w':World}{n:Next}(e:((s.run P w).andThen fun x w=>Result.ok (Next.value (f x)) w)=.ok n w'): ∃x,n=.value x:=by
 cases h:s.run P w with
 | ok x w1=>
  rw[h]at e
  simp at e
  exact⟨f x,e.1.symm⟩
 | halt x w1=>rw[h]at e;simp at e
theorem iE{P:Program}{ρ:Operand->Value}{o:Oper}{w w':World}{n:Next}(h:plainB o.op=true)(e:(execOp ρ o).run P w=.ok n w'): ∃x,n=.value x:=by
 unfold execOp at e
 cases ho:o.op<;>rw[ho]at h e<;>first | (simp[plainB]at h;done) | exact val_only e | (simp at e;first | exact⟨_,e.1.symm⟩ | exact tK (f:=fun b=>if b=true then ρ _ else ρ _) e)
section
variable {P:Program} {ops:Array Oper} {W:World} {sp:Nat->Option (Obj × (Nat->Value))} {Q:Act->(Nat->Option Nat)->Prop} {o:Oper} {rest:List Oper} {k:Nat} {a:Act} {S:Nat->Option Nat}
theorem aF{U:Type}{F:U->World}(HF:Hid (∀w',Ab W w'-> ∃u,w'=F u))(hs:sp k=none)(hp:plainB o.op=true)(h:wpQuiet P ops (fun w'=> ∃u,w'=F u) (fun a'=>wpFree P ops W sp Q rest (k+1) a' S) [o] a):wpFree P ops W sp Q (o :: rest) k a S:=by
 simp only[wpFree,hs]
 simp only[wpQuiet]at h
 by_cases c:Region.wanted o (yielded ops a.tmps)=true
 ·rw[if_pos c]at h
  obtain⟨v,h1,h2⟩:=h
  refine⟨v,.inl ⟨c,fun w hw=> ?_⟩,h2⟩
  have q:=h1 w (HF.out w hw)
  unfold Oper.quietAt at q
  cases e:(execOp a.eval o).run P w with
  | ok n w'=>
   obtain⟨x,rfl⟩:=iE hp e
   rw[e]at q
   obtain⟨q1,q2⟩:=q
   rw[q1,q2]
  | halt x w'=>rw[e]at q;exact absurd q (by simp[Oper.quietUpon])
 ·rw[if_neg c]at h
  exact⟨undef,.inr ⟨by simpa using c,rfl⟩,h⟩
theorem aN{ob:Obj}{mk:Nat->Value}(hs:sp k=some (ob,mk))(hw:Region.wanted o (yielded ops a.tmps)=true)(hr: ∀w,Ab W w->(execOp a.eval o).run P w=.ok (.value (mk w.heap.size)) (w.alloc ob))
  (h: ∀b,Fresh W S b->wpFree P ops W sp Q rest (k+1) (a.put o.dst (mk b)) (putL S k b)):wpFree P ops W sp Q (o :: rest) k a S:=by
 simp only[wpFree,hs]
 exact⟨⟨hw,hr⟩,h⟩
theorem run_val{s:Sem Value}{w w':World}{x:Value}(h:s.run P w=.ok x w'):(do pure (Next.value (<- s)):Sem Next).run P w=.ok (.value x) w':=by
 rw[Sem.run_bind,h]
 rfl
theorem gK{t:TypeId}{x y:Operand}{vx vy:Value}{mk:Nat->Value}{ob:Obj}(ho:o.op=.makeSlice t x y)(hx:a.eval x=vx)(hy:a.eval y=vy)(M: ∀w:World,(Instr.makeSlice t vx vy).run P w=.ok (mk w.heap.size) (w.alloc ob)):
  ∀w,Ab W w->(execOp a.eval o).run P w=.ok (.value (mk w.heap.size)) (w.alloc ob):=by
 intro w _
 unfold execOp
 rw[ho]
 simp only[hx,hy]
 exact run_val (M w)
theorem tL{t:TypeId}{mk:Nat->Value}{ob:Obj}(ho:o.op=.alloc t)(M: ∀w:World,(Instr.alloc t true (.tuple #[])).run P w=.ok (mk w.heap.size) (w.alloc ob)):
  ∀w,Ab W w->(execOp a.eval o).run P w=.ok (.value (mk w.heap.size)) (w.alloc ob):=by
 intro w _
 unfold execOp
 rw[ho]
 exact run_val (M w)
theorem eA(h:Q a S):wpFree P ops W sp Q [] k a S:=h
end
theorem Has.at{W:World}{sp:Nat->Option (Obj × (Nat->Value))}{S:Nat->Option Nat}{w:World}(h:Has W sp S w){i b:Nat}{ob:Obj}{mk:Nat->Value}(e:S i=some b)(s:sp i=some (ob,mk)):w.heap[b]? =some ob/\W.heap.size<=b:=by
 obtain⟨h1,o,m,h2,h3⟩:=h.2 i b e
 rw[s]at h2
 injection h2 with h2
 injection h2 with h2
 subst h2
 exact⟨h3,h1⟩
end
end Go.Proofs.YtilfdnipahabbaaGreatDoor
