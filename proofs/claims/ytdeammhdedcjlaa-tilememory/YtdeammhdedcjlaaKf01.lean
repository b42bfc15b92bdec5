/-
  Some of the texts of this proof, one behind the other.
-/
import Derived.WalkKit
import Derived.Below
import Derived.Deep.Draws
import Derived.Deep.RegionHeld3
import Derived.Test.YtdeammhdedcjlaaRows
import Derived.Deep.RegionWith
import Derived.BigQuiet
import Derived.Deep.QuietTactic
import Derived.Deep.Quiet
import Derived.Deep.MidRow
import Derived.Deep.Cut
import Derived.Deep.CutRange
import Derived.Test.YtdeammhdedcjlaaKf00
set_option maxRecDepth 100000
set_option maxHeartbeats 400000000
namespace Go.Proofs.Ytdeammhdedcjlaa
open _root_.Go.Proofs.Try
section
open Tf Ieee
theorem dU{r:Nat}(h:4503599627370496<=r):mv r=(4503599627370496+r%4503599627370496)*2 ^ (r/4503599627370496 - 1):=by
 unfold mv mag
 have e:(2:Nat) ^ 52=4503599627370496:=by decide
 rw[if_neg (by omega),e]
theorem oJ(r:Nat):mv (r+1)=mv r+2 ^ (r/4503599627370496 - 1):=by
 have e:(2:Nat) ^ 52=4503599627370496:=by decide
 have h:=cK 52 r
 unfold gap at h
 rw[e]at h
 exact h
theorem hZ{r d:Nat}(h:(d+3)*4503599627370496<=r): ∃y,mv r+mv (r+1)=y*2 ^ (d+2):=by
 rw[oJ,dU (by omega)]
 obtain⟨j,hj⟩: ∃j,r/4503599627370496 - 1=d+2+j:=by
  have:d+3<=r/4503599627370496:=(Nat.le_div_iff_mul_le (by omega)).2 h
  exact⟨r/4503599627370496 - 1 - (d+2),by omega⟩
 rw[hj]
 refine⟨(2*(4503599627370496+r%4503599627370496)+1)*2 ^ j,?_⟩
 rw[Nat.pow_add 2 (d+2) j]
 generalize 4503599627370496+r%4503599627370496=a
 generalize 2 ^ (d+2)=b
 generalize 2 ^ j=c
 rw[show a*(b*c)+(a*(b*c)+b*c)=(2*a+1)*(b*c)by rw[Nat.add_mul,Nat.mul_assoc 2,Nat.one_mul];omega,Nat.mul_comm b c,Nat.mul_assoc]
theorem iA{r d W:Nat}(hW:18014398509481984<=W)(h:W*2 ^ d<mv r):(d+3)*4503599627370496<r:=by
 have e2:=cM (d+2) ((d+3)*4503599627370496) (by
  have e:(2:Nat) ^ 52=4503599627370496:=by decide
  rw[e])
 have e3:2 ^ (52+(d+2))=18014398509481984*2 ^ d:=by
  rw[show 52+(d+2)=54+d by omega,Nat.pow_add]
 have h1:18014398509481984*2 ^ d<=W*2 ^ d:=Nat.mul_le_mul_right _ hW
 have:mv ((d+3)*4503599627370496)<mv r:=by omega
 exact hJ.1 this
end
section
open Go.RowKit
theorem hid{p:Prop}(h:p):Hid p:=h
theorem gF(w:World)(A B C:Obj):(((w.alloc A).alloc B).alloc C).heap[w.heap.size+2]? =some C:=by
 have h:=heap_alloc_new ((w.alloc A).alloc B) C
 have e:((w.alloc A).alloc B).heap.size=w.heap.size+2:=by
  show((w.heap.push A).push B).size=_
  simp
 rwa [e]at h
theorem bl1(w:World)(A:Obj):Below w.heap.size w (w.alloc A):=(Below.refl _ _).alloc (Nat.le_refl _) _
theorem bl2(w:World)(A B:Obj):Below w.heap.size w ((w.alloc A).alloc B):=(bl1 w A).alloc (by simp) _
theorem bl3(w:World)(A B C:Obj):Below w.heap.size w (((w.alloc A).alloc B).alloc C):=(bl2 w A B).alloc (by simp;omega) _
def Ab(W w:World):Prop:=Below W.heap.size W w
theorem Ab.refl(W:World):Ab W W:=Below.refl _ _
theorem Ab.size{W w:World}(h:Ab W w):W.heap.size<=w.heap.size:=Below.size h
theorem Ab.drew{W w:World}(h:Ab W w):Ab W w.drew:=Below.drew h
theorem Ab.alloc{W w:World}(h:Ab W w)(o:Obj):Ab W (w.alloc o):=Below.alloc h h.size o
theorem Ab.call{W u w:World}(h:Ab W u)(b:Below u.heap.size u w):Ab W w:=h.trans (b.mono h.size)
theorem Ab.set{W w:World}(h:Ab W w){p:Addr}(hp:W.heap.size<=p.block)(u:Value):Ab W (w.setCell p u):=Below.setCell h hp u
theorem Ab.heap{W w:World}(h:Ab W w){g:Nat}{o:Obj}(hg:W.heap[g]? =some o):w.heap[g]? =some o:=by
 have hlt:g<W.heap.size:=by
  rcases Nat.lt_or_ge g W.heap.size with h1 | h1
  ·exact h1
  ·rw[Array.getElem?_eq_none h1]at hg;cases hg
 exact(Below.block h g hlt).trans hg
theorem aC{w:World}{g:Nat}{cs:Array Value}{T:TypeId}(h:w.heap[g]? =some (.cells cs T (0,0)))(k:Nat):w.frozen? ⟨g,k,none⟩=false:=by
 simp[World.frozen?,h]
theorem Ab.trans{a b c:World}(h:Ab a b)(k:Ab b c):Ab a c:=h.call k
def Abx(W:World)(g n:Nat)(T:TypeId)(w:World):Prop:=
 (w.os=W.os/\w.tape=W.tape/\w.output=W.output/\W.heap.size<=w.heap.size/\ ∀k,k<W.heap.size->k≠g->w.heap[k]? =W.heap[k]?)/\ ∃cs:Array Value,cs.size=n/\w.heap[g]? =some (.cells cs T)
def rv(w:World)(g k:Nat):Value:=(w.cell? ⟨g,k,none⟩).getD (.bool false)
theorem Ab.x{W w:World}(h:Ab W w){g n:Nat}{T:TypeId}{cs:Array Value}(hn:cs.size=n)(hg:W.heap[g]? =some (.cells cs T)):Abx W g n T w:=
 ⟨⟨Below.os h,Below.tape h,Below.output h,Below.size h,fun k hk _=>Below.block h k hk⟩,cs,hn,h.heap hg⟩
theorem Abx.drew{W w:World}{g n:Nat}{T:TypeId}(h:Abx W g n T w):Abx W g n T w.drew:=h
theorem Abx.alloc{W w:World}{g n:Nat}{T:TypeId}(h:Abx W g n T w)(o:Obj):Abx W g n T (w.alloc o):=by
 obtain⟨⟨h1,h2,h3,h4,h5⟩,cs,h6,h7⟩:=h
 refine⟨⟨h1,h2,h3,by simp;omega,fun k hk hne=>(Below.heap_alloc _ _ _ (by omega)).trans (h5 k hk hne)⟩,cs,h6,(Below.heap_alloc _ _ _ (lt_of_block h7)).trans h7⟩
theorem Abx.call{W u w:World}{g n:Nat}{T:TypeId}(h:Abx W g n T u)(b:Below u.heap.size u w):Abx W g n T w:=by
 obtain⟨⟨h1,h2,h3,h4,h5⟩,cs,h6,h7⟩:=h
 exact⟨⟨b.os.trans h1,b.tape.trans h2,b.output.trans h3,Nat.le_trans h4 b.size,fun k hk hne=>(b.block k (by omega)).trans (h5 k hk hne)⟩,cs,h6,(b.block g (lt_of_block h7)).trans h7⟩
theorem aH{w:World}{g k:Nat}{cs:Array Value}{v:Value}{T:TypeId}(h:w.heap[g]? =some (.cells cs T)):(w.setCell ⟨g,k,none⟩ v).heap[g]? =some (.cells (cs.setIfInBounds k v) T):=by
 show(w.heap.modify g _)[g]? =_
 rw[Array.getElem?_modify,if_pos rfl,h]
 rfl
theorem Abx.set{W w:World}{g n:Nat}{T:TypeId}(h:Abx W g n T w)(k:Nat)(v:Value):Abx W g n T (w.setCell ⟨g,k,none⟩ v):=by
 obtain⟨⟨h1,h2,h3,h4,h5⟩,cs,h6,h7⟩:=h
 refine⟨⟨h1,h2,h3,by simpa [World.setCell]using h4,fun i hi hne=>(Below.heap_setCell _ _ _ _ hne).trans (h5 i hi hne)⟩,cs.setIfInBounds k v,by simpa using h6,aH h7⟩
theorem Abx.heap{W w:World}{g n:Nat}{T:TypeId}(h:Abx W g n T w){k:Nat}{o:Obj}(hne:k≠g)(hk:W.heap[k]? =some o):w.heap[k]? =some o:=by
 have hlt:k<W.heap.size:=by
  rcases Nat.lt_or_ge k W.heap.size with h1 | h1
  ·exact h1
  ·rw[Array.getElem?_eq_none h1]at hk;cases hk
 exact(h.1.2.2.2.2 k hlt hne).trans hk
theorem Abx.free{W w:World}{g n:Nat}{T:TypeId}(h:Abx W g n T w)(k:Nat):w.frozen? ⟨g,k,none⟩=false:=by
 obtain⟨_,cs,_,h7⟩:=h
 exact aC h7 k
theorem Abx.some{W w:World}{g n:Nat}{T:TypeId}(h:Abx W g n T w){k:Nat}(hk:k<n):w.cell? ⟨g,k,none⟩=some (rv w g k):=by
 obtain⟨_,cs,h6,h7⟩:=h
 have e:=cell_of_row w g k cs T (0,0) h7
 rw[Array.getElem?_eq_getElem (by omega)]at e
 unfold rv
 rw[e]
 rfl
theorem Abx.ab{w0 W w:World}{g n:Nat}{T:TypeId}(h:Abx W g n T w)(a:Ab w0 W)(hg:w0.heap.size<=g):Ab w0 w:=by
 obtain⟨⟨h1,h2,h3,h4,h5⟩,_⟩:=h
 exact⟨h1.trans a.os,h2.trans a.tape,h3.trans a.output,Nat.le_trans (Below.size a) h4,fun k hk=>(h5 k (Nat.lt_of_lt_of_le hk (Below.size a)) (by omega)).trans (a.block k hk)⟩
theorem set3{W w:World}{g:Nat}{x y z:Value}{T:TypeId}(h:Abx W g 3 T w):
  (((w.setCell ⟨g,0,none⟩ x).setCell ⟨g,1,none⟩ y).setCell ⟨g,2,none⟩ z).heap[g]? =some (.cells #[x,y,z] T):=by
 obtain⟨_,cs,h6,h⟩:=h
 obtain⟨a,b,c,rfl⟩: ∃a b c,cs= #[a,b,c]:=by
  rcases cs with⟨l⟩
  match l,h6 with
  | [a,b,c],_=>exact⟨a,b,c,rfl⟩
 have h1:=aH (v:=x) (k:=0) h
 have h2:=aH (v:=y) (k:=1) h1
 have h3:=aH (v:=z) (k:=2) h2
 simpa using h3
theorem Ab.setk{W w:World}(h:Ab W w){g k:Nat}(hp:W.heap.size<=g)(u:Value):Ab W (w.setCell ⟨g,k,none⟩ u):=Below.setCell h hp u
theorem Ab.drewN{W w:World}(h:Ab W w)(k:Nat):Ab W (w.drewN k):=by
 induction k with
 | zero=>exact h
 | succ k ih=>exact ih.drew
theorem rowfacts{w:World}{g:Nat}{x y z:Value}{T:TypeId}(r:w.heap[g]? =some (.cells #[x,y,z] T)):(w.frozen? ⟨g,0,none⟩=false/\w.frozen? ⟨g,1,none⟩=false/\w.frozen? ⟨g,2,none⟩=false)/\w.cell? ⟨g,0,none⟩=some x/\w.cell? ⟨g,1,none⟩=some y/\w.cell? ⟨g,2,none⟩=some z:=
 ⟨⟨aC r 0,aC r 1,aC r 2⟩,cell_of_row _ _ 0 _ _ _ r,cell_of_row _ _ 1 _ _ _ r,cell_of_row _ _ 2 _ _ _ r⟩
theorem row3{w:World}{g:Nat}{a b c x y z:Value}{T:TypeId}(h:w.heap[g]? =some (.cells #[a,b,c] T)):
  (((w.setCell ⟨g,0,none⟩ x).setCell ⟨g,1,none⟩ y).setCell ⟨g,2,none⟩ z).heap[g]? =some (.cells #[x,y,z] T):=by
 have h1:=aH (v:=x) (k:=0) h
 have h2:=aH (v:=y) (k:=1) h1
 have h3:=aH (v:=z) (k:=2) h2
 simpa using h3
theorem aA{w:World}{g:Nat}{cs:Array Value}{t:TypeId}{r:Nat × Nat}(j:Nat)(h:w.heap[g]? =some (.cells cs t r)):w.cell? ⟨g,j,none⟩=cs[j]? :=cell_of_row _ _ _ _ _ _ h
theorem aE{w:World}{g:Nat}{a b c d e f:Value}{t:TypeId}{r:Nat × Nat}(h:w.heap[g]? =some (.cells #[a,b,c,d,e,f] t r)):w.cell? ⟨g,0,none⟩=some a/\w.cell? ⟨g,1,none⟩=some b/\w.cell? ⟨g,2,none⟩=some c/\w.cell? ⟨g,3,none⟩=some d/\w.cell? ⟨g,4,none⟩=some e/\w.cell? ⟨g,5,none⟩=some f:=⟨aA 0 h,aA 1 h,aA 2 h,aA 3 h,aA 4 h,aA 5 h⟩
theorem cells_seven{w:World}{g:Nat}{a b c d e f k:Value}{t:TypeId}{r:Nat × Nat}(h:w.heap[g]? =some (.cells #[a,b,c,d,e,f,k] t r)):w.cell? ⟨g,0,none⟩=some a/\w.cell? ⟨g,1,none⟩=some b/\w.cell? ⟨g,2,none⟩=some c/\w.cell? ⟨g,3,none⟩=some d/\w.cell? ⟨g,4,none⟩=some e/\w.cell? ⟨g,5,none⟩=some f/\w.cell? ⟨g,6,none⟩=some k:=⟨aA 0 h,aA 1 h,aA 2 h,aA 3 h,aA 4 h,aA 5 h,aA 6 h⟩
theorem free_six{w:World}{g:Nat}{cs:Array Value}{T:TypeId}(h:w.heap[g]? =some (.cells cs T (0,0))):w.frozen? ⟨g,0,none⟩=false/\w.frozen? ⟨g,1,none⟩=false/\w.frozen? ⟨g,2,none⟩=false/\w.frozen? ⟨g,3,none⟩=false/\w.frozen? ⟨g,4,none⟩=false/\w.frozen? ⟨g,5,none⟩=false:=⟨aC h 0,aC h 1,aC h 2,aC h 3,aC h 4,aC h 5⟩
theorem dJ{w v:World}(h:Below w.heap.size w v):Hid (Ab w v):=h
theorem aF(w:World)(X:Obj):Hid (Ab w (w.alloc X))/\Hid ((w.alloc X).heap[w.heap.size]? =some X):=⟨bl1 _ _,heap_alloc_new _ _⟩
theorem fH(w:World)(X Y:Obj):Hid (Ab w ((w.alloc X).alloc Y))/\Hid (((w.alloc X).alloc Y).heap[w.heap.size]? =some X)/\Hid (((w.alloc X).alloc Y).heap[w.heap.size+1]? =some Y):=⟨bl2 _ _ _,heap_alloc2_old _ _ _,heap_alloc2_new _ _ _⟩
theorem aB{α:Type}(x:α): ∃g,x=g:=⟨_,rfl⟩
end
section
open Go.RowKit Tf
theorem aI(b:Nat)(w:World):(callFunc 71 #[.float .f64 b]).run prog w=.ok (.value (.int .u64 b)) w:=by
 rw[run_callFunc_extern (e:=Extern.MathFloatBits.float64bits) func71 (by kernel_rfl) (by kernel_rfl) (by kernel_rfl) (by kernel_rfl)]
 rfl
theorem aJ(n:Int)(w:World):(callFunc 70 #[.int .u64 n]).run prog w=.ok (.value (.float .f64 n.toNat)) w:=by
 rw[run_callFunc_extern (e:=Extern.MathFloatBits.float64frombits) func70 (by kernel_rfl) (by kernel_rfl) (by kernel_rfl) (by kernel_rfl)]
 rfl
theorem aQ(a b:Nat):(FloatKind.f64.format.order a b==some Ordering.eq)=feq a b:=rfl
theorem aR(a b:Nat):(FloatKind.f64.format.order a b != some Ordering.eq)= !feq a b:=rfl
theorem aU(a b:Nat):(FloatKind.f64.format.order a b==some Ordering.lt)=flt a b:=rfl
theorem aV(a b:Nat):(FloatKind.f64.format.order a b==some Ordering.gt)=fgt a b:=rfl
attribute [local go_sem] aI aJ aQ aR aU aV
theorem gI{k:IntKind}{a b:Int}(h:a=b):Ending.returned (.int k a)=.returned (.int k b):=by rw[h]
theorem ret_bool{a b:Bool}(h:a=b):Ending.returned (.bool a)=.returned (.bool b):=by rw[h]
theorem gJ{a b:Nat}(h:a=b):Ending.returned (.float .f64 a)=.returned (.float .f64 b):=by rw[h]
theorem cT(x:Nat)(w:World)(hx:x<18446744073709551616):
  Calls prog 61 #[.float .f64 x] w fun e w'=>e=.returned (.int .u64 (mg x:Nat))/\w'=w:=by
 go_enter func61,ntmps61
 go_wp2
 go_ret
 exact⟨gI (fZ x hx),rfl⟩
theorem iV(x:Nat)(w:World)(hx:x<18446744073709551616):
  Calls prog 79 #[.float .f64 x] w fun e w'=>e=.returned (.int .u64 (placeB x:Nat))/\w'=w:=by
 have hs:=and_sign x hx
 cases hn:ng x
 ·rw[hn]at hs
  have hl:=cZ hn
  have ho:Hid (bits .or .u64 (x:Int) 9223372036854775808=((x+9223372036854775808:Nat):Int)):=or_sign x hl
  have hp:Hid (placeB x=x+9223372036854775808):=by unfold placeB;rw[hn];rfl
  go_enter func79,ntmps79
  go_wp2
  go_ret
  exact⟨gI (by rw[ho.out,hp.out]),rfl⟩
 ·rw[hn]at hs
  have ho:Hid (bits .xor .u64 IntKind.u64.max (x:Int)=((18446744073709551615 - x:Nat):Int)):=not_all x hx
  have hp:Hid (placeB x=18446744073709551615 - x):=by unfold placeB;rw[hn];rfl
  go_enter func79,ntmps79
  go_wp2
  go_ret
  exact⟨gI (by rw[hp.out];exact ho.out),rfl⟩
theorem fS(x:Nat)(w:World)(hx:x<18446744073709551616):
  Calls prog 56 #[.float .f64 x] w fun e w'=>e=.returned (.bool (isN x))/\w'=w:=by
 go_enter func56,ntmps56
 go_wp2_with (go_at_call 61;refine(cT _ _ hx).mono ?_;rintro e w' ⟨rfl,rfl⟩)
 go_ret
 exact⟨ret_bool (by unfold isN;exact decide_eq_decide.2 (by omega)),rfl⟩
theorem dK(w:World):
  Calls prog 57 #[] w fun e w'=>e=.returned (.float .f64 quiet)/\w'=w:=by
 go_enter func57,ntmps57
 go_wp2
 go_ret
 exact⟨rfl,rfl⟩
theorem feq_zero(x:Nat)(hx:x<18446744073709551616):feq x 0=decide (mg x=0):=by
 have h:=fO x 0 hx (by omega)
 have e:rk 0=0:=by decide
 have n:isN 0=false:=by decide
 rw[h,e,n]
 cases hN:isN x
 ·unfold rk
  cases ng x<;>simp
 ·have:=aW.1 hN
  have: ¬mg x=0:=by omega
  simp[this]
theorem bE(x m:Nat)(w:World)(hx:x<18446744073709551616)(hm:Hid (mg x=m)):
  Calls prog 61 #[.float .f64 x] w fun e w'=>e=.returned (.int .u64 (m:Nat))/\w'=w:=by
 have:=cT x w hx
 rwa [hm.out]at this
theorem class_at(x m:Nat)(c:Int)(w:World)(hx:x<18446744073709551616)(hm:Hid (mg x=m))(hc:Hid ((if m=0 then 0 else if m<4503599627370496 then 1 else if m<9218868437227405312 then 2 else if m=9218868437227405312 then 3 else 4)=c)):
  Calls prog 46 #[.float .f64 x] w fun e w'=>e=.returned (.int .i64 c)/\w'=w:=by
 by_cases c0:m=0
 ·subst c0
  go_enter func46,ntmps46
  go_wp2_with (go_at_call 61;refine(bE x _ _ hx hm).mono ?_;rintro e w' ⟨rfl,rfl⟩)
  go_ret
  exact⟨gI hc.out,rfl⟩
 ·have e0:((m:Int)==0)=false:=by simp;omega
  by_cases c1:m<4503599627370496
  ·have h:=hc.out
   rw[if_neg c0,if_pos c1]at h
   subst h
   have e1:decide ((m:Int)<4503599627370496)=true:=by simp;omega
   clear hc c0 c1
   go_enter func46,ntmps46
   go_wp2_with (go_at_call 61;refine(bE x _ _ hx hm).mono ?_;rintro e w' ⟨rfl,rfl⟩)
   go_ret
   exact⟨rfl,rfl⟩
  ·by_cases c2:m<9218868437227405312
   ·have h:=hc.out
    rw[if_neg c0,if_neg c1,if_pos c2]at h
    subst h
    have e1:decide ((m:Int)<4503599627370496)=false:=by simp;omega
    have e2:decide ((m:Int)<9218868437227405312)=true:=by simp;omega
    clear hc c0 c1 c2
    go_enter func46,ntmps46
    go_wp2_with (go_at_call 61;refine(bE x _ _ hx hm).mono ?_;rintro e w' ⟨rfl,rfl⟩)
    go_ret
    exact⟨rfl,rfl⟩
   ·by_cases c3:m=9218868437227405312
    ·have h:=hc.out
     rw[if_neg c0,if_neg c1,if_neg c2,if_pos c3]at h
     subst h
     clear hc
     subst c3
     go_enter func46,ntmps46
     go_wp2_with (go_at_call 61;refine(bE x _ _ hx hm).mono ?_;rintro e w' ⟨rfl,rfl⟩)
     go_ret
     exact⟨rfl,rfl⟩
    ·have e3:((m:Int)==9218868437227405312)=false:=by simp;omega
     have h:=hc.out
     rw[if_neg c0,if_neg c1,if_neg c2,if_neg c3]at h
     subst h
     have e1:decide ((m:Int)<4503599627370496)=false:=by simp;omega
     have e2:decide ((m:Int)<9218868437227405312)=false:=by simp;omega
     clear hc c0 c1 c2 c3
     go_enter func46,ntmps46
     go_wp2_with (go_at_call 61;refine(bE x _ _ hx hm).mono ?_;rintro e w' ⟨rfl,rfl⟩)
     go_ret
     exact⟨rfl,rfl⟩
theorem pV(x:Nat)(w:World)(hx:x<18446744073709551616):
  Calls prog 46 #[.float .f64 x] w fun e w'=>e=.returned (.int .i64 (classB x))/\w'=w:=
 class_at x (mg x) (classB x) w hx rfl rfl
theorem bO(x:Nat)(w:World)(hx:x<18446744073709551616):
  Calls prog 42 #[.float .f64 x] w fun e w'=>e=.returned (.float .f64 (canonB x))/\w'=w:=by
 have hc:Hid (canonB x=if isN x then quiet else if mg x=0 then 0 else x):=rfl
 have hz:=feq_zero x hx
 cases hN:isN x
 ·have HN:=hid hN
  by_cases c:mg x=0
  ·have H:Hid (mg x=0):=c
   rw[c]at hz;simp only[decide_true]at hz
   clear c
   go_enter func42,ntmps42
   go_wp2_with (first | (go_at_call 56;refine(fS _ _ hx).mono ?_;rintro e w' ⟨rfl,rfl⟩) | (go_at_call 57;refine(dK _).mono ?_;rintro e w' ⟨rfl,rfl⟩))
   go_ret
   exact⟨gJ (by rw[hc.out,HN.out,H.out];rfl),rfl⟩
  ·simp only[c,decide_false]at hz
   go_enter func42,ntmps42
   go_wp2_with (first | (go_at_call 56;refine(fS _ _ hx).mono ?_;rintro e w' ⟨rfl,rfl⟩) | (go_at_call 57;refine(dK _).mono ?_;rintro e w' ⟨rfl,rfl⟩))
   go_ret
   exact⟨gJ (by rw[hc.out,HN.out,if_neg c];rfl),rfl⟩
 ·have HN:=hid hN
  go_enter func42,ntmps42
  go_wp2_with (first | (go_at_call 56;refine(fS _ _ hx).mono ?_;rintro e w' ⟨rfl,rfl⟩) | (go_at_call 57;refine(dK _).mono ?_;rintro e w' ⟨rfl,rfl⟩))
  go_ret
  exact⟨gJ (by rw[hc.out,HN.out];rfl),rfl⟩
end
section
open Go.RowKit Tf
attribute [local go_sem] aI aJ aQ aR aU aV
theorem fT(x:Nat)(h:x<2 ^ 63):x ^^^ 2 ^ 63=x+2 ^ 63:=by
 apply Nat.eq_of_testBit_eq
 intro i
 rw[Nat.testBit_xor,Nat.testBit_two_pow,Nat.add_comm x]
 by_cases c:i=63
 ·subst c
  rw[Nat.testBit_two_pow_add_eq]
  have:x.testBit 63=false:=Nat.testBit_lt_two_pow h
  simp[this]
 ·by_cases c2:i<63
  ·rw[Nat.testBit_two_pow_add_gt c2]
   have: ¬63=i:=by omega
   simp[this]
  ·have h1:x.testBit i=false:=Nat.testBit_lt_two_pow (Nat.lt_of_lt_of_le h (Nat.pow_le_pow_right (by omega) (by omega)))
   have h2:(2 ^ 63+x).testBit i=false:=Nat.testBit_lt_two_pow (Nat.lt_of_lt_of_le (show 2 ^ 63+x<2 ^ 64 by omega) (Nat.pow_le_pow_right (by omega) (by omega)))
   have: ¬63=i:=by omega
   rw[h1,h2];simp[this]
theorem gA(x:Nat)(hx:x<18446744073709551616):Op.negFloat .f64 x=negB x:=by
 unfold Op.negFloat negB
 rw[show FloatKind.f64.format.exponentBits+FloatKind.f64.format.fractionBits=63 from rfl]
 cases h:ng x
 ·have:=cZ h
  rw[fT x (by omega)];simp only[Bool.false_eq_true,if_false]
 ·have:=fA h
  have e:=fT (x - 9223372036854775808) (by omega)
  rw[show x - 9223372036854775808+2 ^ 63=x by omega]at e
  have e2:x ^^^ 2 ^ 63=x - 9223372036854775808:=by
   rw(occs:=.pos [1]) [<- e]
   rw[Nat.xor_assoc,Nat.xor_self,Nat.xor_zero]
  rw[e2];simp only[if_true]
theorem aX(b:Nat):Op.unary .neg (.float .f64 b)=pure (.float .f64 (Op.negFloat .f64 b)):=rfl
attribute [local go_sem] aX
end
section
open Go.RowKit Tf
attribute [local go_sem] aI aJ aQ aR aU aV aX
theorem order_at(a b p q:Nat)(w:World)(ha:a<18446744073709551616)(hb:b<18446744073709551616)(hp:Hid (placeB a=p))(hq:Hid (placeB b=q)):
  Calls prog 77 #[.float .f64 a,.float .f64 b] w fun e w'=>e=.returned (.int .i64 (if p<q then -1 else if q<p then 1 else 0))/\w'=w:=by
 have pa: ∀w,Calls prog 79 #[.float .f64 a] w fun e w'=>e=.returned (.int .u64 (p:Nat))/\w'=w:=by
  intro w;rw[<- hp.out];exact iV a w ha
 have pb: ∀w,Calls prog 79 #[.float .f64 b] w fun e w'=>e=.returned (.int .u64 (q:Nat))/\w'=w:=by
  intro w;rw[<- hq.out];exact iV b w hb
 have PA:=hid pa
 have PB:=hid pb
 clear pa pb
 by_cases c1:p<q
 ·rw[if_pos c1]
  go_enter func77,ntmps77
  go_wp2_with fail
  refine(PA.out _).mono ?_
  rintro e w' ⟨rfl,rfl⟩
  go_wp2_with fail
  refine(PB.out _).mono ?_
  rintro e w' ⟨rfl,rfl⟩
  go_wp2
  go_ret
  exact⟨rfl,rfl⟩
 ·rw[if_neg c1]
  by_cases c2:q<p
  ·rw[if_pos c2]
   go_enter func77,ntmps77
   go_wp2_with fail
   refine(PA.out _).mono ?_
   rintro e w' ⟨rfl,rfl⟩
   go_wp2_with fail
   refine(PB.out _).mono ?_
   rintro e w' ⟨rfl,rfl⟩
   go_wp2
   go_ret
   exact⟨rfl,rfl⟩
  ·rw[if_neg c2]
   go_enter func77,ntmps77
   go_wp2_with fail
   refine(PA.out _).mono ?_
   rintro e w' ⟨rfl,rfl⟩
   go_wp2_with fail
   refine(PB.out _).mono ?_
   rintro e w' ⟨rfl,rfl⟩
   go_wp2
   go_ret
   exact⟨rfl,rfl⟩
theorem pW(a b:Nat)(w:World)(ha:a<18446744073709551616)(hb:b<18446744073709551616):
  Calls prog 77 #[.float .f64 a,.float .f64 b] w fun e w'=>e=.returned (.int .i64 (orderB a b))/\w'=w:=
 order_at a b (placeB a) (placeB b) w ha hb rfl rfl
theorem iW(a b:Nat)(o:Int)(w:World)(ha:a<18446744073709551616)(hb:b<18446744073709551616)(ho:Hid (orderB a b=o)):
  Calls prog 77 #[.float .f64 a,.float .f64 b] w fun e w'=>e=.returned (.int .i64 o)/\w'=w:=by
 rw[<- ho.out];exact pW a b w ha hb
theorem pX(a b:Nat):0<orderB a b ↔ placeB b<placeB a:=by
 unfold orderB;split
 ·simp;omega
 ·split<;>simp_all
def nanOf(w:World)(x y:Nat):Nat:=(Question.nanBits .f64 x y).cut (w.tape w.drawn (.nanBits .f64 x y))
theorem dV(w:World)(x y:Nat):nanOf w x y<18446744073709551616:=by
 unfold nanOf Question.cut
 simp only[]
 omega
theorem dC(w:World)(x y:Nat):isN (nanOf w x y)=true:=by
 rw[aW]
 unfold nanOf Question.cut mg
 simp only[]
 generalize w.tape w.drawn (Question.nanBits FloatKind.f64 x y)=t
 have hb:t/2%(2 ^ 52 - 1)<2 ^ 52 - 1:=Nat.mod_lt _ (by omega)
 generalize t/2%(2 ^ 52 - 1)=b at*
 have ha:t%2=0\/t%2=1:=by omega
 rcases ha with h | h<;>rw[h]<;>omega
theorem lI{P:Program}(w:World)(t:TypeId)(x y:Nat)(h:Ieee.double.sub x y=none):
  (binOp .sub t (.float .f64 x) (.float .f64 y)).run P w=.ok (.float .f64 (nanOf w x y)) w.drew:=by
 have h':FloatKind.f64.format.sub x y=none:=h
 simp[binOp,Op.floatArith,h',nanOf,Question.forced]
end
section
open Go.RowKit Tf
attribute [local go_sem] aI aJ aQ aR aU aV
theorem lJ{P:Program}(w:World)(t:TypeId)(x y:Nat)(h:Ieee.double.add x y=none):
  (binOp .add t (.float .f64 x) (.float .f64 y)).run P w=.ok (.float .f64 (nanOf w x y)) w.drew:=by
 have h':FloatKind.f64.format.add x y=none:=h
 simp[binOp,Op.floatArith,h',nanOf,Question.forced]
theorem lK{P:Program}(w:World)(t:TypeId)(x y:Nat)(h:Ieee.double.mul x y=none):
  (binOp .mul t (.float .f64 x) (.float .f64 y)).run P w=.ok (.float .f64 (nanOf w x y)) w.drew:=by
 have h':FloatKind.f64.format.mul x y=none:=h
 simp[binOp,Op.floatArith,h',nanOf,Question.forced]
theorem oK(x:Nat)(w:World)(hx:x<18446744073709551616):
  Calls prog 78 #[.float .f64 x] w fun e w'=>e=.returned (.float .f64 (mg x))/\w'=w:=by
 go_enter func78,ntmps78
 go_wp2
 go_ret
 refine⟨gJ ?_,rfl⟩
 rw[fZ x hx];rfl
theorem rk_pos(m:Nat)(h:m<9223372036854775808):rk m=m:=by
 unfold rk;rw[bI h,if_neg (by decide),bD h]
end
section
open Go.RowKit Tf
attribute [local go_sem] aI aJ aQ aR aU aV aX
theorem lM(x:Nat)(r:Nat)(w:World)(hx:x<18446744073709551616)(hr:canonB x=r):
  Calls prog 42 #[.float .f64 x] w fun e w'=>e=.returned (.float .f64 r)/\w'=w:=by
 subst hr;exact bO x w hx
end
section
open Go.RowKit Tf
attribute [local go_sem] aI aJ aQ aR aU aV aX
theorem add_any{P:Program}(w:World)(s q x y:Nat)(h:IsQ s q)(k:IsQ x y): ∃r n,(∀t,(binOp .add t (.float .f64 s) (.float .f64 x)).run P w=.ok (.float .f64 r) (w.drewN n))/\IsQ r (plB q y):=by
 cases e:Ieee.double.add s x with
 | none=>exact⟨nanOf w s x,1,fun t=>lJ w t s x e,h.nan k e (dV _ _ _) (dC _ _ _)⟩
 | some r=>exact⟨r,0,fun t=>run_float_arith w .add t .f64 s x r e,h.add k e⟩
theorem pY(x:Nat)(hx:x<18446744073709551616):feq x x= !isN x:=by
 rw[fO x x hx hx]
 cases isN x<;>simp
theorem iX(x q:Nat)(w:World)(h:IsQ x q):
  Calls prog 75 #[.float .f64 x] w fun e w'=>e=.returned (.float .f64 q)/\w'=w:=by
 obtain⟨h1,h2⟩:=h
 have C:=hid (fun w=>lM x _ w h1 rfl)
 have hf:=pY x h1
 cases hN:isN x
 ·rw[hN]at hf
  rw[cA hN]at h2
  subst h2
  clear hN h1
  go_enter func75,ntmps75
  go_wp2
  go_ret
  exact⟨rfl,rfl⟩
 ·rw[hN]at hf
  have hc:canonB x=q:=by rw[<- h2,qB_N hN];unfold canonB;rw[hN];rfl
  rw[hc]at C
  clear hN h1 h2 hc
  go_enter func75,ntmps75
  go_wp2_with fail
  refine(C.out _).mono ?_
  rintro e w' ⟨rfl,rfl⟩
  go_wp2
  go_ret
  exact⟨rfl,rfl⟩
def IsFl(w:World)(a0:Option Addr)(len:Nat)(xs:Nat->Nat):Prop:= ∀k,k<len->xs k<18446744073709551616/\ ∃b o,a0=some ⟨b,o,none⟩/\b<w.heap.size/\w.cell? ⟨b,o+k,none⟩=some (.float .f64 (xs k))
theorem IsFl.below{w w':World}{a0:Option Addr}{len:Nat}{xs:Nat->Nat}(h:IsFl w a0 len xs)(hb:Below w.heap.size w w'):IsFl w' a0 len xs:=by
 intro k hk
 obtain⟨h1,b,o,h2,h3,h4⟩:=h k hk
 exact⟨h1,b,o,h2,Nat.lt_of_lt_of_le h3 hb.size,by rw[hb.cell (p:=⟨b,o+k,none⟩) h3];exact h4⟩
theorem lN(a0:Option Addr)(cap:Nat)(w:World):
  Calls prog 69 #[.slice a0 0 cap] w fun e w'=>e=.returned (.float .f64 0)/\w'=w:=by
 go_enter func69,ntmps69
 go_wp2
 go_ret
 exact⟨rfl,rfl⟩
theorem nF(b o cap x q:Nat)(w:World)(_hcap:(1:Int)<=cap)(_hl:(cap:Int)<=9223372036854775807)(h0:w.cell? ⟨b,o,none⟩=some (.float .f64 x))(hx:Hid (IsQ x q)):
  Calls prog 69 #[.slice (some ⟨b,o,none⟩) 1 cap] w fun e w'=>e=.returned (.float .f64 q)/\ ∃k,w'=w.drewN k:=by
 have C:=hid (fun w=>iX x q w hx.out)
 clear hx
 by_cases hc:cap=1
 ·go_enter func69,ntmps69
  go_wp2
  go_loopw [3,15] (fun sv iv wr=>sv=.float .f64 x/\iv=.int .i64 0/\wr=w) (fun _ _ _=>0)
  case atStart=>exact⟨rfl,rfl,rfl⟩
  case round=>
   obtain⟨rfl,rfl,rfl⟩:=hrel
   go_wp2_with fail
   refine(C.out _).mono ?_
   rintro e w' ⟨rfl,rfl⟩
   go_wp2
   go_ret
   exact⟨rfl,0,rfl⟩
 ·go_enter func69,ntmps69
  go_wp2
  go_loopw [3,15] (fun sv iv wr=>sv=.float .f64 x/\iv=.int .i64 0/\wr=w) (fun _ _ _=>0)
  case atStart=>exact⟨rfl,rfl,rfl⟩
  case round=>
   obtain⟨rfl,rfl,rfl⟩:=hrel
   go_wp2_with fail
   refine(C.out _).mono ?_
   rintro e w' ⟨rfl,rfl⟩
   go_wp2
   go_ret
   exact⟨rfl,0,rfl⟩
theorem lO(b o n cap:Nat)(xs:Nat->Nat)(w:World)(hn:1<=n)(hcap:(n:Int)+1<=cap)(hl:(cap:Int)<=9223372036854775807)(h:Hid (IsFl w (some ⟨b,o,none⟩) (n+1) xs)):
  Calls prog 69 #[.slice (some ⟨b,o,none⟩) (n+1:Nat) cap] w fun e w'=>e=.returned (.float .f64 (lfF xs n))/\ ∃k,w'=w.drewN k:=by
 have hc1: ¬cap=1:=by omega
 have cells: ∀k,k<n+1-> ∀j,(w.drewN j).cell? ⟨b,o+k,none⟩=some (.float .f64 (xs k)):=by
  intro k hk j
  obtain⟨_,b',o',e,_,h3⟩:=h.out k hk
  cases e;exact h3
 have h0:w.cell? ⟨b,o,none⟩=some (.float .f64 (xs 0)):=cells 0 (by omega) 0
 have HC:=hid cells
 obtain⟨x0,hx0⟩:=aB (xs 0)
 rw[hx0]at h0
 have HX:=hid hx0
 have C:=hid (fun x q w=>iX x q w)
 clear cells hx0
 go_enter func69,ntmps69
 go_wp2
 go_loopw [3,15] (fun sv iv wr=> ∃k s j:Nat,k<=n/\sv=.float .f64 s/\iv=.int .i64 (k:Nat)/\wr=w.drewN j/\Hid (IsQ s (lfF xs k))) (fun _ iv _=>n - (intOf iv).toNat)
 case atStart=>exact⟨0,x0,0,by omega,rfl,rfl,rfl,by rw[<- HX.out];exact IsQ.self (h.out 0 (by omega)).1⟩
 case round=>
  obtain⟨k,s,j,hk,rfl,rfl,rfl,hq⟩:=hrel
  by_cases hlt:k<n
  ·have cn:=HC.out (k+1) (by omega) j
   have cn':(w.drewN j).cell? ⟨b,o+1+k,none⟩=some (.float .f64 (xs (k+1))):=by rw[show o+1+k=o+(k+1)by omega];exact cn
   obtain⟨r,m,hr,hrq⟩:=add_any (P:=prog) (w.drewN j) s _ (xs (k+1)) _ hq.out (IsQ.self (h.out (k+1) (by omega)).1)
   rw[nD]at hrq
   obtain⟨x,hx⟩:=aB (xs (k+1))
   rw[hx]at cn cn' hr
   have HQ:=hid hrq
   have HL:=hid hlt
   have kl:((k:Nat):Int)<n:=by omega
   clear hx hrq hlt hq hk
   go_wp2
   refine⟨⟨k+1,r,_,HL.out,rfl,by simp,rfl,HQ.out⟩,by have:=HL.out;simp[intOf];omega⟩
  ·have e:k=n:=by omega
   subst e
   have kl:decide (((k:Nat):Int)<(k:Nat))=false:=by simp
   have C':=hid (fun w=>C.out s (lfF xs k) w hq.out)
   clear C hq hlt hk
   go_wp2_with fail
   refine(C'.out _).mono ?_
   rintro e w' ⟨rfl,rfl⟩
   go_wp2
   go_ret
   exact⟨rfl,_,rfl⟩
theorem pZ(a0:Option Addr)(len cap:Nat)(xs:Nat->Nat)(w:World)(hcap:len<=cap)(hl:(cap:Int)<=9223372036854775807)(h:IsFl w a0 len xs):
  Calls prog 69 #[.slice a0 len cap] w fun e w'=>e=.returned (.float .f64 (leftB xs len))/\ ∃k,w'=w.drewN k:=by
 by_cases h0:len=0
 ·subst h0
  exact(lN a0 cap w).mono fun e w' ⟨he,hw⟩=>⟨he,0,hw⟩
 ·obtain⟨x1,b,o,rfl,_,x3⟩:=h 0 (by omega)
  have e:leftB xs len=lfF xs (len - 1):=by unfold leftB;rw[if_neg h0]
  rw[e]
  by_cases h1:len=1
  ·subst h1
   exact nF b o cap (xs 0) _ w (by omega) hl x3 (IsQ.self x1)
  ·have:=lO b o (len - 1) cap xs w (by omega) (by omega) hl (by rw[show len - 1+1=len by omega];exact h)
   rw[show len - 1+1=len by omega]at this
   exact this
end
section
open Go.RowKit Tf
attribute [local go_sem] aI aJ aQ aR aU aV aX
theorem fl_new(w:World)(T:TypeId)(c:Array Value)(xs:Nat->Nat)(n:Nat)(h: ∀k,k<n->xs k<18446744073709551616/\c[k]? =some (.float .f64 (xs k))):IsFl (w.alloc (.cells c T)) (some ⟨w.heap.size,0,none⟩) n xs:=by
 intro k hk
 refine⟨(h k hk).1,w.heap.size,0,rfl,by simp,?_⟩
 rw[Nat.zero_add]
 have:=(h k hk).2
 simp[this]
end
section
open Go.RowKit Tf
attribute [local go_sem] aI aJ aQ aR aU aV aX
theorem lP(x:Nat):placeB (mg x)=mg x+9223372036854775808:=by
 unfold placeB;rw[bI (hH x)];rfl
theorem order_mg(a b:Nat):orderB (mg a) (mg b)=if mg a<mg b then -1 else if mg b<mg a then 1 else 0:=by
 unfold orderB
 rw[lP,lP]
 by_cases h1:mg a<mg b
 ·rw[if_pos (by omega),if_pos h1]
 ·rw[if_neg (by omega),if_neg h1]
  by_cases h2:mg b<mg a
  ·rw[if_pos (by omega),if_pos h2]
  ·rw[if_neg (by omega),if_neg h2]
theorem key_lt(a b:Nat)(ha:a<18446744073709551616)(hb:b<18446744073709551616):key b<key a ↔ mg b<mg a\/(mg a=mg b/\placeB b<placeB a):=by
 have h1:=jU a ha
 have h2:=jU b hb
 have h3:=hH a
 have h4:=hH b
 unfold key placeB
 revert h1 h2
 cases ng a<;>cases ng b<;>simp<;>omega
theorem qA(a b:Nat)(r:Bool)(w:World)(ha:a<18446744073709551616)(hb:b<18446744073709551616)(hr:decide (key b<key a)=r):
  Calls prog 74 #[.float .f64 a,.float .f64 b] w fun e w'=>e=.returned (.bool r)/\w'=w:=by
 have A:=hid (fun w=>oK a w ha)
 have B:=hid (fun w=>oK b w hb)
 have h3:=hH a
 have h4:=hH b
 have O:=hid (fun o w h=>iW (mg a) (mg b) o w (by omega) (by omega) h)
 have O2:=hid (fun w=>iW a b _ w ha hb rfl)
 have hk:=key_lt a b ha hb
 have ho:=order_mg a b
 by_cases c1:mg a<mg b
 ·rw[if_pos c1]at ho
  have O':=hid (fun w=>O.out _ w ho)
  have e:r=false:=by rw[<- hr];exact decide_eq_false (fun x=>by have:=hk.1 x;omega)
  subst e
  clear O O2 hk hr ho c1 h3 h4 ha hb
  generalize mg a=ma at*
  generalize mg b=mb at*
  go_enter func74,ntmps74
  go_wp2_with fail
  refine(A.out _).mono ?_
  rintro e w' ⟨rfl,rfl⟩
  go_wp2_with fail
  refine(B.out _).mono ?_
  rintro e w' ⟨rfl,rfl⟩
  go_wp2_with fail
  refine(O'.out _).mono ?_
  rintro e w' ⟨rfl,rfl⟩
  go_wp2
  go_ret
  exact⟨rfl,rfl⟩
 by_cases c2:mg b<mg a
 ·rw[if_neg c1,if_pos c2]at ho
  have O':=hid (fun w=>O.out _ w ho)
  have e:r=true:=by rw[<- hr];exact decide_eq_true (hk.2 (.inl c2))
  subst e
  clear O O2 hk hr ho c1 c2 h3 h4 ha hb
  generalize mg a=ma at*
  generalize mg b=mb at*
  go_enter func74,ntmps74
  go_wp2_with fail
  refine(A.out _).mono ?_
  rintro e w' ⟨rfl,rfl⟩
  go_wp2_with fail
  refine(B.out _).mono ?_
  rintro e w' ⟨rfl,rfl⟩
  go_wp2_with fail
  refine(O'.out _).mono ?_
  rintro e w' ⟨rfl,rfl⟩
  go_wp2
  go_ret
  exact⟨rfl,rfl⟩
 ·rw[if_neg c1,if_neg c2]at ho
  have O':=hid (fun w=>O.out _ w ho)
  obtain⟨o,ho2⟩:=aB (orderB a b)
  have e:decide (0<o)=r:=by
   rw[<- hr,<- ho2]
   refine decide_eq_decide.2 ?_
   rw[pX,hk]
   constructor
   ·intro h;exact .inr ⟨by omega,h⟩
   ·rintro(h | h)
    ·omega
    ·exact h.2
  rw[ho2]at O2
  clear O hk hr ho c1 c2 h3 h4 ha hb ho2
  generalize mg a=ma at*
  generalize mg b=mb at*
  go_enter func74,ntmps74
  go_wp2_with fail
  refine(A.out _).mono ?_
  rintro e w' ⟨rfl,rfl⟩
  go_wp2_with fail
  refine(B.out _).mono ?_
  rintro e w' ⟨rfl,rfl⟩
  go_wp2_with fail
  refine(O'.out _).mono ?_
  rintro e w' ⟨rfl,rfl⟩
  go_wp2_with fail
  refine(O2.out _).mono ?_
  rintro e w' ⟨rfl,rfl⟩
  go_wp2
  go_ret
  exact⟨by first | rfl | (rw[<- e];try rfl) | skip,rfl⟩
theorem fU(a b:Nat)(w:World)(ha:a<18446744073709551616)(hb:b<18446744073709551616):
  Calls prog 68 #[.float .f64 a,.float .f64 b] w fun e w'=>e=.returned (.tuple #[.float .f64 (loB a b),.float .f64 (hiB a b)])/\w'=w:=by
 have B:=hid (fun w=>qA a b _ w ha hb rfl)
 unfold loB hiB
 by_cases c:key b<key a
 ·rw[if_pos c,if_pos c]
  rw[decide_eq_true c]at B
  clear c
  go_enter func68,ntmps68
  go_wp2_with fail
  refine(B.out _).mono ?_
  rintro e w' ⟨rfl,rfl⟩
  go_wp2
  go_ret2
  exact⟨rfl,rfl⟩
 ·rw[if_neg c,if_neg c]
  rw[decide_eq_false c]at B
  clear c
  go_enter func68,ntmps68
  go_wp2_with fail
  refine(B.out _).mono ?_
  rintro e w' ⟨rfl,rfl⟩
  go_wp2
  go_ret2
  exact⟨rfl,rfl⟩
theorem iY{a b:Nat}(ha:a<18446744073709551616)(hb:b<18446744073709551616):loB a b<18446744073709551616:=by unfold loB;split<;>assumption
theorem iZ{a b:Nat}(ha:a<18446744073709551616)(hb:b<18446744073709551616):hiB a b<18446744073709551616:=by unfold hiB;split<;>assumption
theorem three_go(a b c a1 b1 b2 c2 a3 b3 r:Nat)(w:World)
  (L1:Hid (∀w,Calls prog 68 #[.float .f64 a,.float .f64 b] w fun e w'=>e=.returned (.tuple #[.float .f64 a1,.float .f64 b1])/\w'=w))
  (L2:Hid (∀w,Calls prog 68 #[.float .f64 b1,.float .f64 c] w fun e w'=>e=.returned (.tuple #[.float .f64 b2,.float .f64 c2])/\w'=w))
  (L3:Hid (∀w,Calls prog 68 #[.float .f64 a1,.float .f64 b2] w fun e w'=>e=.returned (.tuple #[.float .f64 a3,.float .f64 b3])/\w'=w))
  (T:Hid (Calls prog 69 #[.slice (some ⟨w.heap.size,0,none⟩) 3 3] (w.alloc (.cells #[.float .f64 a3,.float .f64 b3,.float .f64 c2] 47)) fun e w'=>e=.returned (.float .f64 r)/\Hid (Below w.heap.size w w'))):
  Calls prog 50 #[.float .f64 a,.float .f64 b,.float .f64 c] w fun e w'=>e=.returned (.float .f64 r)/\Hid (Below w.heap.size w w'):=by
 go_enter func50,ntmps50
 go_wp2_with fail
 refine(L1.out _).mono ?_
 rintro e w' ⟨rfl,rfl⟩
 go_wp2_with fail
 refine(L2.out _).mono ?_
 rintro e w' ⟨rfl,rfl⟩
 go_wp2_with fail
 refine(L3.out _).mono ?_
 rintro e w' ⟨rfl,rfl⟩
 go_wp2_with fail
 refine T.out.mono ?_
 rintro e w' ⟨rfl,hb⟩
 go_wp2
 go_ret
 exact⟨rfl,hb⟩
theorem three_at(a b c:Nat)(w:World)(ha:a<18446744073709551616)(hb:b<18446744073709551616)(hc:c<18446744073709551616):
  Calls prog 50 #[.float .f64 a,.float .f64 b,.float .f64 c] w fun e w'=>e=.returned (.float .f64 (thB a b c))/\Hid (Below w.heap.size w w'):=by
 have l1:=iY ha hb
 have l2:=iZ ha hb
 have l3:=iY l2 hc
 have l4:=iZ l2 hc
 refine three_go a b c _ _ _ _ _ _ _ w (fun w=>fU a b w ha hb) (fun w=>fU _ c w l2 hc) (fun w=>fU _ _ w l1 l3) ?_
 have l5:=iY l1 l3
 have l6:=iZ l1 l3
 unfold thB
 generalize loB (loB a b) (loB (hiB a b) c)=u at*
 generalize hiB (loB a b) (loB (hiB a b) c)=v at*
 generalize hiB (hiB a b) c=z at*
 have hf:IsFl (w.alloc (.cells #[.float .f64 u,.float .f64 v,.float .f64 z] 47)) (some ⟨w.heap.size,0,none⟩) 3 (fun j=>if j=0 then u else if j=1 then v else z):=by
  refine fl_new w _ _ _ 3 (fun k hk=> ?_)
  rcases(show k=0\/k=1\/k=2 by omega)with rfl | rfl | rfl
  ·exact⟨l5,rfl⟩
  ·exact⟨l6,rfl⟩
  ·exact⟨l4,rfl⟩
 refine(pZ _ 3 3 _ _ (Nat.le_refl _) (by decide) hf).mono ?_
 rintro e w' ⟨he,k,rfl⟩
 refine⟨?_,below_drewN ((Below.refl _ _).alloc (Nat.le_refl _) _) k⟩
 rw[he]
 have:leftB (fun j=>if j=0 then u else if j=1 then v else z) 3=plB (plB (qB u) v) z:=rfl
 rw[this,nC]
end
section
open Go.RowKit Tf
theorem aM{P:Program}{w:World}{a:Addr}{m:Mode}(k:FloatKind)(x:Nat):(store a (.float k x) m).run P w=stored P w a (.float k x) m:=run_store P w a _ m rfl
attribute [local go_sem] aI aJ aQ aR aU aV aX aM
theorem iB(a b:Nat):Ieee.double.mul (qB a) b=Ieee.double.mul a b:=by
 cases h:isN a
 ·rw[cA h]
 ·rw[fD a b (.inl h),fD _ _ (.inl (by rw[bZ];exact h))]
theorem jW(a b:Nat):Ieee.double.mul a (qB b)=Ieee.double.mul a b:=by rw[Go.Proofs.Ytdeammhdedcjlaa.mul_comm,iB,Go.Proofs.Ytdeammhdedcjlaa.mul_comm]
theorem fI{P:Program}(w:World)(s q x y:Nat)(h:IsQ s q)(k:IsQ x y): ∃r n,(∀t,(binOp .mul t (.float .f64 s) (.float .f64 x)).run P w=.ok (.float .f64 r) (w.drewN n))/\IsQ r (mlB q y):=by
 have e0:mlB q y=mlB s x:=by unfold mlB;rw[<- h.2,<- k.2,iB,jW]
 rw[e0]
 cases e:Ieee.double.mul s x with
 | none=>exact⟨nanOf w s x,1,fun t=>lK w t s x e,dV _ _ _,by rw[lF e];exact qB_N (dC _ _ _)⟩
 | some r=>exact⟨r,0,fun t=>run_float_arith w .mul t .f64 s x r e,(hS e h.1 k.1).1,by rw[lD e];exact cA (hS e h.1 k.1).2⟩
theorem addB_q{a b c d:Nat}(hb:b<18446744073709551616)(hd:d<18446744073709551616)(h:qB a=qB c)(k:qB b=qB d):addB a (negB b)=addB c (negB d):=by
 cases h1:isN a
 ·have h2:isN c=false:=by rw[<- bZ,<- h,bZ];exact h1
  rw[cA h1,cA h2]at h
  subst h
  cases h3:isN b
  ·have h4:isN d=false:=by rw[<- bZ,<- k,bZ];exact h3
   rw[cA h3,cA h4]at k
   rw[k]
  ·have h4:isN d=true:=by rw[<- bZ,<- k,bZ];exact h3
   rw[cH (bJ _ _ (.inr (by rw[fF hb];exact h3))),cH (bJ _ _ (.inr (by rw[fF hd];exact h4)))]
 ·have h2:isN c=true:=by rw[<- bZ,<- h,bZ];exact h1
  rw[cH (bJ _ _ (.inl h1)),cH (bJ _ _ (.inl h2))]
def IsC(s q:Nat):Prop:=s<18446744073709551616/\canonB s=q
theorem gK{P:Program}(w:World)(s q x y:Nat)(h:IsQ s q)(k:IsQ x y): ∃r n,(∀t,(binOp .sub t (.float .f64 s) (.float .f64 x)).run P w=.ok (.float .f64 r) (w.drewN n))/\IsC r (sbB q y):=by
 have e0:sbB q y=addB s (negB x):=addB_q k.lt k.1 (by rw[<- h.2,qB_qB]) (by rw[<- k.2,qB_qB])
 rw[e0]
 have ea:=oI s x k.1
 cases e:Ieee.double.sub s x with
 | none=>
  refine⟨nanOf w s x,1,fun t=>lI w t s x e,dV _ _ _,?_⟩
  rw[cH (by rw[<- ea];exact e)]
  unfold canonB;rw[if_pos (dC _ _ _)]
 | some r=>
  rw[e]at ea
  exact⟨r,0,fun t=>run_float_arith w .sub t .f64 s x r e,(fQ h.1 (dA k.1) ea.symm).1,by rw[eD ea.symm]⟩
theorem lQ{P:Program}(w:World)(t:TypeId)(x y:Nat)(h:Ieee.double.div x y=none):
  (binOp .quo t (.float .f64 x) (.float .f64 y)).run P w=.ok (.float .f64 (nanOf w x y)) w.drew:=by
 have h':FloatKind.f64.format.div x y=none:=h
 simp[binOp,Op.floatArith,h',nanOf,Question.forced]
theorem div_lt{x y r:Nat}(h:Ieee.double.div x y=some r):r<18446744073709551616:=Ieee.Format.div_lt Ieee.double h
theorem fJ{P:Program}(w:World)(s x:Nat): ∃r n,(∀t,(binOp .quo t (.float .f64 s) (.float .f64 x)).run P w=.ok (.float .f64 r) (w.drewN n))/\IsC r (dvB s x):=by
 cases e:Ieee.double.div s x with
 | none=>exact⟨nanOf w s x,1,fun t=>lQ w t s x e,dV _ _ _,by rw[hU e];unfold canonB;rw[if_pos (dC _ _ _)]⟩
 | some r=>exact⟨r,0,fun t=>run_float_arith w .quo t .f64 s x r e,div_lt e,by rw[dB e]⟩
theorem sqrt_lt{x r:Nat}(h:Ieee.double.sqrt x=some r):r<18446744073709551616:=Ieee.Format.sqrt_lt Ieee.double h
theorem run_sqrt(x:Nat)(w:World): ∃r n,(callFunc 67 #[.float .f64 x]).run prog w=.ok (.value (.float .f64 r)) (w.drewN n)/\IsC r (rtB x):=by
 have e0:Extern.MathSqrt.sqrt #[.float .f64 x]=(match FloatKind.f64.format.sqrt x with | some r=>pure (.float .f64 r) | none=>do pure (.float .f64 (<- choose (.nanBits .f64 x x)))):=rfl
 rw[run_callFunc_extern (e:=Extern.MathSqrt.sqrt) func67 (by kernel_rfl) (by kernel_rfl) (by kernel_rfl) (by kernel_rfl),e0]
 cases e:Ieee.double.sqrt x with
 | none=>
  refine⟨nanOf w x x,1,?_,dV _ _ _,by rw[lH e];unfold canonB;rw[if_pos (dC _ _ _)]⟩
  have h':FloatKind.f64.format.sqrt x=none:=e
  rw[h']
  simp[nanOf,Question.forced]
  rfl
 | some r=>
  refine⟨r,0,?_,sqrt_lt e,by rw[lG e]⟩
  have h':FloatKind.f64.format.sqrt x=some r:=e
  rw[h']
  simp
  rfl
theorem fV(x:Nat)(w:World)(hx:x<18446744073709551616):
  Calls prog 51 #[.float .f64 x] w fun e w'=> ∃r n,e=.returned (.float .f64 r)/\w'=w.drewN n/\IsQ r (sqB x):=by
 obtain⟨r,n,hr,hq⟩:=fI (P:=prog) w x _ x _ (IsQ.self hx) (IsQ.self hx)
 have HQ:Hid (IsQ r (sqB x)):=by unfold sqB mlB;rw[<- iB,<- jW];exact hq
 clear hq hx
 go_enter func51,ntmps51
 go_wp2
 go_ret
 exact⟨r,n,rfl,rfl,HQ.out⟩
theorem jX(x y u v:Nat)(w:World)(hx:x<18446744073709551616)(hy:y<18446744073709551616)(hu:u<18446744073709551616)(hv:v<18446744073709551616):
  Calls prog 53 #[.float .f64 x,.float .f64 y,.float .f64 u,.float .f64 v] w fun e w'=> ∃r n,e=.returned (.float .f64 r)/\w'=w.drewN n/\IsC r (sbB (mlB x v) (mlB y u)):=by
 obtain⟨p,n,hp,pq⟩:=fI (P:=prog) w x _ v _ (IsQ.self hx) (IsQ.self hv)
 obtain⟨q,m,hq,qq⟩:=fI (P:=prog) (w.drewN n) y _ u _ (IsQ.self hy) (IsQ.self hu)
 obtain⟨r,l,hr,rr⟩:=gK (P:=prog) (w.drewN (n+m)) p _ q _ pq qq
 rw[World.drewN_drewN]at hq hr
 have HQ:Hid (IsC r (sbB (mlB x v) (mlB y u))):=by
  have e1:mlB x v=mlB (qB x) (qB v):=by unfold mlB;rw[iB,jW]
  have e2:mlB y u=mlB (qB y) (qB u):=by unfold mlB;rw[iB,jW]
  rw[e1,e2];exact rr
 clear pq qq rr hx hy hu hv
 go_enter func53,ntmps53
 go_wp2
 go_ret
 exact⟨r,_,rfl,rfl,HQ.out⟩
theorem sqrt_at(x:Nat)(w:World):
  Calls prog 49 #[.float .f64 x] w fun e w'=> ∃r n,e=.returned (.float .f64 r)/\w'=w.drewN n/\IsC r (rtB x):=by
 obtain⟨r,n,hr,hq⟩:=run_sqrt x w
 have HQ:=hid hq
 clear hq
 go_enter func49,ntmps49
 go_wp2
 go_ret
 exact⟨r,n,rfl,rfl,HQ.out⟩
theorem fW(x y z a b c:Nat)(w:World)(hx:IsC x a)(hy:IsC y b)(hz:IsC z c):
  Calls prog 52 #[.float .f64 x,.float .f64 y,.float .f64 z] w fun e w'=>e=.returned (.agg #[.float .f64 a,.float .f64 b,.float .f64 c])/\Below w.heap.size w w':=by
 obtain⟨x1,x2⟩:=hx
 obtain⟨y1,y2⟩:=hy
 obtain⟨z1,z2⟩:=hz
 have CX:Hid (∀w,Calls prog 42 #[.float .f64 x] w fun e w'=>e=.returned (.float .f64 a)/\w'=w):=fun w=>by rw[<- x2];exact bO x w x1
 have CY:Hid (∀w,Calls prog 42 #[.float .f64 y] w fun e w'=>e=.returned (.float .f64 b)/\w'=w):=fun w=>by rw[<- y2];exact bO y w y1
 have CZ:Hid (∀w,Calls prog 42 #[.float .f64 z] w fun e w'=>e=.returned (.float .f64 c)/\w'=w):=fun w=>by rw[<- z2];exact bO z w z1
 have A0:=hid (bl1 w (.cells #[.float .f64 0,.float .f64 0,.float .f64 0] 72))
 have r0:=heap_alloc_new w (.cells #[.float .f64 0,.float .f64 0,.float .f64 0] 72)
 have R0:=hid r0
 clear x1 x2 y1 y2 z1 z2 r0
 go_enter func52,ntmps52
 go_wp2_with fail
 refine(CX.out _).mono ?_
 rintro e W ⟨rfl,hW⟩
 have r1:W.heap[w.heap.size]? =some (.cells #[.float .f64 0,.float .f64 0,.float .f64 0] 72):=by rw[hW];exact R0.out
 have A1:Hid (Ab w W):=by rw[hW];exact A0.out
 obtain⟨⟨o0,o1,o2⟩,o3,o4,o5⟩:=rowfacts r1
 have R1:=hid r1
 clear hW r1 A0 R0
 go_wp2_with fail
 refine(CY.out _).mono ?_
 rintro e W ⟨rfl,rfl⟩
 go_wp2_with fail
 refine(CZ.out _).mono ?_
 rintro e W ⟨rfl,rfl⟩
 go_wp2
 refine bodyPost_ret ?_ rfl ⟨rfl,?_⟩
 ·exact results_cell_row results52 _ _ w.heap.size _ _ (0,0) _ rfl (row3 R1.out) underlying72 rfl (by kernel_rfl)
 ·exact((Ab.setk A1.out (Nat.le_refl _) _).setk (Nat.le_refl _) _).setk (Nat.le_refl _) _
end
section
open Go.RowKit Tf
attribute [local go_sem] aI aJ aQ aR aU aV aX aM
theorem sbB_q{a b:Nat}(hb:b<18446744073709551616):sbB (qB a) (qB b)=sbB a b:=addB_q (qB_lt hb) hb (qB_qB a) (qB_qB b)
theorem Abx.drewN{W w:World}{g n:Nat}{T:TypeId}(h:Abx W g n T w)(k:Nat):Abx W g n T (w.drewN k):=h
theorem W3rows(w:World)(A B C:Obj):(((w.alloc A).alloc B).alloc C).heap[w.heap.size]? =some A/\(((w.alloc A).alloc B).alloc C).heap[w.heap.size+1]? =some B/\(((w.alloc A).alloc B).alloc C).heap[w.heap.size+1+1]? =some C:=by
 refine⟨?_,?_,gF _ _ _ _⟩
 ·rw[Below.heap_alloc _ _ _ (by simp;omega)];exact heap_alloc2_old _ _ _
 ·rw[Below.heap_alloc _ _ _ (by simp)];exact heap_alloc2_new _ _ _
theorem minus_at(x y z u v t:Nat)(w:World)(hx:x<18446744073709551616)(hy:y<18446744073709551616)(hz:z<18446744073709551616)(hu:u<18446744073709551616)(hv:v<18446744073709551616)(ht:t<18446744073709551616):
  Calls prog 39 #[.agg #[.float .f64 x,.float .f64 y,.float .f64 z],.agg #[.float .f64 u,.float .f64 v,.float .f64 t]] w fun e w'=>e=.returned (.agg #[.float .f64 (sbB x u),.float .f64 (sbB y v),.float .f64 (sbB z t)])/\Below w.heap.size w w':=by
 obtain⟨r1,n1,k1,q1⟩:=gK (P:=prog) (((w.alloc (.cells #[.float .f64 x,.float .f64 y,.float .f64 z] 72)).alloc (.cells #[.float .f64 u,.float .f64 v,.float .f64 t] 72)).alloc (.cells #[.float .f64 0,.float .f64 0,.float .f64 0] 72)) x _ u _ (IsQ.self hx) (IsQ.self hu)
 obtain⟨r2,n2,k2,q2⟩:=gK (P:=prog) ((((w.alloc (.cells #[.float .f64 x,.float .f64 y,.float .f64 z] 72)).alloc (.cells #[.float .f64 u,.float .f64 v,.float .f64 t] 72)).alloc (.cells #[.float .f64 0,.float .f64 0,.float .f64 0] 72)).drewN n1) y _ v _ (IsQ.self hy) (IsQ.self hv)
 obtain⟨r3,n3,k3,q3⟩:=gK (P:=prog) ((((w.alloc (.cells #[.float .f64 x,.float .f64 y,.float .f64 z] 72)).alloc (.cells #[.float .f64 u,.float .f64 v,.float .f64 t] 72)).alloc (.cells #[.float .f64 0,.float .f64 0,.float .f64 0] 72)).drewN (n1+n2)) z _ t _ (IsQ.self hz) (IsQ.self ht)
 rw[World.drewN_drewN]at k2 k3
 rw[sbB_q hu]at q1
 rw[sbB_q hv]at q2
 rw[sbB_q ht]at q3
 have CN:=hid (fun w=>fW r1 r2 r3 _ _ _ w q1 q2 q3)
 have A0:=hid (bl3 w (.cells #[.float .f64 x,.float .f64 y,.float .f64 z] 72) (.cells #[.float .f64 u,.float .f64 v,.float .f64 t] 72) (.cells #[.float .f64 0,.float .f64 0,.float .f64 0] 72))
 have R0:=hid (W3rows w (.cells #[.float .f64 x,.float .f64 y,.float .f64 z] 72) (.cells #[.float .f64 u,.float .f64 v,.float .f64 t] 72) (.cells #[.float .f64 0,.float .f64 0,.float .f64 0] 72))
 clear q1 q2 q3 hx hy hz hu hv ht
 go_enter func39,ntmps39
 go_wp2_with fail
 refine(CN.out _).mono ?_
 rintro e w4 ⟨rfl,b4⟩
 have A4:Hid (Ab w w4):=Ab.call (Ab.drewN A0.out _) b4
 have r0:w4.heap[w.heap.size+1+1]? =some (.cells #[.float .f64 0,.float .f64 0,.float .f64 0] 72):=Ab.heap b4 R0.out.2.2
 obtain⟨⟨o0,o1,o2⟩,o3,o4,o5⟩:=rowfacts r0
 have R4:=hid r0
 clear r0 b4 A0 R0 k1 k2 k3
 go_wp2
 refine bodyPost_ret ?_ rfl ⟨rfl,?_⟩
 ·exact results_cell_row results39 _ _ (w.heap.size+1+1) _ _ (0,0) _ rfl (row3 R4.out) underlying72 rfl (by kernel_rfl)
 ·exact((Ab.setk A4.out (by omega) _).setk (by omega) _).setk (by omega) _
theorem cross_at(x y z u v t:Nat)(w:World)(hx:x<18446744073709551616)(hy:y<18446744073709551616)(hz:z<18446744073709551616)(hu:u<18446744073709551616)(hv:v<18446744073709551616)(ht:t<18446744073709551616):
  Calls prog 38 #[.agg #[.float .f64 x,.float .f64 y,.float .f64 z],.agg #[.float .f64 u,.float .f64 v,.float .f64 t]] w fun e w'=>e=.returned (.agg #[.float .f64 (sbB (mlB y t) (mlB z v)),.float .f64 (sbB (mlB z u) (mlB x t)),.float .f64 (sbB (mlB x v) (mlB y u))])/\Below w.heap.size w w':=by
 obtain⟨c0,hc0⟩:=aB (sbB (mlB y t) (mlB z v))
 obtain⟨c1,hc1⟩:=aB (sbB (mlB z u) (mlB x t))
 obtain⟨c2,hc2⟩:=aB (sbB (mlB x v) (mlB y u))
 rw[hc0,hc1,hc2]
 have T0:Hid (∀u0,Calls prog 53 #[.float .f64 y,.float .f64 z,.float .f64 v,.float .f64 t] u0 fun e w'=> ∃r n,e=.returned (.float .f64 r)/\w'=u0.drewN n/\Hid (IsC r c0)):=fun u0=>by rw[<- hc0];exact jX y z v t u0 hy hz hv ht
 have T1:Hid (∀u0,Calls prog 53 #[.float .f64 z,.float .f64 x,.float .f64 t,.float .f64 u] u0 fun e w'=> ∃r n,e=.returned (.float .f64 r)/\w'=u0.drewN n/\Hid (IsC r c1)):=fun u0=>by rw[<- hc1];exact jX z x t u u0 hz hx ht hu
 have T2:Hid (∀u0,Calls prog 53 #[.float .f64 x,.float .f64 y,.float .f64 u,.float .f64 v] u0 fun e w'=> ∃r n,e=.returned (.float .f64 r)/\w'=u0.drewN n/\Hid (IsC r c2)):=fun u0=>by rw[<- hc2];exact jX x y u v u0 hx hy hu hv
 have CN:=hid (fun r1 r2 r3 w (q1:IsC r1 c0) (q2:IsC r2 c1) (q3:IsC r3 c2)=>fW r1 r2 r3 _ _ _ w q1 q2 q3)
 have A0:=hid (bl3 w (.cells #[.float .f64 x,.float .f64 y,.float .f64 z] 72) (.cells #[.float .f64 u,.float .f64 v,.float .f64 t] 72) (.cells #[.float .f64 0,.float .f64 0,.float .f64 0] 72))
 have R0:=hid (W3rows w (.cells #[.float .f64 x,.float .f64 y,.float .f64 z] 72) (.cells #[.float .f64 u,.float .f64 v,.float .f64 t] 72) (.cells #[.float .f64 0,.float .f64 0,.float .f64 0] 72))
 clear hx hy hz hu hv ht hc0 hc1 hc2
 go_enter func38,ntmps38
 go_upto_region 1 with fail
 generalize hW:World.alloc _ _=W
 have AW:Hid (Ab w W):=by rw[<- hW];exact A0.out
 have ra:W.heap[w.heap.size]? =some (.cells #[.float .f64 x,.float .f64 y,.float .f64 z] 72):=by rw[<- hW];exact R0.out.1
 have rb:W.heap[w.heap.size+1]? =some (.cells #[.float .f64 u,.float .f64 v,.float .f64 t] 72):=by rw[<- hW];exact R0.out.2.1
 have rc:W.heap[w.heap.size+1+1]? =some (.cells #[.float .f64 0,.float .f64 0,.float .f64 0] 72):=by rw[<- hW];exact R0.out.2.2
 have KS:Hid (∀w',Abx W (w.heap.size+1+1) 3 72 w'->Abx W (w.heap.size+1+1) 3 72 w'/\w'.cell? ⟨w.heap.size,0,none⟩=some (.float .f64 x)/\w'.cell? ⟨w.heap.size,1,none⟩=some (.float .f64 y)/\w'.cell? ⟨w.heap.size,2,none⟩=some (.float .f64 z)/\w'.cell? ⟨w.heap.size+1,0,none⟩=some (.float .f64 u)/\w'.cell? ⟨w.heap.size+1,1,none⟩=some (.float .f64 v)/\w'.cell? ⟨w.heap.size+1,2,none⟩=some (.float .f64 t)/\w'.frozen? ⟨w.heap.size+1+1,0,none⟩=false/\w'.frozen? ⟨w.heap.size+1+1,1,none⟩=false/\w'.frozen? ⟨w.heap.size+1+1,2,none⟩=false/\w'.cell? ⟨w.heap.size+1+1,0,none⟩=some (rv w' (w.heap.size+1+1) 0)/\w'.cell? ⟨w.heap.size+1+1,1,none⟩=some (rv w' (w.heap.size+1+1) 1)/\w'.cell? ⟨w.heap.size+1+1,2,none⟩=some (rv w' (w.heap.size+1+1) 2)):=by
  intro w' hw
  obtain⟨-,p3,p4,p5⟩:=rowfacts (hw.heap (by omega) ra)
  obtain⟨-,p6,p7,p8⟩:=rowfacts (hw.heap (by omega) rb)
  exact⟨hw,p3,p4,p5,p6,p7,p8,hw.free 0,hw.free 1,hw.free 2,hw.some (by omega),hw.some (by omega),hw.some (by omega)⟩
 have A1:Abx W (w.heap.size+1+1) 3 72 W:=(Ab.refl W).x rfl rc
 clear ra rb rc hW A0 R0
 go_region_held3 (fun w'=>Abx W (w.heap.size+1+1) 3 72 w'/\w'.cell? ⟨w.heap.size,0,none⟩=some (.float .f64 x)/\w'.cell? ⟨w.heap.size,1,none⟩=some (.float .f64 y)/\w'.cell? ⟨w.heap.size,2,none⟩=some (.float .f64 z)/\w'.cell? ⟨w.heap.size+1,0,none⟩=some (.float .f64 u)/\w'.cell? ⟨w.heap.size+1,1,none⟩=some (.float .f64 v)/\w'.cell? ⟨w.heap.size+1,2,none⟩=some (.float .f64 t)/\w'.frozen? ⟨w.heap.size+1+1,0,none⟩=false/\w'.frozen? ⟨w.heap.size+1+1,1,none⟩=false/\w'.frozen? ⟨w.heap.size+1+1,2,none⟩=false/\w'.cell? ⟨w.heap.size+1+1,0,none⟩=some (rv w' (w.heap.size+1+1) 0)/\w'.cell? ⟨w.heap.size+1+1,1,none⟩=some (rv w' (w.heap.size+1+1) 1)/\w'.cell? ⟨w.heap.size+1+1,2,none⟩=some (rv w' (w.heap.size+1+1) 2)) ((refine KS.out _ ?_;(with_reducible (repeat(first | assumption | apply Abx.drew | apply Abx.drewN | apply Abx.set | (refine Abx.call ?_ (by assumption)))));done)) (first
  | (go_at_call 53;have hh:=q2.out;refine(T2.out _).mono ?_;rintro e w3 ⟨r3,n3,rfl,rfl,q3⟩)
  | (go_at_call 53;have hh:=q1.out;refine(T1.out _).mono ?_;rintro e w2 ⟨r2,n2,rfl,rfl,q2⟩)
  | (go_at_call 53;refine(T0.out _).mono ?_;rintro e w1 ⟨r1,n1,rfl,rfl,q1⟩)
  | (go_at_call 52;refine(CN.out _ _ _ _ q1.out q2.out q3.out).mono ?_;rintro e w4 ⟨rfl,b4⟩))
 have A2:Abx W (w.heap.size+1+1) 3 72 w4:=Abx.call (A1.drewN _) b4
 clear KS A1 b4
 go_wp2
 refine bodyPost_ret ?_ rfl ⟨rfl,?_⟩
 ·exact results_cell_row results38 _ _ (w.heap.size+1+1) _ _ (0,0) _ rfl (set3 A2) underlying72 rfl (by kernel_rfl)
 ·exact(((A2.set 0 _).set 1 _).set 2 _).ab AW.out (by omega)
theorem jA(x y z:Nat)(w:World)(hx:x<18446744073709551616)(hy:y<18446744073709551616)(hz:z<18446744073709551616):
  Calls prog 37 #[.agg #[.float .f64 x,.float .f64 y,.float .f64 z]] w fun e w'=>e=.returned (.float .f64 (lnB x y z))/\Below w.heap.size w w':=by
 obtain⟨T,hT⟩:=aB (thB (sqB x) (sqB y) (sqB z))
 obtain⟨l,hl⟩:=aB (lnB x y z)
 have hlT:rtB T=l:=by rw[<- hT,<- hl];rfl
 rw[hl]
 have TH:Hid (∀r1 r2 r3 u0,IsQ r1 (sqB x)->IsQ r2 (sqB y)->IsQ r3 (sqB z)->Calls prog 50 #[.float .f64 r1,.float .f64 r2,.float .f64 r3] u0 fun e w'=>e=.returned (.float .f64 T)/\Below u0.heap.size u0 w'):=fun r1 r2 r3 u0 q1 q2 q3=>by
  rw[<- hT,<- q1.2,<- q2.2,<- q3.2,<- thB_q]
  exact three_at r1 r2 r3 u0 q1.1 q2.1 q3.1
 have T0:Hid (∀u0,Calls prog 51 #[.float .f64 x] u0 fun e w'=> ∃r n,e=.returned (.float .f64 r)/\w'=u0.drewN n/\Hid (IsQ r (sqB x))):=fun u0=>fV x u0 hx
 have T1:Hid (∀u0,Calls prog 51 #[.float .f64 y] u0 fun e w'=> ∃r n,e=.returned (.float .f64 r)/\w'=u0.drewN n/\Hid (IsQ r (sqB y))):=fun u0=>fV y u0 hy
 have T2:Hid (∀u0,Calls prog 51 #[.float .f64 z] u0 fun e w'=> ∃r n,e=.returned (.float .f64 r)/\w'=u0.drewN n/\Hid (IsQ r (sqB z))):=fun u0=>fV z u0 hz
 have SQ:Hid (∀u0,Calls prog 49 #[.float .f64 T] u0 fun e w'=> ∃r n,e=.returned (.float .f64 r)/\w'=u0.drewN n/\Hid (IsC r l)):=fun u0=>by rw[<- hlT];exact sqrt_at T u0
 have CN:Hid (∀r u0,IsC r l->Calls prog 42 #[.float .f64 r] u0 fun e w'=>e=.returned (.float .f64 l)/\w'=u0):=fun r u0 q=>by rw[<- q.2];exact bO r u0 q.1
 have A0:=hid (bl1 w (.cells #[.float .f64 x,.float .f64 y,.float .f64 z] 72))
 have R0:=hid (heap_alloc_new w (.cells #[.float .f64 x,.float .f64 y,.float .f64 z] 72))
 clear hx hy hz hT hl hlT
 go_enter func37,ntmps37
 go_upto_region 1 with fail
 generalize hW:World.alloc _ _=W
 have AW:Hid (Ab w W):=by rw[<- hW];exact A0.out
 have ra:W.heap[w.heap.size]? =some (.cells #[.float .f64 x,.float .f64 y,.float .f64 z] 72):=by rw[<- hW];exact R0.out
 have KS:Hid (∀w',Ab W w'->Ab W w'/\w'.cell? ⟨w.heap.size,0,none⟩=some (.float .f64 x)/\w'.cell? ⟨w.heap.size,1,none⟩=some (.float .f64 y)/\w'.cell? ⟨w.heap.size,2,none⟩=some (.float .f64 z)):=by
  intro w' hw
  obtain⟨-,p3,p4,p5⟩:=rowfacts (hw.heap ra)
  exact⟨hw,p3,p4,p5⟩
 have A1:Ab W W:=Ab.refl W
 clear ra hW A0 R0
 go_region_held3 (fun w'=>Ab W w'/\w'.cell? ⟨w.heap.size,0,none⟩=some (.float .f64 x)/\w'.cell? ⟨w.heap.size,1,none⟩=some (.float .f64 y)/\w'.cell? ⟨w.heap.size,2,none⟩=some (.float .f64 z)) ((refine KS.out _ ?_;(with_reducible (repeat(first | assumption | apply Ab.drew | apply Ab.drewN | (refine Ab.call ?_ (by assumption)))));done)) (first
  | (go_at_call 51;have hh:=q2.out;refine(T2.out _).mono ?_;rintro e w3 ⟨r3,n3,rfl,rfl,q3⟩)
  | (go_at_call 51;have hh:=q1.out;refine(T1.out _).mono ?_;rintro e w2 ⟨r2,n2,rfl,rfl,q2⟩)
  | (go_at_call 51;refine(T0.out _).mono ?_;rintro e w1 ⟨r1,n1,rfl,rfl,q1⟩)
  | (go_at_call 50;refine(TH.out _ _ _ _ q1.out q2.out q3.out).mono ?_;rintro e w4 ⟨rfl,b4⟩)
  | (go_at_call 49;refine(SQ.out _).mono ?_;rintro e w5 ⟨r5,n5,rfl,rfl,q5⟩)
  | (go_at_call 42;refine(CN.out _ _ q5.out).mono ?_;rintro e w6 ⟨rfl,rfl⟩))
 have A2:Hid (Ab w w4):=Ab.call (Ab.drewN AW.out _) b4
 clear KS A1 b4
 go_wp2
 go_ret
 exact⟨rfl,Ab.drewN A2.out _⟩
end
section
open Go.RowKit Tf
attribute [local go_sem] aI aJ aQ aR aU aV aX aM
def lvB(l:Nat):Bool:=fgt l 0&& !fgt l 9218868437227405311
def unB(l x:Nat):Nat:=if lvB l=true then dvB x l else 0
theorem nG(l x:Nat):unB l x<18446744073709551616:=by
 unfold unB
 split
 ·unfold dvB
  split
  ·next r h=>exact hY (div_lt h)
  ·decide
 ·decide
theorem isInf_at(x:Nat)(w:World):
  Calls prog 76 #[.float .f64 x,.int .i64 1] w fun e w'=>e=.returned (.bool (fgt x 9218868437227405311))/\w'=w:=by
 go_enter func76,ntmps76
 go_wp2
 go_ret
 exact⟨rfl,rfl⟩
theorem unit_at(x y z:Nat)(w:World)(hx:x<18446744073709551616)(hy:y<18446744073709551616)(hz:z<18446744073709551616):
  Calls prog 73 #[.agg #[.float .f64 x,.float .f64 y,.float .f64 z]] w fun e w'=>e=.returned (.agg #[.float .f64 (unB (lnB x y z) x),.float .f64 (unB (lnB x y z) y),.float .f64 (unB (lnB x y z) z)])/\Below w.heap.size w w':=by
 have LN:=hid (fun w=>jA x y z w hx hy hz)
 obtain⟨l,hl⟩:=aB (lnB x y z)
 rw[hl]
 rw[hl]at LN
 have IF:=hid (fun w=>isInf_at l w)
 have A0:=hid (bl2 w (.cells #[.float .f64 x,.float .f64 y,.float .f64 z] 72) (.cells #[.float .f64 0,.float .f64 0,.float .f64 0] 72))
 have R0:=hid (And.intro (heap_alloc2_old w (.cells #[.float .f64 x,.float .f64 y,.float .f64 z] 72) (.cells #[.float .f64 0,.float .f64 0,.float .f64 0] 72)) (heap_alloc2_new w (.cells #[.float .f64 x,.float .f64 y,.float .f64 z] 72) (.cells #[.float .f64 0,.float .f64 0,.float .f64 0] 72)))
 clear hx hy hz hl
 obtain⟨p1,hp1⟩:=aB (fgt l 0)
 obtain⟨p2,hp2⟩:=aB (fgt l 9218868437227405311)
 rw[hp2]at IF
 cases p1 with
 | false=>
  have hu: ∀k,unB l k=0:=fun k=>by simp[unB,lvB,hp1]
  rw[hu,hu,hu]
  clear hu
  go_enter func73,ntmps73
  go_wp2_with fail
  refine(LN.out _).mono ?_
  rintro e w1 ⟨rfl,b1⟩
  have r0:w1.heap[w.heap.size+1]? =some (.cells #[.float .f64 0,.float .f64 0,.float .f64 0] 72):=Ab.heap b1 R0.out.2
  have A1:Hid (Ab w w1):=Ab.call A0.out b1
  obtain⟨⟨o0,o1,o2⟩,o3,o4,o5⟩:=rowfacts r0
  have R1:=hid r0
  clear r0 b1 A0 R0
  go_wp2
  refine bodyPost_ret ?_ rfl ⟨rfl,?_⟩
  ·exact results_cell_row results73 _ _ (w.heap.size+1) _ _ (0,0) _ rfl (row3 R1.out) underlying72 rfl (by kernel_rfl)
  ·exact((Ab.setk A1.out (by omega) _).setk (by omega) _).setk (by omega) _
 | true=>
  cases p2 with
  | true=>
   have hu: ∀k,unB l k=0:=fun k=>by simp[unB,lvB,hp2]
   rw[hu,hu,hu]
   clear hu hp2
   go_enter func73,ntmps73
   go_wp2_with fail
   refine(LN.out _).mono ?_
   rintro e w1 ⟨rfl,b1⟩
   have r0:w1.heap[w.heap.size+1]? =some (.cells #[.float .f64 0,.float .f64 0,.float .f64 0] 72):=Ab.heap b1 R0.out.2
   have A1:Hid (Ab w w1):=Ab.call A0.out b1
   obtain⟨⟨o0,o1,o2⟩,o3,o4,o5⟩:=rowfacts r0
   have R1:=hid r0
   clear r0 b1 A0 R0
   go_wp2_with fail
   refine(IF.out _).mono ?_
   rintro e w1 ⟨rfl,rfl⟩
   go_wp2
   refine bodyPost_ret ?_ rfl ⟨rfl,?_⟩
   ·exact results_cell_row results73 _ _ (w.heap.size+1) _ _ (0,0) _ rfl (row3 R1.out) underlying72 rfl (by kernel_rfl)
   ·exact((Ab.setk A1.out (by omega) _).setk (by omega) _).setk (by omega) _
  | false=>
   have hu: ∀k,unB l k=dvB k l:=fun k=>by simp[unB,lvB,hp1,hp2]
   rw[hu,hu,hu]
   clear hu hp2
   go_enter func73,ntmps73
   go_wp2_with fail
   refine(LN.out _).mono ?_
   rintro e w1 ⟨rfl,b1⟩
   have r0:w1.heap[w.heap.size+1]? =some (.cells #[.float .f64 0,.float .f64 0,.float .f64 0] 72):=Ab.heap b1 R0.out.2
   have ra:w1.heap[w.heap.size]? =some (.cells #[.float .f64 x,.float .f64 y,.float .f64 z] 72):=Ab.heap b1 R0.out.1
   have A1:Hid (Ab w w1):=Ab.call A0.out b1
   obtain⟨-,a0,a1,a2⟩:=rowfacts ra
   have R1:=hid r0
   obtain⟨r1,n1,k1,q1⟩:=fJ (P:=prog) w1 x l
   obtain⟨r2,n2,k2,q2⟩:=fJ (P:=prog) (w1.drewN n1) y l
   obtain⟨r3,n3,k3,q3⟩:=fJ (P:=prog) (w1.drewN (n1+n2)) z l
   rw[World.drewN_drewN]at k2 k3
   have CN:=hid (fun w=>fW r1 r2 r3 _ _ _ w q1 q2 q3)
   clear r0 ra b1 A0 R0 q1 q2 q3
   go_wp2_with fail
   refine(IF.out _).mono ?_
   rintro e w1 ⟨rfl,rfl⟩
   go_wp2_with fail
   refine(CN.out _).mono ?_
   rintro e w4 ⟨rfl,b4⟩
   have A4:Hid (Ab w w4):=Ab.call (Ab.drewN A1.out _) b4
   have r4:w4.heap[w.heap.size+1]? =some (.cells #[.float .f64 0,.float .f64 0,.float .f64 0] 72):=Ab.heap b4 R1.out
   obtain⟨⟨o0,o1,o2⟩,o3,o4,o5⟩:=rowfacts r4
   have R4:=hid r4
   clear r4 b4 A1 R1 k1 k2 k3 a0 a1 a2
   go_wp2
   refine bodyPost_ret ?_ rfl ⟨rfl,?_⟩
   ·exact results_cell_row results73 _ _ (w.heap.size+1) _ _ (0,0) _ rfl (row3 R4.out) underlying72 rfl (by kernel_rfl)
   ·exact((Ab.setk A4.out (by omega) _).setk (by omega) _).setk (by omega) _
end
section
open Go.RowKit
theorem cls(w:World): ∃(U:Type) (F:U->World),(∀u,Ab w (F u))/\(∀w',Ab w w'-> ∃u,w'=F u):=
 ⟨{u:World // Ab w u},Subtype.val,fun u=>u.2,fun w' h=>⟨⟨w',h⟩,rfl⟩⟩
theorem nH{P:Program}{id:Nat}{Q:Exit->Act->World->Prop}{a:Act}{w:World}{l:List Oper}{U:Type}(F:U->World)(hm:P.follows .mixedOrders=true)(hB:Region.lexB .any l.toArray=true)
  (hC: ∃u,w.drew=F u)
  (h:wpQuiet P l.toArray (fun w'=> ∃u,w'=F u) (fun a'=> ∀w',(∃u,w'=F u)->Q .normal a' w') l a):(Code.region id l.toArray true).wp P Q a w:=
 wp_region_quiet (C:=fun w'=> ∃u,w'=F u) hm hB hC (by simpa using h)
theorem fX{P:Program}{f:FuncId}{args:Array Value}{U:Type}{F:U->World}{u:U}{v:Value}{w0:World}(hF:Hid (∀w',Ab w0 w'-> ∃u,w'=F u))(hF1:Hid (∀u,Ab w0 (F u)))
  (h:Calls P f args (F u) fun e w'=>e=.returned v/\Below (F u).heap.size (F u) w'):Calls P f args (F u) fun e w''=>e=.returned v/\ ∃u,w''=F u:=
 h.mono fun _ _ ⟨he,hb⟩=>⟨he,hF.out _ ((hF1.out u).call hb)⟩
end
section
open Go.RowKit Tf
attribute [local go_sem] aI aJ aQ aR aU aV aX aM
open Ieee in
theorem rtB_lt(x:Nat):rtB x<18446744073709551616:=by
 cases h:Ieee.double.sqrt x with
 | none=>rw[lH h];decide
 | some r=>rw[lG h];exact hY (sqrt_lt h)
end
end Go.Proofs.Ytdeammhdedcjlaa
