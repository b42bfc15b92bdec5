/-
  Some of the texts of this proof, one behind the other.
-/
import Derived.Deep.QuietTactic
import Derived.Test.YtaphajlpbgcfjaaGreatDoorTa10
set_option maxRecDepth 100000
set_option maxHeartbeats 400000000
namespace Go.Proofs.YtaphajlpbgcfjaaGreatDoor
open _root_.Go.Proofs.Tryz
section
open Go.RowKit Tf Cu Go.Deep
attribute [local go_sem] aL aM aV aW aX aY aZ aG
namespace Ss
theorem rall20(pa pb:Option Addr)(n ca m cb:Nat)(xs ys:Nat->Nat)(w:World)(hn:n<=131072)(hm:m<=131072)(hA:IsFl w pa n xs)(hB:IsFl w pb m ys):
  Calls prog 16 #[.slice pa n ca,.slice pb m cb] w fun e w'=>e=.returned (.bool (eqL n m xs ys))/\Below w.heap.size w w':=by
 have HA:=hid hA
 have HB:=hid hB
 have HL:=hid (And.intro hn hm)
 clear hA hB hn hm
 by_cases hnm:n=m
 ·subst hnm
  have e1:((n:Int) != (n:Int))=false:=by simp
  go_enter func16,ntmps16
  go_wp2
  go_loopw [5] (fun iv wr=> ∃k:Nat,k<=n/\iv=.int .i64 (k:Nat)/\Ab w wr/\ ∀i,i<k->xs i=ys i) (fun iv _=>n - (intOf iv).toNat)
  case atStart=>exact⟨0,by omega,rfl,Ab.refl w,fun i hi=>absurd hi (Nat.not_lt_zero i)⟩
  case round=>
   obtain⟨k,hk,rfl,ar,g1⟩:=hrel
   have AR:=hid ar
   have G1:=hid g1
   clear ar g1
   by_cases hkn:k<n
   ·have HK:=hid hkn
    have kI:(k:Int)<n:=by omega
    have kB:(k:Int)<=131072:=by have:=HL.out;omega
    obtain⟨x,hx⟩:=aD (xs k)
    obtain⟨y,hy⟩:=aD (ys k)
    obtain⟨b1,o1,rfl⟩:=HA.out.some0 (show 0<n by omega)
    obtain⟨b2,o2,rfl⟩:=HB.out.some0 (show 0<n by omega)
    have X1:Hid (∀v,Ab wr v->v.cell? ⟨b1,o1+k,none⟩=some (.float .f64 x)):=fun v a=>by rw[<- hx];exact((HA.out.below (AR.out.trans a)).at0 hkn).2.2
    have X2:Hid (∀v,Ab wr v->v.cell? ⟨b2,o2+k,none⟩=some (.float .f64 y)):=fun v a=>by rw[<- hy];exact((HB.out.below (AR.out.trans a)).at0 hkn).2.2
    clear hkn hk
    by_cases q:x=y
    ·have SS:Hid (∀v,Calls prog 40 #[.float .f64 x,.float .f64 y] v fun e w'=>e=.returned (.bool true)/\Below v.heap.size v w'):=fun v=>by
      have h:=lG x y v
      rw[show sameB x y=true by unfold sameB;exact decide_eq_true q]at h
      exact h.mono fun _ _ ⟨he,hw⟩=>⟨he,by rw[hw];exact Below.refl _ _⟩
     have XE:Hid (xs k=ys k):=by show _=_;rw[hx,hy,q]
     clear hx hy q
     go_upto_region 6 with fail
     obtain⟨UU,E,hF1,hF2⟩:=cls wr
     have HU:=hid hF2
     have HU1:=hid hF1
     have y1: ∀u,(E u).cell? ⟨b1,o1+k,none⟩=some (.float .f64 x):=fun u=>X1.out _ (hF1 u)
     have y2: ∀u,(E u).cell? ⟨b2,o2+k,none⟩=some (.float .f64 y):=fun u=>X2.out _ (hF1 u)
     have DD0:=HU.out _ (Ab.refl wr).drew
     clear hF1 hF2
     refine aP E (by kernel_rfl) (by kernel_rfl) DD0 ?_
     repeat(go_big_quiet_step (first | (with_reducible rfl) | (go_at_call 40;exact aH HU HU1 (SS.out _))))
     refine wpQuiet_nil ?_
     intro z hwz
     obtain⟨u0,hu⟩:=hwz
     have A2:Hid (Ab wr z):=by rw[hu];exact HU1.out u0
     clear hu u0
     clear HU HU1 DD0 y1 y2
     clear E UU
     go_wp2
     refine⟨⟨k+1,by have:=HK.out;omega,by simp,AR.out.trans A2.out,fun i hi=> ?_⟩,by have:=HK.out;simp[intOf];omega⟩
     by_cases l:i<k
     ·exact G1.out i l
     ·obtain rfl:i=k:=by omega
      exact XE.out
    ·have SS:Hid (∀v,Calls prog 40 #[.float .f64 x,.float .f64 y] v fun e w'=>e=.returned (.bool false)/\Below v.heap.size v w'):=fun v=>by
      have h:=lG x y v
      rw[show sameB x y=false by unfold sameB;exact decide_eq_false q]at h
      exact h.mono fun _ _ ⟨he,hw⟩=>⟨he,by rw[hw];exact Below.refl _ _⟩
     have NE:Hid (eqL n n xs ys=false):=eqL_no HK.out (by rw[hx,hy];exact q)
     clear hx hy q
     go_upto_region 6 with fail
     obtain⟨UU,E,hF1,hF2⟩:=cls wr
     have HU:=hid hF2
     have HU1:=hid hF1
     have y1: ∀u,(E u).cell? ⟨b1,o1+k,none⟩=some (.float .f64 x):=fun u=>X1.out _ (hF1 u)
     have y2: ∀u,(E u).cell? ⟨b2,o2+k,none⟩=some (.float .f64 y):=fun u=>X2.out _ (hF1 u)
     have DD0:=HU.out _ (Ab.refl wr).drew
     clear hF1 hF2
     refine aP E (by kernel_rfl) (by kernel_rfl) DD0 ?_
     repeat(go_big_quiet_step (first | (with_reducible rfl) | (go_at_call 40;exact aH HU HU1 (SS.out _))))
     refine wpQuiet_nil ?_
     intro z hwz
     obtain⟨u0,hu⟩:=hwz
     have A2:Hid (Ab wr z):=by rw[hu];exact HU1.out u0
     clear hu u0
     clear HU HU1 DD0 y1 y2
     clear E UU
     go_wp2
     go_ret
     exact⟨by rw[NE.out];rfl,AR.out.trans A2.out⟩
   ·have e6:n=k:=by omega
    subst e6
    have E:Hid (eqL n n xs ys=true):=fR G1.out
    go_wp2
    go_ret
    exact⟨by rw[E.out];rfl,AR.out⟩
 ·have e1:((n:Int) != (m:Int))=true:=by simp;omega
  have E:Hid (eqL n m xs ys=false):=Gx hnm
  clear hnm
  go_enter func16,ntmps16
  go_wp2
  go_ret
  exact⟨by rw[E.out];rfl,Below.refl _ _⟩
end Ss
end
section
open Go.RowKit Go.Deep
namespace Rn
open Sh
theorem zN{ops:Array Oper}{rest:List Oper}{o:Oper}{a:Act}{w:World}{Q:Exit->Act->World->Prop}(hgd:o.guard=none)(s x:Operand)
  (ho:o.op=.call {callee:=.builtin .append,args:= #[s,x],argTypes:= #[27,27]})
  (B:Nat) (v:Value) (l:List Int) (hs:a.eval s=v) (hown:Own B v l w)
  (ad:Addr) (m c:Nat) (news:List Int) (hx:a.eval x=.slice (some ad) m c) (hl:news.length=m) (hnews: ∀j u,(news.map (Value.int .i64))[j]? =some u->w.cell? (ad.add j)=some u)
  (hm:0<m) (hlen:l.length+m<=17592186044416) (hB:B<=w.heap.size) (nm:Nat) (hnm:l.length+m=nm)
  (h: ∀g cap w',Own B (.slice (some ⟨g,0,none⟩) nm cap) (l++news) w'->w.grownBy w' v.ownBlock->(v.ownBlock=some g\/g=w.heap.size)->B<=g->wpList prog ops Q rest (a.put o.dst (.slice (some ⟨g,0,none⟩) nm cap)) w'):wpList prog ops Q (o :: rest) a w:=by
 subst hnm
 obtain⟨i0,hi,hz0,hz1,hz2⟩:=Sh.qM
 refine wpList_append_lies w hgd s x _ ho B 2 i0 (.int .i64 0) 1 8 underlying27 hi hz0 hz1 hz2 rfl (by decide) v l.length (l.map (Value.int .i64)) hs hown ad m c (news.map (Value.int .i64)) hx (by simpa using hl) hnews (fun u hu=>by
  obtain⟨y,_,rfl⟩:=List.mem_map.1 hu
  rfl) hm (by unfold maxLen;omega) (by omega) hB _ rfl ?_
 intro g cap w' o1 g1 e1 _
 have hb:B<=g:=by
  rcases o1.2 with⟨q,_⟩ | ⟨g2,_,_,q,hb,_⟩
  ·cases q
  ·injection q with q1 q2 q3
   injection q1 with q4
   injection q4 with q5
   omega
 refine h g cap w' ?_ g1 e1 hb
 unfold Own
 rw[List.length_append,List.map_append,hl]
 exact o1
theorem Iw{B:Nat}{v:Value}{l:List Int}{w:World}(h:Own B v l w)(h0:0<l.length): ∃g cap F,v=.slice (some ⟨g,0,none⟩) l.length cap/\B<=g/\l.length<=cap/\cap<=maxLen/\w.rowIs g 2 cap F/\ ∀i,i<l.length->F i=.int .i64 (l.getD i 0):=by
 rcases h.2 with⟨rfl,hz⟩ | ⟨g,cap,cur,e,hb,hg,h1,h2,h3,h4⟩
 ·omega
 ·refine⟨g,cap,fun i=>(cur[i]?).getD (.bool false),e,hb,h1,h2,⟨cur,hg,by omega,fun i hi=> ?_⟩,fun i hi=> ?_⟩
  ·have:i<cur.size:=by omega
   simp[this]
  ·have q:(cur.toList.take l.length)[i]? =(l.map (Value.int .i64))[i]? :=by
    have h4':cur.toList.take l.length=l.map (Value.int .i64):=by simpa using h4
    rw[h4']
   rw[List.getElem?_take,if_pos hi,Array.getElem?_toList]at q
   dsimp only
   rw[q]
   simp[hi,List.getD]
theorem Iy{B n:Nat}{v:Value}{x:Nat->Int}{w:World}(h:Own B v ((List.range n).map x) w)(h0:0<n): ∃g cap F,v=.slice (some ⟨g,0,none⟩) n cap/\B<=g/\n<=cap/\cap<=maxLen/\w.rowIs g 2 cap F/\ ∀i,i<n->F i=.int .i64 (x i):=by
 have e:((List.range n).map x).length=n:=by simp
 obtain⟨g,cap,F,h1,h2,h3,h4,h5,h6⟩:=Iw h (by rw[e];exact h0)
 rw[e]at h1 h3 h6
 exact⟨g,cap,F,h1,h2,h3,h4,h5,fun i hi=>by rw[h6 i hi];simp[List.getD,hi]⟩
theorem Iz{B g cap n:Nat}{F:Nat->Value}{x:Nat->Int}{w:World}(h:w.rowIs g 2 cap F)(hB:B<=g)(hn:n<=cap)(hc:cap<=maxLen)(hF: ∀i,i<n->F i=.int .i64 (x i)):Own B (.slice (some ⟨g,0,none⟩) n cap) ((List.range n).map x) w:=by
 obtain⟨c,hb,hs,hf⟩:=h
 refine⟨by simp,.inr ⟨g,cap,c,by simp,hB,hb,by simpa using hn,hc,by omega,?_⟩⟩
 apply List.ext_getElem?
 intro i
 rw[List.getElem?_take,List.length_map,List.length_range]
 by_cases hi:i<n
 ·have e:=hf i (by omega)
  rw[hF i hi]at e
  rw[if_pos (by omega)]
  rw[<- Array.getElem?_toList]at e
  rw[e]
  simp[hi]
 ·rw[if_neg (by omega),List.getElem?_eq_none (by simp;omega)]
theorem rn_skip{st:Int}{R:Nat->Int × Int × Int × Int}{X:(Nat->Int) × Int}{c:Nat}{r1 r2 r3 r4:Int}(hr:R c=(r1,r2,r3,r4))(h:st<r3\/r4<=st):rnN st R X (c+1)=rnN st R X c:=by
 show rn1 st (R c) (rnN st R X c)=_
 refine rn1_no ?_
 rw[hr]
 unfold fallB
 rcases h with h | h
 ·rw[decide_eq_false (show¬r3<=st by omega)]
  rfl
 ·rw[decide_eq_false (show¬st<r4 by omega),Bool.and_false]
theorem rn_fall{st:Int}{R:Nat->Int × Int × Int × Int}{X:(Nat->Int) × Int}{c k:Nat}{r2 r3 r4 sk x:Int}(hr:R c=((k:Int),r2,r3,r4))(h1: ¬st<r3)(h2: ¬r4<=st)(hs:(rnN st R X c).2=sk)(hx:(rnN st R X c).1 k=x):
  (rnN st R X (c+1)).2=sk - dn r2 sk x/\ ∀i,(rnN st R X (c+1)).1 i=if i=k then x+dn r2 sk x else(rnN st R X c).1 i:=by
 have f:fallB st (R c)=true:=by
  rw[hr]
  unfold fallB
  rw[decide_eq_true (show r3<=st by omega),decide_eq_true (show st<r4 by omega)]
  rfl
 have e:rnN st R X (c+1)=(fun i=>if i=k then(rnN st R X c).1 i+dn r2 sk x else(rnN st R X c).1 i,sk - dn r2 sk x):=by
  show rn1 st (R c) (rnN st R X c)=_
  unfold rn1
  rw[if_pos f,hr]
  simp only[Int.toNat_natCast,hs,hx]
 rw[e]
 refine⟨rfl,fun i=> ?_⟩
 dsimp only
 by_cases q:i=k
 ·rw[if_pos q,if_pos q,q,hx]
 ·rw[if_neg q,if_neg q]
end Rn
end
section
open Go.RowKit Tf
attribute [local go_sem] aL aM aV aW aX aY aZ
theorem qN{P:Program}(w:World)(ts:Array TypeId)(t:TypeId){a b:Nat}(ha:a<=9218868437227405312)(hb:b<=9218868437227405312):
  (Builtin.min_ ts t #[.float .f64 a,.float .f64 b]).run P w=.ok (.float .f64 (min a b)) w:=by
 have h:FloatKind.f64.format.order a b=_:=Bm ha hb
 by_cases c:a<b
 ·rw[if_pos c]at h
  simp[Builtin.min_,Builtin.min2,h]
  omega
 ·rw[if_neg c]at h
  by_cases d:b<a
  ·rw[if_pos d]at h
   simp[Builtin.min_,Builtin.min2,h]
   omega
  ·rw[if_neg d]at h
   have e:a=b:=by omega
   subst e
   simp[Builtin.min_,Builtin.min2,h]
theorem IA{P:Program}(w:World)(ts:Array TypeId)(t:TypeId){a b:Nat}(ha:a<=9218868437227405312)(hb:b<=9218868437227405312):
  (Builtin.max_ ts t #[.float .f64 a,.float .f64 b]).run P w=.ok (.float .f64 (max a b)) w:=by
 have h:FloatKind.f64.format.order a b=_:=Bm ha hb
 by_cases c:a<b
 ·rw[if_pos c]at h
  simp[Builtin.max_,Builtin.max2,h]
  omega
 ·rw[if_neg c]at h
  by_cases d:b<a
  ·rw[if_pos d]at h
   simp[Builtin.max_,Builtin.max2,h]
   omega
  ·rw[if_neg d]at h
   have e:a=b:=by omega
   subst e
   simp[Builtin.max_,Builtin.max2,h]
theorem plain_at(a b:Nat)(w:World):Calls prog 188 #[.float .f64 a,.float .f64 b] w fun e w'=>e=.returned (.float .f64 0)/\w'=w:=by
 go_enter func188,ntmps188
 go_wp2
 go_ret
 exact⟨rfl,rfl⟩
theorem IC(a b:Nat)(w:World)(ha:a<=9218868437227405312)(hb:b<=9218868437227405312):Calls prog 189 #[.float .f64 a,.float .f64 b] w fun e w'=>e=.returned (.float .f64 (min a b))/\w'=w:=by
 have h: ∀ts t,(Builtin.min_ ts t #[.float .f64 a,.float .f64 b]).run prog w=.ok (.float .f64 (min a b)) w:=fun ts t=>qN w ts t ha hb
 generalize e:min a b=m at h ⊢
 clear e ha hb
 go_enter func189,ntmps189
 go_wp2
 go_ret
 exact⟨rfl,rfl⟩
theorem BH(a b:Nat)(w:World)(ha:ps a=true)(hb:ps b=true):Calls prog 190 #[.float .f64 a,.float .f64 b] w fun e w'=>e=.returned (.float .f64 (sbee a b))/\w'=w:=by
 obtain⟨a0,a1⟩:=cJ.1 ha
 obtain⟨b0,b1⟩:=cJ.1 hb
 have fa:=(iG a1).1
 have fb:=(iG b1).1
 have h1: ∀t,(binOp .mul t (.float .f64 4611686018427387904) (.float .f64 a)).run prog w=.ok (.float .f64 (mlB 4611686018427387904 a)) w:=fun t=>run_float_arith w .mul t .f64 _ _ _ (zA (by decide) a1 (by decide) a0)
 have h2: ∀t,(binOp .mul t (.float .f64 4611686018427387904) (.float .f64 b)).run prog w=.ok (.float .f64 (mlB 4611686018427387904 b)) w:=fun t=>run_float_arith w .mul t .f64 _ _ _ (zA (by decide) b1 (by decide) b0)
 have h3: ∀ts t,(Builtin.min_ ts t #[.float .f64 (mlB 4611686018427387904 a),.float .f64 b]).run prog w=.ok (.float .f64 (min (mlB 4611686018427387904 a) b)) w:=fun ts t=>qN w ts t fa b1
 have h4: ∀ts t,(Builtin.min_ ts t #[.float .f64 a,.float .f64 (mlB 4611686018427387904 b)]).run prog w=.ok (.float .f64 (min a (mlB 4611686018427387904 b))) w:=fun ts t=>qN w ts t a1 fb
 have h5: ∀ts t,(Builtin.max_ ts t #[.float .f64 (min (mlB 4611686018427387904 a) b),.float .f64 (min a (mlB 4611686018427387904 b))]).run prog w=.ok (.float .f64 (sbee a b)) w:=fun ts t=>IA w ts t (by omega) (by omega)
 generalize mlB 4611686018427387904 a=p at*
 generalize mlB 4611686018427387904 b=q at*
 generalize min p b=u at*
 generalize min a q=v at*
 generalize sbee a b=s at*
 clear a0 a1 b0 b1 fa fb ha hb
 go_enter func190,ntmps190
 go_wp2
 go_ret
 exact⟨rfl,rfl⟩
theorem leer_at(a b:Nat)(w:World)(ha:ps a=true)(hb:ps b=true):Calls prog 191 #[.float .f64 a,.float .f64 b] w fun e w'=> ∃r,e=.returned (.float .f64 r)/\(∃n,w'=w.drewN n)/\IsC r (lr a b):=by
 obtain⟨a0,a1⟩:=cJ.1 ha
 obtain⟨b0,b1⟩:=cJ.1 hb
 have fa:=iG a1
 have L:=leer_nn a1 b1 a0 b0
 have h1: ∀t,(binOp .mul t (.float .f64 4611686018427387904) (.float .f64 a)).run prog w=.ok (.float .f64 (mlB 4611686018427387904 a)) w:=fun t=>run_float_arith w .mul t .f64 _ _ _ (zA (by decide) a1 (by decide) a0)
 have h2: ∀t,(binOp .mul t (.float .f64 (mlB 4611686018427387904 a)) (.float .f64 b)).run prog w=.ok (.float .f64 (mlB (mlB 4611686018427387904 a) b)) w:=fun t=>run_float_arith w .mul t .f64 _ _ _ (zA fa.1 b1 (by omega) b0)
 have h3: ∀t,(binOp .add t (.float .f64 a) (.float .f64 b)).run prog w=.ok (.float .f64 (plB a b)) w:=fun t=>run_float_arith w .add t .f64 _ _ _ (add_pp a1 b1)
 obtain⟨r,n,h4,hc⟩:=gV (P:=prog) w (mlB (mlB 4611686018427387904 a) b) (plB a b)
 have hc:IsC r (leer a b):=hc
 obtain⟨k1,k2⟩:=lr_le_of hc L
 have HL:=lr_le a b
 by_cases c:leer a b<9218868437227405312
 ·have e:lr a b=leer a b:=by unfold lr;rw[if_pos c]
  rw[decide_eq_true c]at k1
  have HC:Hid (IsC r (lr a b)):=by rw[e];exact hc
  generalize mlB (mlB 4611686018427387904 a) b=q at*
  generalize mlB 4611686018427387904 a=p at*
  generalize plB a b=s at*
  clear e k2 c L fa a0 a1 b0 b1 ha hb HL
  clear hc
  go_enter func191,ntmps191
  go_wp2
  go_ret
  exact⟨r,rfl,⟨n,rfl⟩,HC.out⟩
 ·have e:lr a b=0:=by unfold lr;rw[if_neg c]
  rw[decide_eq_false c]at k1
  have HC:Hid (IsC 0 (lr a b)):=by rw[e];exact⟨by decide,by decide⟩
  generalize mlB (mlB 4611686018427387904 a) b=q at*
  generalize mlB 4611686018427387904 a=p at*
  generalize plB a b=s at*
  clear e k2 c L fa a0 a1 b0 b1 ha hb HL
  clear hc
  go_enter func191,ntmps191
  go_wp2
  go_ret
  exact⟨0,rfl,⟨n,rfl⟩,HC.out⟩
theorem uC{P:Program}{w:World}{a:Addr}{m:Mode}(f:Fn)(x y:Array Value):(store a (.func f x y) m).run P w=stored P w a (.func f x y) m:=run_store P w a _ m rfl
attribute [local go_sem] uC
theorem cG(w:World):Calls prog 151 #[] w fun e w'=>e=.returned (.agg #[.func (.func 188) #[] #[],.func (.func 189) #[] #[],.func (.func 190) #[] #[],.func (.func 191) #[] #[]])/\Below w.heap.size w w':=by
 go_enter func151,ntmps151
 go_wp2
 refine bodyPost_ret ?_ rfl ⟨rfl,?_⟩
 ·exact results_cell_row results151 _ _ w.heap.size _ _ (0,0) _ rfl (heap_alloc_new w _) underlying197 rfl (by kernel_rfl)
 ·exact bl1 w _
theorem dN(k:Int)(w:World):Calls prog 101 #[.int .i64 k] w fun e w'=>e=.returned (.bool (decide (0<=k/\k<=3)))/\Below w.heap.size w w':=by
 have L:=hid (cG w)
 by_cases c:0<=k
 ·have e:decide (0<=k/\k<=3)=decide (k<4):=by by_cases d:k<4<;>simp[d]<;>omega
  rw[e]
  clear e
  go_enter func101,ntmps101
  go_wp2_with fail
  refine L.out.mono ?_
  rintro e w1 ⟨rfl,b1⟩
  go_wp2
  go_ret
  exact⟨rfl,b1⟩
 ·have e:decide (0<=k/\k<=3)=false:=decide_eq_false (by omega)
  rw[e]
  clear e
  go_enter func101,ntmps101
  go_wp2
  go_ret
  exact⟨rfl,Below.refl _ _⟩
end
section
open Go.RowKit Tf
attribute [local go_sem] aL aM aV aW aX aY aZ
theorem mQ{r x:Nat}(h:IsC r x)(hx:x<=9218868437227405312):canonB (negB r)=op x:=by
 obtain⟨h1,h2⟩:=h
 by_cases z:mg r=0
 ·have n:isN r=false:=cM.2 (by omega)
  have e:x=0:=by rw[<- h2];unfold canonB;rw[n,z];rfl
  subst e
  have m:mg (negB r)=0:=by rw[rM];exact z
  have n2:isN (negB r)=false:=cM.2 (by omega)
  unfold canonB
  rw[n2,m]
  rfl
 ·have e:r=x:=by
   unfold canonB at h2
   rw[if_neg z]at h2
   split at h2
   ·rw[<- h2]at hx;unfold quiet at hx;omega
   ·exact h2
  subst e
  exact canon_op hx
theorem IsC.refl{x:Nat}(h:x<=9218868437227405312):IsC x x:=⟨by omega,Bl h⟩
def Lim(f:Nat)(k:Int):Prop:= ∀a b w,ps a=true->ps b=true->Calls prog f #[.float .f64 a,.float .f64 b] w fun e w'=> ∃r,e=.returned (.float .f64 r)/\(∃n,w'=w.drewN n)/\IsC r (lm k a b)
theorem lim0:Lim 188 0:=by
 intro a b w ha hb
 refine(plain_at a b w).mono ?_
 rintro e w' ⟨rfl,rfl⟩
 exact⟨0,rfl,⟨0,rfl⟩,IsC.refl (by decide)⟩
theorem lim1:Lim 189 1:=by
 intro a b w ha hb
 have a1:=cJ.1 ha
 have b1:=cJ.1 hb
 refine(IC a b w a1.2 b1.2).mono ?_
 rintro e w' ⟨rfl,rfl⟩
 exact⟨_,rfl,⟨0,rfl⟩,IsC.refl (mZ 1 a1.2 b1.2)⟩
theorem lim2:Lim 190 2:=by
 intro a b w ha hb
 have a1:=cJ.1 ha
 have b1:=cJ.1 hb
 refine(BH a b w ha hb).mono ?_
 rintro e w' ⟨rfl,rfl⟩
 exact⟨_,rfl,⟨0,rfl⟩,IsC.refl (mZ 2 a1.2 b1.2)⟩
theorem lim3:Lim 191 3:=by
 intro a b w ha hb
 refine(leer_at a b w ha hb).mono ?_
 rintro e w' ⟨r,rfl,n,h⟩
 exact⟨r,rfl,n,h⟩
theorem slope_p0(a b:Nat)(w:World)(ha:a<18446744073709551616)(hb:b<18446744073709551616)(pa:ps a=true)(pb:ps b=true):Calls prog 173 #[.int .i64 0,.float .f64 a,.float .f64 b] w fun e w'=>e=.returned (.float .f64 (lm 0 a b))/\Below w.heap.size w w':=by
 have V:=hid (dN 0 w)
 have L:=hid cG
 have IX: ∀w:World,(Instr.index 197 (.agg #[.func (.func 188) #[] #[],.func (.func 189) #[] #[],.func (.func 190) #[] #[],.func (.func 191) #[] #[]]) (.int .i64 0)).run prog w=.ok (.func (.func 188) #[] #[]) w:=fun _=>by kernel_rfl
 have G:=hid lim0
 have ga:fgt a 0=true:=by rw[dQ ha];exact pa
 have gb:fgt b 0=true:=by rw[dQ hb];exact pb
 have PA:=hid pa
 have PB:=hid pb
 clear pa pb ha hb
 go_enter func173,ntmps173
 go_wp2_with fail
 refine V.out.mono ?_
 rintro e w1 ⟨rfl,b1⟩
 have B1:=hid b1
 clear b1
 go_wp2_with fail
 refine(L.out _).mono ?_
 rintro e w2 ⟨rfl,b2⟩
 have B2:=hid b2
 clear b2
 go_wp2_with fail
 refine(G.out a b _ PA.out PB.out).mono ?_
 rintro e w3 ⟨r,rfl,⟨n,rfl⟩,hr⟩
 have C:=hid (cA r (w2.drewN n) hr.1)
 have HR:=hid hr.2
 clear hr
 go_wp2_with fail
 refine C.out.mono ?_
 rintro e w4 ⟨rfl,rfl⟩
 go_wp2
 go_ret
 exact⟨iQ HR.out,Ab.drewN (Ab.trans B1.out B2.out) n⟩
theorem slope_m0(a b p q:Nat)(w:World)(ga:flt a 0=true)(gb:flt b 0=true)(ga2:fgt a 0=false)(na:Op.negFloat .f64 a=p)(nb:Op.negFloat .f64 b=q)(P:Hid (ps p=true))(Q:Hid (ps q=true)):Calls prog 173 #[.int .i64 0,.float .f64 a,.float .f64 b] w fun e w'=>e=.returned (.float .f64 (op (lm 0 p q)))/\Below w.heap.size w w':=by
 have V:=hid (dN 0 w)
 have L:=hid cG
 have IX: ∀w:World,(Instr.index 197 (.agg #[.func (.func 188) #[] #[],.func (.func 189) #[] #[],.func (.func 190) #[] #[],.func (.func 191) #[] #[]]) (.int .i64 0)).run prog w=.ok (.func (.func 188) #[] #[]) w:=fun _=>by kernel_rfl
 have G:=hid lim0
 go_enter func173,ntmps173
 go_wp2_with fail
 refine V.out.mono ?_
 rintro e w1 ⟨rfl,b1⟩
 have B1:=hid b1
 clear b1
 go_wp2_with fail
 refine(L.out _).mono ?_
 rintro e w2 ⟨rfl,b2⟩
 have B2:=hid b2
 clear b2
 go_wp2_with fail
 refine(G.out p q _ P.out Q.out).mono ?_
 rintro e w3 ⟨r,rfl,⟨n,rfl⟩,hr⟩
 have E:canonB (Op.negFloat .f64 r)=op (lm 0 p q):=by rw[bJ r hr.1];exact mQ hr (mZ 0 (cJ.1 P.out).2 (cJ.1 Q.out).2)
 have C:=cA (Op.negFloat .f64 r) (w2.drewN n) (by rw[bJ r hr.1];exact mA hr.1)
 rw[E]at C
 have C:=hid C
 clear hr E
 go_wp2_with fail
 refine C.out.mono ?_
 rintro e w4 ⟨rfl,rfl⟩
 go_wp2
 go_ret
 exact⟨rfl,Ab.drewN (Ab.trans B1.out B2.out) n⟩
theorem slope_n0(a b:Nat)(w:World)(ha:a<18446744073709551616)(hb:b<18446744073709551616)(pa:ns a=true)(pb:ns b=true):Calls prog 173 #[.int .i64 0,.float .f64 a,.float .f64 b] w fun e w'=>e=.returned (.float .f64 (op (lm 0 (a - 9223372036854775808) (b - 9223372036854775808))))/\Below w.heap.size w w':=by
 have a1:=gO.1 pa
 have b1:=gO.1 pb
 exact slope_m0 a b _ _ w (by rw[eT ha];exact pa) (by rw[eT hb];exact pb) (by rw[dQ ha];exact ps_no.2 (by omega)) (by rw[bJ a ha,lN a1.1]) (by rw[bJ b hb,lN b1.1]) (cJ.2 ⟨by omega,by omega⟩) (cJ.2 ⟨by omega,by omega⟩)
theorem slope_z0(a b:Nat)(w:World)(ha:a<18446744073709551616)(hb:b<18446744073709551616)(pa:(ps a&&ps b)=false)(pb:(ns a&&ns b)=false):Calls prog 173 #[.int .i64 0,.float .f64 a,.float .f64 b] w fun e w'=>e=.returned (.float .f64 0)/\Below w.heap.size w w':=by
 have V:=hid (dN 0 w)
 have L:=hid cG
 have IX: ∀w:World,(Instr.index 197 (.agg #[.func (.func 188) #[] #[],.func (.func 189) #[] #[],.func (.func 190) #[] #[],.func (.func 191) #[] #[]]) (.int .i64 0)).run prog w=.ok (.func (.func 188) #[] #[]) w:=fun _=>by kernel_rfl
 rw[<- dQ ha,<- dQ hb]at pa
 rw[<- eT ha,<- eT hb]at pb
 clear ha hb
 cases g1:fgt a 0<;>cases g2:flt a 0<;>rw[g1]at pa<;>rw[g2]at pb<;>(try rw[Bool.true_and]at pa)<;>(try rw[Bool.true_and]at pb)<;>(
  go_enter func173,ntmps173
  go_wp2_with fail
  refine V.out.mono ?_
  rintro e w1 ⟨rfl,b1⟩
  have B1:=hid b1
  clear b1
  go_wp2_with fail
  refine(L.out _).mono ?_
  rintro e w2 ⟨rfl,b2⟩
  have B2:=hid b2
  clear b2
  go_wp2
  go_ret
  exact⟨rfl,Ab.trans B1.out B2.out⟩)
theorem slope_p1(a b:Nat)(w:World)(ha:a<18446744073709551616)(hb:b<18446744073709551616)(pa:ps a=true)(pb:ps b=true):Calls prog 173 #[.int .i64 1,.float .f64 a,.float .f64 b] w fun e w'=>e=.returned (.float .f64 (lm 1 a b))/\Below w.heap.size w w':=by
 have V:=hid (dN 1 w)
 have L:=hid cG
 have IX: ∀w:World,(Instr.index 197 (.agg #[.func (.func 188) #[] #[],.func (.func 189) #[] #[],.func (.func 190) #[] #[],.func (.func 191) #[] #[]]) (.int .i64 1)).run prog w=.ok (.func (.func 189) #[] #[]) w:=fun _=>by kernel_rfl
 have G:=hid lim1
 have ga:fgt a 0=true:=by rw[dQ ha];exact pa
 have gb:fgt b 0=true:=by rw[dQ hb];exact pb
 have PA:=hid pa
 have PB:=hid pb
 clear pa pb ha hb
 go_enter func173,ntmps173
 go_wp2_with fail
 refine V.out.mono ?_
 rintro e w1 ⟨rfl,b1⟩
 have B1:=hid b1
 clear b1
 go_wp2_with fail
 refine(L.out _).mono ?_
 rintro e w2 ⟨rfl,b2⟩
 have B2:=hid b2
 clear b2
 go_wp2_with fail
 refine(G.out a b _ PA.out PB.out).mono ?_
 rintro e w3 ⟨r,rfl,⟨n,rfl⟩,hr⟩
 have C:=hid (cA r (w2.drewN n) hr.1)
 have HR:=hid hr.2
 clear hr
 go_wp2_with fail
 refine C.out.mono ?_
 rintro e w4 ⟨rfl,rfl⟩
 go_wp2
 go_ret
 exact⟨iQ HR.out,Ab.drewN (Ab.trans B1.out B2.out) n⟩
theorem slope_m1(a b p q:Nat)(w:World)(ga:flt a 0=true)(gb:flt b 0=true)(ga2:fgt a 0=false)(na:Op.negFloat .f64 a=p)(nb:Op.negFloat .f64 b=q)(P:Hid (ps p=true))(Q:Hid (ps q=true)):Calls prog 173 #[.int .i64 1,.float .f64 a,.float .f64 b] w fun e w'=>e=.returned (.float .f64 (op (lm 1 p q)))/\Below w.heap.size w w':=by
 have V:=hid (dN 1 w)
 have L:=hid cG
 have IX: ∀w:World,(Instr.index 197 (.agg #[.func (.func 188) #[] #[],.func (.func 189) #[] #[],.func (.func 190) #[] #[],.func (.func 191) #[] #[]]) (.int .i64 1)).run prog w=.ok (.func (.func 189) #[] #[]) w:=fun _=>by kernel_rfl
 have G:=hid lim1
 go_enter func173,ntmps173
 go_wp2_with fail
 refine V.out.mono ?_
 rintro e w1 ⟨rfl,b1⟩
 have B1:=hid b1
 clear b1
 go_wp2_with fail
 refine(L.out _).mono ?_
 rintro e w2 ⟨rfl,b2⟩
 have B2:=hid b2
 clear b2
 go_wp2_with fail
 refine(G.out p q _ P.out Q.out).mono ?_
 rintro e w3 ⟨r,rfl,⟨n,rfl⟩,hr⟩
 have E:canonB (Op.negFloat .f64 r)=op (lm 1 p q):=by rw[bJ r hr.1];exact mQ hr (mZ 1 (cJ.1 P.out).2 (cJ.1 Q.out).2)
 have C:=cA (Op.negFloat .f64 r) (w2.drewN n) (by rw[bJ r hr.1];exact mA hr.1)
 rw[E]at C
 have C:=hid C
 clear hr E
 go_wp2_with fail
 refine C.out.mono ?_
 rintro e w4 ⟨rfl,rfl⟩
 go_wp2
 go_ret
 exact⟨rfl,Ab.drewN (Ab.trans B1.out B2.out) n⟩
theorem slope_n1(a b:Nat)(w:World)(ha:a<18446744073709551616)(hb:b<18446744073709551616)(pa:ns a=true)(pb:ns b=true):Calls prog 173 #[.int .i64 1,.float .f64 a,.float .f64 b] w fun e w'=>e=.returned (.float .f64 (op (lm 1 (a - 9223372036854775808) (b - 9223372036854775808))))/\Below w.heap.size w w':=by
 have a1:=gO.1 pa
 have b1:=gO.1 pb
 exact slope_m1 a b _ _ w (by rw[eT ha];exact pa) (by rw[eT hb];exact pb) (by rw[dQ ha];exact ps_no.2 (by omega)) (by rw[bJ a ha,lN a1.1]) (by rw[bJ b hb,lN b1.1]) (cJ.2 ⟨by omega,by omega⟩) (cJ.2 ⟨by omega,by omega⟩)
theorem slope_z1(a b:Nat)(w:World)(ha:a<18446744073709551616)(hb:b<18446744073709551616)(pa:(ps a&&ps b)=false)(pb:(ns a&&ns b)=false):Calls prog 173 #[.int .i64 1,.float .f64 a,.float .f64 b] w fun e w'=>e=.returned (.float .f64 0)/\Below w.heap.size w w':=by
 have V:=hid (dN 1 w)
 have L:=hid cG
 have IX: ∀w:World,(Instr.index 197 (.agg #[.func (.func 188) #[] #[],.func (.func 189) #[] #[],.func (.func 190) #[] #[],.func (.func 191) #[] #[]]) (.int .i64 1)).run prog w=.ok (.func (.func 189) #[] #[]) w:=fun _=>by kernel_rfl
 rw[<- dQ ha,<- dQ hb]at pa
 rw[<- eT ha,<- eT hb]at pb
 clear ha hb
 cases g1:fgt a 0<;>cases g2:flt a 0<;>rw[g1]at pa<;>rw[g2]at pb<;>(try rw[Bool.true_and]at pa)<;>(try rw[Bool.true_and]at pb)<;>(
  go_enter func173,ntmps173
  go_wp2_with fail
  refine V.out.mono ?_
  rintro e w1 ⟨rfl,b1⟩
  have B1:=hid b1
  clear b1
  go_wp2_with fail
  refine(L.out _).mono ?_
  rintro e w2 ⟨rfl,b2⟩
  have B2:=hid b2
  clear b2
  go_wp2
  go_ret
  exact⟨rfl,Ab.trans B1.out B2.out⟩)
theorem slope_p2(a b:Nat)(w:World)(ha:a<18446744073709551616)(hb:b<18446744073709551616)(pa:ps a=true)(pb:ps b=true):Calls prog 173 #[.int .i64 2,.float .f64 a,.float .f64 b] w fun e w'=>e=.returned (.float .f64 (lm 2 a b))/\Below w.heap.size w w':=by
 have V:=hid (dN 2 w)
 have L:=hid cG
 have IX: ∀w:World,(Instr.index 197 (.agg #[.func (.func 188) #[] #[],.func (.func 189) #[] #[],.func (.func 190) #[] #[],.func (.func 191) #[] #[]]) (.int .i64 2)).run prog w=.ok (.func (.func 190) #[] #[]) w:=fun _=>by kernel_rfl
 have G:=hid lim2
 have ga:fgt a 0=true:=by rw[dQ ha];exact pa
 have gb:fgt b 0=true:=by rw[dQ hb];exact pb
 have PA:=hid pa
 have PB:=hid pb
 clear pa pb ha hb
 go_enter func173,ntmps173
 go_wp2_with fail
 refine V.out.mono ?_
 rintro e w1 ⟨rfl,b1⟩
 have B1:=hid b1
 clear b1
 go_wp2_with fail
 refine(L.out _).mono ?_
 rintro e w2 ⟨rfl,b2⟩
 have B2:=hid b2
 clear b2
 go_wp2_with fail
 refine(G.out a b _ PA.out PB.out).mono ?_
 rintro e w3 ⟨r,rfl,⟨n,rfl⟩,hr⟩
 have C:=hid (cA r (w2.drewN n) hr.1)
 have HR:=hid hr.2
 clear hr
 go_wp2_with fail
 refine C.out.mono ?_
 rintro e w4 ⟨rfl,rfl⟩
 go_wp2
 go_ret
 exact⟨iQ HR.out,Ab.drewN (Ab.trans B1.out B2.out) n⟩
theorem slope_m2(a b p q:Nat)(w:World)(ga:flt a 0=true)(gb:flt b 0=true)(ga2:fgt a 0=false)(na:Op.negFloat .f64 a=p)(nb:Op.negFloat .f64 b=q)(P:Hid (ps p=true))(Q:Hid (ps q=true)):Calls prog 173 #[.int .i64 2,.float .f64 a,.float .f64 b] w fun e w'=>e=.returned (.float .f64 (op (lm 2 p q)))/\Below w.heap.size w w':=by
 have V:=hid (dN 2 w)
 have L:=hid cG
 have IX: ∀w:World,(Instr.index 197 (.agg #[.func (.func 188) #[] #[],.func (.func 189) #[] #[],.func (.func 190) #[] #[],.func (.func 191) #[] #[]]) (.int .i64 2)).run prog w=.ok (.func (.func 190) #[] #[]) w:=fun _=>by kernel_rfl
 have G:=hid lim2
 go_enter func173,ntmps173
 go_wp2_with fail
 refine V.out.mono ?_
 rintro e w1 ⟨rfl,b1⟩
 have B1:=hid b1
 clear b1
 go_wp2_with fail
 refine(L.out _).mono ?_
 rintro e w2 ⟨rfl,b2⟩
 have B2:=hid b2
 clear b2
 go_wp2_with fail
 refine(G.out p q _ P.out Q.out).mono ?_
 rintro e w3 ⟨r,rfl,⟨n,rfl⟩,hr⟩
 have E:canonB (Op.negFloat .f64 r)=op (lm 2 p q):=by rw[bJ r hr.1];exact mQ hr (mZ 2 (cJ.1 P.out).2 (cJ.1 Q.out).2)
 have C:=cA (Op.negFloat .f64 r) (w2.drewN n) (by rw[bJ r hr.1];exact mA hr.1)
 rw[E]at C
 have C:=hid C
 clear hr E
 go_wp2_with fail
 refine C.out.mono ?_
 rintro e w4 ⟨rfl,rfl⟩
 go_wp2
 go_ret
 exact⟨rfl,Ab.drewN (Ab.trans B1.out B2.out) n⟩
theorem slope_n2(a b:Nat)(w:World)(ha:a<18446744073709551616)(hb:b<18446744073709551616)(pa:ns a=true)(pb:ns b=true):Calls prog 173 #[.int .i64 2,.float .f64 a,.float .f64 b] w fun e w'=>e=.returned (.float .f64 (op (lm 2 (a - 9223372036854775808) (b - 9223372036854775808))))/\Below w.heap.size w w':=by
 have a1:=gO.1 pa
 have b1:=gO.1 pb
 exact slope_m2 a b _ _ w (by rw[eT ha];exact pa) (by rw[eT hb];exact pb) (by rw[dQ ha];exact ps_no.2 (by omega)) (by rw[bJ a ha,lN a1.1]) (by rw[bJ b hb,lN b1.1]) (cJ.2 ⟨by omega,by omega⟩) (cJ.2 ⟨by omega,by omega⟩)
theorem slope_z2(a b:Nat)(w:World)(ha:a<18446744073709551616)(hb:b<18446744073709551616)(pa:(ps a&&ps b)=false)(pb:(ns a&&ns b)=false):Calls prog 173 #[.int .i64 2,.float .f64 a,.float .f64 b] w fun e w'=>e=.returned (.float .f64 0)/\Below w.heap.size w w':=by
 have V:=hid (dN 2 w)
 have L:=hid cG
 have IX: ∀w:World,(Instr.index 197 (.agg #[.func (.func 188) #[] #[],.func (.func 189) #[] #[],.func (.func 190) #[] #[],.func (.func 191) #[] #[]]) (.int .i64 2)).run prog w=.ok (.func (.func 190) #[] #[]) w:=fun _=>by kernel_rfl
 rw[<- dQ ha,<- dQ hb]at pa
 rw[<- eT ha,<- eT hb]at pb
 clear ha hb
 cases g1:fgt a 0<;>cases g2:flt a 0<;>rw[g1]at pa<;>rw[g2]at pb<;>(try rw[Bool.true_and]at pa)<;>(try rw[Bool.true_and]at pb)<;>(
  go_enter func173,ntmps173
  go_wp2_with fail
  refine V.out.mono ?_
  rintro e w1 ⟨rfl,b1⟩
  have B1:=hid b1
  clear b1
  go_wp2_with fail
  refine(L.out _).mono ?_
  rintro e w2 ⟨rfl,b2⟩
  have B2:=hid b2
  clear b2
  go_wp2
  go_ret
  exact⟨rfl,Ab.trans B1.out B2.out⟩)
theorem slope_p3(a b:Nat)(w:World)(ha:a<18446744073709551616)(hb:b<18446744073709551616)(pa:ps a=true)(pb:ps b=true):Calls prog 173 #[.int .i64 3,.float .f64 a,.float .f64 b] w fun e w'=>e=.returned (.float .f64 (lm 3 a b))/\Below w.heap.size w w':=by
 have V:=hid (dN 3 w)
 have L:=hid cG
 have IX: ∀w:World,(Instr.index 197 (.agg #[.func (.func 188) #[] #[],.func (.func 189) #[] #[],.func (.func 190) #[] #[],.func (.func 191) #[] #[]]) (.int .i64 3)).run prog w=.ok (.func (.func 191) #[] #[]) w:=fun _=>by kernel_rfl
 have G:=hid lim3
 have ga:fgt a 0=true:=by rw[dQ ha];exact pa
 have gb:fgt b 0=true:=by rw[dQ hb];exact pb
 have PA:=hid pa
 have PB:=hid pb
 clear pa pb ha hb
 go_enter func173,ntmps173
 go_wp2_with fail
 refine V.out.mono ?_
 rintro e w1 ⟨rfl,b1⟩
 have B1:=hid b1
 clear b1
 go_wp2_with fail
 refine(L.out _).mono ?_
 rintro e w2 ⟨rfl,b2⟩
 have B2:=hid b2
 clear b2
 go_wp2_with fail
 refine(G.out a b _ PA.out PB.out).mono ?_
 rintro e w3 ⟨r,rfl,⟨n,rfl⟩,hr⟩
 have C:=hid (cA r (w2.drewN n) hr.1)
 have HR:=hid hr.2
 clear hr
 go_wp2_with fail
 refine C.out.mono ?_
 rintro e w4 ⟨rfl,rfl⟩
 go_wp2
 go_ret
 exact⟨iQ HR.out,Ab.drewN (Ab.trans B1.out B2.out) n⟩
theorem slope_m3(a b p q:Nat)(w:World)(ga:flt a 0=true)(gb:flt b 0=true)(ga2:fgt a 0=false)(na:Op.negFloat .f64 a=p)(nb:Op.negFloat .f64 b=q)(P:Hid (ps p=true))(Q:Hid (ps q=true)):Calls prog 173 #[.int .i64 3,.float .f64 a,.float .f64 b] w fun e w'=>e=.returned (.float .f64 (op (lm 3 p q)))/\Below w.heap.size w w':=by
 have V:=hid (dN 3 w)
 have L:=hid cG
 have IX: ∀w:World,(Instr.index 197 (.agg #[.func (.func 188) #[] #[],.func (.func 189) #[] #[],.func (.func 190) #[] #[],.func (.func 191) #[] #[]]) (.int .i64 3)).run prog w=.ok (.func (.func 191) #[] #[]) w:=fun _=>by kernel_rfl
 have G:=hid lim3
 go_enter func173,ntmps173
 go_wp2_with fail
 refine V.out.mono ?_
 rintro e w1 ⟨rfl,b1⟩
 have B1:=hid b1
 clear b1
 go_wp2_with fail
 refine(L.out _).mono ?_
 rintro e w2 ⟨rfl,b2⟩
 have B2:=hid b2
 clear b2
 go_wp2_with fail
 refine(G.out p q _ P.out Q.out).mono ?_
 rintro e w3 ⟨r,rfl,⟨n,rfl⟩,hr⟩
 have E:canonB (Op.negFloat .f64 r)=op (lm 3 p q):=by rw[bJ r hr.1];exact mQ hr (mZ 3 (cJ.1 P.out).2 (cJ.1 Q.out).2)
 have C:=cA (Op.negFloat .f64 r) (w2.drewN n) (by rw[bJ r hr.1];exact mA hr.1)
 rw[E]at C
 have C:=hid C
 clear hr E
 go_wp2_with fail
 refine C.out.mono ?_
 rintro e w4 ⟨rfl,rfl⟩
 go_wp2
 go_ret
 exact⟨rfl,Ab.drewN (Ab.trans B1.out B2.out) n⟩
theorem slope_n3(a b:Nat)(w:World)(ha:a<18446744073709551616)(hb:b<18446744073709551616)(pa:ns a=true)(pb:ns b=true):Calls prog 173 #[.int .i64 3,.float .f64 a,.float .f64 b] w fun e w'=>e=.returned (.float .f64 (op (lm 3 (a - 9223372036854775808) (b - 9223372036854775808))))/\Below w.heap.size w w':=by
 have a1:=gO.1 pa
 have b1:=gO.1 pb
 exact slope_m3 a b _ _ w (by rw[eT ha];exact pa) (by rw[eT hb];exact pb) (by rw[dQ ha];exact ps_no.2 (by omega)) (by rw[bJ a ha,lN a1.1]) (by rw[bJ b hb,lN b1.1]) (cJ.2 ⟨by omega,by omega⟩) (cJ.2 ⟨by omega,by omega⟩)
theorem slope_z3(a b:Nat)(w:World)(ha:a<18446744073709551616)(hb:b<18446744073709551616)(pa:(ps a&&ps b)=false)(pb:(ns a&&ns b)=false):Calls prog 173 #[.int .i64 3,.float .f64 a,.float .f64 b] w fun e w'=>e=.returned (.float .f64 0)/\Below w.heap.size w w':=by
 have V:=hid (dN 3 w)
 have L:=hid cG
 have IX: ∀w:World,(Instr.index 197 (.agg #[.func (.func 188) #[] #[],.func (.func 189) #[] #[],.func (.func 190) #[] #[],.func (.func 191) #[] #[]]) (.int .i64 3)).run prog w=.ok (.func (.func 191) #[] #[]) w:=fun _=>by kernel_rfl
 rw[<- dQ ha,<- dQ hb]at pa
 rw[<- eT ha,<- eT hb]at pb
 clear ha hb
 cases g1:fgt a 0<;>cases g2:flt a 0<;>rw[g1]at pa<;>rw[g2]at pb<;>(try rw[Bool.true_and]at pa)<;>(try rw[Bool.true_and]at pb)<;>(
  go_enter func173,ntmps173
  go_wp2_with fail
  refine V.out.mono ?_
  rintro e w1 ⟨rfl,b1⟩
  have B1:=hid b1
  clear b1
  go_wp2_with fail
  refine(L.out _).mono ?_
  rintro e w2 ⟨rfl,b2⟩
  have B2:=hid b2
  clear b2
  go_wp2
  go_ret
  exact⟨rfl,Ab.trans B1.out B2.out⟩)
theorem slope_i(k:Int)(a b:Nat)(w:World)(hk:decide (0<=k/\k<=3)=false):Calls prog 173 #[.int .i64 k,.float .f64 a,.float .f64 b] w fun e w'=>e=.returned (.float .f64 0)/\Below w.heap.size w w':=by
 have V:=dN k w
 rw[hk]at V
 have V:=hid V
 clear hk
 go_enter func173,ntmps173
 go_wp2_with fail
 refine V.out.mono ?_
 rintro e w1 ⟨rfl,b1⟩
 have B1:=hid b1
 clear b1
 go_wp2
 go_ret
 exact⟨rfl,B1.out⟩
theorem BI(k:Int)(a b:Nat)(w:World)(ha:a<18446744073709551616)(hb:b<18446744073709551616):Calls prog 173 #[.int .i64 k,.float .f64 a,.float .f64 b] w fun e w'=>e=.returned (.float .f64 (slp k a b))/\Below w.heap.size w w':=by
 by_cases hk:0<=k/\k<=3
 ·have hk:k=0\/k=1\/k=2\/k=3:=by omega
  unfold slp
  cases p:(ps a&&ps b)
  ·cases n:(ns a&&ns b)
   ·rw[if_neg (by decide),if_neg (by decide)]
    rcases hk with rfl | rfl | rfl | rfl
    ·exact slope_z0 a b w ha hb p n
    ·exact slope_z1 a b w ha hb p n
    ·exact slope_z2 a b w ha hb p n
    ·exact slope_z3 a b w ha hb p n
   ·rw[if_neg (by decide),if_pos rfl]
    rw[Bool.and_eq_true]at n
    rcases hk with rfl | rfl | rfl | rfl
    ·exact slope_n0 a b w ha hb n.1 n.2
    ·exact slope_n1 a b w ha hb n.1 n.2
    ·exact slope_n2 a b w ha hb n.1 n.2
    ·exact slope_n3 a b w ha hb n.1 n.2
  ·rw[if_pos rfl]
   rw[Bool.and_eq_true]at p
   rcases hk with rfl | rfl | rfl | rfl
   ·exact slope_p0 a b w ha hb p.1 p.2
   ·exact slope_p1 a b w ha hb p.1 p.2
   ·exact slope_p2 a b w ha hb p.1 p.2
   ·exact slope_p3 a b w ha hb p.1 p.2
 ·have e:slp k a b=0:=by
   have h: ∀x y,lm k x y=0:=fun x y=>by
    unfold lm
    rw[if_neg (by omega),if_neg (by omega),if_neg (by omega)]
   unfold slp op
   rw[h,h]
   simp
  rw[e]
  exact slope_i k a b w (decide_eq_false hk)
end
section
open Go.RowKit Tf Cu Go.Deep
namespace Rv
theorem bI{w:World}{b:Nat}{o:Obj}(h:w.heap[b]? =some o):b<w.heap.size:=by
 rcases Nat.lt_or_ge b w.heap.size with h1 | h1
 ·exact h1
 ·rw[Array.getElem?_eq_none h1]at h;cases h
end Rv
end
section
open Go.RowKit Tf Cu Go.Deep
attribute [local go_sem] aL aM aV aW aX aY aZ aG
namespace Ss
theorem own_sea{M:Nat}{v:Value}{nb nw nt ns:Nat}{B:Nat->Nat}{W T:Nat->Int}{S:Nat->Nat}{sky st:Int}{w:World}(h:OwnS M v nb nw nt ns B W T S sky st w)(hB: ∀i,i<nb->B i<18446744073709551616)(hW: ∀i,i<nw->Sh.W64 (W i))(hT: ∀i,i<nt->Sh.W64 (T i))(hS: ∀i,i<ns->S i<18446744073709551616):
  ∃p1 c1 p2 c2 p3 c3 p4 c4,v=.agg #[.slice p1 nb c1,.slice p2 nw c2,.slice p3 nt c3,.slice p4 ns c4,.int .i64 sky,.int .i64 st]/\IsFl w p1 nb B/\Sh.IsI w p2 nw W/\Sh.IsI w p3 nt T/\IsFl w p4 ns S/\Sh.Own M (.slice p2 nw c2) ((List.range nw).map W) w/\Sh.Own M (.slice p3 nt c3) ((List.range nt).map T) w/\OwnG M (.slice p1 nb c1) ((List.range nb).map B) w/\OwnG M (.slice p4 ns c4) ((List.range ns).map S) w/\Dj (.slice p1 nb c1) (.slice p4 ns c4):=by
 obtain⟨v1,v2,v3,v4,rfl,o1,o2,o3,o4,d1,-⟩:=h
 have fl: ∀(u:Value) (n:Nat) (f:Nat->Nat),(∀i,i<n->f i<18446744073709551616)->OwnG M u ((List.range n).map f) w-> ∃p c,u=.slice p n c/\IsFl w p n f:=fun u n f hf o=>by
  obtain⟨p,c,e,i⟩:=o.fl (fun x hx=>by obtain⟨j,hj,rfl⟩:=List.mem_map.1 hx;exact hf j (List.mem_range.1 hj))
  rw[List.length_map,List.length_range]at e i
  exact⟨p,c,e,fun k hk=>by have:=i k hk;simpa [List.getD,hk]using this⟩
 have ii: ∀(u:Value) (n:Nat) (f:Nat->Int),(∀i,i<n->Sh.W64 (f i))->Sh.Own M u ((List.range n).map f) w-> ∃p c,u=.slice p n c/\Sh.IsI w p n f:=fun u n f hf o=>by
  obtain⟨p,c,e,i⟩:=o.in (fun x hx=>by obtain⟨j,hj,rfl⟩:=List.mem_map.1 hx;exact hf j (List.mem_range.1 hj))
  rw[List.length_map,List.length_range]at e i
  exact⟨p,c,e,fun k hk=>by have:=i k hk;simpa [List.getD,hk]using this⟩
 obtain⟨p1,c1,rfl,i1⟩:=fl v1 nb B hB o1
 obtain⟨p2,c2,rfl,i2⟩:=ii v2 nw W hW o2
 obtain⟨p3,c3,rfl,i3⟩:=ii v3 nt T hT o3
 obtain⟨p4,c4,rfl,i4⟩:=fl v4 ns S hS o4
 exact⟨p1,c1,p2,c2,p3,c3,p4,c4,rfl,i1,i2,i3,i4,o2,o3,o1,o4,d1⟩
theorem gY{M:Nat}{t:TypeId}{v:Value}{n:Nat}{l:List Value}{w:World}(h:w.ownsRow M t 1 v n l): ∃p c,v=.slice p n c:=by
 rcases h.2 with⟨q,e⟩ | ⟨g,cap,cur,q,_⟩
 ·exact⟨none,0,by rw[q,e]⟩
 ·exact⟨_,cap,q⟩
theorem kL{w:World}{p:Option Addr}{n g k:Nat}{f:Nat->Nat}(v:Value)(h:IsFl w p n f)(hp: ∀b o,p=some ⟨b,o,none⟩->b≠g):IsFl (w.setCell ⟨g,k,none⟩ v) p n f:=fun i hi=>by
 obtain⟨h1,b,o,h2,h3,h4⟩:=h i hi
 exact⟨h1,b,o,h2,by simpa [World.setCell]using h3,(World.cell?_of_block (Below.heap_setCell _ _ _ _ (hp b o h2))).trans h4⟩
theorem kO{w:World}{p:Option Addr}{n g k:Nat}{f:Nat->Int}(v:Value)(h:Sh.IsI w p n f)(hp: ∀b o,p=some ⟨b,o,none⟩->b≠g):Sh.IsI (w.setCell ⟨g,k,none⟩ v) p n f:=fun i hi=>by
 obtain⟨h1,b,o,h2,h3,h4⟩:=h i hi
 exact⟨h1,b,o,h2,by simpa [World.setCell]using h3,(World.cell?_of_block (Below.heap_setCell _ _ _ _ (hp b o h2))).trans h4⟩
end Ss
end
section
open Go.RowKit Tf Cu Go.Deep
namespace Ss
def OV(t:TypeId)(B:Nat)(v:Value)(l:List Value)(w:World):Prop:=w.ownsRow B t 1 v l.length l
theorem OV.blk{t:TypeId}{B:Nat}{v:Value}{l:List Value}{w:World}(h:OV t B v l w){k:Nat}(hk:v.ownBlock=some k):B<=k/\k<w.heap.size:=World.ownsRow.lt h k hk
theorem OV.blkeq{t:TypeId}{B:Nat}{v:Value}{l:List Value}{w w':World}(h:OV t B v l w)(e: ∀k,v.ownBlock=some k->w'.heap[k]? =w.heap[k]?):OV t B v l w':=by
 rcases h.2 with⟨q,e2⟩ | ⟨g,cap,cur,q,hb,hg,rest⟩
 ·exact⟨h.1,.inl ⟨q,e2⟩⟩
 ·exact⟨h.1,.inr ⟨g,cap,cur,q,hb,(e g (by rw[q];rfl)).trans hg,rest⟩⟩
theorem OV.to{t:TypeId}{B:Nat}{v:Value}{l:List Value}{w w':World}(h:OV t B v l w)(a:Ab w w'):OV t B v l w':=h.blkeq (fun k hk=>a.block k (h.blk hk).2)
end Ss
end
section
open Go.RowKit Tf Cu Go.Deep
attribute [local go_sem] aL aM aV aW aX aY aZ aG
namespace Ss
theorem dj_ty{t t':TypeId}{M M':Nat}{v u:Value}{l l':List Value}{w:World}(h:OV t M v l w)(k:OV t' M' u l' w)(ne:t≠t'):Dj v u:=fun b h1 h2=>by
 rcases h.2 with⟨rfl,_⟩ | ⟨g,cap,cur,rfl,_,hg,_⟩
 ·cases h1
 ·rcases k.2 with⟨rfl,_⟩ | ⟨g',cap',cur',rfl,_,hg',_⟩
  ·cases h2
  ·simp only[Value.ownBlock,Option.some.injEq]at h1 h2
   subst h1
   subst h2
   rw[hg]at hg'
   injection hg' with e
   injection e with _ e2
   exact ne e2
theorem ovF{M n:Nat}{f:Nat->Nat}{v:Value}{w:World}(h:OwnG M v ((List.range n).map f) w):OV 22 M v (((List.range n).map f).map (Value.float .f64)) w:=by
 unfold OV
 rw[List.length_map]
 exact h
theorem ovI{M n:Nat}{f:Nat->Int}{v:Value}{w:World}(h:Sh.Own M v ((List.range n).map f) w):OV 2 M v (((List.range n).map f).map (Value.int .i64)) w:=by
 unfold OV
 rw[List.length_map]
 exact h
theorem zO{M:Nat}{v:Value}{lb lw lt ls:Nat}{B:Nat->Nat}{W T:Nat->Int}{S:Nat->Nat}{sky st:Int}{w:World}(h:OwnS M v lb lw lt ls B W T S sky st w)(hB: ∀i,i<lb->B i<18446744073709551616)(hW: ∀i,i<lw->Sh.W64 (W i))(hT: ∀i,i<lt->Sh.W64 (T i))(hS: ∀i,i<ls->S i<18446744073709551616):
  ∃p1 c1 p2 c2 p3 c3 p4 c4,v=.agg #[.slice p1 lb c1,.slice p2 lw c2,.slice p3 lt c3,.slice p4 ls c4,.int .i64 sky,.int .i64 st]/\(IsFl w p1 lb B/\Sh.IsI w p2 lw W/\Sh.IsI w p3 lt T/\IsFl w p4 ls S)/\(OV 22 M (.slice p1 lb c1) (((List.range lb).map B).map (Value.float .f64)) w/\OV 2 M (.slice p2 lw c2) (((List.range lw).map W).map (Value.int .i64)) w/\OV 2 M (.slice p3 lt c3) (((List.range lt).map T).map (Value.int .i64)) w/\OV 22 M (.slice p4 ls c4) (((List.range ls).map S).map (Value.float .f64)) w)/\(Dj (.slice p1 lb c1) (.slice p2 lw c2)/\Dj (.slice p1 lb c1) (.slice p3 lt c3)/\Dj (.slice p1 lb c1) (.slice p4 ls c4)/\Dj (.slice p2 lw c2) (.slice p3 lt c3)/\Dj (.slice p2 lw c2) (.slice p4 ls c4)/\Dj (.slice p3 lt c3) (.slice p4 ls c4)):=by
 obtain⟨p1,c1,p2,c2,p3,c3,p4,c4,rfl,i1,i2,i3,i4,o2,o3,o1,o4,d14⟩:=own_sea h hB hW hT hS
 have d23:Dj (.slice p2 lw c2) (.slice p3 lt c3):=by
  obtain⟨v1,v2,v3,v4,e,-,-,-,-,-,d⟩:=h
  simp only[Value.agg.injEq,Array.mk.injEq,List.cons.injEq]at e
  rw[e.2.1,e.2.2.1]
  exact d
 exact⟨p1,c1,p2,c2,p3,c3,p4,c4,rfl,⟨i1,i2,i3,i4⟩,⟨ovF o1,ovI o2,ovI o3,ovF o4⟩,dj_ty (ovF o1) (ovI o2) (by decide),dj_ty (ovF o1) (ovI o3) (by decide),d14,d23,dj_ty (ovI o2) (ovF o4) (by decide),dj_ty (ovI o3) (ovF o4) (by decide)⟩
end Ss
end
end Go.Proofs.YtaphajlpbgcfjaaGreatDoor
