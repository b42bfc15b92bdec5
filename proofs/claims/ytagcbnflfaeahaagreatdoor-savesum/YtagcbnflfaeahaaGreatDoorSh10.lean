/-
  Some of the texts of this proof, one behind the other.
-/
import Derived.Deep.AppendSrc
import Derived.ProofKit
import Derived.OpenShut
import Derived.WalkLawsBesides
import Derived.Stop.Joined
import Derived.Carry
import Derived.Lib.SmallJoins
import Derived.Deep.SlicePairs
import Derived.Deep.Slices
import Derived.SizedLaws
import Derived.Test.YtagcbnflfaeahaaGreatDoorTie
import Derived.Test.YtagcbnflfaeahaaGreatDoorCards
import Derived.LaidMore
import Derived.Test.YtagcbnflfaeahaaGreatDoorRows
import Derived.Test.YtagcbnflfaeahaaGreatDoorSh09
set_option maxRecDepth 100000
set_option maxHeartbeats 400000000
namespace Go.Proofs.YtagcbnflfaeahaaGreatDoor
open _root_.Go.Proofs.Tryz
section
open Go.RowKit Go.Deep
namespace Sv
theorem src8{w:World}{pb:Option Addr}{L:Nat}{f:Nat->Nat}(h:Ti.IsW .u8 256 w pb L f)(cb:Nat):Src prog 1 30 (.slice pb L cb) L ((List.range L).map fun k=>Value.int .u8 ((f k:Nat):Int)) w:=by
 have one: ∀u ∈ (List.range L).map (fun k=>Value.int .u8 ((f k:Nat):Int)),u.oneCell'=true:=fun u hu=>by
  obtain⟨k,_,rfl⟩:=List.mem_map.1 hu
  rfl
 cases pb with
 | none=>
  have:L=0:=by
   rcases Nat.eq_zero_or_pos L with h0 | h0
   ·exact h0
   ·obtain⟨b,o,h2⟩:=h.some0 h0
    cases h2
  subst this
  exact Src.ofNil w underlying30 cb
 | some a=>
  refine Src.ofSlice w underlying30 a L cb _ (by simp) (fun j u hu=> ?_) one
  have hj:j<L:=by
   rcases Nat.lt_or_ge j L with h1 | h1
   ·exact h1
   ·rw[List.getElem?_eq_none (by simpa using h1)]at hu;cases hu
  obtain⟨_,b,o,h2,_,h4⟩:=h j hj
  cases h2
  simp[hj]at hu
  rw[Sh.eA,<- hu]
  exact h4
theorem lS{ops:Array Oper}{rest:List Oper}{o:Oper}{a:Act}{w:World}{Q:Exit->Act->World->Prop}(hgd:o.guard=none)(s x:Operand)
  (ho:o.op=.call {callee:=.builtin .append,args:= #[s,x],argTypes:= #[30,30]})
  (B:Nat) (v:Value) (l:List Nat) (hs:a.eval s=v) (hown:T8.Own B v l w)
  (ad:Addr) (m c:Nat) (news:List Nat) (hx:a.eval x=.slice (some ad) m c) (hl:news.length=m) (hnews: ∀j u,(news.map fun x:Nat=>Value.int .u8 (x:Int))[j]? =some u->w.cell? (ad.add j)=some u)
  (hm:0<m) (hlen:l.length+m<=1099511627776) (hB:B<=w.heap.size) (nm:Nat) (hnm:l.length+m=nm)
  (h: ∀g cap w',T8.Own B (.slice (some ⟨g,0,none⟩) nm cap) (l++news) w'->w.grownBy w' v.ownBlock->(v.ownBlock=some g\/g=w.heap.size)->B<=g->wpList prog ops Q rest (a.put o.dst (.slice (some ⟨g,0,none⟩) nm cap)) w'):wpList prog ops Q (o :: rest) a w:=by
 subst hnm
 obtain⟨i0,hi,hz⟩:=Option.map_eq_some_iff.1 Ti.fF
 simp only[Prod.mk.injEq]at hz
 obtain⟨hz0,hz1,hz2⟩:=hz
 refine wpList_append_lies w hgd s x _ ho B 5 i0 (.int .u8 0) 1 1 underlying30 hi hz0 hz1 hz2 rfl (by decide) v l.length (l.map fun x:Nat=>Value.int .u8 (x:Int)) hs hown ad m c (news.map fun x:Nat=>Value.int .u8 (x:Int)) hx (by simpa using hl) hnews (fun u hu=>by
  obtain⟨y,_,rfl⟩:=List.mem_map.1 hu
  rfl) hm (by unfold maxLen;omega) (by omega) hB _ rfl ?_
 intro g cap w' o1 g1 e1 _
 have hb:B<=g:=by
  rcases o1.2 with⟨q,_⟩ | ⟨g2,_,_,q,hb,_⟩
  ·cases q
  ·injection q with q1 q2 q3
   injection q1 with q4
   injection q4 with q5
   omega
 refine h g cap w' ?_ g1 e1 hb
 unfold T8.Own
 rw[List.length_append,List.map_append,hl]
 exact o1
theorem lU{ops:Array Oper}{rest:List Oper}{o:Oper}{a:Act}{w:World}{Q:Exit->Act->World->Prop}(hgd:o.guard=none)(s x:Operand)
  (ho:o.op=.call {callee:=.builtin .append,args:= #[s,x],argTypes:= #[30,30]})
  (g k c:Nat) (hk:k<=c) (hs:a.eval s=.slice (some ⟨g,0,none⟩) k c) (src:Value) (hx:a.eval x=src) (hsrc:Src prog 1 30 src 0 [] w)
  (h:wpList prog ops Q rest (a.put o.dst (.slice (some ⟨g,0,none⟩) k c)) w):wpList prog ops Q (o :: rest) a w:=by
 obtain⟨i0,hi,hz⟩:=Option.map_eq_some_iff.1 Ti.fF
 simp only[Prod.mk.injEq]at hz
 obtain⟨hz0,hz1,hz2⟩:=hz
 refine wpList_plain hgd fun _ hK=> ?_
 have hr:=run_append_room_src (P:=prog) w 30 30 o.type 5 i0 underlying30 hi g 0 k c src 0 [] (by rw[hz1];exact hsrc) (by omega) (fun j hj=>absurd hj (Nat.not_lt_zero j)) (fun j hj=>absurd hj (Nat.not_lt_zero j))
 unfold Oper.wp execOp
 simp only[ho,resolve,invoke,builtin,Sem.run_bind,Sem.run_pure,Result.andThen_ok,List.map_toArray,List.map_cons,List.map_nil,hs,hx,hr]
 exact hK _ _ h
theorem pM(w:World)(r:Option Nat):w.grownBy w r:=⟨rfl,rfl,rfl,Nat.le_refl _,fun _ _ _=>rfl⟩
theorem jD{ops:Array Oper}{rest:List Oper}{o:Oper}{a:Act}{w:World}{Q:Exit->Act->World->Prop}(hgd:o.guard=none)(s x:Operand)
  (ho:o.op=.call {callee:=.builtin .append,args:= #[s,x],argTypes:= #[30,30]})
  (B g k cap:Nat) (l:List Nat) (hs:a.eval s=.slice (some ⟨g,0,none⟩) k cap) (own:T8.Own B (.slice (some ⟨g,0,none⟩) k cap) l w)
  (p:Option Addr) (n c:Nat) (f:Nat->Nat) (hx:a.eval x=.slice p n c) (hI:Ti.IsW .u8 256 w p n f) (hn:k+n<=1099511627776) (hB:B<=w.heap.size) (m:Nat) (hm:k+n=m)
  (h: ∀g1 c1 w',T8.Own B (.slice (some ⟨g1,0,none⟩) m c1) (l++(List.range n).map f) w'->w.grownBy w' (some g)->wpList prog ops Q rest (a.put o.dst (.slice (some ⟨g1,0,none⟩) m c1)) w'):wpList prog ops Q (o :: rest) a w:=by
 have lk:k=l.length:=by
  rcases own.2 with⟨e,_⟩ | ⟨g2,cap2,cur,e,_⟩
  ·cases e
  ·injection e
 by_cases h0:n=0
 ·subst h0
  subst hm
  have hk:k<=cap:=own.row.2.1
  refine lU hgd s x ho g k cap hk hs (.slice p 0 c) hx (src8 hI c) ?_
  exact h g cap w (by simpa using own) (pM _ _)
 ·obtain⟨b0,o0,rfl⟩:=hI.some0 (by omega)
  refine lS hgd s x ho B _ l hs own ⟨b0,o0,none⟩ n c ((List.range n).map f) hx (by simp) (T8.news_of hI) (by omega) (by omega) hB m (by omega) ?_
  intro g1 c1 w' o1 x1 _ hg
  exact h g1 c1 w' o1 x1
theorem own_new8(w:World)(B:Nat)(hB:B<=w.heap.size):T8.Own B (.slice (some ⟨w.heap.size,0,none⟩) 0 0) [] (w.alloc (.cells #[] 5)):=
 ⟨by simp,.inr ⟨w.heap.size,0,#[],rfl,hB,heap_alloc_new _ _,Nat.le_refl _,by unfold maxLen;omega,by simp,by simp⟩⟩
def cat(F:Nat->Nat)(n:Nat)(G:Nat->Nat)(i:Nat):Nat:=if i<n then F i else G (i - n)
theorem cat_list(F G:Nat->Nat)(n m:Nat):(List.range n).map F++(List.range m).map G=(List.range (n+m)).map (cat F n G):=by
 rw[kG]
 congr 1
 ·exact List.map_congr_left fun i hi=>by unfold cat;rw[if_pos (List.mem_range.1 hi)]
 ·exact List.map_congr_left fun i hi=>by unfold cat;rw[if_neg (by omega),Nat.add_sub_cancel_left]
def turn(F:Nat->Nat)(k x i:Nat):Nat:=if i=k then F k ^^^ x else F i
theorem sP(F:Nat->Nat)(n k x:Nat):((List.range n).map F).set k (F k ^^^ x)=(List.range n).map (turn F k x):=by
 apply List.ext_getElem
 ·simp
 ·intro i h1 h2
  simp only[List.getElem_set,List.getElem_map,List.getElem_range]
  unfold turn
  by_cases e:k=i
  ·rw[if_pos e,if_pos e.symm]
  ·rw[if_neg e,if_neg (Ne.symm e)]
theorem qX{a b:Nat}(ha:a<256)(hb:b<256):a ^^^ b<256:=Nat.xor_lt_two_pow (n:=8) ha hb
theorem xor8_ne{a b:Nat}(hb:b≠0):a ^^^ b≠a:=fun e=>hb (nP (c:=a) (by rw[e,Nat.xor_zero]))
theorem xor8{a b:Nat}(ha:a<256)(hb:b<256):bits .xor .u8 (a:Int) (b:Int)=((a ^^^ b:Nat):Int):=by
 have l:=qX ha hb
 show IntKind.u8.wrap (((BitVec.ofInt 8 (a:Int) ^^^ BitVec.ofInt 8 (b:Int)).toNat:Nat):Int)=_
 rw[BitVec.ofInt_natCast,BitVec.ofInt_natCast,BitVec.toNat_xor,BitVec.toNat_ofNat,BitVec.toNat_ofNat]
 rw[Nat.mod_eq_of_lt (by omega),Nat.mod_eq_of_lt (by omega)]
 show((_:Nat):Int)%256=_
 omega
theorem lV{M g L cp:Nat}{F:Nat->Nat}{v:World}(h:T8.Own M (.slice (some ⟨g,0,none⟩) L cp) ((List.range L).map F) v)(hF: ∀i,i<L->F i<256):Ti.IsW .u8 256 v (some ⟨g,0,none⟩) L F/\L<=cp/\cp<=9223372036854775807:=by
 have hl: ∀x ∈ (List.range L).map F,x<256:=fun x hx=>by
  obtain⟨i,hi,rfl⟩:=List.mem_map.1 hx
  exact hF i (List.mem_range.1 hi)
 refine⟨(own_w h (by simp) hl).congr fun i hi=>jB F L i hi,?_⟩
 obtain⟨a0,cap,e,i,h1,h2⟩:=h.at hl
 injection e with e1 e2 e3
 subst e3
 exact⟨by simpa using h1,h2⟩
theorem own_turn{M g L cp k x:Nat}{F:Nat->Nat}{v:World}(h:T8.Own M (.slice (some ⟨g,0,none⟩) L cp) ((List.range L).map F) v):T8.Own M (.slice (some ⟨g,0,none⟩) L cp) ((List.range L).map (turn F k x)) (v.setCell ⟨g,k,none⟩ (.int .u8 ((F k ^^^ x:Nat):Int))):=by
 have q:=h.set k (F k ^^^ x)
 rw[sP]at q
 exact q
end Sv
end
section
open Go.RowKit Tf Cu Go.Deep
attribute [local go_sem] aF aG aI aJ aK aL aM aC
namespace Sv
def cutF(L:Nat)(f:Nat->Nat)(i:Nat):Nat:=if i<L then f i else 0
theorem cutF_w{w:World}{a0:Option Addr}{len:Nat}{xs:Nat->Nat}(h:Ti.IsW .u8 256 w a0 len xs):Ti.IsW .u8 256 w a0 len (cutF len xs):=h.congr fun k hk=>by unfold cutF;rw[if_pos hk]
theorem qY{L:Nat}{f:Nat->Nat}(h: ∀i,i<L->f i<256)(i:Nat):cutF L f i<256:=by
 unfold cutF
 split
 ·exact h i (by assumption)
 ·decide
end Sv
end
section
open Go.RowKit Tf Cu Go.Deep
attribute [local go_sem] aF aG aI aJ aK aL aM aC
namespace Sv
theorem smN_cat(F G:Nat->Nat)(n k:Nat):smN (cat F n G) (n+(k+1))=(smN (cat F n G) (n+k) ^^^ G k)*1099511628211%18446744073709551616:=by
 show(smN (cat F n G) (n+k) ^^^ cat F n G (n+k))*1099511628211%18446744073709551616=_
 have e:cat F n G (n+k)=G k:=by unfold cat;rw[if_neg (by omega),Nat.add_sub_cancel_left]
 rw[e]
theorem sum_big(p:Option Addr)(lb cb:Nat)(p':Option Addr)(lc cc:Nat)(at':Int)(y:Nat)(w:World)(hF:Fr w)(h:1048576<lb\/1048576<lc):
  Calls prog 6 #[.slice p lb cb,.slice p' lc cc,.int .i64 at',.int .u8 ((y:Nat):Int)] w fun e w'=>e=.returned (.bool true)/\Ab w w':=by
 have CL:=hid (jC w hF)
 have HH:=hid h
 clear hF h
 go_enter func6,ntmps6
 go_wp2_with fail
 refine CL.out.mono ?_
 rintro e9 v1 ⟨rfl,b1⟩
 by_cases q:1048576<lb
 ·have q1:(1048576:Int)<(lb:Int):=by omega
  go_wp2
  go_ret
  exact⟨rfl,b1⟩
 ·have q2:1048576<lc:=by have:=HH.out;omega
  have q1: ¬((1048576:Int)<(lb:Int)):=by omega
  have q3:(1048576:Int)<(lc:Int):=by omega
  go_wp2
  go_ret
  exact⟨rfl,b1⟩
theorem sum_ok(p:Option Addr)(lb cb:Nat)(F:Nat->Nat)(p':Option Addr)(lc cc:Nat)(G:Nat->Nat)(at':Int)(y:Nat)(w:World)(hF:Fr w)(h:lb<=1048576/\lc<=1048576)(hy:y<256)(hI:Ti.IsW .u8 256 w p lb F)(hJ:Ti.IsW .u8 256 w p' lc G)(hb: ∀i,F i<256)(hc: ∀i,G i<256):
  Calls prog 6 #[.slice p lb cb,.slice p' lc cc,.int .i64 at',.int .u8 ((y:Nat):Int)] w fun e w'=>e=.returned (.bool true)/\Ab w w':=by
 have CL:=hid (jC w hF)
 have HH:=hid h
 have HY:=hid hy
 have HI:=hid hI
 have HJ:=hid hJ
 have HL:=hid (show∀i,cat F lb G i<256 from fun i=>by unfold cat;split;exact hb _;exact hc _)
 have q1: ¬((1048576:Int)<(lb:Int)):=by omega
 have q2: ¬((1048576:Int)<(lc:Int)):=by omega
 have CS:=hid (fun v (a:Ab w v)=>fZ p lb cb F v (by omega) (hI.below a))
 have y0:(0:Int)<=(y:Int):=by omega
 have y1:(y:Int)<256:=by omega
 clear hF h hy hI hJ hb hc
 go_enter func6,ntmps6
 go_wp2_with fail
 refine CL.out.mono ?_
 rintro e9 v1 ⟨rfl,b1⟩
 have A1:Hid (Ab w v1):=b1
 have SE:Hid (smN F lb=smN (cat F lb G) (lb+0)):=cB _ fun i hi=>by unfold cat;rw[if_pos hi]
 have CS1:=hid (CS.out v1 A1.out)
 rw[SE.out]at CS1
 clear b1 CL CS
 go_wp2_with fail
 refine CS1.out.mono ?_
 rintro e9 z9 ⟨rfl,hz⟩
 have hz2:=hz.symm
 subst hz2
 clear CS1 SE
 go_wp2
 go_loopw [9,10] (fun hv iv wr=> ∃k:Nat,k<=lc/\iv=.int .i64 (k:Nat)/\hv=.int .u64 ((smN (cat F lb G) (lb+k):Nat):Int)/\Ab v1 wr) (fun _ iv _=>lc - (intOf iv).toNat)
 case atStart=>exact⟨0,by omega,rfl,rfl,Ab.refl _⟩
 case round=>
  obtain⟨k,hk,rfl,rfl,a2⟩:=hrel
  have A2:=hid a2
  clear a2
  by_cases hkl:k<lc
  ·have HK:=hid hkl
   obtain⟨b1,g,o,rfl,_,z⟩:=(HJ.out.below (A1.out.trans A2.out)) k hkl
   have SL:=dL (cat F lb G) (lb+k)
   obtain⟨t,ht⟩:=aB (G k)
   obtain⟨X,hX⟩:=aB (smN (cat F lb G) (lb+k))
   rw[ht]at z b1
   rw[hX]at SL ⊢
   have kI:(k:Int)<lc:=by omega
   have kB:(lc:Int)<=1048576:=by have:=HH.out;omega
   have t0:(0:Int)<=(t:Int):=by omega
   have t1:(t:Int)<256:=by omega
   have xq:=xor64 SL b1
   obtain⟨Y,hY⟩:=aB (X ^^^ t)
   rw[hY]at xq
   have mq:=mul64 Y
   have ST:Hid (smN (cat F lb G) (lb+(k+1))=Y*1099511628211%18446744073709551616):=by
    show _=_
    rw[smN_cat,hX,ht,hY]
   obtain⟨Z,hZ⟩:=aB (Y*1099511628211%18446744073709551616)
   rw[hZ]at mq ST
   clear ht hX hY hZ b1 SL hkl hk
   go_wp2
   refine⟨⟨k+1,by have:=HK.out;omega,by simp,by rw[ST.out],A2.out⟩,by have:=HK.out;simp[intOf];omega⟩
  ·have e6:lc=k:=by omega
   subst e6
   have A3:Hid (Ab w wr):=A1.out.trans A2.out
   have O4:Hid (T8.Own wr.heap.size (.slice (some ⟨wr.heap.size,0,none⟩) 0 0) [] (wr.alloc (.cells #[] 5))):=own_new8 wr _ (Nat.le_refl _)
   have A4:=cV (bl1 wr (.cells #[] 5))
   have I4:=hid (HI.out.below (A3.out.trans A4.out))
   go_upto_region 11 with(at_builtin;refine jD rfl (.tmp 38) (.tmp 39) rfl wr.heap.size _ 0 0 [] rfl O4.out p lb cb F rfl I4.out (by have:=HH.out;omega) (Below.size A4.out) lb (by omega) ?_;intro g5 c5 v5 o5 q5)
   have A5:Hid (Ab wr v5):=bD A4.out q5 (fun b hb=>by cases hb;exact O4.out.row.1)
   have O5:=hid o5
   have J5:=hid (HJ.out.below (A3.out.trans A5.out))
   obtain⟨L,hL⟩:=aB (lb+lc)
   have HLL:=hid (show lb+lc=L/\L<=2097152 from⟨hL,by have:=HH.out;omega⟩)
   clear o5 q5 O4 A4 I4 A2
   go_upto_region 12 with(at_builtin;refine jD rfl (.tmp 41) (.tmp 42) rfl wr.heap.size g5 lb c5 _ rfl O5.out p' lc cc G rfl J5.out (by have:=HH.out;omega) (Below.size A5.out) L hL ?_;intro g6 c6 v6 o6 q6)
   have A6:Hid (Ab wr v6):=bD A5.out q6 (fun b hb=>by cases hb;exact O5.out.row.1)
   have O6:Hid (T8.Own wr.heap.size (.slice (some ⟨g6,0,none⟩) L c6) ((List.range L).map (cat F lb G)) v6):=by
    have q:=o6
    rw[List.nil_append,cat_list,hL]at q
    exact q
   clear o6 q6 O5 A5 J5 hL
   obtain⟨K,hK⟩:=aB (cat F lb G)
   rw[hK]at O6 HL ⊢
   clear hK
   have W6:=lV O6.out (fun i _=>HL.out i)
   have CS6:=hid (fZ (some ⟨g6,0,none⟩) L c6 K v6 (by have:=HLL.out;omega) W6.1)
   have SL:=dL K L
   obtain⟨sm,hsm⟩:=aB (smN K L)
   rw[hsm]at CS6 SL ⊢
   have HSM:=hid hsm
   have e1:((sm:Int) != (sm:Int))=false:=by simp
   have AW:Hid (Ab w v6):=A3.out.trans A6.out
   clear hsm W6
   go_upto_region 14 with(go_at_call 14;refine CS6.out.mono ?_;rintro e9 z9 ⟨rfl,hz⟩;have hz2:=hz.symm;subst hz2)
   clear e1 CS6 A6
   by_cases k1:at'<0
   ·go_wp2
    go_ret
    exact⟨rfl,AW.out⟩
   ·by_cases k2:(L:Int)<=at'
    ·go_wp2
     go_ret
     exact⟨rfl,AW.out⟩
    ·by_cases k3:y=0
     ·subst k3
      go_wp2
      go_ret
      exact⟨rfl,AW.out⟩
     ·obtain⟨k,ek⟩: ∃k:Nat,at'=k:=⟨at'.toNat,by omega⟩
      subst ek
      have HK:=hid (show k<L by omega)
      have n3:((y:Int)==0)=false:=by simp;omega
      have m1: ¬((k:Int)<0):=k1
      have m2:(k:Int)<(L:Int):=by omega
      have m3:(0:Int)<=(k:Int):=by omega
      have m4:(L:Int)<=2097152:=by have:=HLL.out;omega
      have W6:=lV O6.out (fun i _=>HL.out i)
      have z1:=(W6.1.at0 (k:=k) HK.out).2.2
      rw[Nat.zero_add]at z1
      have b1:=HL.out k
      obtain⟨t,ht⟩:=aB (K k)
      rw[ht]at z1 b1
      have xq:=xor8 b1 HY.out
      have t0:(0:Int)<=(t:Int):=by omega
      have t1:(t:Int)<256:=by omega
      obtain⟨u,hu⟩:=aB (t ^^^ y)
      rw[hu]at xq
      have O7:Hid (T8.Own wr.heap.size (.slice (some ⟨g6,0,none⟩) L c6) ((List.range L).map (turn K k y)) (v6.setCell ⟨g6,k,none⟩ (.int .u8 ((u:Nat):Int)))):=by
       have q:=own_turn (k:=k) (x:=y) O6.out
       rw[ht,hu]at q
       exact q
      have f1:v6.frozen? ⟨g6,k,none⟩=false:=by
       obtain⟨_,_,cur,hg,_⟩:=O6.out.row
       exact aD hg k
      have TL: ∀i,turn K k y i<256:=fun i=>by
       unfold turn
       split
       ·exact qX (HL.out k) HY.out
       ·exact HL.out i
      have W7:=lV O7.out (fun i _=>TL i)
      have CS7:=hid (fZ (some ⟨g6,0,none⟩) L c6 (turn K k y) _ (by have:=HLL.out;omega) W7.1)
      have NE:Hid (smN (turn K k y) L≠sm):=by
       show _≠_
       rw[<- HSM.out]
       refine smN_ne (k:=k) L TL HL.out HK.out ?_ fun i _ hi=>by unfold turn;rw[if_neg hi]
       unfold turn
       rw[if_pos rfl]
       exact xor8_ne k3
      obtain⟨s2,hs2⟩:=aB (smN (turn K k y) L)
      rw[hs2]at CS7 NE
      have e2:((s2:Int) != (sm:Int))=true:=by have:=NE.out;simp;omega
      have A7:Hid (Ab w (v6.setCell ⟨g6,k,none⟩ (.int .u8 ((u:Nat):Int)))):=AW.out.setk (Nat.le_trans (Below.size A3.out) O6.out.row.1) _
      clear ht hu hs2 b1 k1 k2 k3 W6 W7 TL O7 O6 m1
      go_wp2_with (go_at_call 14;refine CS7.out.mono ?_;rintro e9 z9 ⟨rfl,hz⟩;have hz2:=hz.symm;subst hz2)
      go_ret
      exact⟨rfl,A7.out⟩
theorem sums_at(p:Option Addr)(lb cb:Nat)(F:Nat->Nat)(p':Option Addr)(lc cc:Nat)(G:Nat->Nat)(at' x:Int)(w:World)(hF:Fr w)(hx:0<=x/\x<256)(hI:Ti.IsW .u8 256 w p lb F)(hJ:Ti.IsW .u8 256 w p' lc G):
  Calls prog 6 #[.slice p lb cb,.slice p' lc cc,.int .i64 at',.int .u8 x] w fun e w'=>e=.returned (.bool true)/\Below w.heap.size w w':=by
 obtain⟨y,rfl⟩: ∃y:Nat,x=y:=⟨x.toNat,by omega⟩
 by_cases h:1048576<lb\/1048576<lc
 ·exact sum_big p lb cb p' lc cc at' y w hF h
 ·exact sum_ok p lb cb (cutF lb F) p' lc cc (cutF lc G) at' y w hF (by omega) (by omega) (cutF_w hI) (cutF_w hJ) (qY hI.lt) (qY hJ.lt)
end Sv
end
section
open Go.ChangeShapes Go.WideShapes Go.ChangeAt Go.WideMaps Go.WideElems Go.RowKit Go.Deep
namespace Sh
theorem pN{w:World}{a:Addr}{v:Value}(h:w.cell? a=some v):a.block<w.heap.size:=by
 by_cases c:a.block<w.heap.size
 ·exact c
 ·exfalso
  have:w.heap[a.block]? =none:=by simp;omega
  simp[World.cell?,this]at h
theorem pick_fn{α:Type}{n:Nat}{R:Nat->α->Prop}(d:α)(h: ∀i,i<n-> ∃x,R i x): ∃f:Nat->α,∀i,i<n->R i (f i):=by
 have: ∀i,∃x,i<n->R i x:=fun i=>by
  by_cases c:i<n
  ·obtain⟨x,h1⟩:=h i c
   exact⟨x,fun _=>h1⟩
  ·exact⟨d,fun h=>absurd h c⟩
 exact⟨fun i=>(this i).choose,fun i hi=>(this i).choose_spec hi⟩
end Sh
end
section
open Go.ChangeShapes Go.WideShapes Go.ChangeAt Go.WideMaps Go.WideElems Go.RowKit Go.Deep
namespace Sv
theorem trod_u8{H:Type}{enc:TypeId × Value->H}{P:Program}{w:World}{base:Nat}{spare:Nat->Bool}{held:Bool}{t:TypeId}{fuel:Nat}{v:Value}{x:DataW H × List MemPlace}(ht:P.underlying t=some (.int .u8))(h:DataW.trod enc P w base spare held fuel t [v]=some x):
  ∃b:Nat,v=.int .u8 (b:Int)/\b<256:=by
 obtain⟨k,e,_,wf⟩:=DataW.trod_int ht h
 simp at e
 simp only[Lit.wf,Bool.and_eq_true,decide_eq_true_eq]at wf
 have q1:IntKind.u8.min=0:=by decide
 have q2:IntKind.u8.max=255:=by decide
 rw[q1,q2]at wf
 exact⟨k.toNat,by rw[Int.toNat_of_nonneg wf.1];exact e,by omega⟩
theorem bytes8:Tryz.prog.bytesOf 5=1:=by kernel_rfl
theorem lit_8{x:Int}(h:(Lit.int .u8 x).wf=true):0<=x/\x<256:=by
 simp only[Lit.wf,Bool.and_eq_true,decide_eq_true_eq]at h
 have q1:IntKind.u8.min=0:=by decide
 have q2:IntKind.u8.max=255:=by decide
 omega
theorem jE{H:Type}{enc:TypeId × Value->H}{W:World}{cs:List Value}{fuel:Nat}{x:DataW H × List MemPlace}
  (hf:DataW.trod enc prog W 0 (fun _=>true) true fuel 30 cs=some x) (hs: ∀elems spare,x.1=.slice elems spare->(elems.length+spare.length)*1<=reachBytes): ∃a0 len cap xs,cs=[.slice a0 len cap]/\Ti.IsW .u8 256 W a0 len xs/\len<=cap/\cap<=140737488355328/\(a0=none->len=0):=by
 rcases open_slice1 underlying30 (by kernel_rfl) hf with⟨hcs,_⟩ | ⟨a,l,c,m,n,V,D,Pl,hcs,_,hl,hm,hmm,hx0,hx⟩
 ·exact⟨none,0,0,fun _=>0,hcs,fun k hk=>by omega,Nat.le_refl _,Nat.zero_le _,fun _=>rfl⟩
 ·simp only[if_true]at hmm
  have sz:=hs _ _ (by rw[hx0])
  simp only[List.length_map,List.length_range]at sz
  have each: ∀i,i<l-> ∃x:Nat,W.cell? (a.add i)=some (.int .u8 (x:Int))/\x<256:=by
   intro i hi
   obtain⟨h1,h2⟩:=hx i (by omega)
   obtain⟨x,e,wx⟩:=trod_u8 underlying5 h2
   rw[e]at h1
   exact⟨x,h1,wx⟩
  obtain⟨f,hf⟩:=Sh.pick_fn 0 each
  refine⟨some a,l,c,f,hcs,fun k hk=>⟨(hf k hk).2,?_⟩,hl,by unfold reachBytes at sz;omega,fun e=>by cases e⟩
  have h0:=(hf k hk).1
  have z:=(hf 0 (by omega)).1
  obtain⟨b,off,spot⟩:=a
  have hspot:spot=none:=by simpa [Addr.add]using World.cell?_spot z
  subst hspot
  rw[Sh.eA]at h0
  exact⟨b,off,rfl,Sh.pN h0,h0⟩
end Sv
end
section
open Go.ChangeShapes Go.WideShapes Go.ChangeAt Go.WideMaps Go.WideElems Go.RowKit Cu
theorem own:ownKnob Tryz.prog.godebug=none:=by kernel_rfl
theorem gFrames:Tryz.prog.globalNamed "tarn/cube.frames" =some 1:=by kernel_rfl
theorem tFrames:(Tryz.prog.globals[1]?).map (·.type)=some 117:=by kernel_rfl
theorem door_met(os:Os)(args:Array Value):laidMetH prog [("tarn/cube.frames",Rows.laid_tarn_cube_frames)] ((World.doorLaid prog 400 os).forCall (fun _ _=>0) ⟨#[],args,[]⟩).memory:=
 laidMetH_of_parts3 (fuel:=8) (laidMet_of_run' 8 (by kernel_rfl) (by kernel_rfl)) (by kernel_rfl) (by kernel_rfl)
theorem lW{H:Type}{enc:TypeId × Value->H}{w:World}{base fuel:Nat}{spare:Nat->Bool}{held:Bool}{cs:List Value}{x:DataW H × List MemPlace}(h:DataW.trod enc prog w base spare held fuel 109 cs=some x)
  (a b c:Int) (e:x.1=.agg [.lit (.int .i64 a),.lit (.int .i64 b),.lit (.int .i64 c)]):cs=[.int .i64 a,.int .i64 b,.int .i64 c]:=by
 have k3:Tryz.prog.cellsOf 3=1:=by kernel_rfl
 have kp:Tryz.prog.cellsOf 109=3:=by kernel_rfl
 obtain⟨xs,m,_,hx,hlen,hn,hel⟩:=DataW.trod_array underlying109 h
 rw[hx]at e
 match xs,hn,cs,hlen.trans kp with
 | [x0,x1,x2],_,[c0,c1,c2],_=>
  have h0:=hel 0 (by decide)
  have h1:=hel 1 (by decide)
  have h2:=hel 2 (by decide)
  simp[k3]at h0 h1 h2
  obtain⟨n0,e0,f0,_⟩:=DataW.trod_int underlying3 h0
  obtain⟨n1,e1,f1,_⟩:=DataW.trod_int underlying3 h1
  obtain⟨n2,e2,f2,_⟩:=DataW.trod_int underlying3 h2
  simp at e0 e1 e2
  simp[f0,f1,f2]at e
  rw[e0,e1,e2,e.1,e.2.1,e.2.2]
theorem bM{H:Type}{enc:TypeId × Value->H}{w:World}{base fuel:Nat}{spare:Nat->Bool}{held:Bool}{cs:List Value}{x:DataW H × List MemPlace}(h:DataW.trod enc prog w base spare held fuel 116 cs=some x)
  (p q r:P3) (e:x.1=.agg [.agg [.lit (.int .i64 p.1),.lit (.int .i64 p.2.1),.lit (.int .i64 p.2.2)],.agg [.lit (.int .i64 q.1),.lit (.int .i64 q.2.1),.lit (.int .i64 q.2.2)],.agg [.lit (.int .i64 r.1),.lit (.int .i64 r.2.1),.lit (.int .i64 r.2.2)]]):
  cs=[.int .i64 p.1,.int .i64 p.2.1,.int .i64 p.2.2,.int .i64 q.1,.int .i64 q.2.1,.int .i64 q.2.2,.int .i64 r.1,.int .i64 r.2.1,.int .i64 r.2.2]:=by
 have kp:Tryz.prog.cellsOf 109=3:=by kernel_rfl
 have kf:Tryz.prog.cellsOf 116=9:=by kernel_rfl
 obtain⟨xs,m,_,hx,hlen,hn,hel⟩:=DataW.trod_struct underlying116 h
 rw[hx]at e
 match xs,hn,cs,hlen.trans kf with
 | [x0,x1,x2],_,[c0,c1,c2,c3,c4,c5,c6,c7,c8],_=>
  have h0:=hel 0 _ rfl
  have h1:=hel 1 _ rfl
  have h2:=hel 2 _ rfl
  simp[kp]at h0 h1 h2
  simp at e
  have e0:=lW h0 _ _ _ e.1
  have e1:=lW h1 _ _ _ e.2.1
  have e2:=lW h2 _ _ _ e.2.2
  simp at e0 e1 e2
  simp[e0,e1,e2]
theorem pO{H:Type}{enc:TypeId × Value->H}{w:World}{base fuel:Nat}{spare:Nat->Bool}{held:Bool}{cs:List Value}{x:DataW H × List MemPlace}(h:DataW.trod enc prog w base spare held fuel 117 cs=some x)
  (e:x.1=Rows.laid_tarn_cube_frames): ∀f,f<6->(cs.drop (f*9)).take 9=[.int .i64 (cC f).1,.int .i64 (cC f).2.1,.int .i64 (cC f).2.2,.int .i64 (cR f).1,.int .i64 (cR f).2.1,.int .i64 (cR f).2.2,.int .i64 (cU f).1,.int .i64 (cU f).2.1,.int .i64 (cU f).2.2]:=by
 have kf:Tryz.prog.cellsOf 116=9:=by kernel_rfl
 obtain⟨xs,m,_,hx,hlen,hn,hel⟩:=DataW.trod_array underlying117 h
 rw[hx]at e
 intro f hf
 have h0:=hel f hf
 rw[kf]at h0
 match xs,hn with
 | [x0,x1,x2,x3,x4,x5],_=>
  simp only[List.map_cons,List.map_nil,Rows.laid_tarn_cube_frames,DataW.agg.injEq,List.cons.injEq]at e
  rcases six hf with rfl | rfl | rfl | rfl | rfl | rfl
  ·exact bM h0 (cC 0) (cR 0) (cU 0) e.1
  ·exact bM h0 (cC 1) (cR 1) (cU 1) e.2.1
  ·exact bM h0 (cC 2) (cR 2) (cU 2) e.2.2.1
  ·exact bM h0 (cC 3) (cR 3) (cU 3) e.2.2.2.1
  ·exact bM h0 (cC 4) (cR 4) (cU 4) e.2.2.2.2.1
  ·exact bM h0 (cC 5) (cR 5) (cU 5) e.2.2.2.2.2.1
theorem of_laid{W:World}(h:laidMetH prog [("tarn/cube.frames",Rows.laid_tarn_cube_frames)] W):Fr W:=by
 rw[MakeChecks.laidMetH_plain _ _ _ (by kernel_rfl)]at h
 obtain⟨ps,⟨g0,t0,cs0,f0,p0,q0,hg0,ht0,hv0,hd0,_⟩,_⟩:=h
 obtain rfl:=Option.some.inj (gFrames.symm.trans hg0)
 obtain rfl:=Option.some.inj (tFrames.symm.trans ht0)
 have T:=pO hd0 rfl
 have C:=World.var?_cell hg0 hv0
 have K: ∀f,f<6-> ∀k,k<9->W.cell? ⟨1,f*9+k,none⟩=((cs0.toList.drop (f*9)).take 9)[k]? :=by
  intro f hf k hk
  rw[C,List.getElem?_take,if_pos hk,List.getElem?_drop]
  simp
 have N: ∀f,f<6->Fr9 W f:=by
  intro f hf
  have K:=K f hf
  rw[T f hf]at K
  exact⟨⟨K 0 (by omega),K 1 (by omega),K 2 (by omega)⟩,⟨K 3 (by omega),K 4 (by omega),K 5 (by omega)⟩,⟨K 6 (by omega),K 7 (by omega),K 8 (by omega)⟩⟩
 refine⟨?_,N⟩
 have c0:=(N 0 (by omega)).1.1
 rcases Nat.lt_or_ge 1 W.heap.size with h1 | h1
 ·exact h1
 ·rw[World.cell?,Array.getElem?_eq_none h1]at c0;cases c0
end
end Go.Proofs.YtagcbnflfaeahaaGreatDoor
