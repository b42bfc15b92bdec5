/-
  Some of the texts of this proof, one behind the other.
-/
import Derived.Below
import Derived.Deep.RegionWith
import Derived.BigQuiet
import Derived.Deep.QuietTactic
import Derived.Deep.Quiet
import Derived.Deep.MidRow
import Derived.Deep.Cut
import Derived.Deep.CutRange
import Derived.Deep.Draws
import Derived.Test.YtlmfpikhlcnjjaaGreatDoorSk02
set_option maxRecDepth 100000
set_option maxHeartbeats 400000000
namespace Go.Proofs.YtlmfpikhlcnjjaaGreatDoor
open _root_.Go.Proofs.Tryz
section
open Go.RowKit Tf
attribute [local go_sem] aF aG aI aJ aK aL aM
theorem add_any{P:Program}(w:World)(s q x y:Nat)(h:IsQ s q)(k:IsQ x y): ∃r n,(∀t,(binOp .add t (.float .f64 s) (.float .f64 x)).run P w=.ok (.float .f64 r) (w.drewN n))/\IsQ r (plB q y):=by
 cases e:Ieee.double.add s x with
 | none=>exact⟨nanOf w s x,1,fun t=>nZ w t s x e,h.nan k e (eH _ _ _) (dJ _ _ _)⟩
 | some r=>exact⟨r,0,fun t=>run_float_arith w .add t .f64 s x r e,h.add k e⟩
theorem sS(x:Nat)(hx:x<18446744073709551616):feq x x= !isN x:=by
 rw[mC x x hx hx]
 cases isN x<;>simp
theorem lA(x q:Nat)(w:World)(h:IsQ x q):
  Calls prog 118 #[.float .f64 x] w fun e w'=>e=.returned (.float .f64 q)/\w'=w:=by
 obtain⟨h1,h2⟩:=h
 have C:=hid (fun w=>oB x _ w h1 rfl)
 have hf:=sS x h1
 cases hN:isN x
 ·rw[hN]at hf
  rw[cK hN]at h2
  subst h2
  clear hN h1
  go_enter func118,ntmps118
  go_wp2
  go_ret
  exact⟨rfl,rfl⟩
 ·rw[hN]at hf
  have hc:canonB x=q:=by rw[<- h2,qB_N hN];unfold canonB;rw[hN];rfl
  rw[hc]at C
  clear hN h1 h2 hc
  go_enter func118,ntmps118
  go_wp2_with fail
  refine(C.out _).mono ?_
  rintro e w' ⟨rfl,rfl⟩
  go_wp2
  go_ret
  exact⟨rfl,rfl⟩
def IsFl(w:World)(a0:Option Addr)(len:Nat)(xs:Nat->Nat):Prop:= ∀k,k<len->xs k<18446744073709551616/\ ∃b o,a0=some ⟨b,o,none⟩/\b<w.heap.size/\w.cell? ⟨b,o+k,none⟩=some (.float .f64 (xs k))
theorem IsFl.below{w w':World}{a0:Option Addr}{len:Nat}{xs:Nat->Nat}(h:IsFl w a0 len xs)(hb:Below w.heap.size w w'):IsFl w' a0 len xs:=by
 intro k hk
 obtain⟨h1,b,o,h2,h3,h4⟩:=h k hk
 exact⟨h1,b,o,h2,Nat.lt_of_lt_of_le h3 hb.size,by rw[hb.cell (p:=⟨b,o+k,none⟩) h3];exact h4⟩
theorem oC(a0:Option Addr)(cap:Nat)(w:World):
  Calls prog 112 #[.slice a0 0 cap] w fun e w'=>e=.returned (.float .f64 0)/\w'=w:=by
 go_enter func112,ntmps112
 go_wp2
 go_ret
 exact⟨rfl,rfl⟩
theorem qA(b o cap x q:Nat)(w:World)(_hcap:(1:Int)<=cap)(_hl:(cap:Int)<=9223372036854775807)(h0:w.cell? ⟨b,o,none⟩=some (.float .f64 x))(hx:Hid (IsQ x q)):
  Calls prog 112 #[.slice (some ⟨b,o,none⟩) 1 cap] w fun e w'=>e=.returned (.float .f64 q)/\ ∃k,w'=w.drewN k:=by
 have C:=hid (fun w=>lA x q w hx.out)
 clear hx
 by_cases hc:cap=1
 ·go_enter func112,ntmps112
  go_wp2
  go_loopw [3,15] (fun sv iv wr=>sv=.float .f64 x/\iv=.int .i64 0/\wr=w) (fun _ _ _=>0)
  case atStart=>exact⟨rfl,rfl,rfl⟩
  case round=>
   obtain⟨rfl,rfl,rfl⟩:=hrel
   go_wp2_with fail
   refine(C.out _).mono ?_
   rintro e w' ⟨rfl,rfl⟩
   go_wp2
   go_ret
   exact⟨rfl,0,rfl⟩
 ·go_enter func112,ntmps112
  go_wp2
  go_loopw [3,15] (fun sv iv wr=>sv=.float .f64 x/\iv=.int .i64 0/\wr=w) (fun _ _ _=>0)
  case atStart=>exact⟨rfl,rfl,rfl⟩
  case round=>
   obtain⟨rfl,rfl,rfl⟩:=hrel
   go_wp2_with fail
   refine(C.out _).mono ?_
   rintro e w' ⟨rfl,rfl⟩
   go_wp2
   go_ret
   exact⟨rfl,0,rfl⟩
theorem oD(b o n cap:Nat)(xs:Nat->Nat)(w:World)(hn:1<=n)(hcap:(n:Int)+1<=cap)(hl:(cap:Int)<=9223372036854775807)(h:Hid (IsFl w (some ⟨b,o,none⟩) (n+1) xs)):
  Calls prog 112 #[.slice (some ⟨b,o,none⟩) (n+1:Nat) cap] w fun e w'=>e=.returned (.float .f64 (lfF xs n))/\ ∃k,w'=w.drewN k:=by
 have hc1: ¬cap=1:=by omega
 have cells: ∀k,k<n+1-> ∀j,(w.drewN j).cell? ⟨b,o+k,none⟩=some (.float .f64 (xs k)):=by
  intro k hk j
  obtain⟨_,b',o',e,_,h3⟩:=h.out k hk
  cases e;exact h3
 have h0:w.cell? ⟨b,o,none⟩=some (.float .f64 (xs 0)):=cells 0 (by omega) 0
 have HC:=hid cells
 obtain⟨x0,hx0⟩:=aB (xs 0)
 rw[hx0]at h0
 have HX:=hid hx0
 have C:=hid (fun x q w=>lA x q w)
 clear cells hx0
 go_enter func112,ntmps112
 go_wp2
 go_loopw [3,15] (fun sv iv wr=> ∃k s j:Nat,k<=n/\sv=.float .f64 s/\iv=.int .i64 (k:Nat)/\wr=w.drewN j/\Hid (IsQ s (lfF xs k))) (fun _ iv _=>n - (intOf iv).toNat)
 case atStart=>exact⟨0,x0,0,by omega,rfl,rfl,rfl,by rw[<- HX.out];exact IsQ.self (h.out 0 (by omega)).1⟩
 case round=>
  obtain⟨k,s,j,hk,rfl,rfl,rfl,hq⟩:=hrel
  by_cases hlt:k<n
  ·have cn:=HC.out (k+1) (by omega) j
   have cn':(w.drewN j).cell? ⟨b,o+1+k,none⟩=some (.float .f64 (xs (k+1))):=by rw[show o+1+k=o+(k+1)by omega];exact cn
   obtain⟨r,m,hr,hrq⟩:=add_any (P:=prog) (w.drewN j) s _ (xs (k+1)) _ hq.out (IsQ.self (h.out (k+1) (by omega)).1)
   rw[pZ]at hrq
   obtain⟨x,hx⟩:=aB (xs (k+1))
   rw[hx]at cn cn' hr
   have HQ:=hid hrq
   have HL:=hid hlt
   have kl:((k:Nat):Int)<n:=by omega
   clear hx hrq hlt hq hk
   go_wp2
   refine⟨⟨k+1,r,_,HL.out,rfl,by simp,rfl,HQ.out⟩,by have:=HL.out;simp[intOf];omega⟩
  ·have e:k=n:=by omega
   subst e
   have kl:decide (((k:Nat):Int)<(k:Nat))=false:=by simp
   have C':=hid (fun w=>C.out s (lfF xs k) w hq.out)
   clear C hq hlt hk
   go_wp2_with fail
   refine(C'.out _).mono ?_
   rintro e w' ⟨rfl,rfl⟩
   go_wp2
   go_ret
   exact⟨rfl,_,rfl⟩
theorem sT(a0:Option Addr)(len cap:Nat)(xs:Nat->Nat)(w:World)(hcap:len<=cap)(hl:(cap:Int)<=9223372036854775807)(h:IsFl w a0 len xs):
  Calls prog 112 #[.slice a0 len cap] w fun e w'=>e=.returned (.float .f64 (leftB xs len))/\ ∃k,w'=w.drewN k:=by
 by_cases h0:len=0
 ·subst h0
  exact(oC a0 cap w).mono fun e w' ⟨he,hw⟩=>⟨he,0,hw⟩
 ·obtain⟨x1,b,o,rfl,_,x3⟩:=h 0 (by omega)
  have e:leftB xs len=lfF xs (len - 1):=by unfold leftB;rw[if_neg h0]
  rw[e]
  by_cases h1:len=1
  ·subst h1
   exact qA b o cap (xs 0) _ w (by omega) hl x3 (IsQ.self x1)
  ·have:=oD b o (len - 1) cap xs w (by omega) (by omega) hl (by rw[show len - 1+1=len by omega];exact h)
   rw[show len - 1+1=len by omega]at this
   exact this
end
section
open Go.RowKit Tf
attribute [local go_sem] aF aG aI aJ aK aL aM
theorem fl_new(w:World)(T:TypeId)(c:Array Value)(xs:Nat->Nat)(n:Nat)(h: ∀k,k<n->xs k<18446744073709551616/\c[k]? =some (.float .f64 (xs k))):IsFl (w.alloc (.cells c T)) (some ⟨w.heap.size,0,none⟩) n xs:=by
 intro k hk
 refine⟨(h k hk).1,w.heap.size,0,rfl,by simp,?_⟩
 rw[Nat.zero_add]
 have:=(h k hk).2
 simp[this]
end
section
open Go.RowKit Tf
attribute [local go_sem] aF aG aI aJ aK aL aM
theorem oE(x:Nat):placeB (mg x)=mg x+9223372036854775808:=by
 unfold placeB;rw[fP (kW x)];rfl
theorem order_mg(a b:Nat):orderB (mg a) (mg b)=if mg a<mg b then -1 else if mg b<mg a then 1 else 0:=by
 unfold orderB
 rw[oE,oE]
 by_cases h1:mg a<mg b
 ·rw[if_pos (by omega),if_pos h1]
 ·rw[if_neg (by omega),if_neg h1]
  by_cases h2:mg b<mg a
  ·rw[if_pos (by omega),if_pos h2]
  ·rw[if_neg (by omega),if_neg h2]
theorem key_lt(a b:Nat)(ha:a<18446744073709551616)(hb:b<18446744073709551616):key b<key a ↔ mg b<mg a\/(mg a=mg b/\placeB b<placeB a):=by
 have h1:=mE a ha
 have h2:=mE b hb
 have h3:=kW a
 have h4:=kW b
 unfold key placeB
 revert h1 h2
 cases ng a<;>cases ng b<;>simp<;>omega
theorem sU(a b:Nat)(r:Bool)(w:World)(ha:a<18446744073709551616)(hb:b<18446744073709551616)(hr:decide (key b<key a)=r):
  Calls prog 117 #[.float .f64 a,.float .f64 b] w fun e w'=>e=.returned (.bool r)/\w'=w:=by
 have A:=hid (fun w=>rG a w ha)
 have B:=hid (fun w=>rG b w hb)
 have h3:=kW a
 have h4:=kW b
 have O:=hid (fun o w h=>kZ (mg a) (mg b) o w (by omega) (by omega) h)
 have O2:=hid (fun w=>kZ a b _ w ha hb rfl)
 have hk:=key_lt a b ha hb
 have ho:=order_mg a b
 by_cases c1:mg a<mg b
 ·rw[if_pos c1]at ho
  have O':=hid (fun w=>O.out _ w ho)
  have e:r=false:=by rw[<- hr];exact decide_eq_false (fun x=>by have:=hk.1 x;omega)
  subst e
  clear O O2 hk hr ho c1 h3 h4 ha hb
  generalize mg a=ma at*
  generalize mg b=mb at*
  go_enter func117,ntmps117
  go_wp2_with fail
  refine(A.out _).mono ?_
  rintro e w' ⟨rfl,rfl⟩
  go_wp2_with fail
  refine(B.out _).mono ?_
  rintro e w' ⟨rfl,rfl⟩
  go_wp2_with fail
  refine(O'.out _).mono ?_
  rintro e w' ⟨rfl,rfl⟩
  go_wp2
  go_ret
  exact⟨rfl,rfl⟩
 by_cases c2:mg b<mg a
 ·rw[if_neg c1,if_pos c2]at ho
  have O':=hid (fun w=>O.out _ w ho)
  have e:r=true:=by rw[<- hr];exact decide_eq_true (hk.2 (.inl c2))
  subst e
  clear O O2 hk hr ho c1 c2 h3 h4 ha hb
  generalize mg a=ma at*
  generalize mg b=mb at*
  go_enter func117,ntmps117
  go_wp2_with fail
  refine(A.out _).mono ?_
  rintro e w' ⟨rfl,rfl⟩
  go_wp2_with fail
  refine(B.out _).mono ?_
  rintro e w' ⟨rfl,rfl⟩
  go_wp2_with fail
  refine(O'.out _).mono ?_
  rintro e w' ⟨rfl,rfl⟩
  go_wp2
  go_ret
  exact⟨rfl,rfl⟩
 ·rw[if_neg c1,if_neg c2]at ho
  have O':=hid (fun w=>O.out _ w ho)
  obtain⟨o,ho2⟩:=aB (orderB a b)
  have e:decide (0<o)=r:=by
   rw[<- hr,<- ho2]
   refine decide_eq_decide.2 ?_
   rw[sR,hk]
   constructor
   ·intro h;exact .inr ⟨by omega,h⟩
   ·rintro(h | h)
    ·omega
    ·exact h.2
  rw[ho2]at O2
  clear O hk hr ho c1 c2 h3 h4 ha hb ho2
  generalize mg a=ma at*
  generalize mg b=mb at*
  go_enter func117,ntmps117
  go_wp2_with fail
  refine(A.out _).mono ?_
  rintro e w' ⟨rfl,rfl⟩
  go_wp2_with fail
  refine(B.out _).mono ?_
  rintro e w' ⟨rfl,rfl⟩
  go_wp2_with fail
  refine(O'.out _).mono ?_
  rintro e w' ⟨rfl,rfl⟩
  go_wp2_with fail
  refine(O2.out _).mono ?_
  rintro e w' ⟨rfl,rfl⟩
  go_wp2
  go_ret
  exact⟨by first | rfl | (rw[<- e];try rfl) | skip,rfl⟩
theorem gV(a b:Nat)(w:World)(ha:a<18446744073709551616)(hb:b<18446744073709551616):
  Calls prog 111 #[.float .f64 a,.float .f64 b] w fun e w'=>e=.returned (.tuple #[.float .f64 (loB a b),.float .f64 (hiB a b)])/\w'=w:=by
 have B:=hid (fun w=>sU a b _ w ha hb rfl)
 unfold loB hiB
 by_cases c:key b<key a
 ·rw[if_pos c,if_pos c]
  rw[decide_eq_true c]at B
  clear c
  go_enter func111,ntmps111
  go_wp2_with fail
  refine(B.out _).mono ?_
  rintro e w' ⟨rfl,rfl⟩
  go_wp2
  go_ret2
  exact⟨rfl,rfl⟩
 ·rw[if_neg c,if_neg c]
  rw[decide_eq_false c]at B
  clear c
  go_enter func111,ntmps111
  go_wp2_with fail
  refine(B.out _).mono ?_
  rintro e w' ⟨rfl,rfl⟩
  go_wp2
  go_ret2
  exact⟨rfl,rfl⟩
theorem lo_lt{a b:Nat}(ha:a<18446744073709551616)(hb:b<18446744073709551616):loB a b<18446744073709551616:=by unfold loB;split<;>assumption
theorem hi_lt{a b:Nat}(ha:a<18446744073709551616)(hb:b<18446744073709551616):hiB a b<18446744073709551616:=by unfold hiB;split<;>assumption
theorem three_go(a b c a1 b1 b2 c2 a3 b3 r:Nat)(w:World)
  (L1:Hid (∀w,Calls prog 111 #[.float .f64 a,.float .f64 b] w fun e w'=>e=.returned (.tuple #[.float .f64 a1,.float .f64 b1])/\w'=w))
  (L2:Hid (∀w,Calls prog 111 #[.float .f64 b1,.float .f64 c] w fun e w'=>e=.returned (.tuple #[.float .f64 b2,.float .f64 c2])/\w'=w))
  (L3:Hid (∀w,Calls prog 111 #[.float .f64 a1,.float .f64 b2] w fun e w'=>e=.returned (.tuple #[.float .f64 a3,.float .f64 b3])/\w'=w))
  (T:Hid (Calls prog 112 #[.slice (some ⟨w.heap.size,0,none⟩) 3 3] (w.alloc (.cells #[.float .f64 a3,.float .f64 b3,.float .f64 c2] 47)) fun e w'=>e=.returned (.float .f64 r)/\Hid (Below w.heap.size w w'))):
  Calls prog 99 #[.float .f64 a,.float .f64 b,.float .f64 c] w fun e w'=>e=.returned (.float .f64 r)/\Hid (Below w.heap.size w w'):=by
 go_enter func99,ntmps99
 go_wp2_with fail
 refine(L1.out _).mono ?_
 rintro e w' ⟨rfl,rfl⟩
 go_wp2_with fail
 refine(L2.out _).mono ?_
 rintro e w' ⟨rfl,rfl⟩
 go_wp2_with fail
 refine(L3.out _).mono ?_
 rintro e w' ⟨rfl,rfl⟩
 go_wp2_with fail
 refine T.out.mono ?_
 rintro e w' ⟨rfl,hb⟩
 go_wp2
 go_ret
 exact⟨rfl,hb⟩
theorem three_at(a b c:Nat)(w:World)(ha:a<18446744073709551616)(hb:b<18446744073709551616)(hc:c<18446744073709551616):
  Calls prog 99 #[.float .f64 a,.float .f64 b,.float .f64 c] w fun e w'=>e=.returned (.float .f64 (thB a b c))/\Hid (Below w.heap.size w w'):=by
 have l1:=lo_lt ha hb
 have l2:=hi_lt ha hb
 have l3:=lo_lt l2 hc
 have l4:=hi_lt l2 hc
 refine three_go a b c _ _ _ _ _ _ _ w (fun w=>gV a b w ha hb) (fun w=>gV _ c w l2 hc) (fun w=>gV _ _ w l1 l3) ?_
 have l5:=lo_lt l1 l3
 have l6:=hi_lt l1 l3
 unfold thB
 generalize loB (loB a b) (loB (hiB a b) c)=u at*
 generalize hiB (loB a b) (loB (hiB a b) c)=v at*
 generalize hiB (hiB a b) c=z at*
 have hf:IsFl (w.alloc (.cells #[.float .f64 u,.float .f64 v,.float .f64 z] 47)) (some ⟨w.heap.size,0,none⟩) 3 (fun j=>if j=0 then u else if j=1 then v else z):=by
  refine fl_new w _ _ _ 3 (fun k hk=> ?_)
  rcases(show k=0\/k=1\/k=2 by omega)with rfl | rfl | rfl
  ·exact⟨l5,rfl⟩
  ·exact⟨l6,rfl⟩
  ·exact⟨l4,rfl⟩
 refine(sT _ 3 3 _ _ (Nat.le_refl _) (by decide) hf).mono ?_
 rintro e w' ⟨he,k,rfl⟩
 refine⟨?_,below_drewN ((Below.refl _ _).alloc (Nat.le_refl _) _) k⟩
 rw[he]
 have:leftB (fun j=>if j=0 then u else if j=1 then v else z) 3=plB (plB (qB u) v) z:=rfl
 rw[this,pY]
end
section
open Go.RowKit Tf
theorem aD{P:Program}{w:World}{a:Addr}{m:Mode}(k:FloatKind)(x:Nat):(store a (.float k x) m).run P w=stored P w a (.float k x) m:=run_store P w a _ m rfl
attribute [local go_sem] aF aG aI aJ aK aL aM aD
theorem jS(a b:Nat):Ieee.double.mul (qB a) b=Ieee.double.mul a b:=by
 cases h:isN a
 ·rw[cK h]
 ·rw[fS a b (.inl h),fS _ _ (.inl (by rw[cH];exact h))]
theorem mH(a b:Nat):Ieee.double.mul a (qB b)=Ieee.double.mul a b:=by rw[Go.Proofs.YtlmfpikhlcnjjaaGreatDoor.mul_comm,jS,Go.Proofs.YtlmfpikhlcnjjaaGreatDoor.mul_comm]
theorem fY{P:Program}(w:World)(s q x y:Nat)(h:IsQ s q)(k:IsQ x y): ∃r n,(∀t,(binOp .mul t (.float .f64 s) (.float .f64 x)).run P w=.ok (.float .f64 r) (w.drewN n))/\IsQ r (mlB q y):=by
 have e0:mlB q y=mlB s x:=by unfold mlB;rw[<- h.2,<- k.2,jS,mH]
 rw[e0]
 cases e:Ieee.double.mul s x with
 | none=>exact⟨nanOf w s x,1,fun t=>oA w t s x e,eH _ _ _,by rw[nT e];exact qB_N (dJ _ _ _)⟩
 | some r=>exact⟨r,0,fun t=>run_float_arith w .mul t .f64 s x r e,(jP e h.1 k.1).1,by rw[nS e];exact cK (jP e h.1 k.1).2⟩
theorem addB_q{a b c d:Nat}(hb:b<18446744073709551616)(hd:d<18446744073709551616)(h:qB a=qB c)(k:qB b=qB d):addB a (negB b)=addB c (negB d):=by
 cases h1:isN a
 ·have h2:isN c=false:=by rw[<- cH,<- h,cH];exact h1
  rw[cK h1,cK h2]at h
  subst h
  cases h3:isN b
  ·have h4:isN d=false:=by rw[<- cH,<- k,cH];exact h3
   rw[cK h3,cK h4]at k
   rw[k]
  ·have h4:isN d=true:=by rw[<- cH,<- k,cH];exact h3
   rw[cS (bV _ _ (.inr (by rw[fU hb];exact h3))),cS (bV _ _ (.inr (by rw[fU hd];exact h4)))]
 ·have h2:isN c=true:=by rw[<- cH,<- h,cH];exact h1
  rw[cS (bV _ _ (.inl h1)),cS (bV _ _ (.inl h2))]
def IsC(s q:Nat):Prop:=s<18446744073709551616/\canonB s=q
theorem iR{P:Program}(w:World)(s q x y:Nat)(h:IsQ s q)(k:IsQ x y): ∃r n,(∀t,(binOp .sub t (.float .f64 s) (.float .f64 x)).run P w=.ok (.float .f64 r) (w.drewN n))/\IsC r (sbB q y):=by
 have e0:sbB q y=addB s (negB x):=addB_q k.lt k.1 (by rw[<- h.2,qB_qB]) (by rw[<- k.2,qB_qB])
 rw[e0]
 have ea:=sub_add s x k.1
 cases e:Ieee.double.sub s x with
 | none=>
  refine⟨nanOf w s x,1,fun t=>nY w t s x e,eH _ _ _,?_⟩
  rw[cS (by rw[<- ea];exact e)]
  unfold canonB;rw[if_pos (dJ _ _ _)]
 | some r=>
  rw[e]at ea
  exact⟨r,0,fun t=>run_float_arith w .sub t .f64 s x r e,(gR h.1 (dI k.1) ea.symm).1,by rw[gQ ea.symm]⟩
theorem oG{P:Program}(w:World)(t:TypeId)(x y:Nat)(h:Ieee.double.div x y=none):
  (binOp .quo t (.float .f64 x) (.float .f64 y)).run P w=.ok (.float .f64 (nanOf w x y)) w.drew:=by
 have h':FloatKind.f64.format.div x y=none:=h
 simp[binOp,Op.floatArith,h',nanOf,Question.forced]
theorem div_lt{x y r:Nat}(h:Ieee.double.div x y=some r):r<18446744073709551616:=Ieee.Format.div_lt Ieee.double h
theorem iT{P:Program}(w:World)(s x:Nat): ∃r n,(∀t,(binOp .quo t (.float .f64 s) (.float .f64 x)).run P w=.ok (.float .f64 r) (w.drewN n))/\IsC r (dvB s x):=by
 cases e:Ieee.double.div s x with
 | none=>exact⟨nanOf w s x,1,fun t=>oG w t s x e,eH _ _ _,by rw[jQ e];unfold canonB;rw[if_pos (dJ _ _ _)]⟩
 | some r=>exact⟨r,0,fun t=>run_float_arith w .quo t .f64 s x r e,div_lt e,by rw[fW e]⟩
theorem sqrt_lt{x r:Nat}(h:Ieee.double.sqrt x=some r):r<18446744073709551616:=Ieee.Format.sqrt_lt Ieee.double h
theorem run_sqrt(x:Nat)(w:World): ∃r n,(callFunc 110 #[.float .f64 x]).run prog w=.ok (.value (.float .f64 r)) (w.drewN n)/\IsC r (rtB x):=by
 have e0:Extern.MathSqrt.sqrt #[.float .f64 x]=(match FloatKind.f64.format.sqrt x with | some r=>pure (.float .f64 r) | none=>do pure (.float .f64 (<- choose (.nanBits .f64 x x)))):=rfl
 rw[run_callFunc_extern (e:=Extern.MathSqrt.sqrt) func110 (by kernel_rfl) (by kernel_rfl) (by kernel_rfl) (by kernel_rfl),e0]
 cases e:Ieee.double.sqrt x with
 | none=>
  refine⟨nanOf w x x,1,?_,eH _ _ _,by rw[nV e];unfold canonB;rw[if_pos (dJ _ _ _)]⟩
  have h':FloatKind.f64.format.sqrt x=none:=e
  rw[h']
  simp[nanOf,Question.forced]
  rfl
 | some r=>
  refine⟨r,0,?_,sqrt_lt e,by rw[nU e]⟩
  have h':FloatKind.f64.format.sqrt x=some r:=e
  rw[h']
  simp
  rfl
theorem gW(x:Nat)(w:World)(hx:x<18446744073709551616):
  Calls prog 100 #[.float .f64 x] w fun e w'=> ∃r n,e=.returned (.float .f64 r)/\w'=w.drewN n/\IsQ r (sqB x):=by
 obtain⟨r,n,hr,hq⟩:=fY (P:=prog) w x _ x _ (IsQ.self hx) (IsQ.self hx)
 have HQ:Hid (IsQ r (sqB x)):=by unfold sqB mlB;rw[<- jS,<- mH];exact hq
 clear hq hx
 go_enter func100,ntmps100
 go_wp2
 go_ret
 exact⟨r,n,rfl,rfl,HQ.out⟩
theorem mI(x y u v:Nat)(w:World)(hx:x<18446744073709551616)(hy:y<18446744073709551616)(hu:u<18446744073709551616)(hv:v<18446744073709551616):
  Calls prog 102 #[.float .f64 x,.float .f64 y,.float .f64 u,.float .f64 v] w fun e w'=> ∃r n,e=.returned (.float .f64 r)/\w'=w.drewN n/\IsC r (sbB (mlB x v) (mlB y u)):=by
 obtain⟨p,n,hp,pq⟩:=fY (P:=prog) w x _ v _ (IsQ.self hx) (IsQ.self hv)
 obtain⟨q,m,hq,qq⟩:=fY (P:=prog) (w.drewN n) y _ u _ (IsQ.self hy) (IsQ.self hu)
 obtain⟨r,l,hr,rr⟩:=iR (P:=prog) (w.drewN (n+m)) p _ q _ pq qq
 rw[World.drewN_drewN]at hq hr
 have HQ:Hid (IsC r (sbB (mlB x v) (mlB y u))):=by
  have e1:mlB x v=mlB (qB x) (qB v):=by unfold mlB;rw[jS,mH]
  have e2:mlB y u=mlB (qB y) (qB u):=by unfold mlB;rw[jS,mH]
  rw[e1,e2];exact rr
 clear pq qq rr hx hy hu hv
 go_enter func102,ntmps102
 go_wp2
 go_ret
 exact⟨r,_,rfl,rfl,HQ.out⟩
theorem sqrt_at(x:Nat)(w:World):
  Calls prog 98 #[.float .f64 x] w fun e w'=> ∃r n,e=.returned (.float .f64 r)/\w'=w.drewN n/\IsC r (rtB x):=by
 obtain⟨r,n,hr,hq⟩:=run_sqrt x w
 have HQ:=hid hq
 clear hq
 go_enter func98,ntmps98
 go_wp2
 go_ret
 exact⟨r,n,rfl,rfl,HQ.out⟩
theorem gX(x y z a b c:Nat)(w:World)(hx:IsC x a)(hy:IsC y b)(hz:IsC z c):
  Calls prog 101 #[.float .f64 x,.float .f64 y,.float .f64 z] w fun e w'=>e=.returned (.agg #[.float .f64 a,.float .f64 b,.float .f64 c])/\Below w.heap.size w w':=by
 obtain⟨x1,x2⟩:=hx
 obtain⟨y1,y2⟩:=hy
 obtain⟨z1,z2⟩:=hz
 have CX:Hid (∀w,Calls prog 93 #[.float .f64 x] w fun e w'=>e=.returned (.float .f64 a)/\w'=w):=fun w=>by rw[<- x2];exact bW x w x1
 have CY:Hid (∀w,Calls prog 93 #[.float .f64 y] w fun e w'=>e=.returned (.float .f64 b)/\w'=w):=fun w=>by rw[<- y2];exact bW y w y1
 have CZ:Hid (∀w,Calls prog 93 #[.float .f64 z] w fun e w'=>e=.returned (.float .f64 c)/\w'=w):=fun w=>by rw[<- z2];exact bW z w z1
 have A0:=hid (bl1 w (.cells #[.float .f64 0,.float .f64 0,.float .f64 0] 123))
 have r0:=heap_alloc_new w (.cells #[.float .f64 0,.float .f64 0,.float .f64 0] 123)
 have R0:=hid r0
 clear x1 x2 y1 y2 z1 z2 r0
 go_enter func101,ntmps101
 go_wp2_with fail
 refine(CX.out _).mono ?_
 rintro e W ⟨rfl,hW⟩
 have r1:W.heap[w.heap.size]? =some (.cells #[.float .f64 0,.float .f64 0,.float .f64 0] 123):=by rw[hW];exact R0.out
 have A1:Hid (Ab w W):=by rw[hW];exact A0.out
 obtain⟨⟨o0,o1,o2⟩,o3,o4,o5⟩:=rowfacts r1
 have R1:=hid r1
 clear hW r1 A0 R0
 go_wp2_with fail
 refine(CY.out _).mono ?_
 rintro e W ⟨rfl,rfl⟩
 go_wp2_with fail
 refine(CZ.out _).mono ?_
 rintro e W ⟨rfl,rfl⟩
 go_wp2
 refine bodyPost_ret ?_ rfl ⟨rfl,?_⟩
 ·exact results_cell_row results101 _ _ w.heap.size _ _ (0,0) _ rfl (jA R1.out) underlying123 rfl (by kernel_rfl)
 ·exact((Ab.setk A1.out (Nat.le_refl _) _).setk (Nat.le_refl _) _).setk (Nat.le_refl _) _
end
section
open Go.RowKit Tf
attribute [local go_sem] aF aG aI aJ aK aL aM aD
theorem sbB_q{a b:Nat}(hb:b<18446744073709551616):sbB (qB a) (qB b)=sbB a b:=addB_q (qB_lt hb) hb (qB_qB a) (qB_qB b)
theorem Abx.drewN{W w:World}{g n:Nat}{T:TypeId}(h:Abx W g n T w)(k:Nat):Abx W g n T (w.drewN k):=h
theorem W3rows(w:World)(A B C:Obj):(((w.alloc A).alloc B).alloc C).heap[w.heap.size]? =some A/\(((w.alloc A).alloc B).alloc C).heap[w.heap.size+1]? =some B/\(((w.alloc A).alloc B).alloc C).heap[w.heap.size+1+1]? =some C:=by
 refine⟨?_,?_,eC _ _ _ _⟩
 ·rw[Below.heap_alloc _ _ _ (by simp;omega)];exact heap_alloc2_old _ _ _
 ·rw[Below.heap_alloc _ _ _ (by simp)];exact heap_alloc2_new _ _ _
theorem oH(x y z u v t:Nat)(w:World)(hx:x<18446744073709551616)(hy:y<18446744073709551616)(hz:z<18446744073709551616)(hu:u<18446744073709551616)(hv:v<18446744073709551616)(ht:t<18446744073709551616):
  Calls prog 87 #[.agg #[.float .f64 x,.float .f64 y,.float .f64 z],.agg #[.float .f64 u,.float .f64 v,.float .f64 t]] w fun e w'=>e=.returned (.agg #[.float .f64 (sbB x u),.float .f64 (sbB y v),.float .f64 (sbB z t)])/\Below w.heap.size w w':=by
 obtain⟨r1,n1,k1,q1⟩:=iR (P:=prog) (((w.alloc (.cells #[.float .f64 x,.float .f64 y,.float .f64 z] 123)).alloc (.cells #[.float .f64 u,.float .f64 v,.float .f64 t] 123)).alloc (.cells #[.float .f64 0,.float .f64 0,.float .f64 0] 123)) x _ u _ (IsQ.self hx) (IsQ.self hu)
 obtain⟨r2,n2,k2,q2⟩:=iR (P:=prog) ((((w.alloc (.cells #[.float .f64 x,.float .f64 y,.float .f64 z] 123)).alloc (.cells #[.float .f64 u,.float .f64 v,.float .f64 t] 123)).alloc (.cells #[.float .f64 0,.float .f64 0,.float .f64 0] 123)).drewN n1) y _ v _ (IsQ.self hy) (IsQ.self hv)
 obtain⟨r3,n3,k3,q3⟩:=iR (P:=prog) ((((w.alloc (.cells #[.float .f64 x,.float .f64 y,.float .f64 z] 123)).alloc (.cells #[.float .f64 u,.float .f64 v,.float .f64 t] 123)).alloc (.cells #[.float .f64 0,.float .f64 0,.float .f64 0] 123)).drewN (n1+n2)) z _ t _ (IsQ.self hz) (IsQ.self ht)
 rw[World.drewN_drewN]at k2 k3
 rw[sbB_q hu]at q1
 rw[sbB_q hv]at q2
 rw[sbB_q ht]at q3
 have CN:=hid (fun w=>gX r1 r2 r3 _ _ _ w q1 q2 q3)
 have A0:=hid (bl3 w (.cells #[.float .f64 x,.float .f64 y,.float .f64 z] 123) (.cells #[.float .f64 u,.float .f64 v,.float .f64 t] 123) (.cells #[.float .f64 0,.float .f64 0,.float .f64 0] 123))
 have R0:=hid (W3rows w (.cells #[.float .f64 x,.float .f64 y,.float .f64 z] 123) (.cells #[.float .f64 u,.float .f64 v,.float .f64 t] 123) (.cells #[.float .f64 0,.float .f64 0,.float .f64 0] 123))
 clear q1 q2 q3 hx hy hz hu hv ht
 go_enter func87,ntmps87
 go_wp2_with fail
 refine(CN.out _).mono ?_
 rintro e w4 ⟨rfl,b4⟩
 have A4:Hid (Ab w w4):=Ab.call (Ab.drewN A0.out _) b4
 have r0:w4.heap[w.heap.size+1+1]? =some (.cells #[.float .f64 0,.float .f64 0,.float .f64 0] 123):=Ab.heap b4 R0.out.2.2
 obtain⟨⟨o0,o1,o2⟩,o3,o4,o5⟩:=rowfacts r0
 have R4:=hid r0
 clear r0 b4 A0 R0 k1 k2 k3
 go_wp2
 refine bodyPost_ret ?_ rfl ⟨rfl,?_⟩
 ·exact results_cell_row results87 _ _ (w.heap.size+1+1) _ _ (0,0) _ rfl (jA R4.out) underlying123 rfl (by kernel_rfl)
 ·exact((Ab.setk A4.out (by omega) _).setk (by omega) _).setk (by omega) _
theorem cross_at(x y z u v t:Nat)(w:World)(hx:x<18446744073709551616)(hy:y<18446744073709551616)(hz:z<18446744073709551616)(hu:u<18446744073709551616)(hv:v<18446744073709551616)(ht:t<18446744073709551616):
  Calls prog 86 #[.agg #[.float .f64 x,.float .f64 y,.float .f64 z],.agg #[.float .f64 u,.float .f64 v,.float .f64 t]] w fun e w'=>e=.returned (.agg #[.float .f64 (sbB (mlB y t) (mlB z v)),.float .f64 (sbB (mlB z u) (mlB x t)),.float .f64 (sbB (mlB x v) (mlB y u))])/\Below w.heap.size w w':=by
 obtain⟨c0,hc0⟩:=aB (sbB (mlB y t) (mlB z v))
 obtain⟨c1,hc1⟩:=aB (sbB (mlB z u) (mlB x t))
 obtain⟨c2,hc2⟩:=aB (sbB (mlB x v) (mlB y u))
 rw[hc0,hc1,hc2]
 have T0:Hid (∀u0,Calls prog 102 #[.float .f64 y,.float .f64 z,.float .f64 v,.float .f64 t] u0 fun e w'=> ∃r n,e=.returned (.float .f64 r)/\w'=u0.drewN n/\Hid (IsC r c0)):=fun u0=>by rw[<- hc0];exact mI y z v t u0 hy hz hv ht
 have T1:Hid (∀u0,Calls prog 102 #[.float .f64 z,.float .f64 x,.float .f64 t,.float .f64 u] u0 fun e w'=> ∃r n,e=.returned (.float .f64 r)/\w'=u0.drewN n/\Hid (IsC r c1)):=fun u0=>by rw[<- hc1];exact mI z x t u u0 hz hx ht hu
 have T2:Hid (∀u0,Calls prog 102 #[.float .f64 x,.float .f64 y,.float .f64 u,.float .f64 v] u0 fun e w'=> ∃r n,e=.returned (.float .f64 r)/\w'=u0.drewN n/\Hid (IsC r c2)):=fun u0=>by rw[<- hc2];exact mI x y u v u0 hx hy hu hv
 have CN:=hid (fun r1 r2 r3 w (q1:IsC r1 c0) (q2:IsC r2 c1) (q3:IsC r3 c2)=>gX r1 r2 r3 _ _ _ w q1 q2 q3)
 have A0:=hid (bl3 w (.cells #[.float .f64 x,.float .f64 y,.float .f64 z] 123) (.cells #[.float .f64 u,.float .f64 v,.float .f64 t] 123) (.cells #[.float .f64 0,.float .f64 0,.float .f64 0] 123))
 have R0:=hid (W3rows w (.cells #[.float .f64 x,.float .f64 y,.float .f64 z] 123) (.cells #[.float .f64 u,.float .f64 v,.float .f64 t] 123) (.cells #[.float .f64 0,.float .f64 0,.float .f64 0] 123))
 clear hx hy hz hu hv ht hc0 hc1 hc2
 go_enter func86,ntmps86
 go_upto_region 1 with fail
 generalize hW:World.alloc _ _=W
 have AW:Hid (Ab w W):=by rw[<- hW];exact A0.out
 have ra:W.heap[w.heap.size]? =some (.cells #[.float .f64 x,.float .f64 y,.float .f64 z] 123):=by rw[<- hW];exact R0.out.1
 have rb:W.heap[w.heap.size+1]? =some (.cells #[.float .f64 u,.float .f64 v,.float .f64 t] 123):=by rw[<- hW];exact R0.out.2.1
 have rc:W.heap[w.heap.size+1+1]? =some (.cells #[.float .f64 0,.float .f64 0,.float .f64 0] 123):=by rw[<- hW];exact R0.out.2.2
 have KS:Hid (∀w',Abx W (w.heap.size+1+1) 3 123 w'->Abx W (w.heap.size+1+1) 3 123 w'/\w'.cell? ⟨w.heap.size,0,none⟩=some (.float .f64 x)/\w'.cell? ⟨w.heap.size,1,none⟩=some (.float .f64 y)/\w'.cell? ⟨w.heap.size,2,none⟩=some (.float .f64 z)/\w'.cell? ⟨w.heap.size+1,0,none⟩=some (.float .f64 u)/\w'.cell? ⟨w.heap.size+1,1,none⟩=some (.float .f64 v)/\w'.cell? ⟨w.heap.size+1,2,none⟩=some (.float .f64 t)/\w'.frozen? ⟨w.heap.size+1+1,0,none⟩=false/\w'.frozen? ⟨w.heap.size+1+1,1,none⟩=false/\w'.frozen? ⟨w.heap.size+1+1,2,none⟩=false/\w'.cell? ⟨w.heap.size+1+1,0,none⟩=some (rv w' (w.heap.size+1+1) 0)/\w'.cell? ⟨w.heap.size+1+1,1,none⟩=some (rv w' (w.heap.size+1+1) 1)/\w'.cell? ⟨w.heap.size+1+1,2,none⟩=some (rv w' (w.heap.size+1+1) 2)):=by
  intro w' hw
  obtain⟨-,p3,p4,p5⟩:=rowfacts (hw.heap (by omega) ra)
  obtain⟨-,p6,p7,p8⟩:=rowfacts (hw.heap (by omega) rb)
  exact⟨hw,p3,p4,p5,p6,p7,p8,hw.free 0,hw.free 1,hw.free 2,hw.some (by omega),hw.some (by omega),hw.some (by omega)⟩
 have A1:Abx W (w.heap.size+1+1) 3 123 W:=(Ab.refl W).x rfl rc
 clear ra rb rc hW A0 R0
 go_region_held3 (fun w'=>Abx W (w.heap.size+1+1) 3 123 w'/\w'.cell? ⟨w.heap.size,0,none⟩=some (.float .f64 x)/\w'.cell? ⟨w.heap.size,1,none⟩=some (.float .f64 y)/\w'.cell? ⟨w.heap.size,2,none⟩=some (.float .f64 z)/\w'.cell? ⟨w.heap.size+1,0,none⟩=some (.float .f64 u)/\w'.cell? ⟨w.heap.size+1,1,none⟩=some (.float .f64 v)/\w'.cell? ⟨w.heap.size+1,2,none⟩=some (.float .f64 t)/\w'.frozen? ⟨w.heap.size+1+1,0,none⟩=false/\w'.frozen? ⟨w.heap.size+1+1,1,none⟩=false/\w'.frozen? ⟨w.heap.size+1+1,2,none⟩=false/\w'.cell? ⟨w.heap.size+1+1,0,none⟩=some (rv w' (w.heap.size+1+1) 0)/\w'.cell? ⟨w.heap.size+1+1,1,none⟩=some (rv w' (w.heap.size+1+1) 1)/\w'.cell? ⟨w.heap.size+1+1,2,none⟩=some (rv w' (w.heap.size+1+1) 2)) ((refine KS.out _ ?_;(with_reducible (repeat(first | assumption | apply Abx.drew | apply Abx.drewN | apply Abx.set | (refine Abx.call ?_ (by assumption)))));done)) (first
  | (go_at_call 102;have hh:=q2.out;refine(T2.out _).mono ?_;rintro e w3 ⟨r3,n3,rfl,rfl,q3⟩)
  | (go_at_call 102;have hh:=q1.out;refine(T1.out _).mono ?_;rintro e w2 ⟨r2,n2,rfl,rfl,q2⟩)
  | (go_at_call 102;refine(T0.out _).mono ?_;rintro e w1 ⟨r1,n1,rfl,rfl,q1⟩)
  | (go_at_call 101;refine(CN.out _ _ _ _ q1.out q2.out q3.out).mono ?_;rintro e w4 ⟨rfl,b4⟩))
 have A2:Abx W (w.heap.size+1+1) 3 123 w4:=Abx.call (A1.drewN _) b4
 clear KS A1 b4
 go_wp2
 refine bodyPost_ret ?_ rfl ⟨rfl,?_⟩
 ·exact results_cell_row results86 _ _ (w.heap.size+1+1) _ _ (0,0) _ rfl (set3 A2) underlying123 rfl (by kernel_rfl)
 ·exact(((A2.set 0 _).set 1 _).set 2 _).ab AW.out (by omega)
theorem gY(x y z:Nat)(w:World)(hx:x<18446744073709551616)(hy:y<18446744073709551616)(hz:z<18446744073709551616):
  Calls prog 85 #[.agg #[.float .f64 x,.float .f64 y,.float .f64 z]] w fun e w'=>e=.returned (.float .f64 (lnB x y z))/\Below w.heap.size w w':=by
 obtain⟨T,hT⟩:=aB (thB (sqB x) (sqB y) (sqB z))
 obtain⟨l,hl⟩:=aB (lnB x y z)
 have hlT:rtB T=l:=by rw[<- hT,<- hl];rfl
 rw[hl]
 have TH:Hid (∀r1 r2 r3 u0,IsQ r1 (sqB x)->IsQ r2 (sqB y)->IsQ r3 (sqB z)->Calls prog 99 #[.float .f64 r1,.float .f64 r2,.float .f64 r3] u0 fun e w'=>e=.returned (.float .f64 T)/\Below u0.heap.size u0 w'):=fun r1 r2 r3 u0 q1 q2 q3=>by
  rw[<- hT,<- q1.2,<- q2.2,<- q3.2,<- thB_q]
  exact three_at r1 r2 r3 u0 q1.1 q2.1 q3.1
 have T0:Hid (∀u0,Calls prog 100 #[.float .f64 x] u0 fun e w'=> ∃r n,e=.returned (.float .f64 r)/\w'=u0.drewN n/\Hid (IsQ r (sqB x))):=fun u0=>gW x u0 hx
 have T1:Hid (∀u0,Calls prog 100 #[.float .f64 y] u0 fun e w'=> ∃r n,e=.returned (.float .f64 r)/\w'=u0.drewN n/\Hid (IsQ r (sqB y))):=fun u0=>gW y u0 hy
 have T2:Hid (∀u0,Calls prog 100 #[.float .f64 z] u0 fun e w'=> ∃r n,e=.returned (.float .f64 r)/\w'=u0.drewN n/\Hid (IsQ r (sqB z))):=fun u0=>gW z u0 hz
 have SQ:Hid (∀u0,Calls prog 98 #[.float .f64 T] u0 fun e w'=> ∃r n,e=.returned (.float .f64 r)/\w'=u0.drewN n/\Hid (IsC r l)):=fun u0=>by rw[<- hlT];exact sqrt_at T u0
 have CN:Hid (∀r u0,IsC r l->Calls prog 93 #[.float .f64 r] u0 fun e w'=>e=.returned (.float .f64 l)/\w'=u0):=fun r u0 q=>by rw[<- q.2];exact bW r u0 q.1
 have A0:=hid (bl1 w (.cells #[.float .f64 x,.float .f64 y,.float .f64 z] 123))
 have R0:=hid (heap_alloc_new w (.cells #[.float .f64 x,.float .f64 y,.float .f64 z] 123))
 clear hx hy hz hT hl hlT
 go_enter func85,ntmps85
 go_upto_region 1 with fail
 generalize hW:World.alloc _ _=W
 have AW:Hid (Ab w W):=by rw[<- hW];exact A0.out
 have ra:W.heap[w.heap.size]? =some (.cells #[.float .f64 x,.float .f64 y,.float .f64 z] 123):=by rw[<- hW];exact R0.out
 have KS:Hid (∀w',Ab W w'->Ab W w'/\w'.cell? ⟨w.heap.size,0,none⟩=some (.float .f64 x)/\w'.cell? ⟨w.heap.size,1,none⟩=some (.float .f64 y)/\w'.cell? ⟨w.heap.size,2,none⟩=some (.float .f64 z)):=by
  intro w' hw
  obtain⟨-,p3,p4,p5⟩:=rowfacts (hw.heap ra)
  exact⟨hw,p3,p4,p5⟩
 have A1:Ab W W:=Ab.refl W
 clear ra hW A0 R0
 go_region_held3 (fun w'=>Ab W w'/\w'.cell? ⟨w.heap.size,0,none⟩=some (.float .f64 x)/\w'.cell? ⟨w.heap.size,1,none⟩=some (.float .f64 y)/\w'.cell? ⟨w.heap.size,2,none⟩=some (.float .f64 z)) ((refine KS.out _ ?_;(with_reducible (repeat(first | assumption | apply Ab.drew | apply Ab.drewN | (refine Ab.call ?_ (by assumption)))));done)) (first
  | (go_at_call 100;have hh:=q2.out;refine(T2.out _).mono ?_;rintro e w3 ⟨r3,n3,rfl,rfl,q3⟩)
  | (go_at_call 100;have hh:=q1.out;refine(T1.out _).mono ?_;rintro e w2 ⟨r2,n2,rfl,rfl,q2⟩)
  | (go_at_call 100;refine(T0.out _).mono ?_;rintro e w1 ⟨r1,n1,rfl,rfl,q1⟩)
  | (go_at_call 99;refine(TH.out _ _ _ _ q1.out q2.out q3.out).mono ?_;rintro e w4 ⟨rfl,b4⟩)
  | (go_at_call 98;refine(SQ.out _).mono ?_;rintro e w5 ⟨r5,n5,rfl,rfl,q5⟩)
  | (go_at_call 93;refine(CN.out _ _ q5.out).mono ?_;rintro e w6 ⟨rfl,rfl⟩))
 have A2:Hid (Ab w w4):=Ab.call (Ab.drewN AW.out _) b4
 clear KS A1 b4
 go_wp2
 go_ret
 exact⟨rfl,Ab.drewN A2.out _⟩
theorem jT(x y z u v t:Nat)(w:World)(hx:x<18446744073709551616)(hy:y<18446744073709551616)(hz:z<18446744073709551616)(hu:u<18446744073709551616)(hv:v<18446744073709551616)(ht:t<18446744073709551616):
  Calls prog 89 #[.agg #[.float .f64 x,.float .f64 y,.float .f64 z],.agg #[.float .f64 u,.float .f64 v,.float .f64 t]] w fun e w'=>e=.returned (.float .f64 (lnB (sbB x u) (sbB y v) (sbB z t)))/\Below w.heap.size w w':=by
 have MI:=hid (fun w=>oH x y z u v t w hx hy hz hu hv ht)
 have LN:=hid (fun w=>gY _ _ _ w (aV hx hu) (aV hy hv) (aV hz ht))
 have A0:=hid (bl2 w (.cells #[.float .f64 x,.float .f64 y,.float .f64 z] 123) (.cells #[.float .f64 u,.float .f64 v,.float .f64 t] 123))
 clear hx hy hz hu hv ht
 go_enter func89,ntmps89
 go_wp2_with fail
 refine(MI.out _).mono ?_
 rintro e w1 ⟨rfl,b1⟩
 go_wp2_with fail
 refine(LN.out _).mono ?_
 rintro e w2 ⟨rfl,b2⟩
 have A2:Hid (Ab w w2):=(Ab.call A0.out b1).call b2
 clear b1 b2 A0
 go_wp2
 go_ret
 exact⟨rfl,A2.out⟩
end
section
open Go.RowKit Tf
attribute [local go_sem] aF aG aI aJ aK aL aM aD
def lvB(l:Nat):Bool:=fgt l 0&& !fgt l 9218868437227405311
def unB(l x:Nat):Nat:=if lvB l=true then dvB x l else 0
theorem qC(l x:Nat):unB l x<18446744073709551616:=by
 unfold unB
 split
 ·unfold dvB
  split
  ·next r h=>exact jR (div_lt h)
  ·decide
 ·decide
theorem isInf_at(x:Nat)(w:World):
  Calls prog 119 #[.float .f64 x,.int .i64 1] w fun e w'=>e=.returned (.bool (fgt x 9218868437227405311))/\w'=w:=by
 go_enter func119,ntmps119
 go_wp2
 go_ret
 exact⟨rfl,rfl⟩
theorem unit_at(x y z:Nat)(w:World)(hx:x<18446744073709551616)(hy:y<18446744073709551616)(hz:z<18446744073709551616):
  Calls prog 114 #[.agg #[.float .f64 x,.float .f64 y,.float .f64 z]] w fun e w'=>e=.returned (.agg #[.float .f64 (unB (lnB x y z) x),.float .f64 (unB (lnB x y z) y),.float .f64 (unB (lnB x y z) z)])/\Below w.heap.size w w':=by
 have LN:=hid (fun w=>gY x y z w hx hy hz)
 obtain⟨l,hl⟩:=aB (lnB x y z)
 rw[hl]
 rw[hl]at LN
 have IF:=hid (fun w=>isInf_at l w)
 have A0:=hid (bl2 w (.cells #[.float .f64 x,.float .f64 y,.float .f64 z] 123) (.cells #[.float .f64 0,.float .f64 0,.float .f64 0] 123))
 have R0:=hid (And.intro (heap_alloc2_old w (.cells #[.float .f64 x,.float .f64 y,.float .f64 z] 123) (.cells #[.float .f64 0,.float .f64 0,.float .f64 0] 123)) (heap_alloc2_new w (.cells #[.float .f64 x,.float .f64 y,.float .f64 z] 123) (.cells #[.float .f64 0,.float .f64 0,.float .f64 0] 123)))
 clear hx hy hz hl
 obtain⟨p1,hp1⟩:=aB (fgt l 0)
 obtain⟨p2,hp2⟩:=aB (fgt l 9218868437227405311)
 rw[hp2]at IF
 cases p1 with
 | false=>
  have hu: ∀k,unB l k=0:=fun k=>by simp[unB,lvB,hp1]
  rw[hu,hu,hu]
  clear hu
  go_enter func114,ntmps114
  go_wp2_with fail
  refine(LN.out _).mono ?_
  rintro e w1 ⟨rfl,b1⟩
  have r0:w1.heap[w.heap.size+1]? =some (.cells #[.float .f64 0,.float .f64 0,.float .f64 0] 123):=Ab.heap b1 R0.out.2
  have A1:Hid (Ab w w1):=Ab.call A0.out b1
  obtain⟨⟨o0,o1,o2⟩,o3,o4,o5⟩:=rowfacts r0
  have R1:=hid r0
  clear r0 b1 A0 R0
  go_wp2
  refine bodyPost_ret ?_ rfl ⟨rfl,?_⟩
  ·exact results_cell_row results114 _ _ (w.heap.size+1) _ _ (0,0) _ rfl (jA R1.out) underlying123 rfl (by kernel_rfl)
  ·exact((Ab.setk A1.out (by omega) _).setk (by omega) _).setk (by omega) _
 | true=>
  cases p2 with
  | true=>
   have hu: ∀k,unB l k=0:=fun k=>by simp[unB,lvB,hp2]
   rw[hu,hu,hu]
   clear hu hp2
   go_enter func114,ntmps114
   go_wp2_with fail
   refine(LN.out _).mono ?_
   rintro e w1 ⟨rfl,b1⟩
   have r0:w1.heap[w.heap.size+1]? =some (.cells #[.float .f64 0,.float .f64 0,.float .f64 0] 123):=Ab.heap b1 R0.out.2
   have A1:Hid (Ab w w1):=Ab.call A0.out b1
   obtain⟨⟨o0,o1,o2⟩,o3,o4,o5⟩:=rowfacts r0
   have R1:=hid r0
   clear r0 b1 A0 R0
   go_wp2_with fail
   refine(IF.out _).mono ?_
   rintro e w1 ⟨rfl,rfl⟩
   go_wp2
   refine bodyPost_ret ?_ rfl ⟨rfl,?_⟩
   ·exact results_cell_row results114 _ _ (w.heap.size+1) _ _ (0,0) _ rfl (jA R1.out) underlying123 rfl (by kernel_rfl)
   ·exact((Ab.setk A1.out (by omega) _).setk (by omega) _).setk (by omega) _
  | false=>
   have hu: ∀k,unB l k=dvB k l:=fun k=>by simp[unB,lvB,hp1,hp2]
   rw[hu,hu,hu]
   clear hu hp2
   go_enter func114,ntmps114
   go_wp2_with fail
   refine(LN.out _).mono ?_
   rintro e w1 ⟨rfl,b1⟩
   have r0:w1.heap[w.heap.size+1]? =some (.cells #[.float .f64 0,.float .f64 0,.float .f64 0] 123):=Ab.heap b1 R0.out.2
   have ra:w1.heap[w.heap.size]? =some (.cells #[.float .f64 x,.float .f64 y,.float .f64 z] 123):=Ab.heap b1 R0.out.1
   have A1:Hid (Ab w w1):=Ab.call A0.out b1
   obtain⟨-,a0,a1,a2⟩:=rowfacts ra
   have R1:=hid r0
   obtain⟨r1,n1,k1,q1⟩:=iT (P:=prog) w1 x l
   obtain⟨r2,n2,k2,q2⟩:=iT (P:=prog) (w1.drewN n1) y l
   obtain⟨r3,n3,k3,q3⟩:=iT (P:=prog) (w1.drewN (n1+n2)) z l
   rw[World.drewN_drewN]at k2 k3
   have CN:=hid (fun w=>gX r1 r2 r3 _ _ _ w q1 q2 q3)
   clear r0 ra b1 A0 R0 q1 q2 q3
   go_wp2_with fail
   refine(IF.out _).mono ?_
   rintro e w1 ⟨rfl,rfl⟩
   go_wp2_with fail
   refine(CN.out _).mono ?_
   rintro e w4 ⟨rfl,b4⟩
   have A4:Hid (Ab w w4):=Ab.call (Ab.drewN A1.out _) b4
   have r4:w4.heap[w.heap.size+1]? =some (.cells #[.float .f64 0,.float .f64 0,.float .f64 0] 123):=Ab.heap b4 R1.out
   obtain⟨⟨o0,o1,o2⟩,o3,o4,o5⟩:=rowfacts r4
   have R4:=hid r4
   clear r4 b4 A1 R1 k1 k2 k3 a0 a1 a2
   go_wp2
   refine bodyPost_ret ?_ rfl ⟨rfl,?_⟩
   ·exact results_cell_row results114 _ _ (w.heap.size+1) _ _ (0,0) _ rfl (jA R4.out) underlying123 rfl (by kernel_rfl)
   ·exact((Ab.setk A4.out (by omega) _).setk (by omega) _).setk (by omega) _
end
section
open Go.RowKit Tf
attribute [local go_sem] aF aG aI aJ aK aL aM aD
open Ieee in
theorem rtB_lt(x:Nat):rtB x<18446744073709551616:=by
 cases h:Ieee.double.sqrt x with
 | none=>rw[nV h];decide
 | some r=>rw[nU h];exact jR (sqrt_lt h)
end
section
open Tf Ieee Cu
def cn(x:Nat):Nat:=canonB (negB x)
theorem eI{x:Nat}(_:x<18446744073709551616):(isN x=true/\canonB x=quiet)\/(mg x=0/\canonB x=0)\/(isN x=false/\mg x≠0/\canonB x=x):=by
 unfold canonB
 cases h:isN x
 ·by_cases c:mg x=0
  ·exact .inr (.inl ⟨c,by simp[c]⟩)
  ·exact .inr (.inr ⟨rfl,c,by simp[c]⟩)
 ·exact .inl ⟨rfl,by simp⟩
theorem oI{x:Nat}(hx:x<18446744073709551616):cn (canonB x)=cn x:=by
 have h1:=fU hx
 have h2:=iP hx
 rcases eI hx with⟨h,e⟩ | ⟨h,e⟩ | ⟨h,k,e⟩
 ·rw[e];unfold cn canonB;rw[h1,h,if_pos rfl];decide
 ·rw[e];unfold cn
  have:canonB (negB x)=0:=by
   rcases eI (dI hx)with⟨a,b⟩ | ⟨a,b⟩ | ⟨a,a',b⟩
   ·rw[h1]at a;unfold isN at a;rw[h]at a;simp at a
   ·exact b
   ·rw[h2]at a';exact absurd h a'
  rw[this];decide
 ·rw[e]
theorem oJ(s:Bool)(m:Nat)(p:Int):double.nearest (!s) m p=negB (double.nearest s m p):=by
 have hw: ∀(s:Bool) r,r<9223372036854775808->double.word (!s) r=negB (double.word s r):=by
  intro s r hr
  rw[dP,dP]
  cases s
  ·simp only[Bool.not_false,if_true,Bool.false_eq_true,if_false]
   unfold negB;rw[fP hr];simp;omega
  ·simp only[Bool.not_true,if_true,Bool.false_eq_true,if_false]
   unfold negB;rw[jL (by omega)];simp
 unfold Format.nearest
 by_cases c:m=0
 ·rw[if_pos c,if_pos c];exact hw s 0 (by omega)
 ·rw[if_neg c,if_neg c]
  have hm: ∀x,min x double.infRung<9223372036854775808:=fun x=>by
   have:=Nat.min_le_right x double.infRung
   rw[aY]at this ⊢;omega
  exact hw s _ (hm _)
theorem sV(d:Datum)(h: ∀s t,d≠ .nan s t):double.write d.opposite=negB (double.write d):=by
 cases d with
 | number s m i=>exact oJ s m i
 | infinity s=>cases s<;>decide+kernel
 | nan s t=>exact absurd rfl (h s t)
theorem rH(p:Nat)(d e:Datum):d.opposite.quotient p e=(d.quotient p e).map Datum.opposite/\(∀s t,d.quotient p e≠some (.nan s t)):=by
 cases d<;>cases e<;>simp[Datum.opposite,Datum.quotient]<;>(try split)<;>(try split)<;>simp[Datum.opposite]
theorem map_opp{o:Option Datum}(h: ∀s t,o≠some (.nan s t)):(o.map Datum.opposite).map double.write=(o.map double.write).map negB:=by
 cases o with
 | none=>rfl
 | some d=>simp only[Option.map_some];rw[sV d (fun s t e=>h s t (by rw[e]))]
theorem oK{a b r:Nat}(h:double.div a b=some r):r<18446744073709551616:=by
 have hr: ∃d,double.write d=r:=by
  have h':((double.read a).quotient 54 (double.read b)).map double.write=some r:=h
  rw[Option.map_eq_some_iff]at h'
  obtain⟨d,_,e⟩:=h'
  exact⟨d,e⟩
 obtain⟨d,e⟩:=hr
 have hw: ∀(s:Bool) q,q<9223372036854775808->double.word s q<18446744073709551616:=by
  intro s q hq;rw[dP];split<;>omega
 have hb:double.binade=4503599627370496:=d_bin
 have hi:double.infRung=9218868437227405312:=aY
 rw[<- e]
 cases d with
 | number s m i=>
  unfold Format.write Format.nearest
  dsimp only
  split
  ·exact hw _ _ (by omega)
  ·exact hw _ _ (Nat.lt_of_le_of_lt (Nat.min_le_right _ _) (by rw[hi];omega))
 | infinity s=>exact hw _ _ (by rw[hi];omega)
 | nan s t=>
  refine hw _ _ ?_
  have:=Nat.mod_lt t (show 0<double.binade by rw[hb];omega)
  rw[hi];rw[hb]at this ⊢;omega
theorem dvB_cn{a b:Nat}(ha:a<18446744073709551616):dvB (negB a) b=cn (dvB a b):=by
 have key:double.div (negB a) b=(double.div a b).map negB:=by
  show((double.read (negB a)).quotient 54 (double.read b)).map double.write=(((double.read a).quotient 54 (double.read b)).map double.write).map negB
  rw[nR a ha,(rH 54 _ _).1]
  exact map_opp (rH 54 _ _).2
 cases h:double.div a b with
 | none=>rw[h]at key;rw[jQ h,jQ key];decide
 | some r=>rw[h]at key;rw[fW h,fW key,oI (oK h)];rfl
theorem dvB_z(b:Nat)(h1:mg b≠0)(h2:mg b<9218868437227405312)(z:Nat)(hz:mg z=0):dvB z b=0:=by
 obtain⟨m,a,e,k⟩:=bC double b (by rw[bI,aY];exact h2)
 have hm:m≠0:=by
  intro h0
  rw[h0,Nat.zero_mul,bI]at k
  have k2:mv (mg b)=0:=k.symm
  refine h1 ?_
  unfold mv mag at k2
  split at k2
  ·exact k2
  ·exact absurd k2 (Nat.mul_ne_zero (by have:=Nat.two_pow_pos 52;omega) (by have:=Nat.two_pow_pos (mg b/2 ^ 52 - 1);omega))
 have hd: ∃s p,double.div z b=some (double.nearest s 0 p):=by
  have hq: ∃s p,(double.read z).quotient 54 (double.read b)=some (.number s 0 p):=by
   rw[e,sP hz]
   unfold Datum.quotient
   dsimp only
   rw[if_neg hm]
   simp
  obtain⟨s,p,hq⟩:=hq
  refine⟨s,p,?_⟩
  show((double.read z).quotient 54 (double.read b)).map double.write=_
  rw[hq];rfl
 obtain⟨s,p,e⟩:=hd
 rw[fW e]
 unfold Format.nearest
 rw[if_pos rfl]
 cases s<;>decide+kernel
def fB(k:Int):Nat:=rn false (k*one)
def qo(n:Nat)(k:Int):Nat:=dvB (fB k) (fB n)
theorem fB_lt(k:Int):fB k<18446744073709551616:=rn_lt _ _
theorem dvB_lt(a b:Nat):dvB a b<18446744073709551616:=by
 unfold dvB
 cases h:double.div a b with
 | none=>decide
 | some r=>exact jR (oK h)
theorem qo_lt(n:Nat)(k:Int):qo n k<18446744073709551616:=dvB_lt _ _
theorem fB_neg(k:Int):fB (-k)=cn (fB k):=by unfold fB cn;rw[rn_negv,Int.neg_mul]
theorem fB_norm: ∀n:Nat,n<33->1<=n->mg (fB n)≠0/\mg (fB n)<9218868437227405312:=by decide+kernel
theorem qD{n:Nat}(h1:1<=n)(h2:n<=32)(k:Int):qo n (-k)=cn (qo n k):=by
 obtain⟨b1,b2⟩:=fB_norm n (by omega) h1
 unfold qo
 rw[fB_neg]
 have hx:=fB_lt k
 unfold cn
 rcases eI (dI hx)with⟨h,e⟩ | ⟨h,e⟩ | ⟨h,k',e⟩
 ·rw[fU hx]at h
  have:isN (fB k)=false:=pU _ _
  rw[this]at h;cases h
 ·rw[e,dvB_z _ b1 b2 0 (by decide),dvB_z _ b1 b2 (fB k) (by rw[<- iP hx];exact h)];decide
 ·rw[e,dvB_cn hx];rfl
theorem qo_one: ∀n:Nat,n<33->1<=n->qo n n=4607182418800017408:=by decide+kernel
def pL(n:Nat)(v:P3):Nat:=lnB (qo n v.1) (qo n v.2.1) (qo n v.2.2)
def px(n:Nat)(v:P3):Nat:=unB (pL n v) (qo n v.1)
def py(n:Nat)(v:P3):Nat:=unB (pL n v) (qo n v.2.1)
def pz(n:Nat)(v:P3):Nat:=unB (pL n v) (qo n v.2.2)
theorem cZ(n:Nat)(v:P3):px n v<18446744073709551616:=qC _ _
theorem dA(n:Nat)(v:P3):py n v<18446744073709551616:=qC _ _
theorem dC(n:Nat)(v:P3):pz n v<18446744073709551616:=qC _ _
def gp(n:Nat)(u v:P3):Nat:=lnB (sbB (px n u) (px n v)) (sbB (py n u) (py n v)) (sbB (pz n u) (pz n v))
def cl(x y z u v t:Nat):Nat:=lnB (sbB (mlB y t) (mlB z v)) (sbB (mlB z u) (mlB x t)) (sbB (mlB x v) (mlB y u))
def ar(n:Nat)(p q r s:P3):Nat:=cl (sbB (px n r) (px n p)) (sbB (py n r) (py n p)) (sbB (pz n r) (pz n p)) (sbB (px n s) (px n q)) (sbB (py n s) (py n q)) (sbB (pz n s) (pz n q))
end
section
open Tf Ieee Cu
def cr(n f i j:Nat):P3:=pl (sc n (cC f)) (pl (sc (2*i - n) (cR f)) (sc (2*j - n) (cU f)))
def e1(n f s i j:Nat):P3:=match s with | 0=>cr n f (i+1) j | 1=>cr n f i (j+1) | 2=>cr n f i j | _=>cr n f i j
def e2(n f s i j:Nat):P3:=match s with | 0=>cr n f (i+1) (j+1) | 1=>cr n f (i+1) (j+1) | 2=>cr n f i (j+1) | _=>cr n f (i+1) j
def Em(n f s i j:Nat):P3:=pl (pl (md n f i j) (wy f s)) (sc (-1) (wy f ((s+1)%4)))
def MD(n c:Nat):P3:=md n (cf n c) (ci n c) (cj n c)
def C1(n c s:Nat):P3:=e1 n (cf n c) s (ci n c) (cj n c)
def C2(n c s:Nat):P3:=e2 n (cf n c) s (ci n c) (cj n c)
def EM(n c s:Nat):P3:=Em n (cf n c) s (ci n c) (cj n c)
def LnC(n c s:Nat):Nat:=gp n (C1 n c s) (C2 n c s)
def GpC(n c s:Nat):Nat:=gp n (MD n c) (MD n (bsC n c s))
def ArC(n c:Nat):Nat:=ar n (cr n (cf n c) (ci n c) (cj n c)) (cr n (cf n c) (ci n c+1) (cj n c)) (cr n (cf n c) (ci n c+1) (cj n c+1)) (cr n (cf n c) (ci n c) (cj n c+1))
end
section
open Tf
def cq(way:Ieee.Toward)(x:Nat):Int:=if ng x then -((cutq way (ng x) (mv (mg x)) one:Nat):Int)else((cutq way (ng x) (mv (mg x)) one:Nat):Int)
def cOk(way:Ieee.Toward)(x:Nat):Bool:=fin x&&decide (-9223372036854775808<=cq way x)&&decide (cq way x<9223372036854775808)
def cI(way:Ieee.Toward)(x:Nat):Int:=if cOk way x then cq way x else 0
def itV(way:Ieee.Toward)(x:Nat):Nat:=Ieee.double.write ((Ieee.double.read x).integral way)
def wOk(y:Nat):Bool:=(fgt y 14114281232179134464||feq y 14114281232179134464)&&flt y 4890909195324358656
def wI(y:Nat):Int:=if wOk y then(if ng y then -((mv (mg y)/one:Nat):Int)else((mv (mg y)/one:Nat):Int))else 0
theorem mJ:mv 4890909195324358656=2 ^ 63*one:=eG 63 _ (by decide)
theorem mK(y:Nat)(hy:y<18446744073709551616):wOk y=(!isN y&&decide (-4890909195324358656<=rk y)&&decide (rk y<4890909195324358656)):=by
 unfold wOk
 rw[fgt_rk y _ hy (by decide),mC y _ hy (by decide),flt_rk y _ hy (by decide)]
 have n1:isN 14114281232179134464=false:=by decide
 have n2:isN 4890909195324358656=false:=by decide
 have r1:rk 14114281232179134464= -4890909195324358656:=by decide
 have r2:rk 4890909195324358656=4890909195324358656:=by decide
 rw[n1,n2,r1,r2]
 cases isN y
 ·simp only[Bool.not_false,Bool.and_self,Bool.true_and]
  congr 1
  rw[<- Bool.decide_or]
  exact decide_eq_decide.2 (by omega)
 ·simp
theorem wOk_fin{y:Nat}(hy:y<18446744073709551616)(h:wOk y=true):mg y<=4890909195324358656/\(ng y=false->mg y<4890909195324358656):=by
 rw[mK y hy]at h
 simp only[Bool.and_eq_true,decide_eq_true_eq]at h
 obtain⟨⟨_,a⟩,b⟩:=h
 unfold rk at a b
 cases hn:ng y<;>rw[hn]at a b<;>simp only[Bool.false_eq_true,if_false,if_true]at a b
 ·exact⟨by omega,fun _=>by omega⟩
 ·exact⟨by omega,fun h=>by cases h⟩
theorem wI_conv{y:Nat}(hy:y<18446744073709551616)(h:wOk y=true):floatToIntVal .f64 y .i64=some (wI y):=by
 obtain⟨a,b⟩:=wOk_fin hy h
 unfold floatToIntVal
 have e:(FloatKind.f64.decode y).toInt .zero=some (if ng y then -((mv (mg y)/one:Nat):Int)else((mv (mg y)/one:Nat):Int)):=toInt_d y hy (by omega)
 rw[e]
 have hw:wI y=(if ng y then -((mv (mg y)/one:Nat):Int)else((mv (mg y)/one:Nat):Int)):=by unfold wI;rw[h];rfl
 rw[<- hw]
 have hle:mv (mg y)/one<=2 ^ 63:=by
  have h1:=mv_le.2 a
  rw[mJ]at h1
  have h2:=Nat.div_le_div_right (c:=one) h1
  rwa [Nat.mul_div_cancel _ one_pos]at h2
 have hlt:ng y=false->mv (mg y)/one<2 ^ 63:=by
  intro h'
  rw[Nat.div_lt_iff_lt_mul one_pos,<- mJ]
  exact mv_lt.2 (b h')
 have hb:IntKind.i64.min<=wI y/\wI y<=IntKind.i64.max:=by
  have m1:IntKind.i64.min= -9223372036854775808:=by decide
  have m2:IntKind.i64.max=9223372036854775807:=by decide
  rw[m1,m2,hw]
  generalize mv (mg y)/one=q at*
  cases hn:ng y
  ·have:=hlt hn
   simp only[Bool.false_eq_true,if_false];omega
  ·simp only[if_true];omega
 simp only[hb,and_self,if_true]
theorem itV_lt(way:Ieee.Toward)(x:Nat):itV way x<18446744073709551616:=Ieee.double.write_lt _
theorem mL(way:Ieee.Toward)(x:Nat)(hx:x<18446744073709551616)(fx:mg x<9218868437227405312):
  ng (itV way x)=ng x/\mg (itV way x)<9218868437227405312/\mv (mg (itV way x))=cutq way (ng x) (mv (mg x)) one*one:=by
 obtain⟨r,hr,e,hw⟩:=pW way x hx fx
 have hw':itV way x=if ng x then 9223372036854775808+r else r:=hw
 rw[hw']
 cases hn:ng x
 ·simp only[Bool.false_eq_true,if_false]
  rw[fP (by omega),fN (by omega)]
  exact⟨rfl,hr,by rw[hn]at e;exact e⟩
 ·simp only[if_true]
  rw[jL (by omega),fO (by omega) (by omega)]
  rw[show 9223372036854775808+r - 9223372036854775808=r by omega]
  exact⟨rfl,hr,by rw[hn]at e;exact e⟩
theorem sv_itV(way:Ieee.Toward)(x:Nat)(hx:x<18446744073709551616)(fx:mg x<9218868437227405312):sv (itV way x)=cq way x*one:=by
 obtain⟨a,_,c⟩:=mL way x hx fx
 unfold sv cq
 rw[a,c]
 cases ng x<;>simp[Int.neg_mul]
theorem itV_inf(way:Ieee.Toward)(x:Nat)(hx:x<18446744073709551616)(fx:mg x=9218868437227405312):itV way x=x:=by
 have ei:=aY
 unfold itV
 rw[bD Ieee.double x cY (by rw[bI];omega),cV x hx]
 simp only[Ieee.Datum.integral,Ieee.Format.write]
 rw[dP,aY]
 have hw:=mE x hx
 rw[fx]at hw
 exact hw.symm
theorem sv_p63:sv 4890909195324358656=9223372036854775808*(one:Int):=by
 unfold sv
 have h1:ng 4890909195324358656=false:=by decide
 have h2:mg 4890909195324358656=4890909195324358656:=by decide
 rw[h1,h2,mJ]
 simp only[Bool.false_eq_true,if_false,Int.natCast_mul]
 rfl
theorem sv_n63:sv 14114281232179134464= -9223372036854775808*(one:Int):=by
 unfold sv
 have h1:ng 14114281232179134464=true:=by decide
 have h2:mg 14114281232179134464=4890909195324358656:=by decide
 rw[h1,h2,mJ]
 simp only[if_true,Int.natCast_mul,<- Int.neg_mul]
 rfl
theorem onep:(0:Int)<(one:Int):=by exact_mod_cast one_pos
theorem rI(way:Ieee.Toward)(x:Nat)(hx:x<18446744073709551616)(n:isN x=false):wOk (itV way x)=cOk way x:=by
 have hle:=bZ.1 n
 by_cases fx:mg x<9218868437227405312
 ·obtain⟨a,b,c⟩:=mL way x hx fx
  have hn:isN (itV way x)=false:=bZ.2 (by omega)
  rw[mK _ (itV_lt way x),hn]
  unfold cOk
  have hf:fin x=true:=by unfold fin;exact decide_eq_true fx
  rw[hf]
  have r1:rk 14114281232179134464= -4890909195324358656:=by decide
  have r2:rk 4890909195324358656=4890909195324358656:=by decide
  have s1:=eO (itV way x) 14114281232179134464
  have s2:=eO (itV way x) 4890909195324358656
  rw[r1,sv_itV way x hx fx,sv_n63,Int.mul_lt_mul_right onep]at s1
  rw[r2,sv_itV way x hx fx,sv_p63,Int.mul_lt_mul_right onep]at s2
  have t1:decide (-4890909195324358656<=rk (itV way x))=decide (-9223372036854775808<=cq way x):=decide_eq_decide.2 (by omega)
  have t2:decide (rk (itV way x)<4890909195324358656)=decide (cq way x<9223372036854775808):=decide_eq_decide.2 (by omega)
  rw[t1,t2];simp
 ·have e:mg x=9218868437227405312:=by omega
  rw[itV_inf way x hx e,mK x hx,n]
  unfold cOk
  have hf:fin x=false:=by unfold fin;exact decide_eq_false fx
  rw[hf]
  unfold rk;rw[e]
  cases ng x<;>simp
theorem wI_itV(way:Ieee.Toward)(x:Nat)(hx:x<18446744073709551616)(n:isN x=false):wI (itV way x)=cI way x:=by
 unfold wI cI
 rw[rI way x hx n]
 cases h:cOk way x
 ·rfl
 ·have fx:mg x<9218868437227405312:=by
   unfold cOk at h
   simp only[Bool.and_eq_true]at h
   have:=h.1.1
   unfold fin at this
   simpa using this
  obtain⟨a,b,c⟩:=mL way x hx fx
  rw[if_pos rfl,if_pos rfl,a,c,Nat.mul_div_cancel _ one_pos]
  rfl
theorem rJ{y:Nat}(hy:y<18446744073709551616)(n:isN y=true):wOk y=false/\wI y=0:=by
 have h:wOk y=false:=by rw[mK y hy,n];rfl
 exact⟨h,by unfold wI;rw[h];rfl⟩
theorem cOk_nan(way:Ieee.Toward){x:Nat}(n:isN x=true):cOk way x=false/\cI way x=0:=by
 have h:cOk way x=false:=by
  unfold cOk fin
  have:=aW.1 n
  rw[decide_eq_false (by omega)];rfl
 exact⟨h,by unfold cI;rw[h];rfl⟩
end
section
open Go.RowKit Tf
attribute [local go_sem] aF aG aI aJ aK aL aM
def snan(w:World)(x:Nat):Nat:=
 if(Question.extern "math.Floor,Ceil,Trunc,RoundToEven.signallingNaN kept" 2).cut (w.tape w.drawn (Question.extern "math.Floor,Ceil,Trunc,RoundToEven.signallingNaN kept" 2))==1 then x
 else FloatKind.f64.encode (.nan (sg Ieee.double x) (FloatKind.f64.format.quiet (rg Ieee.double x - Ieee.double.infRung)))
theorem or_bit(t:Nat)(h:t<4503599627370496):Ieee.double.quiet t%4503599627370496=Ieee.double.quiet t/\0<Ieee.double.quiet t:=by
 have e:Ieee.double.quiet t=t ||| 2 ^ 51:=rfl
 rw[e]
 have h1:t ||| 2 ^ 51<2 ^ 52:=Nat.or_lt_two_pow (by omega) (by omega)
 have h2:2 ^ 51<=t ||| 2 ^ 51:=Nat.right_le_or
 omega
theorem oL(w:World)(x:Nat)(hx:x<18446744073709551616)(n:isN x=true):snan w x<18446744073709551616/\isN (snan w x)=true:=by
 have ei:=aY
 have hm:=kW x
 have hn:=aW.1 n
 unfold snan
 split
 ·exact⟨hx,n⟩
 ·rw[bI,cV x hx,ei]
  obtain⟨q1,q2⟩:=or_bit (mg x - 9218868437227405312) (by omega)
  have e: ∀(b:Bool) (t:Nat),FloatKind.f64.encode (.nan b t)=if b then 9223372036854775808+(9218868437227405312+t%4503599627370496)else 9218868437227405312+t%4503599627370496:=by
   intro b t
   show Ieee.double.word b (Ieee.double.infRung+t%Ieee.double.binade)=_
   rw[dP,aY,d_bin]
  rw[e]
  change (if ng x=true then 9223372036854775808+(9218868437227405312+Ieee.double.quiet (mg x - 9218868437227405312)%4503599627370496)else 9218868437227405312+Ieee.double.quiet (mg x - 9218868437227405312)%4503599627370496)<_/\isN (if ng x=true then 9223372036854775808+(9218868437227405312+Ieee.double.quiet (mg x - 9218868437227405312)%4503599627370496)else 9218868437227405312+Ieee.double.quiet (mg x - 9218868437227405312)%4503599627370496)=true
  generalize Ieee.double.quiet (mg x - 9218868437227405312)=t at*
  have ht:t%4503599627370496<4503599627370496:=Nat.mod_lt _ (by decide)
  rw[aW]
  cases ng x
  ·simp only[Bool.false_eq_true,if_false]
   refine⟨by omega,?_⟩
   rw[fN (by omega)];omega
  ·simp only[if_true]
   refine⟨by omega,?_⟩
   rw[fO (by omega) (by omega)];omega
def qNaN(x:Nat):Bool:=FloatKind.f64.format.quiet (rg Ieee.double x - Ieee.double.infRung)==rg Ieee.double x - Ieee.double.infRung
theorem ext_num(nm:String)(way:Ieee.Toward)(x:Nat)(n:isN x=false):Extern.MathFloor.toIntegral nm way #[.float .f64 x]=pure (.float .f64 (itV way x)):=by
 have ei:=aY
 have h:=bZ.1 n
 unfold itV
 by_cases c:mg x<9218868437227405312
 ·obtain⟨m,a,e,_⟩:=bC Ieee.double x (by rw[bI];omega)
  show(match Ieee.double.read x with | .nan _ _=>_ | _=>_)=_
  rw[e];rfl
 ·show(match Ieee.double.read x with | .nan _ _=>_ | _=>_)=_
  rw[bD Ieee.double x cY (by rw[bI];omega)];rfl
theorem ext_nan(nm:String)(way:Ieee.Toward)(x:Nat)(n:isN x=true)(q:qNaN x=true):Extern.MathFloor.toIntegral nm way #[.float .f64 x]=pure (.float .f64 x):=by
 have ei:=aY
 have h:=aW.1 n
 unfold qNaN at q
 show(match Ieee.double.read x with | .nan _ _=>_ | _=>_)=_
 rw[cD Ieee.double x cY (by rw[bI];omega)]
 dsimp only
 rw[if_pos (by simpa using q)]
theorem ext_snan(nm:String)(way:Ieee.Toward)(x:Nat)(n:isN x=true)(q:qNaN x=false)(P:Program)(w:World):(Extern.MathFloor.toIntegral nm way #[.float .f64 x]).run P w=.ok (.float .f64 (snan w x)) w.drew:=by
 have ei:=aY
 have h:=aW.1 n
 unfold qNaN at q
 show Sem.run P (match Ieee.double.read x with | .nan _ _=>_ | _=>_) w=_
 rw[cD Ieee.double x cY (by rw[bI];omega)]
 dsimp only
 rw[if_neg (by simpa using q)]
 simp[Question.forced,snan]
theorem run_even(x:Nat)(w:World)(n:isN x=false):(callFunc 104 #[.float .f64 x]).run prog w=.ok (.value (.float .f64 (itV .even x))) w:=by
 rw[run_callFunc_extern (e:=Extern.MathFloor.toIntegral "math.RoundToEven" .even) func104 (by kernel_rfl) (by kernel_rfl) (by kernel_rfl) (by kernel_rfl),ext_num _ _ x n]
 rfl
theorem mM(x:Nat)(w:World)(n:isN x=true)(q:qNaN x=true):(callFunc 104 #[.float .f64 x]).run prog w=.ok (.value (.float .f64 x)) w:=by
 rw[run_callFunc_extern (e:=Extern.MathFloor.toIntegral "math.RoundToEven" .even) func104 (by kernel_rfl) (by kernel_rfl) (by kernel_rfl) (by kernel_rfl),ext_nan _ _ x n q]
 rfl
theorem kP(x:Nat)(w:World)(n:isN x=true)(q:qNaN x=false):(callFunc 104 #[.float .f64 x]).run prog w=.ok (.value (.float .f64 (snan w x))) w.drew:=by
 rw[run_callFunc_extern (e:=Extern.MathFloor.toIntegral "math.RoundToEven" .even) func104 (by kernel_rfl) (by kernel_rfl) (by kernel_rfl) (by kernel_rfl),ext_snan _ _ x n q]
 rfl
theorem jU(y:Nat)(i:Int)(ok:Bool)(w:World)(hy:y<18446744073709551616)(hi:wI y=i)(ho:wOk y=ok):
  Calls prog 103 #[.float .f64 y] w fun e w'=>e=.returned (.tuple #[.int .i64 i,.bool ok])/\w'=w:=by
 have hc:wOk y=true->floatToIntVal .f64 y .i64=some i:=by intro h;rw[wI_conv hy h,hi]
 have h0:wOk y=false->i=0:=by intro h;rw[<- hi];unfold wI;rw[h];rfl
 have hw:wOk y=((fgt y 14114281232179134464||feq y 14114281232179134464)&&flt y 4890909195324358656):=rfl
 clear hi
 cases hg:(fgt y 14114281232179134464||feq y 14114281232179134464)
 ·rw[hg]at hw
  have hw':wOk y=false:=hw
  obtain rfl:=h0 hw'
  obtain rfl:ok=false:=by rw[<- ho,hw']
  clear hw hw' h0 hc ho
  go_enter func103,ntmps103
  go_wp2
  go_ret2
  exact⟨rfl,rfl⟩
 ·cases hl:flt y 4890909195324358656
  ·rw[hg,hl]at hw
   have hw':wOk y=false:=hw
   obtain rfl:=h0 hw'
   obtain rfl:ok=false:=by rw[<- ho,hw']
   clear hw hw' h0 hc ho
   go_enter func103,ntmps103
   go_wp2
   go_ret2
   exact⟨rfl,rfl⟩
  ·rw[hg,hl]at hw
   have hw':wOk y=true:=hw
   obtain rfl:ok=true:=by rw[<- ho,hw']
   have hcv:=fun(w:World)=>run_convert_float_int (P:=prog) w 47 2 .f64 .i64 y i (by kernel_rfl) (by kernel_rfl) (hc hw')
   clear hw hw' h0 hc ho
   go_enter func103,ntmps103
   go_wp2
   go_ret2
   exact⟨rfl,rfl⟩
theorem round_at(x:Nat)(i:Int)(ok:Bool)(w:World)(hx:x<18446744073709551616)(hi:cI .even x=i)(ho:cOk .even x=ok):
  Calls prog 88 #[.float .f64 x] w fun e w'=>e=.returned (.tuple #[.int .i64 i,.bool ok])/\ ∃n,w'=w.drewN n:=by
 cases n:isN x
 ·have r:=fun(w:World)=>run_even x w n
  have l:=itV_lt .even x
  have a:=wI_itV .even x hx n
  have b:=rI .even x hx n
  rw[hi]at a
  rw[ho]at b
  generalize itV .even x=y at*
  clear hi ho n
  go_enter func88,ntmps88
  go_wp2_with fail
  refine(jU y i ok _ l a b).mono ?_
  rintro e w' ⟨rfl,rfl⟩
  go_wp2
  go_ret2
  exact⟨rfl,0,rfl⟩
 ·obtain⟨h1,h2⟩:=cOk_nan .even n
  rw[hi]at h2
  rw[ho]at h1
  subst h1 h2
  cases q:qNaN x
  ·have r:=fun(w:World)=>kP x w n q
   have l:=fun(w:World)=>(oL w x hx n).1
   have l2:=fun(w:World)=>rJ (l w) (oL w x hx n).2
   clear hi ho n q
   go_enter func88,ntmps88
   go_wp2_with fail
   refine(jU _ 0 false _ (l _) (l2 _).2 (l2 _).1).mono ?_
   rintro e w' ⟨rfl,rfl⟩
   go_wp2
   go_ret2
   exact⟨rfl,1,rfl⟩
  ·have r:=fun(w:World)=>mM x w n q
   have l2:=rJ hx n
   clear hi ho n q
   go_enter func88,ntmps88
   go_wp2_with fail
   refine(jU x 0 false _ hx l2.2 l2.1).mono ?_
   rintro e w' ⟨rfl,rfl⟩
   go_wp2
   go_ret2
   exact⟨rfl,0,rfl⟩
theorem oM(n:Int)(w:World):
  Calls prog 115 #[.int .i64 n] w fun e w'=>e=.returned (.float .f64 (rn false (n*one)))/\w'=w:=by
 have hc:=fun(w:World)=>run_convert_int_float (P:=prog) w 2 47 .i64 .f64 n (by kernel_rfl) (by kernel_rfl)
 have e:floatOfInt .f64 n=rn false (n*one):=ofInt_d n
 rw[e]at hc
 generalize rn false (n*one)=y at*
 clear e
 go_enter func115,ntmps115
 go_wp2
 go_ret
 exact⟨rfl,rfl⟩
end
end Go.Proofs.YtlmfpikhlcnjjaaGreatDoor
