/-
  Some of the texts of this proof, one behind the other.
-/
import Derived.WalkKit
import Derived.Test.YtdeammhdedcjlaaRows
import Derived.Deep.OwnRows
import Derived.Deep.Cut
import Derived.Deep.CutRange
import Derived.Deep.AppendLies
import Derived.Deep.AppendSrc
import Derived.OwnWalk
import Derived.Deep.QuietTactic
import Derived.Test.YtdeammhdedcjlaaKf02
set_option maxRecDepth 100000
set_option maxHeartbeats 400000000
namespace Go.Proofs.Ytdeammhdedcjlaa
open _root_.Go.Proofs.Try
section
open Go.RowKit Tf Cu
attribute [local go_sem] aI aJ aQ aR aU aV aX aM
def arQ(L:Nat):Nat:=mlB (mlB (qB L) (qB 4602678819172646912)) (qB 4742290407621132288)
def arI(L:Nat):Int:=max (cI .even (arQ L)) 1
theorem cI_q(x:Nat):cI .even x=cI .even (qB x)/\cOk .even x=cOk .even (qB x):=by
 unfold qB
 cases h:isN x
 ·rw[if_neg (by decide)];exact⟨rfl,rfl⟩
 ·rw[if_pos rfl]
  have e:cOk .even x=false:=by
   unfold cOk fin
   have: ¬mg x<9218868437227405312:=by rw[aW]at h;omega
   simp[this]
  have e2:cOk .even quiet=false:=by decide+kernel
  unfold cI
  rw[e,e2];simp only[Bool.false_eq_true,if_false,and_self]
theorem qE(n c:Nat)(a0 b0 d0 a1 b1 d1 a2 b2 d2 a3 b3 d3:Nat)(w:World)(ha0:Hid (a0<18446744073709551616))(hb0:Hid (b0<18446744073709551616))(hd0:Hid (d0<18446744073709551616))(ha1:Hid (a1<18446744073709551616))(hb1:Hid (b1<18446744073709551616))(hd1:Hid (d1<18446744073709551616))(ha2:Hid (a2<18446744073709551616))(hb2:Hid (b2<18446744073709551616))(hd2:Hid (d2<18446744073709551616))(ha3:Hid (a3<18446744073709551616))(hb3:Hid (b3<18446744073709551616))(hd3:Hid (d3<18446744073709551616))
  (CO:Hid (∀u,Calls prog 36 #[.int .i64 n,.int .i64 c] u fun e w'=>e=.returned (.tuple #[.agg #[.float .f64 a0,.float .f64 b0,.float .f64 d0,.float .f64 a1,.float .f64 b1,.float .f64 d1,.float .f64 a2,.float .f64 b2,.float .f64 d2,.float .f64 a3,.float .f64 b3,.float .f64 d3],.bool true])/\Below u.heap.size u w')):
  Calls prog 16 #[.int .i64 n,.int .i64 c] w fun e w'=>e=.returned (.int .i64 (arI (cl (sbB a2 a0) (sbB b2 b0) (sbB d2 d0) (sbB a3 a1) (sbB b3 b1) (sbB d3 d1))))/\Below w.heap.size w w':=by
 have MI:=hid (fun x y z u v t w (hx:Hid (x<18446744073709551616)) (hy:Hid (y<18446744073709551616)) (hz:Hid (z<18446744073709551616)) (hu:Hid (u<18446744073709551616)) (hv:Hid (v<18446744073709551616)) (ht:Hid (t<18446744073709551616))=>minus_at x y z u v t w hx hy hz hu hv ht)
 have CR:=hid (fun w=>cross_at (sbB a2 a0) (sbB b2 b0) (sbB d2 d0) (sbB a3 a1) (sbB b3 b1) (sbB d3 d1) w (bC ha2 ha0) (bC hb2 hb0) (bC hd2 hd0) (bC ha3 ha1) (bC hb3 hb1) (bC hd3 hd1))
 have LN:Hid (∀w,Calls prog 37 #[.agg #[.float .f64 (sbB (mlB (sbB b2 b0) (sbB d3 d1)) (mlB (sbB d2 d0) (sbB b3 b1))),.float .f64 (sbB (mlB (sbB d2 d0) (sbB a3 a1)) (mlB (sbB a2 a0) (sbB d3 d1))),.float .f64 (sbB (mlB (sbB a2 a0) (sbB b3 b1)) (mlB (sbB b2 b0) (sbB a3 a1)))]] w fun e w'=>e=.returned (.float .f64 (cl (sbB a2 a0) (sbB b2 b0) (sbB d2 d0) (sbB a3 a1) (sbB b3 b1) (sbB d3 d1)))/\Below w.heap.size w w'):=fun w=>jA (sbB (mlB (sbB b2 b0) (sbB d3 d1)) (mlB (sbB d2 d0) (sbB b3 b1))) (sbB (mlB (sbB d2 d0) (sbB a3 a1)) (mlB (sbB a2 a0) (sbB d3 d1))) (sbB (mlB (sbB a2 a0) (sbB b3 b1)) (mlB (sbB b2 b0) (sbB a3 a1))) w (bC (fR (bC hb2 hb0) (bC hd3 hd1)) (fR (bC hd2 hd0) (bC hb3 hb1))) (bC (fR (bC hd2 hd0) (bC ha3 ha1)) (fR (bC ha2 ha0) (bC hd3 hd1))) (bC (fR (bC ha2 ha0) (bC hb3 hb1)) (fR (bC hb2 hb0) (bC ha3 ha1)))
 have lL:cl (sbB a2 a0) (sbB b2 b0) (sbB d2 d0) (sbB a3 a1) (sbB b3 b1) (sbB d3 d1)<18446744073709551616:=by unfold cl lnB;exact rtB_lt _
 generalize cl (sbB a2 a0) (sbB b2 b0) (sbB d2 d0) (sbB a3 a1) (sbB b3 b1) (sbB d3 d1)=L at*
 generalize sbB (mlB (sbB b2 b0) (sbB d3 d1)) (mlB (sbB d2 d0) (sbB b3 b1))=c1 at*
 generalize sbB (mlB (sbB d2 d0) (sbB a3 a1)) (mlB (sbB a2 a0) (sbB d3 d1))=c2 at*
 generalize sbB (mlB (sbB a2 a0) (sbB b3 b1)) (mlB (sbB b2 b0) (sbB a3 a1))=c3 at*
 have hmx:arI L=max (cI .even (arQ L)) 1:=by unfold arI;with_reducible rfl
 obtain⟨A,hA⟩:=aB (cI .even (arQ L))
 obtain⟨ok,hok⟩:=aB (cOk .even (arQ L))
 rw[hmx,hA]
 have HA:=hid hA
 have HO:=hid hok
 clear hmx hA hok
 go_enter func16,ntmps16
 go_wp2_with fail
 refine(CO.out _).mono ?_
 rintro e v ⟨rfl,bq⟩
 go_upto_region 4 with fail
 generalize hW:World.alloc _ _=W
 have AW:Hid (Ab w W):=by rw[<- hW];exact Ab.alloc bq _
 have RW:Hid (W.heap[v.heap.size]? =some (.cells #[.float .f64 a0,.float .f64 b0,.float .f64 d0,.float .f64 a1,.float .f64 b1,.float .f64 d1,.float .f64 a2,.float .f64 b2,.float .f64 d2,.float .f64 a3,.float .f64 b3,.float .f64 d3] 73)):=by rw[<- hW];exact heap_alloc_new _ _
 clear hW bq CO
 obtain⟨UU,F,hF1,hF2⟩:=cls W
 have HF:=hid hF2
 have HF1:=hid hF1
 have x0: ∀vv,(F vv).cell? ⟨v.heap.size,0,none⟩=some (.float .f64 a0):=fun vv=>aA 0 ((hF1 vv).heap RW.out)
 have x1: ∀vv,(F vv).cell? ⟨v.heap.size,1,none⟩=some (.float .f64 b0):=fun vv=>aA 1 ((hF1 vv).heap RW.out)
 have x2: ∀vv,(F vv).cell? ⟨v.heap.size,2,none⟩=some (.float .f64 d0):=fun vv=>aA 2 ((hF1 vv).heap RW.out)
 have x3: ∀vv,(F vv).cell? ⟨v.heap.size,3,none⟩=some (.float .f64 a1):=fun vv=>aA 3 ((hF1 vv).heap RW.out)
 have x4: ∀vv,(F vv).cell? ⟨v.heap.size,4,none⟩=some (.float .f64 b1):=fun vv=>aA 4 ((hF1 vv).heap RW.out)
 have x5: ∀vv,(F vv).cell? ⟨v.heap.size,5,none⟩=some (.float .f64 d1):=fun vv=>aA 5 ((hF1 vv).heap RW.out)
 have x6: ∀vv,(F vv).cell? ⟨v.heap.size,6,none⟩=some (.float .f64 a2):=fun vv=>aA 6 ((hF1 vv).heap RW.out)
 have x7: ∀vv,(F vv).cell? ⟨v.heap.size,7,none⟩=some (.float .f64 b2):=fun vv=>aA 7 ((hF1 vv).heap RW.out)
 have x8: ∀vv,(F vv).cell? ⟨v.heap.size,8,none⟩=some (.float .f64 d2):=fun vv=>aA 8 ((hF1 vv).heap RW.out)
 have x9: ∀vv,(F vv).cell? ⟨v.heap.size,9,none⟩=some (.float .f64 a3):=fun vv=>aA 9 ((hF1 vv).heap RW.out)
 have x10: ∀vv,(F vv).cell? ⟨v.heap.size,10,none⟩=some (.float .f64 b3):=fun vv=>aA 10 ((hF1 vv).heap RW.out)
 have x11: ∀vv,(F vv).cell? ⟨v.heap.size,11,none⟩=some (.float .f64 d3):=fun vv=>aA 11 ((hF1 vv).heap RW.out)
 have D:=HF.out _ (Ab.refl W).drew
 clear hF1 hF2
 refine nH F (by kernel_rfl) (by kernel_rfl) D ?_
 repeat(go_big_quiet_step (first
  | (with_reducible rfl)
  | (go_at_call 39;exact fX HF HF1 (MI.out _ _ _ _ _ _ _ (by assumption) (by assumption) (by assumption) (by assumption) (by assumption) (by assumption)))
  | (go_at_call 38;exact fX HF HF1 (CR.out _))
  | (go_at_call 37;exact fX HF HF1 (LN.out _))))
 refine wpQuiet_nil ?_
 intro wz hwz
 obtain⟨vv,hv⟩:=hwz
 have bz:Below W.heap.size W wz:=by rw[hv];exact HF1.out vv
 clear hv vv
 clear HF HF1 D x0 x1 x2 x3 x4 x5 x6 x7 x8 x9 x10 x11
 clear F UU
 have AZ:Hid (Ab w wz):=AW.out.call bz
 clear bz AW RW
 obtain⟨r1,n1,k1,q1⟩:=fI (P:=prog) wz L _ 4602678819172646912 _ (IsQ.self lL) (IsQ.self (by decide))
 obtain⟨r2,n2,k2,q2⟩:=fI (P:=prog) (wz.drewN n1) r1 _ 4742290407621132288 _ q1 (IsQ.self (by decide))
 have RO:Hid (∀u,Calls prog 40 #[.float .f64 r2] u fun e w'=>e=.returned (.tuple #[.int .i64 A,.bool ok])/\ ∃n,w'=u.drewN n):=fun u=>
  round_at r2 A ok u q2.1 (by rw[(cI_q r2).1,q2.2];exact HA.out) (by rw[(cI_q r2).2,q2.2];exact HO.out)
 rw[World.drewN_drewN]at k2
 clear q1 q2 HA HO
 go_wp2_with fail
 refine(RO.out _).mono ?_
 rintro e w5 ⟨rfl,n3,rfl⟩
 go_wp2
 all_goals go_ret
 all_goals exact⟨congrArg (fun z=>Ending.returned (.int .i64 z)) (by omega),Ab.drewN AZ.out _⟩
theorem area_ok(n c:Nat)(w:World)(hn:1<=n/\n<=32)(hc:c<6*n*n):
  Calls prog 16 #[.int .i64 n,.int .i64 c] w fun e w'=>e=.returned (.int .i64 (arI (ArC n c)))/\Below w.heap.size w w':=by
 have h:=qE n c _ _ _ _ _ _ _ _ _ _ _ _ w (px_lt n _) (py_lt n _) (pz_lt n _) (px_lt n _) (py_lt n _) (pz_lt n _) (px_lt n _) (py_lt n _) (pz_lt n _) (px_lt n _) (py_lt n _) (pz_lt n _) (fun u=>nJ n c u hn hc)
 unfold ArC ar
 exact h
end
section
namespace Ti
def sideN(c:Nat):Nat:=match(List.range 33).find? (fun n=>decide (1<=n/\n*n=c))with
 | some n=>n
 | none=>0
theorem dY(c:Nat):(sideN c=0/\ ∀n,1<=n->n<=32->n*n≠c)\/(1<=sideN c/\sideN c<=32/\sideN c*sideN c=c):=by
 unfold sideN
 cases e:(List.range 33).find? (fun n=>decide (1<=n/\n*n=c))with
 | none=>
  refine .inl ⟨rfl,fun n h1 h2 h3=> ?_⟩
  have h:=List.find?_eq_none.1 e n (List.mem_range.2 (by omega))
  exact h (decide_eq_true ⟨h1,h3⟩)
 | some n=>
  have h1:=List.find?_some e
  have h2:=List.mem_range.1 (List.mem_of_find?_eq_some e)
  have h3:=of_decide_eq_true h1
  exact .inr ⟨h3.1,Nat.le_of_lt_succ h2,h3.2⟩
theorem sq_inj{n m:Nat}(h:n*n=m*m):n=m:=by
 rcases Nat.lt_trichotomy n m with l | l | l
 ·have:=Nat.mul_lt_mul'' l l
  omega
 ·exact l
 ·have:=Nat.mul_lt_mul'' l l
  omega
theorem sideN_sq{n:Nat}(h1:1<=n)(h2:n<=32):sideN (n*n)=n:=by
 rcases dY (n*n)with⟨_,h⟩ | ⟨_,_,h⟩
 ·exact absurd rfl (h n h1 h2)
 ·exact sq_inj h
def byt(x i:Nat):Nat:=x/256 ^ i%256
def num(b:Nat->Nat)(o:Nat):Nat:=b o+256*b (o+1)+65536*b (o+2)+16777216*b (o+3)
theorem byt_lt(x i:Nat):byt x i<256:=Nat.mod_lt _ (by decide)
theorem byt_4(x:Nat):byt x 0=x%256/\byt x 1=x/256%256/\byt x 2=x/65536%256/\byt x 3=x/16777216%256:=by
 refine⟨?_,?_,?_,?_⟩<;>unfold byt
 ·rw[Nat.pow_zero,Nat.div_one]
 ·rfl
 ·rfl
 ·rfl
theorem kE{b:Nat->Nat}{o x:Nat}(hx:x<4294967296)(h: ∀i,i<4->b (o+i)=byt x i):num b o=x:=by
 have k:=byt_4 x
 have h0:=h 0 (by omega)
 have h1:=h 1 (by omega)
 have h2:=h 2 (by omega)
 have h3:=h 3 (by omega)
 rw[Nat.add_zero]at h0
 unfold num
 rw[h0,h1,h2,h3,k.1,k.2.1,k.2.2.1,k.2.2.2]
 omega
def xr(f:Nat->Nat):Nat->Nat
 | 0=>f 0
 | k+1=>f (k+1) ^^^ f k
def rx(g:Nat->Nat):Nat->Nat
 | 0=>g 0
 | k+1=>rx g k ^^^ g (k+1)
theorem fT{a b:Nat}(ha:a<4294967296)(hb:b<4294967296):a ^^^ b<4294967296:=Nat.xor_lt_two_pow (n:=32) ha hb
theorem xr_lt{f:Nat->Nat}{k:Nat}(h: ∀i,i<=k->f i<4294967296):xr f k<4294967296:=by
 cases k with
 | zero=>exact h 0 (Nat.le_refl _)
 | succ k=>exact fT (h _ (Nat.le_refl _)) (h k (by omega))
theorem rx_lt{g:Nat->Nat}{k:Nat}(h: ∀i,i<=k->g i<4294967296):rx g k<4294967296:=by
 induction k with
 | zero=>exact h 0 (Nat.le_refl _)
 | succ k ih=>exact fT (ih (fun i hi=>h i (by omega))) (h _ (Nat.le_refl _))
theorem rx_xr{f g:Nat->Nat}{k:Nat}(h: ∀i,i<=k->g i=xr f i):rx g k=f k:=by
 induction k with
 | zero=>exact h 0 (Nat.le_refl _)
 | succ k ih=>
  show rx g k ^^^ g (k+1)=f (k+1)
  rw[ih (fun i hi=>h i (by omega)),h (k+1) (Nat.le_refl _)]
  show f k ^^^ (f (k+1) ^^^ f k)=f (k+1)
  rw[Nat.xor_comm (f (k+1)),<- Nat.xor_assoc,Nat.xor_self,Nat.zero_xor]
def head(face n:Nat):Nat->Nat
 | 0=>84
 | 1=>73
 | 2=>76
 | 3=>69
 | 4=>face
 | _=>n
def enc(face n ls ms:Nat)(f:Nat->Nat)(i:Nat):Nat:=
 if i<6 then head face n i else if i<10 then byt ls (i - 6)else if i<14 then byt ms (i - 10)else byt (xr f ((i - 14)/4)) ((i - 14)%4)
theorem kF{face n ls ms:Nat}{f:Nat->Nat}{i:Nat}(h1:face<256)(h2:n<256):enc face n ls ms f i<256:=by
 unfold enc
 split
 ·unfold head
  split<;>omega
 ·split
  ·exact byt_lt _ _
  ·split<;>exact byt_lt _ _
def dec(b:Nat->Nat)(k:Nat):Nat:=rx (fun k=>num b (14+4*k)) k
theorem num_cell{face n ls ms:Nat}{f:Nat->Nat}{k:Nat}(h: ∀i,i<=k->f i<4294967296):num (enc face n ls ms f) (14+4*k)=xr f k:=
 kE (xr_lt h) fun i hi=>by
  unfold enc
  rw[if_neg (by omega),if_neg (by omega),if_neg (by omega),show(14+4*k+i - 14)/4=k by omega,show(14+4*k+i - 14)%4=i by omega]
theorem dec_enc{face n ls ms:Nat}{f:Nat->Nat}{k:Nat}(h: ∀i,i<=k->f i<4294967296):dec (enc face n ls ms f) k=f k:=
 rx_xr fun i hi=>num_cell (fun j hj=>h j (by omega))
theorem num_ends{face n ls ms:Nat}{f:Nat->Nat}(h1:ls<4294967296)(h2:ms<4294967296):num (enc face n ls ms f) 6=ls/\num (enc face n ls ms f) 10=ms:=by
 refine⟨kE h1 fun i hi=> ?_,kE h2 fun i hi=> ?_⟩
 ·unfold enc
  rw[if_neg (by omega),if_pos (by omega),show 6+i - 6=i by omega]
 ·unfold enc
  rw[if_neg (by omega),if_neg (by omega),if_pos (by omega),show 10+i - 10=i by omega]
def derr(L:Nat)(b:Nat->Nat):Int:=
 if L<14 then 31
 else if¬((b 0=84/\b 1=73/\b 2=76/\b 3=69)/\b 4<=5/\1<=b 5/\b 5<=32)then 30
 else if L<14+4*(b 5*b 5)then 31
 else if 14+4*(b 5*b 5)<L then 3
 else 0
end Ti
end
section
open Go.RowKit Go.Deep
namespace Sh
def IsI(w:World)(a0:Option Addr)(len:Nat)(xs:Nat->Int):Prop:= ∀k,k<len->(-9223372036854775808<=xs k/\xs k<=9223372036854775807)/\ ∃b o,a0=some ⟨b,o,none⟩/\b<w.heap.size/\w.cell? ⟨b,o+k,none⟩=some (.int .i64 (xs k))
theorem IsI.below{w w':World}{a0:Option Addr}{len:Nat}{xs:Nat->Int}(h:IsI w a0 len xs)(hb:Below w.heap.size w w'):IsI w' a0 len xs:=by
 intro k hk
 obtain⟨h1,b,o,h2,h3,h4⟩:=h k hk
 exact⟨h1,b,o,h2,Nat.lt_of_lt_of_le h3 hb.size,(Below.cell hb h3).trans h4⟩
theorem IsI.some0{w:World}{a0:Option Addr}{len:Nat}{xs:Nat->Int}(h:IsI w a0 len xs)(h0:0<len): ∃b o,a0=some ⟨b,o,none⟩:=by
 obtain⟨_,b,o,h2,_⟩:=h 0 h0
 exact⟨b,o,h2⟩
theorem IsI.at0{w:World}{b o len k:Nat}{xs:Nat->Int}(h:IsI w (some ⟨b,o,none⟩) len xs)(hk:k<len):(-9223372036854775808<=xs k/\xs k<=9223372036854775807)/\b<w.heap.size/\w.cell? ⟨b,o+k,none⟩=some (.int .i64 (xs k)):=by
 obtain⟨h1,b',o',h2,h3,h4⟩:=h k hk
 cases h2
 exact⟨h1,h3,h4⟩
theorem bL(b off j:Nat):(⟨b,off,none⟩:Addr).add j=⟨b,off+j,none⟩:=by unfold Addr.add;split<;>simp_all
theorem row_in{w:World}{b n:Nat}{f:Nat->Int}(h:w.rowIs b 2 n (fun i=>.int .i64 (f i)))(hf: ∀i,i<n-> -9223372036854775808<=f i/\f i<=9223372036854775807):IsI w (some ⟨b,0,none⟩) n f:=fun k hk=>⟨hf k hk,b,0,rfl,h.lt,by rw[Nat.zero_add];exact h.cell hk⟩
theorem aD{w w':World}{b:Nat}{t:TypeId}{n:Nat}{f:Nat->Value}(h:w.rowIs b t n f)(a:Ab w w'):w'.rowIs b t n f:=h.of_block (Below.block a _ h.lt)
theorem info64:(Try.prog.info? 2).map (fun i=>(i.zero,i.size,i.bytes))=some (some (.int .i64 0),1,8):=by kernel_rfl
def Own(B:Nat)(v:Value)(l:List Int)(w:World):Prop:=w.ownsRow B 2 1 v l.length (l.map (Value.int .i64))
def Abo(V:World)(g:Nat)(w:World):Prop:=w.os=V.os/\w.tape=V.tape/\w.output=V.output/\V.heap.size<=w.heap.size/\ ∀k,k<V.heap.size->k≠g->w.heap[k]? =V.heap[k]?
theorem Abo.ab{w0 V w:World}{g:Nat}(h:Abo V g w)(a:Ab w0 V)(hg:w0.heap.size<=g):Ab w0 w:=by
 obtain⟨h1,h2,h3,h4,h5⟩:=h
 exact⟨h1.trans a.os,h2.trans a.tape,h3.trans a.output,Nat.le_trans (Below.size a) h4,fun k hk=>(h5 k (Nat.lt_of_lt_of_le hk (Below.size a)) (by omega)).trans (a.block k hk)⟩
theorem Abo.refl(V:World)(g:Nat):Abo V g V:=⟨rfl,rfl,rfl,Nat.le_refl _,fun _ _ _=>rfl⟩
theorem aY{V w:World}{b:Nat}{t:TypeId}{n:Nat}{f:Nat->Value}{g:Nat}(h:V.rowIs b t n f)(a:Abo V g w)(hne:b≠g):w.rowIs b t n f:=h.of_block (a.2.2.2.2 b h.lt hne)
end Sh
end
section
open Go.RowKit Go.Deep
theorem dD{v:World}{g n:Nat}{z:Value}{T:TypeId}(h:v.heap[g]? =some (Obj.cells (madeCells #[z] n) T)):v.rowIs g T n (fun _=>z):=by
 have e:=World.rowIs_made v z n T
 have l:=heap_alloc_new v (Obj.cells (madeCells #[z] n) T)
 obtain⟨c,h1,h2⟩:=e
 rw[l]at h1
 exact⟨c,h.trans h1,h2⟩
theorem aN{v:World}{b k g:Nat}{x:Value}(h:g≠b):(v.setCell ⟨b,k,none⟩ x).heap[g]? =v.heap[g]? :=blk_setCell_other _ _ _ _ h
end
section
open Go.RowKit Go.Deep
namespace Ti
def IsW(kd:IntKind)(M:Nat)(w:World)(a0:Option Addr)(len:Nat)(xs:Nat->Nat):Prop:= ∀k,k<len->xs k<M/\ ∃b o,a0=some ⟨b,o,none⟩/\b<w.heap.size/\w.cell? ⟨b,o+k,none⟩=some (.int kd ((xs k:Nat):Int))
theorem IsW.below{kd:IntKind}{M:Nat}{w w':World}{a0:Option Addr}{len:Nat}{xs:Nat->Nat}(h:IsW kd M w a0 len xs)(hb:Below w.heap.size w w'):IsW kd M w' a0 len xs:=by
 intro k hk
 obtain⟨h1,b,o,h2,h3,h4⟩:=h k hk
 exact⟨h1,b,o,h2,Nat.lt_of_lt_of_le h3 hb.size,(Below.cell hb h3).trans h4⟩
theorem IsW.some0{kd:IntKind}{M:Nat}{w:World}{a0:Option Addr}{len:Nat}{xs:Nat->Nat}(h:IsW kd M w a0 len xs)(h0:0<len): ∃b o,a0=some ⟨b,o,none⟩:=by
 obtain⟨_,b,o,h2,_⟩:=h 0 h0
 exact⟨b,o,h2⟩
theorem IsW.at0{kd:IntKind}{M:Nat}{w:World}{b o len k:Nat}{xs:Nat->Nat}(h:IsW kd M w (some ⟨b,o,none⟩) len xs)(hk:k<len):xs k<M/\b<w.heap.size/\w.cell? ⟨b,o+k,none⟩=some (.int kd ((xs k:Nat):Int)):=by
 obtain⟨h1,b',o',h2,h3,h4⟩:=h k hk
 cases h2
 exact⟨h1,h3,h4⟩
theorem IsW.nil(kd:IntKind)(M:Nat)(w:World)(a0:Option Addr)(xs:Nat->Nat):IsW kd M w a0 0 xs:=fun k hk=>absurd hk (Nat.not_lt_zero k)
theorem IsW.lt{kd:IntKind}{M:Nat}{w:World}{a0:Option Addr}{len:Nat}{xs:Nat->Nat}(h:IsW kd M w a0 len xs): ∀k,k<len->xs k<M:=fun k hk=>(h k hk).1
theorem IsW.part{kd:IntKind}{M:Nat}{w:World}{b o len:Nat}{xs:Nat->Nat}(h:IsW kd M w (some ⟨b,o,none⟩) len xs)(i m:Nat)(hm:i+m<=len):IsW kd M w (some ⟨b,o+i,none⟩) m (fun k=>xs (i+k)):=fun k hk=>by
 have q:=h.at0 (k:=i+k) (by omega)
 exact⟨q.1,b,o+i,rfl,q.2.1,by rw[Nat.add_assoc];exact q.2.2⟩
theorem bF{kd:IntKind}{M:Nat}{t:TypeId}{w:World}{b n:Nat}{f:Nat->Nat}(h:w.rowIs b t n (fun i=>.int kd ((f i:Nat):Int)))(hf: ∀i,i<n->f i<M):IsW kd M w (some ⟨b,0,none⟩) n f:=fun k hk=>⟨hf k hk,b,0,rfl,h.lt,by rw[Nat.zero_add];exact h.cell hk⟩
theorem oW{kd:IntKind}{M:Nat}{V w:World}{b o n g:Nat}{f:Nat->Nat}(h:IsW kd M V (some ⟨b,o,none⟩) n f)(a:Sh.Abo V g w)(hne:b≠g):IsW kd M w (some ⟨b,o,none⟩) n f:=fun k hk=>by
 obtain⟨h1,b',o',h2,h3,h4⟩:=h k hk
 cases h2
 exact⟨h1,b,o,rfl,Nat.lt_of_lt_of_le h3 a.2.2.2.1,(World.cell?_of_block (a.2.2.2.2 b h3 hne)).trans h4⟩
theorem Abo.set{V w:World}{g:Nat}(h:Sh.Abo V g w)(k:Nat)(v:Value):Sh.Abo V g (w.setCell ⟨g,k,none⟩ v):=by
 obtain⟨h1,h2,h3,h4,h5⟩:=h
 exact⟨h1,h2,h3,by simpa [World.setCell]using h4,fun j hj hne=>(blk_setCell_other _ _ _ _ hne).trans (h5 j hj hne)⟩
theorem Abo.trans{V u w:World}{g:Nat}(h:Sh.Abo V g u)(k:Sh.Abo u g w):Sh.Abo V g w:=by
 obtain⟨h1,h2,h3,h4,h5⟩:=h
 obtain⟨k1,k2,k3,k4,k5⟩:=k
 exact⟨k1.trans h1,k2.trans h2,k3.trans h3,Nat.le_trans h4 k4,fun j hj hne=>(k5 j (Nat.lt_of_lt_of_le hj h4) hne).trans (h5 j hj hne)⟩
theorem Abo.of{V w:World}(h:Ab V w)(g:Nat):Sh.Abo V g w:=⟨Below.os h,Below.tape h,Below.output h,Below.size h,fun k hk _=>Below.block h k hk⟩
theorem gL:(Try.prog.info? 5).map (fun i=>(i.zero,i.size,i.bytes))=some (some (.int .u8 0),1,1):=by kernel_rfl
theorem dZ:(Try.prog.info? 22).map (fun i=>(i.zero,i.size,i.bytes))=some (some (.int .u32 0),1,4):=by kernel_rfl
end Ti
end
section
open Go.RowKit Go.Deep Tf
namespace Ti
theorem lW:(FloatKind.f32.format).infRung=2139095040:=by decide
theorem s_sw:(FloatKind.f32.format).signWeight=2147483648:=by decide
theorem order32{a b:Nat}(ha:a<2139095040)(hb:b<2139095040):FloatKind.f32.format.order a b=some (compare (a:Int) (b:Int)):=by
 have e1:rg FloatKind.f32.format a=a:=by unfold rg;rw[s_sw];exact Nat.mod_eq_of_lt (by omega)
 have e2:rg FloatKind.f32.format b=b:=by unfold rg;rw[s_sw];exact Nat.mod_eq_of_lt (by omega)
 have g1:sg FloatKind.f32.format a=false:=by unfold sg;rw[s_sw];simp;omega
 have g2:sg FloatKind.f32.format b=false:=by unfold sg;rw[s_sw];simp;omega
 rw[iR _ a b (by rw[e1,lW];exact ha) (by rw[e2,lW];exact hb)]
 unfold sval
 rw[g1,g2,e1,e2,if_neg (by decide),if_neg (by decide)]
 congr 1
 have k:=fun x y=> @cL FloatKind.f32.format.fractionBits x y
 refine cY _ _ _ _ ?_ ?_
 ·rw[Int.ofNat_lt,Int.ofNat_lt];exact k a b
 ·rw[Int.ofNat_lt,Int.ofNat_lt];exact k b a
theorem lX{a b:Nat}(ha:a<2139095040)(hb:b<2139095040):FloatKind.f32.format.order a b=some (if a<b then .lt else if b<a then .gt else .eq):=by
 rw[order32 ha hb]
 congr 1
 by_cases c:a<b
 ·rw[if_pos c];simp[compare,compareOfLessAndEq,c]
 ·rw[if_neg c]
  by_cases d:b<a
  ·rw[if_pos d];simp[compare,compareOfLessAndEq,c];omega
  ·rw[if_neg d]
   have e:a=b:=by omega
   simp[compare,compareOfLessAndEq,e]
theorem nK{P:Program}(w:World)(ts:Array TypeId)(t:TypeId){a b:Nat}(ha:a<2139095040)(hb:b<2139095040):
  (Builtin.min_ ts t #[.float .f32 a,.float .f32 b]).run P w=.ok (.float .f32 (min a b)) w:=by
 have h:FloatKind.f32.format.order a b=_:=lX ha hb
 by_cases c:a<b
 ·rw[if_pos c]at h
  simp[Builtin.min_,Builtin.min2,h]
  omega
 ·rw[if_neg c]at h
  by_cases d:b<a
  ·rw[if_pos d]at h
   simp[Builtin.min_,Builtin.min2,h]
   omega
  ·rw[if_neg d]at h
   have e:a=b:=by omega
   subst e
   simp[Builtin.min_,Builtin.min2,h]
theorem nL{P:Program}(w:World)(ts:Array TypeId)(t:TypeId){a b:Nat}(ha:a<2139095040)(hb:b<2139095040):
  (Builtin.max_ ts t #[.float .f32 a,.float .f32 b]).run P w=.ok (.float .f32 (max a b)) w:=by
 have h:FloatKind.f32.format.order a b=_:=lX ha hb
 by_cases c:a<b
 ·rw[if_pos c]at h
  simp[Builtin.max_,Builtin.max2,h]
  omega
 ·rw[if_neg c]at h
  by_cases d:b<a
  ·rw[if_pos d]at h
   simp[Builtin.max_,Builtin.max2,h]
   omega
  ·rw[if_neg d]at h
   have e:a=b:=by omega
   subst e
   simp[Builtin.max_,Builtin.max2,h]
def lo(f:Nat->Nat):Nat->Nat
 | 0=>f 0
 | k+1=>min (lo f k) (f (k+1))
def hi(f:Nat->Nat):Nat->Nat
 | 0=>f 0
 | k+1=>max (hi f k) (f (k+1))
theorem lo_mem(f:Nat->Nat): ∀n,∃k,k<=n/\lo f n=f k
 | 0=>⟨0,Nat.le_refl _,rfl⟩
 | n+1=>by
  obtain⟨k,h1,h2⟩:=lo_mem f n
  by_cases c:lo f n<=f (n+1)
  ·exact⟨k,by omega,(Nat.min_eq_left c).trans h2⟩
  ·exact⟨n+1,Nat.le_refl _,Nat.min_eq_right (by omega)⟩
theorem hi_mem(f:Nat->Nat): ∀n,∃k,k<=n/\hi f n=f k
 | 0=>⟨0,Nat.le_refl _,rfl⟩
 | n+1=>by
  obtain⟨k,h1,h2⟩:=hi_mem f n
  by_cases c:f (n+1)<=hi f n
  ·exact⟨k,by omega,(Nat.max_eq_left c).trans h2⟩
  ·exact⟨n+1,Nat.le_refl _,Nat.max_eq_right (by omega)⟩
theorem iY{f:Nat->Nat}{M n:Nat}(h: ∀k,k<=n->f k<M):lo f n<M:=by
 obtain⟨k,h1,h2⟩:=lo_mem f n
 rw[h2];exact h k h1
theorem iZ{f:Nat->Nat}{M n:Nat}(h: ∀k,k<=n->f k<M):hi f n<M:=by
 obtain⟨k,h1,h2⟩:=hi_mem f n
 rw[h2];exact h k h1
theorem lY{f g:Nat->Nat}: ∀{n:Nat},(∀k,k<=n->f k=g k)->lo f n=lo g n
 | 0,h=>h 0 (Nat.le_refl _)
 | n+1,h=>by
  show min _ _=min _ _
  rw[lY (n:=n) (fun k hk=>h k (by omega)),h (n+1) (Nat.le_refl _)]
theorem lZ{f g:Nat->Nat}: ∀{n:Nat},(∀k,k<=n->f k=g k)->hi f n=hi g n
 | 0,h=>h 0 (Nat.le_refl _)
 | n+1,h=>by
  show max _ _=max _ _
  rw[lZ (n:=n) (fun k hk=>h k (by omega)),h (n+1) (Nat.le_refl _)]
def fits(m:Nat)(f:Nat->Nat):Bool:=(List.range m).all fun k=>decide (f k<2139095040)
theorem dE{m:Nat}{f:Nat->Nat}:fits m f=true ↔ ∀k,k<m->f k<2139095040:=by
 unfold fits
 rw[List.all_eq_true]
 exact⟨fun h k hk=>of_decide_eq_true (h k (List.mem_range.2 hk)),fun h k hk=>decide_eq_true (h k (List.mem_range.1 hk))⟩
def okT(face:Int)(m:Nat)(f:Nat->Nat)(ls ms:Nat):Bool:=decide (0<=face/\face<6)&&(decide (sideN m≠0)&&(fits m f&&(decide (ls=lo f (m - 1))&&decide (ms=hi f (m - 1)))))
theorem oX{face:Int}{m:Nat}{f:Nat->Nat}{ls ms:Nat}:okT face m f ls ms=true ↔ (0<=face/\face<6)/\sideN m≠0/\(∀k,k<m->f k<2139095040)/\ls=lo f (m - 1)/\ms=hi f (m - 1):=by
 unfold okT
 simp only[Bool.and_eq_true,decide_eq_true_eq,dE]
theorem nM{m:Nat}{f g:Nat->Nat}(h: ∀k,k<m->f k=g k):fits m f=fits m g:=by
 rw[Bool.eq_iff_iff,dE,dE]
 exact⟨fun q k hk=>by rw[<- h k hk];exact q k hk,fun q k hk=>by rw[h k hk];exact q k hk⟩
theorem qF{face:Int}{m:Nat}{f g:Nat->Nat}{ls ms:Nat}(h: ∀k,k<m->f k=g k):okT face m f ls ms=okT face m g ls ms:=by
 unfold okT
 by_cases c:sideN m=0
 ·simp[c]
 ·rw[nM h]
  rcases Nat.eq_zero_or_pos m with z | z
  ·subst z;exact absurd (by decide+kernel) c
  ·rw[lY (f:=f) (g:=g) (fun k hk=>h k (by omega)),lZ (f:=f) (g:=g) (fun k hk=>h k (by omega))]
end Ti
end
section
open Go.RowKit Go.Deep
namespace Ti
theorem dM(x:Int)(r:Bool)(w:World)(hr:decide (0<=x/\x<6)=r):Calls prog 24 #[.int .i64 x] w fun e w'=>e=.returned (.bool r)/\w'=w:=by
 by_cases c:0<=x
 ·by_cases d:x<6
  ·have F:Hid (r=true):=by show _=_;rw[<- hr];exact decide_eq_true ⟨c,d⟩
   clear hr
   go_enter func24,ntmps24
   go_wp2
   go_ret
   exact⟨by rw[F.out];rfl,rfl⟩
  ·have F:Hid (r=false):=by show _=_;rw[<- hr];exact decide_eq_false (fun h=>d h.2)
   clear hr
   go_enter func24,ntmps24
   go_wp2
   go_ret
   exact⟨by rw[F.out];rfl,rfl⟩
 ·have F:Hid (r=false):=by show _=_;rw[<- hr];exact decide_eq_false (fun h=>c h.1)
  clear hr
  go_enter func24,ntmps24
  go_wp2
  go_ret
  exact⟨by rw[F.out];rfl,rfl⟩
theorem kG(x:Int)(w:World)(h0:0<=x)(h1:x<=1048576):Calls prog 20 #[.int .i64 x] w fun e w'=>e=.returned (.int .i64 (14+4*x))/\w'=w:=by
 go_enter func20,ntmps20
 go_wp2
 go_ret
 exact⟨rfl,rfl⟩
theorem eP(x:Nat)(r:Bool)(w:World)(h:decide (x<2139095040)=r):Calls prog 44 #[.int .u32 (x:Int)] w fun e w'=>e=.returned (.bool (!r))/\w'=w:=by
 have F:Hid (decide ((2139095040:Int)<=x)= !r):=by
  show _=_
  rw[<- h]
  by_cases c:x<2139095040
  ·rw[decide_eq_true c,decide_eq_false (by omega)];rfl
  ·rw[decide_eq_false c,decide_eq_true (by omega)];rfl
 clear h
 go_enter func44,ntmps44
 go_wp2
 go_ret
 exact⟨by rw[<- F.out];rfl,rfl⟩
theorem jC(m:Nat)(w:World)(hm:m<=9223372036854775807):Calls prog 21 #[.int .i64 (m:Int)] w fun e w'=>e=.returned (.int .i64 ((sideN m:Nat):Int))/\w'=w:=by
 obtain⟨s,hs⟩:=aB (sideN m)
 have SC:=hid (dY m)
 rw[hs]at SC ⊢
 have HM:=hid hm
 have HS:=hid hs
 clear hs hm
 go_enter func21,ntmps21
 go_wp2
 go_loopw [4] (fun iv wr=> ∃c:Nat,c<=33/\iv=.int .i64 (c:Nat)/\(∀i,i<c->i*i≠m)/\wr=w) (fun iv _=>33 - (intOf iv).toNat)
 case atStart=>exact⟨0,by omega,rfl,fun i hi=>absurd hi (Nat.not_lt_zero i),rfl⟩
 case round=>
  obtain⟨c,hc,rfl,g1,hwr⟩:=hrel
  have hwr2:=hwr.symm
  subst hwr2
  have G1:=hid g1
  clear g1
  by_cases hcn:c<33
  ·have hcI:(c:Int)<33:=by omega
   have HC:=hid hcn
   have p1:(c:Int)*c<=1024:=by
    have:c*c<=32*32:=Nat.mul_le_mul (by omega) (by omega)
    have e:((c*c:Nat):Int)=(c:Int)*c:=Int.natCast_mul c c
    omega
   have p0:0<=(c:Int)*c:=Int.mul_nonneg (by omega) (by omega)
   obtain⟨q,hq⟩: ∃q:Int,(c:Int)*c=q:=⟨_,rfl⟩
   have hqN:((c*c:Nat):Int)=q:=by rw[<- hq];exact Int.natCast_mul c c
   have HQ:=hid hq
   have HN:=hid hqN
   clear hqN hcn hc
   by_cases e:c*c=m
   ·have e1:(q==(m:Int))=true:=by rw[<- HN.out,e];simp
    have e2:s=c:=by
     rcases SC.out with⟨z,h⟩ | ⟨h1,h2,h3⟩
     ·rw[z]
      rcases Nat.eq_zero_or_pos c with y | y
      ·exact y.symm
      ·exact absurd e (h c y (by have:=HC.out;omega))
     ·exact sq_inj (h3.trans e.symm)
    have E2:=hid e2
    clear e e2
    go_wp2
    go_ret
    exact⟨by rw[E2.out];rfl,by first | trivial | rfl⟩
   ·have e1:(q==(m:Int))=false:=by
     have:=HN.out
     simp
     omega
    have E:=hid e
    clear e
    go_wp2
    refine⟨⟨c+1,by have:=HC.out;omega,by simp,fun i hi=> ?_,by first | trivial | rfl⟩,by have:=HC.out;simp[intOf];omega⟩
    by_cases l:i<c
    ·exact G1.out i l
    ·rw[show i=c by omega];exact E.out
  ·have e6:c=33:=by omega
   subst e6
   have z:s=0:=by
    rcases SC.out with⟨z,_⟩ | ⟨h1,h2,h3⟩
    ·exact z
    ·exact absurd h3 (G1.out s (by omega))
   have Z:=hid z
   clear z
   go_wp2
   go_ret
   exact⟨by rw[Z.out];rfl,by first | trivial | rfl⟩
theorem idx_no(p:Option Addr)(n cp:Nat)(f:Nat->Nat)(w:World)(hn:n<=70368744177664)(hf:IsW .u32 4294967296 w p n f)(HA:Hid (∀i,i<n->f i<2139095040)):
  Calls prog 58 #[.slice p n cp,.func (.func 44) #[] #[]] w fun e w'=>e=.returned (.int .i64 (-1))/\w'=w:=by
 have HF:=hid hf
 have HN:=hid hn
 clear hf hn
 go_enter func58,ntmps58
 go_wp2
 go_loopw [8] (fun iv wr=> ∃c:Nat,c<=n/\iv=.int .i64 (c:Nat)/\wr=w) (fun iv _=>n - (intOf iv).toNat)
 case atStart=>exact⟨0,by omega,rfl,rfl⟩
 case round=>
  obtain⟨c,hc,rfl,hwr⟩:=hrel
  have hwr2:=hwr.symm
  subst hwr2
  by_cases hcn:c<n
  ·have HC:=hid hcn
   have hcI:(c:Int)<n:=by omega
   have hcB:(c:Int)<=70368744177664:=by have:=HN.out;omega
   obtain⟨b0,o0,rfl⟩:=HF.out.some0 (show 0<n by omega)
   obtain⟨x,hx⟩:=aB (f c)
   have at0:=HF.out.at0 hcn
   have hp:=HA.out c hcn
   rw[hx]at at0 hp
   have xc:=at0.2.2
   have CF:=hid (eP x true w (decide_eq_true hp))
   rw[show(!true)=false from rfl]at CF
   clear at0 hx hcn hc hp
   go_wp2_with fail
   refine CF.out.mono ?_
   rintro e9 v9 ⟨rfl,hv9⟩
   have hv8:=hv9.symm
   subst hv8
   go_wp2
   exact⟨⟨c+1,by have:=HC.out;omega,by simp,by first | trivial | rfl⟩,by have:=HC.out;simp[intOf];omega⟩
  ·have e6:n=c:=by omega
   subst e6
   go_wp2
   go_ret
   exact⟨rfl,by first | trivial | rfl⟩
theorem idx_yes(p:Option Addr)(n cp:Nat)(f:Nat->Nat)(w:World)(hn:n<=70368744177664)(hf:IsW .u32 4294967296 w p n f)(HA:Hid (¬ ∀i,i<n->f i<2139095040)):
  Calls prog 58 #[.slice p n cp,.func (.func 44) #[] #[]] w fun e w'=>(∃i:Nat,i<=70368744177664/\e=.returned (.int .i64 (i:Nat)))/\w'=w:=by
 have HF:=hid hf
 have HN:=hid hn
 clear hf hn
 go_enter func58,ntmps58
 go_wp2
 go_loopw [8] (fun iv wr=> ∃c:Nat,c<=n/\iv=.int .i64 (c:Nat)/\(∀i,i<c->f i<2139095040)/\wr=w) (fun iv _=>n - (intOf iv).toNat)
 case atStart=>exact⟨0,by omega,rfl,fun i hi=>absurd hi (Nat.not_lt_zero i),rfl⟩
 case round=>
  obtain⟨c,hc,rfl,g1,hwr⟩:=hrel
  have hwr2:=hwr.symm
  subst hwr2
  have G1:=hid g1
  clear g1
  by_cases hcn:c<n
  ·have HC:=hid hcn
   have hcI:(c:Int)<n:=by omega
   have hcB:(c:Int)<=70368744177664:=by have:=HN.out;omega
   obtain⟨b0,o0,rfl⟩:=HF.out.some0 (show 0<n by omega)
   obtain⟨x,hx⟩:=aB (f c)
   have at0:=HF.out.at0 hcn
   rw[hx]at at0
   have xc:=at0.2.2
   have XE:=hid hx
   clear at0 hx hcn hc
   cases hp:decide (x<2139095040)with
   | false=>
    have CF:=hid (eP x false w hp)
    rw[show(!false)=true from rfl]at CF
    clear hp
    go_wp2_with fail
    refine CF.out.mono ?_
    rintro e9 v9 ⟨rfl,hv9⟩
    have hv8:=hv9.symm
    subst hv8
    go_wp2
    go_ret
    exact⟨⟨c,by have:=HC.out;have:=HN.out;omega,rfl⟩,by first | trivial | rfl⟩
   | true=>
    have CF:=hid (eP x true w hp)
    rw[show(!true)=false from rfl]at CF
    have HP:=hid (of_decide_eq_true hp)
    clear hp
    go_wp2_with fail
    refine CF.out.mono ?_
    rintro e9 v9 ⟨rfl,hv9⟩
    have hv8:=hv9.symm
    subst hv8
    go_wp2
    refine⟨⟨c+1,by have:=HC.out;omega,by simp,fun i hi=> ?_,by first | trivial | rfl⟩,by have:=HC.out;simp[intOf];omega⟩
    by_cases l:i<c
    ·exact G1.out i l
    ·obtain rfl:i=c:=by omega
     rw[XE.out]
     exact HP.out
  ·have e6:n=c:=by omega
   subst e6
   exact absurd G1.out HA.out
theorem has_at(p:Option Addr)(n cp:Nat)(f:Nat->Nat)(r:Bool)(w:World)(hn:n<=70368744177664)(hf:IsW .u32 4294967296 w p n f)(HA:fits n f=r):
  Calls prog 43 #[.slice p n cp,.func (.func 44) #[] #[]] w fun e w'=>e=.returned (.bool (!r))/\w'=w:=by
 cases r with
 | true=>
  have IX:=hid (idx_no p n cp f w hn hf (hid (dE.1 HA)))
  clear hn hf HA
  go_enter func43,ntmps43
  go_wp2_with fail
  refine IX.out.mono ?_
  rintro e9 v9 ⟨rfl,hv9⟩
  have hv8:=hv9.symm
  subst hv8
  go_wp2
  go_ret
  exact⟨rfl,rfl⟩
 | false=>
  have IX:=hid (idx_yes p n cp f w hn hf (hid (fun h=>by rw[dE.2 h]at HA;cases HA)))
  clear hn hf HA
  go_enter func43,ntmps43
  go_wp2_with fail
  refine IX.out.mono ?_
  rintro e9 v9 ⟨⟨i,hi,rfl⟩,hv9⟩
  have hv8:=hv9.symm
  subst hv8
  go_wp2
  go_ret
  exact⟨rfl,rfl⟩
end Ti
end
section
open Tf
theorem s_sw:Ieee.single.signWeight=2147483648:=by decide
theorem lW:Ieee.single.infRung=2139095040:=by decide
theorem s_fb:Ieee.single.fractionBits=23:=rfl
theorem s_word(neg:Bool)(r:Nat):Ieee.single.word neg r=if neg then 2147483648+r else r:=by
 unfold Ieee.Format.word;rw[s_sw]
def K2:Nat:=925
theorem K2_eq:K2=925:=rfl
theorem s_lp:Ieee.single.leastPlace= -(K:Int)+(K2:Int):=by rw[K_eq,K2_eq];decide
def mg32(b:Nat):Nat:=b%2147483648
def ng32(b:Nat):Bool:=decide (2147483648<=b)
theorem rg_s(b:Nat):rg Ieee.single b=mg32 b:=by unfold rg mg32;rw[s_sw]
theorem mag_form(p r:Nat): ∃A k,A<=2 ^ (p+1)/\mag p r=A*2 ^ k:=by
 have hp:=aG p
 have hp1:2 ^ (p+1)=2*2 ^ p:=by rw[Nat.pow_succ];omega
 unfold mag
 by_cases h:r<2 ^ p
 ·exact⟨r,0,by omega,by rw[if_pos h];omega⟩
 ·refine⟨2 ^ p+r%2 ^ p,r/2 ^ p - 1,?_,by rw[if_neg h]⟩
  have:=Nat.mod_lt r hp
  omega
theorem nN(p c r:Nat)(hp:p<=52): ∃R,mv R=mag p r*2 ^ c:=by
 obtain⟨A,k,hA,e⟩:=mag_form p r
 have h1:2 ^ (p+1)<=2 ^ (52+1):=Nat.pow_le_pow_right (by omega) (by omega)
 obtain⟨R,hR⟩:=rep 52 A (k+c) (by omega)
 exact⟨R,by rw[e,Nat.mul_assoc,<- Nat.pow_add];exact hR⟩
theorem nP(p e:Nat):mag p ((e+1)*2 ^ p)=2 ^ (p+e):=by
 have hp:=aG p
 have:1*2 ^ p<=(e+1)*2 ^ p:=Nat.mul_le_mul_right _ (by omega)
 unfold mag
 rw[if_neg (by omega),Nat.mul_mod_left,Nat.mul_div_cancel _ hp,Nat.add_zero,<- Nat.pow_add]
 rfl
def D32(r:Nat):Nat:=rung 52 0 (mag 23 r*2 ^ K2)
theorem mv_D32(r:Nat):mv (D32 r)=mag 23 r*2 ^ K2:=by
 obtain⟨R,e⟩:=nN 23 K2 r (by omega)
 unfold D32
 rw[<- e,eW]
theorem qG(a c k:Nat)(h:a+c=k+K):2 ^ a*2 ^ c=2 ^ k*one:=by
 rw[cD,<- Nat.pow_add,<- Nat.pow_add,h]
theorem mag_top(p e c k R:Nat)(h:p+e+c=k+K)(hR:mv R=2 ^ k*one):mag p ((e+1)*2 ^ p)*2 ^ c=mv R:=by
 rw[nP,hR,qG (p+e) c k h]
theorem D32_inf:mag 23 2139095040*2 ^ K2=mv 5183643171103440896:=by
 have:=mag_top 23 254 K2 128 5183643171103440896 (by rw[K_eq,K2_eq]) (bN 128 _ (by decide))
 rwa [show(254+1)*2 ^ 23=2139095040 from by decide]at this
theorem D32_lt(r:Nat)(h:r<2139095040):D32 r<5183643171103440896:=by
 rw[<- hJ,mv_D32,<- D32_inf]
 exact(Nat.mul_lt_mul_right (aG K2)).2 (cL.2 h)
def t32(x:Nat):Nat:=min (rung 23 K2 (mv (mg x))) 2139095040
def dF(x:Nat):Nat:=if isN x then 2143289344 else if ng x then 2147483648+t32 x else t32 x
def eI(b:Nat):Nat:=
 if 2139095040<mg32 b then quiet else
 let m:=if mg32 b=2139095040 then 9218868437227405312 else D32 (mg32 b)
 if ng32 b then 9223372036854775808+m else m
theorem enc32(x:Nat)(hx:x<18446744073709551616)(m a:Nat)(v:m*2 ^ a=mv (mg x)):
  Ieee.single.write (.number (sg Ieee.double x) m (Ieee.double.leastPlace+a))=if ng x then 2147483648+t32 x else t32 x:=by
 simp only[Ieee.Format.write]
 rw[<- bV,v]
 have h:=cB Ieee.single (sg Ieee.double x) (mv (mg x)) K2
 rw[show Ieee.single.leastPlace - (K2:Int)=Ieee.double.leastPlace by rw[s_lp,lp_K];omega]at h
 rw[h,s_word,lW,s_fb,bX x hx]
 rfl
theorem nQ(x:Nat)(hx:x<18446744073709551616)(fx:mg x<9218868437227405312)(ht:t32 x<2139095040):floatToFloatBits .f64 x .f32=some (if ng x then 2147483648+t32 x else t32 x):=by
 have ei:=aP
 obtain⟨m,a,e,v⟩:=aO Ieee.double x (by rw[bA];omega)
 rw[bA]at v
 have he:=enc32 x hx m a v
 unfold floatToFloatBits
 rw[if_neg (by decide)]
 have e':FloatKind.f64.decode x=.number (sg Ieee.double x) m (Ieee.double.leastPlace+a):=e
 rw[e']
 have he':FloatKind.f32.encode (.number (sg Ieee.double x) m (Ieee.double.leastPlace+a))=if ng x then 2147483648+t32 x else t32 x:=he
 simp only[he']
 have hr:rg Ieee.single (if ng x then 2147483648+t32 x else t32 x)=t32 x:=by
  rw[rg_s];unfold mg32;cases ng x<;>simp<;>omega
 obtain⟨m',a',e2,_⟩:=aO Ieee.single (if ng x then 2147483648+t32 x else t32 x) (by rw[hr,lW];exact ht)
 have e2':FloatKind.f32.decode (if ng x then 2147483648+t32 x else t32 x)=_:=e2
 rw[e2']
 rfl
end
section
open Go.RowKit Tf
theorem iH(b:Nat)(w:World):(callFunc 34 #[.float .f32 b]).run prog w=.ok (.value (.int .u32 b)) w:=by
 rw[run_callFunc_extern (e:=Extern.MathFloatBits.float32bits) func34 (by kernel_rfl) (by kernel_rfl) (by kernel_rfl) (by kernel_rfl)]
 rfl
theorem iI(n:Int)(w:World):(callFunc 41 #[.int .u32 n]).run prog w=.ok (.value (.float .f32 n.toNat)) w:=by
 rw[run_callFunc_extern (e:=Extern.MathFloatBits.float32frombits) func41 (by kernel_rfl) (by kernel_rfl) (by kernel_rfl) (by kernel_rfl)]
 rfl
attribute [local go_sem] aI aJ aQ aR aU aV aX iH iI
theorem past32(x:Nat):(5183643170835005440<=mg x->t32 x=2139095040)/\(mg x<5183643170835005440->t32 x<2139095040):=by
 have a1:rung 23 K2 (mv 5183643170835005440)=2139095040:=by decide+kernel
 have a2:rung 23 K2 (mv 5183643170835005439)=2139095039:=by decide+kernel
 unfold t32
 constructor
 ·intro h
  have:=cF (p:=23) (d:=K2) (by omega) (dT.2 h)
  generalize rung 23 K2 (mv (mg x))=r at*
  omega
 ·intro h
  have:=cF (p:=23) (d:=K2) (by omega) (dT.2 (show mg x<=5183643170835005439 by omega))
  generalize rung 23 K2 (mv (mg x))=r at*
  omega
def ge32(x:Nat):Bool:=fgt x 5183643170835005440||feq x 5183643170835005440
def le32(x:Nat):Bool:=flt x 14407015207689781248||feq x 14407015207689781248
theorem ge32_rk(x:Nat)(hx:x<18446744073709551616)(n:isN x=false):ge32 x=decide (5183643170835005440<=rk x):=by
 have h1:isN 5183643170835005440=false:=by decide
 have h2:rk 5183643170835005440=5183643170835005440:=by decide
 unfold ge32
 rw[mW x _ hx (by omega),fO x _ hx (by omega),n,h1,h2]
 generalize rk x=r
 rw[Bool.eq_iff_iff];simp;omega
theorem le32_rk(x:Nat)(hx:x<18446744073709551616)(n:isN x=false):le32 x=decide (rk x<= -5183643170835005440):=by
 have h1:isN 14407015207689781248=false:=by decide
 have h2:rk 14407015207689781248= -5183643170835005440:=by decide
 unfold le32
 rw[flt_rk x _ hx (by omega),fO x _ hx (by omega),n,h1,h2]
 generalize rk x=r
 rw[Bool.eq_iff_iff];simp;omega
theorem to32_nan(x:Nat)(w:World)(hx:x<18446744073709551616)(n:isN x=true):
  Calls prog 14 #[.float .f64 x] w fun e w'=>e=.returned (.int .u32 2143289344)/\w'=w:=by
 go_enter func14,ntmps14
 go_wp2_with fail
 refine(dL x _ hx).mono ?_
 rintro e w' ⟨rfl,rfl⟩
 go_wp2
 go_ret
 exact⟨rfl,rfl⟩
theorem to32_ge(x:Nat)(w:World)(hx:x<18446744073709551616)(n:isN x=false)(g:ge32 x=true):
  Calls prog 14 #[.float .f64 x] w fun e w'=>e=.returned (.int .u32 2139095040)/\w'=w:=by
 have hg:(fgt x 5183643170835005440||feq x 5183643170835005440)=true:=g
 clear g
 go_enter func14,ntmps14
 go_wp2_with fail
 refine(dL x _ hx).mono ?_
 rintro e w' ⟨rfl,rfl⟩
 go_wp2
 go_ret
 exact⟨rfl,rfl⟩
theorem to32_le(x:Nat)(w:World)(hx:x<18446744073709551616)(n:isN x=false)(g:ge32 x=false)(l:le32 x=true):
  Calls prog 14 #[.float .f64 x] w fun e w'=>e=.returned (.int .u32 4286578688)/\w'=w:=by
 have hg:(fgt x 5183643170835005440||feq x 5183643170835005440)=false:=g
 have hl:(flt x 14407015207689781248||feq x 14407015207689781248)=true:=l
 clear g l
 go_enter func14,ntmps14
 go_wp2_with fail
 refine(dL x _ hx).mono ?_
 rintro e w' ⟨rfl,rfl⟩
 go_wp2
 go_ret
 exact⟨rfl,rfl⟩
theorem to32_num(x r:Nat)(w:World)(hx:x<18446744073709551616)(n:isN x=false)(g:ge32 x=false)(l:le32 x=false)(hr:floatToFloatBits .f64 x .f32=some r):
  Calls prog 14 #[.float .f64 x] w fun e w'=>e=.returned (.int .u32 (r:Nat))/\w'=w:=by
 have hc:=fun(w:World)=>run_convert_float_float (P:=prog) w 47 69 .f64 .f32 x r (by kernel_rfl) (by kernel_rfl) hr
 have hg:(fgt x 5183643170835005440||feq x 5183643170835005440)=false:=g
 have hl:(flt x 14407015207689781248||feq x 14407015207689781248)=false:=l
 clear hr g l
 go_enter func14,ntmps14
 go_wp2_with fail
 refine(dL x _ hx).mono ?_
 rintro e w' ⟨rfl,rfl⟩
 go_wp2
 go_ret
 exact⟨rfl,rfl⟩
theorem qH(x r:Nat)(w:World)(hx:x<18446744073709551616)(hr:dF x=r):
  Calls prog 14 #[.float .f64 x] w fun e w'=>e=.returned (.int .u32 (r:Nat))/\w'=w:=by
 subst hr
 unfold dF
 cases n:isN x
 ·rw[if_neg (by decide)]
  have hle:=bH.1 n
  have hg:=ge32_rk x hx n
  have hl:=le32_rk x hx n
  obtain⟨p1,p2⟩:=past32 x
  by_cases c:5183643170835005440<=mg x
  ·rw[p1 c]
   cases s:ng x
   ·have e:rk x=mg x:=by unfold rk;rw[s];rfl
    rw[if_neg (by decide)]
    exact to32_ge x w hx n (by rw[hg,e];exact decide_eq_true (by omega))
   ·have e:rk x= -(mg x:Int):=by unfold rk;rw[s];rfl
    rw[if_pos rfl]
    exact to32_le x w hx n (by rw[hg,e];exact decide_eq_false (by omega)) (by rw[hl,e];exact decide_eq_true (by omega))
  ·have e: -(mg x:Int)<=rk x/\rk x<=mg x:=by unfold rk;split<;>omega
   exact to32_num x _ w hx n (by rw[hg];exact decide_eq_false (by omega)) (by rw[hl];exact decide_eq_false (by omega)) (nQ x hx (by omega) (p2 (by omega)))
 ·rw[if_pos rfl];exact to32_nan x w hx n
end
section
open Go.RowKit Go.Deep Tf
namespace Ti
attribute [local go_sem] aI aJ aQ aR aU aV aX iH iI
theorem ends_one(b o:Nat)(f:Nat->Nat)(w:World)(hf:IsW .u32 4294967296 w (some ⟨b,o,none⟩) 1 f)(HA:Hid (∀i,i<1->f i<2139095040)):
  Calls prog 28 #[.slice (some ⟨b,o,none⟩) 1 1] w fun e w'=>e=.returned (.tuple #[.int .u32 ((lo f 0:Nat):Int),.int .u32 ((hi f 0:Nat):Int)])/\w'=w:=by
 have HF:=hid hf
 have c0:w.cell? ⟨b,o,none⟩=some (.int .u32 ((f 0:Nat):Int)):=(hf.at0 (k:=0) (by omega)).2.2
 obtain⟨x0,hx0⟩:=aB (f 0)
 rw[hx0]at c0
 have X0:=hid hx0
 clear hf hx0
 go_enter func28,ntmps28
 go_wp2
 go_loopw [4,5,17] (fun lv mv iv wr=> ∃k:Nat,k<=0/\iv=.int .i64 (k:Nat)/\lv=.float .f32 (lo f k)/\mv=.float .f32 (hi f k)/\wr=w) (fun _ _ iv _=>0 - (intOf iv).toNat)
 case atStart=>exact⟨0,by omega,rfl,by rw[<- X0.out];rfl,by rw[<- X0.out];rfl,rfl⟩
 case round=>
  obtain⟨k,hk,rfl,hl,hm,hwr⟩:=hrel
  have hwr2:=hwr.symm
  subst hwr2
  subst hl hm
  have bl:=iY (n:=k) (fun i hi=>HA.out i (by omega))
  have bm:=iZ (n:=k) (fun i hi=>HA.out i (by omega))
  obtain⟨l,hl⟩:=aB (lo f k)
  obtain⟨m,hm⟩:=aB (hi f k)
  rw[hl]at bl
  rw[hm]at bm
  rw[hl,hm]
  have e:k=0:=by omega
  subst e
  have L:=hid hl
  have M:=hid hm
  clear hl hm hk
  go_wp2
  go_ret2
  exact⟨by rw[L.out,M.out];rfl,by first | trivial | rfl⟩
theorem qI(b o n cp:Nat)(f:Nat->Nat)(w:World)(hc2:2<=cp)(hcp:(n:Int)+1<=(cp:Int)/\(cp:Int)<=9223372036854775807)(hf:IsW .u32 4294967296 w (some ⟨b,o,none⟩) (n+1) f)(HA:Hid (∀i,i<n+1->f i<2139095040)):
  Calls prog 28 #[.slice (some ⟨b,o,none⟩) (n+1:Nat) (cp:Nat)] w fun e w'=>e=.returned (.tuple #[.int .u32 ((lo f n:Nat):Int),.int .u32 ((hi f n:Nat):Int)])/\w'=w:=by
 have HF:=hid hf
 have hc1: ¬cp=1:=by omega
 clear hc2
 have c0:w.cell? ⟨b,o,none⟩=some (.int .u32 ((f 0:Nat):Int)):=(hf.at0 (k:=0) (by omega)).2.2
 obtain⟨x0,hx0⟩:=aB (f 0)
 rw[hx0]at c0
 have X0:=hid hx0
 have h1:(n:Int)+1<=(cp:Int):=hcp.1
 have h2:(cp:Int)<=9223372036854775807:=hcp.2
 clear hf hx0 hcp
 go_enter func28,ntmps28
 go_wp2
 go_loopw [4,5,17] (fun lv mv iv wr=> ∃k:Nat,k<=n/\iv=.int .i64 (k:Nat)/\lv=.float .f32 (lo f k)/\mv=.float .f32 (hi f k)/\wr=w) (fun _ _ iv _=>n - (intOf iv).toNat)
 case atStart=>exact⟨0,by omega,rfl,by rw[<- X0.out];rfl,by rw[<- X0.out];rfl,rfl⟩
 case round=>
  obtain⟨k,hk,rfl,hl,hm,hwr⟩:=hrel
  have hwr2:=hwr.symm
  subst hwr2
  subst hl hm
  have bl:=iY (n:=k) (fun i hi=>HA.out i (by omega))
  have bm:=iZ (n:=k) (fun i hi=>HA.out i (by omega))
  obtain⟨l,hl⟩:=aB (lo f k)
  obtain⟨m,hm⟩:=aB (hi f k)
  rw[hl]at bl
  rw[hm]at bm
  rw[hl,hm]
  by_cases hlt:k<n
  ·have cn:=(HF.out.at0 (k:=k+1) (by omega)).2.2
   have cn':w.cell? ⟨b,o+1+k,none⟩=some (.int .u32 ((f (k+1):Nat):Int)):=by rw[show o+1+k=o+(k+1)by omega];exact cn
   have bx:=HA.out (k+1) (by omega)
   obtain⟨x,hx⟩:=aB (f (k+1))
   rw[hx]at cn' bx
   have r1: ∀ts t,(Builtin.min_ ts t #[.float .f32 l,.float .f32 x]).run prog w=.ok (.float .f32 (min l x)) w:=fun ts t=>nK w ts t bl bx
   have r2: ∀ts t,(Builtin.max_ ts t #[.float .f32 m,.float .f32 x]).run prog w=.ok (.float .f32 (max m x)) w:=fun ts t=>nL w ts t bm bx
   obtain⟨l2,hl2⟩:=aB (min l x)
   obtain⟨m2,hm2⟩:=aB (max m x)
   rw[hl2]at r1
   rw[hm2]at r2
   have E1:Hid (lo f (k+1)=l2):=by show min _ _=_;rw[hl,hx,hl2]
   have E2:Hid (hi f (k+1)=m2):=by show max _ _=_;rw[hm,hx,hm2]
   have HL:=hid hlt
   have kl:((k:Nat):Int)<n:=by omega
   clear hl hm hl2 hm2 hx cn bl bm bx hlt hk
   go_wp2
   exact⟨⟨k+1,HL.out,by simp,by rw[E1.out],by rw[E2.out],by first | trivial | rfl⟩,by have:=HL.out;simp[intOf];omega⟩
  ·have e:n=k:=by omega
   subst e
   have L:=hid hl
   have M:=hid hm
   clear hl hm hlt hk
   go_wp2
   go_ret2
   exact⟨by rw[L.out,M.out];rfl,by first | trivial | rfl⟩
theorem oY(b o m cp:Nat)(f:Nat->Nat)(w:World)(h0:1<=m)(hcp:m<=cp/\cp<=9223372036854775807)(hf:IsW .u32 4294967296 w (some ⟨b,o,none⟩) m f)(HA: ∀i,i<m->f i<2139095040):
  Calls prog 28 #[.slice (some ⟨b,o,none⟩) m cp] w fun e w'=>e=.returned (.tuple #[.int .u32 ((lo f (m - 1):Nat):Int),.int .u32 ((hi f (m - 1):Nat):Int)])/\w'=w:=by
 obtain⟨n,rfl⟩: ∃n,m=n+1:=⟨m - 1,by omega⟩
 rw[Nat.add_sub_cancel]
 by_cases c:2<=cp
 ·exact qI b o n cp f w (by omega) (by omega) hf HA
 ·have e1:n=0:=by omega
  have e2:cp=1:=by omega
  subst e1 e2
  exact ends_one b o f w hf HA
end Ti
end
section
open Go.RowKit Go.Deep Tf
namespace Ti
theorem can_0(face:Int)(ls ms:Nat)(p:Option Addr)(m cp:Nat)(w:World)
  (CF:Hid (∀v,Calls prog 24 #[.int .i64 face] v fun e w'=>e=.returned (.bool false)/\w'=v))
  :Calls prog 19 #[.agg #[.int .i64 face,.int .u32 (ls:Int),.int .u32 (ms:Int),.slice p m cp]] w fun e w'=>e=.returned (.bool false)/\Below w.heap.size w w':=by
 obtain⟨A0,R0⟩:=aF w (.cells #[.int .i64 face,.int .u32 (ls:Int),.int .u32 (ms:Int),.slice p m cp] 25)
 go_enter func19,ntmps19
 go_upto_region 1 with fail
 generalize hW:World.alloc w _=V0 at*
 obtain⟨gw,hgw⟩:=aB w.heap.size
 rw[hgw]at R0 ⊢
 clear hgw hW
 have y0:=aA 0 R0.out
 have y1:=aA 1 R0.out
 have y2:=aA 2 R0.out
 have y3:=aA 3 R0.out
 go_wp2_with fail
 refine(CF.out V0).mono ?_
 rintro e9 v9 ⟨rfl,hv9⟩
 have hv8:=hv9.symm
 subst hv8
 go_wp2
 go_ret
 exact⟨rfl,A0.out⟩
theorem can_1(face:Int)(ls ms:Nat)(p:Option Addr)(m cp:Nat)(sd:Nat)(hs:(((sd:Nat):Int)==(0:Int))=true)(w:World)
  (CF:Hid (∀v,Calls prog 24 #[.int .i64 face] v fun e w'=>e=.returned (.bool true)/\w'=v))
  (CS:Hid (∀v,Calls prog 21 #[.int .i64 (m:Int)] v fun e w'=>e=.returned (.int .i64 ((sd:Nat):Int))/\w'=v))
  :Calls prog 19 #[.agg #[.int .i64 face,.int .u32 (ls:Int),.int .u32 (ms:Int),.slice p m cp]] w fun e w'=>e=.returned (.bool false)/\Below w.heap.size w w':=by
 obtain⟨A0,R0⟩:=aF w (.cells #[.int .i64 face,.int .u32 (ls:Int),.int .u32 (ms:Int),.slice p m cp] 25)
 go_enter func19,ntmps19
 go_upto_region 1 with fail
 generalize hW:World.alloc w _=V0 at*
 obtain⟨gw,hgw⟩:=aB w.heap.size
 rw[hgw]at R0 ⊢
 clear hgw hW
 have y0:=aA 0 R0.out
 have y1:=aA 1 R0.out
 have y2:=aA 2 R0.out
 have y3:=aA 3 R0.out
 go_wp2_with fail
 refine(CF.out V0).mono ?_
 rintro e9 v9 ⟨rfl,hv9⟩
 have hv8:=hv9.symm
 subst hv8
 go_wp2_with fail
 refine(CS.out V0).mono ?_
 rintro e9 v9 ⟨rfl,hv9⟩
 have hv8:=hv9.symm
 subst hv8
 go_wp2
 go_ret
 exact⟨rfl,A0.out⟩
theorem can_2(face:Int)(ls ms:Nat)(p:Option Addr)(m cp:Nat)(sd:Nat)(hs:(((sd:Nat):Int)==(0:Int))=false)(w:World)
  (CF:Hid (∀v,Calls prog 24 #[.int .i64 face] v fun e w'=>e=.returned (.bool true)/\w'=v))
  (CS:Hid (∀v,Calls prog 21 #[.int .i64 (m:Int)] v fun e w'=>e=.returned (.int .i64 ((sd:Nat):Int))/\w'=v))
  (CH:Hid (∀v,Ab w v->Calls prog 43 #[.slice p m cp,.func (.func 44) #[] #[]] v fun e w'=>e=.returned (.bool true)/\w'=v))
  :Calls prog 19 #[.agg #[.int .i64 face,.int .u32 (ls:Int),.int .u32 (ms:Int),.slice p m cp]] w fun e w'=>e=.returned (.bool false)/\Below w.heap.size w w':=by
 obtain⟨A0,R0⟩:=aF w (.cells #[.int .i64 face,.int .u32 (ls:Int),.int .u32 (ms:Int),.slice p m cp] 25)
 go_enter func19,ntmps19
 go_upto_region 1 with fail
 generalize hW:World.alloc w _=V0 at*
 obtain⟨gw,hgw⟩:=aB w.heap.size
 rw[hgw]at R0 ⊢
 clear hgw hW
 have y0:=aA 0 R0.out
 have y1:=aA 1 R0.out
 have y2:=aA 2 R0.out
 have y3:=aA 3 R0.out
 go_wp2_with fail
 refine(CF.out V0).mono ?_
 rintro e9 v9 ⟨rfl,hv9⟩
 have hv8:=hv9.symm
 subst hv8
 go_wp2_with fail
 refine(CS.out V0).mono ?_
 rintro e9 v9 ⟨rfl,hv9⟩
 have hv8:=hv9.symm
 subst hv8
 go_wp2_with fail
 refine(CH.out V0 A0.out).mono ?_
 rintro e9 v9 ⟨rfl,hv9⟩
 have hv8:=hv9.symm
 subst hv8
 go_wp2
 go_ret
 exact⟨rfl,A0.out⟩
theorem can_3(face:Int)(ls ms:Nat)(p:Option Addr)(m cp:Nat)(sd:Nat)(hs:(((sd:Nat):Int)==(0:Int))=false)(l1 m1:Nat)(h1:((ls:Int)==(l1:Int))=false)(w:World)
  (CF:Hid (∀v,Calls prog 24 #[.int .i64 face] v fun e w'=>e=.returned (.bool true)/\w'=v))
  (CS:Hid (∀v,Calls prog 21 #[.int .i64 (m:Int)] v fun e w'=>e=.returned (.int .i64 ((sd:Nat):Int))/\w'=v))
  (CH:Hid (∀v,Ab w v->Calls prog 43 #[.slice p m cp,.func (.func 44) #[] #[]] v fun e w'=>e=.returned (.bool false)/\w'=v))
  (CE:Hid (∀v,Ab w v->Calls prog 28 #[.slice p m cp] v fun e w'=>e=.returned (.tuple #[.int .u32 (l1:Nat),.int .u32 (m1:Nat)])/\w'=v))
  :Calls prog 19 #[.agg #[.int .i64 face,.int .u32 (ls:Int),.int .u32 (ms:Int),.slice p m cp]] w fun e w'=>e=.returned (.bool false)/\Below w.heap.size w w':=by
 obtain⟨A0,R0⟩:=aF w (.cells #[.int .i64 face,.int .u32 (ls:Int),.int .u32 (ms:Int),.slice p m cp] 25)
 go_enter func19,ntmps19
 go_upto_region 1 with fail
 generalize hW:World.alloc w _=V0 at*
 obtain⟨gw,hgw⟩:=aB w.heap.size
 rw[hgw]at R0 ⊢
 clear hgw hW
 have y0:=aA 0 R0.out
 have y1:=aA 1 R0.out
 have y2:=aA 2 R0.out
 have y3:=aA 3 R0.out
 go_wp2_with fail
 refine(CF.out V0).mono ?_
 rintro e9 v9 ⟨rfl,hv9⟩
 have hv8:=hv9.symm
 subst hv8
 go_wp2_with fail
 refine(CS.out V0).mono ?_
 rintro e9 v9 ⟨rfl,hv9⟩
 have hv8:=hv9.symm
 subst hv8
 go_wp2_with fail
 refine(CH.out V0 A0.out).mono ?_
 rintro e9 v9 ⟨rfl,hv9⟩
 have hv8:=hv9.symm
 subst hv8
 go_wp2_with fail
 refine(CE.out V0 A0.out).mono ?_
 rintro e9 v9 ⟨rfl,hv9⟩
 have hv8:=hv9.symm
 subst hv8
 go_wp2
 go_ret
 exact⟨rfl,A0.out⟩
theorem can_4(face:Int)(ls ms:Nat)(p:Option Addr)(m cp:Nat)(sd:Nat)(hs:(((sd:Nat):Int)==(0:Int))=false)(l1 m1:Nat)(h1:((ls:Int)==(l1:Int))=true)(r:Bool)(h2:((ms:Int)==(m1:Int))=r)(w:World)
  (CF:Hid (∀v,Calls prog 24 #[.int .i64 face] v fun e w'=>e=.returned (.bool true)/\w'=v))
  (CS:Hid (∀v,Calls prog 21 #[.int .i64 (m:Int)] v fun e w'=>e=.returned (.int .i64 ((sd:Nat):Int))/\w'=v))
  (CH:Hid (∀v,Ab w v->Calls prog 43 #[.slice p m cp,.func (.func 44) #[] #[]] v fun e w'=>e=.returned (.bool false)/\w'=v))
  (CE:Hid (∀v,Ab w v->Calls prog 28 #[.slice p m cp] v fun e w'=>e=.returned (.tuple #[.int .u32 (l1:Nat),.int .u32 (m1:Nat)])/\w'=v))
  :Calls prog 19 #[.agg #[.int .i64 face,.int .u32 (ls:Int),.int .u32 (ms:Int),.slice p m cp]] w fun e w'=>e=.returned (.bool r)/\Below w.heap.size w w':=by
 obtain⟨A0,R0⟩:=aF w (.cells #[.int .i64 face,.int .u32 (ls:Int),.int .u32 (ms:Int),.slice p m cp] 25)
 go_enter func19,ntmps19
 go_upto_region 1 with fail
 generalize hW:World.alloc w _=V0 at*
 obtain⟨gw,hgw⟩:=aB w.heap.size
 rw[hgw]at R0 ⊢
 clear hgw hW
 have y0:=aA 0 R0.out
 have y1:=aA 1 R0.out
 have y2:=aA 2 R0.out
 have y3:=aA 3 R0.out
 go_wp2_with fail
 refine(CF.out V0).mono ?_
 rintro e9 v9 ⟨rfl,hv9⟩
 have hv8:=hv9.symm
 subst hv8
 go_wp2_with fail
 refine(CS.out V0).mono ?_
 rintro e9 v9 ⟨rfl,hv9⟩
 have hv8:=hv9.symm
 subst hv8
 go_wp2_with fail
 refine(CH.out V0 A0.out).mono ?_
 rintro e9 v9 ⟨rfl,hv9⟩
 have hv8:=hv9.symm
 subst hv8
 go_wp2_with fail
 refine(CE.out V0 A0.out).mono ?_
 rintro e9 v9 ⟨rfl,hv9⟩
 have hv8:=hv9.symm
 subst hv8
 have H2:=hid h2
 clear h2
 go_wp2
 go_ret
 exact⟨by rw[<- H2.out];rfl,A0.out⟩
theorem fK(face:Int)(ls ms:Nat)(p:Option Addr)(m cp:Nat)(f:Nat->Nat)(w:World)(hm:m<=70368744177664/\m<=cp/\cp<=9223372036854775807)(hf:IsW .u32 4294967296 w p m f):
  Calls prog 19 #[.agg #[.int .i64 face,.int .u32 (ls:Int),.int .u32 (ms:Int),.slice p m cp]] w fun e w'=>e=.returned (.bool (okT face m f ls ms))/\Below w.heap.size w w':=by
 have CS:=fun v=>jC m v (by omega)
 have CH:=fun v (a:Ab w v)=>has_at p m cp f (fits m f) v (by omega) (hf.below a) rfl
 by_cases c1:0<=face/\face<6
 ·by_cases c2:sideN m=0
  ·have e:okT face m f ls ms=false:=by unfold okT;simp[c2]
   rw[e]
   exact can_1 face ls ms p m cp (sideN m) (by rw[c2];rfl) w (hid fun v=>dM face true v (decide_eq_true c1)) (hid CS)
  ·have s0:(((sideN m:Nat):Int)==(0:Int))=false:=by simp;exact c2
   cases c3:fits m f with
   | false=>
    have e:okT face m f ls ms=false:=by unfold okT;rw[c3];simp
    rw[e]
    rw[c3]at CH
    exact can_2 face ls ms p m cp (sideN m) s0 w (hid fun v=>dM face true v (decide_eq_true c1)) (hid CS) (hid CH)
   | true=>
    rw[c3]at CH
    have m0:1<=m:=by
     rcases Nat.eq_zero_or_pos m with z | z
     ·subst z;exact absurd (by decide+kernel) c2
     ·exact z
    obtain⟨b,o,rfl⟩:=hf.some0 m0
    have CE:=fun v (a:Ab w v)=>oY b o m cp f v m0 (by omega) (hf.below a) (dE.1 c3)
    have e:okT face m f ls ms=(decide (ls=lo f (m - 1))&&decide (ms=hi f (m - 1))):=by unfold okT;rw[c3,decide_eq_true c1,decide_eq_true c2];rfl
    rw[e]
    by_cases c4:ls=lo f (m - 1)
    ·rw[decide_eq_true c4,Bool.true_and]
     exact can_4 face ls ms (some ⟨b,o,none⟩) m cp (sideN m) s0 _ _ (by simp;omega) (decide (ms=hi f (m - 1))) (by rw[Bool.eq_iff_iff];simp;omega) w (hid fun v=>dM face true v (decide_eq_true c1)) (hid CS) (hid CH) (hid CE)
    ·rw[decide_eq_false c4,Bool.false_and]
     exact can_3 face ls ms (some ⟨b,o,none⟩) m cp (sideN m) s0 _ _ (by simp;omega) w (hid fun v=>dM face true v (decide_eq_true c1)) (hid CS) (hid CH) (hid CE)
 ·have e:okT face m f ls ms=false:=by unfold okT;rw[decide_eq_false c1];rfl
  rw[e]
  exact can_0 face ls ms p m cp w (hid fun v=>dM face false v (decide_eq_false c1))
end Ti
end
end Go.Proofs.Ytdeammhdedcjlaa
