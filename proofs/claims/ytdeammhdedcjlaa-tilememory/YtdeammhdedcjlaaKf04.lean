/-
  Some of the texts of this proof, one behind the other.
-/
import Derived.Deep.RegionHeld3
import Derived.Laws.IdiomCopy
import Derived.Laws.IdiomStrings
import Derived.Laws.Strings
import Derived.Test.YtdeammhdedcjlaaKf03
set_option maxRecDepth 100000
set_option maxHeartbeats 400000000
namespace Go.Proofs.Ytdeammhdedcjlaa
open _root_.Go.Proofs.Try
section
open Go.RowKit Go.Deep Tf
namespace Ti
def pt(D:Nat->Nat)(o x n:Nat)(i:Nat):Nat:=if o<=i/\i<o+n then byt x (i - o)else D i
theorem pt_0(D:Nat->Nat)(o x:Nat)(i:Nat):pt D o x 0 i=D i:=by unfold pt;rw[if_neg (by omega)]
theorem pt_s(D:Nat->Nat)(o x n:Nat)(i:Nat):pt D o x (n+1) i=if i=o+n then byt x n else pt D o x n i:=by
 unfold pt
 by_cases c:i=o+n
 ·rw[if_pos c,if_pos (by omega),c,Nat.add_sub_cancel_left]
 ·rw[if_neg c]
  by_cases d:o<=i/\i<o+n
  ·rw[if_pos d,if_pos (by omega)]
  ·rw[if_neg d,if_neg (by omega)]
theorem bytI{x:Nat}(h:x<4294967296):((byt x 0:Nat):Int)=(x:Int)%256/\((byt x 1:Nat):Int)=(x:Int)/256%256/\((byt x 2:Nat):Int)=(x:Int)/65536%256/\((byt x 3:Nat):Int)=(x:Int)/16777216:=by
 have k:=byt_4 x
 rw[k.1,k.2.1,k.2.2.1,k.2.2.2]
 omega
theorem nR(b o L cp N x:Nat)(D:Nat->Nat)(w:World)(hx:x<4294967296)(hL:4<=L/\L<=1048576)(hN:o+4<=N)(hD:w.rowIs b 5 N (fun i=>.int .u8 ((D i:Nat):Int))):
  Calls prog 22 #[.slice (some ⟨b,o,none⟩) L cp,.int .u32 (x:Int)] w fun e w'=>e=.returned (.tuple #[])/\Sh.Abo w b w'/\w'.rowIs b 5 N (fun i=>.int .u8 ((pt D o x 4 i:Nat):Int)):=by
 have HD:=hid (hD.congr (g:=fun i=>.int .u8 ((pt D o x 0 i:Nat):Int)) (fun i _=>by rw[pt_0]))
 have HN:=hid hN
 have HL:=hid hL
 have HX:=hid hx
 clear hD hN hL hx
 go_enter func22,ntmps22
 go_wp2
 go_loopw [5] (fun iv wr=> ∃c:Nat,c<=4/\iv=.int .i64 (c:Nat)/\Sh.Abo w b wr/\wr.rowIs b 5 N (fun i=>.int .u8 ((pt D o x c i:Nat):Int))) (fun iv _=>4 - (intOf iv).toNat)
 case atStart=>exact⟨0,by omega,rfl,Sh.Abo.refl _ _,HD.out⟩
 case round=>
  obtain⟨c,hc,rfl,a1,r1⟩:=hrel
  have A1:=hid a1
  have R1:=hid r1
  clear a1 r1 HD
  have hl:(4:Int)<=(L:Int):=by have:=HL.out;omega
  have hl2:(L:Int)<=1048576:=by have:=HL.out;omega
  have x0:(0:Int)<=(x:Int):=by omega
  have x1:(x:Int)<4294967296:=by have:=HX.out;omega
  have cs:c=0\/c=1\/c=2\/c=3\/c=4:=by omega
  clear hc
  rcases cs with rfl | rfl | rfl | rfl | rfl
  ·have z1:=R1.out.cell (i:=o) (by have:=HN.out;omega)
   have z2:=R1.out.frozen (o)
   go_wp2
   refine⟨⟨1,by omega,rfl,Abo.set A1.out _ _,(R1.out.set (o) _).congr (fun i _=> ?_)⟩,by simp[intOf]⟩
   have q:pt D o x 1 i=if i=o then byt x 0 else pt D o x 0 i:=pt_s D o x 0 i
   rw[q]
   by_cases e:i=o
   ·rw[if_pos e,if_pos e,(bytI HX.out).1]
   ·rw[if_neg e,if_neg e]
  ·have z1:=R1.out.cell (i:=o+1) (by have:=HN.out;omega)
   have z2:=R1.out.frozen (o+1)
   go_wp2
   refine⟨⟨2,by omega,rfl,Abo.set A1.out _ _,(R1.out.set (o+1) _).congr (fun i _=> ?_)⟩,by simp[intOf]⟩
   have q:pt D o x 2 i=if i=o+1 then byt x 1 else pt D o x 1 i:=pt_s D o x 1 i
   rw[q]
   by_cases e:i=o+1
   ·rw[if_pos e,if_pos e,(bytI HX.out).2.1]
   ·rw[if_neg e,if_neg e]
  ·have z1:=R1.out.cell (i:=o+2) (by have:=HN.out;omega)
   have z2:=R1.out.frozen (o+2)
   go_wp2
   refine⟨⟨3,by omega,rfl,Abo.set A1.out _ _,(R1.out.set (o+2) _).congr (fun i _=> ?_)⟩,by simp[intOf]⟩
   have q:pt D o x 3 i=if i=o+2 then byt x 2 else pt D o x 2 i:=pt_s D o x 2 i
   rw[q]
   by_cases e:i=o+2
   ·rw[if_pos e,if_pos e,(bytI HX.out).2.2.1]
   ·rw[if_neg e,if_neg e]
  ·have z1:=R1.out.cell (i:=o+3) (by have:=HN.out;omega)
   have z2:=R1.out.frozen (o+3)
   go_wp2
   refine⟨⟨4,by omega,rfl,Abo.set A1.out _ _,(R1.out.set (o+3) _).congr (fun i _=> ?_)⟩,by simp[intOf]⟩
   have q:pt D o x 4 i=if i=o+3 then byt x 3 else pt D o x 3 i:=pt_s D o x 3 i
   rw[q]
   by_cases e:i=o+3
   ·rw[if_pos e,if_pos e,(bytI HX.out).2.2.2]
   ·rw[if_neg e,if_neg e]
  ·go_wp2
   go_end0
   exact⟨rfl,A1.out,R1.out⟩
theorem or32{a b s:Nat}(ha:a<2 ^ s)(h:a+b*2 ^ s<4294967296):bits .or .u32 (a:Int) ((b*2 ^ s:Nat):Int)=((a+b*2 ^ s:Nat):Int):=by
 have e:a ||| b*2 ^ s=a+b*2 ^ s:=by
  rw[Nat.or_comm,Nat.mul_comm b,<- Nat.two_pow_add_eq_or_of_lt ha b]
  omega
 show IntKind.u32.wrap (((BitVec.ofInt 32 (a:Int) ||| BitVec.ofInt 32 ((b*2 ^ s:Nat):Int)).toNat:Nat):Int)=_
 rw[BitVec.ofInt_natCast,BitVec.ofInt_natCast,BitVec.toNat_or,BitVec.toNat_ofNat,BitVec.toNat_ofNat]
 rw[Nat.mod_eq_of_lt (by omega),Nat.mod_eq_of_lt (by omega),e]
 show((_:Nat):Int)%4294967296=_
 omega
theorem xor32{a b:Nat}(ha:a<4294967296)(hb:b<4294967296):bits .xor .u32 (a:Int) (b:Int)=((a ^^^ b:Nat):Int):=by
 have l:=fT ha hb
 show IntKind.u32.wrap (((BitVec.ofInt 32 (a:Int) ^^^ BitVec.ofInt 32 (b:Int)).toNat:Nat):Int)=_
 rw[BitVec.ofInt_natCast,BitVec.ofInt_natCast,BitVec.toNat_xor,BitVec.toNat_ofNat,BitVec.toNat_ofNat]
 rw[Nat.mod_eq_of_lt (by omega),Nat.mod_eq_of_lt (by omega)]
 show((_:Nat):Int)%4294967296=_
 omega
def nm(f:Nat->Nat):Nat->Nat
 | 0=>0
 | 1=>f 0
 | 2=>f 0+256*f 1
 | 3=>f 0+256*f 1+65536*f 2
 | _=>num f 0
theorem gM{f:Nat->Nat}{k X y:Nat}(hf: ∀i,i<4->f i<256)(hk:k<4)(hX:nm f k=X)(hy:f k=y):X<2 ^ (8*k)/\X+y*2 ^ (8*k)<4294967296/\nm f (k+1)=X+y*2 ^ (8*k):=by
 have h0:=hf 0 (by omega)
 have h1:=hf 1 (by omega)
 have h2:=hf 2 (by omega)
 have h3:=hf 3 (by omega)
 have c:k=0\/k=1\/k=2\/k=3:=by omega
 subst hX hy
 rcases c with rfl | rfl | rfl | rfl
 ·refine⟨?_,?_,?_⟩<;>simp only[nm]<;>omega
 ·refine⟨?_,?_,?_⟩<;>simp only[nm]<;>omega
 ·refine⟨?_,?_,?_⟩<;>simp only[nm]<;>omega
 ·refine⟨?_,?_,?_⟩<;>simp only[nm,num,Nat.zero_add]<;>omega
theorem nS(b o L cp:Nat)(f:Nat->Nat)(w:World)(hL:4<=L/\L<=1048576)(hf:IsW .u8 256 w (some ⟨b,o,none⟩) L f):
  Calls prog 25 #[.slice (some ⟨b,o,none⟩) L cp] w fun e w'=>e=.returned (.int .u32 ((num f 0:Nat):Int))/\w'=w:=by
 have HF:=hid hf
 have HL:=hid hL
 clear hf hL
 go_enter func25,ntmps25
 go_wp2
 go_loopw [3,5] (fun xv iv wr=> ∃c:Nat,c<=4/\iv=.int .i64 (c:Nat)/\xv=.int .u32 ((nm f c:Nat):Int)/\wr=w) (fun _ iv _=>4 - (intOf iv).toNat)
 case atStart=>exact⟨0,by omega,rfl,rfl,rfl⟩
 case round=>
  obtain⟨c,hc,rfl,rfl,hwr⟩:=hrel
  have hwr2:=hwr.symm
  subst hwr2
  have hl:(4:Int)<=(L:Int):=by have:=HL.out;omega
  have hl2:(L:Int)<=1048576:=by have:=HL.out;omega
  have cs:c=0\/c=1\/c=2\/c=3\/c=4:=by omega
  clear hc
  rcases cs with rfl | rfl | rfl | rfl | rfl
  ·have z:w.cell? ⟨b,o,none⟩=some (.int .u8 ((f 0:Nat):Int)):=(HF.out.at0 (k:=0) (by have:=HL.out;omega)).2.2
   have b1:=(HF.out.at0 (k:=0) (by have:=HL.out;omega)).1
   obtain⟨y,hy⟩:=aB (f 0)
   obtain⟨X,hX⟩:=aB (nm f 0)
   rw[hy]at z b1
   rw[hX]
   have y0:(0:Int)<=(y:Int):=by omega
   have y1:(y:Int)<256:=by omega
   have HY:=hid hy
   have HX:=hid hX
   clear hy hX b1
   go_wp2
   obtain⟨g1,g2,g3⟩:=gM (k:=0) (fun i hi=>(HF.out.at0 (k:=i) (by have:=HL.out;omega)).1) (by omega) HX.out HY.out
   have q:=or32 (a:=X) (b:=y) (s:=8*0) g1 g2
   rw[<- g3]at q
   exact⟨⟨1,by omega,rfl,congrArg (Value.int .u32) ((by rw[<- q];simp)),by first | trivial | rfl⟩,by simp[intOf]⟩
  ·have z:w.cell? ⟨b,o+1,none⟩=some (.int .u8 ((f 1:Nat):Int)):=(HF.out.at0 (k:=1) (by have:=HL.out;omega)).2.2
   have b1:=(HF.out.at0 (k:=1) (by have:=HL.out;omega)).1
   obtain⟨y,hy⟩:=aB (f 1)
   obtain⟨X,hX⟩:=aB (nm f 1)
   rw[hy]at z b1
   rw[hX]
   have y0:(0:Int)<=(y:Int):=by omega
   have y1:(y:Int)<256:=by omega
   have HY:=hid hy
   have HX:=hid hX
   clear hy hX b1
   go_wp2
   obtain⟨g1,g2,g3⟩:=gM (k:=1) (fun i hi=>(HF.out.at0 (k:=i) (by have:=HL.out;omega)).1) (by omega) HX.out HY.out
   have q:=or32 (a:=X) (b:=y) (s:=8*1) g1 g2
   rw[<- g3]at q
   exact⟨⟨2,by omega,rfl,congrArg (Value.int .u32) ((by rw[<- q,Int.natCast_mul];rfl)),by first | trivial | rfl⟩,by simp[intOf]⟩
  ·have z:w.cell? ⟨b,o+2,none⟩=some (.int .u8 ((f 2:Nat):Int)):=(HF.out.at0 (k:=2) (by have:=HL.out;omega)).2.2
   have b1:=(HF.out.at0 (k:=2) (by have:=HL.out;omega)).1
   obtain⟨y,hy⟩:=aB (f 2)
   obtain⟨X,hX⟩:=aB (nm f 2)
   rw[hy]at z b1
   rw[hX]
   have y0:(0:Int)<=(y:Int):=by omega
   have y1:(y:Int)<256:=by omega
   have HY:=hid hy
   have HX:=hid hX
   clear hy hX b1
   go_wp2
   obtain⟨g1,g2,g3⟩:=gM (k:=2) (fun i hi=>(HF.out.at0 (k:=i) (by have:=HL.out;omega)).1) (by omega) HX.out HY.out
   have q:=or32 (a:=X) (b:=y) (s:=8*2) g1 g2
   rw[<- g3]at q
   exact⟨⟨3,by omega,rfl,congrArg (Value.int .u32) ((by rw[<- q,Int.natCast_mul];rfl)),by first | trivial | rfl⟩,by simp[intOf]⟩
  ·have z:w.cell? ⟨b,o+3,none⟩=some (.int .u8 ((f 3:Nat):Int)):=(HF.out.at0 (k:=3) (by have:=HL.out;omega)).2.2
   have b1:=(HF.out.at0 (k:=3) (by have:=HL.out;omega)).1
   obtain⟨y,hy⟩:=aB (f 3)
   obtain⟨X,hX⟩:=aB (nm f 3)
   rw[hy]at z b1
   rw[hX]
   have y0:(0:Int)<=(y:Int):=by omega
   have y1:(y:Int)<256:=by omega
   have HY:=hid hy
   have HX:=hid hX
   clear hy hX b1
   go_wp2
   obtain⟨g1,g2,g3⟩:=gM (k:=3) (fun i hi=>(HF.out.at0 (k:=i) (by have:=HL.out;omega)).1) (by omega) HX.out HY.out
   have q:=or32 (a:=X) (b:=y) (s:=8*3) g1 g2
   rw[<- g3]at q
   exact⟨⟨4,by omega,rfl,congrArg (Value.int .u32) ((by rw[<- q,Int.natCast_mul];rfl)),by first | trivial | rfl⟩,by simp[intOf]⟩
  ·go_wp2
   go_ret
   exact⟨rfl,by first | trivial | rfl⟩
end Ti
end
section
open Go.RowKit Go.Deep Tf
namespace Ti
def pv(f:Nat->Nat):Nat->Nat
 | 0=>0
 | k+1=>f k
theorem pv_lt{f:Nat->Nat}{M k:Nat}(h0:0<M)(h: ∀i,i<k->f i<M):pv f k<M:=by
 cases k with
 | zero=>exact h0
 | succ k=>exact h k (by omega)
theorem xr_pv(f:Nat->Nat)(k:Nat):xr f k=f k ^^^ pv f k:=by
 cases k with
 | zero=>exact(Nat.xor_zero _).symm
 | succ k=>rfl
def pc(D:Nat->Nat)(o:Nat)(f:Nat->Nat)(m i:Nat):Nat:=if o<=i/\i<o+4*m then byt (xr f ((i - o)/4)) ((i - o)%4)else D i
theorem pc_0(D:Nat->Nat)(o:Nat)(f:Nat->Nat)(i:Nat):pc D o f 0 i=D i:=by unfold pc;rw[if_neg (by omega)]
theorem pc_s(D:Nat->Nat)(o:Nat)(f:Nat->Nat)(k i:Nat):pc D o f (k+1) i=pt (pc D o f k) (o+4*k) (xr f k) 4 i:=by
 unfold pt pc
 by_cases c:o+4*k<=i/\i<o+4*k+4
 ·rw[if_pos c,if_pos (by omega),show(i - o)/4=k by omega,show(i - o)%4=i - (o+4*k)by omega]
 ·rw[if_neg c]
  by_cases d:o<=i/\i<o+4*k
  ·rw[if_pos d,if_pos (by omega)]
  ·rw[if_neg d,if_neg (by omega)]
theorem mA(b o m cp N pb po cq:Nat)(D f:Nat->Nat)(w:World)(hm:m<=1024)(hcp:4*m<=cp)(hcp2:cp<=1048576)(hN:o+4*m<=N)(hne:pb≠b)(hD:w.rowIs b 5 N (fun i=>.int .u8 ((D i:Nat):Int)))(hf:IsW .u32 4294967296 w (some ⟨pb,po,none⟩) m f):
  Calls prog 23 #[.slice (some ⟨b,o,none⟩) (4*m) cp,.slice (some ⟨pb,po,none⟩) m cq] w fun e w'=>e=.returned (.tuple #[])/\Sh.Abo w b w'/\w'.rowIs b 5 N (fun i=>.int .u8 ((pc D o f m i:Nat):Int)):=by
 have HD:=hid (hD.congr (g:=fun i=>.int .u8 ((pc D o f 0 i:Nat):Int)) (fun i _=>by rw[pc_0]))
 have HB:=hid (show m<=1024/\4*m<=cp/\cp<=1048576/\o+4*m<=N/\pb≠b from⟨hm,hcp,hcp2,hN,hne⟩)
 have HF:=hid hf
 clear hD hN hm hcp hcp2 hne hf
 obtain⟨L,hL⟩:=aB (4*m)
 rw[hL]
 have EL:=hid hL
 clear hL
 go_enter func23,ntmps23
 go_wp2
 go_loopw [4,9] (fun xv iv wr=> ∃c:Nat,c<=m/\iv=.int .i64 (c:Nat)/\xv=.int .u32 ((pv f c:Nat):Int)/\Sh.Abo w b wr/\wr.rowIs b 5 N (fun i=>.int .u8 ((pc D o f c i:Nat):Int))) (fun _ iv _=>m - (intOf iv).toNat)
 case atStart=>exact⟨0,by omega,rfl,rfl,Sh.Abo.refl _ _,HD.out⟩
 case round=>
  obtain⟨c,hc,rfl,rfl,a1,r1⟩:=hrel
  have A1:=hid a1
  have R1:=hid r1
  clear a1 r1 HD
  by_cases hcm:c<m
  ·have HC:=hid hcm
   have hcI:(c:Int)<m:=by omega
   have hcB:(c:Int)<=1024:=by have:=HB.out;omega
   have k1:4*(c:Int)<=(L:Int):=by have:=EL.out;omega
   have k2:(L:Int)<=(cp:Int):=by have:=EL.out;have:=HB.out;omega
   have k3: ¬cp=4*c:=by have:=EL.out;have:=HB.out;omega
   have k4:(cp:Int)<=1048576:=by have:=HB.out;omega
   have z:=((oW HF.out A1.out HB.out.2.2.2.2).at0 hcm).2.2
   have bf: ∀i,i<c+1->f i<4294967296:=fun i hi=>HF.out.lt i (by omega)
   have b1:=bf c (by omega)
   have b2:=pv_lt (k:=c) (by decide) (fun i hi=>bf i (by omega))
   have q:=xor32 b1 b2
   rw[<- xr_pv]at q
   have b3:=xr_lt (f:=f) (k:=c) (fun i hi=>bf i (by omega))
   obtain⟨x,hx⟩:=aB (f c)
   obtain⟨y,hy⟩:=aB (pv f c)
   obtain⟨u,hu⟩:=aB (xr f c)
   rw[hx]at z q
   rw[hy]at q
   rw[hu]at q b3
   rw[hy]
   have CP:=hid (fun(L2 cp2:Nat) (h2:4<=L2/\L2<=1048576)=>nR b (o+4*c) L2 cp2 N u (pc D o f c) wr b3 h2 (by have:=HB.out;omega) R1.out)
   have HX:=hid hx
   have HU:=hid hu
   clear hx hy hu b1 b2 b3 bf hcm hc
   go_wp2_with fail
   refine(CP.out _ _ (by have:=EL.out;have:=HB.out;have:=HC.out;omega)).mono ?_
   rintro e9 v9 ⟨rfl,a9,r9⟩
   have A9:=hid (Abo.trans A1.out a9)
   have R9:=hid (r9.congr (g:=fun i=>.int .u8 ((pc D o f (c+1) i:Nat):Int)) (fun i _=>by rw[pc_s,HU.out]))
   clear a9 r9
   go_wp2
   exact⟨⟨c+1,by have:=HC.out;omega,by simp,by rw[<- HX.out];rfl,A9.out,R9.out⟩,by have:=HC.out;simp[intOf];omega⟩
  ·have e6:m=c:=by omega
   subst e6
   go_wp2
   go_end0
   exact⟨rfl,A1.out,R1.out⟩
theorem rx_pv(g:Nat->Nat)(k:Nat):rx g k=pv (rx g) k ^^^ g k:=by
 cases k with
 | zero=>exact(Nat.zero_xor _).symm
 | succ k=>rfl
theorem gB(b o m cp:Nat)(f:Nat->Nat)(w:World)(hm:1<=m/\m<=1024)(hcp:4*m<=cp)(hcp2:cp<=9223372036854775807)(hf:IsW .u8 256 w (some ⟨b,o,none⟩) (4*m) f):
  Calls prog 26 #[.slice (some ⟨b,o,none⟩) (4*m) cp] w fun e w'=> ∃g,e=.returned (.slice (some ⟨g,0,none⟩) m m)/\Ab w w'/\w.heap.size<=g/\w'.rowIs g 22 m (fun i=>.int .u32 ((rx (fun k=>num f (4*k)) i:Nat):Int)):=by
 have M1: ∀v:World,(Instr.makeSlice 23 (.int .i64 (m:Nat)) (.int .i64 (m:Nat))).run prog v=.ok (.slice (some ⟨v.heap.size,0,none⟩) m m) (v.alloc (Obj.cells (madeCells #[.int .u32 0] m) 22)):=fun v=>run_make_row' (P:=prog) 23 22 (.int .u32 0) 4 underlying23 dZ rfl .i64 .i64 m (by omega) (by omega) v
 have HB:=hid (show(1<=m/\m<=1024)/\4*m<=cp/\cp<=9223372036854775807 from⟨hm,hcp,hcp2⟩)
 have HF:=hid hf
 clear hm hcp hcp2 hf
 obtain⟨G,hG⟩: ∃G:Nat->Nat,(fun k=>num f (4*k))=G:=⟨_,rfl⟩
 have EG:=hid hG
 rw[hG]
 clear hG
 obtain⟨L,hL⟩:=aB (4*m)
 rw[hL]
 have EL:=hid hL
 have ED:(L:Int)/4=(m:Int):=by omega
 have ET:Int.tdiv (L:Int) 4=(m:Int):=by rw[Int.tdiv_eq_ediv_of_nonneg (by omega)];exact ED
 have mB:(m:Int)<=1024:=by have:=HB.out;omega
 have m0:(1:Int)<=(m:Int):=by have:=HB.out;omega
 clear hL
 have A1:=dJ (bl1 w (Obj.cells (madeCells #[.int .u32 0] m) 22))
 have N1:Hid ((w.alloc (Obj.cells (madeCells #[.int .u32 0] m) 22)).rowIs w.heap.size 22 m (fun _=>.int .u32 0)):=dD (heap_alloc_new _ _)
 go_enter func26,ntmps26
 go_upto_region 2 with fail
 generalize hW:World.alloc w _=V at*
 obtain⟨g,hg⟩:=aB w.heap.size
 have LE:Hid (w.heap.size<=g):=by show _<=_;omega
 rw[hg]at N1 ⊢
 clear hg hW M1 ED ET
 go_wp2
 go_loopw [4,12] (fun xv iv wr=> ∃c:Nat,c<=m/\iv=.int .i64 (c:Nat)/\xv=.int .u32 ((pv (rx G) c:Nat):Int)/\Ab w wr/\wr.rowIs g 22 m (fun i=>.int .u32 ((if i<c then rx G i else 0:Nat):Int))) (fun _ iv _=>m - (intOf iv).toNat)
 case atStart=>exact⟨0,by omega,rfl,rfl,A1.out,N1.out.congr (fun i _=>by simp)⟩
 case round=>
  obtain⟨c,hc,rfl,rfl,a1,r1⟩:=hrel
  have AW:=hid a1
  have R1:=hid r1
  clear a1 r1 N1 A1
  by_cases hcm:c<m
  ·have HC:=hid hcm
   have hcI:(c:Int)<m:=by omega
   have hcB:(c:Int)<=1024:=by have:=HB.out;omega
   have k1:4*(c:Int)<=(L:Int):=by have:=EL.out;omega
   have k2:(L:Int)<=(cp:Int):=by have:=EL.out;have:=HB.out;omega
   have k3: ¬cp=4*c:=by have:=EL.out;have:=HB.out;omega
   have k4:(cp:Int)<=9223372036854775807:=by have:=HB.out;omega
   have fb: ∀i,i<L->f i<256:=fun i hi=>HF.out.lt i (by have:=EL.out;omega)
   have gb: ∀k,k<m->G k<4294967296:=fun k hk=>by
    rw[<- EG.out]
    have e0:=fb (4*k) (by have:=EL.out;omega)
    have e1:=fb (4*k+1) (by have:=EL.out;omega)
    have e2:=fb (4*k+2) (by have:=EL.out;omega)
    have e3:=fb (4*k+3) (by have:=EL.out;omega)
    show num f (4*k)<_
    unfold num
    omega
   have b1:=gb c hcm
   have b2:=pv_lt (f:=rx G) (M:=4294967296) (k:=c) (by decide) (fun i hi=>rx_lt (fun j hj=>gb j (by omega)))
   have q:=xor32 b2 b1
   rw[<- rx_pv]at q
   have CG:=hid (fun(L2 cp2:Nat) (h2:4<=L2/\L2<=1048576) (h3:4*c+L2<=L)=>nS b (o+4*c) L2 cp2 (fun i=>f (4*c+i)) wr h2 ((HF.out.below AW.out).part (4*c) L2 (by have:=EL.out;omega)))
   have e7:num (fun i=>f (4*c+i)) 0=G c:=by
    rw[<- EG.out]
    rfl
   rw[e7]at CG
   obtain⟨x,hx⟩:=aB (pv (rx G) c)
   obtain⟨y,hy⟩:=aB (G c)
   obtain⟨u,hu⟩:=aB (rx G c)
   rw[hx,hy,hu]at q
   rw[hy]at CG
   rw[hx]
   have HU:=hid hu
   have z1:=R1.out.cell hcm
   have z2:=R1.out.frozen c
   clear hx hy hu b1 b2 gb fb hcm hc e7
   go_wp2_with fail
   refine(CG.out _ _ (by have:=EL.out;have:=HB.out;have:=HC.out;omega) (by have:=EL.out;have:=HB.out;have:=HC.out;omega)).mono ?_
   rintro e9 v9 ⟨rfl,hv9⟩
   have hv8:=hv9.symm
   subst hv8
   go_wp2
   refine⟨⟨c+1,by have:=HC.out;omega,by simp,by rw[<- HU.out];rfl,AW.out.setk LE.out _,(R1.out.set c _).congr (fun i _=> ?_)⟩,by have:=HC.out;simp[intOf];omega⟩
   by_cases e:i=c
   ·rw[if_pos e,if_pos (by omega),e,HU.out]
   ·by_cases l:i<c
    ·rw[if_neg e,if_pos l,if_pos (by omega)]
    ·rw[if_neg e,if_neg l,if_neg (by omega)]
  ·have e6:m=c:=by omega
   subst e6
   go_wp2
   go_ret
   exact⟨g,rfl,AW.out,LE.out,R1.out.congr (fun i hi=>by rw[if_pos hi])⟩
end Ti
end
section
open Go.RowKit Go.Deep Tf
namespace Ti
theorem qJ(w:World)(ty:TypeId){g N cp:Nat}{f:Nat->Value}(h:w.rowIs g 5 N f)(hN:4<=N):
  (Builtin.copy_ #[26,9] ty #[.slice (some ⟨g,0,none⟩) N cp,.string {data:= #[84,73,76,69]}]).run prog w=.ok (goInt 4) ((((w.setCell ⟨g,0,none⟩ (.int .u8 84)).setCell ⟨g,1,none⟩ (.int .u8 73)).setCell ⟨g,2,none⟩ (.int .u8 76)).setCell ⟨g,3,none⟩ (.int .u8 69)):=by
 have e4:Nat.min 4 N=4:=Nat.min_eq_left hN
 have hst:=run_storeCells_cells (P:=prog) g 0 [.int .u8 84,.int .u8 73,.int .u8 76,.int .u8 69] 0 w (fun j hj=>by
  have q:=h.cell (i:=0+0+j) (by simp at hj;omega)
  rw[q];rfl) (fun j hj=>h.frozen _) (fun x hx=>by simp at hx;rcases hx with rfl | rfl | rfl | rfl<;>rfl)
 obtain⟨i,hi,_⟩:=Option.map_eq_some_iff.1 gL
 simp[Builtin.copy_,run_underlying underlying26,Builtin.lenOf,Builtin.firstCells,sizeOf,typeInfo,hi,ByteArray.size,e4]
 rw[hst]
 rfl
theorem enc_no(face:Int)(ls ms:Nat)(p:Option Addr)(m cp:Nat)(w:World)
  (CB:Hid (∀v,Ab w v->Calls prog 19 #[.agg #[.int .i64 face,.int .u32 (ls:Int),.int .u32 (ms:Int),.slice p m cp]] v fun e w'=>e=.returned (.bool false)/\Below v.heap.size v w')):
  Calls prog 9 #[.agg #[.int .i64 face,.int .u32 (ls:Int),.int .u32 (ms:Int),.slice p m cp]] w fun e w'=>e=.returned (.tuple #[.slice none 0 0,.int .i64 1])/\Below w.heap.size w w':=by
 obtain⟨A0,R0⟩:=aF w (.cells #[.int .i64 face,.int .u32 (ls:Int),.int .u32 (ms:Int),.slice p m cp] 25)
 go_enter func9,ntmps9
 go_upto_region 1 with fail
 generalize hW:World.alloc w _=V0 at*
 obtain⟨gw,hgw⟩:=aB w.heap.size
 rw[hgw]at R0 ⊢
 clear hgw hW
 have y0:=aA 0 R0.out
 have y1:=aA 1 R0.out
 have y2:=aA 2 R0.out
 have y3:=aA 3 R0.out
 go_wp2_with fail
 refine(CB.out V0 A0.out).mono ?_
 rintro e9 v1 ⟨rfl,b1⟩
 have A1:Hid (Ab w v1):=Ab.trans A0.out b1
 clear b1 y0 y1 y2 y3
 go_wp2
 go_ret2
 exact⟨rfl,A1.out⟩
def D5(fc n:Nat)(i:Nat):Nat:=if i<6 then head fc n i else 0
theorem enc_pc{fc n ls ms m i:Nat}{f:Nat->Nat}(hi:i<14+4*m):pc (pt (pt (D5 fc n) 6 ls 4) 10 ms 4) 14 f m i=enc fc n ls ms f i:=by
 unfold pc pt D5 enc
 by_cases c:i<6
 ·rw[if_neg (by omega),if_neg (by omega),if_neg (by omega),if_pos c,if_pos c]
 ·rw[if_neg c (α:=Nat),if_neg c (α:=Nat)]
  by_cases d:i<10
  ·rw[if_neg (by omega),if_neg (by omega),if_pos (by omega),if_pos d]
  ·by_cases k:i<14
   ·rw[if_neg (by omega),if_pos (by omega),if_neg d,if_pos k]
   ·rw[if_pos (by omega),if_neg d,if_neg k]
theorem enc_yes(fc ls ms pb po m cp n N:Nat)(f:Nat->Nat)(w:World)(hfc:fc<6)(hls:ls<4294967296)(hms:ms<4294967296)(hn:n<=32)(hm:1<=m/\m<=1024)(hN:14+4*m=N)(hf:IsW .u32 4294967296 w (some ⟨pb,po,none⟩) m f)
  (CB:Hid (∀v,Ab w v->Calls prog 19 #[.agg #[.int .i64 (fc:Int),.int .u32 (ls:Int),.int .u32 (ms:Int),.slice (some ⟨pb,po,none⟩) m cp]] v fun e w'=>e=.returned (.bool true)/\Below v.heap.size v w'))
  (CS:Hid (∀v,Calls prog 21 #[.int .i64 (m:Int)] v fun e w'=>e=.returned (.int .i64 (n:Int))/\w'=v)):
  Calls prog 9 #[.agg #[.int .i64 (fc:Int),.int .u32 (ls:Int),.int .u32 (ms:Int),.slice (some ⟨pb,po,none⟩) m cp]] w fun e w'=> ∃g,e=.returned (.tuple #[.slice (some ⟨g,0,none⟩) N N,.int .i64 0])/\Below w.heap.size w w'/\w.heap.size<=g/\w'.rowIs g 5 N (fun i=>.int .u8 ((enc fc n ls ms f i:Nat):Int)):=by
 have HN:=hid (show 14+4*m=N/\1<=m/\m<=1024/\fc<6/\n<=32 from⟨hN,hm.1,hm.2,hfc,hn⟩)
 have HX:=hid (show ls<4294967296/\ms<4294967296 from⟨hls,hms⟩)
 have HF:=hid hf
 have M1: ∀v:World,(Instr.makeSlice 26 (.int .i64 (N:Nat)) (.int .i64 (N:Nat))).run prog v=.ok (.slice (some ⟨v.heap.size,0,none⟩) N N) (v.alloc (Obj.cells (madeCells #[.int .u8 0] N) 5)):=fun v=>run_make_row' (P:=prog) 26 5 (.int .u8 0) 1 underlying26 gL rfl .i64 .i64 N (by omega) (by omega) v
 have SZ:=hid (fun v=>kG (m:Int) v (by omega) (by omega))
 rw[show(14:Int)+4*(m:Int)=(N:Int)by omega]at SZ
 have fc0:(0:Int)<=(fc:Int):=by omega
 have fc1:(fc:Int)<6:=by omega
 have n0:(0:Int)<=(n:Int):=by omega
 have n1:(n:Int)<=32:=by omega
 have N0:(18:Int)<=(N:Int):=by omega
 have N1:(N:Int)<=4110:=by omega
 have N4:(4:Int)<(N:Int):=by omega
 have N6b:(6:Int)<=(N:Int):=by omega
 have N10b:(10:Int)<=(N:Int):=by omega
 have N14b:(14:Int)<=(N:Int):=by omega
 have N5:(5:Int)<(N:Int):=by omega
 have N6: ¬N=6:=by omega
 have N10: ¬N=10:=by omega
 have N14: ¬N=14:=by omega
 have WF:Hid (IntKind.u8.wrap (fc:Int)=(fc:Int)):=by show(fc:Int)%256=_;omega
 have WN:Hid (IntKind.u8.wrap (n:Int)=(n:Int)):=by show(n:Int)%256=_;omega
 clear hN hm hfc hn hls hms hf
 obtain⟨A0,R0⟩:=aF w (.cells #[.int .i64 (fc:Int),.int .u32 (ls:Int),.int .u32 (ms:Int),.slice (some ⟨pb,po,none⟩) m cp] 25)
 go_enter func9,ntmps9
 go_upto_region 1 with fail
 generalize hW:World.alloc w _=V0 at*
 obtain⟨gw,hgw⟩:=aB w.heap.size
 have LW:Hid (w.heap.size<=gw):=by show _<=_;omega
 rw[hgw]at R0 ⊢
 clear hgw hW
 have y0:=aA 0 R0.out
 have y1:=aA 1 R0.out
 have y2:=aA 2 R0.out
 have y3:=aA 3 R0.out
 go_wp2_with fail
 refine(CB.out V0 A0.out).mono ?_
 rintro e9 v1 ⟨rfl,b1⟩
 have A1:Hid (Ab w v1):=Ab.trans A0.out b1
 have R1:=hid (Ab.heap b1 R0.out)
 clear b1 y0 y1 y2 y3 A0 R0
 have y3:=aA 3 R1.out
 go_wp2_with fail
 refine(SZ.out v1).mono ?_
 rintro e9 v9 ⟨rfl,hv9⟩
 have hv8:=hv9.symm
 subst hv8
 have A2:=dJ (bl1 v1 (Obj.cells (madeCells #[.int .u8 0] N) 5))
 have N2:Hid ((v1.alloc (Obj.cells (madeCells #[.int .u8 0] N) 5)).rowIs v1.heap.size 5 N (fun _=>.int .u8 0)):=dD (heap_alloc_new _ _)
 go_upto_region 4 with fail
 generalize hV:World.alloc v1 _=v2 at*
 obtain⟨g,hg⟩:=aB v1.heap.size
 have PB:Hid (pb≠g):=by
  have q:=(HF.out.at0 (k:=0) (by have:=HN.out;omega)).2.1
  have:=A1.out.size
  show _≠_
  omega
 have LG:Hid (w.heap.size<=g/\gw<g/\v1.heap.size<=g):=⟨by have:=A1.out.size;omega,by have:=lt_of_block R1.out;omega,by omega⟩
 rw[hg]at N2 ⊢
 clear hg hV M1 y3
 have R2:=hid (A2.out.heap R1.out)
 have CM:=fun ty=>qJ v2 ty (cp:=N) N2.out (by omega)
 have A3:Hid (Sh.Abo v1 g ((((v2.setCell ⟨g,0,none⟩ (.int .u8 84)).setCell ⟨g,1,none⟩ (.int .u8 73)).setCell ⟨g,2,none⟩ (.int .u8 76)).setCell ⟨g,3,none⟩ (.int .u8 69))):=Abo.set (Abo.set (Abo.set (Abo.set (Abo.of A2.out g) _ _) _ _) _ _) _ _
 have N3:Hid (((((v2.setCell ⟨g,0,none⟩ (.int .u8 84)).setCell ⟨g,1,none⟩ (.int .u8 73)).setCell ⟨g,2,none⟩ (.int .u8 76)).setCell ⟨g,3,none⟩ (.int .u8 69)).rowIs g 5 N (fun i=>.int .u8 ((if i<4 then head fc n i else 0:Nat):Int))):=((((N2.out.set 0 _).set 1 _).set 2 _).set 3 _).congr (fun i _=>by
  by_cases c:i<4
  ·rw[if_pos c]
   have d:i=0\/i=1\/i=2\/i=3:=by omega
   rcases d with rfl | rfl | rfl | rfl<;>rfl
  ·rw[if_neg c,if_neg (by omega),if_neg (by omega),if_neg (by omega),if_neg (by omega)]
   rfl)
 go_wp2_with fail
 generalize hV:World.setCell _ _ _=v3 at*
 clear hV CM N2 A2 R2
 have R3:Hid (v3.heap[gw]? =some (.cells #[.int .i64 (fc:Int),.int .u32 (ls:Int),.int .u32 (ms:Int),.slice (some ⟨pb,po,none⟩) m cp] 25)):=by
  show _=_
  rw[A3.out.2.2.2.2 gw (lt_of_block R1.out) (by have:=LG.out;omega)]
  exact R1.out
 have X3:Hid (Sh.Abo v3 g v3):=Sh.Abo.refl _ _
 have AX:Abx v3 g N 5 v3:=(Ab.refl v3).x N3.out.choose_spec.2.1 N3.out.choose_spec.1
 have KS:Hid (∀w',Abx v3 g N 5 w'->Abx v3 g N 5 w'/\w'.cell? ⟨gw,0,none⟩=some (.int .i64 (fc:Int))/\w'.cell? ⟨gw,3,none⟩=some (.slice (some ⟨pb,po,none⟩) m cp)/\w'.frozen? ⟨g,4,none⟩=false/\w'.cell? ⟨g,4,none⟩=some (rv w' g 4)/\w'.frozen? ⟨g,5,none⟩=false/\w'.cell? ⟨g,5,none⟩=some (rv w' g 5)):=fun w' h=>by
  have e:=(h.1.2.2.2.2 gw (lt_of_block R3.out) (by have:=LG.out;omega)).trans R3.out
  exact⟨h,aA 0 e,aA 3 e,h.free 4,h.some (by omega),h.free 5,h.some (by omega)⟩
 go_region_held3 (fun w'=>Abx v3 g N 5 w'/\w'.cell? ⟨gw,0,none⟩=some (.int .i64 (fc:Int))/\w'.cell? ⟨gw,3,none⟩=some (.slice (some ⟨pb,po,none⟩) m cp)/\w'.frozen? ⟨g,4,none⟩=false/\w'.cell? ⟨g,4,none⟩=some (rv w' g 4)/\w'.frozen? ⟨g,5,none⟩=false/\w'.cell? ⟨g,5,none⟩=some (rv w' g 5)) ((refine KS.out _ ?_;(with_reducible (repeat(first | assumption | apply Abx.drew | apply Abx.set)));done)) (first | (go_at_call 21;refine(CS.out _).mono ?_;rintro e9 z2 ⟨rfl,hz2⟩;have hz3:=hz2.symm;subst hz3))
 clear KS AX
 have N4:Hid ((((v3.setCell ⟨g,4,none⟩ (.int .u8 (IntKind.u8.wrap (fc:Int)))).setCell ⟨g,5,none⟩ (.int .u8 (IntKind.u8.wrap (n:Int)))).drew).rowIs g 5 N (fun i=>.int .u8 ((D5 fc n i:Nat):Int))):=((N3.out.set 4 _).set 5 _).drew.congr (fun i _=>by
  unfold D5
  by_cases c:i<4
  ·rw[if_neg (by omega),if_neg (by omega),if_pos c,if_pos (by omega)]
  ·by_cases d:i=5
   ·rw[if_pos d,if_pos (by omega),d,WN.out];rfl
   ·by_cases k:i=4
    ·rw[if_neg d,if_pos k,if_pos (by omega),k,WF.out];rfl
    ·rw[if_neg d,if_neg k,if_neg c,if_neg (by omega)])
 have R4:Hid ((((v3.setCell ⟨g,4,none⟩ (.int .u8 (IntKind.u8.wrap (fc:Int)))).setCell ⟨g,5,none⟩ (.int .u8 (IntKind.u8.wrap (n:Int)))).drew).heap[gw]? =some (.cells #[.int .i64 (fc:Int),.int .u32 (ls:Int),.int .u32 (ms:Int),.slice (some ⟨pb,po,none⟩) m cp] 25)):=(aN (by have:=LG.out;omega)).trans ((aN (by have:=LG.out;omega)).trans R3.out)
 have A4:Hid (Sh.Abo v1 g (((v3.setCell ⟨g,4,none⟩ (.int .u8 (IntKind.u8.wrap (fc:Int)))).setCell ⟨g,5,none⟩ (.int .u8 (IntKind.u8.wrap (n:Int)))).drew)):=Abo.trans (Abo.set (Abo.set A3.out _ _) _ _) (Abo.of ((Ab.refl _).drew) g)
 obtain⟨v4,hV⟩:=aB (((v3.setCell ⟨g,4,none⟩ (.int .u8 (IntKind.u8.wrap (fc:Int)))).setCell ⟨g,5,none⟩ (.int .u8 (IntKind.u8.wrap (n:Int)))).drew)
 rw[hV]at N4 R4 A4 ⊢
 clear hV N3 R3 A3 X3
 go_wp2_with fail
 have KSv5:Hid (∀w',Ab v4 w'->w'.cell? ⟨gw,1,none⟩=some (.int .u32 (ls:Int))):=fun w' h=>by
  have e:=h.heap R4.out
  exact aA 1 e
 have CPv5:Hid (∀v,Ab v4 v->Calls prog 22 #[.slice (some ⟨g,6,none⟩) (N - 6) (N - 6),.int .u32 (ls:Int)] v fun e w'=>e=.returned (.tuple #[])/\Sh.Abo v4 g w'/\w'.rowIs g 5 N (fun i=>.int .u8 ((pt (D5 fc n) 6 ls 4 i:Nat):Int))):=fun v a=>(nR g 6 (N - 6) (N - 6) N ls _ v HX.out.1 (by omega) (by omega) (Sh.aD N4.out a)).mono fun _ _ h=>⟨h.1,Abo.trans (Abo.of a g) h.2.1,h.2.2⟩
 go_region_held3 (fun w'=>w'.cell? ⟨gw,1,none⟩=some (.int .u32 (ls:Int))) (first | assumption | (refine KSv5.out _ ?_;(with_reducible (repeat(first | assumption | apply Ab.drew | exact Ab.refl _)));done)) (first | (go_at_call 22;refine(CPv5.out _ (by with_reducible (repeat(first | assumption | apply Ab.drew | exact Ab.refl _)))).mono ?_;rintro e9 v5 ⟨rfl,a9,r9⟩;have rz:v5.cell? ⟨gw,1,none⟩=some (.int .u32 (ls:Int)):=(by have e:=(a9.2.2.2.2 gw (lt_of_block R4.out) (by have:=LG.out;omega)).trans R4.out;exact aA 1 e)))
 have N5:=hid r9
 have R5:Hid (v5.heap[gw]? =some (.cells #[.int .i64 (fc:Int),.int .u32 (ls:Int),.int .u32 (ms:Int),.slice (some ⟨pb,po,none⟩) m cp] 25)):=(a9.2.2.2.2 gw (lt_of_block R4.out) (by have:=LG.out;omega)).trans R4.out
 have A5:=hid (Abo.trans A4.out a9)
 clear a9 r9 rz KSv5 CPv5
 go_wp2_with fail
 have KSv6:Hid (∀w',Ab v5 w'->w'.cell? ⟨gw,2,none⟩=some (.int .u32 (ms:Int))):=fun w' h=>by
  have e:=h.heap R5.out
  exact aA 2 e
 have CPv6:Hid (∀v,Ab v5 v->Calls prog 22 #[.slice (some ⟨g,10,none⟩) (N - 10) (N - 10),.int .u32 (ms:Int)] v fun e w'=>e=.returned (.tuple #[])/\Sh.Abo v5 g w'/\w'.rowIs g 5 N (fun i=>.int .u8 ((pt (pt (D5 fc n) 6 ls 4) 10 ms 4 i:Nat):Int))):=fun v a=>(nR g 10 (N - 10) (N - 10) N ms _ v HX.out.2 (by omega) (by omega) (Sh.aD N5.out a)).mono fun _ _ h=>⟨h.1,Abo.trans (Abo.of a g) h.2.1,h.2.2⟩
 go_region_held3 (fun w'=>w'.cell? ⟨gw,2,none⟩=some (.int .u32 (ms:Int))) (first | assumption | (refine KSv6.out _ ?_;(with_reducible (repeat(first | assumption | apply Ab.drew | exact Ab.refl _)));done)) (first | (go_at_call 22;refine(CPv6.out _ (by with_reducible (repeat(first | assumption | apply Ab.drew | exact Ab.refl _)))).mono ?_;rintro e9 v6 ⟨rfl,a9,r9⟩;have rz:v6.cell? ⟨gw,2,none⟩=some (.int .u32 (ms:Int)):=(by have e:=(a9.2.2.2.2 gw (lt_of_block R5.out) (by have:=LG.out;omega)).trans R5.out;exact aA 2 e)))
 have N6:=hid r9
 have R6:Hid (v6.heap[gw]? =some (.cells #[.int .i64 (fc:Int),.int .u32 (ls:Int),.int .u32 (ms:Int),.slice (some ⟨pb,po,none⟩) m cp] 25)):=(a9.2.2.2.2 gw (lt_of_block R5.out) (by have:=LG.out;omega)).trans R5.out
 have A6:=hid (Abo.trans A5.out a9)
 clear a9 r9 rz KSv6 CPv6
 go_wp2_with fail
 have KSv7:Hid (∀w',Ab v6 w'->w'.cell? ⟨gw,3,none⟩=some (.slice (some ⟨pb,po,none⟩) m cp)):=fun w' h=>by
  have e:=h.heap R6.out
  exact aA 3 e
 have CPv7:Hid (∀v,Ab v6 v->Calls prog 23 #[.slice (some ⟨g,14,none⟩) (N - 14) (N - 14),.slice (some ⟨pb,po,none⟩) m cp] v fun e w'=>e=.returned (.tuple #[])/\Sh.Abo v6 g w'/\w'.rowIs g 5 N (fun i=>.int .u8 ((pc (pt (pt (D5 fc n) 6 ls 4) 10 ms 4) 14 f m i:Nat):Int))):=fun v a=>by
  have q:=mA g 14 m (N - 14) N pb po cp _ f v (by have:=HN.out;omega) (by have:=HN.out;omega) (by omega) (by have:=HN.out;omega) PB.out (Sh.aD N6.out a) ((oW (HF.out.below A1.out) (Abo.trans A6.out (Abo.of a g)) PB.out))
  rw[show 4*m=N - 14 by have:=HN.out;omega]at q
  exact q.mono fun _ _ h=>⟨h.1,Abo.trans (Abo.of a g) h.2.1,h.2.2⟩
 go_region_held3 (fun w'=>w'.cell? ⟨gw,3,none⟩=some (.slice (some ⟨pb,po,none⟩) m cp)) (first | assumption | (refine KSv7.out _ ?_;(with_reducible (repeat(first | assumption | apply Ab.drew | exact Ab.refl _)));done)) (first | (go_at_call 23;refine(CPv7.out _ (by with_reducible (repeat(first | assumption | apply Ab.drew | exact Ab.refl _)))).mono ?_;rintro e9 v7 ⟨rfl,a9,r9⟩;have rz:v7.cell? ⟨gw,3,none⟩=some (.slice (some ⟨pb,po,none⟩) m cp):=(by have e:=(a9.2.2.2.2 gw (lt_of_block R6.out) (by have:=LG.out;omega)).trans R6.out;exact aA 3 e)))
 have N7:=hid r9
 have R7:Hid (v7.heap[gw]? =some (.cells #[.int .i64 (fc:Int),.int .u32 (ls:Int),.int .u32 (ms:Int),.slice (some ⟨pb,po,none⟩) m cp] 25)):=(a9.2.2.2.2 gw (lt_of_block R6.out) (by have:=LG.out;omega)).trans R6.out
 have A7:=hid (Abo.trans A6.out a9)
 clear a9 r9 rz KSv7 CPv7
 go_wp2
 go_ret2
 exact⟨g,rfl,A7.out.ab A1.out LG.out.1,LG.out.1,N7.out.congr (fun i hi=>by rw[enc_pc (by have:=HN.out;omega)])⟩
end Ti
end
section
open Go.RowKit Go.Deep
namespace Ti
def byl(f:Nat->Nat)(n:Nat):List UInt8:=(List.range n).map fun i=>UInt8.ofNat (f i)
def str(f:Nat->Nat)(n:Nat):ByteArray:=⟨(byl f n).toArray⟩
theorem nT{x:Nat}(h:x<256):(UInt8.ofNat x).toNat=x:=by
 rw[UInt8.toNat_ofNat']
 exact Nat.mod_eq_of_lt h
theorem gN(f:Nat->Nat)(n:Nat):(byl f n).length=n:=by simp[byl]
theorem aL{w:World}{src dst e:TypeId}{a:Option Addr}{n cap:Nat}{f:Nat->Nat}(hs:Try.prog.underlying src=some (.slice e))(he:Try.prog.underlying e=some (.int .u8))(hd:Try.prog.underlying dst=some .string)(h:IsW .u8 256 w a n f)(ha:a=none->n=0):
  (convert src dst (.slice a n cap)).run prog w=.ok (.string (str f n)) w:=by
 cases a with
 | none=>
  obtain rfl:=ha rfl
  rw[run_convert_bytes_string w src dst e none 0 cap hs he hd]
  rfl
 | some p=>
  have c: ∀j (hj:j<(byl f n).length),w.cell? (p.add j)=some (.int .u8 (((byl f n)[j]).toNat:Int)):=fun j hj=>by
   have hj':j<n:=by rw[gN]at hj;exact hj
   obtain⟨h1,b,o,e1,h2,h3⟩:=h j hj'
   obtain rfl:=Option.some.inj e1
   have hv:((byl f n)[j]).toNat=f j:=by
    have e2:(byl f n)[j]=UInt8.ofNat (f j):=by simp[byl]
    rw[e2]
    exact nT h1
   rw[hv]
   exact(congrArg w.cell? (Sh.bL b o j)).trans h3
  have q:=run_convert_bytes_back (P:=prog) w src dst e p cap (byl f n) hs he hd c
  rw[gN]at q
  exact q
theorem eA(f:Nat->Nat)(n:Nat):(str f n).toList=byl f n:=by
 unfold str
 exact ByteArray.toList_mk _
theorem byl_eq{f g:Nat->Nat}{n m:Nat}(hf: ∀i,i<n->f i<256)(hg: ∀i,i<m->g i<256):byl f n=byl g m ↔ n=m/\ ∀i,i<n->f i=g i:=by
 constructor
 ·intro h
  have e:n=m:=by rw[<- gN f n,h,gN]
  subst e
  refine⟨rfl,fun i hi=> ?_⟩
  have q:(byl f n)[i]? =(byl g n)[i]? :=by rw[h]
  simp[byl,hi]at q
  have q2:=congrArg UInt8.toNat q
  rw[nT (hf i hi),nT (hg i hi)]at q2
  exact q2
 ·rintro⟨rfl,h⟩
  unfold byl
  exact List.map_congr_left (fun i hi=>by rw[h i (List.mem_range.1 hi)])
theorem fL{f g:Nat->Nat}{n m:Nat}(hf: ∀i,i<n->f i<256)(hg: ∀i,i<m->g i<256)(h1:n=m)(h2: ∀i,i<n->f i=g i):((str f n).toList==(str g m).toList)=true:=by
 rw[eA,eA,(byl_eq hf hg).2 ⟨h1,h2⟩]
 exact beq_self_eq_true _
theorem bP{f:Nat->Nat}(hf: ∀i,i<4->f i<256)(r:Bool)(h:decide (f 0=84/\f 1=73/\f 2=76/\f 3=69)=r):((str f 4).toList==([84,73,76,69]:List UInt8))=r:=by
 rw[show([84,73,76,69]:List UInt8)=(ByteArray.mk #[84,73,76,69]).toList from(ByteArray.toList_mk _).symm]
 have e:ByteArray.mk #[84,73,76,69]=str (fun i=>[84,73,76,69].getD i 0) 4:=by rfl
 rw[e,eA,eA]
 have k:=byl_eq (g:=fun i=>[84,73,76,69].getD i 0) (m:=4) hf (fun i hi=>by
  have c:i=0\/i=1\/i=2\/i=3:=by omega
  rcases c with rfl | rfl | rfl | rfl<;>decide)
 rw[<- h,Bool.eq_iff_iff,beq_iff_eq,k,decide_eq_true_eq]
 constructor
 ·rintro⟨_,q⟩
  exact⟨q 0 (by omega),q 1 (by omega),q 2 (by omega),q 3 (by omega)⟩
 ·rintro⟨q0,q1,q2,q3⟩
  refine⟨rfl,fun i hi=> ?_⟩
  have c:i=0\/i=1\/i=2\/i=3:=by omega
  rcases c with rfl | rfl | rfl | rfl
  ·exact q0
  ·exact q1
  ·exact q2
  ·exact q3
end Ti
end
end Go.Proofs.Ytdeammhdedcjlaa
