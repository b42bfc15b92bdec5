/-
  Some of the texts of this proof, one behind the other.
-/
import Derived.Laws.IdiomStrings
import Derived.Laws.Strings
import Derived.Test.YtlmfpikhlcnjjaaGreatDoorSk06
set_option maxRecDepth 100000
set_option maxHeartbeats 400000000
namespace Go.Proofs.YtlmfpikhlcnjjaaGreatDoor
open _root_.Go.Proofs.Tryz
section
open Go.RowKit Go.Deep
namespace Ti
def IsW(kd:IntKind)(M:Nat)(w:World)(a0:Option Addr)(len:Nat)(xs:Nat->Nat):Prop:= ∀k,k<len->xs k<M/\ ∃b o,a0=some ⟨b,o,none⟩/\b<w.heap.size/\w.cell? ⟨b,o+k,none⟩=some (.int kd ((xs k:Nat):Int))
theorem IsW.below{kd:IntKind}{M:Nat}{w w':World}{a0:Option Addr}{len:Nat}{xs:Nat->Nat}(h:IsW kd M w a0 len xs)(hb:Below w.heap.size w w'):IsW kd M w' a0 len xs:=by
 intro k hk
 obtain⟨h1,b,o,h2,h3,h4⟩:=h k hk
 exact⟨h1,b,o,h2,Nat.lt_of_lt_of_le h3 hb.size,(Below.cell hb h3).trans h4⟩
theorem IsW.some0{kd:IntKind}{M:Nat}{w:World}{a0:Option Addr}{len:Nat}{xs:Nat->Nat}(h:IsW kd M w a0 len xs)(h0:0<len): ∃b o,a0=some ⟨b,o,none⟩:=by
 obtain⟨_,b,o,h2,_⟩:=h 0 h0
 exact⟨b,o,h2⟩
theorem IsW.at0{kd:IntKind}{M:Nat}{w:World}{b o len k:Nat}{xs:Nat->Nat}(h:IsW kd M w (some ⟨b,o,none⟩) len xs)(hk:k<len):xs k<M/\b<w.heap.size/\w.cell? ⟨b,o+k,none⟩=some (.int kd ((xs k:Nat):Int)):=by
 obtain⟨h1,b',o',h2,h3,h4⟩:=h k hk
 cases h2
 exact⟨h1,h3,h4⟩
theorem IsW.congr{kd:IntKind}{M:Nat}{w:World}{a0:Option Addr}{len:Nat}{xs ys:Nat->Nat}(h:IsW kd M w a0 len xs)(e: ∀k,k<len->xs k=ys k):IsW kd M w a0 len ys:=fun k hk=>by rw[<- e k hk];exact h k hk
theorem IsW.lt{kd:IntKind}{M:Nat}{w:World}{a0:Option Addr}{len:Nat}{xs:Nat->Nat}(h:IsW kd M w a0 len xs): ∀k,k<len->xs k<M:=fun k hk=>(h k hk).1
theorem IsW.part{kd:IntKind}{M:Nat}{w:World}{b o len:Nat}{xs:Nat->Nat}(h:IsW kd M w (some ⟨b,o,none⟩) len xs)(i m:Nat)(hm:i+m<=len):IsW kd M w (some ⟨b,o+i,none⟩) m (fun k=>xs (i+k)):=fun k hk=>by
 have q:=h.at0 (k:=i+k) (by omega)
 exact⟨q.1,b,o+i,rfl,q.2.1,by rw[Nat.add_assoc];exact q.2.2⟩
theorem bE{kd:IntKind}{M:Nat}{V w:World}{b o n g:Nat}{f:Nat->Nat}(h:IsW kd M V (some ⟨b,o,none⟩) n f)(a:Sh.Abo V g w)(hne:b≠g):IsW kd M w (some ⟨b,o,none⟩) n f:=fun k hk=>by
 obtain⟨h1,b',o',h2,h3,h4⟩:=h k hk
 cases h2
 exact⟨h1,b,o,rfl,Nat.lt_of_lt_of_le h3 a.2.2.2.1,(World.cell?_of_block (a.2.2.2.2 b h3 hne)).trans h4⟩
theorem Abo.set{V w:World}{g:Nat}(h:Sh.Abo V g w)(k:Nat)(v:Value):Sh.Abo V g (w.setCell ⟨g,k,none⟩ v):=by
 obtain⟨h1,h2,h3,h4,h5⟩:=h
 exact⟨h1,h2,h3,by simpa [World.setCell]using h4,fun j hj hne=>(blk_setCell_other _ _ _ _ hne).trans (h5 j hj hne)⟩
theorem Abo.trans{V u w:World}{g:Nat}(h:Sh.Abo V g u)(k:Sh.Abo u g w):Sh.Abo V g w:=by
 obtain⟨h1,h2,h3,h4,h5⟩:=h
 obtain⟨k1,k2,k3,k4,k5⟩:=k
 exact⟨k1.trans h1,k2.trans h2,k3.trans h3,Nat.le_trans h4 k4,fun j hj hne=>(k5 j (Nat.lt_of_lt_of_le hj h4) hne).trans (h5 j hj hne)⟩
theorem Abo.of{V w:World}(h:Ab V w)(g:Nat):Sh.Abo V g w:=⟨Below.os h,Below.tape h,Below.output h,Below.size h,fun k hk _=>Below.block h k hk⟩
theorem mT:(Tryz.prog.info? 5).map (fun i=>(i.zero,i.size,i.bytes))=some (some (.int .u8 0),1,1):=by kernel_rfl
end Ti
end
section
open Go.RowKit Go.Deep
namespace Ti
def byl(f:Nat->Nat)(n:Nat):List UInt8:=(List.range n).map fun i=>UInt8.ofNat (f i)
def str(f:Nat->Nat)(n:Nat):ByteArray:=⟨(byl f n).toArray⟩
theorem qM{x:Nat}(h:x<256):(UInt8.ofNat x).toNat=x:=by
 rw[UInt8.toNat_ofNat']
 exact Nat.mod_eq_of_lt h
theorem iX(f:Nat->Nat)(n:Nat):(byl f n).length=n:=by simp[byl]
theorem bX{w:World}{src dst e:TypeId}{a:Option Addr}{n cap:Nat}{f:Nat->Nat}(hs:Tryz.prog.underlying src=some (.slice e))(he:Tryz.prog.underlying e=some (.int .u8))(hd:Tryz.prog.underlying dst=some .string)(h:IsW .u8 256 w a n f)(ha:a=none->n=0):
  (convert src dst (.slice a n cap)).run prog w=.ok (.string (str f n)) w:=by
 cases a with
 | none=>
  obtain rfl:=ha rfl
  rw[run_convert_bytes_string w src dst e none 0 cap hs he hd]
  rfl
 | some p=>
  have c: ∀j (hj:j<(byl f n).length),w.cell? (p.add j)=some (.int .u8 (((byl f n)[j]).toNat:Int)):=fun j hj=>by
   have hj':j<n:=by rw[iX]at hj;exact hj
   obtain⟨h1,b,o,e1,h2,h3⟩:=h j hj'
   obtain rfl:=Option.some.inj e1
   have hv:((byl f n)[j]).toNat=f j:=by
    have e2:(byl f n)[j]=UInt8.ofNat (f j):=by simp[byl]
    rw[e2]
    exact qM h1
   rw[hv]
   exact(congrArg w.cell? (Sh.dY b o j)).trans h3
  have q:=run_convert_bytes_back (P:=prog) w src dst e p cap (byl f n) hs he hd c
  rw[iX]at q
  exact q
theorem kD(f:Nat->Nat)(n:Nat):(str f n).toList=byl f n:=by
 unfold str
 exact ByteArray.toList_mk _
theorem byl_eq{f g:Nat->Nat}{n m:Nat}(hf: ∀i,i<n->f i<256)(hg: ∀i,i<m->g i<256):byl f n=byl g m ↔ n=m/\ ∀i,i<n->f i=g i:=by
 constructor
 ·intro h
  have e:n=m:=by rw[<- iX f n,h,iX]
  subst e
  refine⟨rfl,fun i hi=> ?_⟩
  have q:(byl f n)[i]? =(byl g n)[i]? :=by rw[h]
  simp[byl,hi]at q
  have q2:=congrArg UInt8.toNat q
  rw[qM (hf i hi),qM (hg i hi)]at q2
  exact q2
 ·rintro⟨rfl,h⟩
  unfold byl
  exact List.map_congr_left (fun i hi=>by rw[h i (List.mem_range.1 hi)])
end Ti
end
section
open Go.RowKit Go.Deep Tf
namespace Sv
theorem dZ(e:Int)(w:World):Calls prog 60 #[.int .i64 e] w fun e' w'=>e'=.panicked [{v:=.iface 28 (.int .i64 e),recovered:=false}]/\w'=w:=by
 go_enter func60,ntmps60
 go_wp2
 exact⟨rfl,rfl,rfl⟩
theorem kE(r:Nat)(p:Option Addr)(l c:Nat)(n:Nat)(w:World)(hr:w.cell? ⟨r,0,none⟩=some (.slice p l c))(hl:l<n):
  Calls prog 72 #[.pointer (some ⟨r,0,none⟩),.int .i64 (n:Nat)] w fun e w'=>e=.panicked [{v:=.iface 28 (.int .i64 31),recovered:=false}]/\w'=w:=by
 have G:=hid (fun v=>dZ 31 v)
 go_enter func72,ntmps72
 go_wp2_with (go_at_call 60;refine(G.out _).mono ?_;rintro e9 z1 ⟨rfl,hz⟩;have hz2:=hz.symm;subst hz2)
 exact⟨rfl,rfl,rfl⟩
def gone(r g o l c n:Nat)(w w':World):Prop:= ∃q,w'=w.setCell ⟨r,0,none⟩ (.slice (some ⟨g,q,none⟩) (l - n) (c - n))/\(n<c->q=o+n)
theorem lH(r g o:Nat)(l c:Nat)(n:Nat)(w:World)(hr:w.cell? ⟨r,0,none⟩=some (.slice (some ⟨g,o,none⟩) l c))(hz:w.frozen? ⟨r,0,none⟩=false)(hl:n<=l)(hc:l<=c):
  Calls prog 72 #[.pointer (some ⟨r,0,none⟩),.int .i64 (n:Nat)] w fun e w'=>e=.returned (.slice (some ⟨g,o,none⟩) n c)/\gone r g o l c n w w':=by
 have h1: ¬l<n:=by omega
 have h3:n<=c:=by omega
 have h4:(0:Int)<=(n:Int):=by omega
 by_cases h5:c=n
 ·subst h5
  go_enter func72,ntmps72
  go_wp2
  go_ret
  exact⟨rfl,o,by rw[Nat.sub_self,show l - c=0 by omega],fun q=>absurd q (Nat.lt_irrefl _)⟩
 ·have h6: ¬c - n=0:=by omega
  go_enter func72,ntmps72
  go_wp2
  go_ret
  exact⟨rfl,o+n,rfl,fun _=>rfl⟩
theorem or64{a b s:Nat}(ha:a<2 ^ s)(h:a+b*2 ^ s<18446744073709551616):bits .or .u64 (a:Int) ((b*2 ^ s:Nat):Int)=((a+b*2 ^ s:Nat):Int):=by
 have e:a ||| b*2 ^ s=a+b*2 ^ s:=by
  rw[Nat.or_comm,Nat.mul_comm b,<- Nat.two_pow_add_eq_or_of_lt ha b]
  omega
 show IntKind.u64.wrap (((BitVec.ofInt 64 (a:Int) ||| BitVec.ofInt 64 ((b*2 ^ s:Nat):Int)).toNat:Nat):Int)=_
 rw[BitVec.ofInt_natCast,BitVec.ofInt_natCast,BitVec.toNat_or,BitVec.toNat_ofNat,BitVec.toNat_ofNat]
 rw[Nat.mod_eq_of_lt (by omega),Nat.mod_eq_of_lt (by omega),e]
 show((_:Nat):Int)%18446744073709551616=_
 omega
theorem lob_off(b:Nat->Nat)(o k:Nat):lob (fun i=>b (o+i)) 0 k=lob b o k:=by
 induction k with
 | zero=>rfl
 | succ k ih=>
  show lob (fun i=>b (o+i)) 0 k+b (o+(0+k))*256 ^ k=lob b o k+b (o+k)*256 ^ k
  rw[ih,Nat.zero_add]
theorem gC(b:Nat->Nat)(o:Nat):num (fun i=>b (o+i)) 0=num b o:=lob_off b o 8
theorem cE{f:Nat->Nat}{k X y:Nat}(hf: ∀i,i<8->f i<256)(hk:k<8)(hX:lob f 0 k=X)(hy:f k=y):X<2 ^ (8*k)/\X+y*2 ^ (8*k)<18446744073709551616/\lob f 0 (k+1)=X+y*2 ^ (8*k):=by
 have p: ∀j,2 ^ (8*j)=256 ^ j:=fun j=>by rw[Nat.pow_mul]
 have e:lob (fun i=>if i<8 then f i else 0) 0 k=lob f 0 k:=lD k (fun i hi=>by rw[Nat.zero_add];exact if_pos (by omega))
 have l:=lob_lt (b:=fun i=>if i<8 then f i else 0) (o:=0) k (fun i=>by
  split
  ·exact hf i (by assumption)
  ·decide)
 rw[e,hX]at l
 have t:lob f 0 (k+1)=X+y*2 ^ (8*k):=by
  show lob f 0 k+f (0+k)*256 ^ k=_
  rw[hX,Nat.zero_add,hy,p]
 have yl:y<256:=by rw[<- hy];exact hf k hk
 refine⟨by rw[p];exact l,?_,t⟩
 have m:y*256 ^ k<=255*256 ^ k:=Nat.mul_le_mul_right _ (by omega)
 have n:256 ^ (k+1)<=256 ^ 8:=Nat.pow_le_pow_right (by decide) (by omega)
 rw[Nat.pow_succ,p8]at n
 rw[p]
 omega
theorem word_no(r:Nat)(p:Option Addr)(l c:Nat)(w:World)(hr:w.cell? ⟨r,0,none⟩=some (.slice p l c))(hl:l<8):
  Calls prog 73 #[.pointer (some ⟨r,0,none⟩)] w fun e w'=>e=.panicked [{v:=.iface 28 (.int .i64 31),recovered:=false}]/\w'=w:=by
 have G:=hid (kE r p l c 8 w hr hl)
 clear hl hr
 go_enter func73,ntmps73
 go_wp2_with (go_at_call 72;refine G.out.mono ?_;rintro e9 z1 ⟨rfl,hz⟩;have hz2:=hz.symm;subst hz2)
 exact⟨rfl,rfl,rfl⟩
theorem word_yes(r g o l c:Nat)(F:Nat->Nat)(w:World)(hr:w.cell? ⟨r,0,none⟩=some (.slice (some ⟨g,o,none⟩) l c))(hz:w.frozen? ⟨r,0,none⟩=false)(hl:8<=l)(hc:l<=c)(hne:g≠r)(hF:Ti.IsW .u8 256 w (some ⟨g,o,none⟩) l F):
  Calls prog 73 #[.pointer (some ⟨r,0,none⟩)] w fun e w'=>e=.returned (.int .u64 ((num F 0:Nat):Int))/\gone r g o l c 8 w w':=by
 have BYC:=hid (lH r g o l c 8 w hr hz hl hc)
 have HF:Hid (∀k,k<8->F k<256/\w.cell? ⟨g,o+k,none⟩=some (.int .u8 ((F k:Nat):Int))):=fun k hk=>⟨(hF.at0 (k:=k) (by omega)).1,(hF.at0 (k:=k) (by omega)).2.2⟩
 have HNE:=hid hne
 clear hr hz hl hc hF hne
 go_enter func73,ntmps73
 go_wp2_with (go_at_call 72;refine BYC.out.mono ?_;rintro e9 z1 ⟨rfl,hg⟩)
 have GN:=hid hg
 have HC:Hid (∀k,k<8->z1.cell? ⟨g,o+k,none⟩=some (.int .u8 ((F k:Nat):Int))):=fun k hk=>by
  obtain⟨q,e,_⟩:=hg
  rw[e]
  exact(World.cell?_setCell_other _ _ _ _ (by simp;intro q;exact absurd q.symm HNE.out)).trans (HF.out k hk).2
 clear hg
 go_loopw [3,9] (fun xv iv wr=> ∃c:Nat,c<=8/\iv=.int .i64 (c:Nat)/\xv=.int .u64 ((lob F 0 c:Nat):Int)/\wr=z1) (fun _ iv _=>8 - (intOf iv).toNat)
 case atStart=>exact⟨0,by omega,rfl,rfl,rfl⟩
 case round=>
  obtain⟨c,hc,rfl,rfl,hwr⟩:=hrel
  have hwr2:=hwr.symm
  subst hwr2
  have cs:c=0\/c=1\/c=2\/c=3\/c=4\/c=5\/c=6\/c=7\/c=8:=by omega
  clear hc
  rcases cs with rfl | rfl | rfl | rfl | rfl | rfl | rfl | rfl | rfl
  ·have z:z1.cell? ⟨g,o,none⟩=some (.int .u8 ((F 0:Nat):Int)):=HC.out 0 (by omega)
   have b1:=(HF.out 0 (by omega)).1
   obtain⟨y,hy⟩:=aB (F 0)
   obtain⟨X,hX⟩:=aB (lob F 0 0)
   rw[hy]at z b1
   rw[hX]
   have y0:(0:Int)<=(y:Int):=by omega
   have y1:(y:Int)<256:=by omega
   have HY:=hid hy
   have HX:=hid hX
   clear hy hX b1
   go_wp2
   obtain⟨g1,g2,g3⟩:=cE (k:=0) (fun i hi=>(HF.out i hi).1) (by omega) HX.out HY.out
   have q:=or64 (a:=X) (b:=y) (s:=8*0) g1 g2
   rw[<- g3]at q
   exact⟨⟨1,by omega,rfl,congrArg (Value.int .u64) ((by rw[<- q];simp)),by first | trivial | rfl⟩,by simp[intOf]⟩
  ·have z:z1.cell? ⟨g,o+1,none⟩=some (.int .u8 ((F 1:Nat):Int)):=HC.out 1 (by omega)
   have b1:=(HF.out 1 (by omega)).1
   obtain⟨y,hy⟩:=aB (F 1)
   obtain⟨X,hX⟩:=aB (lob F 0 1)
   rw[hy]at z b1
   rw[hX]
   have y0:(0:Int)<=(y:Int):=by omega
   have y1:(y:Int)<256:=by omega
   have HY:=hid hy
   have HX:=hid hX
   clear hy hX b1
   go_wp2
   obtain⟨g1,g2,g3⟩:=cE (k:=1) (fun i hi=>(HF.out i hi).1) (by omega) HX.out HY.out
   have q:=or64 (a:=X) (b:=y) (s:=8*1) g1 g2
   rw[<- g3]at q
   exact⟨⟨2,by omega,rfl,congrArg (Value.int .u64) ((by rw[<- q,Int.natCast_mul];rfl)),by first | trivial | rfl⟩,by simp[intOf]⟩
  ·have z:z1.cell? ⟨g,o+2,none⟩=some (.int .u8 ((F 2:Nat):Int)):=HC.out 2 (by omega)
   have b1:=(HF.out 2 (by omega)).1
   obtain⟨y,hy⟩:=aB (F 2)
   obtain⟨X,hX⟩:=aB (lob F 0 2)
   rw[hy]at z b1
   rw[hX]
   have y0:(0:Int)<=(y:Int):=by omega
   have y1:(y:Int)<256:=by omega
   have HY:=hid hy
   have HX:=hid hX
   clear hy hX b1
   go_wp2
   obtain⟨g1,g2,g3⟩:=cE (k:=2) (fun i hi=>(HF.out i hi).1) (by omega) HX.out HY.out
   have q:=or64 (a:=X) (b:=y) (s:=8*2) g1 g2
   rw[<- g3]at q
   exact⟨⟨3,by omega,rfl,congrArg (Value.int .u64) ((by rw[<- q,Int.natCast_mul];rfl)),by first | trivial | rfl⟩,by simp[intOf]⟩
  ·have z:z1.cell? ⟨g,o+3,none⟩=some (.int .u8 ((F 3:Nat):Int)):=HC.out 3 (by omega)
   have b1:=(HF.out 3 (by omega)).1
   obtain⟨y,hy⟩:=aB (F 3)
   obtain⟨X,hX⟩:=aB (lob F 0 3)
   rw[hy]at z b1
   rw[hX]
   have y0:(0:Int)<=(y:Int):=by omega
   have y1:(y:Int)<256:=by omega
   have HY:=hid hy
   have HX:=hid hX
   clear hy hX b1
   go_wp2
   obtain⟨g1,g2,g3⟩:=cE (k:=3) (fun i hi=>(HF.out i hi).1) (by omega) HX.out HY.out
   have q:=or64 (a:=X) (b:=y) (s:=8*3) g1 g2
   rw[<- g3]at q
   exact⟨⟨4,by omega,rfl,congrArg (Value.int .u64) ((by rw[<- q,Int.natCast_mul];rfl)),by first | trivial | rfl⟩,by simp[intOf]⟩
  ·have z:z1.cell? ⟨g,o+4,none⟩=some (.int .u8 ((F 4:Nat):Int)):=HC.out 4 (by omega)
   have b1:=(HF.out 4 (by omega)).1
   obtain⟨y,hy⟩:=aB (F 4)
   obtain⟨X,hX⟩:=aB (lob F 0 4)
   rw[hy]at z b1
   rw[hX]
   have y0:(0:Int)<=(y:Int):=by omega
   have y1:(y:Int)<256:=by omega
   have HY:=hid hy
   have HX:=hid hX
   clear hy hX b1
   go_wp2
   obtain⟨g1,g2,g3⟩:=cE (k:=4) (fun i hi=>(HF.out i hi).1) (by omega) HX.out HY.out
   have q:=or64 (a:=X) (b:=y) (s:=8*4) g1 g2
   rw[<- g3]at q
   exact⟨⟨5,by omega,rfl,congrArg (Value.int .u64) ((by rw[<- q,Int.natCast_mul];rfl)),by first | trivial | rfl⟩,by simp[intOf]⟩
  ·have z:z1.cell? ⟨g,o+5,none⟩=some (.int .u8 ((F 5:Nat):Int)):=HC.out 5 (by omega)
   have b1:=(HF.out 5 (by omega)).1
   obtain⟨y,hy⟩:=aB (F 5)
   obtain⟨X,hX⟩:=aB (lob F 0 5)
   rw[hy]at z b1
   rw[hX]
   have y0:(0:Int)<=(y:Int):=by omega
   have y1:(y:Int)<256:=by omega
   have HY:=hid hy
   have HX:=hid hX
   clear hy hX b1
   go_wp2
   obtain⟨g1,g2,g3⟩:=cE (k:=5) (fun i hi=>(HF.out i hi).1) (by omega) HX.out HY.out
   have q:=or64 (a:=X) (b:=y) (s:=8*5) g1 g2
   rw[<- g3]at q
   exact⟨⟨6,by omega,rfl,congrArg (Value.int .u64) ((by rw[<- q,Int.natCast_mul];rfl)),by first | trivial | rfl⟩,by simp[intOf]⟩
  ·have z:z1.cell? ⟨g,o+6,none⟩=some (.int .u8 ((F 6:Nat):Int)):=HC.out 6 (by omega)
   have b1:=(HF.out 6 (by omega)).1
   obtain⟨y,hy⟩:=aB (F 6)
   obtain⟨X,hX⟩:=aB (lob F 0 6)
   rw[hy]at z b1
   rw[hX]
   have y0:(0:Int)<=(y:Int):=by omega
   have y1:(y:Int)<256:=by omega
   have HY:=hid hy
   have HX:=hid hX
   clear hy hX b1
   go_wp2
   obtain⟨g1,g2,g3⟩:=cE (k:=6) (fun i hi=>(HF.out i hi).1) (by omega) HX.out HY.out
   have q:=or64 (a:=X) (b:=y) (s:=8*6) g1 g2
   rw[<- g3]at q
   exact⟨⟨7,by omega,rfl,congrArg (Value.int .u64) ((by rw[<- q,Int.natCast_mul];rfl)),by first | trivial | rfl⟩,by simp[intOf]⟩
  ·have z:z1.cell? ⟨g,o+7,none⟩=some (.int .u8 ((F 7:Nat):Int)):=HC.out 7 (by omega)
   have b1:=(HF.out 7 (by omega)).1
   obtain⟨y,hy⟩:=aB (F 7)
   obtain⟨X,hX⟩:=aB (lob F 0 7)
   rw[hy]at z b1
   rw[hX]
   have y0:(0:Int)<=(y:Int):=by omega
   have y1:(y:Int)<256:=by omega
   have HY:=hid hy
   have HX:=hid hX
   clear hy hX b1
   go_wp2
   obtain⟨g1,g2,g3⟩:=cE (k:=7) (fun i hi=>(HF.out i hi).1) (by omega) HX.out HY.out
   have q:=or64 (a:=X) (b:=y) (s:=8*7) g1 g2
   rw[<- g3]at q
   exact⟨⟨8,by omega,rfl,congrArg (Value.int .u64) ((by rw[<- q,Int.natCast_mul];rfl)),by first | trivial | rfl⟩,by simp[intOf]⟩
  ·go_wp2
   go_ret
   exact⟨rfl,GN.out⟩
end Sv
end
section
open Go.RowKit Go.Deep Tf Cu
attribute [local go_sem] aF aG aI aJ aK aL aM aD
namespace Sv
def RD(r g o l c p:Nat)(w:World):Prop:= ∃q,w.heap[r]? =some (.cells #[.slice (some ⟨g,q,none⟩) (l - p) (c - p)] 82)/\(p<c->q=o+p)
theorem RD.to{r g o l c p:Nat}{w w':World}(h:RD r g o l c p w)(a:Ab w w'):RD r g o l c p w':=by
 obtain⟨q,e,f⟩:=h
 exact⟨q,a.heap e,f⟩
theorem RD.abo{r g o l c p k:Nat}{w w':World}(h:RD r g o l c p w)(a:Sh.Abo w k w')(hne:r≠k):RD r g o l c p w':=by
 obtain⟨q,e,f⟩:=h
 refine⟨q,?_,f⟩
 rw[a.2.2.2.2 r (lt_of_block e) hne]
 exact e
theorem RD.lt{r g o l c p:Nat}{w:World}(h:RD r g o l c p w):r<w.heap.size:=by
 obtain⟨q,e,_⟩:=h
 exact lt_of_block e
theorem RD.cell{r g o l c p:Nat}{w:World}(h:RD r g o l c p w)(hp:p<c):w.cell? ⟨r,0,none⟩=some (.slice (some ⟨g,o+p,none⟩) (l - p) (c - p)):=by
 obtain⟨q,e,f⟩:=h
 rw[f hp]at e
 exact aA 0 e
theorem RD.any{r g o l c p:Nat}{w:World}(h:RD r g o l c p w): ∃q,w.cell? ⟨r,0,none⟩=some (.slice (some ⟨g,q,none⟩) (l - p) (c - p)):=by
 obtain⟨q,e,f⟩:=h
 exact⟨q,aA 0 e⟩
theorem RD.new(w:World)(g o l c:Nat):RD w.heap.size g o l c 0 (w.alloc (.cells #[.slice (some ⟨g,o,none⟩) l c] 82)):=⟨o,heap_alloc_new _ _,fun _=>rfl⟩
theorem RD.free{r g o l c p:Nat}{w:World}(h:RD r g o l c p w):w.frozen? ⟨r,0,none⟩=false:=by
 obtain⟨q,e,_⟩:=h
 exact frozen_of_row _ _ _ _ _ e
theorem rS{r g o l c p n:Nat}{w w':World}(h:RD r g o l c p w)(hg:gone r g (o+p) (l - p) (c - p) n w w'):Sh.Abo w r w'/\RD r g o l c (p+n) w':=by
 obtain⟨q,e,f⟩:=h
 obtain⟨q2,rfl,f2⟩:=hg
 refine⟨Ti.Abo.set (Sh.Abo.refl _ _) _ _,q2,?_,fun h3=>by rw[f2 (by omega),Nat.add_assoc]⟩
 rw[aN e,Nat.sub_sub,Nat.sub_sub]
 rfl
theorem rd_no(r g o l c p n:Nat)(w:World)(h:RD r g o l c p w)(hn:l - p<n):Calls prog 72 #[.pointer (some ⟨r,0,none⟩),.int .i64 (n:Nat)] w fun e w'=>e=.panicked [{v:=.iface 28 (.int .i64 31),recovered:=false}]/\w'=w:=by
 obtain⟨q,e⟩:=h.any
 exact kE r _ (l - p) (c - p) n w e hn
theorem kF(r g o l c p n:Nat)(w:World)(h:RD r g o l c p w)(h0:0<n)(hn:p+n<=l)(hc:l<=c):Calls prog 72 #[.pointer (some ⟨r,0,none⟩),.int .i64 (n:Nat)] w fun e w'=>e=.returned (.slice (some ⟨g,o+p,none⟩) n (c - p))/\Sh.Abo w r w'/\RD r g o l c (p+n) w':=
 (lH r g (o+p) (l - p) (c - p) n w (h.cell (by omega)) h.free (by omega) (by omega)).mono fun _ _ q=>⟨q.1,rS h q.2⟩
theorem rdw_no(r g o l c p:Nat)(w:World)(h:RD r g o l c p w)(hn:l - p<8):Calls prog 73 #[.pointer (some ⟨r,0,none⟩)] w fun e w'=>e=.panicked [{v:=.iface 28 (.int .i64 31),recovered:=false}]/\w'=w:=by
 obtain⟨q,e⟩:=h.any
 exact word_no r _ (l - p) (c - p) w e hn
theorem eA(r g o l c p:Nat)(F:Nat->Nat)(w:World)(h:RD r g o l c p w)(hn:p+8<=l)(hc:l<=c)(hne:g≠r)(hF:Ti.IsW .u8 256 w (some ⟨g,o,none⟩) l F):Calls prog 73 #[.pointer (some ⟨r,0,none⟩)] w fun e w'=>e=.returned (.int .u64 ((num F p:Nat):Int))/\Sh.Abo w r w'/\RD r g o l c (p+8) w':=by
 refine(word_yes r g (o+p) (l - p) (c - p) (fun i=>F (p+i)) w (h.cell (by omega)) h.free (by omega) (by omega) hne (hF.part p (l - p) (by omega))).mono fun _ _ q=>⟨by rw[q.1,gC],rS h q.2⟩
theorem wrap_i64{x:Nat}(h:x<18446744073709551616):IntKind.i64.wrap (x:Int)=i64 x:=by
 rw[IntKind.wrap_i64]
 unfold i64
 split<;>omega
theorem lI(x:Nat)(w:World)(hx:x<18446744073709551616):Calls prog 58 #[.int .u64 (x:Int)] w fun e w'=>e=.returned (.int .i64 (i64 x))/\w'=w:=by
 have HX:=hid (wrap_i64 hx)
 have x1:(x:Int)<18446744073709551616:=by omega
 clear hx
 go_enter func58,ntmps58
 go_wp2
 go_ret
 exact⟨by rw[<- HX.out];simp[wrap64,IntKind.wrap_i64],rfl⟩
end Sv
end
section
open Go.RowKit Go.Deep Tf Cu
attribute [local go_sem] aF aG aI aJ aK aL aM aD
namespace Sv
theorem res_tc{P:Program}{fn:Func}{p q:Tmp}{ty:TypeId}(h:fn.results= #[.tmp q,.cell p ty])(tmps:Array Value)(w:World)(g:Nat)(t:TypeId)(cs:Array Value)(fr:Nat × Nat)(d:TypeDesc)(v:Value)
  (hp:tmps.getD p undef=.pointer (some ⟨g,0,none⟩)) (hq:tmps.getD q undef=v) (hg:w.heap[g]? =some (.cells cs t fr))
  (hu:P.underlying ty=some d) (hd:(match d with | .struct _ | .array _ _=>true | _=>false)=true) (hi:(P.info? ty).map (·.size)=some cs.size):
  (results fn tmps).run P w=.ok (.tuple #[v,.agg cs]) w:=by
 have hp':tmps[p]?.getD undef=.pointer (some ⟨g,0,none⟩):=by simpa using hp
 have hq':tmps[q]?.getD undef=v:=by simpa using hq
 simp[results,h,hp',hq',asAddr,run_loadVar_row w g t ty cs fr d hg hu hd hi]
theorem kG{V w:World}{r s k:Nat}{v:Value}(h:Sh.Abo V r w)(hs:V.heap.size<=s):Sh.Abo V r (w.setCell ⟨s,k,none⟩ v):=by
 obtain⟨h1,h2,h3,h4,h5⟩:=h
 exact⟨h1,h2,h3,by simpa [World.setCell]using h4,fun j hj hne=>(blk_setCell_other _ _ _ _ (by simp;omega)).trans (h5 j hj hne)⟩
theorem RD.setc{r g o l c p s k:Nat}{v:Value}{w:World}(h:RD r g o l c p w)(hs:r≠s):RD r g o l c p (w.setCell ⟨s,k,none⟩ v):=by
 obtain⟨q,e,f⟩:=h
 exact⟨q,(blk_setCell_other _ _ _ _ hs).trans e,f⟩
theorem eY(r g o l c n:Nat)(w:World)(h:RD r g o l c 0 w)(h0:0<n)(hn:n<=l)(hc:l<=c):Calls prog 72 #[.pointer (some ⟨r,0,none⟩),.int .i64 (n:Nat)] w fun e w'=>e=.returned (.slice (some ⟨g,o,none⟩) n c)/\Sh.Abo w r w'/\RD r g o l c n w':=
 (kF r g o l c 0 n w h h0 (by omega) hc).mono fun _ _ q=>⟨q.1,q.2.1,by have t:=q.2.2;rw[Nat.zero_add]at t;exact t⟩
theorem cM{V u w:World}{r b:Nat}(h:Sh.Abo V r u)(k:Sh.Abo u b w)(hb:V.heap.size<=b):Sh.Abo V r w:=by
 obtain⟨h1,h2,h3,h4,h5⟩:=h
 obtain⟨k1,k2,k3,k4,k5⟩:=k
 exact⟨k1.trans h1,k2.trans h2,k3.trans h3,Nat.le_trans h4 k4,fun j hj hne=>(k5 j (Nat.lt_of_lt_of_le hj h4) (by omega)).trans (h5 j hj hne)⟩
theorem numl{F:Nat->Nat}{o:Nat}(h: ∀i,i<8->F (o+i)<256):num F o<18446744073709551616:=by
 have e:num F o=num (fun i=>if o<=i/\i<o+8 then F i else 0) o:=lF fun i hi=>by
  rw[if_pos (by omega)]
 rw[e]
 refine fG fun i=> ?_
 split
 ·rename_i q
  have t:=h (i - o) (by omega)
  rw[show o+(i - o)=i by omega]at t
  exact t
 ·decide
theorem bK{f:Nat->Nat}(hf: ∀i,i<4->f i<256)(r:Bool)(h:decide (f 0=84/\f 1=65/\f 2=82/\f 3=78)=r):((Ti.str f 4).toList==([84,65,82,78]:List UInt8))=r:=by
 rw[show([84,65,82,78]:List UInt8)=(ByteArray.mk #[84,65,82,78]).toList from(ByteArray.toList_mk _).symm]
 have e:ByteArray.mk #[84,65,82,78]=Ti.str (fun i=>[84,65,82,78].getD i 0) 4:=by rfl
 rw[e,Ti.kD,Ti.kD]
 have k:=Ti.byl_eq (g:=fun i=>[84,65,82,78].getD i 0) (m:=4) hf (fun i hi=>by
  have c:i=0\/i=1\/i=2\/i=3:=by omega
  rcases c with rfl | rfl | rfl | rfl<;>decide)
 rw[<- h,Bool.eq_iff_iff,beq_iff_eq,k,decide_eq_true_eq]
 constructor
 ·rintro⟨_,q⟩
  exact⟨q 0 (by omega),q 1 (by omega),q 2 (by omega),q 3 (by omega)⟩
 ·rintro⟨q0,q1,q2,q3⟩
  refine⟨rfl,fun i hi=> ?_⟩
  have c:i=0\/i=1\/i=2\/i=3:=by omega
  rcases c with rfl | rfl | rfl | rfl
  ·exact q0
  ·exact q1
  ·exact q2
  ·exact q3
theorem tK(r g o l c:Nat)(F:Nat->Nat)(w:World)(h:RD r g o l c 0 w)(hl:21<=l/\l<=c)(hne:g≠r)(hF:Ti.IsW .u8 256 w (some ⟨g,o,none⟩) l F)(hm:decide (F 0=84/\F 1=65/\F 2=82/\F 3=78)=false):
  Calls prog 54 #[.pointer (some ⟨r,0,none⟩)] w fun e w'=>e=.panicked [{v:=.iface 28 (.int .i64 30),recovered:=false}]/\Sh.Abo w r w':=by
 have HL:=hid hl
 have HNE:=hid hne
 have HF:=hid hF
 have G:=hid (fun v=>dZ 30 v)
 have MK:=bK (fun i hi=>hF.lt i (by omega)) false hm
 clear hl hne hF hm
 obtain⟨A0,S0⟩:=aH w (.cells #[.slice none 0 0,.slice none 0 0,.slice none 0 0,.slice none 0 0,.int .i64 0,.int .i64 0] 25)
 have R0:=hid (h.to A0.out)
 have RL:=hid h.lt
 clear h
 go_enter func54,ntmps54
 go_upto_region 1 with fail
 generalize hV:World.alloc w _=v0 at*
 obtain⟨s,hs⟩:=aB w.heap.size
 have LS:Hid (w.heap.size<=s):=by show _<=_;omega
 rw[hs]at S0 RL ⊢
 clear hV hs
 have CB:=hid (eY r g o l c 21 v0 R0.out (by omega) (by have:=HL.out;omega) (by have:=HL.out;omega))
 go_wp2_with fail
 refine CB.out.mono ?_
 rintro e9 v1 ⟨rfl,a1,r1⟩
 have A1:Hid (Sh.Abo w r v1):=Ti.Abo.trans (Ti.Abo.of A0.out _) a1
 have R1:=hid r1
 have S1:Hid (v1.heap[s]? =some (.cells #[.slice none 0 0,.slice none 0 0,.slice none 0 0,.slice none 0 0,.int .i64 0,.int .i64 0] 25)):=by
  show _=_
  rw[a1.2.2.2.2 s (lt_of_block S0.out) (by have:=RL.out;omega)]
  exact S0.out
 clear a1 r1 R0 A0 S0 CB
 have X2:=bG (bl1 v1 (.cells #[.slice (some ⟨g,o,none⟩) 21 c] 82))
 have Q2:Hid (RD v1.heap.size g o 21 c 0 (v1.alloc (.cells #[.slice (some ⟨g,o,none⟩) 21 c] 82))):=RD.new v1 g o 21 c
 go_upto_region 2 with fail
 generalize hV:World.alloc v1 _=v2 at*
 obtain⟨b,hb⟩:=aB v1.heap.size
 have LB:Hid (w.heap.size<=b/\s<b/\r<b):=⟨by rw[<- hb];exact A1.out.2.2.2.1,by rw[<- hb];exact lt_of_block S1.out,by rw[<- hb];exact R1.out.lt⟩
 rw[hb]at Q2 ⊢
 clear hV hb
 have A2:Hid (Sh.Abo w r v2):=Ti.Abo.trans A1.out (Ti.Abo.of X2.out _)
 have R2:=hid (R1.out.to X2.out)
 have S2:=hid (X2.out.heap S1.out)
 have F2:=hid (Ti.bE HF.out A2.out HNE.out)
 have NB:Hid (g<b/\g≠b):=by
  have q:=(HF.out.at0 (k:=0) (by have:=HL.out;omega)).2.1
  have:=LB.out
  exact⟨by omega,by omega⟩
 clear A1 R1 S1 X2
 have CB:=hid (eY b g o 21 c 4 v2 Q2.out (by omega) (by omega) (by have:=HL.out;omega))
 go_wp2_with fail
 refine CB.out.mono ?_
 rintro e9 v3 ⟨rfl,a1,r1⟩
 have A3:Hid (Sh.Abo w r v3):=cM A2.out a1 LB.out.1
 have Q3:=hid r1
 have R3:=hid (R2.out.abo a1 (by have:=LB.out;omega))
 have S3:Hid (v3.heap[s]? =some (.cells #[.slice none 0 0,.slice none 0 0,.slice none 0 0,.slice none 0 0,.int .i64 0,.int .i64 0] 25)):=by
  show _=_
  rw[a1.2.2.2.2 s (lt_of_block S2.out) (by have:=LB.out;omega)]
  exact S2.out
 have F3:=hid (Ti.bE F2.out a1 NB.out.2)
 clear a1 r1 CB A2 R2 Q2 S2 F2
 have CV:(convert 27 9 (.slice (some ⟨g,o,none⟩) 4 c)).run prog v3=.ok (.string (Ti.str F 4)) v3:=Ti.bX underlying27 underlying5 underlying9 (by
  have q:=F3.out.part 0 4 (by have:=HL.out;omega)
  simpa using q) (fun e=>by cases e)
 go_wp2_with (go_at_call 60;refine(G.out _).mono ?_;rintro e9 z1 ⟨rfl,hz⟩;have hz2:=hz.symm;subst hz2)
 exact⟨rfl,rfl,A3.out⟩
theorem tL(r g o l c:Nat)(F:Nat->Nat)(w:World)(h:RD r g o l c 0 w)(hl:21<=l/\l<=c)(hne:g≠r)(hF:Ti.IsW .u8 256 w (some ⟨g,o,none⟩) l F)(hm:decide (F 0=84/\F 1=65/\F 2=82/\F 3=78)=true)(sd:Nat)(hs4:F 4=sd)(hb: ¬(1<=sd/\sd<=32)):
  Calls prog 54 #[.pointer (some ⟨r,0,none⟩)] w fun e w'=>e=.panicked [{v:=.iface 28 (.int .i64 30),recovered:=false}]/\Sh.Abo w r w':=by
 have HL:=hid hl
 have HNE:=hid hne
 have HF:=hid hF
 have G:=hid (fun v=>dZ 30 v)
 have SD:Hid (F 4=sd/\sd<256):=⟨hs4,by rw[<- hs4];exact hF.lt 4 (by omega)⟩
 have s0:(0:Int)<=(sd:Int):=by omega
 have s1:(sd:Int)<256:=by have:=SD.out.2;omega
 have MK:=bK (fun i hi=>hF.lt i (by omega)) true hm
 have BD:Hid (sd=0\/32<sd):=by show _\/_;omega
 clear hl hne hF hm hs4 hb
 obtain⟨A0,S0⟩:=aH w (.cells #[.slice none 0 0,.slice none 0 0,.slice none 0 0,.slice none 0 0,.int .i64 0,.int .i64 0] 25)
 have R0:=hid (h.to A0.out)
 have RL:=hid h.lt
 clear h
 go_enter func54,ntmps54
 go_upto_region 1 with fail
 generalize hV:World.alloc w _=v0 at*
 obtain⟨s,hs⟩:=aB w.heap.size
 have LS:Hid (w.heap.size<=s):=by show _<=_;omega
 rw[hs]at S0 RL ⊢
 clear hV hs
 have CB:=hid (eY r g o l c 21 v0 R0.out (by omega) (by have:=HL.out;omega) (by have:=HL.out;omega))
 go_wp2_with fail
 refine CB.out.mono ?_
 rintro e9 v1 ⟨rfl,a1,r1⟩
 have A1:Hid (Sh.Abo w r v1):=Ti.Abo.trans (Ti.Abo.of A0.out _) a1
 have R1:=hid r1
 have S1:Hid (v1.heap[s]? =some (.cells #[.slice none 0 0,.slice none 0 0,.slice none 0 0,.slice none 0 0,.int .i64 0,.int .i64 0] 25)):=by
  show _=_
  rw[a1.2.2.2.2 s (lt_of_block S0.out) (by have:=RL.out;omega)]
  exact S0.out
 clear a1 r1 R0 A0 S0 CB
 have X2:=bG (bl1 v1 (.cells #[.slice (some ⟨g,o,none⟩) 21 c] 82))
 have Q2:Hid (RD v1.heap.size g o 21 c 0 (v1.alloc (.cells #[.slice (some ⟨g,o,none⟩) 21 c] 82))):=RD.new v1 g o 21 c
 go_upto_region 2 with fail
 generalize hV:World.alloc v1 _=v2 at*
 obtain⟨b,hb⟩:=aB v1.heap.size
 have LB:Hid (w.heap.size<=b/\s<b/\r<b):=⟨by rw[<- hb];exact A1.out.2.2.2.1,by rw[<- hb];exact lt_of_block S1.out,by rw[<- hb];exact R1.out.lt⟩
 rw[hb]at Q2 ⊢
 clear hV hb
 have A2:Hid (Sh.Abo w r v2):=Ti.Abo.trans A1.out (Ti.Abo.of X2.out _)
 have R2:=hid (R1.out.to X2.out)
 have S2:=hid (X2.out.heap S1.out)
 have F2:=hid (Ti.bE HF.out A2.out HNE.out)
 have NB:Hid (g<b/\g≠b):=by
  have q:=(HF.out.at0 (k:=0) (by have:=HL.out;omega)).2.1
  have:=LB.out
  exact⟨by omega,by omega⟩
 clear A1 R1 S1 X2
 have CB:=hid (eY b g o 21 c 4 v2 Q2.out (by omega) (by omega) (by have:=HL.out;omega))
 go_wp2_with fail
 refine CB.out.mono ?_
 rintro e9 v3 ⟨rfl,a1,r1⟩
 have A3:Hid (Sh.Abo w r v3):=cM A2.out a1 LB.out.1
 have Q3:=hid r1
 have R3:=hid (R2.out.abo a1 (by have:=LB.out;omega))
 have S3:Hid (v3.heap[s]? =some (.cells #[.slice none 0 0,.slice none 0 0,.slice none 0 0,.slice none 0 0,.int .i64 0,.int .i64 0] 25)):=by
  show _=_
  rw[a1.2.2.2.2 s (lt_of_block S2.out) (by have:=LB.out;omega)]
  exact S2.out
 have F3:=hid (Ti.bE F2.out a1 NB.out.2)
 clear a1 r1 CB A2 R2 Q2 S2 F2
 have CV:(convert 27 9 (.slice (some ⟨g,o,none⟩) 4 c)).run prog v3=.ok (.string (Ti.str F 4)) v3:=Ti.bX underlying27 underlying5 underlying9 (by
  have q:=F3.out.part 0 4 (by have:=HL.out;omega)
  simpa using q) (fun e=>by cases e)
 have CB:=hid (kF b g o 21 c 4 1 v3 Q3.out (by omega) (by omega) (by have:=HL.out;omega))
 go_wp2_with fail
 refine CB.out.mono ?_
 clear CV
 rintro e9 v4 ⟨rfl,a1,r1⟩
 have A4:Hid (Sh.Abo w r v4):=cM A3.out a1 LB.out.1
 have Q4:=hid r1
 have R4:=hid (R3.out.abo a1 (by have:=LB.out;omega))
 have S4:Hid (v4.heap[s]? =some (.cells #[.slice none 0 0,.slice none 0 0,.slice none 0 0,.slice none 0 0,.int .i64 0,.int .i64 0] 25)):=by
  show _=_
  rw[a1.2.2.2.2 s (lt_of_block S3.out) (by have:=LB.out;omega)]
  exact S3.out
 have F4:=hid (Ti.bE F3.out a1 NB.out.2)
 clear a1 r1 CB A3 R3 Q3 S3 F3
 have z4:v4.cell? ⟨g,o+4,none⟩=some (.int .u8 ((sd:Nat):Int)):=by
  have q:=(F4.out.at0 (k:=4) (by have:=HL.out;omega)).2.2
  rw[SD.out.1]at q
  exact q
 rcases BD.out with rfl | q
 ·go_wp2_with (go_at_call 60;refine(G.out _).mono ?_;rintro e9 z1 ⟨rfl,hz⟩;have hz2:=hz.symm;subst hz2)
  exact⟨rfl,rfl,A4.out⟩
 ·have q1: ¬((sd:Int)<1):=by omega
  have q2:(32:Int)<(sd:Int):=by omega
  go_wp2_with (go_at_call 60;refine(G.out _).mono ?_;rintro e9 z1 ⟨rfl,hz⟩;have hz2:=hz.symm;subst hz2)
  exact⟨rfl,rfl,A4.out⟩
theorem cX(r g o l c:Nat)(F:Nat->Nat)(w:World)(h:RD r g o l c 0 w)(hl:21<=l/\l<=c)(hne:g≠r)(hF:Ti.IsW .u8 256 w (some ⟨g,o,none⟩) l F)(hm:decide (F 0=84/\F 1=65/\F 2=82/\F 3=78)=true)(sd:Nat)(hs4:F 4=sd)(hb:1<=sd/\sd<=32):
  Calls prog 54 #[.pointer (some ⟨r,0,none⟩)] w fun e w'=>e=.returned (.tuple #[.int .i64 (sd:Nat),.agg #[.slice none 0 0,.slice none 0 0,.slice none 0 0,.slice none 0 0,.int .i64 (i64 (num F 13)),.int .i64 (i64 (num F 5))]])/\Sh.Abo w r w'/\RD r g o l c 21 w':=by
 have HL:=hid hl
 have HNE:=hid hne
 have HF:=hid hF
 have G:=hid (fun v=>dZ 30 v)
 have SD:Hid (F 4=sd/\sd<256):=⟨hs4,by rw[<- hs4];exact hF.lt 4 (by omega)⟩
 have s0:(0:Int)<=(sd:Int):=by omega
 have s1:(sd:Int)<256:=by have:=SD.out.2;omega
 have MK:=bK (fun i hi=>hF.lt i (by omega)) true hm
 have q1: ¬((sd:Int)<1):=by omega
 have q2: ¬((32:Int)<(sd:Int)):=by omega
 have N5:num F 5<18446744073709551616:=numl (fun i hi=>hF.lt _ (by omega))
 have N13:num F 13<18446744073709551616:=numl (fun i hi=>hF.lt _ (by omega))
 obtain⟨x5,hx5⟩:=aB (num F 5)
 obtain⟨x13,hx13⟩:=aB (num F 13)
 rw[hx5]at N5
 rw[hx13]at N13
 have W5:=wrap_i64 N5
 have CQ:=hid (fun v=>lI x13 v N13)
 have HX:=hid (show num F 5=x5/\num F 13=x13 from⟨hx5,hx13⟩)
 rw[hx5,hx13]
 obtain⟨y5,hy5⟩:=aB (i64 x5)
 obtain⟨y13,hy13⟩:=aB (i64 x13)
 rw[hy5]at W5 ⊢
 rw[hy13]at CQ ⊢
 clear hl hne hF hm hs4 hb hx5 hx13 N5 N13 hy5 hy13
 obtain⟨A0,S0⟩:=aH w (.cells #[.slice none 0 0,.slice none 0 0,.slice none 0 0,.slice none 0 0,.int .i64 0,.int .i64 0] 25)
 have R0:=hid (h.to A0.out)
 have RL:=hid h.lt
 clear h
 go_enter func54,ntmps54
 go_upto_region 1 with fail
 generalize hV:World.alloc w _=v0 at*
 obtain⟨s,hs⟩:=aB w.heap.size
 have LS:Hid (w.heap.size<=s):=by show _<=_;omega
 rw[hs]at S0 RL ⊢
 clear hV hs
 have CB:=hid (eY r g o l c 21 v0 R0.out (by omega) (by have:=HL.out;omega) (by have:=HL.out;omega))
 go_wp2_with fail
 refine CB.out.mono ?_
 rintro e9 v1 ⟨rfl,a1,r1⟩
 have A1:Hid (Sh.Abo w r v1):=Ti.Abo.trans (Ti.Abo.of A0.out _) a1
 have R1:=hid r1
 have S1:Hid (v1.heap[s]? =some (.cells #[.slice none 0 0,.slice none 0 0,.slice none 0 0,.slice none 0 0,.int .i64 0,.int .i64 0] 25)):=by
  show _=_
  rw[a1.2.2.2.2 s (lt_of_block S0.out) (by have:=RL.out;omega)]
  exact S0.out
 clear a1 r1 R0 A0 S0 CB
 have X2:=bG (bl1 v1 (.cells #[.slice (some ⟨g,o,none⟩) 21 c] 82))
 have Q2:Hid (RD v1.heap.size g o 21 c 0 (v1.alloc (.cells #[.slice (some ⟨g,o,none⟩) 21 c] 82))):=RD.new v1 g o 21 c
 go_upto_region 2 with fail
 generalize hV:World.alloc v1 _=v2 at*
 obtain⟨b,hb⟩:=aB v1.heap.size
 have LB:Hid (w.heap.size<=b/\s<b/\r<b):=⟨by rw[<- hb];exact A1.out.2.2.2.1,by rw[<- hb];exact lt_of_block S1.out,by rw[<- hb];exact R1.out.lt⟩
 rw[hb]at Q2 ⊢
 clear hV hb
 have A2:Hid (Sh.Abo w r v2):=Ti.Abo.trans A1.out (Ti.Abo.of X2.out _)
 have R2:=hid (R1.out.to X2.out)
 have S2:=hid (X2.out.heap S1.out)
 have F2:=hid (Ti.bE HF.out A2.out HNE.out)
 have NB:Hid (g<b/\g≠b):=by
  have q:=(HF.out.at0 (k:=0) (by have:=HL.out;omega)).2.1
  have:=LB.out
  exact⟨by omega,by omega⟩
 clear A1 R1 S1 X2
 have CB:=hid (eY b g o 21 c 4 v2 Q2.out (by omega) (by omega) (by have:=HL.out;omega))
 go_wp2_with fail
 refine CB.out.mono ?_
 rintro e9 v3 ⟨rfl,a1,r1⟩
 have A3:Hid (Sh.Abo w r v3):=cM A2.out a1 LB.out.1
 have Q3:=hid r1
 have R3:=hid (R2.out.abo a1 (by have:=LB.out;omega))
 have S3:Hid (v3.heap[s]? =some (.cells #[.slice none 0 0,.slice none 0 0,.slice none 0 0,.slice none 0 0,.int .i64 0,.int .i64 0] 25)):=by
  show _=_
  rw[a1.2.2.2.2 s (lt_of_block S2.out) (by have:=LB.out;omega)]
  exact S2.out
 have F3:=hid (Ti.bE F2.out a1 NB.out.2)
 clear a1 r1 CB A2 R2 Q2 S2 F2
 have CV:(convert 27 9 (.slice (some ⟨g,o,none⟩) 4 c)).run prog v3=.ok (.string (Ti.str F 4)) v3:=Ti.bX underlying27 underlying5 underlying9 (by
  have q:=F3.out.part 0 4 (by have:=HL.out;omega)
  simpa using q) (fun e=>by cases e)
 have CB:=hid (kF b g o 21 c 4 1 v3 Q3.out (by omega) (by omega) (by have:=HL.out;omega))
 go_wp2_with fail
 refine CB.out.mono ?_
 clear CV
 rintro e9 v4 ⟨rfl,a1,r1⟩
 have A4:Hid (Sh.Abo w r v4):=cM A3.out a1 LB.out.1
 have Q4:=hid r1
 have R4:=hid (R3.out.abo a1 (by have:=LB.out;omega))
 have S4:Hid (v4.heap[s]? =some (.cells #[.slice none 0 0,.slice none 0 0,.slice none 0 0,.slice none 0 0,.int .i64 0,.int .i64 0] 25)):=by
  show _=_
  rw[a1.2.2.2.2 s (lt_of_block S3.out) (by have:=LB.out;omega)]
  exact S3.out
 have F4:=hid (Ti.bE F3.out a1 NB.out.2)
 clear a1 r1 CB A3 R3 Q3 S3 F3
 have z4:v4.cell? ⟨g,o+4,none⟩=some (.int .u8 ((sd:Nat):Int)):=by
  have q:=(F4.out.at0 (k:=4) (by have:=HL.out;omega)).2.2
  rw[SD.out.1]at q
  exact q
 have CW:=hid (eA b g o 21 c 5 F v4 Q4.out (by omega) (by have:=HL.out;omega) NB.out.2 (by simpa using F4.out.part 0 21 (by have:=HL.out;omega)))
 rw[HX.out.1]at CW
 go_wp2_with fail
 refine CW.out.mono ?_
 rintro e9 v5 ⟨rfl,a1,r1⟩
 clear z4
 have A5:Hid (Sh.Abo w r v5):=cM A4.out a1 LB.out.1
 have Q5:=hid r1
 have R5:=hid (R4.out.abo a1 (by have:=LB.out;omega))
 have S5:Hid (v5.heap[s]? =some (.cells #[.slice none 0 0,.slice none 0 0,.slice none 0 0,.slice none 0 0,.int .i64 0,.int .i64 0] 25)):=by
  show _=_
  rw[a1.2.2.2.2 s (lt_of_block S4.out) (by have:=LB.out;omega)]
  exact S4.out
 have F5:=hid (Ti.bE F4.out a1 NB.out.2)
 clear a1 r1 CW A4 R4 Q4 S4 F4
 have CW:=hid (eA b g o 21 c 13 F v5 Q5.out (by omega) (by have:=HL.out;omega) NB.out.2 (by simpa using F5.out.part 0 21 (by have:=HL.out;omega)))
 rw[HX.out.2]at CW
 go_wp2_with fail
 refine CW.out.mono ?_
 rintro e9 v6 ⟨rfl,a1,r1⟩
 have A6:Hid (Sh.Abo w r v6):=cM A5.out a1 LB.out.1
 have Q6:=hid r1
 have R6:=hid (R5.out.abo a1 (by have:=LB.out;omega))
 have S6:Hid (v6.heap[s]? =some (.cells #[.slice none 0 0,.slice none 0 0,.slice none 0 0,.slice none 0 0,.int .i64 0,.int .i64 0] 25)):=by
  show _=_
  rw[a1.2.2.2.2 s (lt_of_block S5.out) (by have:=LB.out;omega)]
  exact S5.out
 have F6:=hid (Ti.bE F5.out a1 NB.out.2)
 clear a1 r1 CW A5 R5 Q5 S5 F5
 have f0:=jB S6.out
 have c0:=aE S6.out
 go_wp2_with (go_at_call 58;refine(CQ.out _).mono ?_;rintro e9 z1 ⟨rfl,hz⟩;have hz2:=hz.symm;subst hz2)
 (try simp only[Exit.inBlock,Exit.then])
 refine bodyPost_ret (v:=.tuple #[.int .i64 (sd:Nat),.agg #[.slice none 0 0,.slice none 0 0,.slice none 0 0,.slice none 0 0,.int .i64 y13,.int .i64 y5]]) ?_ rfl ?_
 ·exact res_tc results54 _ _ s _ _ (0,0) _ _ rfl rfl (gZ S6.out) underlying25 rfl (by kernel_rfl)
 refine⟨rfl,?_,?_⟩
 ·with_reducible (repeat(first | exact A6.out | refine kG ?_ LS.out))
 ·with_reducible (repeat(first | exact R6.out | refine RD.setc ?_ (by have:=RL.out;omega)))
end Sv
end
section
open Go.RowKit Go.Deep Tf Cu
attribute [local go_sem] aF aG aI aJ aK aL aM aD
namespace Sv
theorem xor64{a b:Nat}(ha:a<18446744073709551616)(hb:b<256):bits .xor .u64 (a:Int) (b:Int)=((a ^^^ b:Nat):Int):=by
 have l:=xor_lt64 ha hb
 show IntKind.u64.wrap (((BitVec.ofInt 64 (a:Int) ^^^ BitVec.ofInt 64 (b:Int)).toNat:Nat):Int)=_
 rw[BitVec.ofInt_natCast,BitVec.ofInt_natCast,BitVec.toNat_xor,BitVec.toNat_ofNat,BitVec.toNat_ofNat]
 rw[Nat.mod_eq_of_lt (by omega),Nat.mod_eq_of_lt (by omega)]
 show((_:Nat):Int)%18446744073709551616=_
 omega
theorem mul64(x:Nat):IntKind.u64.wrap ((x:Int)*1099511628211)=((x*1099511628211%18446744073709551616:Nat):Int):=by
 show((x:Int)*1099511628211)%18446744073709551616=_
 omega
theorem hJ(p:Option Addr)(l c:Nat)(F:Nat->Nat)(w:World)(hl:l<=9223372036854775807)(hF:Ti.IsW .u8 256 w p l F):
  Calls prog 11 #[.slice p l c] w fun e w'=>e=.returned (.int .u64 ((smN F l:Nat):Int))/\w'=w:=by
 have HF:=hid hF
 have HL:=hid hl
 clear hF hl
 go_enter func11,ntmps11
 go_wp2
 go_loopw [3,8] (fun hv iv wr=> ∃k:Nat,k<=l/\iv=.int .i64 (k:Nat)/\hv=.int .u64 ((smN F k:Nat):Int)/\wr=w) (fun _ iv _=>l - (intOf iv).toNat)
 case atStart=>exact⟨0,by omega,rfl,rfl,rfl⟩
 case round=>
  obtain⟨k,hk,rfl,rfl,hwr⟩:=hrel
  have hwr2:=hwr.symm
  subst hwr2
  by_cases hkl:k<l
  ·have HK:=hid hkl
   obtain⟨b1,g,o,rfl,_,z⟩:=HF.out k hkl
   have SL:=qJ F k
   obtain⟨y,hy⟩:=aB (F k)
   obtain⟨X,hX⟩:=aB (smN F k)
   rw[hy]at z b1
   rw[hX]at SL ⊢
   have kI:(k:Int)<l:=by omega
   have kB:(l:Int)<=9223372036854775807:=by have:=HL.out;omega
   have y0:(0:Int)<=(y:Int):=by omega
   have y1:(y:Int)<256:=by omega
   have xq:=xor64 SL b1
   obtain⟨Y,hY⟩:=aB (X ^^^ y)
   rw[hY]at xq
   have mq:=mul64 Y
   have ST:Hid (smN F (k+1)=Y*1099511628211%18446744073709551616):=by
    show(smN F k ^^^ F k)*1099511628211%18446744073709551616=_
    rw[hX,hy,hY]
   obtain⟨Z,hZ⟩:=aB (Y*1099511628211%18446744073709551616)
   rw[hZ]at mq ST
   clear hy hX hY hZ b1 SL hkl hk
   go_wp2
   exact⟨⟨k+1,by have:=HK.out;omega,by simp,by rw[ST.out],by first | trivial | rfl⟩,by have:=HK.out;simp[intOf];omega⟩
  ·have e6:l=k:=by omega
   subst e6
   go_wp2
   go_ret
   exact⟨rfl,rfl⟩
theorem foot_no(r g o l c p:Nat)(w:World)(h:RD r g o l c p w)(hl:p<=l)(hc:l<=c)(h63:c<=9223372036854775807)(hn:l - p<8):
  Calls prog 59 #[.pointer (some ⟨r,0,none⟩),.slice (some ⟨g,o,none⟩) l c] w fun e w'=>e=.panicked [{v:=.iface 28 (.int .i64 31),recovered:=false}]/\w'=w:=by
 have CW:=hid (rdw_no r g o l c p w h hn)
 have p1:(l:Int) - ((l - p:Nat):Int)=(p:Int):=by omega
 have p2:(p:Int)<=(c:Int):=by omega
 have p3:(0:Int)<=(p:Int):=by omega
 have p4:(c:Int)<=9223372036854775807:=by omega
 have p5:(l:Int)<=(c:Int):=by omega
 have p6:p<=c:=by omega
 obtain⟨q,rc⟩:=h.any
 obtain⟨lp,hlp⟩:=aB (l - p)
 rw[hlp]at p1 rc
 clear h hn hl hc h63 hlp
 go_enter func59,ntmps59
 go_wp2_with (go_at_call 73;refine CW.out.mono ?_;rintro e9 z1 ⟨rfl,hz⟩;have hz2:=hz.symm;subst hz2)
 exact⟨rfl,rfl,rfl⟩
theorem tM(r g o l c p:Nat)(F:Nat->Nat)(w:World)(h:RD r g o l c p w)(hl:p<=l)(hc:l<=c)(h63:c<=9223372036854775807)(hne:g≠r)(hF:Ti.IsW .u8 256 w (some ⟨g,o,none⟩) l F)(hn:p+8<l):
  Calls prog 59 #[.pointer (some ⟨r,0,none⟩),.slice (some ⟨g,o,none⟩) l c] w fun e w'=>e=.panicked [{v:=.iface 28 (.int .i64 30),recovered:=false}]/\Sh.Abo w r w':=by
 have CW:=hid (eA r g o l c p F w h (by omega) hc hne hF)
 have HF:=hid hF
 have HNE:=hid hne
 have HL:=hid (show p<=l/\l<=c/\c<=9223372036854775807 from⟨hl,hc,h63⟩)
 have G:=hid (fun v=>dZ 30 v)
 have HN:=hid hn
 clear hn
 have p1:(l:Int) - ((l - p:Nat):Int)=(p:Int):=by omega
 have p2:(p:Int)<=(c:Int):=by omega
 have p3:(0:Int)<=(p:Int):=by omega
 have p4:(c:Int)<=9223372036854775807:=by omega
 have p5:(l:Int)<=(c:Int):=by omega
 have p6:p<=c:=by omega
 obtain⟨q,rc⟩:=h.any
 obtain⟨lp,hlp⟩:=aB (l - p)
 obtain⟨x,hx⟩:=aB (num F p)
 rw[hlp]at p1 rc
 rw[hx]at CW
 clear h hl hc h63 hlp hne hF hx
 go_enter func59,ntmps59
 go_wp2_with fail
 refine CW.out.mono ?_
 rintro e9 v1 ⟨rfl,a1,r1⟩
 have A1:=hid a1
 have F1:=hid (Ti.bE HF.out a1 HNE.out)
 obtain⟨q2,rc2⟩:=r1.any
 clear a1 r1 CW rc
 have s1:(0:Int)<((l - (p+8):Nat):Int):=by have:=HN.out;omega
 obtain⟨lq,hlq⟩:=aB (l - (p+8))
 rw[hlq]at s1 rc2
 clear hlq
 go_wp2_with (go_at_call 60;refine(G.out _).mono ?_;rintro e9 z1 ⟨rfl,hz⟩;have hz2:=hz.symm;subst hz2)
 exact⟨rfl,rfl,A1.out⟩
theorem foot_sum(r g o l c p:Nat)(F:Nat->Nat)(w:World)(h:RD r g o l c p w)(hl:p<=l)(hc:l<=c)(h63:c<=9223372036854775807)(hne:g≠r)(hF:Ti.IsW .u8 256 w (some ⟨g,o,none⟩) l F)(hn:p+8=l)(hs:num F p≠smN F p):
  Calls prog 59 #[.pointer (some ⟨r,0,none⟩),.slice (some ⟨g,o,none⟩) l c] w fun e w'=>e=.panicked [{v:=.iface 28 (.int .i64 32),recovered:=false}]/\Sh.Abo w r w':=by
 have CW:=hid (eA r g o l c p F w h (by omega) hc hne hF)
 have HF:=hid hF
 have HNE:=hid hne
 have HL:=hid (show p<=l/\l<=c/\c<=9223372036854775807 from⟨hl,hc,h63⟩)
 have G:=hid (fun v=>dZ 32 v)
 have HN:=hid hn
 have HS:=hid hs
 clear hn hs
 have p1:(l:Int) - ((l - p:Nat):Int)=(p:Int):=by omega
 have p2:(p:Int)<=(c:Int):=by omega
 have p3:(0:Int)<=(p:Int):=by omega
 have p4:(c:Int)<=9223372036854775807:=by omega
 have p5:(l:Int)<=(c:Int):=by omega
 have p6:p<=c:=by omega
 obtain⟨q,rc⟩:=h.any
 obtain⟨lp,hlp⟩:=aB (l - p)
 obtain⟨x,hx⟩:=aB (num F p)
 rw[hlp]at p1 rc
 rw[hx]at CW HS
 clear h hl hc h63 hlp hne hF hx
 go_enter func59,ntmps59
 go_wp2_with fail
 refine CW.out.mono ?_
 rintro e9 v1 ⟨rfl,a1,r1⟩
 have A1:=hid a1
 have F1:=hid (Ti.bE HF.out a1 HNE.out)
 obtain⟨q2,rc2⟩:=r1.any
 clear a1 r1 CW rc
 have CS:=hid (hJ (some ⟨g,o,none⟩) p c F v1 (by have:=HL.out;omega) (fun k hk=>F1.out k (by have:=HL.out;omega)))
 obtain⟨y,hy⟩:=aB (smN F p)
 rw[hy]at CS HS
 rw[show l - (p+8)=0 by have:=HN.out;omega]at rc2
 have ne:((x:Int) != (y:Int))=true:=by have:=HS.out;simp;omega
 clear hy
 go_wp2_with (first
  | (go_at_call 11;refine CS.out.mono ?_;rintro e9 z1 ⟨rfl,hz⟩;have hz2:=hz.symm;subst hz2)
  | (go_at_call 60;refine(G.out _).mono ?_;rintro e9 z2 ⟨rfl,hz⟩;have hz2:=hz.symm;subst hz2))
 exact⟨rfl,rfl,A1.out⟩
theorem rT(r g o l c p:Nat)(F:Nat->Nat)(w:World)(h:RD r g o l c p w)(hl:p<=l)(hc:l<=c)(h63:c<=9223372036854775807)(hne:g≠r)(hF:Ti.IsW .u8 256 w (some ⟨g,o,none⟩) l F)(hn:p+8=l)(hs:num F p=smN F p):
  Calls prog 59 #[.pointer (some ⟨r,0,none⟩),.slice (some ⟨g,o,none⟩) l c] w fun e w'=>e=.returned (.tuple #[])/\Sh.Abo w r w':=by
 have CW:=hid (eA r g o l c p F w h (by omega) hc hne hF)
 have HF:=hid hF
 have HNE:=hid hne
 have HL:=hid (show p<=l/\l<=c/\c<=9223372036854775807 from⟨hl,hc,h63⟩)
 have HN:=hid hn
 have HS:=hid hs
 clear hn hs
 have p1:(l:Int) - ((l - p:Nat):Int)=(p:Int):=by omega
 have p2:(p:Int)<=(c:Int):=by omega
 have p3:(0:Int)<=(p:Int):=by omega
 have p4:(c:Int)<=9223372036854775807:=by omega
 have p5:(l:Int)<=(c:Int):=by omega
 have p6:p<=c:=by omega
 obtain⟨q,rc⟩:=h.any
 obtain⟨lp,hlp⟩:=aB (l - p)
 obtain⟨x,hx⟩:=aB (num F p)
 rw[hlp]at p1 rc
 rw[hx]at CW HS
 clear h hl hc h63 hlp hne hF hx
 go_enter func59,ntmps59
 go_wp2_with fail
 refine CW.out.mono ?_
 rintro e9 v1 ⟨rfl,a1,r1⟩
 have A1:=hid a1
 have F1:=hid (Ti.bE HF.out a1 HNE.out)
 obtain⟨q2,rc2⟩:=r1.any
 clear a1 r1 CW rc
 have CS:=hid (hJ (some ⟨g,o,none⟩) p c F v1 (by have:=HL.out;omega) (fun k hk=>F1.out k (by have:=HL.out;omega)))
 obtain⟨y,hy⟩:=aB (smN F p)
 rw[hy]at CS HS
 rw[show l - (p+8)=0 by have:=HN.out;omega]at rc2
 have ne:((x:Int) != (y:Int))=false:=by have:=HS.out;simp;omega
 clear hy
 go_wp2_with (go_at_call 11;refine CS.out.mono ?_;rintro e9 z1 ⟨rfl,hz⟩;have hz2:=hz.symm;subst hz2)
 go_end0
 exact⟨rfl,A1.out⟩
end Sv
end
section
open Go.RowKit Go.Deep
namespace T8
def Own(B:Nat)(v:Value)(l:List Nat)(w:World):Prop:=w.ownsRow B 5 1 v l.length (l.map fun x:Nat=>Value.int .u8 (x:Int))
theorem Own.at{B:Nat}{v:Value}{l:List Nat}{w:World}(h:Own B v l w)(hl: ∀x ∈ l,x<256): ∃a0 cap,v=.slice a0 l.length cap/\Ti.IsW .u8 256 w a0 l.length (fun j=>l.getD j 0)/\l.length<=cap/\cap<=9223372036854775807:=by
 rcases h.2 with⟨rfl,h0⟩ | ⟨g,cap,cur,rfl,hb,hg,h1,h2,h3,h4⟩
 ·exact⟨none,0,by rw[h0],fun k hk=>by omega,by omega,by omega⟩
 ·refine⟨some ⟨g,0,none⟩,cap,rfl,fun k hk=> ?_,h1,by unfold maxLen at h2;omega⟩
  have hx:l.getD k 0=l[k]:=by simp[List.getD,hk]
  refine⟨by dsimp only;rw[hx];exact hl _ (List.getElem_mem _),g,0,rfl,lt_of_block hg,?_⟩
  have e:=h.cells (g:=g) rfl k (.int .u8 ((l.getD k 0:Nat):Int)) (by simp[hk])
  rw[Sh.dY]at e
  exact e
theorem Own.alloc{B:Nat}{v:Value}{l:List Nat}{w:World}(h:Own B v l w)(O:Obj):Own B v l (w.alloc O):=World.ownsRow.alloc h O
theorem Own.row{B g n cap:Nat}{l:List Nat}{w:World}(h:Own B (.slice (some ⟨g,0,none⟩) n cap) l w):B<=g/\n<=cap/\ ∃cur:Array Value,w.heap[g]? =some (.cells cur 5)/\cur.size=cap/\ ∀i,i<l.length->cur[i]? =some (.int .u8 ((l.getD i 0:Nat):Int)):=by
 rcases h.2 with⟨e,_⟩ | ⟨g2,cap2,cur,e,hb,hg,h1,h2,h3,h4⟩
 ·cases e
 ·injection e with e1 e2 e3
  injection e1 with e4
  injection e4 with e5
  subst e5 e3
  refine⟨hb,by omega,cur,hg,by rw[h3,Nat.mul_one],fun i hi=> ?_⟩
  have q:=congrArg (fun z:List Value=>z[i]?) h4
  simp only[Nat.mul_one]at q
  rw[List.getElem?_take,if_pos hi]at q
  rw[<- Array.getElem?_toList,q]
  simp[hi]
theorem aX{ops:Array Oper}{rest:List Oper}{o:Oper}{a:Act}{w:World}{Q:Exit->Act->World->Prop}(hgd:o.guard=none)(s x:Operand)
  (ho:o.op=.call {callee:=.builtin .append,args:= #[s,x],argTypes:= #[27,27]})
  (B:Nat) (v:Value) (l:List Nat) (hs:a.eval s=v) (hown:Own B v l w)
  (ad:Addr) (m c:Nat) (news:List Nat) (hx:a.eval x=.slice (some ad) m c) (hl:news.length=m) (hnews: ∀j u,(news.map fun x:Nat=>Value.int .u8 (x:Int))[j]? =some u->w.cell? (ad.add j)=some u)
  (hm:0<m) (hlen:l.length+m<=1048576) (hB:B<=w.heap.size) (nm:Nat) (hnm:l.length+m=nm)
  (h: ∀g cap w',Own B (.slice (some ⟨g,0,none⟩) nm cap) (l++news) w'->w.grownBy w' v.ownBlock->(v.ownBlock=some g\/g=w.heap.size)->B<=g->wpList prog ops Q rest (a.put o.dst (.slice (some ⟨g,0,none⟩) nm cap)) w'):wpList prog ops Q (o :: rest) a w:=by
 subst hnm
 obtain⟨i0,hi,hz⟩:=Option.map_eq_some_iff.1 Ti.mT
 simp only[Prod.mk.injEq]at hz
 obtain⟨hz0,hz1,hz2⟩:=hz
 refine wpList_append_lies w hgd s x _ ho B 5 i0 (.int .u8 0) 1 1 underlying27 hi hz0 hz1 hz2 rfl (by decide) v l.length (l.map fun x:Nat=>Value.int .u8 (x:Int)) hs hown ad m c (news.map fun x:Nat=>Value.int .u8 (x:Int)) hx (by simpa using hl) hnews (fun u hu=>by
  obtain⟨y,_,rfl⟩:=List.mem_map.1 hu
  rfl) hm (by unfold maxLen;omega) (by omega) hB _ rfl ?_
 intro g cap w' o1 g1 e1 _
 have hb:B<=g:=by
  rcases o1.2 with⟨q,_⟩ | ⟨g2,_,_,q,hb,_⟩
  ·cases q
  ·injection q with q1 q2 q3
   injection q1 with q4
   injection q4 with q5
   omega
 refine h g cap w' ?_ g1 e1 hb
 unfold Own
 rw[List.length_append,List.map_append,hl]
 exact o1
end T8
end
end Go.Proofs.YtlmfpikhlcnjjaaGreatDoor
