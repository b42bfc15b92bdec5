/-
  Some of the texts of this proof, one behind the other.
-/
import Derived.Test.YtlmfpikhlcnjjaaGreatDoorSk12
set_option maxRecDepth 100000
set_option maxHeartbeats 400000000
namespace Go.Proofs.YtlmfpikhlcnjjaaGreatDoor
open _root_.Go.Proofs.Tryz
section
open Go.RowKit Go.Deep Tf Cu
attribute [local go_sem] aF aG aI aJ aK aL aM aD
namespace Sv
theorem pO{ops:Array Oper}{rest:List Oper}{o:Oper}{a:Act}{w:World}{Q:Exit->Act->World->Prop}(hgd:o.guard=none)(s x:Operand)
  (ho:o.op=.call {callee:=.builtin .append,args:= #[s,x],argTypes:= #[22,22]})
  (B:Nat) (v:Value) (l:List Nat) (hs:a.eval s=v) (hown:OwnG B v l w)
  (ad:Addr) (m c:Nat) (news:List Nat) (hx:a.eval x=.slice (some ad) m c) (hl:news.length=m) (hnews: ∀j u,(news.map (Value.float .f64))[j]? =some u->w.cell? (ad.add j)=some u)
  (hm:0<m) (hlen:l.length+m<=1048576) (hB:B<=w.heap.size) (nm:Nat) (hnm:l.length+m=nm)
  (h: ∀g cap w',OwnG B (.slice (some ⟨g,0,none⟩) nm cap) (l++news) w'->w.grownBy w' v.ownBlock->(v.ownBlock=some g\/g=w.heap.size)->B<=g->wpList prog ops Q rest (a.put o.dst (.slice (some ⟨g,0,none⟩) nm cap)) w'):wpList prog ops Q (o :: rest) a w:=by
 subst hnm
 obtain⟨i0,hi,hz0,hz1,hz2⟩:=info_g
 refine wpList_append_lies w hgd s x _ ho B 47 i0 (.float .f64 0) 1 8 underlying22 hi hz0 hz1 hz2 rfl (by decide) v l.length (l.map (Value.float .f64)) hs hown ad m c (news.map (Value.float .f64)) hx (by simpa using hl) hnews (fun u hu=>by
  obtain⟨y,_,rfl⟩:=List.mem_map.1 hu
  rfl) hm (by unfold maxLen;omega) (by omega) hB _ rfl ?_
 intro g cap w' o1 g1 e1 _
 have hb:B<=g:=by
  rcases o1.2 with⟨q,_⟩ | ⟨g2,_,_,q,hb,_⟩
  ·cases q
  ·injection q with q1 q2 q3
   injection q1 with q4
   injection q4 with q5
   omega
 refine h g cap w' ?_ g1 e1 hb
 unfold OwnG
 rw[List.length_append,List.map_append,hl]
 exact o1
theorem tZ(f:Nat->Int)(n i:Nat)(hi:i<n):((List.range n).map f).getD i 0=f i:=by simp[hi]
def upn(F:Nat->Nat)(o:Nat):Nat->Nat
 | 0=>0
 | c+1=>upn F o c*256+F (o+(7 - c))
theorem upn_8(F:Nat->Nat)(o:Nat):upn F o 8=num F o:=by
 unfold num
 simp only[upn,lob]
 have p2:256 ^ 2=65536:=rfl
 have p3:256 ^ 3=16777216:=rfl
 have p4:256 ^ 4=4294967296:=rfl
 have p5:256 ^ 5=1099511627776:=rfl
 have p6:256 ^ 6=281474976710656:=rfl
 have p7:256 ^ 7=72057594037927936:=rfl
 simp only[p2,p3,p4,p5,p6,p7,Nat.pow_zero,Nat.pow_one,Nat.add_zero,Nat.sub_self,Nat.zero_mul,Nat.zero_add,Nat.mul_one]
 simp only[show 7 - 0=7 from rfl,show 7 - 1=6 from rfl,show 7 - 2=5 from rfl,show 7 - 3=4 from rfl,show 7 - 4=3 from rfl,show 7 - 5=2 from rfl,show 7 - 6=1 from rfl]
 omega
theorem upn_lt{F:Nat->Nat}{o:Nat}(h: ∀i,i<8->F (o+i)<256): ∀c,c<=8->upn F o c<256 ^ c:=by
 intro c
 induction c with
 | zero=>intro _;exact Nat.one_pos
 | succ c ih=>
  intro hc
  have q:=ih (by omega)
  have b:=h (7 - c) (by omega)
  show upn F o c*256+F (o+(7 - c))<256 ^ (c+1)
  rw[Nat.pow_succ]
  omega
theorem cO(g o l c at':Nat)(F:Nat->Nat)(w:World)(ha:at'+8<=l)(hl:l<=281474976710656)(hF:Ti.IsW .u8 256 w (some ⟨g,o,none⟩) l F):
  Calls prog 29 #[.slice (some ⟨g,o,none⟩) l c,.int .i64 ((at':Nat):Int)] w fun e w'=>e=.returned (.int .u64 ((num F at':Nat):Int))/\w'=w:=by
 have HF:=hid hF
 have HL:=hid (show at'+8<=l/\l<=281474976710656 from⟨ha,hl⟩)
 have UL:=hid (upn_lt (F:=F) (o:=at') (fun i hi=>(hF.at0 (k:=at'+i) (by omega)).1))
 clear hF ha hl
 go_enter func29,ntmps29
 go_wp2
 go_loopw [5,6] (fun xv iv wr=> ∃k:Nat,k<=8/\iv=.int .i64 ((7:Int) - ((k:Nat):Int))/\xv=.int .u64 ((upn F at' k:Nat):Int)/\wr=w) (fun _ iv _=>(intOf iv+1).toNat)
 case atStart=>exact⟨0,by omega,rfl,rfl,rfl⟩
 case round=>
  obtain⟨k,hk,rfl,rfl,hwr⟩:=hrel
  have hwr2:=hwr.symm
  subst hwr2
  have cs:k=0\/k=1\/k=2\/k=3\/k=4\/k=5\/k=6\/k=7\/k=8:=by omega
  clear hk
  rcases cs with rfl | rfl | rfl | rfl | rfl | rfl | rfl | rfl | rfl
  ·obtain⟨q,hq⟩:=aB (at'+7)
   have z:=(HF.out.at0 (k:=q) (by have:=HL.out;omega)).2.2
   have b1:=(HF.out.at0 (k:=q) (by have:=HL.out;omega)).1
   have ul:=UL.out 0 (by omega)
   have us:upn F at' 1=upn F at' 0*256+F q:=by rw[<- hq];rfl
   obtain⟨y,hy⟩:=aB (F q)
   obtain⟨X,hX⟩:=aB (upn F at' 0)
   rw[hy]at z b1 us
   rw[hX]at ul us ⊢
   have ul2:X<1:=ul
   obtain⟨Y,hY⟩:=aB (X*256)
   obtain⟨Z,hZ⟩:=aB (Y+y)
   have e1:(7:Int) - ((0:Nat):Int)=7:=by decide
   have m1:IntKind.u64.wrap ((X:Int)*256)=(Y:Int):=by
    show((X:Int)*256)%18446744073709551616=_
    omega
   have m2:IntKind.u64.wrap ((Y:Int)+(y:Int))=(Z:Int):=by
    show((Y:Int)+(y:Int))%18446744073709551616=_
    omega
   have m3:IntKind.i64.wrap ((at':Int)+7)=(q:Int):=by
    rw[IntKind.wrap_i64]
    have:=HL.out
    omega
   have ql:(q:Int)<(l:Int):=by have:=HL.out;omega
   have q0:(0:Int)<=(q:Int):=by omega
   have y0:(0:Int)<=(y:Int):=by omega
   have y1:(y:Int)<256:=by omega
   have US:Hid (upn F at' 1=Z):=by show _=_;rw[us,hY,hZ]
   skip
   skip
   skip
   clear hq
   clear ul ul2 us hy hX hY hZ b1
   rw[e1]
   go_wp2
   exact⟨⟨1,by omega,rfl,by rw[US.out],by first | trivial | rfl⟩,by simp[intOf]⟩
  ·obtain⟨q,hq⟩:=aB (at'+6)
   have z:=(HF.out.at0 (k:=q) (by have:=HL.out;omega)).2.2
   have b1:=(HF.out.at0 (k:=q) (by have:=HL.out;omega)).1
   have ul:=UL.out 1 (by omega)
   have us:upn F at' 2=upn F at' 1*256+F q:=by rw[<- hq];rfl
   obtain⟨y,hy⟩:=aB (F q)
   obtain⟨X,hX⟩:=aB (upn F at' 1)
   rw[hy]at z b1 us
   rw[hX]at ul us ⊢
   have ul2:X<256:=ul
   obtain⟨Y,hY⟩:=aB (X*256)
   obtain⟨Z,hZ⟩:=aB (Y+y)
   have e1:(7:Int) - ((1:Nat):Int)=6:=by decide
   have m1:IntKind.u64.wrap ((X:Int)*256)=(Y:Int):=by
    show((X:Int)*256)%18446744073709551616=_
    omega
   have m2:IntKind.u64.wrap ((Y:Int)+(y:Int))=(Z:Int):=by
    show((Y:Int)+(y:Int))%18446744073709551616=_
    omega
   have m3:IntKind.i64.wrap ((at':Int)+6)=(q:Int):=by
    rw[IntKind.wrap_i64]
    have:=HL.out
    omega
   have ql:(q:Int)<(l:Int):=by have:=HL.out;omega
   have q0:(0:Int)<=(q:Int):=by omega
   have y0:(0:Int)<=(y:Int):=by omega
   have y1:(y:Int)<256:=by omega
   have US:Hid (upn F at' 2=Z):=by show _=_;rw[us,hY,hZ]
   skip
   skip
   skip
   clear hq
   clear ul ul2 us hy hX hY hZ b1
   rw[e1]
   go_wp2
   exact⟨⟨2,by omega,rfl,by rw[US.out],by first | trivial | rfl⟩,by simp[intOf]⟩
  ·obtain⟨q,hq⟩:=aB (at'+5)
   have z:=(HF.out.at0 (k:=q) (by have:=HL.out;omega)).2.2
   have b1:=(HF.out.at0 (k:=q) (by have:=HL.out;omega)).1
   have ul:=UL.out 2 (by omega)
   have us:upn F at' 3=upn F at' 2*256+F q:=by rw[<- hq];rfl
   obtain⟨y,hy⟩:=aB (F q)
   obtain⟨X,hX⟩:=aB (upn F at' 2)
   rw[hy]at z b1 us
   rw[hX]at ul us ⊢
   have ul2:X<65536:=ul
   obtain⟨Y,hY⟩:=aB (X*256)
   obtain⟨Z,hZ⟩:=aB (Y+y)
   have e1:(7:Int) - ((2:Nat):Int)=5:=by decide
   have m1:IntKind.u64.wrap ((X:Int)*256)=(Y:Int):=by
    show((X:Int)*256)%18446744073709551616=_
    omega
   have m2:IntKind.u64.wrap ((Y:Int)+(y:Int))=(Z:Int):=by
    show((Y:Int)+(y:Int))%18446744073709551616=_
    omega
   have m3:IntKind.i64.wrap ((at':Int)+5)=(q:Int):=by
    rw[IntKind.wrap_i64]
    have:=HL.out
    omega
   have ql:(q:Int)<(l:Int):=by have:=HL.out;omega
   have q0:(0:Int)<=(q:Int):=by omega
   have y0:(0:Int)<=(y:Int):=by omega
   have y1:(y:Int)<256:=by omega
   have US:Hid (upn F at' 3=Z):=by show _=_;rw[us,hY,hZ]
   skip
   skip
   skip
   clear hq
   clear ul ul2 us hy hX hY hZ b1
   rw[e1]
   go_wp2
   exact⟨⟨3,by omega,rfl,by rw[US.out],by first | trivial | rfl⟩,by simp[intOf]⟩
  ·obtain⟨q,hq⟩:=aB (at'+4)
   have z:=(HF.out.at0 (k:=q) (by have:=HL.out;omega)).2.2
   have b1:=(HF.out.at0 (k:=q) (by have:=HL.out;omega)).1
   have ul:=UL.out 3 (by omega)
   have us:upn F at' 4=upn F at' 3*256+F q:=by rw[<- hq];rfl
   obtain⟨y,hy⟩:=aB (F q)
   obtain⟨X,hX⟩:=aB (upn F at' 3)
   rw[hy]at z b1 us
   rw[hX]at ul us ⊢
   have ul2:X<16777216:=ul
   obtain⟨Y,hY⟩:=aB (X*256)
   obtain⟨Z,hZ⟩:=aB (Y+y)
   have e1:(7:Int) - ((3:Nat):Int)=4:=by decide
   have m1:IntKind.u64.wrap ((X:Int)*256)=(Y:Int):=by
    show((X:Int)*256)%18446744073709551616=_
    omega
   have m2:IntKind.u64.wrap ((Y:Int)+(y:Int))=(Z:Int):=by
    show((Y:Int)+(y:Int))%18446744073709551616=_
    omega
   have m3:IntKind.i64.wrap ((at':Int)+4)=(q:Int):=by
    rw[IntKind.wrap_i64]
    have:=HL.out
    omega
   have ql:(q:Int)<(l:Int):=by have:=HL.out;omega
   have q0:(0:Int)<=(q:Int):=by omega
   have y0:(0:Int)<=(y:Int):=by omega
   have y1:(y:Int)<256:=by omega
   have US:Hid (upn F at' 4=Z):=by show _=_;rw[us,hY,hZ]
   skip
   skip
   skip
   clear hq
   clear ul ul2 us hy hX hY hZ b1
   rw[e1]
   go_wp2
   exact⟨⟨4,by omega,rfl,by rw[US.out],by first | trivial | rfl⟩,by simp[intOf]⟩
  ·obtain⟨q,hq⟩:=aB (at'+3)
   have z:=(HF.out.at0 (k:=q) (by have:=HL.out;omega)).2.2
   have b1:=(HF.out.at0 (k:=q) (by have:=HL.out;omega)).1
   have ul:=UL.out 4 (by omega)
   have us:upn F at' 5=upn F at' 4*256+F q:=by rw[<- hq];rfl
   obtain⟨y,hy⟩:=aB (F q)
   obtain⟨X,hX⟩:=aB (upn F at' 4)
   rw[hy]at z b1 us
   rw[hX]at ul us ⊢
   have ul2:X<4294967296:=ul
   obtain⟨Y,hY⟩:=aB (X*256)
   obtain⟨Z,hZ⟩:=aB (Y+y)
   have e1:(7:Int) - ((4:Nat):Int)=3:=by decide
   have m1:IntKind.u64.wrap ((X:Int)*256)=(Y:Int):=by
    show((X:Int)*256)%18446744073709551616=_
    omega
   have m2:IntKind.u64.wrap ((Y:Int)+(y:Int))=(Z:Int):=by
    show((Y:Int)+(y:Int))%18446744073709551616=_
    omega
   have m3:IntKind.i64.wrap ((at':Int)+3)=(q:Int):=by
    rw[IntKind.wrap_i64]
    have:=HL.out
    omega
   have ql:(q:Int)<(l:Int):=by have:=HL.out;omega
   have q0:(0:Int)<=(q:Int):=by omega
   have y0:(0:Int)<=(y:Int):=by omega
   have y1:(y:Int)<256:=by omega
   have US:Hid (upn F at' 5=Z):=by show _=_;rw[us,hY,hZ]
   skip
   skip
   skip
   clear hq
   clear ul ul2 us hy hX hY hZ b1
   rw[e1]
   go_wp2
   exact⟨⟨5,by omega,rfl,by rw[US.out],by first | trivial | rfl⟩,by simp[intOf]⟩
  ·obtain⟨q,hq⟩:=aB (at'+2)
   have z:=(HF.out.at0 (k:=q) (by have:=HL.out;omega)).2.2
   have b1:=(HF.out.at0 (k:=q) (by have:=HL.out;omega)).1
   have ul:=UL.out 5 (by omega)
   have us:upn F at' 6=upn F at' 5*256+F q:=by rw[<- hq];rfl
   obtain⟨y,hy⟩:=aB (F q)
   obtain⟨X,hX⟩:=aB (upn F at' 5)
   rw[hy]at z b1 us
   rw[hX]at ul us ⊢
   have ul2:X<1099511627776:=ul
   obtain⟨Y,hY⟩:=aB (X*256)
   obtain⟨Z,hZ⟩:=aB (Y+y)
   have e1:(7:Int) - ((5:Nat):Int)=2:=by decide
   have m1:IntKind.u64.wrap ((X:Int)*256)=(Y:Int):=by
    show((X:Int)*256)%18446744073709551616=_
    omega
   have m2:IntKind.u64.wrap ((Y:Int)+(y:Int))=(Z:Int):=by
    show((Y:Int)+(y:Int))%18446744073709551616=_
    omega
   have m3:IntKind.i64.wrap ((at':Int)+2)=(q:Int):=by
    rw[IntKind.wrap_i64]
    have:=HL.out
    omega
   have ql:(q:Int)<(l:Int):=by have:=HL.out;omega
   have q0:(0:Int)<=(q:Int):=by omega
   have y0:(0:Int)<=(y:Int):=by omega
   have y1:(y:Int)<256:=by omega
   have US:Hid (upn F at' 6=Z):=by show _=_;rw[us,hY,hZ]
   skip
   skip
   skip
   clear hq
   clear ul ul2 us hy hX hY hZ b1
   rw[e1]
   go_wp2
   exact⟨⟨6,by omega,rfl,by rw[US.out],by first | trivial | rfl⟩,by simp[intOf]⟩
  ·obtain⟨q,hq⟩:=aB (at'+1)
   have z:=(HF.out.at0 (k:=q) (by have:=HL.out;omega)).2.2
   have b1:=(HF.out.at0 (k:=q) (by have:=HL.out;omega)).1
   have ul:=UL.out 6 (by omega)
   have us:upn F at' 7=upn F at' 6*256+F q:=by rw[<- hq];rfl
   obtain⟨y,hy⟩:=aB (F q)
   obtain⟨X,hX⟩:=aB (upn F at' 6)
   rw[hy]at z b1 us
   rw[hX]at ul us ⊢
   have ul2:X<281474976710656:=ul
   obtain⟨Y,hY⟩:=aB (X*256)
   obtain⟨Z,hZ⟩:=aB (Y+y)
   have e1:(7:Int) - ((6:Nat):Int)=1:=by decide
   have m1:IntKind.u64.wrap ((X:Int)*256)=(Y:Int):=by
    show((X:Int)*256)%18446744073709551616=_
    omega
   have m2:IntKind.u64.wrap ((Y:Int)+(y:Int))=(Z:Int):=by
    show((Y:Int)+(y:Int))%18446744073709551616=_
    omega
   have m3:IntKind.i64.wrap ((at':Int)+1)=(q:Int):=by
    rw[IntKind.wrap_i64]
    have:=HL.out
    omega
   have ql:(q:Int)<(l:Int):=by have:=HL.out;omega
   have q0:(0:Int)<=(q:Int):=by omega
   have y0:(0:Int)<=(y:Int):=by omega
   have y1:(y:Int)<256:=by omega
   have US:Hid (upn F at' 7=Z):=by show _=_;rw[us,hY,hZ]
   skip
   skip
   skip
   clear hq
   clear ul ul2 us hy hX hY hZ b1
   rw[e1]
   go_wp2
   exact⟨⟨7,by omega,rfl,by rw[US.out],by first | trivial | rfl⟩,by simp[intOf]⟩
  ·obtain⟨q,hq⟩:=aB (at'+0)
   have z:=(HF.out.at0 (k:=q) (by have:=HL.out;omega)).2.2
   have b1:=(HF.out.at0 (k:=q) (by have:=HL.out;omega)).1
   have ul:=UL.out 7 (by omega)
   have us:upn F at' 8=upn F at' 7*256+F q:=by rw[<- hq];rfl
   obtain⟨y,hy⟩:=aB (F q)
   obtain⟨X,hX⟩:=aB (upn F at' 7)
   rw[hy]at z b1 us
   rw[hX]at ul us ⊢
   have ul2:X<72057594037927936:=ul
   obtain⟨Y,hY⟩:=aB (X*256)
   obtain⟨Z,hZ⟩:=aB (Y+y)
   have e1:(7:Int) - ((7:Nat):Int)=0:=by decide
   have m1:IntKind.u64.wrap ((X:Int)*256)=(Y:Int):=by
    show((X:Int)*256)%18446744073709551616=_
    omega
   have m2:IntKind.u64.wrap ((Y:Int)+(y:Int))=(Z:Int):=by
    show((Y:Int)+(y:Int))%18446744073709551616=_
    omega
   have m3:IntKind.i64.wrap ((at':Int)+0)=(q:Int):=by
    rw[IntKind.wrap_i64]
    have:=HL.out
    omega
   have ql:(q:Int)<(l:Int):=by have:=HL.out;omega
   have q0:(0:Int)<=(q:Int):=by omega
   have y0:(0:Int)<=(y:Int):=by omega
   have y1:(y:Int)<256:=by omega
   have US:Hid (upn F at' 8=Z):=by show _=_;rw[us,hY,hZ]
   have ab:(at':Int)<=281474976710656:=by have:=HL.out;omega
   have hq2:at'=q:=by omega
   clear m3 hq
   subst hq2
   clear ul ul2 us hy hX hY hZ b1
   rw[e1]
   go_wp2
   exact⟨⟨8,by omega,rfl,by rw[US.out],by first | trivial | rfl⟩,by simp[intOf]⟩
  ·have e1:(7:Int) - ((8:Nat):Int)= -1:=by decide
   rw[e1]
   go_wp2
   go_ret
   exact⟨by rw[<- upn_8];rfl,rfl⟩
theorem uC(x:Nat)(w:World):Calls prog 61 #[.int .u64 ((x:Nat):Int)] w fun e w'=>e=.returned (.float .f64 x)/\w'=w:=by
 go_enter func61,ntmps61
 go_wp2
 go_ret
 exact⟨rfl,rfl⟩
theorem fC(g o l c at' n:Nat)(F:Nat->Nat)(w:World)(hn:1<=n/\n<=12288)(ha:at'+8*n<=l)(hl:l<=281474976710656)(hF:Ti.IsW .u8 256 w (some ⟨g,o,none⟩) l F):
  Calls prog 30 #[.slice (some ⟨g,o,none⟩) l c,.int .i64 ((at':Nat):Int),.int .i64 ((n:Nat):Int)] w fun e w'=> ∃b cap,e=.returned (.slice (some ⟨b,0,none⟩) n cap)/\Ab w w'/\w.heap.size<=b/\IsFl w' (some ⟨b,0,none⟩) n (fun i=>num F (at'+8*i)):=by
 have HF:=hid hF
 have HL:=hid (show at'+8*n<=l/\l<=281474976710656/\1<=n/\n<=12288 from⟨ha,hl,hn.1,hn.2⟩)
 have CN:=hid (fun k (hk:k<n) v (a:Ab w v)=>cO g o l c (at'+8*k) F v (by omega) hl (hF.below a))
 have NLT:=hid (fun k (hk:k<n)=>numl (F:=F) (o:=at'+8*k) (fun i hi=>(hF.at0 (k:=at'+8*k+i) (by omega)).1))
 clear hF ha hl hn
 go_enter func30,ntmps30
 go_wp2
 go_loopw [7,8] (fun ov iv wr=> ∃k:Nat,k<=n/\iv=.int .i64 (k:Nat)/\Ab w wr/\OwnG w.heap.size ov ((List.range k).map (fun i=>num F (at'+8*i))) wr) (fun _ iv _=>n - (intOf iv).toNat)
 case atStart=>exact⟨0,by omega,rfl,Ab.refl w,⟨by simp,.inl ⟨rfl,rfl⟩⟩⟩
 case round=>
  obtain⟨k,hk,rfl,a1,o1⟩:=hrel
  have A1:=hid a1
  have O1:=hid o1
  clear a1 o1
  by_cases hkn:k<n
  ·have HK:=hid hkn
   have kI:(k:Int)<n:=by omega
   have kB:(n:Int)<=12288:=by have:=HL.out;omega
   obtain⟨p,hp⟩:=aB (at'+8*k)
   have CNk:=hid (CN.out k hkn wr A1.out)
   have xl:=NLT.out k hkn
   rw[hp]at CNk xl
   obtain⟨x,hx⟩:=aB (num F p)
   rw[hx]at CNk xl
   have HX:=hid (show at'+8*k=p/\num F p=x from⟨hp,hx⟩)
   have m0:IntKind.i64.wrap (8*(k:Int))=((8*k:Nat):Int):=by rw[IntKind.wrap_i64];have:=HL.out;omega
   obtain⟨q,hq⟩:=aB (8*k)
   have m1:8*(k:Int)=(q:Int):=by omega
   have m2:IntKind.i64.wrap ((at':Int)+(q:Int))=(p:Int):=by rw[IntKind.wrap_i64];have:=HL.out;omega
   have CF:=hid (fun v=>uC x v)
   skip
   skip
   skip
   skip
   have SZ:Hid (((List.range k).map (fun i=>num F (at'+8*i))).length=k):=by show _=_;simp
   have KB:=hid (show w.heap.size<=wr.heap.size from Below.size A1.out)
   have NW:Hid (∀j u,([x].map (Value.float .f64))[j]? =some u->(wr.alloc (.cells #[.float .f64 (x)] 47)).cell? ((⟨wr.heap.size,0,none⟩:Addr).add j)=some u):=fun j u hu=>by
    cases j with
    | zero=>
     simp at hu
     rw[<- hu,Sh.dY]
     exact aA 0 (heap_alloc_new _ _)
    | succ j=>simp at hu
   clear hk hkn hp hx hq m0 xl
   go_wp2_with (first
    | (go_at_call 29;refine CNk.out.mono ?_;rintro e9 z9 ⟨rfl,hz⟩;have hz2:=hz.symm;subst hz2)
    | (go_at_call 61;refine(CF.out _).mono ?_;rintro e9 z9 ⟨rfl,hz⟩;have hz2:=hz.symm;subst hz2)
    | (at_builtin;refine pO rfl (.tmp 14) (.tmp 22) rfl w.heap.size _ ((List.range k).map (fun i=>num F (at'+8*i))) rfl (World.ownsRow.alloc O1.out _) ⟨wr.heap.size,0,none⟩ 1 1 [x] rfl rfl NW.out (by decide) (by have:=SZ.out;have:=HL.out;have:=HK.out;omega) (by have:=KB.out;simp;omega) (k+1) (by rw[SZ.out]) ?_;intro g2 c2 w2 o2 q2 e2 l2))
   refine⟨⟨k+1,by have:=HK.out;omega,by simp,bJ (A1.out.trans (bl1 _ _)) q2 (fun b hb=>(World.ownsRow.lt O1.out b hb).1),?_⟩,by have:=HK.out;simp[intOf];omega⟩
   rw[List.range_succ,List.map_append]
   have ev:num F (at'+8*k)=x:=by rw[HX.out.1,HX.out.2]
   show OwnG _ _ (_++[num F (at'+8*k)]) _
   rw[ev]
   exact o2
  ·have e6:n=k:=by omega
   subst e6
   go_wp2
   go_ret
   have LX:((List.range n).map (fun i=>num F (at'+8*i))).length=n:=by simp
   have q:=O1.out
   rcases q.2 with⟨_,h0⟩ | ⟨b,cap,cur,e,hb,_⟩
   ·have:=HL.out
    omega
   ·have el: ∀x ∈ (List.range n).map (fun i=>num F (at'+8*i)),x<18446744073709551616:=fun x hx=>by
     obtain⟨i,hi,rfl⟩:=List.mem_map.1 hx
     exact NLT.out i (List.mem_range.1 hi)
    obtain⟨a0,cap2,e3,i3⟩:=OwnG.fl q el
    rw[LX]at e3 i3 e
    rw[e]at e3
    injection e3 with e4 e5 e6
    subst e4 e6
    clear e5
    exact⟨b,cap,by rw[e];rfl,A1.out,hb,fun i hi=>by have t:=i3 i hi;dsimp only at t;rw[kJ _ _ _ hi]at t;exact t⟩
theorem fD(g o l c at' n:Nat)(F:Nat->Nat)(w:World)(hn:1<=n/\n<=12288)(ha:at'+8*n<=l)(hl:l<=281474976710656)(hF:Ti.IsW .u8 256 w (some ⟨g,o,none⟩) l F):
  Calls prog 31 #[.slice (some ⟨g,o,none⟩) l c,.int .i64 ((at':Nat):Int),.int .i64 ((n:Nat):Int)] w fun e w'=> ∃b cap,e=.returned (.slice (some ⟨b,0,none⟩) n cap)/\Ab w w'/\w.heap.size<=b/\Sh.IsI w' (some ⟨b,0,none⟩) n (fun i=>i64 (num F (at'+8*i))):=by
 have HF:=hid hF
 have HL:=hid (show at'+8*n<=l/\l<=281474976710656/\1<=n/\n<=12288 from⟨ha,hl,hn.1,hn.2⟩)
 have CN:=hid (fun k (hk:k<n) v (a:Ab w v)=>cO g o l c (at'+8*k) F v (by omega) hl (hF.below a))
 have NLT:=hid (fun k (hk:k<n)=>numl (F:=F) (o:=at'+8*k) (fun i hi=>(hF.at0 (k:=at'+8*k+i) (by omega)).1))
 clear hF ha hl hn
 go_enter func31,ntmps31
 go_wp2
 go_loopw [7,8] (fun ov iv wr=> ∃k:Nat,k<=n/\iv=.int .i64 (k:Nat)/\Ab w wr/\Sh.Own w.heap.size ov ((List.range k).map (fun i=>i64 (num F (at'+8*i)))) wr) (fun _ iv _=>n - (intOf iv).toNat)
 case atStart=>exact⟨0,by omega,rfl,Ab.refl w,Sh.Own.new _ _⟩
 case round=>
  obtain⟨k,hk,rfl,a1,o1⟩:=hrel
  have A1:=hid a1
  have O1:=hid o1
  clear a1 o1
  by_cases hkn:k<n
  ·have HK:=hid hkn
   have kI:(k:Int)<n:=by omega
   have kB:(n:Int)<=12288:=by have:=HL.out;omega
   obtain⟨p,hp⟩:=aB (at'+8*k)
   have CNk:=hid (CN.out k hkn wr A1.out)
   have xl:=NLT.out k hkn
   rw[hp]at CNk xl
   obtain⟨x,hx⟩:=aB (num F p)
   rw[hx]at CNk xl
   have HX:=hid (show at'+8*k=p/\num F p=x from⟨hp,hx⟩)
   have m0:IntKind.i64.wrap (8*(k:Int))=((8*k:Nat):Int):=by rw[IntKind.wrap_i64];have:=HL.out;omega
   obtain⟨q,hq⟩:=aB (8*k)
   have m1:8*(k:Int)=(q:Int):=by omega
   have m2:IntKind.i64.wrap ((at':Int)+(q:Int))=(p:Int):=by rw[IntKind.wrap_i64];have:=HL.out;omega
   have wi:=wrap_i64 xl
   obtain⟨y,hy⟩:=aB (i64 x)
   rw[hy]at wi
   have wi2:wrap64 (x:Int)=y:=by rw[<- wi];simp[wrap64,IntKind.wrap_i64]
   have HY:=hid hy
   have SZ:Hid (((List.range k).map (fun i=>i64 (num F (at'+8*i)))).length=k):=by show _=_;simp
   have KB:=hid (show w.heap.size<=wr.heap.size from Below.size A1.out)
   have NW:Hid (∀j u,([y].map (Value.int .i64))[j]? =some u->(wr.alloc (.cells #[.int .i64 (y)] 2)).cell? ((⟨wr.heap.size,0,none⟩:Addr).add j)=some u):=fun j u hu=>by
    cases j with
    | zero=>
     simp at hu
     rw[<- hu,Sh.dY]
     exact aA 0 (heap_alloc_new _ _)
    | succ j=>simp at hu
   clear hk hkn hp hx hq m0 xl hy
   go_wp2_with (first
    | (go_at_call 29;refine CNk.out.mono ?_;rintro e9 z9 ⟨rfl,hz⟩;have hz2:=hz.symm;subst hz2)
    | fail
    | (at_builtin;refine Sh.aX rfl (.tmp 14) (.tmp 22) rfl w.heap.size _ ((List.range k).map (fun i=>i64 (num F (at'+8*i)))) rfl (O1.out.alloc _) ⟨wr.heap.size,0,none⟩ 1 1 [y] rfl rfl NW.out (by decide) (by have:=SZ.out;have:=HL.out;have:=HK.out;omega) (by have:=KB.out;simp;omega) (k+1) (by rw[SZ.out]) ?_;intro g2 c2 w2 o2 q2 e2 l2))
   refine⟨⟨k+1,by have:=HK.out;omega,by simp,bJ (A1.out.trans (bl1 _ _)) q2 (fun b hb=>(World.ownsRow.lt O1.out b hb).1),?_⟩,by have:=HK.out;simp[intOf];omega⟩
   rw[List.range_succ,List.map_append]
   have ev:i64 (num F (at'+8*k))=y:=by rw[HX.out.1,HX.out.2,HY.out]
   show Sh.Own _ _ (_++[i64 (num F (at'+8*k))]) _
   rw[ev]
   exact o2
  ·have e6:n=k:=by omega
   subst e6
   go_wp2
   go_ret
   have LX:((List.range n).map (fun i=>i64 (num F (at'+8*i)))).length=n:=by simp
   have q:=O1.out
   rcases q.2 with⟨_,h0⟩ | ⟨b,cap,cur,e,hb,_⟩
   ·have:=HL.out
    omega
   ·have el: ∀x ∈ (List.range n).map (fun i=>i64 (num F (at'+8*i))),-9223372036854775808<=x/\x<=9223372036854775807:=fun x hx=>by
     obtain⟨i,hi,rfl⟩:=List.mem_map.1 hx
     exact dU (NLT.out i (List.mem_range.1 hi))
    obtain⟨a0,cap2,e3,i3⟩:=Sh.own_in q el
    rw[LX]at e3 i3 e
    rw[e]at e3
    injection e3 with e4 e5 e6
    subst e4 e6
    clear e5
    exact⟨b,cap,by rw[e];rfl,A1.out,hb,fun i hi=>by have t:=i3 i hi;dsimp only at t;rw[tZ _ _ _ hi]at t;exact t⟩
end Sv
end
section
open Go.RowKit Tf Cu Go.Deep
namespace Spl
theorem bF{w:World}{p:Option Addr}{n g k:Nat}{f:Nat->Nat}(v:Value)(h:IsFl w p n f)(hp: ∀b o,p=some ⟨b,o,none⟩->b≠g):IsFl (w.setCell ⟨g,k,none⟩ v) p n f:=fun i hi=>by
 obtain⟨h1,b,o,h2,h3,h4⟩:=h i hi
 exact⟨h1,b,o,h2,by simpa [World.setCell]using h3,(World.cell?_of_block (Below.heap_setCell _ _ _ _ (hp b o h2))).trans h4⟩
theorem bU{w:World}{p:Option Addr}{n g k:Nat}{f:Nat->Int}(v:Value)(h:Sh.IsI w p n f)(hp: ∀b o,p=some ⟨b,o,none⟩->b≠g):Sh.IsI (w.setCell ⟨g,k,none⟩ v) p n f:=fun i hi=>by
 obtain⟨h1,b,o,h2,h3,h4⟩:=h i hi
 exact⟨h1,b,o,h2,by simpa [World.setCell]using h3,(World.cell?_of_block (Below.heap_setCell _ _ _ _ (hp b o h2))).trans h4⟩
end Spl
end
end Go.Proofs.YtlmfpikhlcnjjaaGreatDoor
