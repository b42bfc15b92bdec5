/-
  Some of the texts of this proof, one behind the other.
-/
import Derived.Deep.MidRow
import Derived.Maps.AppendAt
import Ieee.Arith
import Derived.Test.YtaphajlpbgcfjaaGreatDoorTa01
set_option maxRecDepth 100000
set_option maxHeartbeats 400000000
namespace Go.Proofs.YtaphajlpbgcfjaaGreatDoor
open _root_.Go.Proofs.Tryz
section
open Go.RowKit Cu
def frl:List Value:=[.int .i64 (cC 0).1,.int .i64 (cC 0).2.1,.int .i64 (cC 0).2.2,.int .i64 (cR 0).1,.int .i64 (cR 0).2.1,.int .i64 (cR 0).2.2,.int .i64 (cU 0).1,.int .i64 (cU 0).2.1,.int .i64 (cU 0).2.2,.int .i64 (cC 1).1,.int .i64 (cC 1).2.1,.int .i64 (cC 1).2.2,.int .i64 (cR 1).1,.int .i64 (cR 1).2.1,.int .i64 (cR 1).2.2,.int .i64 (cU 1).1,.int .i64 (cU 1).2.1,.int .i64 (cU 1).2.2,.int .i64 (cC 2).1,.int .i64 (cC 2).2.1,.int .i64 (cC 2).2.2,.int .i64 (cR 2).1,.int .i64 (cR 2).2.1,.int .i64 (cR 2).2.2,.int .i64 (cU 2).1,.int .i64 (cU 2).2.1,.int .i64 (cU 2).2.2,.int .i64 (cC 3).1,.int .i64 (cC 3).2.1,.int .i64 (cC 3).2.2,.int .i64 (cR 3).1,.int .i64 (cR 3).2.1,.int .i64 (cR 3).2.2,.int .i64 (cU 3).1,.int .i64 (cU 3).2.1,.int .i64 (cU 3).2.2,.int .i64 (cC 4).1,.int .i64 (cC 4).2.1,.int .i64 (cC 4).2.2,.int .i64 (cR 4).1,.int .i64 (cR 4).2.1,.int .i64 (cR 4).2.2,.int .i64 (cU 4).1,.int .i64 (cU 4).2.1,.int .i64 (cU 4).2.2,.int .i64 (cC 5).1,.int .i64 (cC 5).2.1,.int .i64 (cC 5).2.2,.int .i64 (cR 5).1,.int .i64 (cR 5).2.1,.int .i64 (cR 5).2.2,.int .i64 (cU 5).1,.int .i64 (cU 5).2.1,.int .i64 (cU 5).2.2]
theorem Ah{w:World}(h:Fr w):w.rangeAt 1 0 frl:=by
 intro j v hv
 rw[Nat.zero_add]
 match j,hv with
 | 0,hv=>cases(show some (Value.int .i64 (cC 0).1)=some v from hv);exact(h.2 0 (by decide)).1.1
 | 1,hv=>cases(show some (Value.int .i64 (cC 0).2.1)=some v from hv);exact(h.2 0 (by decide)).1.2.1
 | 2,hv=>cases(show some (Value.int .i64 (cC 0).2.2)=some v from hv);exact(h.2 0 (by decide)).1.2.2
 | 3,hv=>cases(show some (Value.int .i64 (cR 0).1)=some v from hv);exact(h.2 0 (by decide)).2.1.1
 | 4,hv=>cases(show some (Value.int .i64 (cR 0).2.1)=some v from hv);exact(h.2 0 (by decide)).2.1.2.1
 | 5,hv=>cases(show some (Value.int .i64 (cR 0).2.2)=some v from hv);exact(h.2 0 (by decide)).2.1.2.2
 | 6,hv=>cases(show some (Value.int .i64 (cU 0).1)=some v from hv);exact(h.2 0 (by decide)).2.2.1
 | 7,hv=>cases(show some (Value.int .i64 (cU 0).2.1)=some v from hv);exact(h.2 0 (by decide)).2.2.2.1
 | 8,hv=>cases(show some (Value.int .i64 (cU 0).2.2)=some v from hv);exact(h.2 0 (by decide)).2.2.2.2
 | 9,hv=>cases(show some (Value.int .i64 (cC 1).1)=some v from hv);exact(h.2 1 (by decide)).1.1
 | 10,hv=>cases(show some (Value.int .i64 (cC 1).2.1)=some v from hv);exact(h.2 1 (by decide)).1.2.1
 | 11,hv=>cases(show some (Value.int .i64 (cC 1).2.2)=some v from hv);exact(h.2 1 (by decide)).1.2.2
 | 12,hv=>cases(show some (Value.int .i64 (cR 1).1)=some v from hv);exact(h.2 1 (by decide)).2.1.1
 | 13,hv=>cases(show some (Value.int .i64 (cR 1).2.1)=some v from hv);exact(h.2 1 (by decide)).2.1.2.1
 | 14,hv=>cases(show some (Value.int .i64 (cR 1).2.2)=some v from hv);exact(h.2 1 (by decide)).2.1.2.2
 | 15,hv=>cases(show some (Value.int .i64 (cU 1).1)=some v from hv);exact(h.2 1 (by decide)).2.2.1
 | 16,hv=>cases(show some (Value.int .i64 (cU 1).2.1)=some v from hv);exact(h.2 1 (by decide)).2.2.2.1
 | 17,hv=>cases(show some (Value.int .i64 (cU 1).2.2)=some v from hv);exact(h.2 1 (by decide)).2.2.2.2
 | 18,hv=>cases(show some (Value.int .i64 (cC 2).1)=some v from hv);exact(h.2 2 (by decide)).1.1
 | 19,hv=>cases(show some (Value.int .i64 (cC 2).2.1)=some v from hv);exact(h.2 2 (by decide)).1.2.1
 | 20,hv=>cases(show some (Value.int .i64 (cC 2).2.2)=some v from hv);exact(h.2 2 (by decide)).1.2.2
 | 21,hv=>cases(show some (Value.int .i64 (cR 2).1)=some v from hv);exact(h.2 2 (by decide)).2.1.1
 | 22,hv=>cases(show some (Value.int .i64 (cR 2).2.1)=some v from hv);exact(h.2 2 (by decide)).2.1.2.1
 | 23,hv=>cases(show some (Value.int .i64 (cR 2).2.2)=some v from hv);exact(h.2 2 (by decide)).2.1.2.2
 | 24,hv=>cases(show some (Value.int .i64 (cU 2).1)=some v from hv);exact(h.2 2 (by decide)).2.2.1
 | 25,hv=>cases(show some (Value.int .i64 (cU 2).2.1)=some v from hv);exact(h.2 2 (by decide)).2.2.2.1
 | 26,hv=>cases(show some (Value.int .i64 (cU 2).2.2)=some v from hv);exact(h.2 2 (by decide)).2.2.2.2
 | 27,hv=>cases(show some (Value.int .i64 (cC 3).1)=some v from hv);exact(h.2 3 (by decide)).1.1
 | 28,hv=>cases(show some (Value.int .i64 (cC 3).2.1)=some v from hv);exact(h.2 3 (by decide)).1.2.1
 | 29,hv=>cases(show some (Value.int .i64 (cC 3).2.2)=some v from hv);exact(h.2 3 (by decide)).1.2.2
 | 30,hv=>cases(show some (Value.int .i64 (cR 3).1)=some v from hv);exact(h.2 3 (by decide)).2.1.1
 | 31,hv=>cases(show some (Value.int .i64 (cR 3).2.1)=some v from hv);exact(h.2 3 (by decide)).2.1.2.1
 | 32,hv=>cases(show some (Value.int .i64 (cR 3).2.2)=some v from hv);exact(h.2 3 (by decide)).2.1.2.2
 | 33,hv=>cases(show some (Value.int .i64 (cU 3).1)=some v from hv);exact(h.2 3 (by decide)).2.2.1
 | 34,hv=>cases(show some (Value.int .i64 (cU 3).2.1)=some v from hv);exact(h.2 3 (by decide)).2.2.2.1
 | 35,hv=>cases(show some (Value.int .i64 (cU 3).2.2)=some v from hv);exact(h.2 3 (by decide)).2.2.2.2
 | 36,hv=>cases(show some (Value.int .i64 (cC 4).1)=some v from hv);exact(h.2 4 (by decide)).1.1
 | 37,hv=>cases(show some (Value.int .i64 (cC 4).2.1)=some v from hv);exact(h.2 4 (by decide)).1.2.1
 | 38,hv=>cases(show some (Value.int .i64 (cC 4).2.2)=some v from hv);exact(h.2 4 (by decide)).1.2.2
 | 39,hv=>cases(show some (Value.int .i64 (cR 4).1)=some v from hv);exact(h.2 4 (by decide)).2.1.1
 | 40,hv=>cases(show some (Value.int .i64 (cR 4).2.1)=some v from hv);exact(h.2 4 (by decide)).2.1.2.1
 | 41,hv=>cases(show some (Value.int .i64 (cR 4).2.2)=some v from hv);exact(h.2 4 (by decide)).2.1.2.2
 | 42,hv=>cases(show some (Value.int .i64 (cU 4).1)=some v from hv);exact(h.2 4 (by decide)).2.2.1
 | 43,hv=>cases(show some (Value.int .i64 (cU 4).2.1)=some v from hv);exact(h.2 4 (by decide)).2.2.2.1
 | 44,hv=>cases(show some (Value.int .i64 (cU 4).2.2)=some v from hv);exact(h.2 4 (by decide)).2.2.2.2
 | 45,hv=>cases(show some (Value.int .i64 (cC 5).1)=some v from hv);exact(h.2 5 (by decide)).1.1
 | 46,hv=>cases(show some (Value.int .i64 (cC 5).2.1)=some v from hv);exact(h.2 5 (by decide)).1.2.1
 | 47,hv=>cases(show some (Value.int .i64 (cC 5).2.2)=some v from hv);exact(h.2 5 (by decide)).1.2.2
 | 48,hv=>cases(show some (Value.int .i64 (cR 5).1)=some v from hv);exact(h.2 5 (by decide)).2.1.1
 | 49,hv=>cases(show some (Value.int .i64 (cR 5).2.1)=some v from hv);exact(h.2 5 (by decide)).2.1.2.1
 | 50,hv=>cases(show some (Value.int .i64 (cR 5).2.2)=some v from hv);exact(h.2 5 (by decide)).2.1.2.2
 | 51,hv=>cases(show some (Value.int .i64 (cU 5).1)=some v from hv);exact(h.2 5 (by decide)).2.2.1
 | 52,hv=>cases(show some (Value.int .i64 (cU 5).2.1)=some v from hv);exact(h.2 5 (by decide)).2.2.2.1
 | 53,hv=>cases(show some (Value.int .i64 (cU 5).2.2)=some v from hv);exact(h.2 5 (by decide)).2.2.2.2
 | j+54,hv=>cases(show none=some v from hv)
def acL(F:Nat):Nat->List Value
 | 0=>[]
 | k+1=>acL F k++(if dt (cC k) (cC F)=0 then [.int .i64 (cC k).1,.int .i64 (cC k).2.1,.int .i64 (cC k).2.2]else [])
def acN(F:Nat):Nat->Nat
 | 0=>0
 | k+1=>acN F k+(if dt (cC k) (cC F)=0 then 1 else 0)
theorem acN_le(F k:Nat):acN F k<=k:=by
 induction k with
 | zero=>simp[acN]
 | succ k ih=>simp only[acN];split<;>omega
theorem acN_six: ∀F<6,acN F 6=4:=by decide+kernel
theorem acL_get{F k:Nat}(hF:F<6)(hk:k<4):(acL F 6)[k*3]? =some (.int .i64 (cC (prp F k)).1)/\(acL F 6)[k*3+1]? =some (.int .i64 (cC (prp F k)).2.1)/\(acL F 6)[k*3+2]? =some (.int .i64 (cC (prp F k)).2.2):=by
 rcases six hF with rfl | rfl | rfl | rfl | rfl | rfl<;>rcases four hk with rfl | rfl | rfl | rfl<;>exact⟨rfl,rfl,rfl⟩
theorem set9{W w:World}{g:Nat}{x0 x1 x2 x3 x4 x5 x6 x7 x8:Value}{T:TypeId}(h:Abx W g 9 T w):
  (((((((((w.setCell ⟨g,0,none⟩ x0).setCell ⟨g,1,none⟩ x1).setCell ⟨g,2,none⟩ x2).setCell ⟨g,3,none⟩ x3).setCell ⟨g,4,none⟩ x4).setCell ⟨g,5,none⟩ x5).setCell ⟨g,6,none⟩ x6).setCell ⟨g,7,none⟩ x7).setCell ⟨g,8,none⟩ x8).heap[g]? =some (.cells #[x0,x1,x2,x3,x4,x5,x6,x7,x8] T):=by
 obtain⟨_,cs,h6,h⟩:=h
 obtain⟨a,b,c,d,e,f,i,j,k,rfl⟩: ∃a b c d e f i j k,cs= #[a,b,c,d,e,f,i,j,k]:=by
  rcases cs with⟨l⟩
  match l,h6 with
  | [a,b,c,d,e,f,i,j,k],_=>exact⟨a,b,c,d,e,f,i,j,k,rfl⟩
 have h10:=aJ (v:=x0) (k:=0) h
 have h11:=aJ (v:=x1) (k:=1) h10
 have h12:=aJ (v:=x2) (k:=2) h11
 have h13:=aJ (v:=x3) (k:=3) h12
 have h14:=aJ (v:=x4) (k:=4) h13
 have h15:=aJ (v:=x5) (k:=5) h14
 have h16:=aJ (v:=x6) (k:=6) h15
 have h17:=aJ (v:=x7) (k:=7) h16
 have h18:=aJ (v:=x8) (k:=8) h17
 simpa using h18
theorem info_pt3:(Tryz.prog.info? 184).map (fun i=>(i.zero,i.size,i.bytes))=some (some (.agg #[.int .i64 0,.int .i64 0,.int .i64 0]),3,24):=by kernel_rfl
theorem vC(t:Nat)(w:World)(ht:t<24)(h:Fr w):
  Calls prog 141 #[.int .i64 t] w fun e w'=>e=.returned (.agg #[.int .i64 (rX t).1,.int .i64 (rX t).2.1,.int .i64 (rX t).2.2,.int .i64 (rY t).1,.int .i64 (rY t).2.1,.int .i64 (rY t).2.2,.int .i64 (rZ t).1,.int .i64 (rZ t).2.1,.int .i64 (rZ t).2.2])/\Below w.heap.size w w':=by
 obtain⟨F,hF⟩:=aD (t/4)
 obtain⟨m,hm⟩:=aD (t%4)
 have hF6:F<6:=by omega
 have hm4:m<4:=by omega
 have v1:(t:Int).tdiv 4=F:=by rw[Int.tdiv_eq_ediv_of_nonneg (by omega)];omega
 have v2:(t:Int).tmod 4=m:=by rw[Int.tmod_eq_emod_of_nonneg (by omega)];omega
 have hF':(F:Int)<6:=by omega
 obtain⟨⟨k0,k1,k2⟩,_,_⟩:=h.2 F hF6
 have h0:=h.1
 have HR:=hid (Ah h)
 have eX:rX t=cC F:=by unfold rX;rw[hF]
 have eY:rY t=cC (prp F m):=by unfold rY;rw[hF,hm]
 have eZ:rZ t=cx (cC F) (cC (prp F m)):=by unfold rZ;rw[eX,eY]
 rw[eX,eY,eZ]
 clear eX eY eZ
 have H:=hid h
 have V1:=hid v1
 have V2:=hid v2
 clear h
 go_enter func141,ntmps141
 go_wp2_with (refine wpList_load_mid rfl 203 _ rfl 1 0 rfl frl _ ?_ underlying203 rfl (by kernel_rfl) ?_;(exact Ah (H.out.to (bl2 _ _ _))))
 generalize hCS:frl.toArray=CS
 generalize hW:World.alloc _ _=W
 have hp: ∀k:Nat,k<6-> ∀w,(Instr.index 203 (.agg CS) (.int .i64 (k:Nat))).run prog w=.ok (.agg #[.int .i64 (cC k).1,.int .i64 (cC k).2.1,.int .i64 (cC k).2.2,.int .i64 (cR k).1,.int .i64 (cR k).2.1,.int .i64 (cR k).2.2,.int .i64 (cU k).1,.int .i64 (cU k).2.1,.int .i64 (cU k).2.2]) w:=by
  intro k hk w
  rw[<- hCS]
  rcases six hk with rfl | rfl | rfl | rfl | rfl | rfl<;>kernel_rfl
 have z1:Hid (W.heap.size=w.heap.size+2):=by rw[<- hW];simp[Hid]
 have AW:Hid (Ab w W):=by rw[<- hW];exact bl2 _ _ _
 have r2:Hid (W.heap[w.heap.size]? =some (.cells #[.int .i64 0,.int .i64 0,.int .i64 0,.int .i64 0,.int .i64 0,.int .i64 0,.int .i64 0,.int .i64 0,.int .i64 0] 186)):=by rw[<- hW];exact heap_alloc2_old _ _ _
 have r3:W.heap[w.heap.size+1]? =some (.cells #[.int .i64 (cC F).1,.int .i64 (cC F).2.1,.int .i64 (cC F).2.2] 184):=by rw[<- hW];exact heap_alloc2_new _ _ _
 have R3:=hid r3
 have HPT:=hid hp
 obtain⟨i0,hi,hz0,hz1,hz2⟩:=info_parts info_pt3
 have HI:=hid hi
 clear hW r3 k0 k1 k2 v1 v2 hCS hp hi
 go_loopw [4,14] (fun v iv wr=> ∃k:Nat,k<=6/\iv=.int .i64 (k:Nat)/\wr.ownsRow W.heap.size 184 3 v (acN F k) (acL F k)/\Ab W wr) (fun _ iv _=>6 - (intOf iv).toNat)
 case atStart=>exact⟨0,by omega,rfl,World.ownsRow_nil _ _ _ _,Ab.refl _⟩
 case round=>
  obtain⟨k,hk,rfl,hown,A⟩:=hrel
  by_cases hk6:k<6
  ·have hk6':(k:Int)<6:=by omega
   have hpk:=HPT.out k hk6
   have T:=hid (fun u=>Ae (cC k) (cC F) u (un_C hk6).sm (un_C hF6))
   have r3:=A.heap R3.out
   obtain⟨-,q0,q1,q2⟩:=rowfacts r3
   have hlt:=lt_of_block r3
   have HO:=hid hown
   have AA:=hid A
   clear r3 hown A
   by_cases hd:dt (cC k) (cC F)=0
   ·rw[hd]at T
    go_wp2_with (first
     | (go_at_call 154;refine(T.out _).mono ?_;rintro e w1 ⟨rfl,rfl⟩)
     | (at_builtin;refine wpList_append_own _ rfl _ _ 228 rfl W.heap.size 184 i0 (.agg #[.int .i64 0,.int .i64 0,.int .i64 0]) 3 24 underlying228 HI.out hz0 hz1 hz2 rfl (by decide) _ _ _ rfl ((((HO.out.alloc _).alloc _).alloc _).alloc _) ⟨wr.heap.size+1+1+1,0,none⟩ 1 1 [.int .i64 (cC k).1,.int .i64 (cC k).2.1,.int .i64 (cC k).2.2] rfl rfl ?c1 ?c2 ?c3 ?c4 ?c5 ?_))
    case c1=>
     intro j u hj
     rw[Addr.add_mid,cell_of_row _ _ _ _ _ _ (xY _ _ _ (by simp))]
     simpa using hj
    case c2=>intro u hu;simp at hu;rcases hu with rfl | rfl | rfl<;>rfl
    case c3=>have:=acN_le F k;unfold maxLen;omega
    case c4=>have:=acN_le F k;omega
    case c5=>have:=AA.out.size;simp;omega
    ·intro v' w2 hown' hgrow _
     have e1:acN F (k+1)=acN F k+1:=by simp only[acN];rw[if_pos hd]
     have e2:acL F (k+1)=acL F k++[.int .i64 (cC k).1,.int .i64 (cC k).2.1,.int .i64 (cC k).2.2]:=by simp only[acL];rw[if_pos hd]
     rw[<- e1,<- e2]at hown'
     have A2:Ab W w2:=Below.grown (((((AA.out.alloc _).alloc _).alloc _).alloc _)) hgrow (by have:=AA.out.size;simp;omega) (fun g hg=>(HO.out.lt g hg).1)
     have HO':=hid hown'
     have A2':=hid A2
     clear hown' hgrow A2 e1 e2
     go_wp2
     go_roundw
     case rel=>exact⟨k+1,by omega,by simp,HO'.out,A2'.out⟩
     case measure=>simp[intOf];omega
   ·have hd':(dt (cC k) (cC F)==0)=false:=by simpa using hd
    go_wp2_with (go_at_call 154;refine(T.out _).mono ?_;rintro e w1 ⟨rfl,rfl⟩)
    have e1:acN F (k+1)=acN F k:=by simp only[acN];rw[if_neg hd];rfl
    have e2:acL F (k+1)=acL F k:=by simp only[acL];rw[if_neg hd];simp
    go_roundw
    case rel=>exact⟨k+1,by omega,by simp,by rw[e1,e2];exact((HO.out.alloc _).alloc _).alloc _,((AA.out.alloc _).alloc _).alloc _⟩
    case measure=>simp[intOf];omega
  ·obtain rfl:k=6:=by omega
   have hown6:=hown
   rw[acN_six F hF6]at hown6
   obtain⟨g,cap,rfl,hcl⟩: ∃g cap,u4=.slice (some ⟨g,0,none⟩) 4 cap/\True:=by
    rcases hown6.2 with⟨_,h4⟩ | ⟨g,cap,cur,hv,_⟩
    ·omega
    ·exact⟨g,cap,hv,trivial⟩
   obtain⟨l0,l1,l2⟩:=acL_get hF6 hm4
   have y0:wr.cell? ⟨g,m*3,none⟩=some (.int .i64 (cC (prp F m)).1):=(hown6.cellAt _ (by omega)).trans l0
   have y1:wr.cell? ⟨g,m*3+1,none⟩=some (.int .i64 (cC (prp F m)).2.1):=(hown6.cellAt _ (by omega)).trans l1
   have y2:wr.cell? ⟨g,m*3+2,none⟩=some (.int .i64 (cC (prp F m)).2.2):=(hown6.cellAt _ (by omega)).trans l2
   have v2:(t:Int)%4=m:=by omega
   have m4:(m:Int)<4:=by omega
   have m0:(0:Int)<=m:=by omega
   have X:=hid (fun u=>C8 (cC F) (cC (prp F m)) u (un_C hF6) (un_C (prp_lt F hF6 m hm4)))
   have AA:=hid A
   clear hown hown6 l0 l1 l2 A hk6 hk
   go_upto_region 10 with fail
   generalize hW9:World.alloc wr _=W9
   obtain⟨g7,hg7⟩:=aD wr.heap.size
   have A9:Ab W W9:=by rw[<- hW9];exact AA.out.alloc _
   have r7:W9.heap[g7]? =some (.cells #[.int .i64 (cC (prp F m)).1,.int .i64 (cC (prp F m)).2.1,.int .i64 (cC (prp F m)).2.2] 184):=by rw[<- hW9,<- hg7];exact heap_alloc_new _ _
   have hge:Hid (W.heap.size<=g7):=by rw[<- hg7];exact AA.out.size
   rw[hg7]
   clear hW9 hg7 y0 y1 y2 v2
   have KS:Hid (∀w',Abx W9 w.heap.size 9 186 w'->Abx W9 w.heap.size 9 186 w'/\w'.cell? ⟨w.heap.size+1,0,none⟩=some (.int .i64 (cC F).1)/\w'.cell? ⟨w.heap.size+1,1,none⟩=some (.int .i64 (cC F).2.1)/\w'.cell? ⟨w.heap.size+1,2,none⟩=some (.int .i64 (cC F).2.2)/\w'.cell? ⟨g7,0,none⟩=some (.int .i64 (cC (prp F m)).1)/\w'.cell? ⟨g7,1,none⟩=some (.int .i64 (cC (prp F m)).2.1)/\w'.cell? ⟨g7,2,none⟩=some (.int .i64 (cC (prp F m)).2.2)/\w'.frozen? ⟨w.heap.size,0,none⟩=false/\w'.frozen? ⟨w.heap.size,1,none⟩=false/\w'.frozen? ⟨w.heap.size,2,none⟩=false/\w'.frozen? ⟨w.heap.size,3,none⟩=false/\w'.frozen? ⟨w.heap.size,4,none⟩=false/\w'.frozen? ⟨w.heap.size,5,none⟩=false/\w'.frozen? ⟨w.heap.size,6,none⟩=false/\w'.frozen? ⟨w.heap.size,7,none⟩=false/\w'.frozen? ⟨w.heap.size,8,none⟩=false/\w'.cell? ⟨w.heap.size,0,none⟩=some (rv w' w.heap.size 0)/\w'.cell? ⟨w.heap.size,1,none⟩=some (rv w' w.heap.size 1)/\w'.cell? ⟨w.heap.size,2,none⟩=some (rv w' w.heap.size 2)/\w'.cell? ⟨w.heap.size,3,none⟩=some (rv w' w.heap.size 3)/\w'.cell? ⟨w.heap.size,4,none⟩=some (rv w' w.heap.size 4)/\w'.cell? ⟨w.heap.size,5,none⟩=some (rv w' w.heap.size 5)/\w'.cell? ⟨w.heap.size,6,none⟩=some (rv w' w.heap.size 6)/\w'.cell? ⟨w.heap.size,7,none⟩=some (rv w' w.heap.size 7)/\w'.cell? ⟨w.heap.size,8,none⟩=some (rv w' w.heap.size 8)):=by
    intro w' hw
    have hz:=z1.out
    have hge:=hge.out
    obtain⟨-,a0,a1,a2⟩:=rowfacts (hw.heap (by omega) (A9.heap R3.out))
    obtain⟨-,b0,b1,b2⟩:=rowfacts (hw.heap (by omega) r7)
    exact⟨hw,a0,a1,a2,b0,b1,b2,hw.free 0,hw.free 1,hw.free 2,hw.free 3,hw.free 4,hw.free 5,hw.free 6,hw.free 7,hw.free 8,hw.some (by omega),hw.some (by omega),hw.some (by omega),hw.some (by omega),hw.some (by omega),hw.some (by omega),hw.some (by omega),hw.some (by omega),hw.some (by omega)⟩
   have A0':Abx W9 w.heap.size 9 186 W9:=(Ab.refl W9).x rfl (A9.heap r2.out)
   have A9':=hid A9
   clear r7 R3 r2 A9
   go_region_held3 (fun w'=>Abx W9 w.heap.size 9 186 w'/\w'.cell? ⟨w.heap.size+1,0,none⟩=some (.int .i64 (cC F).1)/\w'.cell? ⟨w.heap.size+1,1,none⟩=some (.int .i64 (cC F).2.1)/\w'.cell? ⟨w.heap.size+1,2,none⟩=some (.int .i64 (cC F).2.2)/\w'.cell? ⟨g7,0,none⟩=some (.int .i64 (cC (prp F m)).1)/\w'.cell? ⟨g7,1,none⟩=some (.int .i64 (cC (prp F m)).2.1)/\w'.cell? ⟨g7,2,none⟩=some (.int .i64 (cC (prp F m)).2.2)/\w'.frozen? ⟨w.heap.size,0,none⟩=false/\w'.frozen? ⟨w.heap.size,1,none⟩=false/\w'.frozen? ⟨w.heap.size,2,none⟩=false/\w'.frozen? ⟨w.heap.size,3,none⟩=false/\w'.frozen? ⟨w.heap.size,4,none⟩=false/\w'.frozen? ⟨w.heap.size,5,none⟩=false/\w'.frozen? ⟨w.heap.size,6,none⟩=false/\w'.frozen? ⟨w.heap.size,7,none⟩=false/\w'.frozen? ⟨w.heap.size,8,none⟩=false/\w'.cell? ⟨w.heap.size,0,none⟩=some (rv w' w.heap.size 0)/\w'.cell? ⟨w.heap.size,1,none⟩=some (rv w' w.heap.size 1)/\w'.cell? ⟨w.heap.size,2,none⟩=some (rv w' w.heap.size 2)/\w'.cell? ⟨w.heap.size,3,none⟩=some (rv w' w.heap.size 3)/\w'.cell? ⟨w.heap.size,4,none⟩=some (rv w' w.heap.size 4)/\w'.cell? ⟨w.heap.size,5,none⟩=some (rv w' w.heap.size 5)/\w'.cell? ⟨w.heap.size,6,none⟩=some (rv w' w.heap.size 6)/\w'.cell? ⟨w.heap.size,7,none⟩=some (rv w' w.heap.size 7)/\w'.cell? ⟨w.heap.size,8,none⟩=some (rv w' w.heap.size 8)) ((refine KS.out _ ?_;(with_reducible (repeat(first | assumption | apply Abx.drew | apply Abx.set | (refine Abx.call ?_ (by assumption)))));done)) ((go_at_call 182;refine(X.out _).mono ?_;rintro e w3 ⟨rfl,b3⟩))
   have A2:=A0'.drew.call b3
   clear KS A0' X
   go_wp2
   refine bodyPost_ret ?_ rfl ⟨rfl,?_⟩
   ·exact results_cell_row results141 _ _ w.heap.size _ _ (0,0) _ rfl (set9 A2) underlying186 rfl (by kernel_rfl)
   ·exact(((((((((A2.set 0 _).set 1 _).set 2 _).set 3 _).set 4 _).set 5 _).set 6 _).set 7 _).set 8 _).ab (AW.out.trans A9'.out) (Nat.le_refl _)
end
section
open Go.RowKit Cu
def app(X Y Z p:P3):P3:=pl (pl (sc p.1 X) (sc p.2.1 Y)) (sc p.2.2 Z)
theorem of_at(X Y Z p:P3)(w:World)(hX:Un X)(hY:Un Y)(hZ:Un Z)(hp:(-1000<=p.1/\p.1<=1000)/\(-1000<=p.2.1/\p.2.1<=1000)/\(-1000<=p.2.2/\p.2.2<=1000)):
  Calls prog 143 #[.agg #[.int .i64 X.1,.int .i64 X.2.1,.int .i64 X.2.2,.int .i64 Y.1,.int .i64 Y.2.1,.int .i64 Y.2.2,.int .i64 Z.1,.int .i64 Z.2.1,.int .i64 Z.2.2],.agg #[.int .i64 p.1,.int .i64 p.2.1,.int .i64 p.2.2]] w fun e w'=>e=.returned (.agg #[.int .i64 (app X Y Z p).1,.int .i64 (app X Y Z p).2.1,.int .i64 (app X Y Z p).2.2])/\Below w.heap.size w w':=by
 have S1:Sm (sc p.1 X):=kW hX (by omega)
 have S2:Sm (sc p.2.1 Y):=kW hY (by omega)
 have S3:Sm (sc p.2.2 Z):=kW hZ (by omega)
 have S4:Sm (pl (sc p.1 X) (sc p.2.1 Y)):=by
  have a1:=(cZ hX.1 1000 hp.1).1
  have a2:=(cZ hX.2.1 1000 hp.1).1
  have a3:=(cZ hX.2.2 1000 hp.1).1
  have b1:=(cZ hY.1 1000 hp.2.1).1
  have b2:=(cZ hY.2.1 1000 hp.2.1).1
  have b3:=(cZ hY.2.2 1000 hp.2.1).1
  simp only[Sm,pl,sc]
  omega
 have T1:=hid (fun u=>kX X p.1 u S1)
 have T2:=hid (fun u=>kX Y p.2.1 u S2)
 have T3:=hid (fun u=>kX Z p.2.2 u S3)
 have Q1:=hid (fun u=>jV (sc p.1 X) (sc p.2.1 Y) u S1 S2)
 have Q2:=hid (fun u=>jV (pl (sc p.1 X) (sc p.2.1 Y)) (sc p.2.2 Z) u S4 S3)
 clear S1 S2 S3 S4 hX hY hZ hp
 go_enter func143,ntmps143
 go_upto_region 1 with fail
 generalize hW:World.alloc _ _=W
 have AW:Hid (Ab w W):=by rw[<- hW];exact bl3 _ _ _ _
 have r2:W.heap[w.heap.size]? =some (.cells #[.int .i64 X.1,.int .i64 X.2.1,.int .i64 X.2.2,.int .i64 Y.1,.int .i64 Y.2.1,.int .i64 Y.2.2,.int .i64 Z.1,.int .i64 Z.2.1,.int .i64 Z.2.2] 186):=by
  rw[<- hW,Below.heap_alloc _ _ _ (by simp;omega)];exact heap_alloc2_old _ _ _
 have r3:W.heap[w.heap.size+1]? =some (.cells #[.int .i64 p.1,.int .i64 p.2.1,.int .i64 p.2.2] 184):=by
  rw[<- hW,Below.heap_alloc _ _ _ (by simp)];exact heap_alloc2_new _ _ _
 have r4:W.heap[w.heap.size+1+1]? =some (.cells #[.int .i64 0,.int .i64 0,.int .i64 0] 184):=by rw[<- hW];exact cE _ _ _ _
 have KS:Hid (∀w',Abx W (w.heap.size+1+1) 3 184 w'->Abx W (w.heap.size+1+1) 3 184 w'/\w'.cell? ⟨w.heap.size,0,none⟩=some (.int .i64 X.1)/\w'.cell? ⟨w.heap.size,1,none⟩=some (.int .i64 X.2.1)/\w'.cell? ⟨w.heap.size,2,none⟩=some (.int .i64 X.2.2)/\w'.cell? ⟨w.heap.size,3,none⟩=some (.int .i64 Y.1)/\w'.cell? ⟨w.heap.size,4,none⟩=some (.int .i64 Y.2.1)/\w'.cell? ⟨w.heap.size,5,none⟩=some (.int .i64 Y.2.2)/\w'.cell? ⟨w.heap.size,6,none⟩=some (.int .i64 Z.1)/\w'.cell? ⟨w.heap.size,7,none⟩=some (.int .i64 Z.2.1)/\w'.cell? ⟨w.heap.size,8,none⟩=some (.int .i64 Z.2.2)/\w'.cell? ⟨w.heap.size+1,0,none⟩=some (.int .i64 p.1)/\w'.cell? ⟨w.heap.size+1,1,none⟩=some (.int .i64 p.2.1)/\w'.cell? ⟨w.heap.size+1,2,none⟩=some (.int .i64 p.2.2)/\w'.frozen? ⟨w.heap.size+1+1,0,none⟩=false/\w'.frozen? ⟨w.heap.size+1+1,1,none⟩=false/\w'.frozen? ⟨w.heap.size+1+1,2,none⟩=false/\w'.cell? ⟨w.heap.size+1+1,0,none⟩=some (rv w' (w.heap.size+1+1) 0)/\w'.cell? ⟨w.heap.size+1+1,1,none⟩=some (rv w' (w.heap.size+1+1) 1)/\w'.cell? ⟨w.heap.size+1+1,2,none⟩=some (rv w' (w.heap.size+1+1) 2)):=by
  intro w' hw
  have q2:=hw.heap (by omega) r2
  have q3:=hw.heap (by omega) r3
  exact⟨hw,aA 0 q2,aA 1 q2,aA 2 q2,aA 3 q2,aA 4 q2,aA 5 q2,aA 6 q2,aA 7 q2,aA 8 q2,aA 0 q3,aA 1 q3,aA 2 q3,hw.free 0,hw.free 1,hw.free 2,hw.some (by omega),hw.some (by omega),hw.some (by omega)⟩
 have A0:Abx W (w.heap.size+1+1) 3 184 W:=(Ab.refl W).x rfl r4
 clear r2 r3 r4 hW
 go_region_held3 (fun w'=>Abx W (w.heap.size+1+1) 3 184 w'/\w'.cell? ⟨w.heap.size,0,none⟩=some (.int .i64 X.1)/\w'.cell? ⟨w.heap.size,1,none⟩=some (.int .i64 X.2.1)/\w'.cell? ⟨w.heap.size,2,none⟩=some (.int .i64 X.2.2)/\w'.cell? ⟨w.heap.size,3,none⟩=some (.int .i64 Y.1)/\w'.cell? ⟨w.heap.size,4,none⟩=some (.int .i64 Y.2.1)/\w'.cell? ⟨w.heap.size,5,none⟩=some (.int .i64 Y.2.2)/\w'.cell? ⟨w.heap.size,6,none⟩=some (.int .i64 Z.1)/\w'.cell? ⟨w.heap.size,7,none⟩=some (.int .i64 Z.2.1)/\w'.cell? ⟨w.heap.size,8,none⟩=some (.int .i64 Z.2.2)/\w'.cell? ⟨w.heap.size+1,0,none⟩=some (.int .i64 p.1)/\w'.cell? ⟨w.heap.size+1,1,none⟩=some (.int .i64 p.2.1)/\w'.cell? ⟨w.heap.size+1,2,none⟩=some (.int .i64 p.2.2)/\w'.frozen? ⟨w.heap.size+1+1,0,none⟩=false/\w'.frozen? ⟨w.heap.size+1+1,1,none⟩=false/\w'.frozen? ⟨w.heap.size+1+1,2,none⟩=false/\w'.cell? ⟨w.heap.size+1+1,0,none⟩=some (rv w' (w.heap.size+1+1) 0)/\w'.cell? ⟨w.heap.size+1+1,1,none⟩=some (rv w' (w.heap.size+1+1) 1)/\w'.cell? ⟨w.heap.size+1+1,2,none⟩=some (rv w' (w.heap.size+1+1) 2)) ((refine KS.out _ ?_;(with_reducible (repeat(first | assumption | apply Abx.drew | apply Abx.set | (refine Abx.call ?_ (by assumption)))));done)) (first
  | (go_at_call_of 153 X;refine(T1.out _).mono ?_;rintro e w1 ⟨rfl,b1⟩)
  | (go_at_call_of 153 Y;refine(T2.out _).mono ?_;rintro e w2 ⟨rfl,b2⟩)
  | (go_at_call_of 153 Z;refine(T3.out _).mono ?_;rintro e w4 ⟨rfl,b4⟩)
  | (go_at_call_of 152 Z;refine(Q2.out _).mono ?_;rintro e w5 ⟨rfl,b5⟩)
  | (go_at_call 152;refine(Q1.out _).mono ?_;rintro e w3 ⟨rfl,b3⟩))
 have A2:=((((A0.drew.call b1).call b2).call b3).call b4).call b5
 clear KS A0
 go_wp2
 refine bodyPost_ret ?_ rfl ⟨rfl,?_⟩
 ·exact results_cell_row results143 _ _ (w.heap.size+1+1) _ _ (0,0) _ rfl (set3 A2) underlying184 rfl (by kernel_rfl)
 ·exact(((A2.set 0 _).set 1 _).set 2 _).ab AW.out (by omega)
theorem Un.le{p:P3}(h:Un p):(-1000<=p.1/\p.1<=1000)/\(-1000<=p.2.1/\p.2.1<=1000)/\(-1000<=p.2.2/\p.2.2<=1000):=by unfold Un at h;omega
end
section
open Go.RowKit Cu
theorem un_rX: ∀t<24,((-1<=(rX t).1/\(rX t).1<=1)/\(-1<=(rX t).2.1/\(rX t).2.1<=1)/\(-1<=(rX t).2.2/\(rX t).2.2<=1)):=by decide+kernel
theorem un_rY: ∀t<24,((-1<=(rY t).1/\(rY t).1<=1)/\(-1<=(rY t).2.1/\(rY t).2.1<=1)/\(-1<=(rY t).2.2/\(rY t).2.2<=1)):=by decide+kernel
theorem un_rZ: ∀t<24,((-1<=(rZ t).1/\(rZ t).1<=1)/\(-1<=(rZ t).2.1/\(rZ t).2.1<=1)/\(-1<=(rZ t).2.2/\(rZ t).2.2<=1)):=by decide+kernel
theorem turn_go(n c f i j t f2 i2 j2 q:Nat)(p r o:P3)(w:World)(hn:1<=n/\n<=32)(hf:f<6)(hi:i<n)(hj:j<n)(ht:t<24)(hf2:f2<6)(hi2:i2<n)(hj2:j2<n)(hq:q<4)(h:Fr w)
  (PL:Hid (∀w,Calls prog 139 #[.int .i64 n,.int .i64 c] w fun e w'=>e=.returned (.tuple #[.int .i64 f,.int .i64 i,.int .i64 j,.bool true])/\ ∃k,w'=w.drewN k))
  (hp:md n f i j=p) (hr:md n f2 i2 j2=r) (hpr:ro t p=r) (ho:wy f2 q=o) (hro:ro t (cR f)=o):
  Calls prog 96 #[.int .i64 n,.int .i64 t,.int .i64 c] w fun e w'=>e=.returned (.tuple #[.int .i64 (cN n f2 i2 j2),.int .i64 q])/\Below w.heap.size w w':=by
 have CT:Hid (∀w,Calls prog 140 #[.int .i64 t,.int .i64 24] w fun e w'=>e=.returned (.bool true)/\w'=w):=fun w=>by
  have:=lY t 24 w
  rwa [show inR t 24=true by rw[dK];omega]at this
 have RO:=hid (fun(u:World) (hu:Ab w u)=>vC t u ht (h.to hu))
 have MI:Hid (∀u,Ab w u->Calls prog 144 #[.int .i64 n,.int .i64 f,.int .i64 i,.int .i64 j] u fun e w'=>e=.returned (.agg #[.int .i64 p.1,.int .i64 p.2.1,.int .i64 p.2.2])/\Below u.heap.size u w'):=fun u hu=>by
  rw[<- hp];exact vT n f i j u (by omega) hf (by omega) (by omega) (h.to hu)
 have hm:=md_le hf hi hj hn.2
 rw[hp]at hm
 have OF:Hid (∀u,Calls prog 143 #[.agg #[.int .i64 (rX t).1,.int .i64 (rX t).2.1,.int .i64 (rX t).2.2,.int .i64 (rY t).1,.int .i64 (rY t).2.1,.int .i64 (rY t).2.2,.int .i64 (rZ t).1,.int .i64 (rZ t).2.1,.int .i64 (rZ t).2.2],.agg #[.int .i64 p.1,.int .i64 p.2.1,.int .i64 p.2.2]] u fun e w'=>e=.returned (.agg #[.int .i64 r.1,.int .i64 r.2.1,.int .i64 r.2.2])/\Below u.heap.size u w'):=fun u=>by
  rw[<- hpr];exact of_at (rX t) (rY t) (rZ t) p u (un_rX t ht) (un_rY t ht) (un_rZ t ht) (by omega)
 have UN:Hid (∀u,Ab w u->Calls prog 142 #[.int .i64 n,.agg #[.int .i64 r.1,.int .i64 r.2.1,.int .i64 r.2.2]] u fun e w'=>e=.returned (.tuple #[.int .i64 f2,.int .i64 i2,.int .i64 j2])/\Below u.heap.size u w'):=fun u hu=>Ag n f2 i2 j2 r u hn hf2 hi2 hj2 hr (h.to hu)
 have CE:=hid (fun u=>yB n f2 i2 j2 u)
 have WY:Hid (∀u,Ab w u->Calls prog 147 #[.int .i64 f,.int .i64 0] u fun e w'=>e=.returned (.agg #[.int .i64 (cR f).1,.int .i64 (cR f).2.1,.int .i64 (cR f).2.2])/\Below u.heap.size u w'):=fun u hu=>C9 f 0 u hf (by omega) (h.to hu)
 have OE:Hid (∀u,Calls prog 143 #[.agg #[.int .i64 (rX t).1,.int .i64 (rX t).2.1,.int .i64 (rX t).2.2,.int .i64 (rY t).1,.int .i64 (rY t).2.1,.int .i64 (rY t).2.2,.int .i64 (rZ t).1,.int .i64 (rZ t).2.1,.int .i64 (rZ t).2.2],.agg #[.int .i64 (cR f).1,.int .i64 (cR f).2.1,.int .i64 (cR f).2.2]] u fun e w'=>e=.returned (.agg #[.int .i64 o.1,.int .i64 o.2.1,.int .i64 o.2.2])/\Below u.heap.size u w'):=fun u=>by
  rw[<- hro];exact of_at (rX t) (rY t) (rZ t) (cR f) u (un_rX t ht) (un_rY t ht) (un_rZ t ht) (un_R hf).le
 have SD:Hid (∀u,Ab w u->Calls prog 146 #[.int .i64 f2,.agg #[.int .i64 o.1,.int .i64 o.2.1,.int .i64 o.2.2]] u fun e w'=>e=.returned (.int .i64 q)/\Below u.heap.size u w'):=fun u hu=>vU f2 q o u hf2 hq ho (h.to hu)
 clear hm hp hr hpr ho hro h
 go_enter func96,ntmps96
 go_upto_region 4 with(first
  | (go_at_call 139;refine(PL.out _).mono ?_;rintro e w' ⟨rfl,k,rfl⟩)
  | (go_at_call 140;refine(CT.out _).mono ?_;rintro e w' ⟨rfl,rfl⟩))
 have A1:Ab w (w.drewN k):=(Ab.refl w).drewN k
 go_wp2_with fail
 refine(RO.out _ A1).mono ?_
 rintro e w1 ⟨rfl,b1⟩
 have A2:=hid (A1.call b1)
 clear b1 A1 PL CT RO
 go_upto_region 5 with fail
 generalize hW:World.alloc w1 _=W
 obtain⟨g,hg⟩:=aD w1.heap.size
 have r12:W.heap[g]? =some (.cells #[.int .i64 (rX t).1,.int .i64 (rX t).2.1,.int .i64 (rX t).2.2,.int .i64 (rY t).1,.int .i64 (rY t).2.1,.int .i64 (rY t).2.2,.int .i64 (rZ t).1,.int .i64 (rZ t).2.1,.int .i64 (rZ t).2.2] 186):=by rw[<- hW,<- hg];exact heap_alloc_new _ _
 have A3:Ab w W:=by rw[<- hW];exact A2.out.alloc _
 rw[hg]
 clear hW hg A2
 obtain⟨U,F,hF1,hF2⟩:=cls W
 have HF:=hid hF2
 have HF1:=hid hF1
 have x0: ∀u,(F u).cell? ⟨g,0,none⟩=some (.int .i64 (rX t).1):=fun u=>aA 0 ((hF1 u).heap r12)
 have x1: ∀u,(F u).cell? ⟨g,1,none⟩=some (.int .i64 (rX t).2.1):=fun u=>aA 1 ((hF1 u).heap r12)
 have x2: ∀u,(F u).cell? ⟨g,2,none⟩=some (.int .i64 (rX t).2.2):=fun u=>aA 2 ((hF1 u).heap r12)
 have x3: ∀u,(F u).cell? ⟨g,3,none⟩=some (.int .i64 (rY t).1):=fun u=>aA 3 ((hF1 u).heap r12)
 have x4: ∀u,(F u).cell? ⟨g,4,none⟩=some (.int .i64 (rY t).2.1):=fun u=>aA 4 ((hF1 u).heap r12)
 have x5: ∀u,(F u).cell? ⟨g,5,none⟩=some (.int .i64 (rY t).2.2):=fun u=>aA 5 ((hF1 u).heap r12)
 have x6: ∀u,(F u).cell? ⟨g,6,none⟩=some (.int .i64 (rZ t).1):=fun u=>aA 6 ((hF1 u).heap r12)
 have x7: ∀u,(F u).cell? ⟨g,7,none⟩=some (.int .i64 (rZ t).2.1):=fun u=>aA 7 ((hF1 u).heap r12)
 have x8: ∀u,(F u).cell? ⟨g,8,none⟩=some (.int .i64 (rZ t).2.2):=fun u=>aA 8 ((hF1 u).heap r12)
 have MI':=hid (fun u=>MI.out (F u) (A3.trans (hF1 u)))
 have UN':=hid (fun u=>UN.out (F u) (A3.trans (hF1 u)))
 have WY':=hid (fun u=>WY.out (F u) (A3.trans (hF1 u)))
 have SD':=hid (fun u=>SD.out (F u) (A3.trans (hF1 u)))
 have D:=HF.out _ (Ab.refl W).drew
 have D2:=hid (fun u=>HF.out _ (hF1 u).drew)
 have A3':=hid A3
 clear hF1 hF2 r12 MI UN WY SD A3
 refine aP F (by kernel_rfl) (by kernel_rfl) D ?_
 repeat(go_big_quiet_step (first
  | rfl
  | (go_at_call 144;exact aH HF HF1 (MI'.out _))
  | (go_at_call 143;exact aH HF HF1 (OF.out _))
  | (go_at_call 142;exact aH HF HF1 (UN'.out _))))
 refine wpQuiet_nil ?_
 intro wz hwz
 obtain⟨u,rfl⟩:=hwz
 clear MI' OF UN'
 go_wp2_with fail
 refine aP F (by kernel_rfl) (by kernel_rfl) (D2.out u) ?_
 repeat(go_big_quiet_step (first
  | rfl
  | (go_at_call 145;exact(CE.out _).mono (fun _ _ ⟨he,hw⟩=>⟨he,_,hw⟩))
  | (go_at_call 147;exact aH HF HF1 (WY'.out _))
  | (go_at_call 143;exact aH HF HF1 (OE.out _))
  | (go_at_call 146;exact aH HF HF1 (SD'.out _))))
 refine wpQuiet_nil ?_
 intro wz hwz
 obtain⟨v,rfl⟩:=hwz
 go_wp2
 go_ret2
 exact⟨rfl,A3'.out.trans (HF1.out v)⟩
end
section
open Go.RowKit Cu
theorem rJ{n:Nat}(hn:1<=n/\n<=32):clN n=(6*n*n:Nat):=by
 unfold clN
 rw[if_pos (by omega)]
 simp
theorem nX(n c:Nat)(hn:1<=n/\n<=32)(hc:c<6*n*n)(w:World):
  Calls prog 139 #[.int .i64 n,.int .i64 c] w fun e w'=>e=.returned (.tuple #[.int .i64 (cf n c),.int .i64 (ci n c),.int .i64 (cj n c),.bool true])/\ ∃k,w'=w.drewN k:=by
 have h:=place_at n c w
 have hin:inR c (clN n)=true:=by rw[dK,rJ hn];omega
 rw[hin,show pF n c=(cf n c:Nat)by simp[pF,hin,cf],show pI n c=(ci n c:Nat)by simp[pI,hin,ci],show pJ n c=(cj n c:Nat)by simp[pJ,hin,cj]]at h
 exact h
theorem yC{n f i j:Nat}(hn:1<=n/\n<=32)(hf:f<6)(hi:i<n)(hj:j<n):cN n f i j=(nm n f i j:Nat):=by
 unfold cN
 rw[if_pos ⟨by omega,by rw[dK];omega,by rw[dK];omega,by rw[dK];omega⟩]
 simp[nm]
theorem sm_100{p:P3}(h:(-100<=p.1/\p.1<=100)/\(-100<=p.2.1/\p.2.1<=100)/\(-100<=p.2.2/\p.2.2<=100)):Sm p:=by unfold Sm;omega
theorem sm_pl{p q:P3}(h:(-100<=p.1/\p.1<=100)/\(-100<=p.2.1/\p.2.1<=100)/\(-100<=p.2.2/\p.2.2<=100))(k:Un q):Sm (pl p q):=by unfold Un at k;simp only[Sm,pl];omega
theorem vW(n c s:Nat)(w:World)(hn:1<=n/\n<=32)(hc:c<6*n*n)(hs:s<4)(h:Fr w):
  Calls prog 103 #[.int .i64 n,.int .i64 c,.int .i64 s] w fun e w'=>e=.returned (.tuple #[.int .i64 (bsC n c s),.int .i64 (bsS n c s)])/\Below w.heap.size w w':=by
 obtain⟨h1,h2,h3,h4⟩:=fL hn.1 hc
 have hm:=md_le h1 h2 h3 hn.2
 have he:=at_ah (s:=s) hs h2 h3
 have hl:=Ad (s:=s) h2 h3
 have hms:md n (cf n c) (ci n c) (cj n c)=ms n (cf n c) s (ah n s (ci n c) (cj n c)) (lf n s (ci n c) (cj n c)):=by
  have:=vP (f:=cf n c) h1 hs hl.1 hl.2
  rwa [he.1,he.2]at this
 obtain⟨d1,d2⟩:=Fj (n:=n) (a:=ah n s (ci n c) (cj n c)) (b:=lf n s (ci n c) (cj n c)) h1 hs
 rw[<- hms]at d1 d2
 obtain⟨w1,w2⟩:=nQ _ h1 s hs
 have PL:=hid (nX n c hn hc)
 by_cases ha:ah n s (ci n c) (cj n c)+1<n
 ·have k:=nR (s:=s) ha hl.2
  have hr:=vP (f:=cf n c) h1 hs ha hl.2
  have:=vV n c (cf n c) (ci n c) (cj n c) s (cf n c) _ _ ((s+2)%4) _ _ _ _ _ w hn h1 hs h1 k.1 k.2 (by omega) h2 h3 h PL rfl rfl d1 (sm_100 hm) (sm_pl hm (vS h1)) hr rfl
   (Or.inl ⟨by omega,d2,w1⟩)
  rw[yC hn h1 k.1 k.2]at this
  unfold bsC bsS
  rw[if_pos ha,if_pos ha]
  exact this
 ·obtain⟨n1,n2⟩:=vO _ h1 s hs
  have h0:0<n:=by omega
  have k:=nR (s:=ns (cf n c) s) h0 hl.2
  have hr:=vP n1 n2 h0 hl.2
  have hedge:=Fk (n:=n) (a:=ah n s (ci n c) (cj n c)) (b:=lf n s (ci n c) (cj n c)) h1 hs (by omega)
  rw[<- hms]at hedge
  have:=vV n c (cf n c) (ci n c) (cj n c) s (nf (cf n c) s) _ _ ((ns (cf n c) s+2)%4) _ _ _ _ _ w hn h1 hs n1 k.1 k.2 (by omega) h2 h3 h PL rfl rfl d1 (sm_100 hm) (sm_pl hm (vS h1)) hr rfl
   (Or.inr ⟨by omega,hedge,w2⟩)
  rw[yC hn n1 k.1 k.2]at this
  unfold bsC bsS
  rw[if_neg ha,if_neg ha]
  exact this
theorem Ft(n t c:Nat)(w:World)(hn:1<=n/\n<=32)(hc:c<6*n*n)(ht:t<24)(h:Fr w):
  Calls prog 96 #[.int .i64 n,.int .i64 t,.int .i64 c] w fun e w'=>e=.returned (.tuple #[.int .i64 (tnC n t c),.int .i64 (tnS n t c)])/\Below w.heap.size w w':=by
 obtain⟨h1,h2,h3,h4⟩:=fL hn.1 hc
 obtain⟨t1,t2⟩:=mV t ht _ h1
 have k:=nR (s:=tq t (cf n c)) h2 h3
 have:=turn_go n c (cf n c) (ci n c) (cj n c) t (tf t (cf n c)) _ _ (tq t (cf n c)) _ _ _ w hn h1 h2 h3 ht t1 k.1 k.2 t2 h (hid (nX n c hn hc)) rfl rfl (ro_md ht h1 h2 h3) rfl (C6 t ht _ h1).2.1
 rw[yC hn t1 k.1 k.2]at this
 exact this
theorem Hi(n:Nat)(hn:1<=n/\n<=32)(w:World):Calls prog 41 #[.int .i64 n] w fun e w'=>e=.returned (.int .i64 (6*n*n:Nat))/\w'=w:=by
 rw[<- rJ hn];exact kY n w
end
section
open Go.RowKit Cu
def GE(B n T gb mb:Nat)(es v3 v4 v5 v6:Value)(w:World):Prop:=
 w.heap[gb]? =some (.cells #[.int .i64 n,es,.map (some mb),v3,v4,v5,v6] 88)/\w.ownsRow B 116 4 es (eN n T) (edL n T)/\MapIs w mb (2*T) (gT n T)/\(B<=gb/\B<=mb/\gb≠mb)/\es.ownBlock≠some gb/\es.ownBlock≠some mb
theorem GE.to{B n T gb mb:Nat}{es v3 v4 v5 v6:Value}{w w':World}(h:GE B n T gb mb es v3 v4 v5 v6 w)(a:Ab w w'):GE B n T gb mb es v3 v4 v5 v6 w':=by
 obtain⟨h1,h2,h3,h4,h5⟩:=h
 refine⟨a.heap h1,?_,h3.block (Below.block a _ h3.lt),h4,h5⟩
 exact h2.kept (row:=none) ⟨Below.os a,Below.tape a,Below.output a,Below.size a,fun k hk _=>Below.block a k hk⟩ (by cases es.ownBlock<;>simp)
theorem GE.cells{B n T gb mb:Nat}{es v3 v4 v5 v6:Value}{w:World}(h:GE B n T gb mb es v3 v4 v5 v6 w):
  w.cell? ⟨gb,0,none⟩=some (.int .i64 n)/\w.cell? ⟨gb,1,none⟩=some es/\w.cell? ⟨gb,2,none⟩=some (.map (some mb))/\w.frozen? ⟨gb,1,none⟩=false:=
 ⟨aA 0 h.1,aA 1 h.1,aA 2 h.1,aE h.1 1⟩
theorem GE.sl{B n T gb mb:Nat}{es v3 v4 v5 v6:Value}{w:World}(h:GE B n T gb mb es v3 v4 v5 v6 w): ∃a0 cap,es=.slice a0 (eN n T) cap:=by
 rcases h.2.1.2 with⟨rfl,h0⟩ | ⟨g,cap,cur,rfl,_⟩
 ·exact⟨none,0,by rw[h0]⟩
 ·exact⟨_,cap,rfl⟩
theorem GE.maps{B n T gb mb:Nat}{es v3 v4 v5 v6:Value}{w1 w2 w3:World}(h:GE B n T gb mb es v3 v4 v5 v6 w1)(g1:w1.grownBy w2 (some mb))(g2:w2.grownBy w3 (some mb)):
  w3.heap[gb]? =some (.cells #[.int .i64 n,es,.map (some mb),v3,v4,v5,v6] 88)/\w3.ownsRow B 116 4 es (eN n T) (edL n T):=by
 obtain⟨h1,h2,h3,h4,h5⟩:=h
 have g:=g1.trans g2
 exact⟨(g.block gb (lt_of_block h1) (by simp;omega)).trans h1,h2.kept g (.inr h5.2)⟩
theorem sG{w w':World}{r:Option Nat}(h:w.drew.grownBy w' r):w.grownBy w' r:=⟨h.os,h.tape,h.output,h.size,h.block⟩
theorem Hj{w:World}{B:Nat}{e:TypeId}{sz k:Nat}{v:Value}{xs:List Value}(h:w.ownsRow B e sz v k xs): ∃a0 cap,v=.slice a0 k cap:=by
 rcases h.2 with⟨rfl,h0⟩ | ⟨g,cap,cur,rfl,_⟩
 ·exact⟨none,0,by rw[h0]⟩
 ·exact⟨_,cap,rfl⟩
theorem Hk{w3 w5:World}{o o':Obj}{gb:Nat}{v:Value}(h:w3.heap[gb]? =some o)(hne:v.ownBlock≠some gb)(hg:(w3.alloc o').grownBy w5 v.ownBlock):w5.heap[gb]? =some o:=
 (hg.block gb (by have:=lt_of_block h;simp;omega) (fun e=>hne e.symm)).trans ((Below.heap_alloc _ _ _ (lt_of_block h)).trans h)
theorem vD(w:World)(a b c d:Value)(t:TypeId): ∀j u,[a,b,c,d][j]? =some u->(w.alloc (.cells #[a,b,c,d] t)).cell? ((⟨w.heap.size,0,none⟩:Addr).add j)=some u:=by
 intro j u hj
 have ha:(⟨w.heap.size,0,none⟩:Addr).add j=⟨w.heap.size,j,none⟩:=by unfold Addr.add;split<;>simp_all
 rw[ha,cell_of_row _ _ j _ _ (0,0) (heap_alloc_new w _)]
 simpa using hj
theorem GE.next{B n T gb mb:Nat}{es v v3 v4 v5 v6:Value}{o':Obj}{w1 w3 w5:World}(hn:1<=n)(hT:T<24*n*n)(hl:isL n T=true)(G:GE B n T gb mb es v3 v4 v5 v6 w1)(hm:w1.grownBy w3 (some mb))(hg:(w3.alloc o').grownBy w5 es.ownBlock)
  (R5:w5.heap[gb]? =some (.cells #[.int .i64 n,es,.map (some mb),v3,v4,v5,v6] 88)) (ho:w5.ownsRow B 116 4 v (eN n T+1) (edL n T++edV n T)) (hat:v.ownBlock=es.ownBlock\/v.ownBlock=some (w3.alloc o').heap.size)
  (M:MapIs w3 mb (2*T+1+1) (fun c s=>if c=(bsC n (T/4) (T%4):Nat)/\s=(bsS n (T/4) (T%4):Nat)then(((eN n T:Nat):Int),-1)else if c=(T/4:Nat)/\s=(T%4:Nat)then(((eN n T:Nat):Int),1)else gT n T c s)):
  GE B n (T+1) gb mb v v3 v4 v5 v6 (w5.setCell ⟨gb,1,none⟩ v):=by
 obtain⟨g1,g2,g3,g4,g5,g6⟩:=G
 have l1:=lt_of_block g1
 have l3:=hm.size
 have lm:=M.lt
 have ne1:v.ownBlock≠some gb:=by
  rcases hat with h | h
  ·rw[h];exact g5
  ·rw[h];simp;omega
 have ne2:v.ownBlock≠some mb:=by
  rcases hat with h | h
  ·rw[h];exact g6
  ·rw[h];simp;omega
 have gs:w5.grownBy (w5.setCell ⟨gb,1,none⟩ v) (some gb):=⟨rfl,rfl,rfl,by simp[World.setCell],fun k _ hk=>Below.heap_setCell _ _ _ _ (by simpa using hk)⟩
 refine⟨?_,?_,?_,g4,ne1,ne2⟩
 ·have:=aJ (v:=v) (k:=1) R5
  simpa using this
 ·have h:=ho.kept gs (.inr ne1)
  rw[<- rH hl,<- nU hl]at h
  exact h
 ·have e:(w5.setCell ⟨gb,1,none⟩ v).heap[mb]? =w3.heap[mb]? :=
   (gs.block mb (by have:=hg.size;simp at this;omega) (by simp;omega)).trans ((hg.block mb (by simp;omega) (fun e=>g6 e.symm)).trans (Below.heap_alloc _ _ _ lm))
  have h:=(M.block e).congr (fun c s _ _=>gT_step hn hT hl c s)
  exact h.mono (by omega)
theorem infoEdge:(Tryz.prog.info? 116).map (fun i=>(i.zero,i.size,i.bytes))=some (some (.agg #[.int .i64 0,.int .i64 0,.int .i64 0,.int .i64 0]),4,32):=by kernel_rfl
theorem Ai(n N gb mb:Nat)(v3 v4 v5 v6:Value)(w0 w:World)(hn:1<=n/\n<=32)(hN:N=6*n*n)(hF:Fr w0)(A:Ab w0 w)(G:GE w0.heap.size n 0 gb mb (.slice none 0 0) v3 v4 v5 v6 w):
  Calls prog 47 #[.pointer (some ⟨gb,0,none⟩),.int .i64 N] w fun e w'=>e=.returned (.tuple #[])/\Ab w0 w'/\ ∃es,GE w0.heap.size n (24*n*n) gb mb es v3 v4 v5 v6 w':=by
 have HF:=hid hF
 have HG:=hid G
 have HA:=hid A
 have HN:=hid hN
 have HL:Hid (N<=6144):=by
  show N<=6144
  rw[hN,Nat.mul_assoc]
  have:=Nat.mul_le_mul hn.2 hn.2
  omega
 have HE:Hid (24*n*n=4*N):=by
  show 24*n*n=4*N
  rw[hN,show 24=4*6 from rfl,Nat.mul_assoc 4 6 n,Nat.mul_assoc 4 (6*n) n]
 obtain⟨i0,hi,hz0,hz1,hz2⟩:=info_parts infoEdge
 have HI:=hid (And.intro hi (And.intro hz0 (And.intro hz1 hz2)))
 have Hn:=hid hn
 clear hF G A hN hi hz0 hz1 hz2 hn
 have hN':(N:Int)<=6144:=by have:=HL.out;omega
 go_enter func47,ntmps47
 go_wp2
 go_loopw [9] (fun iv wr=> ∃c:Nat,c<=N/\iv=.int .i64 (c:Nat)/\Ab w0 wr/\ ∃es,GE w0.heap.size n (4*c) gb mb es v3 v4 v5 v6 wr) (fun iv _=>N - (intOf iv).toNat)
 case atStart=>exact⟨0,by omega,rfl,HA.out,_,HG.out⟩
 case round=>
  obtain⟨c,hc,rfl,A,es,G⟩:=hrel
  have A1:=hid A
  have G1:=hid G
  clear A G HG HA
  by_cases hcN:c<N
  ·have hcN':(c:Int)<N:=by omega
   go_wp2
   go_loopw [12] (fun iv wr=> ∃s:Nat,s<=4/\iv=.int .i64 (s:Nat)/\Ab w0 wr/\ ∃es,GE w0.heap.size n (4*c+s) gb mb es v3 v4 v5 v6 wr) (fun iv _=>4 - (intOf iv).toNat)
   case atStart=>exact⟨0,by omega,rfl,A1.out,es,G1.out⟩
   case round=>
    clear A1 G1
    obtain⟨s,hs,rfl,A,es',G⟩:=hrel
    by_cases hs4:s<4
    ·have hs4':(s:Int)<4:=by omega
     obtain⟨a0,cap,rfl⟩:=G.sl
     obtain⟨c0,c1,c2,c3⟩:=G.cells
     have hc6:c<6*n*n:=by rw[<- HN.out];exact hcN
     have BE:=hid (vW n c s wr Hn.out hc6 hs4 (HF.out.to A))
     have AA:=hid A
     have GG:=hid G
     have HT:=hid (fT hc6 hs4)
     obtain⟨d6,b4⟩:=vQ Hn.out.1 hc6 hs4
     have hd6:bsC n c s<6144:=by have:=HL.out;rw[HN.out]at this;omega
     have hT4:=hid (nT (c:=c) hs4)
     have hlis:Hid (isL n (4*c+s)=decide (c<bsC n c s)):=by show isL n (4*c+s)=_;unfold isL;rw[hT4.out.1,hT4.out.2]
     have hKle:Hid (eN n (4*c+s)<=12*n*n):=by
      have:=Fo (n:=n) (Nat.le_of_lt HT.out);rw[xW Hn.out.1]at this;exact this
     have hKb:eN n (4*c+s)<=12288:=by
      have h1:=hKle.out;have h2:=HE.out;have h3:=HL.out
      have:2*(12*n*n)=24*n*n:=by rw[show 24=2*12 from rfl,Nat.mul_assoc 2 12 n,Nat.mul_assoc 2 (12*n) n]
      omega
     obtain⟨d,hd⟩:=aD (bsC n c s)
     obtain⟨b,hb⟩:=aD (bsS n c s)
     obtain⟨K,hK⟩:=aD (eN n (4*c+s))
     rw[hd,hb]at BE
     rw[hd]at hlis d6 hd6
     rw[hb]at b4
     rw[hK]at hKb c1
     have GG':Hid (GE w0.heap.size n (4*c+s) gb mb (.slice a0 K cap) v3 v4 v5 v6 wr):=by rw[<- hK];exact GG.out
     have HD:=hid (And.intro hd (And.intro hb hK))
     clear A G GG hd hb hK hKle hc6
     go_wp2_with fail
     refine BE.out.mono ?_
     rintro e w1 ⟨rfl,b1⟩
     have A2:Hid (Ab w0 w1):=AA.out.call b1
     have G2:Hid (GE w0.heap.size n (4*c+s) gb mb (.slice a0 K cap) v3 v4 v5 v6 w1):=GG'.out.to b1
     clear c0 c1 c2 c3 AA GG' b1 BE
     by_cases hl:c<d
     ·have hl':(c:Int)<d:=by omega
      have hisL:Hid (isL n (4*c+s)=true):=by show _=_;rw[hlis.out];simp[hl]
      obtain⟨w2,hu1,M1,g1⟩:=(G2.out.2.2.1.block (w':=w1.drew) rfl).upd (c:=c) (s:=s) (x:=K) (y:=1) (by have:=HL.out;have:=HT.out;have:=HE.out;omega) (by unfold W64;have:=HL.out;omega) (by unfold W64;omega)
      obtain⟨w3,hu2,M2,g2⟩:=(M1.block (w':=w2.drew) rfl).upd (c:=d) (s:=b) (x:=K) (y:= -1) (by have:=HL.out;have:=HT.out;have:=HE.out;omega) (by unfold W64;omega) (by unfold W64;omega)
      replace g1:=sG g1
      replace g2:=sG g2
      obtain⟨c0,c1,c2,c3⟩:=G2.out.cells
      have GM:=hid (G2.out.maps g1 g2)
      have d1:w2.cell? ⟨gb,1,none⟩=some (.slice a0 K cap):=g1.cell c1 (by have:=G2.out.2.2.2.1.2.2;simp;omega)
      have d2:w2.cell? ⟨gb,2,none⟩=some (.map (some mb)):=g1.cell c2 (by have:=G2.out.2.2.2.1.2.2;simp;omega)
      have M2':=hid M2
      have g12:=hid (And.intro g1 g2)
      clear M1 M2 g1 g2
      go_upto_region 8 with fail
      go_region
      go_upto_region 9 with fail
      go_region
      clear c0 c1 c2 c3 d1 d2 hu1 hu2
      have c1:w3.cell? ⟨gb,1,none⟩=some (.slice a0 K cap):=aA 1 GM.out.1
      have OW:Hid (w3.ownsRow w0.heap.size 116 4 (.slice a0 K cap) K (edL n (4*c+s))):=by have h:=GM.out.2;rw[HD.out.2.2]at h;exact h
      have A3:Hid (Ab w0 w3):=(A2.out.grown (g12.out.1.trans g12.out.2) (Ab.size A2.out) (fun k hk=>by cases hk;exact G2.out.2.2.2.1.2.1))
      obtain⟨hi,hz0,hz1,hz2⟩:=HI.out
      go_upto_region 10 with fail
      go_wp2_with (first
       | (at_builtin;refine wpList_append_own_at _ rfl _ _ 85 rfl w0.heap.size 116 i0 (.agg #[.int .i64 0,.int .i64 0,.int .i64 0,.int .i64 0]) 4 32 underlying85 hi hz0 hz1 hz2 rfl (by decide) _ _ _ rfl (OW.out.alloc _) ⟨w3.heap.size,0,none⟩ 1 1 [.int .i64 c,.int .i64 s,.int .i64 d,.int .i64 b] rfl rfl (vD _ _ _ _ _ _) (by simp[Value.oneCell']) (by unfold maxLen;omega) (by omega) (by have:=Ab.size A3.out;simp;omega) ?_;intro v' w5 ho hg _ hat;obtain⟨a1,cap1,rfl⟩:=Hj ho;have R5:=hid (Hk GM.out.1 G2.out.2.2.2.2.1 hg);have f1:=aE R5.out 1;have x1:=aA 1 R5.out;have HO:=hid (And.intro ho (And.intro hg hat));clear ho hg hat))
      go_roundw
      case rel=>
       have hT:=HT.out
       refine⟨s+1,by omega,by simp,?_,(.slice a1 (K+1) cap1),?_⟩
       ·exact Ab.setk (Below.grown (A3.out.alloc (.cells #[.int .i64 c,.int .i64 s,.int .i64 d,.int .i64 b] 116)) HO.out.2.1 (Ab.size (A3.out.alloc _)) (fun k hk=>(OW.out.lt k hk).1)) G2.out.2.2.2.1.1 _
       ·have e1:=hT4.out.1
        have e2:=hT4.out.2
        have e3:=HD.out
        have hed:edV n (4*c+s)=[.int .i64 c,.int .i64 s,.int .i64 d,.int .i64 b]:=by unfold edV;rw[e1,e2,e3.1,e3.2.1]
        refine GE.next (T:=4*c+s) Hn.out.1 hT hisL.out G2.out (g12.out.1.trans g12.out.2) HO.out.2.1 R5.out ?_ HO.out.2.2 ?_
        ·rw[hed,e3.2.2];exact HO.out.1
        ·rw[e1,e2,e3.1,e3.2.1,e3.2.2];exact M2'.out
      case measure=>simp[intOf];omega
     ·have hl': ¬(c:Int)<d:=by omega
      have hisL:Hid (isL n (4*c+s)=false):=by show _=_;rw[hlis.out];simp[hl]
      go_wp2
      go_roundw
      case rel=>
       refine⟨s+1,by omega,by simp,A2.out,(.slice a0 K cap),?_⟩
       have g:=G2.out
       have hh:=hisL.out
       show GE w0.heap.size n (4*c+s+1) gb mb (.slice a0 K cap) v3 v4 v5 v6 w1
       exact⟨g.1,by rw[xX hh,sF hh];exact g.2.1,(g.2.2.1.congr (fun c' s' _ _=>gT_stay Hn.out.1 hh c' s')).mono (by omega),g.2.2.2⟩
      case measure=>simp[intOf];omega
    ·obtain rfl:s=4:=by omega
     have AA:=hid A
     have GG:=hid G
     clear A G
     go_wp2
     go_roundw
     case rel=>exact⟨c+1,by omega,by simp,AA.out,_,GG.out⟩
     case measure=>simp[intOf];omega
  ·obtain rfl:c=N:=by omega
   go_wp2
   go_end0
   exact⟨rfl,A1.out,es,by rw[HE.out];exact G1.out⟩
end
namespace Tf
def rne(n g:Nat):Nat:=n/g+(if g<2*(n%g)\/(g=2*(n%g)/\n/g%2=1)then 1 else 0)
theorem pow_pos(k:Nat):0<2 ^ k:=Nat.two_pow_pos k
theorem Fu(d:Nat):1 <<< d=2 ^ d:=by rw[Nat.shiftLeft_eq,Nat.one_mul]
theorem sH(neg:Bool)(n d:Nat):Ieee.Toward.even.cut neg n d=rne n (2 ^ d):=by
 unfold Ieee.Toward.cut rne
 simp only[Fu]
 by_cases h:d<=n.log2+2
 ·rw[Nat.min_eq_left h]
  by_cases a:2 ^ d<2*(n%2 ^ d)
  ·simp[a]
  ·by_cases b:2 ^ d=2*(n%2 ^ d)
   ·by_cases c:n/2 ^ d%2=1
    ·simp[<- b,c]
    ·simp[<- b,c]
   ·simp[a,b]
 ·rw[Nat.min_eq_right (by omega)]
  have h1:n<2 ^ (n.log2+1):=Nat.lt_log2_self
  have h2:2 ^ (n.log2+2)=2*2 ^ (n.log2+1):=by rw[Nat.pow_succ];omega
  have h3:2 ^ (n.log2+2)<=2 ^ d:=Nat.pow_le_pow_right (by omega) (by omega)
  have q1:n/2 ^ (n.log2+2)=0:=Nat.div_eq_of_lt (by omega)
  have q2:n/2 ^ d=0:=Nat.div_eq_of_lt (by omega)
  have r1:n%2 ^ (n.log2+2)=n:=Nat.mod_eq_of_lt (by omega)
  have r2:n%2 ^ d=n:=Nat.mod_eq_of_lt (by omega)
  rw[q1,q2,r1,r2]
  have a1: ¬2 ^ (n.log2+2)<2*n:=by omega
  have a2: ¬2 ^ d<2*n:=by omega
  simp[a1,a2]
theorem yD(n:Nat):rne n 1=n:=by
 unfold rne;simp[Nat.mod_one]
theorem rne_mul(q g:Nat)(hg:0<g):rne (q*g) g=q:=by
 unfold rne
 rw[Nat.mul_mod_left,Nat.mul_div_cancel _ hg]
 have: ¬(g<2*0\/g=2*0/\q%2=1):=by omega
 rw[if_neg this];omega
theorem vX(n g c:Nat)(hc:0<c):rne (n*c) (g*c)=rne n g:=by
 unfold rne
 rw[Nat.mul_div_mul_right _ _ hc,Nat.mul_mod_mul_right]
 have e1:(g*c<2*(n%g*c)) ↔ g<2*(n%g):=by
  rw[<- Nat.mul_assoc];exact Nat.mul_lt_mul_right hc
 have e2:(g*c=2*(n%g*c)) ↔ g=2*(n%g):=by
  rw[<- Nat.mul_assoc];exact Nat.mul_left_inj (by omega)
 simp only[e1,e2]
def mag(p r:Nat):Nat:=if r<2 ^ p then r else(2 ^ p+r%2 ^ p)*2 ^ (r/2 ^ p - 1)
def rung(p d V:Nat):Nat:=(V.log2 - (p+d))*2 ^ p+rne V (2 ^ (V.log2 - (p+d)+d))
theorem yE(r g:Nat)(hg:0<g):((r+1)%g=r%g+1/\(r+1)/g=r/g)\/(r%g=g - 1/\(r+1)%g=0/\(r+1)/g=r/g+1):=by
 have h1:=Nat.div_add_mod r g
 have h2:=Nat.mod_lt r hg
 by_cases c:r%g+1<g
 ·left
  have e:r+1=(r%g+1)+g*(r/g):=by omega
  constructor
  ·rw[e,Nat.add_mul_mod_self_left,Nat.mod_eq_of_lt c]
  ·rw[e,Nat.add_mul_div_left _ _ hg,Nat.div_eq_of_lt c];omega
 ·right
  have e:r+1=g*(r/g+1):=by rw[Nat.mul_add];omega
  refine⟨by omega,?_,?_⟩
  ·rw[e,Nat.mul_mod_right]
  ·rw[e,Nat.mul_div_cancel_left _ hg]
def gap(p r:Nat):Nat:=2 ^ (r/2 ^ p - 1)
theorem rK(p r:Nat):0<gap p r:=pow_pos _
theorem kZ(p r:Nat):mag p (r+1)=mag p r+gap p r:=by
 have hp:=pow_pos p
 unfold mag gap
 by_cases h:r<2 ^ p
 ·rw[if_pos h,Nat.div_eq_of_lt h]
  by_cases h':r+1<2 ^ p
  ·rw[if_pos h']
  ·have e:r+1=2 ^ p:=by omega
   rw[if_neg h',e,Nat.mod_self,Nat.div_self hp];simp
 ·rw[if_neg h,if_neg (by omega)]
  have hk:1<=r/2 ^ p:=(Nat.le_div_iff_mul_le hp).2 (by omega)
  rcases yE r (2 ^ p) hp with⟨a,b⟩ | ⟨a,b,c⟩
  ·rw[a,b,<- Nat.add_assoc,Nat.add_mul _ 1,Nat.one_mul]
  ·rw[b,c,a]
   obtain⟨k,hk'⟩: ∃k,r/2 ^ p=k+1:=⟨r/2 ^ p - 1,by omega⟩
   rw[hk']
   simp only[Nat.add_sub_cancel,Nat.add_zero]
   rw[Nat.pow_succ 2 k]
   have:2 ^ p+(2 ^ p - 1)=2*2 ^ p - 1:=by omega
   rw[this,Nat.sub_mul,Nat.one_mul]
   have h1:2 ^ k<=2*2 ^ p*2 ^ k:=Nat.le_mul_of_pos_left _ (by omega)
   have h2:2 ^ p*(2 ^ k*2)=2*2 ^ p*2 ^ k:=by rw[Nat.mul_comm (2 ^ k) 2,<- Nat.mul_assoc,Nat.mul_comm (2 ^ p) 2]
   omega
theorem lA(p:Nat):mag p 0=0:=by unfold mag;rw[if_pos (pow_pos p)]
theorem nY{p r r':Nat}(h:r<r'):mag p r<mag p r':=by
 induction r' with
 | zero=>omega
 | succ n ih=>
  have:=rK p n
  rw[kZ]
  by_cases c:r=n
  ·subst c;omega
  ·have:=ih (by omega);omega
theorem jW{p r r':Nat}:mag p r<mag p r' ↔ r<r':=by
 constructor
 ·intro h
  by_cases c:r<r'
  ·exact c
  ·by_cases e:r=r'
   ·subst e;omega
   ·have:=nY (p:=p) (show r'<r by omega);omega
 ·exact nY
theorem mag_le{p r r':Nat}:mag p r<=mag p r' ↔ r<=r':=by
 have:= @jW p r' r
 omega
theorem Fv{p r r':Nat}:mag p r=mag p r' ↔ r=r':=by
 have:= @jW p r' r
 have:= @jW p r r'
 omega
theorem le_mag(p r:Nat):r<=mag p r:=by
 induction r with
 | zero=>omega
 | succ n ih=>have:=rK p n;rw[kZ];omega
theorem nZ{n k:Nat}(h:2 ^ k<=n)(h':n<2 ^ (k+1)):n.log2=k:=by
 have:n≠0:=by have:=pow_pos k;omega
 exact(Nat.log2_eq_iff this).2 ⟨h,h'⟩
theorem sJ{n k:Nat}(h:n<2 ^ (k+1)):n.log2<=k:=by
 by_cases c:n=0
 ·subst c;simp
 ·have:=(Nat.log2_lt c).2 h;omega
theorem eK(p d r V:Nat)(hp:1<=p)(h1:mag p r*2 ^ d<=V)(h2:V<mag p (r+1)*2 ^ d):
  rung p d V=if(mag p r+mag p (r+1))*2 ^ d<2*V\/((mag p r+mag p (r+1))*2 ^ d=2*V/\r%2=1)then r+1 else r:=by
 have hp0:=pow_pos p
 have hd0:=pow_pos d
 rw[kZ]at h2 ⊢
 have hg:=rK p r
 by_cases h:r<2 ^ p
 ·have em:mag p r=r:=by unfold mag;rw[if_pos h]
  have eg:gap p r=1:=by unfold gap;rw[Nat.div_eq_of_lt h]
  rw[em,eg]at h2 ⊢
  rw[em]at h1
  have hV:V<2 ^ (p+d):=by
   rw[Nat.pow_add]
   exact Nat.lt_of_lt_of_le h2 (Nat.mul_le_mul_right _ (by omega))
  have hl:V.log2 - (p+d)=0:=by
   obtain⟨q,hq⟩: ∃q,p+d=q+1:=⟨p+d - 1,by omega⟩
   rw[hq]at hV
   have:=sJ hV;omega
  have hq:V/2 ^ d=r:=Nat.div_eq_of_lt_le h1 h2
  have hm:=Nat.div_add_mod V (2 ^ d)
  rw[hq,Nat.mul_comm]at hm
  unfold rung
  rw[hl,Nat.zero_add,Nat.zero_mul,Nat.zero_add]
  unfold rne
  rw[hq]
  have e2:(r+(r+1))*2 ^ d=2*(r*2 ^ d)+2 ^ d:=by
   rw[<- Nat.add_assoc,Nat.add_mul,Nat.one_mul,Nat.add_mul];omega
  rw[e2]
  by_cases c:2 ^ d<2*(V%2 ^ d)\/(2 ^ d=2*(V%2 ^ d)/\r%2=1)
  ·rw[if_pos c,if_pos (by omega)]
  ·rw[if_neg c,if_neg (by omega)];rfl
 ·have hk:1<=r/2 ^ p:=(Nat.le_div_iff_mul_le hp0).2 (by omega)
  obtain⟨k,hk'⟩: ∃k,r/2 ^ p=k+1:=⟨r/2 ^ p - 1,by omega⟩
  have eg:gap p r=2 ^ k:=by unfold gap;rw[hk'];rfl
  have em:mag p r=(2 ^ p+r%2 ^ p)*2 ^ k:=by unfold mag;rw[if_neg h,hk'];rfl
  have hf:=Nat.mod_lt r hp0
  have hdm:=Nat.div_add_mod r (2 ^ p)
  rw[hk']at hdm
  generalize hF:r%2 ^ p=F at*
  have hk0:=pow_pos (k+d)
  have e1:(2 ^ p+F)*2 ^ k*2 ^ d=(2 ^ p+F)*2 ^ (k+d):=by rw[Nat.mul_assoc,<- Nat.pow_add]
  rw[em,eg,Nat.add_mul,e1,<- Nat.pow_add]at h2
  rw[em,e1]at h1
  rw[em,eg,<- Nat.add_assoc,Nat.add_mul _ (2 ^ k),Nat.add_mul,e1,<- Nat.pow_add]
  have hlo:2 ^ (p+(k+d))<=V:=by
   rw[Nat.pow_add]
   exact Nat.le_trans (Nat.mul_le_mul_right _ (by omega)) h1
  have hhi:V<2 ^ (p+(k+d)+1):=by
   have:(2 ^ p+F)*2 ^ (k+d)+2 ^ (k+d)=(2 ^ p+F+1)*2 ^ (k+d):=by rw[Nat.add_mul _ 1,Nat.one_mul]
   have h3:(2 ^ p+F+1)*2 ^ (k+d)<=(2*2 ^ p)*2 ^ (k+d):=Nat.mul_le_mul_right _ (by omega)
   have h4:(2*2 ^ p)*2 ^ (k+d)=2 ^ (p+(k+d)+1):=by rw[Nat.pow_succ,Nat.pow_add 2 p,Nat.mul_comm _ 2,Nat.mul_assoc]
   omega
  have hlog:=nZ hlo hhi
  have es:V.log2 - (p+d)=k:=by omega
  unfold rung
  rw[es]
  have hq:V/2 ^ (k+d)=2 ^ p+F:=by
   refine Nat.div_eq_of_lt_le h1 ?_
   rw[Nat.add_mul _ 1,Nat.one_mul];exact h2
  have hm:=Nat.div_add_mod V (2 ^ (k+d))
  rw[hq,Nat.mul_comm]at hm
  unfold rne
  rw[hq]
  generalize hR:V%2 ^ (k+d)=R at*
  generalize hA:(2 ^ p+F)*2 ^ (k+d)=A at*
  generalize hG:2 ^ (k+d)=G at*
  have hpar:(2 ^ p+F)%2=r%2:=by
   obtain⟨q,rfl⟩: ∃q,p=q+1:=⟨p - 1,by omega⟩
   rw[Nat.pow_succ]at hdm ⊢
   have:2 ^ q*2*(k+1)=2*(2 ^ q*(k+1)):=by rw[Nat.mul_comm (2 ^ q) 2,Nat.mul_assoc]
   omega
  rw[hpar]
  have hr:k*2 ^ p+(2 ^ p+F)=r:=by
   rw[Nat.mul_add,Nat.mul_comm (2 ^ p) k]at hdm;omega
  by_cases c:G<2*R\/(G=2*R/\r%2=1)
  ·rw[if_pos c,if_pos (by omega)];omega
  ·rw[if_neg c,if_neg (by omega)];omega
theorem Aj(p d V:Nat): ∃r,mag p r*2 ^ d<=V/\V<mag p (r+1)*2 ^ d:=by
 have hd:=pow_pos d
 have key: ∀n,V<mag p n*2 ^ d-> ∃r,mag p r*2 ^ d<=V/\V<mag p (r+1)*2 ^ d:=by
  intro n
  induction n with
  | zero=>intro h;rw[lA]at h;omega
  | succ n ih=>
   intro h
   by_cases c:V<mag p n*2 ^ d
   ·exact ih c
   ·exact⟨n,by omega,h⟩
 refine key (V+1) ?_
 have h1:=le_mag p (V+1)
 have h2:mag p (V+1)*1<=mag p (V+1)*2 ^ d:=Nat.mul_le_mul_left _ hd
 omega
theorem sK(p d r:Nat)(hp:1<=p):rung p d (mag p r*2 ^ d)=r:=by
 have hd:=pow_pos d
 have:=rK p r
 have e:=kZ p r
 have hlt:mag p r*2 ^ d<mag p (r+1)*2 ^ d:=(Nat.mul_lt_mul_right hd).2 (by omega)
 rw[eK p d r _ hp (Nat.le_refl _) hlt]
 have e2:(mag p r+mag p (r+1))*2 ^ d=mag p r*2 ^ d+mag p (r+1)*2 ^ d:=Nat.add_mul ..
 rw[if_neg (by omega)]
theorem Hl(p r:Nat)(hp:1<=p):rung p 0 (mag p r)=r:=by
 have:=sK p 0 r hp
 rwa [Nat.pow_zero,Nat.mul_one]at this
theorem sM(p d r V:Nat)(hp:1<=p)(h1:mag p r*2 ^ d<=V)(h2:V<mag p (r+1)*2 ^ d):r<=rung p d V/\rung p d V<=r+1:=by
 rw[eK p d r V hp h1 h2];split<;>omega
theorem jF{p d V V':Nat}(hp:1<=p)(h:V<=V'):rung p d V<=rung p d V':=by
 have hd:=pow_pos d
 obtain⟨r,a,b⟩:=Aj p d V
 obtain⟨r',a',b'⟩:=Aj p d V'
 have hr:r<r'+1:=(jW (p:=p)).1 ((Nat.mul_lt_mul_right hd).1 (by omega))
 by_cases e:r=r'
 ·subst e
  rw[eK p d r V hp a b,eK p d r V' hp a' b']
  split<;>split<;>omega
 ·have h1:=sM p d r V hp a b
  have h2:=sM p d r' V' hp a' b'
  omega
theorem oB{p d r V:Nat}(hp:1<=p)(h:mag p r*2 ^ d<=V):r<=rung p d V:=by
 have:=jF (d:=d) hp h
 rwa [sK p d r hp]at this
theorem yF{p d r V:Nat}(hp:1<=p)(h:V<=mag p r*2 ^ d):rung p d V<=r:=by
 have:=jF (d:=d) hp h
 rwa [sK p d r hp]at this
end Tf
end Go.Proofs.YtaphajlpbgcfjaaGreatDoor
