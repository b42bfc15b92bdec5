/-
  Some of the texts of this proof, one behind the other.
-/
import Derived.Sort.Grow
import Derived.Shelf.SlLaysF
import Derived.Shelf.SlGeneric
import Derived.Test.YtaphajlpbgcfjaaGreatDoorChecked
import Derived.Shelf.SlSortCmp.NoneTotal
import Derived.Test.YtaphajlpbgcfjaaGreatDoorMa26
set_option maxRecDepth 100000
set_option maxHeartbeats 400000000
namespace Go.Proofs.YtaphajlpbgcfjaaGreatDoor
open _root_.Go.Proofs.Tryz
section
open Go.RowKit Tf Cu Go.Deep
attribute [local go_sem] aK aL aP aQ aR aV aW aF
namespace Rv
def cpI(a b:Int):Int:=if a<b then -1 else if b<a then 1 else 0
def orI(p r:Int):Int:=if p=0 then r else p
def cf19(B:Nat->Nat)(a b:Nat):Int:=orI (pW (B b) (B a)) (cpI (a:Nat) (b:Nat))
theorem cf19_lt{B:Nat->Nat}{a b:Nat}:cf19 B a b<0 ↔ bf (kB B) a b:=by
 unfold cf19 orI pW cpI bf kB
 by_cases h1:kb (B b)<kb (B a)
 ·simp[h1]
 ·by_cases h2:kb (B a)<kb (B b)
  ·simp[h1,h2]
   omega
  ·have h3:kb (B a)=kb (B b):=by omega
   by_cases h4:a<b
   ·simp[h3,h4]
   ·by_cases h5:b<a
    ·simp[h3,h4,h5]
    ·simp[h3,h4,h5]
theorem tK{P:Program}{f:FuncId}{args:Array Value}{U:Type}{F:U->World}{u:U}{v:Value}(h:Calls P f args (F u) fun e w'=>e=.returned v/\w'=F u):Calls P f args (F u) fun e w''=>e=.returned v/\ ∃u,w''=F u:=
 h.mono fun _ _ ⟨he,hb⟩=>⟨he,u,hb⟩
theorem drs(w:World): ∃(U:Type) (F:U->World),(∀u,∃q,F u=w.drewN q)/\(∀q,∃u,w.drewN q=F u):=
 ⟨Nat,fun q=>w.drewN q,fun u=>⟨u,rfl⟩,fun q=>⟨q,rfl⟩⟩
theorem isnan19(x:Int)(w:World):Calls prog 179 #[.int .i64 x] w fun e w'=>e=.returned (.bool false)/\w'=w:=by
 have e:(x != x)=false:=by simp
 go_enter func179,ntmps179
 go_wp2
 go_ret
 exact⟨rfl,rfl⟩
theorem Ba(x y:Int)(w:World):Calls prog 133 #[.int .i64 x,.int .i64 y] w fun e w'=>e=.returned (.int .i64 (cpI x y))/\w'=w:=by
 have NN:=hid isnan19
 have H:Hid (∃r,cpI x y=r):=⟨_,rfl⟩
 by_cases h1:x<y
 ·have E:Hid (cpI x y= -1):=if_pos h1
  have d1:decide (x<y)=true:=decide_eq_true h1
  go_enter func133,ntmps133
  go_wp2_with fail
  refine(NN.out x w).mono ?_
  rintro e9 v9 ⟨rfl,hv9⟩
  have hv8:=hv9.symm
  subst hv8
  go_wp2_with fail
  refine(NN.out y w).mono ?_
  rintro e9 v9 ⟨rfl,hv9⟩
  have hv8:=hv9.symm
  subst hv8
  go_wp2
  go_ret
  exact⟨by rw[E.out];rfl,rfl⟩
 ·have d1:decide (x<y)=false:=decide_eq_false h1
  by_cases h2:y<x
  ·have E:Hid (cpI x y=1):=by show _=_;unfold cpI;rw[if_neg h1,if_pos h2]
   have d2:decide (y<x)=true:=decide_eq_true h2
   clear h1
   go_enter func133,ntmps133
   go_wp2_with fail
   refine(NN.out x w).mono ?_
   rintro e9 v9 ⟨rfl,hv9⟩
   have hv8:=hv9.symm
   subst hv8
   go_wp2_with fail
   refine(NN.out y w).mono ?_
   rintro e9 v9 ⟨rfl,hv9⟩
   have hv8:=hv9.symm
   subst hv8
   go_wp2
   go_ret
   exact⟨by rw[E.out];rfl,rfl⟩
  ·have E:Hid (cpI x y=0):=by show _=_;unfold cpI;rw[if_neg h1,if_neg h2]
   have d2:decide (y<x)=false:=decide_eq_false h2
   clear h1 h2
   go_enter func133,ntmps133
   go_wp2_with fail
   refine(NN.out x w).mono ?_
   rintro e9 v9 ⟨rfl,hv9⟩
   have hv8:=hv9.symm
   subst hv8
   go_wp2_with fail
   refine(NN.out y w).mono ?_
   rintro e9 v9 ⟨rfl,hv9⟩
   have hv8:=hv9.symm
   subst hv8
   go_wp2
   go_ret
   exact⟨by rw[E.out];rfl,rfl⟩
theorem or_at(p r:Int)(b:Nat)(w:World)(c0:w.cell? ⟨b,0,none⟩=some (.int .i64 p))(c1:w.cell? ⟨b,1,none⟩=some (.int .i64 r)):
  Calls prog 131 #[.slice (some ⟨b,0,none⟩) 2 2] w fun e w'=>e=.returned (.int .i64 (orI p r))/\w'=w:=by
 go_enter func131,ntmps131
 go_wp2
 go_loopw [8] (fun iv wr=> ∃k:Nat,k<=2/\iv=.int .i64 (k:Nat)/\(0<k->p=0)/\(1<k->r=0)/\wr=w) (fun iv _=>2 - (intOf iv).toNat)
 case atStart=>exact⟨0,by omega,rfl,fun h=>absurd h (by omega),fun h=>absurd h (by omega),rfl⟩
 case round=>
  obtain⟨k,hk,rfl,g1,g2,hwr⟩:=hrel
  have hwr2:=hwr.symm
  subst hwr2
  by_cases k0:k=0
  ·subst k0
   by_cases hp:p=0
   ·subst hp
    clear g1 g2
    go_wp2
    exact⟨⟨1,by omega,by simp,fun _=>by first | trivial | rfl,fun h=>absurd h (by omega),by first | trivial | rfl⟩,by simp[intOf]⟩
   ·have E:Hid (orI p r=p):=if_neg hp
    have e1:(p != 0)=true:=by simpa using hp
    clear g1 g2 hp
    go_wp2
    go_ret
    exact⟨by rw[E.out];rfl,by first | trivial | rfl⟩
  ·have hp:=g1 (by omega)
   subst hp
   by_cases k1:k=1
   ·subst k1
    by_cases hp:r=0
    ·subst hp
     clear g1 g2
     go_wp2
     exact⟨⟨2,by omega,by simp,fun _=>by first | trivial | rfl,fun _=>by first | trivial | rfl,by first | trivial | rfl⟩,by simp[intOf]⟩
    ·have e1:(r != 0)=true:=by simpa using hp
     clear g1 g2 hp
     go_wp2
     go_ret
     exact⟨rfl,by first | trivial | rfl⟩
   ·have k2:k=2:=by omega
    subst k2
    have hr:=g2 (by omega)
    subst hr
    clear g1 g2
    go_wp2
    go_ret
    exact⟨rfl,by first | trivial | rfl⟩
theorem clo19_at(bx qb ob lb cb:Nat)(B:Nat->Nat)(a b:Nat)(V:World)(hl:lb<=65536)(ha:a<lb)(hb:b<lb)(HB:V.cell? ⟨bx,0,none⟩=some (.slice (some ⟨qb,ob,none⟩) lb cb))(IB:IsFl V (some ⟨qb,ob,none⟩) lb B):
  Calls prog 130 #[.int .i64 (a:Nat),.int .i64 (b:Nat),.pointer (some ⟨bx,0,none⟩)] V fun e w'=>e=.returned (.int .i64 (cf19 B a b))/\ ∃q os,w'=Go.Sort.grow (V.drewN q) os:=by
 obtain⟨x,hx⟩:=aD (B a)
 obtain⟨y,hy⟩:=aD (B b)
 have xc:=(IB.at0 ha).2.2
 have yc:=(IB.at0 hb).2.2
 rw[hx]at xc
 rw[hy]at yc
 have CM:=hid (fun v=>jQ y x v (by rw[<- hy];exact(IB b hb).1) (by rw[<- hx];exact(IB a ha).1))
 have CI:=hid (fun v=>Ba (a:Nat) (b:Nat) v)
 have E1:Hid (cf19 B a b=orI (pW y x) (cpI (a:Nat) (b:Nat))):=by show _=_;unfold cf19;rw[hx,hy]
 obtain⟨p,hp⟩:=aD (pW y x)
 obtain⟨r,hr⟩:=aD (cpI (a:Nat) (b:Nat))
 rw[hp]at CM
 rw[hr]at CI
 rw[hp,hr]at E1
 have aI:(a:Int)<lb:=by omega
 have aB:(a:Int)<=65536:=by omega
 have bI:(b:Int)<lb:=by omega
 have bB:(b:Int)<=65536:=by omega
 obtain⟨UU,E,hF1,hF2⟩:=drs V
 have y0: ∀u,(E u).cell? ⟨bx,0,none⟩=some (.slice (some ⟨qb,ob,none⟩) lb cb):=fun u=>by obtain⟨q,h⟩:=hF1 u;rw[h];exact HB
 have y1: ∀u,(E u).cell? ⟨qb,ob+a,none⟩=some (.float .f64 x):=fun u=>by obtain⟨q,h⟩:=hF1 u;rw[h];exact xc
 have y2: ∀u,(E u).cell? ⟨qb,ob+b,none⟩=some (.float .f64 y):=fun u=>by obtain⟨q,h⟩:=hF1 u;rw[h];exact yc
 have DD0: ∃u,V.drew=E u:=hF2 1
 have HU1:=hid hF1
 clear hF1 hF2 hl ha hb HB IB xc yc hx hy hp hr
 go_enter func130,ntmps130
 go_upto_region 1 with fail
 refine cM 12 E (by kernel_rfl) (by kernel_rfl) (by kernel_rfl) DD0 ?_
 simp only[List.take_succ_cons,List.take_zero,List.drop_succ_cons,List.drop_zero]
 repeat(go_big_quiet_step (first
  | (go_at_call 132;exact tK (CM.out _))
  | (go_at_call 133;exact tK (CI.out _))
  | (with_reducible rfl)))
 refine wpQuiet_nil ?_
 intro z hwz
 obtain⟨u0,hu⟩:=hwz
 have AZ:Hid (∃q,z=V.drewN q):=by rw[hu];exact HU1.out u0
 clear hu u0
 clear HU1 DD0 y0 y1 y2
 clear E UU
 have c0:(z.alloc (.cells #[.int .i64 p,.int .i64 r] 3)).cell? ⟨z.heap.size,0,none⟩=some (.int .i64 p):=aA 0 (heap_alloc_new _ _)
 have c1:(z.alloc (.cells #[.int .i64 p,.int .i64 r] 3)).cell? ⟨z.heap.size,1,none⟩=some (.int .i64 r):=aA 1 (heap_alloc_new _ _)
 have CO:=hid (or_at p r z.heap.size _ c0 c1)
 clear c0 c1
 go_wp2_with fail
 refine CO.out.mono ?_
 rintro e9 v9 ⟨rfl,hv9⟩
 have hv8:=hv9.symm
 subst hv8
 go_wp2
 go_ret
 obtain⟨q,hq⟩:=AZ.out
 exact⟨by rw[E1.out];rfl,q,_,by rw[hq];exact Go.Sort.alloc_eq_grow _ _⟩
end Rv
end
section
namespace Rv
def vO:Go.Shelf.Ren:=⟨fun | 6=>129 | 15=>178 | 14=>177 | 28=>212 | 29=>213 | 20=>204 | 21=>205 | 22=>206 | 23=>207 | 24=>208 | 25=>209 | 26=>210 | 27=>211 | 46=>220 | 47=>221 | 48=>222 | 49=>223 | 50=>224 | 57=>228 | n=>n,fun | 22=>126 | 24=>3 | 25=>146 | 3=>3 | 39=>65 | 0=>0 | 53=>247 | 55=>111 | 4=>4 | 46=>240 | 45=>239 | 50=>244 | 5=>5 | 9=>9 | 66=>252 | 70=>256 | 76=>259 | 77=>68 | n=>n,fun | n=>n⟩
theorem sortL:Go.Proofs.SlLaysF.n6 prog vO:={
 mixed:=by kernel_rfl
 f6:=⟨Tryz.f129.name,by decide,func129.trans (congrArg some (by kernel_rfl))⟩
 f14:=⟨Tryz.f177.name,by decide,func177.trans (congrArg some (by kernel_rfl))⟩
 f15:=func178.trans (congrArg some (by kernel_rfl))
 f20:=⟨Tryz.f204.name,by decide,func204.trans (congrArg some (by kernel_rfl))⟩
 f21:=⟨Tryz.f205.name,by decide,func205.trans (congrArg some (by kernel_rfl))⟩
 f22:=⟨Tryz.f206.name,by decide,func206.trans (congrArg some (by kernel_rfl))⟩
 f23:=⟨Tryz.f207.name,by decide,func207.trans (congrArg some (by kernel_rfl))⟩
 f24:=⟨Tryz.f208.name,by decide,func208.trans (congrArg some (by kernel_rfl))⟩
 f25:=⟨Tryz.f209.name,by decide,func209.trans (congrArg some (by kernel_rfl))⟩
 f26:=⟨Tryz.f210.name,by decide,func210.trans (congrArg some (by kernel_rfl))⟩
 f27:=⟨Tryz.f211.name,by decide,func211.trans (congrArg some (by kernel_rfl))⟩
 f28:=func212.trans (congrArg some (by kernel_rfl))
 f29:=func213.trans (congrArg some (by kernel_rfl))
 f46:=⟨Tryz.f220.name,by decide,func220.trans (congrArg some (by kernel_rfl))⟩
 f47:=func221.trans (congrArg some (by kernel_rfl))
 f48:=func222.trans (congrArg some (by kernel_rfl))
 f49:=⟨Tryz.f223.name,by decide,func223.trans (congrArg some (by kernel_rfl))⟩
 f50:=⟨Tryz.f224.name,by decide,func224.trans (congrArg some (by kernel_rfl))⟩
 f57:=⟨Tryz.f228.name,by decide,func228.trans (congrArg some (by kernel_rfl))⟩
 t0:=underlying0
 a0:=Tryz.isAgg0
 z0:=Tryz.sizeOf0
 v0:=Tryz.zeroValue0
 t3:=underlying3
 a3:=Tryz.isAgg3
 z3:=Tryz.sizeOf3
 v3:=Tryz.zeroValue3
 t4:=underlying4
 a4:=Tryz.isAgg4
 z4:=Tryz.sizeOf4
 v4:=Tryz.zeroValue4
 t5:=underlying5
 a5:=Tryz.isAgg5
 z5:=Tryz.sizeOf5
 v5:=Tryz.zeroValue5
 t9:=underlying9
 a9:=Tryz.isAgg9
 z9:=Tryz.sizeOf9
 v9:=Tryz.zeroValue9
 t22:=underlying126
 a22:=Tryz.isAgg126
 z22:=Tryz.sizeOf126
 v22:=Tryz.zeroValue126
 a24:=Tryz.isAgg3
 z24:=Tryz.sizeOf3
 t25:=underlying146
 a25:=Tryz.isAgg146
 z25:=Tryz.sizeOf146
 v25:=Tryz.zeroValue146
 t39:=underlying65
 a39:=Tryz.isAgg65
 z39:=Tryz.sizeOf65
 v39:=Tryz.zeroValue65
 t45:=underlying239
 a45:=Tryz.isAgg239
 z45:=Tryz.sizeOf239
 v45:=Tryz.zeroValue239
 t46:=underlying240
 a46:=Tryz.isAgg240
 z46:=Tryz.sizeOf240
 v46:=Tryz.zeroValue240
 t50:=underlying244
 a50:=Tryz.isAgg244
 z50:=Tryz.sizeOf244
 v50:=Tryz.zeroValue244
 t53:=underlying247
 a53:=Tryz.isAgg247
 z53:=Tryz.sizeOf247
 v53:=Tryz.zeroValue247
 t55:=underlying111
 a55:=Tryz.isAgg111
 z55:=Tryz.sizeOf111
 v55:=Tryz.zeroValue111
 t66:=underlying252
 a66:=Tryz.isAgg252
 z66:=Tryz.sizeOf252
 v66:=Tryz.zeroValue252
 t70:=underlying256
 a70:=Tryz.isAgg256
 z70:=Tryz.sizeOf256
 v70:=Tryz.zeroValue256
 t76:=underlying259
 a76:=Tryz.isAgg259
 z76:=Tryz.sizeOf259
 v76:=Tryz.zeroValue259
 t77:=underlying68
 a77:=Tryz.isAgg68
 z77:=Tryz.sizeOf68
 v77:=Tryz.zeroValue68}
end Rv
end
section
open Go.RowKit Tf Cu Go.Deep
attribute [local go_sem] aK aL aP aQ aR aV aW aF
namespace Rv
section
open Go.Sort Go.Shelf
def enF{k:Nat}(x:Fin (k+1)):Value:=.int .i64 (x.val:Nat)
def cfF{k:Nat}(B:Nat->Nat)(x y:Fin (k+1)):Int:=cf19 B x.val y.val
theorem ltF{k:Nat}{B:Nat->Nat}{x y:Fin (k+1)}:ltOf (cfF B) x y=true ↔ bf (kB B) x.val y.val:=by
 unfold ltOf cfF
 rw[decide_eq_true_iff]
 exact cf19_lt
theorem ltN{k:Nat}{B:Nat->Nat}{x y:Fin (k+1)}:ltOf (cfF B) x y=false ↔ ¬bf (kB B) x.val y.val:=by
 rw[<- ltF]
 cases ltOf (cfF B) x y<;>simp
theorem swoF{k:Nat}(B:Nat->Nat):SWO (ltOf (cfF (k:=k) B))where
 irrefl x:=by rw[ltN];unfold bf;omega
 trans x y z h1 h2:=by
  rw[ltF]at*
  unfold bf at*
  omega
 ntrans x y z h1 h2:=by
  rw[ltN]at*
  unfold bf at*
  omega
theorem totF{k:Nat}(B:Nat->Nat)(x y:Fin (k+1))(h1:ltOf (cfF B) x y=false)(h2:ltOf (cfF B) y x=false):x=y:=by
 rw[ltN]at*
 unfold bf at*
 exact Fin.ext (by omega)
def dF(k:Nat):Array (Fin (k+1)):=(List.finRange (k+1)).toArray
theorem nU(k:Nat):(dF k).size=k+1:=by unfold dF;simp
theorem dF_get{k j:Nat}(h:j<k+1):(dF k)[j]! =⟨j,h⟩:=by
 rw[getElem!_pos _ j (by rw[nU];exact h)]
 unfold dF
 simp
def sF(k:Nat)(B:Nat->Nat):List (Fin (k+1)):=(dF k).toList.mergeSort fun x y=> !ltOf (cfF B) y x
theorem sF_len(k:Nat)(B:Nat->Nat):(sF k B).length=k+1:=by unfold sF;rw[List.length_mergeSort];exact nU k
theorem sF_ord(k:Nat)(B:Nat->Nat):(sF k B).map Fin.val=ordL (kB B) (k+1):=by
 refine ord_one ?_
 have p0:(sF k B).Perm (List.finRange (k+1)):=List.mergeSort_perm _ _
 have e:(List.finRange (k+1)).map Fin.val=List.range (k+1):=by
  apply List.ext_getElem
  ·simp
  ·intro i h1 h2
   simp
 have p:((sF k B).map Fin.val).Perm (List.range (k+1)):=by rw[<- e];exact p0.map _
 refine⟨?_,p⟩
 have s:(sF k B).Pairwise (fun a b=>(!ltOf (cfF B) b a)=true):=List.pairwise_mergeSort (fun a b c h1 h2=>by
  have h1:ltOf (cfF B) b a=false:=by simpa using h1
  have h2:ltOf (cfF B) c b=false:=by simpa using h2
  have h3:=(swoF B).ntrans c b a h2 h1
  rw[h3]
  rfl) (fun a b=>by
  cases h1:ltOf (cfF B) b a with
  | false=>rfl
  | true=>
   cases h2:ltOf (cfF B) a b with
   | false=>rfl
   | true=>
    have h3:=(swoF B).trans a b a h2 h1
    rw[(swoF B).irrefl]at h3
    cases h3) _
 have s2:((sF k B).map Fin.val).Pairwise (fun a b=> ¬bf (kB B) b a):=by
  rw[List.pairwise_map]
  refine s.imp ?_
  intro a b h
  have h1:ltOf (cfF B) b a=false:=by simpa using h
  exact ltN.1 h1
 have nd:((sF k B).map Fin.val).Pairwise (fun a b=>a≠b):=p.nodup_iff.2 List.nodup_range
 refine(s2.and nd).imp ?_
 rintro a b ⟨h1,h2⟩
 unfold bf at*
 omega
theorem sw_abq{k:Nat}{V:World}{g m:Nat}{d:Array (Fin (k+1))}{os:Array Obj}:AbQ V (fun b=>b=g) (sortWorld enF V g 0 m d os):=by
 refine⟨rfl,rfl,rfl,?_,fun b hb hn=> ?_⟩
 ·simp[sortWorld,Go.Sort.grow,putRow,mapBlock,Go.Sort.ahead]
 ·have e:(sortWorld enF V g 0 m d os).heap=(V.heap.modify g (onCells (putCells enF 0 d)))++os:=rfl
  rw[e,Array.getElem?_append,if_pos (by simpa using hb),Array.getElem?_modify,if_neg (fun q=>hn q.symm)]
theorem sw_row{k:Nat}{V:World}{g m:Nat}{d:Array (Fin (k+1))}{os:Array Obj}{f:Nat->Value}(h:V.rowIs g 3 (k+1) f)(hd:d.size=k+1):(sortWorld enF V g 0 m d os).rowIs g 3 (k+1) (fun i=>enF d[i]!):=by
 have hl:=h.lt
 obtain⟨c,hb,hs,hf⟩:=h
 refine⟨putCells enF 0 d c,?_,by simp[putCells,hs],fun i hi=> ?_⟩
 ·have e:(sortWorld enF V g 0 m d os).heap=(V.heap.modify g (onCells (putCells enF 0 d)))++os:=rfl
  rw[e,Array.getElem?_append,if_pos (by simpa using hl),Array.getElem?_modify,if_pos rfl,hb]
  rfl
 ·unfold putCells
  rw[Array.getElem?_mapIdx,hf i hi,Option.map_some,if_pos ⟨Nat.zero_le _,by omega⟩,Nat.sub_zero]
end
theorem Hv(gx g qb ob k cb:Nat)(B:Nat->Nat)(V:World)(hl:k+1<=65536)(HX:V.heap[gx]? =some (.cells #[.slice (some ⟨qb,ob,none⟩) (k+1) cb] 26))(IB:IsFl V (some ⟨qb,ob,none⟩) (k+1) B)(R:V.rowIs g 3 (k+1) (fun i=>.int .i64 (i:Nat)))(n1:gx≠g)(n2:qb≠g):
  Calls prog 129 #[.slice (some ⟨g,0,none⟩) (k+1) (k+1),.func (.func 130) #[] #[.pointer (some ⟨gx,0,none⟩)]] V fun e w'=>e=.returned (.tuple #[])/\AbQ V (fun b=>b=g) w'/\w'.rowIs g 3 (k+1) (fun i=>.int .i64 ((ordL (kB B) (k+1)).getD i 0:Nat)):=by
 have eg: ∀args w,(callFunc 130 args).run prog w=.ok (.enter 130 args) w:=enters_of func130 (by kernel_rfl) rfl
 have hH:Go.Sort.Holds enF V g 0 (dF k):=fun j hj=>by
  rw[nU]at hj
  rw[Nat.zero_add,dF_get hj]
  exact⟨R.cell hj,R.frozen j⟩
 have hC:CmpLays1 prog 130 #[.pointer (some ⟨gx,0,none⟩)] (enF (k:=k)) (cfF (k:=k) B) g 0 (dF k).size V:=fun m os dk _ x y=>by
  have a:AbQ V (fun b=>b=g) (Go.Proofs.sortWorld (enF (k:=k)) V g 0 m dk os):=sw_abq
  have h:=clo19_at gx qb ob (k+1) cb B x.val y.val (Go.Proofs.sortWorld (enF (k:=k)) V g 0 m dk os) hl x.isLt y.isLt (aA 0 (a.heap HX n1)) (a.isFl IB (fun b o e=>by
   simp only[Option.some.injEq,Addr.mk.injEq]at e
   rw[<- e.1]
   exact n2))
  exact h
 have hS:=Any.slices_SortFunc_total sortL enF (fun _=>rfl) (cfF B) (swoF B) 130 #[.pointer (some ⟨gx,0,none⟩)] g 0 (k+1) (dF k) V eg hC hH R.lt (by rw[nU];omega) (totF B)
 rw[nU]at hS
 change Calls prog 129 _ _ _ at hS
 refine hS.mono ?_
 rintro e w' ⟨rfl,n,os,rfl⟩
 refine⟨rfl,sw_abq,(sw_row R (d:=(sF k B).toArray) (by simpa using sF_len k B)).congr (fun i hi=> ?_)⟩
 rw[<- sF_ord k B]
 have hi2:i<(sF k B).length:=by rw[sF_len];exact hi
 show enF ((sF k B).toArray[i]!)=_
 rw[getElem!_pos _ i (by simpa using hi2)]
 unfold enF
 simp[List.getD,hi2]
theorem Bb(p:Option Addr)(c:Nat)(fv:Value)(V:World):Calls prog 129 #[.slice p 0 c,fv] V fun e w'=>e=.returned (.tuple #[])/\w'=V:=by
 have h:=AnyF.slices_SortFunc_none (P:=prog) (ρ:=vO) {sortL with} p c fv V
 change Calls prog 129 _ _ _ at h
 exact h
theorem row_ownN{B g cap n:Nat}{F:Nat->Value}{x:Nat->Int}{w:World}(h:w.rowIs g 3 cap F)(hB:B<=g)(hn:n<=cap)(hc:cap<=maxLen)(hF: ∀i,i<n->F i=.int .i64 (x i)):OT 3 B (.slice (some ⟨g,0,none⟩) n cap) ((List.range n).map x) w:=by
 obtain⟨c,hb,hs,hf⟩:=h
 refine⟨by simp,.inr ⟨g,cap,c,by simp,hB,hb,by simpa using hn,hc,by omega,?_⟩⟩
 apply List.ext_getElem?
 intro i
 rw[List.getElem?_take,List.length_map,List.length_range]
 by_cases hi:i<n
 ·have e:=hf i (by omega)
  rw[hF i hi]at e
  rw[if_pos (by omega)]
  rw[<- Array.getElem?_toList]at e
  rw[e]
  simp[hi]
 ·rw[if_neg (by omega),List.getElem?_eq_none (by simp;omega)]
theorem ordw_go(pb:Option Addr)(lb cb:Nat)(w:World)(L:List Nat)(hl:lb<=65536)(LL:L.length=lb)
  (SC:Hid (∀V gx g,Ab w V->w.heap.size<=gx->gx<g->V.heap[gx]? =some (.cells #[.slice pb lb cb] 26)->V.rowIs g 3 lb (fun i=>.int .i64 (i:Nat))->
   Calls prog 129 #[.slice (some ⟨g,0,none⟩) lb lb,.func (.func 130) #[] #[.pointer (some ⟨gx,0,none⟩)]] V fun e w'=>e=.returned (.tuple #[])/\AbQ V (fun b=>b=g) w'/\w'.rowIs g 3 lb (fun i=>.int .i64 (L.getD i 0:Nat)))):
  Calls prog 85 #[.slice pb lb cb] w fun e w'=> ∃v,e=.returned v/\Below w.heap.size w w'/\OT 3 w.heap.size v ((List.range lb).map fun i=>((L.getD i 0:Nat):Int)) w':=by
 obtain⟨A0,R0⟩:=aO w (.cells #[.slice pb lb cb] 26)
 go_enter func85,ntmps85
 go_upto_region 1 with fail
 generalize hW:World.alloc w _=W0 at*
 obtain⟨gx,hgx⟩:=aD w.heap.size
 rw[hgx]at R0 ⊢
 have HGX:=hid (Nat.le_of_eq hgx)
 clear hgx hW
 have MK:=run_make_row' (P:=prog) 126 3 (.int .i64 0) 8 underlying126 infoN rfl .i64 .i64 lb (by omega) (by omega) W0
 have HN:=hid hl
 have x0:=aA 0 R0.out
 obtain⟨g,hg⟩:=aD W0.heap.size
 have RW:Hid ((W0.alloc (.cells (madeCells #[.int .i64 0] lb) 3)).rowIs g 3 lb (fun _=>.int .i64 0)):=by rw[<- hg];exact World.rowIs_made _ _ _ _
 have A1:=iU (bl1 W0 (.cells (madeCells #[.int .i64 0] lb) 3))
 have HG:Hid (gx<g):=by rw[<- hg];exact aX R0.out
 have HW:Hid (w.heap.size<=g):=by rw[<- hg];exact A0.out.size
 generalize hM:World.alloc W0 _=wm at*
 clear hM hl
 go_wp2
 clear MK hg x0
 go_loopw [10] (fun iv wr=> ∃k:Nat,k<=lb/\iv=.int .i64 (k:Nat)/\Ab w wr/\wr.heap[gx]? =some (.cells #[.slice pb lb cb] 26)/\wr.rowIs g 3 lb (fun i=>.int .i64 (if i<k then((i:Nat):Int)else 0))) (fun iv _=>lb - (intOf iv).toNat)
 case atStart=>exact⟨0,by omega,rfl,A0.out.trans A1.out,Ab.heap A1.out R0.out,RW.out.congr (fun i _=>by simp)⟩
 case round=>
  obtain⟨k,hk,rfl,ar,hx,rr⟩:=hrel
  have AR:=hid ar
  have RX:=hid hx
  have RR:=hid rr
  clear ar rr hx A0 A1 R0 RW
  by_cases hkn:k<lb
  ·have HK:=hid hkn
   have kI:(k:Int)<lb:=by omega
   have kB:(k:Int)<=65536:=by have:=HN.out;omega
   have z1:=RR.out.cell (show k<lb from hkn)
   have z2:=RR.out.frozen k
   clear hkn hk
   go_wp2
   refine⟨⟨k+1,by have:=HK.out;omega,by simp,AR.out.set HW.out _,(Below.heap_setCell _ _ _ _ (by intro e;have e2:gx=g:=e;have:=HG.out;omega)).trans RX.out,(RR.out.set k _).congr (fun i _=> ?_)⟩,by have:=HK.out;simp[intOf];omega⟩
   by_cases e:i=k
   ·subst e;simp
   ·have e2:(i<k+1) ↔ i<k:=by omega
    simp[e,e2]
  ·have e6:lb=k:=by omega
   subst e6
   have CS:=hid (SC.out wr gx g AR.out HGX.out HG.out RX.out (RR.out.congr (fun i hi=>by simp[hi])))
   clear hkn hk
   go_wp2_with fail
   refine CS.out.mono ?_
   rintro e9 v9 ⟨rfl,q1,q2⟩
   have Q1:=hid q1
   have Q2:=hid q2
   clear q1 q2
   go_wp2
   go_ret
   exact⟨_,rfl,Q1.out.ab AR.out (fun b hb e=>by have:=HW.out;omega),row_ownN Q2.out HW.out (Nat.le_refl _) (by unfold maxLen;have:=HN.out;omega) (fun i _=>rfl)⟩
theorem orderC:OrderC:=fun pb lb cb B w hl ib=>by
 have key: ∀V gx g,Ab w V->w.heap.size<=gx->gx<g->V.heap[gx]? =some (.cells #[.slice pb lb cb] 26)->V.rowIs g 3 lb (fun i=>.int .i64 (i:Nat))->
   Calls prog 129 #[.slice (some ⟨g,0,none⟩) lb lb,.func (.func 130) #[] #[.pointer (some ⟨gx,0,none⟩)]] V fun e w'=>e=.returned (.tuple #[])/\AbQ V (fun b=>b=g) w'/\w'.rowIs g 3 lb (fun i=>.int .i64 ((ordL (kB B) lb).getD i 0:Nat)):=fun V gx g a h1 h2 hx R=>by
  cases lb with
  | zero=>
   refine(Bb _ _ _ V).mono ?_
   rintro e w' ⟨rfl,rfl⟩
   exact⟨rfl,AbQ.refl _ _,R.congr (fun i hi=>absurd hi (Nat.not_lt_zero i))⟩
  | succ k=>
   obtain⟨qb,ob,rfl⟩:=ib.some0 (show 0<k+1 by omega)
   have hq:=(ib.at0 (show 0<k+1 by omega)).2.1
   exact Hv gx g qb ob k cb B V hl hx (ib.below a) R (by omega) (by omega)
 refine(ordw_go pb lb cb w (ordL (kB B) lb) hl (rT _ _) key).mono ?_
 rintro e w' ⟨v,rfl,b,o⟩
 refine⟨v,rfl,b,?_⟩
 have e1:((List.range lb).map fun i=>(((ordL (kB B) lb).getD i 0:Nat):Int))=(ordL (kB B) lb).map (fun c=>((c:Nat):Int)):=by
  apply List.ext_getElem
  ·simp[rT]
  ·intro i h1 h2
   have h3:i<(ordL (kB B) lb).length:=by simpa using h2
   simp[List.getD,h3]
 rw[e1]at o
 unfold OT at o
 unfold OwnN
 simpa [Function.comp_def]using o
end Rv
end
section
open Go.RowKit Tf Cu Go.Deep
attribute [local go_sem] aK aL aP aQ aR aV aW aF
namespace Rv
theorem run_no0(gb:Nat)(pb:Option Addr)(lb cb:Nat)(pw:Option Addr)(lw cw:Nat)(pt:Option Addr)(lt ct:Nat)(ps:Option Addr)(ls cs:Nat)(sky st:Int)(w:World)
  (FT:Hid (∀v,Ab w v->Calls prog 83 #[.pointer (some ⟨gb,0,none⟩),.agg #[.slice pb lb cb,.slice pw lw cw,.slice pt lt ct,.slice ps ls cs,.int .i64 sky,.int .i64 st]] v fun e w'=>e=.returned (.bool false)/\Below v.heap.size v w')):
  Calls prog 25 #[.pointer (some ⟨gb,0,none⟩),.agg #[.slice pb lb cb,.slice pw lw cw,.slice pt lt ct,.slice ps ls cs,.int .i64 sky,.int .i64 st]] w fun e w'=>e=.returned (.tuple #[.slice none 0 0,.slice none 0 0,.int .i64 1])/\Below w.heap.size w w':=by
 obtain⟨A0,R0⟩:=aO w (.cells #[.slice pb lb cb,.slice pw lw cw,.slice pt lt ct,.slice ps ls cs,.int .i64 sky,.int .i64 st] 29)
 go_enter func25,ntmps25
 go_upto_region 1 with fail
 generalize hW:World.alloc w _=W0 at*
 obtain⟨gw,hgw⟩:=aD w.heap.size
 rw[hgw]at R0 ⊢
 clear hgw hW
 have x0:=aE R0.out
 go_wp2_with fail
 refine(FT.out _ A0.out).mono ?_
 rintro e9 v1 ⟨rfl,b1⟩
 have A1:Hid (Ab w v1):=A0.out.trans b1
 have QA1:=hid (Ab.heap b1 R0.out)
 clear b1 x0
 go_wp2
 go_ret3
 exact⟨rfl,A1.out⟩
theorem run_no1(gb:Nat)(pb:Option Addr)(lb cb:Nat)(pw:Option Addr)(lw cw:Nat)(pt:Option Addr)(lt ct:Nat)(ps:Option Addr)(ls cs:Nat)(sky st:Int)(w:World)
  (FT:Hid (∀v,Ab w v->Calls prog 83 #[.pointer (some ⟨gb,0,none⟩),.agg #[.slice pb lb cb,.slice pw lw cw,.slice pt lt ct,.slice ps ls cs,.int .i64 sky,.int .i64 st]] v fun e w'=>e=.returned (.bool true)/\Below v.heap.size v w'))
  (BW:Hid (∀v,Ab w v->Calls prog 84 #[.slice pw lw cw] v fun e w'=>e=.returned (.bool false)/\Below v.heap.size v w')):
  Calls prog 25 #[.pointer (some ⟨gb,0,none⟩),.agg #[.slice pb lb cb,.slice pw lw cw,.slice pt lt ct,.slice ps ls cs,.int .i64 sky,.int .i64 st]] w fun e w'=>e=.returned (.tuple #[.slice none 0 0,.slice none 0 0,.int .i64 1])/\Below w.heap.size w w':=by
 obtain⟨A0,R0⟩:=aO w (.cells #[.slice pb lb cb,.slice pw lw cw,.slice pt lt ct,.slice ps ls cs,.int .i64 sky,.int .i64 st] 29)
 go_enter func25,ntmps25
 go_upto_region 1 with fail
 generalize hW:World.alloc w _=W0 at*
 obtain⟨gw,hgw⟩:=aD w.heap.size
 rw[hgw]at R0 ⊢
 clear hgw hW
 have x0:=aE R0.out
 go_wp2_with fail
 refine(FT.out _ A0.out).mono ?_
 rintro e9 v1 ⟨rfl,b1⟩
 have A1:Hid (Ab w v1):=A0.out.trans b1
 have QA1:=hid (Ab.heap b1 R0.out)
 clear b1 x0
 have x0:=aE QA1.out
 go_wp2_with fail
 refine(BW.out _ A1.out).mono ?_
 rintro e9 v2 ⟨rfl,b1⟩
 have A2:Hid (Ab w v2):=A1.out.trans b1
 have QA2:=hid (Ab.heap b1 QA1.out)
 clear b1 x0
 go_wp2
 go_ret3
 exact⟨rfl,A2.out⟩
theorem run_no2(gb:Nat)(pb:Option Addr)(lb cb:Nat)(pw:Option Addr)(lw cw:Nat)(pt:Option Addr)(lt ct:Nat)(ps:Option Addr)(ls cs:Nat)(sky st:Int)(w:World)
  (FT:Hid (∀v,Ab w v->Calls prog 83 #[.pointer (some ⟨gb,0,none⟩),.agg #[.slice pb lb cb,.slice pw lw cw,.slice pt lt ct,.slice ps ls cs,.int .i64 sky,.int .i64 st]] v fun e w'=>e=.returned (.bool true)/\Below v.heap.size v w'))
  (BW:Hid (∀v,Ab w v->Calls prog 84 #[.slice pw lw cw] v fun e w'=>e=.returned (.bool true)/\Below v.heap.size v w'))
  (BT:Hid (∀v,Ab w v->Calls prog 84 #[.slice pt lt ct] v fun e w'=>e=.returned (.bool false)/\Below v.heap.size v w')):
  Calls prog 25 #[.pointer (some ⟨gb,0,none⟩),.agg #[.slice pb lb cb,.slice pw lw cw,.slice pt lt ct,.slice ps ls cs,.int .i64 sky,.int .i64 st]] w fun e w'=>e=.returned (.tuple #[.slice none 0 0,.slice none 0 0,.int .i64 1])/\Below w.heap.size w w':=by
 obtain⟨A0,R0⟩:=aO w (.cells #[.slice pb lb cb,.slice pw lw cw,.slice pt lt ct,.slice ps ls cs,.int .i64 sky,.int .i64 st] 29)
 go_enter func25,ntmps25
 go_upto_region 1 with fail
 generalize hW:World.alloc w _=W0 at*
 obtain⟨gw,hgw⟩:=aD w.heap.size
 rw[hgw]at R0 ⊢
 clear hgw hW
 have x0:=aE R0.out
 go_wp2_with fail
 refine(FT.out _ A0.out).mono ?_
 rintro e9 v1 ⟨rfl,b1⟩
 have A1:Hid (Ab w v1):=A0.out.trans b1
 have QA1:=hid (Ab.heap b1 R0.out)
 clear b1 x0
 have x0:=aE QA1.out
 go_wp2_with fail
 refine(BW.out _ A1.out).mono ?_
 rintro e9 v2 ⟨rfl,b1⟩
 have A2:Hid (Ab w v2):=A1.out.trans b1
 have QA2:=hid (Ab.heap b1 QA1.out)
 clear b1 x0
 have x0:=aE QA2.out
 go_wp2_with fail
 refine(BT.out _ A2.out).mono ?_
 rintro e9 v3 ⟨rfl,b1⟩
 have A3:Hid (Ab w v3):=A2.out.trans b1
 have QA3:=hid (Ab.heap b1 QA2.out)
 clear b1 x0
 go_wp2
 go_ret3
 exact⟨rfl,A3.out⟩
theorem E9(p:Option Addr)(N c:Nat)(f:Nat->Int)(w:World)(h0:0<N)(hN:N<=65536)(hf:Sh.IsI w p N f):
  Calls prog 78 #[.slice p N c] w fun e w'=> ∃g cap F,e=.returned (.slice (some ⟨g,0,none⟩) N cap)/\Below w.heap.size w w'/\w.heap.size<=g/\N<=cap/\cap<=maxLen/\w'.rowIs g 2 cap F/\ ∀i,i<N->F i=.int .i64 (f i):=by
 refine(Sh.Ar p N c f w hN hf).mono ?_
 rintro e w' ⟨v,rfl,b,o⟩
 obtain⟨g,cap,F,rfl,h1,h2,h3,h4,h5⟩:=Sh.tE o h0
 exact⟨g,cap,F,rfl,b,h1,h2,h3,h4,h5⟩
theorem run_go(gb N:Nat)(pb:Option Addr)(cb:Nat)(pw:Option Addr)(cw:Nat)(pt:Option Addr)(ct:Nat)(ps:Option Addr)(ls cs:Nat)(sky st:Int)(W T:Nat->Int)(dn:Nat->Int)(sh:Int->Nat->Bool)(ar:Nat->Int)(L:List Nat)(w:World)(hN:N<=6144)(hN0:0<N)
  (FT:Hid (∀v,Ab w v->Calls prog 83 #[.pointer (some ⟨gb,0,none⟩),.agg #[.slice pb N cb,.slice pw N cw,.slice pt N ct,.slice ps ls cs,.int .i64 sky,.int .i64 st]] v fun e w'=>e=.returned (.bool true)/\Below v.heap.size v w'))
  (BW:Hid (∀v,Ab w v->Calls prog 84 #[.slice pw N cw] v fun e w'=>e=.returned (.bool true)/\Below v.heap.size v w'))
  (BT:Hid (∀v,Ab w v->Calls prog 84 #[.slice pt N ct] v fun e w'=>e=.returned (.bool true)/\Below v.heap.size v w'))
  (CW:Hid (∀v,Ab w v->Calls prog 78 #[.slice pw N cw] v fun e w'=> ∃g cap F,e=.returned (.slice (some ⟨g,0,none⟩) N cap)/\Below v.heap.size v w'/\v.heap.size<=g/\N<=cap/\cap<=maxLen/\w'.rowIs g 2 cap F/\ ∀i,i<N->F i=.int .i64 (W i)))
  (CT:Hid (∀v,Ab w v->Calls prog 78 #[.slice pt N ct] v fun e w'=> ∃g cap F,e=.returned (.slice (some ⟨g,0,none⟩) N cap)/\Below v.heap.size v w'/\v.heap.size<=g/\N<=cap/\cap<=maxLen/\w'.rowIs g 2 cap F/\ ∀i,i<N->F i=.int .i64 (T i)))
  (OR:Hid (∀v,Ab w v->Calls prog 85 #[.slice pb N cb] v fun e w'=> ∃u,e=.returned u/\Below v.heap.size v w'/\OT 3 v.heap.size u (L.map fun c=>((c:Nat):Int)) w'))
  (DW:Hid (∀v (c:Nat),Ab w v->c<N->Calls prog 86 #[.pointer (some ⟨gb,0,none⟩),.slice pb N cb,.int .i64 (c:Nat)] v fun e w'=>e=.returned (.int .i64 (dn c))/\Below v.heap.size v w'))
  (AR_:Hid (∀v (c:Nat),Ab w v->c<N->Calls prog 88 #[.pointer (some ⟨gb,0,none⟩),.int .i64 (c:Nat)] v fun e w'=>e=.returned (.int .i64 (ar c))/\Below v.heap.size v w'))
  (RU:Hid (∀v (c:Nat) (x:Int),Ab w v->c<N->0<=x->x<=4503599627370496->Calls prog 87 #[.int .i64 x,.int .i64 (ar c)] v fun e w'=>e=.returned (.bool (decide (0<x)&&sh x c))/\Below v.heap.size v w'))
  (PC:Sh.PartC)
  (DM:Hid (∀c,c<N-> -1<=dn c)) (OD:Hid (okD N dn)) (LM:Hid (∀c ∈ L,c<N)) (LL:Hid (L.length=N)) (OK:Hid (okV N W/\okV N T)):
  Calls prog 25 #[.pointer (some ⟨gb,0,none⟩),.agg #[.slice pb N cb,.slice pw N cw,.slice pt N ct,.slice ps ls cs,.int .i64 sky,.int .i64 st]] w fun e w'=> ∃v u,e=.returned (.tuple #[v,u,.int .i64 0])/\Below w.heap.size w w'/\Sh.Own w.heap.size v ((List.range N).map (rvL dn sh (W,T) L).1) w'/\Sh.Own w.heap.size u ((List.range N).map (rvL dn sh (W,T) L).2) w'/\ ∀k,v.ownBlock=some k->u.ownBlock≠some k:=by
 have HN:=hid (And.intro hN hN0)
 have PCH:=hid PC
 clear hN hN0 PC
 obtain⟨A0,R0⟩:=aO w (.cells #[.slice pb N cb,.slice pw N cw,.slice pt N ct,.slice ps ls cs,.int .i64 sky,.int .i64 st] 29)
 go_enter func25,ntmps25
 go_upto_region 1 with fail
 generalize hW:World.alloc w _=W0 at*
 obtain⟨gw,hgw⟩:=aD w.heap.size
 rw[hgw]at R0 ⊢
 clear hgw hW
 have x0:=aE R0.out
 go_wp2_with fail
 refine(FT.out _ A0.out).mono ?_
 rintro e9 v1 ⟨rfl,b1⟩
 have A1:Hid (Ab w v1):=A0.out.trans b1
 have QA1:=hid (Ab.heap b1 R0.out)
 clear b1 x0
 have x0:=aE QA1.out
 go_wp2_with fail
 refine(BW.out _ A1.out).mono ?_
 rintro e9 v2 ⟨rfl,b1⟩
 have A2:Hid (Ab w v2):=A1.out.trans b1
 have QA2:=hid (Ab.heap b1 QA1.out)
 clear b1 x0
 have x0:=aE QA2.out
 go_wp2_with fail
 refine(BT.out _ A2.out).mono ?_
 rintro e9 v3 ⟨rfl,b1⟩
 have A3:Hid (Ab w v3):=A2.out.trans b1
 have QA3:=hid (Ab.heap b1 QA2.out)
 clear b1 x0
 go_upto_region 5 with fail
 go_cut [7,8]from 32 to 37 (fun s7 s8 wx=> ∃bw cpw Fw bt cpt Ft,s7=.slice (some ⟨bw,0,none⟩) N cpw/\s8=.slice (some ⟨bt,0,none⟩) N cpt/\Ab v3 wx/\(v3.heap.size<=bw/\v3.heap.size<=bt/\bw≠bt)/\(N<=cpw/\cpw<=maxLen/\N<=cpt/\cpt<=maxLen)/\wx.rowIs bw 2 cpw Fw/\(∀i,i<N->Fw i=.int .i64 (W i))/\wx.rowIs bt 2 cpt Ft/\(∀i,i<N->Ft i=.int .i64 (T i)))
 case first=>
  have aw:Ab w v3:=A3.out
  have av:Ab v3 v3:=Ab.refl _
  have gl:gw<v3.heap.size:=aX QA3.out
  have CE:Hid (∀z,Ab v3 z->z.heap[gw]? =some (.cells #[.slice pb N cb,.slice pw N cw,.slice pt N ct,.slice ps ls cs,.int .i64 sky,.int .i64 st] 29)):=fun z h=>Ab.heap h QA3.out
  have x0:=aE QA3.out
  go_region_with (first
   | (go_at_call_of 78 (Value.slice pw N cw);refine(CW.out _ (aw.trans (show Ab v3 _ by with_reducible (repeat(first | assumption | apply Ab.drew))))).mono ?_;rintro e9 z1 ⟨g1,c1,F1,rfl,b1,k1,m1,n1,r1,f1⟩;have az1:Ab v3 z1:=(show Ab v3 _ by with_reducible (repeat(first | assumption | apply Ab.drew))).trans b1;have h1:=Nat.le_trans az1.size (Nat.le_refl _);have x1':=aA 1 (CE.out _ az1);have x2':=aA 2 (CE.out _ az1);have gl1:gw<z1.heap.size:=Nat.lt_of_lt_of_le gl az1.size;(try(have s1:=rowIs.ab r2 (show Ab z2 z1 from(show Ab z2 _ by with_reducible (repeat(first | assumption | apply Ab.drew | exact Ab.refl _))).trans b1)));(try(have t1:=r2.lt)))
   | (go_at_call_of 78 (Value.slice pt N ct);refine(CT.out _ (aw.trans (show Ab v3 _ by with_reducible (repeat(first | assumption | apply Ab.drew))))).mono ?_;rintro e9 z2 ⟨g2,c2,F2,rfl,b2,k2,m2,n2,r2,f2⟩;have az2:Ab v3 z2:=(show Ab v3 _ by with_reducible (repeat(first | assumption | apply Ab.drew))).trans b2;have x1'':=aA 1 (CE.out _ az2);have x2'':=aA 2 (CE.out _ az2);have gl2:gw<z2.heap.size:=Nat.lt_of_lt_of_le gl az2.size;(try(have s2:=rowIs.ab r1 (show Ab z1 z2 from(show Ab z1 _ by with_reducible (repeat(first | assumption | apply Ab.drew | exact Ab.refl _))).trans b2)));(try(have t2:=r1.lt))))
  all_goals(try go_wp2_with fail)
  all_goals go_meet
  all_goals(have kk:=az1.size;have k1':v3.heap.size<=g1:=k1;exact⟨g1,c1,F1,g2,c2,F2,rfl,rfl,az2,⟨k1',by omega,by omega⟩,⟨m1,n1,m2,n2⟩,s2,f1,r2,f2⟩)
 case rest=>
  obtain⟨bw,cpw,Fw,bt,cpt,Ft,rfl,rfl,ac,hne,hcp,r1,f1,r2,f2⟩:=hcut
  rename World=>v5
  have A5:Hid (Ab w v5):=A3.out.trans ac
  have Q5:=hid (Ab.heap ac QA3.out)
  have RW5:=hid r1
  have RT5:=hid r2
  have FW5:=hid f1
  have FT5:=hid f2
  have CP:=hid hcp
  have NE:Hid (bw≠bt/\w.heap.size<=bw/\w.heap.size<=bt):=by
   have h2:=A3.out.size
   exact⟨hne.2.2,by omega,by omega⟩
  have GW:Hid (gw≠bw/\gw≠bt):=by
   have h:=aX QA3.out
   exact⟨by omega,by omega⟩
  clear ac hne hcp r1 f1 r2 f2
  have x0:=aE Q5.out
  go_wp2_with fail
  refine(OR.out v5 A5.out).mono ?_
  rintro e9 v6 ⟨u,rfl,b6,o6⟩
  obtain⟨pl,cl,rfl,il⟩:=o6.isI (fun x hx=>by
   obtain⟨c,hc,rfl⟩:=List.mem_map.1 hx
   have:=LM.out c hc
   have:=HN.out.1
   omega)
  have LN:(L.map fun c=>((c:Nat):Int)).length=N:=by rw[List.length_map];exact LL.out
  rw[LN]at il
  rw[LN]
  have IL:Hid (Sh.IsI v6 pl N (fun k=>((L.getD k 0:Nat):Int))):=il.congr (fun k hk=>by
   have h:k<L.length:=by rw[LL.out];exact hk
   simp[List.getD,h])
  have NL:Hid (∀b o,pl=some ⟨b,o,none⟩->b≠bw/\b≠bt):=fun b o e=>by
   subst e
   have h:=(o6.blk (k:=b) rfl).1
   have h1:=RW5.out.lt
   have h2:=RT5.out.lt
   exact⟨by omega,by omega⟩
  have A6:Hid (Ab w v6):=A5.out.trans b6
  have Q6:=hid (Ab.heap b6 Q5.out)
  have RW6:=hid (rowIs.ab RW5.out b6)
  have RT6:=hid (rowIs.ab RT5.out b6)
  obtain⟨qq,oq,rfl⟩:=IL.out.some0 HN.out.2
  have NQ:=hid (NL.out qq oq rfl)
  clear b6 o6 il NL x0 RW5 RT5 Q5 A5 QA1 QA2 QA3 A1 A2 A3 R0 A0 FT BW BT OR CW CT LN
  go_wp2
  go_loopw [42] (fun iv wr=> ∃k:Nat,k<=N/\iv=.int .i64 (k:Nat)/\Ab w wr/\wr.heap[gw]? =v6.heap[gw]? /\wr.heap[qq]? =v6.heap[qq]? /\wr.rowIs bw 2 cpw (fun i=>if i<N then .int .i64 ((rvL dn sh (W,T) (L.take k)).1 i)else Fw i)/\wr.rowIs bt 2 cpt (fun i=>if i<N then .int .i64 ((rvL dn sh (W,T) (L.take k)).2 i)else Ft i)) (fun iv _=>N - (intOf iv).toNat)
  case atStart=>exact⟨0,by omega,rfl,A6.out,rfl,rfl,RW6.out.congr (fun i _=>by by_cases h:i<N;rw[if_pos h,FW5.out i h];rfl;rw[if_neg h]),RT6.out.congr (fun i _=>by by_cases h:i<N;rw[if_pos h,FT5.out i h];rfl;rw[if_neg h])⟩
  case round=>
   obtain⟨k,hk,rfl,ar1,hgw,hqq,rw1,rt1⟩:=hrel
   have AR:=hid ar1
   have EG:=hid hgw
   have EQ:=hid hqq
   have RW:=hid rw1
   have RT:=hid rt1
   clear ar1 hgw hqq rw1 rt1 RW6 RT6
   by_cases hkn:k<N
   ·have HK:=hid hkn
    have kI:(k:Int)<N:=by omega
    have kB:(k:Int)<=6144:=by have:=HN.out.1;omega
    obtain⟨c,hc⟩:=aD (L.getD k 0)
    have kL:k<L.length:=by have:=LL.out;omega
    have ec:L[k]=c:=by rw[<- hc];simp[List.getD,kL]
    have cN:c<N:=LM.out c (by rw[<- ec];exact List.getElem_mem _)
    have NX:Hid (rvL dn sh (W,T) (L.take (k+1))=rv1 dn sh (rvL dn sh (W,T) (L.take k)) c):=by
     show _=_
     rw[List.take_succ_eq_append_getElem kL,ec]
     unfold rvL
     rw[List.foldl_append]
     rfl
    have KO:=BJ (n:=N) (dn:=dn) (sh:=sh) (X:=(W,T)) (l:=L.take k) OD.out (fun x hx=>LM.out x (List.mem_of_mem_take hx)) OK.out
    obtain⟨X,hX⟩:=aD (rvL dn sh (W,T) (L.take k))
    rw[hX]at RW RT KO NX
    have lc:=(IL.out.at0 hkn).2.2
    rw[hc]at lc
    have y0:wr.cell? ⟨qq,oq+k,none⟩=some (.int .i64 (c:Nat)):=(World.cell?_of_block EQ.out).trans lc
    have CN:=hid cN
    have cI:(c:Int)<N:=by omega
    have cB:(c:Int)<=6144:=by have:=HN.out.1;omega
    have H6:Hid (wr.heap[gw]? =some (.cells #[.slice pb N cb,.slice pw N cw,.slice pt N ct,.slice ps ls cs,.int .i64 sky,.int .i64 st] 29)):=EG.out.trans Q6.out
    have x0:=aA 0 H6.out
    obtain⟨x,hx⟩:=aD (X.1 c)
    obtain⟨tt,htt⟩:=aD (X.2 c)
    have xb:=KO.1.1.b cN
    have tb:=KO.1.2.b cN
    rw[hx]at xb
    rw[htt]at tb
    have xb1:=xb.1
    have xb2:=xb.2
    have tb1:=tb.1
    have tb2:=tb.2
    have HX:=hid hx
    have HT:=hid htt
    have XW:Hid (∀v,Ab wr v->v.cell? ⟨bw,c,none⟩=some (.int .i64 x)/\v.cell? ⟨bt,c,none⟩=some (.int .i64 tt)):=fun v a=>by
     have h1:=(rowIs.ab RW.out a).cell (Nat.lt_of_lt_of_le cN CP.out.1)
     have h2:=(rowIs.ab RT.out a).cell (Nat.lt_of_lt_of_le cN CP.out.2.2.1)
     rw[if_pos cN,hx]at h1
     rw[if_pos cN,htt]at h2
     exact⟨h1,h2⟩
    obtain⟨d,hd⟩:=aD (dn c)
    have CD:=hid (DW.out wr c AR.out cN)
    rw[hd]at CD
    have HD:=hid hd
    have dm:=DM.out c cN
    rw[hd]at dm
    have KOH:=hid KO
    clear hX hc kL ec cN hx htt xb tb hd KO lc hkn hk
    go_wp2_with fail
    refine CD.out.mono ?_
    rintro e9 v7 ⟨rfl,b7⟩
    have A7:Hid (Ab wr v7):=b7
    clear b7 CD x0 y0
    have HQ2:Hid (qq<wr.heap.size):=by
     have h:=EQ.out
     have h2:=(IL.out.at0 HK.out).2.1
     show qq<wr.heap.size
     rcases Nat.lt_or_ge qq wr.heap.size with h1 | h1
     ·exact h1
     ·rw[Array.getElem?_eq_none h1,Array.getElem?_eq_getElem h2]at h
      cases h
    by_cases f1:d<0
    ·have f2:d= -1:=by omega
     subst f2
     go_upto_region 10 with fail
     obtain⟨UU,E,hF1,hF2⟩:=cls v7
     have HU:=hid hF2
     have HU1:=hid hF1
     have DD0:=HU.out _ (Ab.refl v7).drew
     clear hF1 hF2
     refine aJ E (by kernel_rfl) (by kernel_rfl) DD0 ?_
     repeat(go_big_quiet_step (with_reducible rfl))
     refine wpQuiet_nil ?_
     intro v8 hwz
     obtain⟨u0,hu⟩:=hwz
     have A8:Hid (Ab v7 v8):=by rw[hu];exact HU1.out u0
     clear hu u0
     clear HU HU1 DD0
     clear E UU
     have NXX:Hid (rvL dn sh (W,T) (L.take (k+1))=X):=by
      show _=_
      rw[NX.out]
      unfold rv1
      rw[if_pos (.inl (by rw[HD.out];exact f1))]
     go_wp2
     exact⟨⟨k+1,by have:=HK.out;omega,by simp,AR.out.trans (A7.out.trans A8.out),((A7.out.trans A8.out).block _ (aX H6.out)).trans EG.out,((A7.out.trans A8.out).block _ HQ2.out).trans EQ.out,by rw[NXX.out];exact rowIs.ab RW.out (A7.out.trans A8.out),by rw[NXX.out];exact rowIs.ab RT.out (A7.out.trans A8.out)⟩,by have:=HK.out;simp[intOf];omega⟩
    ·have e5:(d== -1)=false:=by simp;omega
     obtain⟨dq,rfl⟩: ∃q:Nat,d=(q:Nat):=⟨d.toNat,by omega⟩
     have CA:Hid (∀v,Ab v7 v->Calls prog 88 #[.pointer (some ⟨gb,0,none⟩),.int .i64 (c:Nat)] v fun e w'=>e=.returned (.int .i64 (ar c))/\Below v.heap.size v w'):=fun v a=>AR_.out v c (AR.out.trans (A7.out.trans a)) CN.out
     have CR:Hid (∀v,Ab v7 v->Calls prog 87 #[.int .i64 x,.int .i64 (ar c)] v fun e w'=>e=.returned (.bool (decide (0<x)&&sh x c))/\Below v.heap.size v w'):=fun v a=>RU.out v c x (AR.out.trans (A7.out.trans a)) CN.out xb1 xb2
     obtain⟨rr,hrr⟩:=aD ((decide (0<x)&&sh x c))
     have RR:=hid hrr
     rw[hrr]at CR
     clear hrr dm
     cases rr with
     | false=>
      have QF:Hid (x<=0\/sh x c=false):=by
       have h:=RR.out
       rw[Bool.and_eq_false_iff]at h
       rcases h with h | h
       ·exact .inl (by have:=of_decide_eq_false h;omega)
       ·exact .inr h
      go_upto_region 10 with fail
      obtain⟨UU,E,hF1,hF2⟩:=cls v7
      have HU:=hid hF2
      have HU1:=hid hF1
      have e1: ∀u,(E u).cell? ⟨bw,c,none⟩=some (.int .i64 x):=fun u=>(XW.out _ (A7.out.trans (hF1 u))).1
      have DD0:=HU.out _ (Ab.refl v7).drew
      clear hF1 hF2
      refine aJ E (by kernel_rfl) (by kernel_rfl) DD0 ?_
      repeat(go_big_quiet_step (first | (go_at_call 88;exact aH HU HU1 (CA.out _ (HU1.out _))) | (go_at_call 87;exact aH HU HU1 (CR.out _ (HU1.out _))) | (with_reducible rfl)))
      refine wpQuiet_nil ?_
      intro v8 hwz
      obtain⟨u0,hu⟩:=hwz
      have A8:Hid (Ab v7 v8):=by rw[hu];exact HU1.out u0
      clear hu u0
      clear HU HU1 DD0 e1
      clear E UU
      have NXX:Hid (rvL dn sh (W,T) (L.take (k+1))=X):=by
       show _=_
       rw[NX.out]
       unfold rv1
       rw[if_pos (.inr (by rw[HX.out];exact QF.out))]
      go_wp2
      exact⟨⟨k+1,by have:=HK.out;omega,by simp,AR.out.trans (A7.out.trans A8.out),((A7.out.trans A8.out).block _ (aX H6.out)).trans EG.out,((A7.out.trans A8.out).block _ HQ2.out).trans EQ.out,by rw[NXX.out];exact rowIs.ab RW.out (A7.out.trans A8.out),by rw[NXX.out];exact rowIs.ab RT.out (A7.out.trans A8.out)⟩,by have:=HK.out;simp[intOf];omega⟩
     | true=>
      have q1:=(Bool.and_eq_true _ _).mp RR.out
      have f2:0<x:=of_decide_eq_true q1.1
      have SQ:=hid q1.2
      have OP:=OD.out c CN.out (by rw[HD.out];omega)
      rw[HD.out,Int.toNat_natCast]at OP
      have dN:=OP.1
      have dc:=OP.2
      obtain⟨m,hm⟩:=aD (gvW x)
      have mq:x.tdiv 4=m:=by rw[<- hm];unfold gvW;exact Int.tdiv_eq_ediv_of_nonneg (by omega)
      obtain⟨p,hp⟩:=aD (Sh.part tt m x)
      have gi:=gv_in (x:=x) (t:=tt) (by omega) ⟨tb1,tb2⟩
      rw[hm,hp]at gi
      have m1:=gi.1.1
      have m2:=gi.1.2
      have p1:=gi.2.1
      have p2:=gi.2.2
      obtain⟨xd,hxd⟩:=aD (X.1 dq)
      obtain⟨td,htd⟩:=aD (X.2 dq)
      have xdb:=KOH.out.1.1.b dN
      have tdb:=KOH.out.1.2.b dN
      rw[hxd]at xdb
      rw[htd]at tdb
      have xd1:=xdb.1
      have xd2:=xdb.2
      have td1:=tdb.1
      have td2:=tdb.2
      have CT:Hid (∀v,Calls prog 89 #[.int .i64 tt,.int .i64 m,.int .i64 x] v fun e w'=>e=.returned (.int .i64 p)/\Below v.heap.size v w'):=fun v=>by
       rw[<- hp]
       exact PCH.out tt m x v (by unfold Sh.W64;omega) (by unfold Sh.W64;omega) (by unfold Sh.W64;omega)
      have NXX:Hid ((∀i,(rvL dn sh (W,T) (L.take (k+1))).1 i=if i=dq then xd+m else if i=c then x - m else X.1 i)/\ ∀i,(rvL dn sh (W,T) (L.take (k+1))).2 i=if i=dq then td+p else if i=c then tt - p else X.2 i):=by
       rw[NX.out]
       unfold rv1
       rw[if_neg (by
        rw[HD.out,HX.out]
        intro q
        rcases q with q | q | q
        ·omega
        ·omega
        ·rw[SQ.out]at q;cases q),HD.out,Int.toNat_natCast,HX.out,HT.out,hm,hp]
       refine⟨fun i=> ?_,fun i=> ?_⟩
       ·dsimp only
        by_cases e:i=dq
        ·rw[if_pos e,if_pos e,e,hxd]
        ·rw[if_neg e,if_neg e]
       ·dsimp only
        by_cases e:i=dq
        ·rw[if_pos e,if_pos e,e,htd]
        ·rw[if_neg e,if_neg e]
      have HXD:=hid (And.intro hxd htd)
      have DN:=hid dN
      have DC:=hid dc
      have dI:(dq:Int)<N:=by omega
      have dB:(dq:Int)<=6144:=by have:=HN.out.1;omega
      clear hm hp gi hxd htd xdb tdb dN dc OP q1
      go_upto_region 10 with fail
      obtain⟨UU,E,hF1,hF2⟩:=cls v7
      have HU:=hid hF2
      have HU1:=hid hF1
      have e1: ∀u,(E u).cell? ⟨bw,c,none⟩=some (.int .i64 x):=fun u=>(XW.out _ (A7.out.trans (hF1 u))).1
      have DD0:=HU.out _ (Ab.refl v7).drew
      clear hF1 hF2
      refine aJ E (by kernel_rfl) (by kernel_rfl) DD0 ?_
      repeat(go_big_quiet_step (first | (go_at_call 88;exact aH HU HU1 (CA.out _ (HU1.out _))) | (go_at_call 87;exact aH HU HU1 (CR.out _ (HU1.out _))) | (with_reducible rfl)))
      refine wpQuiet_nil ?_
      intro v8 hwz
      obtain⟨u0,hu⟩:=hwz
      have A8:Hid (Ab v7 v8):=by rw[hu];exact HU1.out u0
      clear hu u0
      clear HU HU1 DD0 e1
      clear E UU
      have z1:=(XW.out _ (A7.out.trans A8.out)).1
      go_upto_region 12 with fail
      obtain⟨UU,E,hF1,hF2⟩:=cls v8
      have HU:=hid hF2
      have HU1:=hid hF1
      have e1: ∀u,(E u).cell? ⟨bw,c,none⟩=some (.int .i64 x):=fun u=>(XW.out _ (A7.out.trans (A8.out.trans (hF1 u)))).1
      have e2: ∀u,(E u).cell? ⟨bt,c,none⟩=some (.int .i64 tt):=fun u=>(XW.out _ (A7.out.trans (A8.out.trans (hF1 u)))).2
      have DD0:=HU.out _ (Ab.refl v8).drew
      clear hF1 hF2
      refine aJ E (by kernel_rfl) (by kernel_rfl) DD0 ?_
      repeat(go_big_quiet_step (first | (go_at_call 89;exact aH HU HU1 (CT.out _)) | (with_reducible rfl)))
      refine wpQuiet_nil ?_
      intro v9 hwz
      obtain⟨u0,hu⟩:=hwz
      have A9:Hid (Ab v8 v9):=by rw[hu];exact HU1.out u0
      clear hu u0
      clear HU HU1 DD0 e1 e2
      clear E UU
      clear z1
      have A79:Hid (Ab wr v9):=A7.out.trans (A8.out.trans A9.out)
      have RW9:=hid (rowIs.ab RW.out A79.out)
      have RT9:=hid (rowIs.ab RT.out A79.out)
      have q1:=(XW.out _ A79.out).1
      have f1:=RW9.out.frozen c
      go_upto_region 14 with fail
      have RWa:=hid (RW9.out.set c (.int .i64 (x - m)))
      have RTa:=hid (RT9.out.setOther (a:=⟨bw,c,none⟩) (by have:=NE.out.1;intro e;have e2:bt=bw:=e;omega) (.int .i64 (x - m)))
      have Ga:Hid ((v9.setCell ⟨bw,c,none⟩ (.int .i64 (x - m))).heap[gw]? =v6.heap[gw]? /\(v9.setCell ⟨bw,c,none⟩ (.int .i64 (x - m))).heap[qq]? =v6.heap[qq]?):=⟨(Below.heap_setCell _ _ _ _ GW.out.1).trans ((A79.out.block _ (aX H6.out)).trans EG.out),(Below.heap_setCell _ _ _ _ NQ.out.1).trans ((A79.out.block _ HQ2.out).trans EQ.out)⟩
      have Aa:Hid (Ab w (v9.setCell ⟨bw,c,none⟩ (.int .i64 (x - m)))):=(AR.out.trans A79.out).setk NE.out.2.1 _
      generalize World.setCell v9 _ _=va at*
      have q2:=RWa.out.cell (i:=dq) (Nat.lt_of_lt_of_le DN.out CP.out.1)
      rw[if_neg DC.out,if_pos DN.out,HXD.out.1]at q2
      have f2:=RWa.out.frozen dq
      clear q1 f1
      go_upto_region 15 with fail
      have RWb:=hid (RWa.out.set dq (.int .i64 (xd+m)))
      have RTb:=hid (RTa.out.setOther (a:=⟨bw,dq,none⟩) (by have:=NE.out.1;intro e;have e2:bt=bw:=e;omega) (.int .i64 (xd+m)))
      have Gb:Hid ((va.setCell ⟨bw,dq,none⟩ (.int .i64 (xd+m))).heap[gw]? =v6.heap[gw]? /\(va.setCell ⟨bw,dq,none⟩ (.int .i64 (xd+m))).heap[qq]? =v6.heap[qq]?):=⟨(Below.heap_setCell _ _ _ _ GW.out.1).trans Ga.out.1,(Below.heap_setCell _ _ _ _ NQ.out.1).trans Ga.out.2⟩
      have Ab_:Hid (Ab w (va.setCell ⟨bw,dq,none⟩ (.int .i64 (xd+m)))):=Aa.out.setk NE.out.2.1 _
      generalize World.setCell va _ _=vb at*
      have q3:=RTb.out.cell (i:=c) (Nat.lt_of_lt_of_le CN.out CP.out.2.2.1)
      rw[if_pos CN.out,HT.out]at q3
      have f3:=RTb.out.frozen c
      clear q2 f2
      go_upto_region 16 with fail
      have RWc:=hid (RWb.out.setOther (a:=⟨bt,c,none⟩) (by have:=NE.out.1;intro e;have e2:bw=bt:=e;omega) (.int .i64 (tt - p)))
      have RTc:=hid (RTb.out.set c (.int .i64 (tt - p)))
      have Gc:Hid ((vb.setCell ⟨bt,c,none⟩ (.int .i64 (tt - p))).heap[gw]? =v6.heap[gw]? /\(vb.setCell ⟨bt,c,none⟩ (.int .i64 (tt - p))).heap[qq]? =v6.heap[qq]?):=⟨(Below.heap_setCell _ _ _ _ GW.out.2).trans Gb.out.1,(Below.heap_setCell _ _ _ _ NQ.out.2).trans Gb.out.2⟩
      have Ac:Hid (Ab w (vb.setCell ⟨bt,c,none⟩ (.int .i64 (tt - p)))):=Ab_.out.setk NE.out.2.2 _
      generalize World.setCell vb _ _=vc at*
      have q4:=RTc.out.cell (i:=dq) (Nat.lt_of_lt_of_le DN.out CP.out.2.2.1)
      rw[if_neg DC.out,if_pos DN.out,HXD.out.2]at q4
      have f4:=RTc.out.frozen dq
      clear q3 f3
      go_wp2
      refine⟨⟨k+1,by have:=HK.out;omega,by simp,Ac.out.setk NE.out.2.2 _,(Below.heap_setCell _ _ _ _ GW.out.2).trans Gc.out.1,(Below.heap_setCell _ _ _ _ NQ.out.2).trans Gc.out.2,(RWc.out.setOther (a:=⟨bt,dq,none⟩) (by have:=NE.out.1;intro e;have e2:bw=bt:=e;omega) _).congr (fun i _=> ?_),(RTc.out.set dq _).congr (fun i _=> ?_)⟩,by have:=HK.out;simp[intOf];omega⟩
      ·by_cases e1:i=dq
       ·rw[if_pos e1,if_pos (by rw[e1];exact DN.out),NXX.out.1 i,if_pos e1]
       ·rw[if_neg e1]
        by_cases e2:i=c
        ·rw[if_pos e2,if_pos (by rw[e2];exact CN.out),NXX.out.1 i,if_neg e1,if_pos e2]
        ·rw[if_neg e2,NXX.out.1 i,if_neg e1,if_neg e2]
      ·by_cases e1:i=dq
       ·rw[if_pos e1,if_pos (by rw[e1];exact DN.out),NXX.out.2 i,if_pos e1]
       ·rw[if_neg e1]
        by_cases e2:i=c
        ·rw[if_pos e2,if_pos (by rw[e2];exact CN.out),NXX.out.2 i,if_neg e1,if_pos e2]
        ·rw[if_neg e2,NXX.out.2 i,if_neg e1,if_neg e2]
   ·have e6:N=k:=by omega
    subst e6
    have TL:Hid (L.take N=L):=List.take_of_length_le (by have:=LL.out;omega)
    rw[TL.out]at RW RT
    go_wp2
    go_ret3
    exact⟨_,_,rfl,AR.out,Sh.nR RW.out NE.out.2.1 CP.out.1 CP.out.2.1 (fun i hi=>if_pos hi),Sh.nR RT.out NE.out.2.2 CP.out.2.2.1 CP.out.2.2.2 (fun i hi=>if_pos hi),fun q h1 h2=>NE.out.1 (by
     have h1:some bw=some q:=h1
     have h2:some bt=some q:=h2
     rw[Option.some.inj h1,Option.some.inj h2])⟩
theorem runC_of(PC:Sh.PartC):RunC:=fun n gb pb lb cb B pw lw cw W pt lt ct T ps ls cs Sp sky st w hn g ib iw it _=>by
 have nb:6*n*n<=6144:=by
  have h1:n*n<=32*32:=Nat.mul_le_mul hn.2 hn.2
  rw[Nat.mul_assoc]
  omega
 have n0:0<6*n*n:=by
  have p1:0<n*n:=Nat.mul_pos (by omega) (by omega)
  rw[Nat.mul_assoc]
  omega
 have FT:=fun(q:Bool) (hq:q=true ↔ (lb=6*n*n/\lw=6*n*n/\lt=6*n*n/\ls=12*n*n)) (v:World) (a:Ab w v)=>Hr gb pb pw pt ps lb cb lw cw lt ct ls cs sky st q v (g.to a) hq
 by_cases hf:lb=6*n*n/\lw=6*n*n/\lt=6*n*n/\ls=12*n*n
 ·have ft:=FT true ⟨fun _=>hf,fun _=>rfl⟩
  obtain⟨rfl,rfl,rfl,h4⟩:=hf
  by_cases h1:okV (6*n*n) W
  ·by_cases h2:okV (6*n*n) T
   ·have gd:sJ n (6*n*n) (6*n*n) (6*n*n) ls W T:=⟨⟨rfl,rfl,rfl,h4⟩,h1,h2⟩
    refine⟨fun _=> ?_,fun q=>absurd gd q⟩
    exact run_go gb (6*n*n) pb cb pw cw pt ct ps ls cs sky st W T (dnR n B) (shR n) (arC n) (ordL (kB B) (6*n*n)) w nb n0 ft (fun v a=>pG pw _ cw W v nb (iw.below a) h1) (fun v a=>pG pt _ ct T v nb (it.below a) h2)
     (fun v a=>E9 pw _ cw W v n0 (by omega) (iw.below a)) (fun v a=>E9 pt _ ct T v n0 (by omega) (it.below a))
     (fun v a=>(orderC pb _ cb B v (by omega) (ib.below a)).mono fun e w' h=>by
      obtain⟨u,rfl,b,o⟩:=h
      exact⟨u,rfl,b,OT.ofN o⟩)
     (fun v c a hc=>(downC n gb pb _ cb B c v hn (g.to a) (ib.below a) (by unfold Sh.W64;omega)).mono fun e w' h=>⟨by rw[h.1,if_pos ⟨rfl,by omega,by omega⟩,Int.toNat_natCast],h.2⟩)
     (fun v c a hc=>eO hn hc (g.to a))
     (fun v c x a hc h0 hx=>Hu x (arC n c) v (by omega) (cS n c).2)
     PC
     (fun c hc=>by
      by_cases q:dnR n B c<0
      ·have:=(dnI_no q).1
       unfold dnR
       omega
      ·omega)
     (okD_R hn.1) (fun c hc=>yW.1 hc) (rT _ _) ⟨h1,h2⟩
   ·refine⟨fun q=>absurd q.2.2 h2,fun _=> ?_⟩
    exact run_no2 gb pb _ cb pw _ cw pt _ ct ps ls cs sky st w ft (fun v a=>pG pw _ cw W v nb (iw.below a) h1) (fun v a=>AJ pt _ ct T v nb (it.below a) h2)
  ·refine⟨fun q=>absurd q.2.1 h1,fun _=> ?_⟩
   exact run_no1 gb pb _ cb pw _ cw pt _ ct ps ls cs sky st w ft (fun v a=>AJ pw _ cw W v nb (iw.below a) h1)
 ·refine⟨fun q=>absurd q.1 hf,fun _=> ?_⟩
  exact run_no0 gb pb lb cb pw lw cw pt lt ct ps ls cs sky st w (FT false ⟨fun q=>absurd q (by decide),fun q=>absurd q hf⟩)
end Rv
end
section
namespace Rv
theorem runC:RunC:=runC_of Sh.partC
end Rv
end
section
namespace St
theorem oneC:OneC:=fun n gb sd dt gr dr lim rv=>one_gen rv (fun _=>Rv.runC) n gb sd dt gr dr lim
end St
end
end Go.Proofs.YtaphajlpbgcfjaaGreatDoor
