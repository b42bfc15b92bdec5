/-
  Some of the texts of this proof, one behind the other.
-/
import Derived.Lib.SlBytesConst
import Derived.Test.YtagcbnflfaeahaaGreatDoorSg09
set_option maxRecDepth 100000
set_option maxHeartbeats 400000000
namespace Go.Proofs.YtagcbnflfaeahaaGreatDoor
open _root_.Go.Proofs.Tryz
section
open Go.RowKit Tf Cu Go.Deep
attribute [local go_sem] aF aG aI aJ aK aL aM aC
namespace Sv
theorem lk_in: ∀k,k<6-> -9223372036854775808<=lkW k/\lkW k<=9223372036854775807:=by decide+kernel
theorem lv_chk:(Ss.chk ((1:Nat):Int) 6 6 6 12 (fun _=>0) lkW (fun _=>0) (fun _=>0) 0 513).2=0:=by decide+kernel
theorem lv_in:In64 6 (fun _=>0) lkW (fun _=>0) (fun _=>0) 0 513:=⟨fun _ _=>(by decide:0<18446744073709551616),lk_in,fun _ _=>(by decide: -9223372036854775808<=(0:Int)/\(0:Int)<=9223372036854775807),fun _ _=>(by decide:0<18446744073709551616),by decide,by decide⟩
def lvE:Nat->Nat:=enc 1 6 (fun _=>0) lkW (fun _=>0) (fun _=>0) 0 513
theorem lv_sum:smN (fun _=>97) 1=12638187200555641996:=by decide+kernel
theorem rG: ∀i,i<7->lvE i=[84,65,82,78,1,1,2].getD i 0:=by decide+kernel
theorem lv_mark{f:Nat->Nat}(hf: ∀i,i<7->f i=lvE i):((Ti.str f 7).toList==([84,65,82,78,1,1,2]:List UInt8))=true:=by
 rw[Ti.dV]
 have e:Ti.byl f 7=Ti.byl (fun i=>[84,65,82,78,1,1,2].getD i 0) 7:=(Ti.pT (fun i hi=>by rw[hf i hi];exact eL (by decide)) (fun i hi=>by rw[<- rG i hi];exact eL (by decide))).2 ⟨rfl,fun i hi=>by rw[hf i hi,rG i hi]⟩
 rw[e]
 rfl
theorem jM(w:World)(hF:Fr w):Calls prog 9 #[] w fun e w'=>e=.returned (.bool true)/\Below w.heap.size w w':=by
 have NW:=hid (new_at 1 w (by omega) hF)
 clear hF
 go_enter func9,ntmps9
 go_wp2_with fail
 refine NW.out.mono ?_
 rintro e v1 ⟨gb,rfl,a1,-,g1⟩
 have A1:Hid (Ab w v1):=a1
 have G1:Hid (GridOf 1 gb v1):=g1
 clear a1 g1 NW
 go_wp2_with fail
 refine(sR v1 G1.out).mono ?_
 rintro e v2 ⟨b1,b2,b3,b4,rfl,k2,r1,r2,r3,r4,nb⟩
 obtain⟨X3,S3⟩:=aP v2 (.cells #[.slice (some ⟨b1,0,none⟩) 6 6,.slice (some ⟨b2,0,none⟩) 6 6,.slice (some ⟨b3,0,none⟩) 6 6,.slice (some ⟨b4,0,none⟩) 12 12,.int .i64 0,.int .i64 0] 25)
 have A2:Hid (Ab w v2):=A1.out.trans k2
 have NB:Hid (b1≠v2.heap.size/\b2≠v2.heap.size/\b3≠v2.heap.size/\b4≠v2.heap.size/\w.heap.size<=v2.heap.size):=⟨by have:=r1.lt;omega,by have:=r2.lt;omega,by have:=r3.lt;omega,by have:=r4.lt;omega,Below.size A2.out⟩
 have R1:=hid r1
 have R2:=hid r2
 have R3:=hid r3
 have R4:=hid r4
 clear k2 r1 r2 r3 r4 nb A1 G1
 go_upto_region 5 with fail
 generalize hW:World.alloc v2 _=v3 at*
 obtain⟨s,hs⟩:=aB v2.heap.size
 rw[hs]at S3 NB ⊢
 clear hW hs
 have x5:=aA 5 S3.out
 have f5:=aE S3.out 5
 have A4:Hid (Ab w (v3.setCell ⟨s,5,none⟩ (.int .i64 513))):=(A2.out.trans X3.out).setk NB.out.2.2.2.2 _
 have S4:Hid ((v3.setCell ⟨s,5,none⟩ (.int .i64 513)).heap[s]? =some (.cells #[.slice (some ⟨b1,0,none⟩) 6 6,.slice (some ⟨b2,0,none⟩) 6 6,.slice (some ⟨b3,0,none⟩) 6 6,.slice (some ⟨b4,0,none⟩) 12 12,.int .i64 0,.int .i64 513] 25)):=aH S3.out
 have P1:Hid ((v3.setCell ⟨s,5,none⟩ (.int .i64 513)).rowIs b1 45 6 (fun _=>.float .f64 0)):=(Sh.dU R1.out X3.out).setOther NB.out.1 _
 have P2:Hid ((v3.setCell ⟨s,5,none⟩ (.int .i64 513)).rowIs b2 2 6 (fun i=>.int .i64 (lkW i))):=(Sh.dU R2.out X3.out).setOther NB.out.2.1 _
 have P3:Hid ((v3.setCell ⟨s,5,none⟩ (.int .i64 513)).rowIs b3 2 6 (fun _=>.int .i64 0)):=(Sh.dU R3.out X3.out).setOther NB.out.2.2.1 _
 have P4:Hid ((v3.setCell ⟨s,5,none⟩ (.int .i64 513)).rowIs b4 45 12 (fun _=>.float .f64 0)):=(Sh.dU R4.out X3.out).setOther NB.out.2.2.2.1 _
 go_upto_region 6 with fail
 generalize hW:v3.setCell ⟨s,5,none⟩ (.int .i64 513)=v4 at*
 clear hW x5 f5 S3 X3 A2 R1 R2 R3 R4
 have I1:=hid (rowIs.fl P1.out (fun _ _=>by decide))
 have I2:=hid (Sh.gG P2.out lk_in)
 have I3:=hid (Sh.gG P3.out (fun _ _=>by decide))
 have I4:=hid (rowIs.fl P4.out (fun _ _=>by decide))
 obtain⟨y0,y1,y2,y3,y4,y5⟩:=aD S4.out
 have CE:=hid (hU ((1:Nat):Int) (some ⟨b1,0,none⟩) 6 6 (fun _=>0) (some ⟨b2,0,none⟩) 6 6 lkW (some ⟨b3,0,none⟩) 6 6 (fun _=>0) (some ⟨b4,0,none⟩) 12 12 (fun _=>0) 0 513 v4 I1.out I2.out I3.out I4.out 1 6 12 269 rfl lv_chk (by decide) rfl rfl rfl ⟨rfl,rfl,rfl,rfl⟩)
 go_wp2_with fail
 refine CE.out.mono ?_
 rintro e9 v5 ⟨g,cp,rfl,a5,o5⟩
 obtain⟨XL,hXL⟩:=aB ((List.range 269).map (enc 1 6 (fun _=>0) lkW (fun _=>0) (fun _=>0) 0 513))
 rw[hXL]at o5
 have XP:Hid (XL.length=269/\(∀x ∈ XL,x<256)/\ ∀i,i<269->XL.getD i 0=lvE i):=by
  subst hXL
  refine⟨by simp,fun x hx=> ?_,fun i hi=>jL _ _ _ hi⟩
  obtain⟨i,_,rfl⟩:=List.mem_map.1 hx
  exact eL (by decide)
 have W5:=hid (own_w o5 XP.out.1 XP.out.2.1)
 have CPB:Hid (269<=cp/\cp<=9223372036854775807):=by
  obtain⟨a0,cap,e,i,h1,h2⟩:=o5.at XP.out.2.1
  injection e with e1 e2 e3
  subst e3
  exact⟨by have:=XP.out.1;omega,h2⟩
 have A5:Hid (Ab w v5):=A4.out.trans a5
 have S5:=hid (Ab.heap a5 S4.out)
 have J1:=hid (I1.out.below a5)
 have J2:=hid (I2.out.below a5)
 have J3:=hid (I3.out.below a5)
 have J4:=hid (I4.out.below a5)
 clear a5 o5 hXL CE I1 I2 I3 I4 P1 P2 P3 P4 S4 A4 y0 y1 y2 y3 y4 y5
 obtain⟨F,hF⟩:=aB ((fun j=>XL.getD j 0))
 have FE:Hid (∀i,i<269->F i=lvE i):=fun i hi=>by rw[<- hF];exact XP.out.2.2 i hi
 rw[hF]at W5
 clear hF XP
 have MK:=lv_mark (fun i hi=>FE.out i (by omega))
 have CV: ∀c:Nat,(convert 30 9 (.slice (some ⟨g,0,none⟩) 7 c)).run prog v5=.ok (.string (Ti.str F 7)) v5:=fun c=>Ti.hP underlying30 underlying5 underlying9 (by
  have q:=W5.out.part 0 7 (by decide)
  simpa using q) (fun e=>by cases e)
 have c7:7<=cp:=by have:=CPB.out;omega
 have D:=hH lv_in FE.out
 have CD:=hid (dec_yes (some ⟨g,0,none⟩) 269 cp 1 6 12 F v5 CPB.out W5.out (by rw[derr_enc (n:=1) (N:=6) (by decide) rfl lv_in FE.out];exact lv_chk) (by rw[FE.out 4 (by decide)];rfl) rfl rfl)
 have DD:=hid D
 clear D
 go_upto_region 9 with fail
 clear MK CV c7
 go_wp2_with fail
 refine CD.out.mono ?_
 rintro e9 v6 ⟨t0,t1,t2,t3,rfl,a6,l6,dj,r0,r1,r2,r3⟩
 rw[DD.out.1,DD.out.2.1]
 have A6:Hid (Ab w v6):=A5.out.trans a6
 obtain⟨X7,S7⟩:=aP v6 (.cells #[.slice (some ⟨t0,0,none⟩) 6 6,.slice (some ⟨t1,0,none⟩) 6 6,.slice (some ⟨t2,0,none⟩) 6 6,.slice (some ⟨t3,0,none⟩) 12 12,.int .i64 0,.int .i64 513] 25)
 have Z7:Hid ((v6.alloc (.cells #[.slice (some ⟨t0,0,none⟩) 6 6,.slice (some ⟨t1,0,none⟩) 6 6,.slice (some ⟨t2,0,none⟩) 6 6,.slice (some ⟨t3,0,none⟩) 12 12,.int .i64 0,.int .i64 513] 25)).heap[s]? =some (.cells #[.slice (some ⟨b1,0,none⟩) 6 6,.slice (some ⟨b2,0,none⟩) 6 6,.slice (some ⟨b3,0,none⟩) 6 6,.slice (some ⟨b4,0,none⟩) 12 12,.int .i64 0,.int .i64 513] 25)):=Ab.heap X7.out (Ab.heap a6 S5.out)
 have J5:=hid ((J1.out.below a6).below X7.out)
 have J6:=hid ((J2.out.below a6).below X7.out)
 have J7:=hid ((J3.out.below a6).below X7.out)
 have J8:=hid ((J4.out.below a6).below X7.out)
 have K1:=hid ((rowIs.fl (r0.congr (fun i hi=>congrArg (Value.float .f64) (DD.out.2.2.1 i hi))) (fun _ _=>by decide)).below X7.out)
 have K2:=hid ((Sh.gG (r1.congr (fun i hi=>congrArg (Value.int .i64) (DD.out.2.2.2.1 i hi))) lk_in).below X7.out)
 have K3:=hid ((Sh.gG (r2.congr (fun i hi=>congrArg (Value.int .i64) (DD.out.2.2.2.2.1 i hi))) (fun _ _=>by decide)).below X7.out)
 have K4:=hid ((rowIs.fl (r3.congr (fun i hi=>congrArg (Value.float .f64) (DD.out.2.2.2.2.2.1 i hi))) (fun _ _=>by decide)).below X7.out)
 clear a6 l6 dj r0 r1 r2 r3 CD A5 S5 J1 J2 J3 J4 W5
 go_upto_region 10 with fail
 generalize hW:World.alloc v6 _=v7 at*
 obtain⟨t,ht⟩:=aB v6.heap.size
 rw[ht]at S7 ⊢
 clear hW ht
 have A7:Hid (Ab w v7):=A6.out.trans X7.out
 have y0:=aA 0 Z7.out
 have z0:=aA 0 S7.out
 have y1:=aA 1 Z7.out
 have z1:=aA 1 S7.out
 have y2:=aA 2 Z7.out
 have z2:=aA 2 S7.out
 have y3:=aA 3 Z7.out
 have z3:=aA 3 S7.out
 have y4:=aA 4 Z7.out
 have z4:=aA 4 S7.out
 have y5:=aA 5 Z7.out
 have z5:=aA 5 S7.out
 have CS:=hid (sS (some ⟨t0,0,none⟩) 6 6 (fun _=>0) (some ⟨t1,0,none⟩) 6 6 lkW (some ⟨t2,0,none⟩) 6 6 (fun _=>0) (some ⟨t3,0,none⟩) 12 12 (fun _=>0) 0 513 (some ⟨b1,0,none⟩) 6 (some ⟨b2,0,none⟩) 6 (some ⟨b3,0,none⟩) 6 (some ⟨b4,0,none⟩) 12 v7 (by omega) K1.out K2.out K3.out K4.out J5.out J6.out J7.out J8.out)
 clear K1 K2 K3 K4 J5 J6 J7 J8 A6 X7
 have CM:=hid (fun v (b:Nat) (c:Nat) (fr:Nat × Nat) (h:v.heap[b]? =some (.cells #[.int .u8 97] 5 fr))=>pU (some ⟨b,0,none⟩) 1 c (fun _=>97) v (by omega) (fun k hk=>⟨(by decide:97<256),b,0,rfl,lt_of_block h,by
  have e:k=0:=by omega
  subst e
  exact aA 0 h⟩))
 rw[lv_sum]at CM
 have KC:=fun(w:World) (C:Array Value) (n c:Nat)=>Go.Lib.run_convert_bytes_const (P:=prog) w 30 5 C n c underlying30 underlying5
 go_wp2_with (first
  | (go_at_call 13;refine CS.out.mono ?_;rintro e9 v8 ⟨rfl,b8⟩)
  | (go_at_call 14;refine(CM.out _ _ _ _ (heap_alloc_new _ _)).mono ?_;rintro e9 v9 ⟨rfl,hz⟩;have hz2:=hz.symm;subst hz2))
 go_ret
 exact⟨rfl,A7.out.trans (Ab.trans b8 (bl1 _ _))⟩
end Sv
end
section
open Go.RowKit Tf Cu Go.Deep
namespace Sv
theorem chk_0{side:Int}{lb lw lt ls:Nat}{B:Nat->Nat}{W T:Nat->Int}{S:Nat->Nat}{sky st:Int}(h:(Ss.chk side lb lw lt ls B W T S sky st).2=0): ∃n N:Nat,side=(n:Nat)/\(1<=n/\n<=32)/\6*n*n=N/\(lb=N/\lw=N/\lt=N/\ls=2*N)/\(Ss.chN N N N N (2*N) B W T S sky st).2=0:=by
 unfold Ss.chk at h
 split at h
 ·rename_i hs
  have e:side=(side.toNat:Nat):=by omega
  obtain⟨l,_⟩:=Ss.chN_ok.1 h
  refine⟨side.toNat,_,e,⟨by omega,by omega⟩,rfl,l,?_⟩
  obtain⟨l1,l2,l3,l4⟩:=l
  rw[l1,l2,l3,l4]at h
  exact h
 ·cases h
theorem in_64{N:Nat}{pb pw pt ps:Option Addr}{B:Nat->Nat}{W T:Nat->Int}{S:Nat->Nat}{sky st:Int}{w:World}(hs: -9223372036854775808<=sky/\sky<=9223372036854775807)(ht: -9223372036854775808<=st/\st<=9223372036854775807)(i1:IsFl w pb N B)(i2:Sh.IsI w pw N W)(i3:Sh.IsI w pt N T)(i4:IsFl w ps (2*N) S):In64 N B W T S sky st:=
 ⟨fun i hi=>(i1 i hi).1,fun i hi=>(i2 i hi).1,fun i hi=>(i3 i hi).1,fun i hi=>(i4 i hi).1,hs,ht⟩
theorem rH{M g L cp:Nat}{F:Nat->Nat}{v:World}(h:T8.Own M (.slice (some ⟨g,0,none⟩) L cp) ((List.range L).map F) v)(hF: ∀i,F i<256):Ti.IsW .u8 256 v (some ⟨g,0,none⟩) L F/\L<=cp/\cp<=9223372036854775807:=by
 have hl: ∀x ∈ (List.range L).map F,x<256:=fun x hx=>by
  obtain⟨i,_,rfl⟩:=List.mem_map.1 hx
  exact hF i
 refine⟨(own_w h (by simp) hl).congr fun i hi=>jL F L i hi,?_⟩
 obtain⟨a0,cap,e,i,h1,h2⟩:=h.at hl
 injection e with e1 e2 e3
 subst e3
 exact⟨by simpa using h1,h2⟩
end Sv
end
section
open Go.RowKit Tf Cu Go.Deep
attribute [local go_sem] aF aG aI aJ aK aL aM aC
namespace Sv
theorem bG(pa pb:Option Addr)(len ca cb:Nat)(xs ys:Nat->Nat)(r:Bool)(w:World)(hl:len<=281474976710656)(hA:IsFl w pa len xs)(hB:IsFl w pb len ys)(hy:(∀i,i<len->xs i=ys i)->r=true)(hn: ∀i,i<len->xs i≠ys i->r=false):
  Calls prog 18 #[.slice pa len ca,.slice pb len cb] w fun e w'=>e=.returned (.bool r)/\Ab w w':=by
 have HA:=hid hA
 have HB:=hid hB
 have HL:=hid hl
 have RY:=hid hy
 have RN:=hid hn
 clear hA hB hl hy hn
 go_enter func18,ntmps18
 go_wp2
 go_loopw [5] (fun iv wr=> ∃c:Nat,c<=len/\iv=.int .i64 (c:Nat)/\(∀i,i<c->xs i=ys i)/\Ab w wr) (fun iv _=>len - (intOf iv).toNat)
 case atStart=>exact⟨0,by omega,rfl,fun i hi=>absurd hi (Nat.not_lt_zero i),Ab.refl w⟩
 case round=>
  obtain⟨c,hc,rfl,g1,ar⟩:=hrel
  have AR:=hid ar
  have G1:=hid g1
  clear ar g1
  by_cases h:c<len
  ·have HC:=hid h
   obtain⟨x,hx⟩:=aB (xs c)
   obtain⟨y,hy⟩:=aB (ys c)
   obtain⟨-,b1,o1,e1,l1,c1⟩:=HA.out c h
   obtain⟨-,b2,o2,e2,l2,c2⟩:=HB.out c h
   rw[hx]at c1
   rw[hy]at c2
   have C1:=hid c1
   have C2:=hid c2
   have L1:=hid l1
   have L2:=hid l2
   have HX:=hid (show xs c=x/\ys c=y from⟨hx,hy⟩)
   have hcI:(c:Int)<len:=by omega
   have hcB:(c:Int)<=281474976710656:=by have:=HL.out;omega
   clear c1 c2 l1 l2 hx hy h hc
   subst e1 e2
   by_cases q:x=y
   ·subst q
    have SS:Hid (∀v:World,Calls prog 35 #[.float .f64 x,.float .f64 x] v fun e w'=>e=.returned (.bool true)/\Below v.heap.size v w'):=fun v=>by
     have h:=dP x x v
     rw[show sameB x x=true by unfold sameB;exact decide_eq_true rfl]at h
     exact h.mono fun _ _ ⟨he,hw⟩=>⟨he,by rw[hw];exact Below.refl _ _⟩
    go_upto_region 6 with fail
    obtain⟨UU,E,hF1,hF2⟩:=cls wr
    have HU:=hid hF2
    have HU1:=hid hF1
    have x1: ∀u,(E u).cell? ⟨b1,o1+c,none⟩=some (.float .f64 x):=fun u=>(Below.cell (AR.out.trans (hF1 u)) L1.out).trans C1.out
    have x2: ∀u,(E u).cell? ⟨b2,o2+c,none⟩=some (.float .f64 x):=fun u=>(Below.cell (AR.out.trans (hF1 u)) L2.out).trans C2.out
    have DD0:=HU.out _ (Ab.refl wr).drew
    clear hF1 hF2
    refine aO E (by kernel_rfl) (by kernel_rfl) DD0 ?_
    repeat(go_big_quiet_step (first
     | (with_reducible rfl)
     | (go_at_call 35;exact aQ HU HU1 (SS.out _))))
    refine wpQuiet_nil ?_
    intro z hwz
    obtain⟨u0,hu⟩:=hwz
    have AZ:Hid (Ab w z):=by rw[hu];exact AR.out.trans (HU1.out u0)
    clear hu u0
    clear HU HU1 DD0 x1 x2
    clear E UU
    go_wp2
    go_roundw
    case rel=>
     refine⟨c+1,by have:=HC.out;omega,by simp,fun i hi=> ?_,AZ.out⟩
     by_cases l:i<c
     ·exact G1.out i l
     ·obtain rfl:i=c:=by omega
      rw[HX.out.1,HX.out.2]
    case measure=>simp[intOf];have:=HC.out;omega
   ·have RR:Hid (r=false):=RN.out c HC.out (by rw[HX.out.1,HX.out.2];exact q)
    have SS:Hid (∀v:World,Calls prog 35 #[.float .f64 x,.float .f64 y] v fun e w'=>e=.returned (.bool false)/\Below v.heap.size v w'):=fun v=>by
     have h:=dP x y v
     rw[show sameB x y=false by unfold sameB;exact decide_eq_false q]at h
     exact h.mono fun _ _ ⟨he,hw⟩=>⟨he,by rw[hw];exact Below.refl _ _⟩
    go_upto_region 6 with fail
    obtain⟨UU,E,hF1,hF2⟩:=cls wr
    have HU:=hid hF2
    have HU1:=hid hF1
    have x1: ∀u,(E u).cell? ⟨b1,o1+c,none⟩=some (.float .f64 x):=fun u=>(Below.cell (AR.out.trans (hF1 u)) L1.out).trans C1.out
    have x2: ∀u,(E u).cell? ⟨b2,o2+c,none⟩=some (.float .f64 y):=fun u=>(Below.cell (AR.out.trans (hF1 u)) L2.out).trans C2.out
    have DD0:=HU.out _ (Ab.refl wr).drew
    clear hF1 hF2
    refine aO E (by kernel_rfl) (by kernel_rfl) DD0 ?_
    repeat(go_big_quiet_step (first
     | (with_reducible rfl)
     | (go_at_call 35;exact aQ HU HU1 (SS.out _))))
    refine wpQuiet_nil ?_
    intro z hwz
    obtain⟨u0,hu⟩:=hwz
    have AZ:Hid (Ab w z):=by rw[hu];exact AR.out.trans (HU1.out u0)
    clear hu u0
    clear HU HU1 DD0 x1 x2
    clear E UU
    go_wp2
    go_ret
    exact⟨by rw[RR.out];rfl,AZ.out⟩
  ·have e:len=c:=by omega
   subst e
   go_wp2
   go_ret
   exact⟨by rw[RY.out G1.out];rfl,AR.out⟩
theorem bM(pa pb:Option Addr)(len ca cb:Nat)(xs ys:Nat->Int)(r:Bool)(w:World)(hl:len<=281474976710656)(hA:Sh.IsI w pa len xs)(hB:Sh.IsI w pb len ys)(hy:(∀i,i<len->xs i=ys i)->r=true)(hn: ∀i,i<len->xs i≠ys i->r=false):
  Calls prog 34 #[.slice pa len ca,.slice pb len cb] w fun e w'=>e=.returned (.bool r)/\Ab w w':=by
 have HA:=hid hA
 have HB:=hid hB
 have HL:=hid hl
 have RY:=hid hy
 have RN:=hid hn
 clear hA hB hl hy hn
 go_enter func34,ntmps34
 go_wp2
 go_loopw [5] (fun iv wr=> ∃c:Nat,c<=len/\iv=.int .i64 (c:Nat)/\(∀i,i<c->xs i=ys i)/\Ab w wr) (fun iv _=>len - (intOf iv).toNat)
 case atStart=>exact⟨0,by omega,rfl,fun i hi=>absurd hi (Nat.not_lt_zero i),Ab.refl w⟩
 case round=>
  obtain⟨c,hc,rfl,g1,ar⟩:=hrel
  have AR:=hid ar
  have G1:=hid g1
  clear ar g1
  by_cases h:c<len
  ·have HC:=hid h
   obtain⟨x,hx⟩:=aB (xs c)
   obtain⟨y,hy⟩:=aB (ys c)
   obtain⟨-,b1,o1,e1,l1,c1⟩:=HA.out c h
   obtain⟨-,b2,o2,e2,l2,c2⟩:=HB.out c h
   rw[hx]at c1
   rw[hy]at c2
   have C1:=hid c1
   have C2:=hid c2
   have L1:=hid l1
   have L2:=hid l2
   have HX:=hid (show xs c=x/\ys c=y from⟨hx,hy⟩)
   have hcI:(c:Int)<len:=by omega
   have hcB:(c:Int)<=281474976710656:=by have:=HL.out;omega
   clear c1 c2 l1 l2 hx hy h hc
   subst e1 e2
   by_cases q:x=y
   ·subst q
    go_upto_region 6 with fail
    obtain⟨UU,E,hF1,hF2⟩:=cls wr
    have HU:=hid hF2
    have HU1:=hid hF1
    have x1: ∀u,(E u).cell? ⟨b1,o1+c,none⟩=some (.int .i64 x):=fun u=>(Below.cell (AR.out.trans (hF1 u)) L1.out).trans C1.out
    have x2: ∀u,(E u).cell? ⟨b2,o2+c,none⟩=some (.int .i64 x):=fun u=>(Below.cell (AR.out.trans (hF1 u)) L2.out).trans C2.out
    have DD0:=HU.out _ (Ab.refl wr).drew
    clear hF1 hF2
    refine aO E (by kernel_rfl) (by kernel_rfl) DD0 ?_
    repeat(go_big_quiet_step (with_reducible rfl))
    refine wpQuiet_nil ?_
    intro z hwz
    obtain⟨u0,hu⟩:=hwz
    have AZ:Hid (Ab w z):=by rw[hu];exact AR.out.trans (HU1.out u0)
    clear hu u0
    clear HU HU1 DD0 x1 x2
    clear E UU
    go_wp2
    go_roundw
    case rel=>
     refine⟨c+1,by have:=HC.out;omega,by simp,fun i hi=> ?_,AZ.out⟩
     by_cases l:i<c
     ·exact G1.out i l
     ·obtain rfl:i=c:=by omega
      rw[HX.out.1,HX.out.2]
    case measure=>simp[intOf];have:=HC.out;omega
   ·have RR:Hid (r=false):=RN.out c HC.out (by rw[HX.out.1,HX.out.2];exact q)
    have nq:((x:Int) != (y:Int))=true:=by simpa using q
    go_upto_region 6 with fail
    obtain⟨UU,E,hF1,hF2⟩:=cls wr
    have HU:=hid hF2
    have HU1:=hid hF1
    have x1: ∀u,(E u).cell? ⟨b1,o1+c,none⟩=some (.int .i64 x):=fun u=>(Below.cell (AR.out.trans (hF1 u)) L1.out).trans C1.out
    have x2: ∀u,(E u).cell? ⟨b2,o2+c,none⟩=some (.int .i64 y):=fun u=>(Below.cell (AR.out.trans (hF1 u)) L2.out).trans C2.out
    have DD0:=HU.out _ (Ab.refl wr).drew
    clear hF1 hF2
    refine aO E (by kernel_rfl) (by kernel_rfl) DD0 ?_
    repeat(go_big_quiet_step (with_reducible rfl))
    refine wpQuiet_nil ?_
    intro z hwz
    obtain⟨u0,hu⟩:=hwz
    have AZ:Hid (Ab w z):=by rw[hu];exact AR.out.trans (HU1.out u0)
    clear hu u0
    clear HU HU1 DD0 x1 x2
    clear E UU
    go_wp2
    go_ret
    exact⟨by rw[RR.out];rfl,AZ.out⟩
  ·have e:len=c:=by omega
   subst e
   go_wp2
   go_ret
   exact⟨by rw[RY.out G1.out];rfl,AR.out⟩
def same4(lb lw lt ls:Nat)(B B':Nat->Nat)(W W' T T':Nat->Int)(S S':Nat->Nat)(sky sky' st st':Int):Prop:=(∀i,i<lb->B i=B' i)/\(∀i,i<ls->S i=S' i)/\(∀i,i<lw->W i=W' i)/\(∀i,i<lt->T i=T' i)/\sky=sky'/\st=st'
theorem bN(w:World)(O:Obj):(w.alloc O).heap.size=w.heap.size+1:=by show(w.heap.push O).size=_;rw[Array.size_push]
theorem seas_0(lb lw lt ls:Nat)(pb:Option Addr)(cb:Nat)(B:Nat->Nat)(pw:Option Addr)(cw:Nat)(W:Nat->Int)(pt:Option Addr)(ct:Nat)(T:Nat->Int)(ps:Option Addr)(cs:Nat)(S:Nat->Nat)(sky st:Int)(pb':Option Addr)(cb':Nat)(B':Nat->Nat)(pw':Option Addr)(cw':Nat)(W':Nat->Int)(pt':Option Addr)(ct':Nat)(T':Nat->Int)(ps':Option Addr)(cs':Nat)(S':Nat->Nat)(sky' st':Int)(w:World)(hl:lb<=281474976710656/\lw<=281474976710656/\lt<=281474976710656/\ls<=281474976710656)(i1:IsFl w pb lb B)(_i2:Sh.IsI w pw lw W)(_i3:Sh.IsI w pt lt T)(_i4:IsFl w ps ls S)(j1:IsFl w pb' lb B')(_j2:Sh.IsI w pw' lw W')(_j3:Sh.IsI w pt' lt T')(_j4:IsFl w ps' ls S')(k:Nat)(hk:k<lb)(hd:B k≠B' k):
  Calls prog 13 #[.agg #[.slice pb lb cb,.slice pw lw cw,.slice pt lt ct,.slice ps ls cs,.int .i64 sky,.int .i64 st],.agg #[.slice pb' lb cb',.slice pw' lw cw',.slice pt' lt ct',.slice ps' ls cs',.int .i64 sky',.int .i64 st']] w fun e w'=>e=.returned (.bool false)/\Ab w w':=by
 have C0:=hid (fun v (a:Ab w v)=>bG pb pb' lb cb cb' B B' false v hl.1 (i1.below a) (j1.below a) (fun q=>absurd (q k hk) hd) (fun _ _ _=>rfl))
 clear hl i1 _i2 _i3 _i4 j1 _j2 _j3 _j4 hk hd
 have A0:=bF (bl2 w (.cells #[.slice pb lb cb,.slice pw lw cw,.slice pt lt ct,.slice ps ls cs,.int .i64 sky,.int .i64 st] 25) (.cells #[.slice pb' lb cb',.slice pw' lw cw',.slice pt' lt ct',.slice ps' ls cs',.int .i64 sky',.int .i64 st'] 25))
 have R0:Hid (((w.alloc (.cells #[.slice pb lb cb,.slice pw lw cw,.slice pt lt ct,.slice ps ls cs,.int .i64 sky,.int .i64 st] 25)).alloc (.cells #[.slice pb' lb cb',.slice pw' lw cw',.slice pt' lt ct',.slice ps' ls cs',.int .i64 sky',.int .i64 st'] 25)).heap[w.heap.size]? =some (.cells #[.slice pb lb cb,.slice pw lw cw,.slice pt lt ct,.slice ps ls cs,.int .i64 sky,.int .i64 st] 25)):=Ab.heap (bl1 _ _) (heap_alloc_new _ _)
 have Q0:Hid (((w.alloc (.cells #[.slice pb lb cb,.slice pw lw cw,.slice pt lt ct,.slice ps ls cs,.int .i64 sky,.int .i64 st] 25)).alloc (.cells #[.slice pb' lb cb',.slice pw' lw cw',.slice pt' lt ct',.slice ps' ls cs',.int .i64 sky',.int .i64 st'] 25)).heap[w.heap.size+1]? =some (.cells #[.slice pb' lb cb',.slice pw' lw cw',.slice pt' lt ct',.slice ps' ls cs',.int .i64 sky',.int .i64 st'] 25)):=by
  have q:=heap_alloc_new (w.alloc (.cells #[.slice pb lb cb,.slice pw lw cw,.slice pt lt ct,.slice ps ls cs,.int .i64 sky,.int .i64 st] 25)) (.cells #[.slice pb' lb cb',.slice pw' lw cw',.slice pt' lt ct',.slice ps' ls cs',.int .i64 sky',.int .i64 st'] 25)
  rw[bN]at q
  exact q
 go_enter func13,ntmps13
 go_upto_region 1 with fail
 generalize hW:World.alloc (World.alloc w _) _=v0 at*
 obtain⟨ga,hga⟩:=aB w.heap.size
 obtain⟨gb,hgb⟩:=aB (w.heap.size+1)
 rw[hgb]at Q0 ⊢
 rw[hga]at R0 ⊢
 clear hW hga hgb
 have B0:Hid (Ab v0 v0):=Ab.refl _
 have x0:=aA 0 (B0.out.heap R0.out)
 have y0:=aA 0 (B0.out.heap Q0.out)
 have x1:=aA 1 (B0.out.heap R0.out)
 have y1:=aA 1 (B0.out.heap Q0.out)
 have x2:=aA 2 (B0.out.heap R0.out)
 have y2:=aA 2 (B0.out.heap Q0.out)
 have x3:=aA 3 (B0.out.heap R0.out)
 have y3:=aA 3 (B0.out.heap Q0.out)
 have x4:=aA 4 (B0.out.heap R0.out)
 have y4:=aA 4 (B0.out.heap Q0.out)
 have x5:=aA 5 (B0.out.heap R0.out)
 have y5:=aA 5 (B0.out.heap Q0.out)
 go_wp2_with fail
 refine(C0.out v0 (A0.out.trans B0.out)).mono ?_
 rintro e9 v1 ⟨rfl,b9⟩
 have B1:Hid (Ab v0 v1):=B0.out.trans b9
 clear b9 C0 B0 x0 x1 x2 x3 x4 x5 y0 y1 y2 y3 y4 y5
 go_wp2
 go_ret
 exact⟨rfl,A0.out.trans B1.out⟩
theorem seas_1(lb lw lt ls:Nat)(pb:Option Addr)(cb:Nat)(B:Nat->Nat)(pw:Option Addr)(cw:Nat)(W:Nat->Int)(pt:Option Addr)(ct:Nat)(T:Nat->Int)(ps:Option Addr)(cs:Nat)(S:Nat->Nat)(sky st:Int)(pb':Option Addr)(cb':Nat)(B':Nat->Nat)(pw':Option Addr)(cw':Nat)(W':Nat->Int)(pt':Option Addr)(ct':Nat)(T':Nat->Int)(ps':Option Addr)(cs':Nat)(S':Nat->Nat)(sky' st':Int)(w:World)(hl:lb<=281474976710656/\lw<=281474976710656/\lt<=281474976710656/\ls<=281474976710656)(i1:IsFl w pb lb B)(_i2:Sh.IsI w pw lw W)(_i3:Sh.IsI w pt lt T)(i4:IsFl w ps ls S)(j1:IsFl w pb' lb B')(_j2:Sh.IsI w pw' lw W')(_j3:Sh.IsI w pt' lt T')(j4:IsFl w ps' ls S')(e0: ∀i,i<lb->B i=B' i)(k:Nat)(hk:k<ls)(hd:S k≠S' k):
  Calls prog 13 #[.agg #[.slice pb lb cb,.slice pw lw cw,.slice pt lt ct,.slice ps ls cs,.int .i64 sky,.int .i64 st],.agg #[.slice pb' lb cb',.slice pw' lw cw',.slice pt' lt ct',.slice ps' ls cs',.int .i64 sky',.int .i64 st']] w fun e w'=>e=.returned (.bool false)/\Ab w w':=by
 have C0:=hid (fun v (a:Ab w v)=>bG pb pb' lb cb cb' B B' true v hl.1 (i1.below a) (j1.below a) (fun _=>rfl) (fun i hi q=>absurd (e0 i hi) q))
 have C1:=hid (fun v (a:Ab w v)=>bG ps ps' ls cs cs' S S' false v hl.2.2.2 (i4.below a) (j4.below a) (fun q=>absurd (q k hk) hd) (fun _ _ _=>rfl))
 clear hl i1 _i2 _i3 i4 j1 _j2 _j3 j4 hk hd e0
 have A0:=bF (bl2 w (.cells #[.slice pb lb cb,.slice pw lw cw,.slice pt lt ct,.slice ps ls cs,.int .i64 sky,.int .i64 st] 25) (.cells #[.slice pb' lb cb',.slice pw' lw cw',.slice pt' lt ct',.slice ps' ls cs',.int .i64 sky',.int .i64 st'] 25))
 have R0:Hid (((w.alloc (.cells #[.slice pb lb cb,.slice pw lw cw,.slice pt lt ct,.slice ps ls cs,.int .i64 sky,.int .i64 st] 25)).alloc (.cells #[.slice pb' lb cb',.slice pw' lw cw',.slice pt' lt ct',.slice ps' ls cs',.int .i64 sky',.int .i64 st'] 25)).heap[w.heap.size]? =some (.cells #[.slice pb lb cb,.slice pw lw cw,.slice pt lt ct,.slice ps ls cs,.int .i64 sky,.int .i64 st] 25)):=Ab.heap (bl1 _ _) (heap_alloc_new _ _)
 have Q0:Hid (((w.alloc (.cells #[.slice pb lb cb,.slice pw lw cw,.slice pt lt ct,.slice ps ls cs,.int .i64 sky,.int .i64 st] 25)).alloc (.cells #[.slice pb' lb cb',.slice pw' lw cw',.slice pt' lt ct',.slice ps' ls cs',.int .i64 sky',.int .i64 st'] 25)).heap[w.heap.size+1]? =some (.cells #[.slice pb' lb cb',.slice pw' lw cw',.slice pt' lt ct',.slice ps' ls cs',.int .i64 sky',.int .i64 st'] 25)):=by
  have q:=heap_alloc_new (w.alloc (.cells #[.slice pb lb cb,.slice pw lw cw,.slice pt lt ct,.slice ps ls cs,.int .i64 sky,.int .i64 st] 25)) (.cells #[.slice pb' lb cb',.slice pw' lw cw',.slice pt' lt ct',.slice ps' ls cs',.int .i64 sky',.int .i64 st'] 25)
  rw[bN]at q
  exact q
 go_enter func13,ntmps13
 go_upto_region 1 with fail
 generalize hW:World.alloc (World.alloc w _) _=v0 at*
 obtain⟨ga,hga⟩:=aB w.heap.size
 obtain⟨gb,hgb⟩:=aB (w.heap.size+1)
 rw[hgb]at Q0 ⊢
 rw[hga]at R0 ⊢
 clear hW hga hgb
 have B0:Hid (Ab v0 v0):=Ab.refl _
 have x0:=aA 0 (B0.out.heap R0.out)
 have y0:=aA 0 (B0.out.heap Q0.out)
 have x1:=aA 1 (B0.out.heap R0.out)
 have y1:=aA 1 (B0.out.heap Q0.out)
 have x2:=aA 2 (B0.out.heap R0.out)
 have y2:=aA 2 (B0.out.heap Q0.out)
 have x3:=aA 3 (B0.out.heap R0.out)
 have y3:=aA 3 (B0.out.heap Q0.out)
 have x4:=aA 4 (B0.out.heap R0.out)
 have y4:=aA 4 (B0.out.heap Q0.out)
 have x5:=aA 5 (B0.out.heap R0.out)
 have y5:=aA 5 (B0.out.heap Q0.out)
 go_wp2_with fail
 refine(C0.out v0 (A0.out.trans B0.out)).mono ?_
 rintro e9 v1 ⟨rfl,b9⟩
 have B1:Hid (Ab v0 v1):=B0.out.trans b9
 clear b9 C0 B0 x0 x1 x2 x3 x4 x5 y0 y1 y2 y3 y4 y5
 have x0:=aA 0 (B1.out.heap R0.out)
 have y0:=aA 0 (B1.out.heap Q0.out)
 have x1:=aA 1 (B1.out.heap R0.out)
 have y1:=aA 1 (B1.out.heap Q0.out)
 have x2:=aA 2 (B1.out.heap R0.out)
 have y2:=aA 2 (B1.out.heap Q0.out)
 have x3:=aA 3 (B1.out.heap R0.out)
 have y3:=aA 3 (B1.out.heap Q0.out)
 have x4:=aA 4 (B1.out.heap R0.out)
 have y4:=aA 4 (B1.out.heap Q0.out)
 have x5:=aA 5 (B1.out.heap R0.out)
 have y5:=aA 5 (B1.out.heap Q0.out)
 go_wp2_with fail
 refine(C1.out v1 (A0.out.trans B1.out)).mono ?_
 rintro e9 v2 ⟨rfl,b9⟩
 have B2:Hid (Ab v0 v2):=B1.out.trans b9
 clear b9 C1 B1 x0 x1 x2 x3 x4 x5 y0 y1 y2 y3 y4 y5
 go_wp2
 go_ret
 exact⟨rfl,A0.out.trans B2.out⟩
theorem seas_2(lb lw lt ls:Nat)(pb:Option Addr)(cb:Nat)(B:Nat->Nat)(pw:Option Addr)(cw:Nat)(W:Nat->Int)(pt:Option Addr)(ct:Nat)(T:Nat->Int)(ps:Option Addr)(cs:Nat)(S:Nat->Nat)(sky st:Int)(pb':Option Addr)(cb':Nat)(B':Nat->Nat)(pw':Option Addr)(cw':Nat)(W':Nat->Int)(pt':Option Addr)(ct':Nat)(T':Nat->Int)(ps':Option Addr)(cs':Nat)(S':Nat->Nat)(sky' st':Int)(w:World)(hl:lb<=281474976710656/\lw<=281474976710656/\lt<=281474976710656/\ls<=281474976710656)(i1:IsFl w pb lb B)(i2:Sh.IsI w pw lw W)(_i3:Sh.IsI w pt lt T)(i4:IsFl w ps ls S)(j1:IsFl w pb' lb B')(j2:Sh.IsI w pw' lw W')(_j3:Sh.IsI w pt' lt T')(j4:IsFl w ps' ls S')(e0: ∀i,i<lb->B i=B' i)(e1: ∀i,i<ls->S i=S' i)(k:Nat)(hk:k<lw)(hd:W k≠W' k):
  Calls prog 13 #[.agg #[.slice pb lb cb,.slice pw lw cw,.slice pt lt ct,.slice ps ls cs,.int .i64 sky,.int .i64 st],.agg #[.slice pb' lb cb',.slice pw' lw cw',.slice pt' lt ct',.slice ps' ls cs',.int .i64 sky',.int .i64 st']] w fun e w'=>e=.returned (.bool false)/\Ab w w':=by
 have C0:=hid (fun v (a:Ab w v)=>bG pb pb' lb cb cb' B B' true v hl.1 (i1.below a) (j1.below a) (fun _=>rfl) (fun i hi q=>absurd (e0 i hi) q))
 have C1:=hid (fun v (a:Ab w v)=>bG ps ps' ls cs cs' S S' true v hl.2.2.2 (i4.below a) (j4.below a) (fun _=>rfl) (fun i hi q=>absurd (e1 i hi) q))
 have C2:=hid (fun v (a:Ab w v)=>bM pw pw' lw cw cw' W W' false v hl.2.1 (i2.below a) (j2.below a) (fun q=>absurd (q k hk) hd) (fun _ _ _=>rfl))
 clear hl i1 i2 _i3 i4 j1 j2 _j3 j4 hk hd e0 e1
 have A0:=bF (bl2 w (.cells #[.slice pb lb cb,.slice pw lw cw,.slice pt lt ct,.slice ps ls cs,.int .i64 sky,.int .i64 st] 25) (.cells #[.slice pb' lb cb',.slice pw' lw cw',.slice pt' lt ct',.slice ps' ls cs',.int .i64 sky',.int .i64 st'] 25))
 have R0:Hid (((w.alloc (.cells #[.slice pb lb cb,.slice pw lw cw,.slice pt lt ct,.slice ps ls cs,.int .i64 sky,.int .i64 st] 25)).alloc (.cells #[.slice pb' lb cb',.slice pw' lw cw',.slice pt' lt ct',.slice ps' ls cs',.int .i64 sky',.int .i64 st'] 25)).heap[w.heap.size]? =some (.cells #[.slice pb lb cb,.slice pw lw cw,.slice pt lt ct,.slice ps ls cs,.int .i64 sky,.int .i64 st] 25)):=Ab.heap (bl1 _ _) (heap_alloc_new _ _)
 have Q0:Hid (((w.alloc (.cells #[.slice pb lb cb,.slice pw lw cw,.slice pt lt ct,.slice ps ls cs,.int .i64 sky,.int .i64 st] 25)).alloc (.cells #[.slice pb' lb cb',.slice pw' lw cw',.slice pt' lt ct',.slice ps' ls cs',.int .i64 sky',.int .i64 st'] 25)).heap[w.heap.size+1]? =some (.cells #[.slice pb' lb cb',.slice pw' lw cw',.slice pt' lt ct',.slice ps' ls cs',.int .i64 sky',.int .i64 st'] 25)):=by
  have q:=heap_alloc_new (w.alloc (.cells #[.slice pb lb cb,.slice pw lw cw,.slice pt lt ct,.slice ps ls cs,.int .i64 sky,.int .i64 st] 25)) (.cells #[.slice pb' lb cb',.slice pw' lw cw',.slice pt' lt ct',.slice ps' ls cs',.int .i64 sky',.int .i64 st'] 25)
  rw[bN]at q
  exact q
 go_enter func13,ntmps13
 go_upto_region 1 with fail
 generalize hW:World.alloc (World.alloc w _) _=v0 at*
 obtain⟨ga,hga⟩:=aB w.heap.size
 obtain⟨gb,hgb⟩:=aB (w.heap.size+1)
 rw[hgb]at Q0 ⊢
 rw[hga]at R0 ⊢
 clear hW hga hgb
 have B0:Hid (Ab v0 v0):=Ab.refl _
 have x0:=aA 0 (B0.out.heap R0.out)
 have y0:=aA 0 (B0.out.heap Q0.out)
 have x1:=aA 1 (B0.out.heap R0.out)
 have y1:=aA 1 (B0.out.heap Q0.out)
 have x2:=aA 2 (B0.out.heap R0.out)
 have y2:=aA 2 (B0.out.heap Q0.out)
 have x3:=aA 3 (B0.out.heap R0.out)
 have y3:=aA 3 (B0.out.heap Q0.out)
 have x4:=aA 4 (B0.out.heap R0.out)
 have y4:=aA 4 (B0.out.heap Q0.out)
 have x5:=aA 5 (B0.out.heap R0.out)
 have y5:=aA 5 (B0.out.heap Q0.out)
 go_wp2_with fail
 refine(C0.out v0 (A0.out.trans B0.out)).mono ?_
 rintro e9 v1 ⟨rfl,b9⟩
 have B1:Hid (Ab v0 v1):=B0.out.trans b9
 clear b9 C0 B0 x0 x1 x2 x3 x4 x5 y0 y1 y2 y3 y4 y5
 have x0:=aA 0 (B1.out.heap R0.out)
 have y0:=aA 0 (B1.out.heap Q0.out)
 have x1:=aA 1 (B1.out.heap R0.out)
 have y1:=aA 1 (B1.out.heap Q0.out)
 have x2:=aA 2 (B1.out.heap R0.out)
 have y2:=aA 2 (B1.out.heap Q0.out)
 have x3:=aA 3 (B1.out.heap R0.out)
 have y3:=aA 3 (B1.out.heap Q0.out)
 have x4:=aA 4 (B1.out.heap R0.out)
 have y4:=aA 4 (B1.out.heap Q0.out)
 have x5:=aA 5 (B1.out.heap R0.out)
 have y5:=aA 5 (B1.out.heap Q0.out)
 go_wp2_with fail
 refine(C1.out v1 (A0.out.trans B1.out)).mono ?_
 rintro e9 v2 ⟨rfl,b9⟩
 have B2:Hid (Ab v0 v2):=B1.out.trans b9
 clear b9 C1 B1 x0 x1 x2 x3 x4 x5 y0 y1 y2 y3 y4 y5
 have x0:=aA 0 (B2.out.heap R0.out)
 have y0:=aA 0 (B2.out.heap Q0.out)
 have x1:=aA 1 (B2.out.heap R0.out)
 have y1:=aA 1 (B2.out.heap Q0.out)
 have x2:=aA 2 (B2.out.heap R0.out)
 have y2:=aA 2 (B2.out.heap Q0.out)
 have x3:=aA 3 (B2.out.heap R0.out)
 have y3:=aA 3 (B2.out.heap Q0.out)
 have x4:=aA 4 (B2.out.heap R0.out)
 have y4:=aA 4 (B2.out.heap Q0.out)
 have x5:=aA 5 (B2.out.heap R0.out)
 have y5:=aA 5 (B2.out.heap Q0.out)
 go_wp2_with fail
 refine(C2.out v2 (A0.out.trans B2.out)).mono ?_
 rintro e9 v3 ⟨rfl,b9⟩
 have B3:Hid (Ab v0 v3):=B2.out.trans b9
 clear b9 C2 B2 x0 x1 x2 x3 x4 x5 y0 y1 y2 y3 y4 y5
 go_wp2
 go_ret
 exact⟨rfl,A0.out.trans B3.out⟩
theorem seas_3(lb lw lt ls:Nat)(pb:Option Addr)(cb:Nat)(B:Nat->Nat)(pw:Option Addr)(cw:Nat)(W:Nat->Int)(pt:Option Addr)(ct:Nat)(T:Nat->Int)(ps:Option Addr)(cs:Nat)(S:Nat->Nat)(sky st:Int)(pb':Option Addr)(cb':Nat)(B':Nat->Nat)(pw':Option Addr)(cw':Nat)(W':Nat->Int)(pt':Option Addr)(ct':Nat)(T':Nat->Int)(ps':Option Addr)(cs':Nat)(S':Nat->Nat)(sky' st':Int)(w:World)(hl:lb<=281474976710656/\lw<=281474976710656/\lt<=281474976710656/\ls<=281474976710656)(i1:IsFl w pb lb B)(i2:Sh.IsI w pw lw W)(i3:Sh.IsI w pt lt T)(i4:IsFl w ps ls S)(j1:IsFl w pb' lb B')(j2:Sh.IsI w pw' lw W')(j3:Sh.IsI w pt' lt T')(j4:IsFl w ps' ls S')(e0: ∀i,i<lb->B i=B' i)(e1: ∀i,i<ls->S i=S' i)(e2: ∀i,i<lw->W i=W' i)(k:Nat)(hk:k<lt)(hd:T k≠T' k):
  Calls prog 13 #[.agg #[.slice pb lb cb,.slice pw lw cw,.slice pt lt ct,.slice ps ls cs,.int .i64 sky,.int .i64 st],.agg #[.slice pb' lb cb',.slice pw' lw cw',.slice pt' lt ct',.slice ps' ls cs',.int .i64 sky',.int .i64 st']] w fun e w'=>e=.returned (.bool false)/\Ab w w':=by
 have C0:=hid (fun v (a:Ab w v)=>bG pb pb' lb cb cb' B B' true v hl.1 (i1.below a) (j1.below a) (fun _=>rfl) (fun i hi q=>absurd (e0 i hi) q))
 have C1:=hid (fun v (a:Ab w v)=>bG ps ps' ls cs cs' S S' true v hl.2.2.2 (i4.below a) (j4.below a) (fun _=>rfl) (fun i hi q=>absurd (e1 i hi) q))
 have C2:=hid (fun v (a:Ab w v)=>bM pw pw' lw cw cw' W W' true v hl.2.1 (i2.below a) (j2.below a) (fun _=>rfl) (fun i hi q=>absurd (e2 i hi) q))
 have C3:=hid (fun v (a:Ab w v)=>bM pt pt' lt ct ct' T T' false v hl.2.2.1 (i3.below a) (j3.below a) (fun q=>absurd (q k hk) hd) (fun _ _ _=>rfl))
 clear hl i1 i2 i3 i4 j1 j2 j3 j4 hk hd e0 e1 e2
 have A0:=bF (bl2 w (.cells #[.slice pb lb cb,.slice pw lw cw,.slice pt lt ct,.slice ps ls cs,.int .i64 sky,.int .i64 st] 25) (.cells #[.slice pb' lb cb',.slice pw' lw cw',.slice pt' lt ct',.slice ps' ls cs',.int .i64 sky',.int .i64 st'] 25))
 have R0:Hid (((w.alloc (.cells #[.slice pb lb cb,.slice pw lw cw,.slice pt lt ct,.slice ps ls cs,.int .i64 sky,.int .i64 st] 25)).alloc (.cells #[.slice pb' lb cb',.slice pw' lw cw',.slice pt' lt ct',.slice ps' ls cs',.int .i64 sky',.int .i64 st'] 25)).heap[w.heap.size]? =some (.cells #[.slice pb lb cb,.slice pw lw cw,.slice pt lt ct,.slice ps ls cs,.int .i64 sky,.int .i64 st] 25)):=Ab.heap (bl1 _ _) (heap_alloc_new _ _)
 have Q0:Hid (((w.alloc (.cells #[.slice pb lb cb,.slice pw lw cw,.slice pt lt ct,.slice ps ls cs,.int .i64 sky,.int .i64 st] 25)).alloc (.cells #[.slice pb' lb cb',.slice pw' lw cw',.slice pt' lt ct',.slice ps' ls cs',.int .i64 sky',.int .i64 st'] 25)).heap[w.heap.size+1]? =some (.cells #[.slice pb' lb cb',.slice pw' lw cw',.slice pt' lt ct',.slice ps' ls cs',.int .i64 sky',.int .i64 st'] 25)):=by
  have q:=heap_alloc_new (w.alloc (.cells #[.slice pb lb cb,.slice pw lw cw,.slice pt lt ct,.slice ps ls cs,.int .i64 sky,.int .i64 st] 25)) (.cells #[.slice pb' lb cb',.slice pw' lw cw',.slice pt' lt ct',.slice ps' ls cs',.int .i64 sky',.int .i64 st'] 25)
  rw[bN]at q
  exact q
 go_enter func13,ntmps13
 go_upto_region 1 with fail
 generalize hW:World.alloc (World.alloc w _) _=v0 at*
 obtain⟨ga,hga⟩:=aB w.heap.size
 obtain⟨gb,hgb⟩:=aB (w.heap.size+1)
 rw[hgb]at Q0 ⊢
 rw[hga]at R0 ⊢
 clear hW hga hgb
 have B0:Hid (Ab v0 v0):=Ab.refl _
 have x0:=aA 0 (B0.out.heap R0.out)
 have y0:=aA 0 (B0.out.heap Q0.out)
 have x1:=aA 1 (B0.out.heap R0.out)
 have y1:=aA 1 (B0.out.heap Q0.out)
 have x2:=aA 2 (B0.out.heap R0.out)
 have y2:=aA 2 (B0.out.heap Q0.out)
 have x3:=aA 3 (B0.out.heap R0.out)
 have y3:=aA 3 (B0.out.heap Q0.out)
 have x4:=aA 4 (B0.out.heap R0.out)
 have y4:=aA 4 (B0.out.heap Q0.out)
 have x5:=aA 5 (B0.out.heap R0.out)
 have y5:=aA 5 (B0.out.heap Q0.out)
 go_wp2_with fail
 refine(C0.out v0 (A0.out.trans B0.out)).mono ?_
 rintro e9 v1 ⟨rfl,b9⟩
 have B1:Hid (Ab v0 v1):=B0.out.trans b9
 clear b9 C0 B0 x0 x1 x2 x3 x4 x5 y0 y1 y2 y3 y4 y5
 have x0:=aA 0 (B1.out.heap R0.out)
 have y0:=aA 0 (B1.out.heap Q0.out)
 have x1:=aA 1 (B1.out.heap R0.out)
 have y1:=aA 1 (B1.out.heap Q0.out)
 have x2:=aA 2 (B1.out.heap R0.out)
 have y2:=aA 2 (B1.out.heap Q0.out)
 have x3:=aA 3 (B1.out.heap R0.out)
 have y3:=aA 3 (B1.out.heap Q0.out)
 have x4:=aA 4 (B1.out.heap R0.out)
 have y4:=aA 4 (B1.out.heap Q0.out)
 have x5:=aA 5 (B1.out.heap R0.out)
 have y5:=aA 5 (B1.out.heap Q0.out)
 go_wp2_with fail
 refine(C1.out v1 (A0.out.trans B1.out)).mono ?_
 rintro e9 v2 ⟨rfl,b9⟩
 have B2:Hid (Ab v0 v2):=B1.out.trans b9
 clear b9 C1 B1 x0 x1 x2 x3 x4 x5 y0 y1 y2 y3 y4 y5
 have x0:=aA 0 (B2.out.heap R0.out)
 have y0:=aA 0 (B2.out.heap Q0.out)
 have x1:=aA 1 (B2.out.heap R0.out)
 have y1:=aA 1 (B2.out.heap Q0.out)
 have x2:=aA 2 (B2.out.heap R0.out)
 have y2:=aA 2 (B2.out.heap Q0.out)
 have x3:=aA 3 (B2.out.heap R0.out)
 have y3:=aA 3 (B2.out.heap Q0.out)
 have x4:=aA 4 (B2.out.heap R0.out)
 have y4:=aA 4 (B2.out.heap Q0.out)
 have x5:=aA 5 (B2.out.heap R0.out)
 have y5:=aA 5 (B2.out.heap Q0.out)
 go_wp2_with fail
 refine(C2.out v2 (A0.out.trans B2.out)).mono ?_
 rintro e9 v3 ⟨rfl,b9⟩
 have B3:Hid (Ab v0 v3):=B2.out.trans b9
 clear b9 C2 B2 x0 x1 x2 x3 x4 x5 y0 y1 y2 y3 y4 y5
 have x0:=aA 0 (B3.out.heap R0.out)
 have y0:=aA 0 (B3.out.heap Q0.out)
 have x1:=aA 1 (B3.out.heap R0.out)
 have y1:=aA 1 (B3.out.heap Q0.out)
 have x2:=aA 2 (B3.out.heap R0.out)
 have y2:=aA 2 (B3.out.heap Q0.out)
 have x3:=aA 3 (B3.out.heap R0.out)
 have y3:=aA 3 (B3.out.heap Q0.out)
 have x4:=aA 4 (B3.out.heap R0.out)
 have y4:=aA 4 (B3.out.heap Q0.out)
 have x5:=aA 5 (B3.out.heap R0.out)
 have y5:=aA 5 (B3.out.heap Q0.out)
 go_wp2_with fail
 refine(C3.out v3 (A0.out.trans B3.out)).mono ?_
 rintro e9 v4 ⟨rfl,b9⟩
 have B4:Hid (Ab v0 v4):=B3.out.trans b9
 clear b9 C3 B3 x0 x1 x2 x3 x4 x5 y0 y1 y2 y3 y4 y5
 go_wp2
 go_ret
 exact⟨rfl,A0.out.trans B4.out⟩
theorem seas_4(lb lw lt ls:Nat)(pb:Option Addr)(cb:Nat)(B:Nat->Nat)(pw:Option Addr)(cw:Nat)(W:Nat->Int)(pt:Option Addr)(ct:Nat)(T:Nat->Int)(ps:Option Addr)(cs:Nat)(S:Nat->Nat)(sky st:Int)(pb':Option Addr)(cb':Nat)(B':Nat->Nat)(pw':Option Addr)(cw':Nat)(W':Nat->Int)(pt':Option Addr)(ct':Nat)(T':Nat->Int)(ps':Option Addr)(cs':Nat)(S':Nat->Nat)(sky' st':Int)(w:World)(hl:lb<=281474976710656/\lw<=281474976710656/\lt<=281474976710656/\ls<=281474976710656)(i1:IsFl w pb lb B)(i2:Sh.IsI w pw lw W)(i3:Sh.IsI w pt lt T)(i4:IsFl w ps ls S)(j1:IsFl w pb' lb B')(j2:Sh.IsI w pw' lw W')(j3:Sh.IsI w pt' lt T')(j4:IsFl w ps' ls S')(e0: ∀i,i<lb->B i=B' i)(e1: ∀i,i<ls->S i=S' i)(e2: ∀i,i<lw->W i=W' i)(e3: ∀i,i<lt->T i=T' i)(hd:sky≠sky'):
  Calls prog 13 #[.agg #[.slice pb lb cb,.slice pw lw cw,.slice pt lt ct,.slice ps ls cs,.int .i64 sky,.int .i64 st],.agg #[.slice pb' lb cb',.slice pw' lw cw',.slice pt' lt ct',.slice ps' ls cs',.int .i64 sky',.int .i64 st']] w fun e w'=>e=.returned (.bool false)/\Ab w w':=by
 have C0:=hid (fun v (a:Ab w v)=>bG pb pb' lb cb cb' B B' true v hl.1 (i1.below a) (j1.below a) (fun _=>rfl) (fun i hi q=>absurd (e0 i hi) q))
 have C1:=hid (fun v (a:Ab w v)=>bG ps ps' ls cs cs' S S' true v hl.2.2.2 (i4.below a) (j4.below a) (fun _=>rfl) (fun i hi q=>absurd (e1 i hi) q))
 have C2:=hid (fun v (a:Ab w v)=>bM pw pw' lw cw cw' W W' true v hl.2.1 (i2.below a) (j2.below a) (fun _=>rfl) (fun i hi q=>absurd (e2 i hi) q))
 have C3:=hid (fun v (a:Ab w v)=>bM pt pt' lt ct ct' T T' true v hl.2.2.1 (i3.below a) (j3.below a) (fun _=>rfl) (fun i hi q=>absurd (e3 i hi) q))
 clear hl i1 i2 i3 i4 j1 j2 j3 j4 e0 e1 e2 e3
 have n1:((sky:Int)==(sky':Int))=false:=by simpa using hd
 clear hd
 have A0:=bF (bl2 w (.cells #[.slice pb lb cb,.slice pw lw cw,.slice pt lt ct,.slice ps ls cs,.int .i64 sky,.int .i64 st] 25) (.cells #[.slice pb' lb cb',.slice pw' lw cw',.slice pt' lt ct',.slice ps' ls cs',.int .i64 sky',.int .i64 st'] 25))
 have R0:Hid (((w.alloc (.cells #[.slice pb lb cb,.slice pw lw cw,.slice pt lt ct,.slice ps ls cs,.int .i64 sky,.int .i64 st] 25)).alloc (.cells #[.slice pb' lb cb',.slice pw' lw cw',.slice pt' lt ct',.slice ps' ls cs',.int .i64 sky',.int .i64 st'] 25)).heap[w.heap.size]? =some (.cells #[.slice pb lb cb,.slice pw lw cw,.slice pt lt ct,.slice ps ls cs,.int .i64 sky,.int .i64 st] 25)):=Ab.heap (bl1 _ _) (heap_alloc_new _ _)
 have Q0:Hid (((w.alloc (.cells #[.slice pb lb cb,.slice pw lw cw,.slice pt lt ct,.slice ps ls cs,.int .i64 sky,.int .i64 st] 25)).alloc (.cells #[.slice pb' lb cb',.slice pw' lw cw',.slice pt' lt ct',.slice ps' ls cs',.int .i64 sky',.int .i64 st'] 25)).heap[w.heap.size+1]? =some (.cells #[.slice pb' lb cb',.slice pw' lw cw',.slice pt' lt ct',.slice ps' ls cs',.int .i64 sky',.int .i64 st'] 25)):=by
  have q:=heap_alloc_new (w.alloc (.cells #[.slice pb lb cb,.slice pw lw cw,.slice pt lt ct,.slice ps ls cs,.int .i64 sky,.int .i64 st] 25)) (.cells #[.slice pb' lb cb',.slice pw' lw cw',.slice pt' lt ct',.slice ps' ls cs',.int .i64 sky',.int .i64 st'] 25)
  rw[bN]at q
  exact q
 go_enter func13,ntmps13
 go_upto_region 1 with fail
 generalize hW:World.alloc (World.alloc w _) _=v0 at*
 obtain⟨ga,hga⟩:=aB w.heap.size
 obtain⟨gb,hgb⟩:=aB (w.heap.size+1)
 rw[hgb]at Q0 ⊢
 rw[hga]at R0 ⊢
 clear hW hga hgb
 have B0:Hid (Ab v0 v0):=Ab.refl _
 have x0:=aA 0 (B0.out.heap R0.out)
 have y0:=aA 0 (B0.out.heap Q0.out)
 have x1:=aA 1 (B0.out.heap R0.out)
 have y1:=aA 1 (B0.out.heap Q0.out)
 have x2:=aA 2 (B0.out.heap R0.out)
 have y2:=aA 2 (B0.out.heap Q0.out)
 have x3:=aA 3 (B0.out.heap R0.out)
 have y3:=aA 3 (B0.out.heap Q0.out)
 have x4:=aA 4 (B0.out.heap R0.out)
 have y4:=aA 4 (B0.out.heap Q0.out)
 have x5:=aA 5 (B0.out.heap R0.out)
 have y5:=aA 5 (B0.out.heap Q0.out)
 go_wp2_with fail
 refine(C0.out v0 (A0.out.trans B0.out)).mono ?_
 rintro e9 v1 ⟨rfl,b9⟩
 have B1:Hid (Ab v0 v1):=B0.out.trans b9
 clear b9 C0 B0 x0 x1 x2 x3 x4 x5 y0 y1 y2 y3 y4 y5
 have x0:=aA 0 (B1.out.heap R0.out)
 have y0:=aA 0 (B1.out.heap Q0.out)
 have x1:=aA 1 (B1.out.heap R0.out)
 have y1:=aA 1 (B1.out.heap Q0.out)
 have x2:=aA 2 (B1.out.heap R0.out)
 have y2:=aA 2 (B1.out.heap Q0.out)
 have x3:=aA 3 (B1.out.heap R0.out)
 have y3:=aA 3 (B1.out.heap Q0.out)
 have x4:=aA 4 (B1.out.heap R0.out)
 have y4:=aA 4 (B1.out.heap Q0.out)
 have x5:=aA 5 (B1.out.heap R0.out)
 have y5:=aA 5 (B1.out.heap Q0.out)
 go_wp2_with fail
 refine(C1.out v1 (A0.out.trans B1.out)).mono ?_
 rintro e9 v2 ⟨rfl,b9⟩
 have B2:Hid (Ab v0 v2):=B1.out.trans b9
 clear b9 C1 B1 x0 x1 x2 x3 x4 x5 y0 y1 y2 y3 y4 y5
 have x0:=aA 0 (B2.out.heap R0.out)
 have y0:=aA 0 (B2.out.heap Q0.out)
 have x1:=aA 1 (B2.out.heap R0.out)
 have y1:=aA 1 (B2.out.heap Q0.out)
 have x2:=aA 2 (B2.out.heap R0.out)
 have y2:=aA 2 (B2.out.heap Q0.out)
 have x3:=aA 3 (B2.out.heap R0.out)
 have y3:=aA 3 (B2.out.heap Q0.out)
 have x4:=aA 4 (B2.out.heap R0.out)
 have y4:=aA 4 (B2.out.heap Q0.out)
 have x5:=aA 5 (B2.out.heap R0.out)
 have y5:=aA 5 (B2.out.heap Q0.out)
 go_wp2_with fail
 refine(C2.out v2 (A0.out.trans B2.out)).mono ?_
 rintro e9 v3 ⟨rfl,b9⟩
 have B3:Hid (Ab v0 v3):=B2.out.trans b9
 clear b9 C2 B2 x0 x1 x2 x3 x4 x5 y0 y1 y2 y3 y4 y5
 have x0:=aA 0 (B3.out.heap R0.out)
 have y0:=aA 0 (B3.out.heap Q0.out)
 have x1:=aA 1 (B3.out.heap R0.out)
 have y1:=aA 1 (B3.out.heap Q0.out)
 have x2:=aA 2 (B3.out.heap R0.out)
 have y2:=aA 2 (B3.out.heap Q0.out)
 have x3:=aA 3 (B3.out.heap R0.out)
 have y3:=aA 3 (B3.out.heap Q0.out)
 have x4:=aA 4 (B3.out.heap R0.out)
 have y4:=aA 4 (B3.out.heap Q0.out)
 have x5:=aA 5 (B3.out.heap R0.out)
 have y5:=aA 5 (B3.out.heap Q0.out)
 go_wp2_with fail
 refine(C3.out v3 (A0.out.trans B3.out)).mono ?_
 rintro e9 v4 ⟨rfl,b9⟩
 have B4:Hid (Ab v0 v4):=B3.out.trans b9
 clear b9 C3 B3 x0 x1 x2 x3 x4 x5 y0 y1 y2 y3 y4 y5
 have x0:=aA 0 (B4.out.heap R0.out)
 have y0:=aA 0 (B4.out.heap Q0.out)
 have x1:=aA 1 (B4.out.heap R0.out)
 have y1:=aA 1 (B4.out.heap Q0.out)
 have x2:=aA 2 (B4.out.heap R0.out)
 have y2:=aA 2 (B4.out.heap Q0.out)
 have x3:=aA 3 (B4.out.heap R0.out)
 have y3:=aA 3 (B4.out.heap Q0.out)
 have x4:=aA 4 (B4.out.heap R0.out)
 have y4:=aA 4 (B4.out.heap Q0.out)
 have x5:=aA 5 (B4.out.heap R0.out)
 have y5:=aA 5 (B4.out.heap Q0.out)
 go_wp2
 go_ret
 exact⟨rfl,A0.out.trans B4.out⟩
theorem seas_5(lb lw lt ls:Nat)(pb:Option Addr)(cb:Nat)(B:Nat->Nat)(pw:Option Addr)(cw:Nat)(W:Nat->Int)(pt:Option Addr)(ct:Nat)(T:Nat->Int)(ps:Option Addr)(cs:Nat)(S:Nat->Nat)(sky st:Int)(pb':Option Addr)(cb':Nat)(B':Nat->Nat)(pw':Option Addr)(cw':Nat)(W':Nat->Int)(pt':Option Addr)(ct':Nat)(T':Nat->Int)(ps':Option Addr)(cs':Nat)(S':Nat->Nat)(sky' st':Int)(w:World)(hl:lb<=281474976710656/\lw<=281474976710656/\lt<=281474976710656/\ls<=281474976710656)(i1:IsFl w pb lb B)(i2:Sh.IsI w pw lw W)(i3:Sh.IsI w pt lt T)(i4:IsFl w ps ls S)(j1:IsFl w pb' lb B')(j2:Sh.IsI w pw' lw W')(j3:Sh.IsI w pt' lt T')(j4:IsFl w ps' ls S')(e0: ∀i,i<lb->B i=B' i)(e1: ∀i,i<ls->S i=S' i)(e2: ∀i,i<lw->W i=W' i)(e3: ∀i,i<lt->T i=T' i)(hq:sky=sky')(hd:st≠st'):
  Calls prog 13 #[.agg #[.slice pb lb cb,.slice pw lw cw,.slice pt lt ct,.slice ps ls cs,.int .i64 sky,.int .i64 st],.agg #[.slice pb' lb cb',.slice pw' lw cw',.slice pt' lt ct',.slice ps' ls cs',.int .i64 sky',.int .i64 st']] w fun e w'=>e=.returned (.bool false)/\Ab w w':=by
 have C0:=hid (fun v (a:Ab w v)=>bG pb pb' lb cb cb' B B' true v hl.1 (i1.below a) (j1.below a) (fun _=>rfl) (fun i hi q=>absurd (e0 i hi) q))
 have C1:=hid (fun v (a:Ab w v)=>bG ps ps' ls cs cs' S S' true v hl.2.2.2 (i4.below a) (j4.below a) (fun _=>rfl) (fun i hi q=>absurd (e1 i hi) q))
 have C2:=hid (fun v (a:Ab w v)=>bM pw pw' lw cw cw' W W' true v hl.2.1 (i2.below a) (j2.below a) (fun _=>rfl) (fun i hi q=>absurd (e2 i hi) q))
 have C3:=hid (fun v (a:Ab w v)=>bM pt pt' lt ct ct' T T' true v hl.2.2.1 (i3.below a) (j3.below a) (fun _=>rfl) (fun i hi q=>absurd (e3 i hi) q))
 clear hl i1 i2 i3 i4 j1 j2 j3 j4 e0 e1 e2 e3
 subst hq
 have n1:((sky:Int)==(sky:Int))=true:=by simp
 have n2:((st:Int)==(st':Int))=false:=by simpa using hd
 clear hd
 have A0:=bF (bl2 w (.cells #[.slice pb lb cb,.slice pw lw cw,.slice pt lt ct,.slice ps ls cs,.int .i64 sky,.int .i64 st] 25) (.cells #[.slice pb' lb cb',.slice pw' lw cw',.slice pt' lt ct',.slice ps' ls cs',.int .i64 sky,.int .i64 st'] 25))
 have R0:Hid (((w.alloc (.cells #[.slice pb lb cb,.slice pw lw cw,.slice pt lt ct,.slice ps ls cs,.int .i64 sky,.int .i64 st] 25)).alloc (.cells #[.slice pb' lb cb',.slice pw' lw cw',.slice pt' lt ct',.slice ps' ls cs',.int .i64 sky,.int .i64 st'] 25)).heap[w.heap.size]? =some (.cells #[.slice pb lb cb,.slice pw lw cw,.slice pt lt ct,.slice ps ls cs,.int .i64 sky,.int .i64 st] 25)):=Ab.heap (bl1 _ _) (heap_alloc_new _ _)
 have Q0:Hid (((w.alloc (.cells #[.slice pb lb cb,.slice pw lw cw,.slice pt lt ct,.slice ps ls cs,.int .i64 sky,.int .i64 st] 25)).alloc (.cells #[.slice pb' lb cb',.slice pw' lw cw',.slice pt' lt ct',.slice ps' ls cs',.int .i64 sky,.int .i64 st'] 25)).heap[w.heap.size+1]? =some (.cells #[.slice pb' lb cb',.slice pw' lw cw',.slice pt' lt ct',.slice ps' ls cs',.int .i64 sky,.int .i64 st'] 25)):=by
  have q:=heap_alloc_new (w.alloc (.cells #[.slice pb lb cb,.slice pw lw cw,.slice pt lt ct,.slice ps ls cs,.int .i64 sky,.int .i64 st] 25)) (.cells #[.slice pb' lb cb',.slice pw' lw cw',.slice pt' lt ct',.slice ps' ls cs',.int .i64 sky,.int .i64 st'] 25)
  rw[bN]at q
  exact q
 go_enter func13,ntmps13
 go_upto_region 1 with fail
 generalize hW:World.alloc (World.alloc w _) _=v0 at*
 obtain⟨ga,hga⟩:=aB w.heap.size
 obtain⟨gb,hgb⟩:=aB (w.heap.size+1)
 rw[hgb]at Q0 ⊢
 rw[hga]at R0 ⊢
 clear hW hga hgb
 have B0:Hid (Ab v0 v0):=Ab.refl _
 have x0:=aA 0 (B0.out.heap R0.out)
 have y0:=aA 0 (B0.out.heap Q0.out)
 have x1:=aA 1 (B0.out.heap R0.out)
 have y1:=aA 1 (B0.out.heap Q0.out)
 have x2:=aA 2 (B0.out.heap R0.out)
 have y2:=aA 2 (B0.out.heap Q0.out)
 have x3:=aA 3 (B0.out.heap R0.out)
 have y3:=aA 3 (B0.out.heap Q0.out)
 have x4:=aA 4 (B0.out.heap R0.out)
 have y4:=aA 4 (B0.out.heap Q0.out)
 have x5:=aA 5 (B0.out.heap R0.out)
 have y5:=aA 5 (B0.out.heap Q0.out)
 go_wp2_with fail
 refine(C0.out v0 (A0.out.trans B0.out)).mono ?_
 rintro e9 v1 ⟨rfl,b9⟩
 have B1:Hid (Ab v0 v1):=B0.out.trans b9
 clear b9 C0 B0 x0 x1 x2 x3 x4 x5 y0 y1 y2 y3 y4 y5
 have x0:=aA 0 (B1.out.heap R0.out)
 have y0:=aA 0 (B1.out.heap Q0.out)
 have x1:=aA 1 (B1.out.heap R0.out)
 have y1:=aA 1 (B1.out.heap Q0.out)
 have x2:=aA 2 (B1.out.heap R0.out)
 have y2:=aA 2 (B1.out.heap Q0.out)
 have x3:=aA 3 (B1.out.heap R0.out)
 have y3:=aA 3 (B1.out.heap Q0.out)
 have x4:=aA 4 (B1.out.heap R0.out)
 have y4:=aA 4 (B1.out.heap Q0.out)
 have x5:=aA 5 (B1.out.heap R0.out)
 have y5:=aA 5 (B1.out.heap Q0.out)
 go_wp2_with fail
 refine(C1.out v1 (A0.out.trans B1.out)).mono ?_
 rintro e9 v2 ⟨rfl,b9⟩
 have B2:Hid (Ab v0 v2):=B1.out.trans b9
 clear b9 C1 B1 x0 x1 x2 x3 x4 x5 y0 y1 y2 y3 y4 y5
 have x0:=aA 0 (B2.out.heap R0.out)
 have y0:=aA 0 (B2.out.heap Q0.out)
 have x1:=aA 1 (B2.out.heap R0.out)
 have y1:=aA 1 (B2.out.heap Q0.out)
 have x2:=aA 2 (B2.out.heap R0.out)
 have y2:=aA 2 (B2.out.heap Q0.out)
 have x3:=aA 3 (B2.out.heap R0.out)
 have y3:=aA 3 (B2.out.heap Q0.out)
 have x4:=aA 4 (B2.out.heap R0.out)
 have y4:=aA 4 (B2.out.heap Q0.out)
 have x5:=aA 5 (B2.out.heap R0.out)
 have y5:=aA 5 (B2.out.heap Q0.out)
 go_wp2_with fail
 refine(C2.out v2 (A0.out.trans B2.out)).mono ?_
 rintro e9 v3 ⟨rfl,b9⟩
 have B3:Hid (Ab v0 v3):=B2.out.trans b9
 clear b9 C2 B2 x0 x1 x2 x3 x4 x5 y0 y1 y2 y3 y4 y5
 have x0:=aA 0 (B3.out.heap R0.out)
 have y0:=aA 0 (B3.out.heap Q0.out)
 have x1:=aA 1 (B3.out.heap R0.out)
 have y1:=aA 1 (B3.out.heap Q0.out)
 have x2:=aA 2 (B3.out.heap R0.out)
 have y2:=aA 2 (B3.out.heap Q0.out)
 have x3:=aA 3 (B3.out.heap R0.out)
 have y3:=aA 3 (B3.out.heap Q0.out)
 have x4:=aA 4 (B3.out.heap R0.out)
 have y4:=aA 4 (B3.out.heap Q0.out)
 have x5:=aA 5 (B3.out.heap R0.out)
 have y5:=aA 5 (B3.out.heap Q0.out)
 go_wp2_with fail
 refine(C3.out v3 (A0.out.trans B3.out)).mono ?_
 rintro e9 v4 ⟨rfl,b9⟩
 have B4:Hid (Ab v0 v4):=B3.out.trans b9
 clear b9 C3 B3 x0 x1 x2 x3 x4 x5 y0 y1 y2 y3 y4 y5
 have x0:=aA 0 (B4.out.heap R0.out)
 have y0:=aA 0 (B4.out.heap Q0.out)
 have x1:=aA 1 (B4.out.heap R0.out)
 have y1:=aA 1 (B4.out.heap Q0.out)
 have x2:=aA 2 (B4.out.heap R0.out)
 have y2:=aA 2 (B4.out.heap Q0.out)
 have x3:=aA 3 (B4.out.heap R0.out)
 have y3:=aA 3 (B4.out.heap Q0.out)
 have x4:=aA 4 (B4.out.heap R0.out)
 have y4:=aA 4 (B4.out.heap Q0.out)
 have x5:=aA 5 (B4.out.heap R0.out)
 have y5:=aA 5 (B4.out.heap Q0.out)
 go_wp2
 go_ret
 exact⟨rfl,A0.out.trans B4.out⟩
theorem seas_6(lb lw lt ls:Nat)(pb:Option Addr)(cb:Nat)(B:Nat->Nat)(pw:Option Addr)(cw:Nat)(W:Nat->Int)(pt:Option Addr)(ct:Nat)(T:Nat->Int)(ps:Option Addr)(cs:Nat)(S:Nat->Nat)(sky st:Int)(pb':Option Addr)(cb':Nat)(B':Nat->Nat)(pw':Option Addr)(cw':Nat)(W':Nat->Int)(pt':Option Addr)(ct':Nat)(T':Nat->Int)(ps':Option Addr)(cs':Nat)(S':Nat->Nat)(sky' st':Int)(w:World)(hl:lb<=281474976710656/\lw<=281474976710656/\lt<=281474976710656/\ls<=281474976710656)(i1:IsFl w pb lb B)(i2:Sh.IsI w pw lw W)(i3:Sh.IsI w pt lt T)(i4:IsFl w ps ls S)(j1:IsFl w pb' lb B')(j2:Sh.IsI w pw' lw W')(j3:Sh.IsI w pt' lt T')(j4:IsFl w ps' ls S')(e0: ∀i,i<lb->B i=B' i)(e1: ∀i,i<ls->S i=S' i)(e2: ∀i,i<lw->W i=W' i)(e3: ∀i,i<lt->T i=T' i)(hq:sky=sky')(hd:st=st'):
  Calls prog 13 #[.agg #[.slice pb lb cb,.slice pw lw cw,.slice pt lt ct,.slice ps ls cs,.int .i64 sky,.int .i64 st],.agg #[.slice pb' lb cb',.slice pw' lw cw',.slice pt' lt ct',.slice ps' ls cs',.int .i64 sky',.int .i64 st']] w fun e w'=>e=.returned (.bool true)/\Ab w w':=by
 have C0:=hid (fun v (a:Ab w v)=>bG pb pb' lb cb cb' B B' true v hl.1 (i1.below a) (j1.below a) (fun _=>rfl) (fun i hi q=>absurd (e0 i hi) q))
 have C1:=hid (fun v (a:Ab w v)=>bG ps ps' ls cs cs' S S' true v hl.2.2.2 (i4.below a) (j4.below a) (fun _=>rfl) (fun i hi q=>absurd (e1 i hi) q))
 have C2:=hid (fun v (a:Ab w v)=>bM pw pw' lw cw cw' W W' true v hl.2.1 (i2.below a) (j2.below a) (fun _=>rfl) (fun i hi q=>absurd (e2 i hi) q))
 have C3:=hid (fun v (a:Ab w v)=>bM pt pt' lt ct ct' T T' true v hl.2.2.1 (i3.below a) (j3.below a) (fun _=>rfl) (fun i hi q=>absurd (e3 i hi) q))
 clear hl i1 i2 i3 i4 j1 j2 j3 j4 e0 e1 e2 e3
 subst hq hd
 have n1:((sky:Int)==(sky:Int))=true:=by simp
 have n2:((st:Int)==(st:Int))=true:=by simp
 have A0:=bF (bl2 w (.cells #[.slice pb lb cb,.slice pw lw cw,.slice pt lt ct,.slice ps ls cs,.int .i64 sky,.int .i64 st] 25) (.cells #[.slice pb' lb cb',.slice pw' lw cw',.slice pt' lt ct',.slice ps' ls cs',.int .i64 sky,.int .i64 st] 25))
 have R0:Hid (((w.alloc (.cells #[.slice pb lb cb,.slice pw lw cw,.slice pt lt ct,.slice ps ls cs,.int .i64 sky,.int .i64 st] 25)).alloc (.cells #[.slice pb' lb cb',.slice pw' lw cw',.slice pt' lt ct',.slice ps' ls cs',.int .i64 sky,.int .i64 st] 25)).heap[w.heap.size]? =some (.cells #[.slice pb lb cb,.slice pw lw cw,.slice pt lt ct,.slice ps ls cs,.int .i64 sky,.int .i64 st] 25)):=Ab.heap (bl1 _ _) (heap_alloc_new _ _)
 have Q0:Hid (((w.alloc (.cells #[.slice pb lb cb,.slice pw lw cw,.slice pt lt ct,.slice ps ls cs,.int .i64 sky,.int .i64 st] 25)).alloc (.cells #[.slice pb' lb cb',.slice pw' lw cw',.slice pt' lt ct',.slice ps' ls cs',.int .i64 sky,.int .i64 st] 25)).heap[w.heap.size+1]? =some (.cells #[.slice pb' lb cb',.slice pw' lw cw',.slice pt' lt ct',.slice ps' ls cs',.int .i64 sky,.int .i64 st] 25)):=by
  have q:=heap_alloc_new (w.alloc (.cells #[.slice pb lb cb,.slice pw lw cw,.slice pt lt ct,.slice ps ls cs,.int .i64 sky,.int .i64 st] 25)) (.cells #[.slice pb' lb cb',.slice pw' lw cw',.slice pt' lt ct',.slice ps' ls cs',.int .i64 sky,.int .i64 st] 25)
  rw[bN]at q
  exact q
 go_enter func13,ntmps13
 go_upto_region 1 with fail
 generalize hW:World.alloc (World.alloc w _) _=v0 at*
 obtain⟨ga,hga⟩:=aB w.heap.size
 obtain⟨gb,hgb⟩:=aB (w.heap.size+1)
 rw[hgb]at Q0 ⊢
 rw[hga]at R0 ⊢
 clear hW hga hgb
 have B0:Hid (Ab v0 v0):=Ab.refl _
 have x0:=aA 0 (B0.out.heap R0.out)
 have y0:=aA 0 (B0.out.heap Q0.out)
 have x1:=aA 1 (B0.out.heap R0.out)
 have y1:=aA 1 (B0.out.heap Q0.out)
 have x2:=aA 2 (B0.out.heap R0.out)
 have y2:=aA 2 (B0.out.heap Q0.out)
 have x3:=aA 3 (B0.out.heap R0.out)
 have y3:=aA 3 (B0.out.heap Q0.out)
 have x4:=aA 4 (B0.out.heap R0.out)
 have y4:=aA 4 (B0.out.heap Q0.out)
 have x5:=aA 5 (B0.out.heap R0.out)
 have y5:=aA 5 (B0.out.heap Q0.out)
 go_wp2_with fail
 refine(C0.out v0 (A0.out.trans B0.out)).mono ?_
 rintro e9 v1 ⟨rfl,b9⟩
 have B1:Hid (Ab v0 v1):=B0.out.trans b9
 clear b9 C0 B0 x0 x1 x2 x3 x4 x5 y0 y1 y2 y3 y4 y5
 have x0:=aA 0 (B1.out.heap R0.out)
 have y0:=aA 0 (B1.out.heap Q0.out)
 have x1:=aA 1 (B1.out.heap R0.out)
 have y1:=aA 1 (B1.out.heap Q0.out)
 have x2:=aA 2 (B1.out.heap R0.out)
 have y2:=aA 2 (B1.out.heap Q0.out)
 have x3:=aA 3 (B1.out.heap R0.out)
 have y3:=aA 3 (B1.out.heap Q0.out)
 have x4:=aA 4 (B1.out.heap R0.out)
 have y4:=aA 4 (B1.out.heap Q0.out)
 have x5:=aA 5 (B1.out.heap R0.out)
 have y5:=aA 5 (B1.out.heap Q0.out)
 go_wp2_with fail
 refine(C1.out v1 (A0.out.trans B1.out)).mono ?_
 rintro e9 v2 ⟨rfl,b9⟩
 have B2:Hid (Ab v0 v2):=B1.out.trans b9
 clear b9 C1 B1 x0 x1 x2 x3 x4 x5 y0 y1 y2 y3 y4 y5
 have x0:=aA 0 (B2.out.heap R0.out)
 have y0:=aA 0 (B2.out.heap Q0.out)
 have x1:=aA 1 (B2.out.heap R0.out)
 have y1:=aA 1 (B2.out.heap Q0.out)
 have x2:=aA 2 (B2.out.heap R0.out)
 have y2:=aA 2 (B2.out.heap Q0.out)
 have x3:=aA 3 (B2.out.heap R0.out)
 have y3:=aA 3 (B2.out.heap Q0.out)
 have x4:=aA 4 (B2.out.heap R0.out)
 have y4:=aA 4 (B2.out.heap Q0.out)
 have x5:=aA 5 (B2.out.heap R0.out)
 have y5:=aA 5 (B2.out.heap Q0.out)
 go_wp2_with fail
 refine(C2.out v2 (A0.out.trans B2.out)).mono ?_
 rintro e9 v3 ⟨rfl,b9⟩
 have B3:Hid (Ab v0 v3):=B2.out.trans b9
 clear b9 C2 B2 x0 x1 x2 x3 x4 x5 y0 y1 y2 y3 y4 y5
 have x0:=aA 0 (B3.out.heap R0.out)
 have y0:=aA 0 (B3.out.heap Q0.out)
 have x1:=aA 1 (B3.out.heap R0.out)
 have y1:=aA 1 (B3.out.heap Q0.out)
 have x2:=aA 2 (B3.out.heap R0.out)
 have y2:=aA 2 (B3.out.heap Q0.out)
 have x3:=aA 3 (B3.out.heap R0.out)
 have y3:=aA 3 (B3.out.heap Q0.out)
 have x4:=aA 4 (B3.out.heap R0.out)
 have y4:=aA 4 (B3.out.heap Q0.out)
 have x5:=aA 5 (B3.out.heap R0.out)
 have y5:=aA 5 (B3.out.heap Q0.out)
 go_wp2_with fail
 refine(C3.out v3 (A0.out.trans B3.out)).mono ?_
 rintro e9 v4 ⟨rfl,b9⟩
 have B4:Hid (Ab v0 v4):=B3.out.trans b9
 clear b9 C3 B3 x0 x1 x2 x3 x4 x5 y0 y1 y2 y3 y4 y5
 have x0:=aA 0 (B4.out.heap R0.out)
 have y0:=aA 0 (B4.out.heap Q0.out)
 have x1:=aA 1 (B4.out.heap R0.out)
 have y1:=aA 1 (B4.out.heap Q0.out)
 have x2:=aA 2 (B4.out.heap R0.out)
 have y2:=aA 2 (B4.out.heap Q0.out)
 have x3:=aA 3 (B4.out.heap R0.out)
 have y3:=aA 3 (B4.out.heap Q0.out)
 have x4:=aA 4 (B4.out.heap R0.out)
 have y4:=aA 4 (B4.out.heap Q0.out)
 have x5:=aA 5 (B4.out.heap R0.out)
 have y5:=aA 5 (B4.out.heap Q0.out)
 go_wp2
 go_ret
 exact⟨rfl,A0.out.trans B4.out⟩
theorem ex_or{α:Type} [DecidableEq α](f g:Nat->α)(n:Nat):(∀i,i<n->f i=g i)\/ ∃k,k<n/\f k≠g k:=by
 induction n with
 | zero=>exact .inl fun i hi=>absurd hi (Nat.not_lt_zero i)
 | succ n ih=>
  rcases ih with h | ⟨k,hk,hd⟩
  ·by_cases q:f n=g n
   ·refine .inl fun i hi=> ?_
    by_cases l:i<n
    ·exact h i l
    ·obtain rfl:i=n:=by omega
     exact q
   ·exact .inr ⟨n,by omega,q⟩
  ·exact .inr ⟨k,by omega,hd⟩
theorem seasQ_at(lb lw lt ls:Nat)(pb:Option Addr)(cb:Nat)(B:Nat->Nat)(pw:Option Addr)(cw:Nat)(W:Nat->Int)(pt:Option Addr)(ct:Nat)(T:Nat->Int)(ps:Option Addr)(cs:Nat)(S:Nat->Nat)(sky st:Int)(pb':Option Addr)(cb':Nat)(B':Nat->Nat)(pw':Option Addr)(cw':Nat)(W':Nat->Int)(pt':Option Addr)(ct':Nat)(T':Nat->Int)(ps':Option Addr)(cs':Nat)(S':Nat->Nat)(sky' st':Int)(w:World)(hl:lb<=281474976710656/\lw<=281474976710656/\lt<=281474976710656/\ls<=281474976710656)(i1:IsFl w pb lb B)(i2:Sh.IsI w pw lw W)(i3:Sh.IsI w pt lt T)(i4:IsFl w ps ls S)(j1:IsFl w pb' lb B')(j2:Sh.IsI w pw' lw W')(j3:Sh.IsI w pt' lt T')(j4:IsFl w ps' ls S')(r:Bool)(hy:same4 lb lw lt ls B B' W W' T T' S S' sky sky' st st'->r=true)(hn: ¬same4 lb lw lt ls B B' W W' T T' S S' sky sky' st st'->r=false):
  Calls prog 13 #[.agg #[.slice pb lb cb,.slice pw lw cw,.slice pt lt ct,.slice ps ls cs,.int .i64 sky,.int .i64 st],.agg #[.slice pb' lb cb',.slice pw' lw cw',.slice pt' lt ct',.slice ps' ls cs',.int .i64 sky',.int .i64 st']] w fun e w'=>e=.returned (.bool r)/\Ab w w':=by
 rcases ex_or B B' lb with e0 | ⟨k,hk,hd⟩
 ·rcases ex_or S S' ls with e1 | ⟨k,hk,hd⟩
  ·rcases ex_or W W' lw with e2 | ⟨k,hk,hd⟩
   ·rcases ex_or T T' lt with e3 | ⟨k,hk,hd⟩
    ·by_cases hq:sky=sky'
     ·by_cases hd:st=st'
      ·rw[hy ⟨e0,e1,e2,e3,hq,hd⟩]
       exact seas_6 lb lw lt ls pb cb B pw cw W pt ct T ps cs S sky st pb' cb' B' pw' cw' W' pt' ct' T' ps' cs' S' sky' st' w hl i1 i2 i3 i4 j1 j2 j3 j4 e0 e1 e2 e3 hq hd
      ·rw[hn fun q=>hd q.2.2.2.2.2]
       exact seas_5 lb lw lt ls pb cb B pw cw W pt ct T ps cs S sky st pb' cb' B' pw' cw' W' pt' ct' T' ps' cs' S' sky' st' w hl i1 i2 i3 i4 j1 j2 j3 j4 e0 e1 e2 e3 hq hd
     ·rw[hn fun q=>hq q.2.2.2.2.1]
      exact seas_4 lb lw lt ls pb cb B pw cw W pt ct T ps cs S sky st pb' cb' B' pw' cw' W' pt' ct' T' ps' cs' S' sky' st' w hl i1 i2 i3 i4 j1 j2 j3 j4 e0 e1 e2 e3 hq
    ·rw[hn fun q=>hd (q.2.2.2.1 k hk)]
     exact seas_3 lb lw lt ls pb cb B pw cw W pt ct T ps cs S sky st pb' cb' B' pw' cw' W' pt' ct' T' ps' cs' S' sky' st' w hl i1 i2 i3 i4 j1 j2 j3 j4 e0 e1 e2 k hk hd
   ·rw[hn fun q=>hd (q.2.2.1 k hk)]
    exact seas_2 lb lw lt ls pb cb B pw cw W pt ct T ps cs S sky st pb' cb' B' pw' cw' W' pt' ct' T' ps' cs' S' sky' st' w hl i1 i2 i3 i4 j1 j2 j3 j4 e0 e1 k hk hd
  ·rw[hn fun q=>hd (q.2.1 k hk)]
   exact seas_1 lb lw lt ls pb cb B pw cw W pt ct T ps cs S sky st pb' cb' B' pw' cw' W' pt' ct' T' ps' cs' S' sky' st' w hl i1 i2 i3 i4 j1 j2 j3 j4 e0 k hk hd
 ·rw[hn fun q=>hd (q.1 k hk)]
  exact seas_0 lb lw lt ls pb cb B pw cw W pt ct T ps cs S sky st pb' cb' B' pw' cw' W' pt' ct' T' ps' cs' S' sky' st' w hl i1 i2 i3 i4 j1 j2 j3 j4 k hk hd
end Sv
end
end Go.Proofs.YtagcbnflfaeahaaGreatDoor
