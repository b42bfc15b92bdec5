/-
  Some of the texts of this proof, one behind the other.
-/
import Derived.BigRegion
import Derived.Test.YtmhnilnaffjhmaaGreatDoorCdr19
set_option maxRecDepth 100000
set_option maxHeartbeats 400000000
namespace Go.Proofs.YtmhnilnaffjhmaaGreatDoor
open _root_.Go.Proofs.Tryz
section
open Go.RowKit Tf Cu
theorem Ew{n gb:Nat}(k:Int)(bb bo wb wo cb cw:Nat)(pt ps:Option Addr)(lt ct ls cs:Nat)(sky st:Int){B:Nat->Nat}{Wt:Nat->Int}{U D K:Nat}(e:Int)(u:Nat)(w:World)(hn:1<=n/\n<=32)(cU:U<6*n*n)(cD:D<6*n*n)(cK:K<6*n*n)(g:GridOf n gb w)
  (hB:IsFl w (some ⟨bb,bo,none⟩) (6*n*n) B) (hW:IsIn w (some ⟨wb,wo,none⟩) (6*n*n) Wt)
  (CF:Hid (∀v,Ab w v->Calls prog 149 #[.pointer (some ⟨gb,0,none⟩),.agg #[.slice (some ⟨bb,bo,none⟩) (6*n*n) cb,.slice (some ⟨wb,wo,none⟩) (6*n*n) cw,.slice pt lt ct,.slice ps ls cs,.int .i64 sky,.int .i64 st]] v fun e w'=>e=.returned (.bool true)/\Below v.heap.size v w'))
  (CW:Hid (∀v,Ab w v->Calls prog 150 #[.pointer (some ⟨gb,0,none⟩),.int .i64 e,.float .f64 u] v fun e w'=>e=.returned (.tuple #[.agg #[.int .i64 (U:Nat),.int .i64 (D:Nat),.int .i64 (K:Nat)],.bool true])/\Below v.heap.size v w')):
  Calls prog 113 #[.pointer (some ⟨gb,0,none⟩),.int .i64 k,.agg #[.slice (some ⟨bb,bo,none⟩) (6*n*n) cb,.slice (some ⟨wb,wo,none⟩) (6*n*n) cw,.slice pt lt ct,.slice ps ls cs,.int .i64 sky,.int .i64 st],.int .i64 e,.float .f64 u] w fun e w'=>e=.returned (.float .f64 (ovC k (arC n) B Wt U D K))/\Below w.heap.size w w':=by
 have bU:=hB.at0 cU
 have bD:=hB.at0 cD
 have wU:=hW.at0 cU
 have wD:=hW.at0 cD
 have wK:=hW.at0 cK
 unfold ovC rcR
 have FW: ∀v,Ab w v->v.cell? ⟨wb,wo+U,none⟩=some (.int .i64 (Wt U))/\v.cell? ⟨bb,bo+U,none⟩=some (.float .f64 (B U))/\v.cell? ⟨bb,bo+D,none⟩=some (.float .f64 (B D)):=fun v hv=>
  ⟨(Below.cell hv wU.2.1).trans wU.2.2,(Below.cell hv bU.2.1).trans bU.2.2,(Below.cell hv bD.2.1).trans bD.2.2⟩
 have DU: ∀v,Ab w v->Calls prog 173 #[.pointer (some ⟨gb,0,none⟩),.agg #[.slice (some ⟨bb,bo,none⟩) (6*n*n) cb,.slice (some ⟨wb,wo,none⟩) (6*n*n) cw,.slice pt lt ct,.slice ps ls cs,.int .i64 sky,.int .i64 st],.int .i64 (U:Nat)] v fun e w'=>e=.returned (.float .f64 (dpB (Wt U) (arC n U)))/\Below v.heap.size v w':=(fun v hv=>tF (.pointer (some ⟨gb,0,none⟩)) bb bo wb wo (6*n*n) cb cw pt ps lt ct ls cs sky st U (Wt U) (arC n U) _ v (by omega) (fun z hz=>(Below.cell (hv.trans hz) wU.2.1).trans wU.2.2) (fun z hz=>gA hn cU (g.to (hv.trans hz))) (fun z=>(kU _ _ z wU.1 (cO n _).2).mono fun _ _ h=>⟨h.1,by obtain⟨_,j,rfl⟩:=h;exact below_drewN (Below.refl _ _) j⟩))
 have DK: ∀v,Ab w v->Calls prog 173 #[.pointer (some ⟨gb,0,none⟩),.agg #[.slice (some ⟨bb,bo,none⟩) (6*n*n) cb,.slice (some ⟨wb,wo,none⟩) (6*n*n) cw,.slice pt lt ct,.slice ps ls cs,.int .i64 sky,.int .i64 st],.int .i64 (K:Nat)] v fun e w'=>e=.returned (.float .f64 (dpB (Wt K) (arC n K)))/\Below v.heap.size v w':=(fun v hv=>tF (.pointer (some ⟨gb,0,none⟩)) bb bo wb wo (6*n*n) cb cw pt ps lt ct ls cs sky st K (Wt K) (arC n K) _ v (by omega) (fun z hz=>(Below.cell (hv.trans hz) wK.2.1).trans wK.2.2) (fun z hz=>gA hn cK (g.to (hv.trans hz))) (fun z=>(kU _ _ z wK.1 (cO n _).2).mono fun _ _ h=>⟨h.1,by obtain⟨_,j,rfl⟩:=h;exact below_drewN (Below.refl _ _) j⟩))
 have DD: ∀v,Ab w v->Calls prog 173 #[.pointer (some ⟨gb,0,none⟩),.agg #[.slice (some ⟨bb,bo,none⟩) (6*n*n) cb,.slice (some ⟨wb,wo,none⟩) (6*n*n) cw,.slice pt lt ct,.slice ps ls cs,.int .i64 sky,.int .i64 st],.int .i64 (D:Nat)] v fun e w'=>e=.returned (.float .f64 (dpB (Wt D) (arC n D)))/\Below v.heap.size v w':=(fun v hv=>tF (.pointer (some ⟨gb,0,none⟩)) bb bo wb wo (6*n*n) cb cw pt ps lt ct ls cs sky st D (Wt D) (arC n D) _ v (by omega) (fun z hz=>(Below.cell (hv.trans hz) wD.2.1).trans wD.2.2) (fun z hz=>gA hn cD (g.to (hv.trans hz))) (fun z=>(kU _ _ z wD.1 (cO n _).2).mono fun _ _ h=>⟨h.1,by obtain⟨_,j,rfl⟩:=h;exact below_drewN (Below.refl _ _) j⟩))
 have fU:dpB (Wt U) (arC n U)<9218868437227405312:=by have:=mA wU.1 (cO n U).2;omega
 have fK:dpB (Wt K) (arC n K)<9218868437227405312:=by have:=mA wK.1 (cO n K).2;omega
 have fD:dpB (Wt D) (arC n D)<9218868437227405312:=by have:=mA wD.1 (cO n D).2;omega
 have hx:=sI fU fK
 have hy:=sI fD fU
 have lx:=(xC (by omega) hx (by omega)).1
 have ly:=(xC (by omega) hy (by omega)).1
 have sN:=slp_N k (sbB (dpB (Wt U) (arC n U)) (dpB (Wt K) (arC n K))) (sbB (dpB (Wt D) (arC n D)) (dpB (Wt U) (arC n U)))
 have sl:=slp_lt k (sbB (dpB (Wt U) (arC n U)) (dpB (Wt K) (arC n K))) (sbB (dpB (Wt D) (arC n D)) (dpB (Wt U) (arC n U)))
 have hm:=uV sl sN
 have hf:=half_N sl sN
 have hv0:=uW fU hf.2 hf.1
 have vl:=BM (k:=k) (hb:=dpB (Wt K) (arC n K)) (hd:=dpB (Wt D) (arC n D)) fU
 have ll:=sG (b:=B U) (w:=Wt U) (a:=arC n U) bU.1 wU.1 (cO n _).2
 have ml:=xD (a:=B U) (b:=B D) bU.1 bD.1
 cases hs:Ieee.double.sub (lvl (B U) (Wt U) (arC n U)) (maxB (B U) (B D))with
 | some z=>
  have hc:=xC ml hs ll
  rw[show rcG (lvl (B U) (Wt U) (arC n U)) (B U) (B D)=sbB (lvl (B U) (Wt U) (arC n U)) (maxB (B U) (B D))from rfl,<- pos0_c vl hc]
  exact Gr (.pointer (some ⟨gb,0,none⟩)) bb bo wb wo (6*n*n) cb cw pt ps lt ct ls cs sky st k e u w U D K _ _ _ CF CW
   (fun v hv=>Am (.pointer (some ⟨gb,0,none⟩)) bb bo wb wo (6*n*n) cb cw pt ps lt ct ls cs sky st k U D K _ _ _ _ _ _ _ _ v (fun z hz=>DU z (hv.trans hz)) (fun z hz=>DK z (hv.trans hz)) (fun z hz=>DD z (hv.trans hz)) (fun z=>zV k _ _ z lx ly) (fun t w=>run_float_arith w .sub t .f64 _ _ _ hx) (fun t w=>run_float_arith w .sub t .f64 _ _ _ hy) (fun t w=>run_float_arith w .mul t .f64 _ _ _ hm) (fun t w=>run_float_arith w .add t .f64 _ _ _ hv0)) z
   (fun v hv=>tG (.pointer (some ⟨gb,0,none⟩)) bb bo wb wo (6*n*n) cb cw pt ps lt ct ls cs sky st U D K (Wt U) (arC n U) (B U) (B D) _ _ v (by omega) (by omega) (fun z hz=>FW z (hv.trans hz)) (fun z hz=>gA hn cU (g.to (hv.trans hz))) (fun z=>(tE _ _ _ z bU.1 wU.1 (cO n _).2).mono fun _ _ h=>⟨h.1,by obtain⟨_,j,rfl⟩:=h;exact below_drewN (Below.refl _ _) j⟩) (fun z=>(DF _ _ z bU.1 bD.1).mono fun _ _ h=>⟨h.1,by obtain⟨_,rfl⟩:=h;exact Below.refl _ _⟩) z (fun t w=>run_float_arith w .sub t .f64 _ _ _ hs)) (fun v=>(DH _ _ v vl hc.1).mono fun _ _ h=>⟨h.1,by obtain⟨_,rfl⟩:=h;exact Below.refl _ _⟩) rfl
 | none=>
  have hN:isN (rcG (lvl (B U) (Wt U) (arC n U)) (B U) (B D))=true:=by
   unfold rcG sbB
   rw[aY (by rw[<- qH _ _ ml];exact hs)]
   decide
  rw[gB (.inr hN)]
  exact Gs (.pointer (some ⟨gb,0,none⟩)) bb bo wb wo (6*n*n) cb cw pt ps lt ct ls cs sky st k e u w U D K _ _ _ CF CW
   (fun v hv=>Am (.pointer (some ⟨gb,0,none⟩)) bb bo wb wo (6*n*n) cb cw pt ps lt ct ls cs sky st k U D K _ _ _ _ _ _ _ _ v (fun z hz=>DU z (hv.trans hz)) (fun z hz=>DK z (hv.trans hz)) (fun z hz=>DD z (hv.trans hz)) (fun z=>zV k _ _ z lx ly) (fun t w=>run_float_arith w .sub t .f64 _ _ _ hx) (fun t w=>run_float_arith w .sub t .f64 _ _ _ hy) (fun t w=>run_float_arith w .mul t .f64 _ _ _ hm) (fun t w=>run_float_arith w .add t .f64 _ _ _ hv0))
   (fun v hv=>tH (.pointer (some ⟨gb,0,none⟩)) bb bo wb wo (6*n*n) cb cw pt ps lt ct ls cs sky st U D K (Wt U) (arC n U) (B U) (B D) _ _ v (by omega) (by omega) (fun z hz=>FW z (hv.trans hz)) (fun z hz=>gA hn cU (g.to (hv.trans hz))) (fun z=>(tE _ _ _ z bU.1 wU.1 (cO n _).2).mono fun _ _ h=>⟨h.1,by obtain⟨_,j,rfl⟩:=h;exact below_drewN (Below.refl _ _) j⟩) (fun z=>(DF _ _ z bU.1 bD.1).mono fun _ _ h=>⟨h.1,by obtain⟨_,rfl⟩:=h;exact Below.refl _ _⟩) (fun t w=>pR w t _ _ hs)) (fun z hz1 hz2 v=>by
    have h:=DH (rcV k (dpB (Wt U) (arC n U)) (dpB (Wt K) (arC n K)) (dpB (Wt D) (arC n D))) z v vl hz1
    rw[gB (.inr hz2)]at h
    exact(h).mono fun _ _ h=>⟨h.1,by obtain⟨_,rfl⟩:=h;exact Below.refl _ _⟩) rfl
theorem depthC:DepthC:=by
 intro n gb k pb lb cb B pw lw cw Wt pt lt ct ps ls cs sky st e u w hn g hB hW hu
 have CC:Hid (∀v,Ab w v->Calls prog 7 #[.pointer (some ⟨gb,0,none⟩)] v fun e w'=>e=.returned (.int .i64 (6*n*n:Nat))/\Below v.heap.size v w'):=fun v hv=>(eU (g.to hv)).mono fun _ _ h=>⟨h.1,by obtain⟨_,rfl⟩:=h;exact Below.refl _ _⟩
 by_cases c:lb=6*n*n/\lw=6*n*n
 ·obtain⟨rfl,rfl⟩:=c
  have CF:Hid (∀v,Ab w v->Calls prog 149 #[.pointer (some ⟨gb,0,none⟩),.agg #[.slice pb (6*n*n) cb,.slice pw (6*n*n) cw,.slice pt lt ct,.slice ps ls cs,.int .i64 sky,.int .i64 st]] v fun e w'=>e=.returned (.bool true)/\Below v.heap.size v w'):=fun v hv=>Al (.pointer (some ⟨gb,0,none⟩)) pb pw pt ps _ cb _ cw lt ct ls cs sky st (6*n*n) true v (.inr ⟨by simp,by simp⟩) (fun z hz=>CC.out z (hv.trans hz))
  cases h:inR e (12*n*n:Nat)with
  | false=>
   rw[zO (fun q=>by rw[h]at q;exact absurd q.1 (by decide))]
   exact tI (.pointer (some ⟨gb,0,none⟩)) pb pw pt ps _ cb _ cw lt ct ls cs sky st k e u w CF (fun v hv=>wo12_no (.pointer (some ⟨gb,0,none⟩)) e u v (fun z hz=>zD h (g.to (hv.trans hz))))
  | true=>
   obtain⟨E,rfl,hE⟩:=qO h
   obtain⟨t1,t2,t3⟩:=bI hn.1 hE
   rw[<- t3]
   have mtd:=gF hn.1 t1
   have cL:=aN t1
   have cR:bsC n (edT n E/4) (edT n E%4)<6*n*n:=by rw[<- mtd.1];exact aN (cQ hn.1 t1)
   have cp:bsC n (edT n E/4) ((edT n E%4+2)%4)<6*n*n:=bk_lt hn.1 t1
   have cq:bsC n (bsC n (edT n E/4) (edT n E%4)) ((bsS n (edT n E/4) (edT n E%4)+2)%4)<6*n*n:=by
    have:=bk_lt hn.1 (cQ hn.1 t1)
    unfold bkC at this
    rwa [mtd.1,mtd.2]at this
   obtain⟨bb,bo,rfl⟩:=hB.some0 (Eg hn.1)
   obtain⟨wb,wo,rfl⟩:=hW.some0 (Eg hn.1)
   rw[sJ hn.1 t1 t2]
   cases p:fgt u 0 with
   | true=>
    have e:sdD n k (arC n) B Wt (edT n E)=ovC k (arC n) B Wt (edT n E/4) (bsC n (edT n E/4) (edT n E%4)) (bsC n (edT n E/4) ((edT n E%4+2)%4)):=by
     unfold sdD
     rw[mtd.1];rfl
    rw[rdT_p p,e]
    exact Ew k bb bo wb wo cb cw pt ps lt ct ls cs sky st _ u w hn cL cR cp g hB hW CF (fun v hv=>wo12_pos (.pointer (some ⟨gb,0,none⟩)) _ u _ _ _ _ _ _ v p (fun z hz=>jH hn t1 t2 (g.to (hv.trans hz))) (fun z hz=>mL hn t1 t2 (g.to (hv.trans hz))))
   | false=>
    cases q:flt u 0 with
    | true=>
     have e:sdD n k (arC n) B Wt (mt n (edT n E))=ovC k (arC n) B Wt (bsC n (edT n E/4) (edT n E%4)) (edT n E/4) (bsC n (bsC n (edT n E/4) (edT n E%4)) ((bsS n (edT n E/4) (edT n E%4)+2)%4)):=by
      unfold sdD
      rw[gI hn.1 t1,mtd.1];unfold bkC;rw[mtd.1,mtd.2]
     rw[rdT_n p q,e]
     exact Ew k bb bo wb wo cb cw pt ps lt ct ls cs sky st _ u w hn cR cL cq g hB hW CF (fun v hv=>wo12_neg (.pointer (some ⟨gb,0,none⟩)) _ u _ _ _ _ _ _ v p q (fun z hz=>jH hn t1 t2 (g.to (hv.trans hz))) (fun z hz=>mL hn t1 t2 (g.to (hv.trans hz))))
    | false=>
     rw[rdT_0 p q]
     exact tI (.pointer (some ⟨gb,0,none⟩)) (some ⟨bb,bo,none⟩) (some ⟨wb,wo,none⟩) pt ps _ cb _ cw lt ct ls cs sky st k _ u w CF (fun v hv=>Cv (.pointer (some ⟨gb,0,none⟩)) _ u _ _ _ _ _ _ v p q (fun z hz=>jH hn t1 t2 (g.to (hv.trans hz))) (fun z hz=>mL hn t1 t2 (g.to (hv.trans hz))))
 ·rw[zO (fun q=>c q.2)]
  refine Cw (.pointer (some ⟨gb,0,none⟩)) pb pw pt ps lb cb lw cw lt ct ls cs sky st k e u w (fun v hv=>Al (.pointer (some ⟨gb,0,none⟩)) pb pw pt ps lb cb lw cw lt ct ls cs sky st (6*n*n) false v ?_ (fun z hz=>CC.out z (hv.trans hz)))
  by_cases c1:lb=6*n*n
  ·exact .inr ⟨by rw[c1];simp,by rw[beq_eq_false_iff_ne];omega⟩
  ·exact .inl ⟨by rw[beq_eq_false_iff_ne];omega,rfl⟩
end
section
open Go.RowKit Tf Cu Go.Deep
theorem allC:AllC:=by
 intro n gb sd dt gr dr lim rv pr lr cr pb lb cb B pw lw cw Wt pt lt ct ps ls cs Sp sky st w hn g hB hW hS hdt
 have en:1<=12*n*n/\12*n*n<=12288:=by
  have h:=Nat.mul_le_mul hn.2 hn.2
  have h2:=Nat.mul_le_mul hn.1 hn.1
  rw[Nat.mul_assoc]
  omega
 have CC:Hid (∀v,Ab w v->Calls prog 7 #[.pointer (some ⟨gb,0,none⟩)] v fun e w'=>e=.returned (.int .i64 (6*n*n:Nat))/\Below v.heap.size v w'):=fun v hv=>(eU (g.to hv)).mono fun _ _ h=>⟨h.1,by obtain⟨_,rfl⟩:=h;exact Below.refl _ _⟩
 have CE:Hid (∀v,Ab w v->Calls prog 8 #[.pointer (some ⟨gb,0,none⟩)] v fun e w'=>e=.returned (.int .i64 (12*n*n:Nat))/\w'=v):=fun v hv=>cG (g.to hv)
 have CEb:Hid (∀v,Ab w v->Calls prog 8 #[.pointer (some ⟨gb,0,none⟩)] v fun e w'=>e=.returned (.int .i64 (12*n*n:Nat))/\Below v.heap.size v w'):=fun v hv=>(cG (g.to hv)).mono fun _ _ h=>⟨h.1,by obtain⟨_,rfl⟩:=h;exact Below.refl _ _⟩
 refine⟨fun fit=> ?_,fun no=> ?_⟩
 ·obtain⟨rfl,rfl,rfl,rfl⟩:=fit
  obtain⟨sb,so,rfl⟩:=hS.some0 (by omega)
  have CFt:Hid (∀v,Ab w v->Calls prog 112 #[.pointer (some ⟨gb,0,none⟩),.agg #[.slice pb (6*n*n) cb,.slice pw (6*n*n) cw,.slice pt (6*n*n) ct,.slice (some ⟨sb,so,none⟩) (12*n*n) cs,.int .i64 sky,.int .i64 st]] v fun e w'=>e=.returned (.bool true)/\Below v.heap.size v w'):=fun v hv=>vL gb pb pw pt (some ⟨sb,so,none⟩) (6*n*n) cb (6*n*n) cw (6*n*n) ct (12*n*n) cs sky st (6*n*n) (12*n*n) true v (.inr (.inr (.inr ⟨by simp,by simp,by simp,by simp⟩))) (fun u hu=>CC.out u (hv.trans hu)) (fun u hu=>CEb.out u (hv.trans hu))
  exact all13_go gb sd dt gr dr lim rv pr lr cr pb pw pt (6*n*n) cb cw ct sb so cs sky st (12*n*n) Sp (fun i=>rdAll n lim (6*n*n) (6*n*n) B Wt (i:Nat) (Sp i)) (fun i=>lnE n i) (fun i=>flB n lim B Wt Sp dt i) w (by omega) CFt CE
   (fun c hc v hv=>(Below.cell hv (hS.at0 hc).2.1).trans (hS.at0 hc).2.2)
   (fun c hc v hv=>depthC n gb lim pb _ cb B pw _ cw Wt pt _ ct _ _ cs sky st (c:Nat) (Sp c) v hn (g.to hv) (hB.below hv) (hW.below hv) (hS.at0 hc).1)
   (fun c hc v hv=>Bz hn hc (g.to hv))
   (fun c hc v=>quantaC _ _ _ _ v (hS.at0 hc).1 (mO hn.1 (fun i hi=>(hB i hi).1) (fun i hi=>(hW i hi).1.2) _ _).1 (sP _ _) hdt)
 ·exact all13_no gb sd dt gr dr lim rv pr lr cr pb pw pt ps lb cb lw cw lt ct ls cs sky st w (fun v hv=>vL gb pb pw pt ps lb cb lw cw lt ct ls cs sky st (6*n*n) (12*n*n) false v (by
   by_cases c1:lb=6*n*n
   ·by_cases c2:lw=6*n*n
    ·by_cases c3:lt=6*n*n
     ·exact .inr (.inr (.inr ⟨by rw[c1];simp,by rw[c2];simp,by rw[c3];simp,by rw[beq_eq_false_iff_ne];exact fun h=>no ⟨c1,c2,c3,by omega⟩⟩))
     ·exact .inr (.inr (.inl ⟨by rw[c1];simp,by rw[c2];simp,by rw[beq_eq_false_iff_ne];omega,rfl⟩))
    ·exact .inr (.inl ⟨by rw[c1];simp,by rw[beq_eq_false_iff_ne];omega,rfl⟩)
   ·exact .inl ⟨by rw[beq_eq_false_iff_ne];omega,rfl⟩) (fun u hu=>CC.out u (hv.trans hu)) (fun u hu=>CEb.out u (hv.trans hu)))
end
section
open Go.RowKit Go.Deep
namespace Sh
theorem bel_at(x:Int)(w:World):Calls prog 116 #[.int .i64 x] w fun e w'=>e=.returned (.bool (decide (x<0)))/\w'=w:=by
 go_enter func116,ntmps116
 go_wp2
 go_ret
 exact⟨rfl,rfl⟩
def far(x:Int):Bool:=decide (x< -4503599627370496)||decide (4503599627370496<x)
theorem far_at(x:Int)(w:World):Calls prog 117 #[.int .i64 x] w fun e w'=>e=.returned (.bool (far x))/\w'=w:=by
 cases h1:decide (x< -4503599627370496)with
 | true=>
  have F:Hid (far x=true):=by show _=_;unfold far;rw[h1];rfl
  go_enter func117,ntmps117
  go_wp2
  go_ret
  exact⟨by rw[F.out];rfl,rfl⟩
 | false=>
  cases h2:decide (4503599627370496<x)with
  | true=>
   have F:Hid (far x=true):=by show _=_;unfold far;rw[h1,h2];rfl
   go_enter func117,ntmps117
   go_wp2
   go_ret
   exact⟨by rw[F.out];rfl,rfl⟩
  | false=>
   have F:Hid (far x=false):=by show _=_;unfold far;rw[h1,h2];rfl
   go_enter func117,ntmps117
   go_wp2
   go_ret
   exact⟨by rw[F.out];rfl,rfl⟩
theorem Gu(p:Option Addr)(n cp:Nat)(f:Nat->Int)(w:World)(hn:n<=65536)(hf:IsI w p n f)(HA:Hid (∀i,i<n->decide (f i<0)=false)):
  Calls prog 126 #[.slice p n cp,.func (.func 116) #[] #[]] w fun e w'=>e=.returned (.int .i64 (-1))/\w'=w:=by
 have HF:=hid hf
 have HN:=hid hn
 clear hf hn
 go_enter func126,ntmps126
 go_wp2
 go_loopw [8] (fun iv wr=> ∃c:Nat,c<=n/\iv=.int .i64 (c:Nat)/\wr=w) (fun iv _=>n - (intOf iv).toNat)
 case atStart=>exact⟨0,by omega,rfl,rfl⟩
 case round=>
  obtain⟨c,hc,rfl,hwr⟩:=hrel
  have hwr2:=hwr.symm
  subst hwr2
  by_cases hcn:c<n
  ·have HC:=hid hcn
   have hcI:(c:Int)<n:=by omega
   have hcB:(c:Int)<=65536:=by have:=HN.out;omega
   obtain⟨b0,o0,rfl⟩:=HF.out.some0 (show 0<n by omega)
   obtain⟨x,hx⟩:=aB (f c)
   have at0:=HF.out.at0 hcn
   have hp:=HA.out c hcn
   rw[hx]at at0 hp
   have xc:=at0.2.2
   have CF:=hid (bel_at x w)
   rw[hp]at CF
   clear at0 hx hcn hc hp
   go_wp2_with fail
   refine CF.out.mono ?_
   rintro e9 v9 ⟨rfl,hv9⟩
   have hv8:=hv9.symm
   subst hv8
   go_wp2
   exact⟨⟨c+1,by have:=HC.out;omega,by simp,by first | trivial | rfl⟩,by have:=HC.out;simp[intOf];omega⟩
  ·have e6:n=c:=by omega
   subst e6
   go_wp2
   go_ret
   exact⟨rfl,by first | trivial | rfl⟩
theorem Cx(p:Option Addr)(n cp:Nat)(f:Nat->Int)(w:World)(hn:n<=65536)(hf:IsI w p n f)(HA:Hid (¬ ∀i,i<n->decide (f i<0)=false)):
  Calls prog 126 #[.slice p n cp,.func (.func 116) #[] #[]] w fun e w'=>(∃i:Nat,i<=65536/\e=.returned (.int .i64 (i:Nat)))/\w'=w:=by
 have HF:=hid hf
 have HN:=hid hn
 clear hf hn
 go_enter func126,ntmps126
 go_wp2
 go_loopw [8] (fun iv wr=> ∃c:Nat,c<=n/\iv=.int .i64 (c:Nat)/\(∀i,i<c->decide (f i<0)=false)/\wr=w) (fun iv _=>n - (intOf iv).toNat)
 case atStart=>exact⟨0,by omega,rfl,fun i hi=>absurd hi (Nat.not_lt_zero i),rfl⟩
 case round=>
  obtain⟨c,hc,rfl,g1,hwr⟩:=hrel
  have hwr2:=hwr.symm
  subst hwr2
  have G1:=hid g1
  clear g1
  by_cases hcn:c<n
  ·have HC:=hid hcn
   have hcI:(c:Int)<n:=by omega
   have hcB:(c:Int)<=65536:=by have:=HN.out;omega
   obtain⟨b0,o0,rfl⟩:=HF.out.some0 (show 0<n by omega)
   obtain⟨x,hx⟩:=aB (f c)
   have at0:=HF.out.at0 hcn
   rw[hx]at at0
   have xc:=at0.2.2
   have CF:=hid (bel_at x w)
   have XE:=hid hx
   clear at0 hx hcn hc
   cases hp:decide (x<0)with
   | true=>
    rw[hp]at CF
    have hp2:=hid hp
    clear hp
    go_wp2_with fail
    refine CF.out.mono ?_
    rintro e9 v9 ⟨rfl,hv9⟩
    have hv8:=hv9.symm
    subst hv8
    go_wp2
    go_ret
    exact⟨⟨c,by have:=HC.out;have:=HN.out;omega,rfl⟩,by first | trivial | rfl⟩
   | false=>
    rw[hp]at CF
    have hp2:=hid hp
    clear hp
    go_wp2_with fail
    refine CF.out.mono ?_
    rintro e9 v9 ⟨rfl,hv9⟩
    have hv8:=hv9.symm
    subst hv8
    go_wp2
    refine⟨⟨c+1,by have:=HC.out;omega,by simp,fun i hi=> ?_,by first | trivial | rfl⟩,by have:=HC.out;simp[intOf];omega⟩
    by_cases l:i<c
    ·exact G1.out i l
    ·obtain rfl:i=c:=by omega
     rw[XE.out]
     exact hp2.out
  ·have e6:n=c:=by omega
   subst e6
   exact absurd G1.out HA.out
theorem vM(p:Option Addr)(n cp:Nat)(f:Nat->Int)(w:World)(hn:n<=65536)(hf:IsI w p n f)(HA: ∀i,i<n->decide (f i<0)=false):
  Calls prog 81 #[.slice p n cp,.func (.func 116) #[] #[]] w fun e w'=>e=.returned (.bool false)/\w'=w:=by
 have IX:=hid (Gu p n cp f w hn hf HA)
 clear hn hf HA
 go_enter func81,ntmps81
 go_wp2_with fail
 refine IX.out.mono ?_
 rintro e9 v9 ⟨rfl,hv9⟩
 have hv8:=hv9.symm
 subst hv8
 go_wp2
 go_ret
 exact⟨rfl,rfl⟩
theorem Cy(p:Option Addr)(n cp:Nat)(f:Nat->Int)(w:World)(hn:n<=65536)(hf:IsI w p n f)(HA: ¬ ∀i,i<n->decide (f i<0)=false):
  Calls prog 81 #[.slice p n cp,.func (.func 116) #[] #[]] w fun e w'=>e=.returned (.bool true)/\w'=w:=by
 have IX:=hid (Cx p n cp f w hn hf HA)
 clear hn hf HA
 go_enter func81,ntmps81
 go_wp2_with fail
 refine IX.out.mono ?_
 rintro e9 v9 ⟨⟨i,hi,rfl⟩,hv9⟩
 have hv8:=hv9.symm
 subst hv8
 go_wp2
 go_ret
 exact⟨rfl,rfl⟩
theorem Gv(p:Option Addr)(n cp:Nat)(f:Nat->Int)(w:World)(hn:n<=65536)(hf:IsI w p n f)(HA:Hid (∀i,i<n->far (f i)=false)):
  Calls prog 126 #[.slice p n cp,.func (.func 117) #[] #[]] w fun e w'=>e=.returned (.int .i64 (-1))/\w'=w:=by
 have HF:=hid hf
 have HN:=hid hn
 clear hf hn
 go_enter func126,ntmps126
 go_wp2
 go_loopw [8] (fun iv wr=> ∃c:Nat,c<=n/\iv=.int .i64 (c:Nat)/\wr=w) (fun iv _=>n - (intOf iv).toNat)
 case atStart=>exact⟨0,by omega,rfl,rfl⟩
 case round=>
  obtain⟨c,hc,rfl,hwr⟩:=hrel
  have hwr2:=hwr.symm
  subst hwr2
  by_cases hcn:c<n
  ·have HC:=hid hcn
   have hcI:(c:Int)<n:=by omega
   have hcB:(c:Int)<=65536:=by have:=HN.out;omega
   obtain⟨b0,o0,rfl⟩:=HF.out.some0 (show 0<n by omega)
   obtain⟨x,hx⟩:=aB (f c)
   have at0:=HF.out.at0 hcn
   have hp:=HA.out c hcn
   rw[hx]at at0 hp
   have xc:=at0.2.2
   have CF:=hid (far_at x w)
   rw[hp]at CF
   clear at0 hx hcn hc hp
   go_wp2_with fail
   refine CF.out.mono ?_
   rintro e9 v9 ⟨rfl,hv9⟩
   have hv8:=hv9.symm
   subst hv8
   go_wp2
   exact⟨⟨c+1,by have:=HC.out;omega,by simp,by first | trivial | rfl⟩,by have:=HC.out;simp[intOf];omega⟩
  ·have e6:n=c:=by omega
   subst e6
   go_wp2
   go_ret
   exact⟨rfl,by first | trivial | rfl⟩
theorem Cz(p:Option Addr)(n cp:Nat)(f:Nat->Int)(w:World)(hn:n<=65536)(hf:IsI w p n f)(HA:Hid (¬ ∀i,i<n->far (f i)=false)):
  Calls prog 126 #[.slice p n cp,.func (.func 117) #[] #[]] w fun e w'=>(∃i:Nat,i<=65536/\e=.returned (.int .i64 (i:Nat)))/\w'=w:=by
 have HF:=hid hf
 have HN:=hid hn
 clear hf hn
 go_enter func126,ntmps126
 go_wp2
 go_loopw [8] (fun iv wr=> ∃c:Nat,c<=n/\iv=.int .i64 (c:Nat)/\(∀i,i<c->far (f i)=false)/\wr=w) (fun iv _=>n - (intOf iv).toNat)
 case atStart=>exact⟨0,by omega,rfl,fun i hi=>absurd hi (Nat.not_lt_zero i),rfl⟩
 case round=>
  obtain⟨c,hc,rfl,g1,hwr⟩:=hrel
  have hwr2:=hwr.symm
  subst hwr2
  have G1:=hid g1
  clear g1
  by_cases hcn:c<n
  ·have HC:=hid hcn
   have hcI:(c:Int)<n:=by omega
   have hcB:(c:Int)<=65536:=by have:=HN.out;omega
   obtain⟨b0,o0,rfl⟩:=HF.out.some0 (show 0<n by omega)
   obtain⟨x,hx⟩:=aB (f c)
   have at0:=HF.out.at0 hcn
   rw[hx]at at0
   have xc:=at0.2.2
   have CF:=hid (far_at x w)
   have XE:=hid hx
   clear at0 hx hcn hc
   cases hp:far (x)with
   | true=>
    rw[hp]at CF
    have hp2:=hid hp
    clear hp
    go_wp2_with fail
    refine CF.out.mono ?_
    rintro e9 v9 ⟨rfl,hv9⟩
    have hv8:=hv9.symm
    subst hv8
    go_wp2
    go_ret
    exact⟨⟨c,by have:=HC.out;have:=HN.out;omega,rfl⟩,by first | trivial | rfl⟩
   | false=>
    rw[hp]at CF
    have hp2:=hid hp
    clear hp
    go_wp2_with fail
    refine CF.out.mono ?_
    rintro e9 v9 ⟨rfl,hv9⟩
    have hv8:=hv9.symm
    subst hv8
    go_wp2
    refine⟨⟨c+1,by have:=HC.out;omega,by simp,fun i hi=> ?_,by first | trivial | rfl⟩,by have:=HC.out;simp[intOf];omega⟩
    by_cases l:i<c
    ·exact G1.out i l
    ·obtain rfl:i=c:=by omega
     rw[XE.out]
     exact hp2.out
  ·have e6:n=c:=by omega
   subst e6
   exact absurd G1.out HA.out
theorem Gw(p:Option Addr)(n cp:Nat)(f:Nat->Int)(w:World)(hn:n<=65536)(hf:IsI w p n f)(HA: ∀i,i<n->far (f i)=false):
  Calls prog 81 #[.slice p n cp,.func (.func 117) #[] #[]] w fun e w'=>e=.returned (.bool false)/\w'=w:=by
 have IX:=hid (Gv p n cp f w hn hf HA)
 clear hn hf HA
 go_enter func81,ntmps81
 go_wp2_with fail
 refine IX.out.mono ?_
 rintro e9 v9 ⟨rfl,hv9⟩
 have hv8:=hv9.symm
 subst hv8
 go_wp2
 go_ret
 exact⟨rfl,rfl⟩
theorem CI(p:Option Addr)(n cp:Nat)(f:Nat->Int)(w:World)(hn:n<=65536)(hf:IsI w p n f)(HA: ¬ ∀i,i<n->far (f i)=false):
  Calls prog 81 #[.slice p n cp,.func (.func 117) #[] #[]] w fun e w'=>e=.returned (.bool true)/\w'=w:=by
 have IX:=hid (Cz p n cp f w hn hf HA)
 clear hn hf HA
 go_enter func81,ntmps81
 go_wp2_with fail
 refine IX.out.mono ?_
 rintro e9 v9 ⟨⟨i,hi,rfl⟩,hv9⟩
 have hv8:=hv9.symm
 subst hv8
 go_wp2
 go_ret
 exact⟨rfl,rfl⟩
end Sh
end
section
open Go.RowKit
namespace Sh
theorem dZ{k:IntKind}{a b:Int}(h:a=b):Ending.returned (.int k a)=.returned (.int k b):=by rw[h]
theorem pow_pos(k:Nat):0<2 ^ k:=Nat.two_pow_pos k
theorem Ao(z:Int)(h0:0<=z)(h1:z<18446744073709551616):bits .and .u64 z 4294967295=z%4294967296:=by go_bits2
theorem mul64_go(x y x0 x1 y0 y1 a b c d t w1 l:Int)(w:World)(_hx:0<=x)(_hx1:x<18446744073709551616)(_hy:0<=y)(_hy1:y<18446744073709551616)
  (e1:bits .and .u64 x 4294967295=x0) (e2:x/4294967296=x1) (e3:bits .and .u64 y 4294967295=y0) (e4:y/4294967296=y1)
  (ma:IntKind.u64.wrap (x0*y0)=a) (mb:IntKind.u64.wrap (x1*y0)=b) (mc:IntKind.u64.wrap (x0*y1)=c) (md:IntKind.u64.wrap (x1*y1)=d) (ml:IntKind.u64.wrap (x*y)=l)
  (a0:0<=a) (a1:a<=18446744065119617025) (b0:0<=b) (b1:b<=18446744065119617025) (c0:0<=c) (c1:c<=18446744065119617025) (d0:0<=d) (d1:d<=18446744065119617025)
  (ht:b+a/4294967296=t) (t0:0<=t) (t1:t<18446744073709551616) (hw:bits .and .u64 t 4294967295=w1) (w0:0<=w1) (w2:w1<4294967296) (hr:d+t/4294967296+(w1+c)/4294967296<18446744073709551616):
  Calls prog 135 #[.int .u64 x,.int .u64 y] w fun r w'=>r=.returned (.tuple #[.int .u64 (d+t/4294967296+(w1+c)/4294967296),.int .u64 l])/\w'=w:=by
 go_enter func135,ntmps135
 go_wp2
 go_ret2
 exact⟨rfl,rfl⟩
theorem vN(v:Int):IntKind.u64.wrap v=v%18446744073709551616:=by
 simp[IntKind.wrap,IntKind.bits,IntKind.signed]
theorem qU(a b:Int)(ha:0<=a)(ha1:a<=4294967295)(hb:0<=b)(hb1:b<=4294967295):0<=a*b/\a*b<=18446744065119617025:=by
 refine⟨Int.mul_nonneg ha hb,?_⟩
 exact Int.le_trans (Int.mul_le_mul ha1 hb1 hb (by decide)) (by decide)
theorem mul64_at(x y:Int)(w:World)(hx:0<=x)(hx1:x<18446744073709551616)(hy:0<=y)(hy1:y<18446744073709551616):
  Calls prog 135 #[.int .u64 x,.int .u64 y] w fun r w'=>r=.returned (.tuple #[.int .u64 (x*y/18446744073709551616),.int .u64 (x*y%18446744073709551616)])/\w'=w:=by
 obtain⟨a0,a1⟩:=qU (x%4294967296) (y%4294967296) (by omega) (by omega) (by omega) (by omega)
 obtain⟨b0,b1⟩:=qU (x/4294967296) (y%4294967296) (by omega) (by omega) (by omega) (by omega)
 obtain⟨c0,c1⟩:=qU (x%4294967296) (y/4294967296) (by omega) (by omega) (by omega) (by omega)
 obtain⟨d0,d1⟩:=qU (x/4294967296) (y/4294967296) (by omega) (by omega) (by omega) (by omega)
 have hxy:x*y=x%4294967296*(y%4294967296)+(x/4294967296*(y%4294967296)+x%4294967296*(y/4294967296))*4294967296+x/4294967296*(y/4294967296)*18446744073709551616:=by
  have ex:x=x%4294967296+x/4294967296*4294967296:=by omega
  have ey:y=y%4294967296+y/4294967296*4294967296:=by omega
  generalize x%4294967296=p at*
  generalize x/4294967296=q at*
  generalize y%4294967296=r at*
  generalize y/4294967296=s at*
  subst ex ey
  rw[Int.add_mul,Int.mul_add,Int.mul_add]
  have z1:p*(s*4294967296)=p*s*4294967296:=by rw[Int.mul_assoc]
  have z2:q*4294967296*r=q*r*4294967296:=by rw[Int.mul_assoc,Int.mul_comm 4294967296,<- Int.mul_assoc]
  have z3:q*4294967296*(s*4294967296)=q*s*18446744073709551616:=by
   rw[Int.mul_assoc,Int.mul_left_comm 4294967296,<- Int.mul_assoc];rfl
  rw[z1,z2,z3]
  generalize p*r=A
  generalize p*s=B
  generalize q*r=C
  generalize q*s=D
  omega
 have w1:=Ao (x/4294967296*(y%4294967296)+x%4294967296*(y%4294967296)/4294967296)
 have ma:=vN (x%4294967296*(y%4294967296))
 have mb:=vN (x/4294967296*(y%4294967296))
 have mc:=vN (x%4294967296*(y/4294967296))
 have md:=vN (x/4294967296*(y/4294967296))
 have e1:=Ao x hx hx1
 have e3:=Ao y hy hy1
 have h:=mul64_go x y (x%4294967296) (x/4294967296) (y%4294967296) (y/4294967296)
 generalize x%4294967296*(y%4294967296)=a at*
 generalize x/4294967296*(y%4294967296)=b at*
 generalize x%4294967296*(y/4294967296)=c at*
 generalize x/4294967296*(y/4294967296)=d at*
 have w1':=w1 (by omega) (by omega)
 have h2:=h a b c d _ _ _ w hx hx1 hy hy1 e1 rfl e3 rfl (by rw[ma];omega) (by rw[mb];omega) (by rw[mc];omega) (by rw[md];omega) (vN _) a0 a1 b0 b1 c0 c1 d0 d1 rfl (by omega) (by omega) w1' (by omega) (by omega) (by omega)
 have e:d+(b+a/4294967296)/4294967296+((b+a/4294967296)%4294967296+c)/4294967296=x*y/18446744073709551616:=by
  rw[hxy];omega
 rw[e]at h2
 exact h2
theorem kW{n k:Nat}(h:2 ^ k<=n)(h':n<2 ^ (k+1)):n.log2=k:=by
 have:n≠0:=by have:=pow_pos k;omega
 exact(Nat.log2_eq_iff this).2 ⟨h,h'⟩
theorem kV(b:ByteArray)(i:Nat)(h:i<b.size):b[i]'h=(b[i]?).getD 0:=by simp[h]
def len8(n:Nat):Int:=if n=0 then 0 else((n.log2+1:Nat):Int)
theorem len_0(x:Int)(w:World)(h0:0<=x)(h1:x<18446744073709551616)(t32:x<4294967296)(t16:x<65536)(t8:x<256):Calls prog 188 #[.int .u64 x] w fun e w'=>e=.returned (.int .i64 (0+len8 x.toNat))/\w'=w:=by
 go_enter func188,ntmps188
 go_wp2
 go_ret
 refine⟨dZ ?_,rfl⟩
 have hl:x.toNat<256:=by omega
 rw[kV]
 generalize hn:x.toNat=n at hl ⊢
 clear hn
 revert n
 decide+kernel
theorem len_8(x y0:Int)(w:World)(h0:0<=x)(h1:x<18446744073709551616)(t32:x<4294967296)(t16:x<65536)(t8:256<=x)(e8:x/256=y0)(p8:0<=y0)(fl:y0<256):Calls prog 188 #[.int .u64 x] w fun e w'=>e=.returned (.int .i64 (8+len8 y0.toNat))/\w'=w:=by
 go_enter func188,ntmps188
 go_wp2
 go_ret
 refine⟨dZ ?_,rfl⟩
 have hl:y0.toNat<256:=by omega
 rw[kV]
 generalize hn:y0.toNat=n at hl ⊢
 clear hn
 revert n
 decide+kernel
theorem len_16(x y0:Int)(w:World)(h0:0<=x)(h1:x<18446744073709551616)(t32:x<4294967296)(t16:65536<=x)(e16:x/65536=y0)(p16:0<=y0)(t8:y0<256)(_fl:y0<256):Calls prog 188 #[.int .u64 x] w fun e w'=>e=.returned (.int .i64 (16+len8 y0.toNat))/\w'=w:=by
 go_enter func188,ntmps188
 go_wp2
 go_ret
 refine⟨dZ ?_,rfl⟩
 have hl:y0.toNat<256:=by omega
 rw[kV]
 generalize hn:y0.toNat=n at hl ⊢
 clear hn
 revert n
 decide+kernel
theorem len_24(x y0 y1:Int)(w:World)(h0:0<=x)(h1:x<18446744073709551616)(t32:x<4294967296)(t16:65536<=x)(e16:x/65536=y0)(_p16:0<=y0)(t8:256<=y0)(e8:y0/256=y1)(p8:0<=y1)(fl:y1<256):Calls prog 188 #[.int .u64 x] w fun e w'=>e=.returned (.int .i64 (24+len8 y1.toNat))/\w'=w:=by
 go_enter func188,ntmps188
 go_wp2
 go_ret
 refine⟨dZ ?_,rfl⟩
 have hl:y1.toNat<256:=by omega
 rw[kV]
 generalize hn:y1.toNat=n at hl ⊢
 clear hn
 revert n
 decide+kernel
theorem len_32(x y0:Int)(w:World)(_h0:0<=x)(_h1:x<18446744073709551616)(t32:4294967296<=x)(e32:x/4294967296=y0)(p32:0<=y0)(t16:y0<65536)(t8:y0<256)(_fl:y0<256):Calls prog 188 #[.int .u64 x] w fun e w'=>e=.returned (.int .i64 (32+len8 y0.toNat))/\w'=w:=by
 go_enter func188,ntmps188
 go_wp2
 go_ret
 refine⟨dZ ?_,rfl⟩
 have hl:y0.toNat<256:=by omega
 rw[kV]
 generalize hn:y0.toNat=n at hl ⊢
 clear hn
 revert n
 decide+kernel
theorem len_40(x y0 y1:Int)(w:World)(_h0:0<=x)(_h1:x<18446744073709551616)(t32:4294967296<=x)(e32:x/4294967296=y0)(p32:0<=y0)(t16:y0<65536)(t8:256<=y0)(e8:y0/256=y1)(p8:0<=y1)(fl:y1<256):Calls prog 188 #[.int .u64 x] w fun e w'=>e=.returned (.int .i64 (40+len8 y1.toNat))/\w'=w:=by
 go_enter func188,ntmps188
 go_wp2
 go_ret
 refine⟨dZ ?_,rfl⟩
 have hl:y1.toNat<256:=by omega
 rw[kV]
 generalize hn:y1.toNat=n at hl ⊢
 clear hn
 revert n
 decide+kernel
theorem len_48(x y0 y1:Int)(w:World)(_h0:0<=x)(_h1:x<18446744073709551616)(t32:4294967296<=x)(e32:x/4294967296=y0)(_p32:0<=y0)(t16:65536<=y0)(e16:y0/65536=y1)(p16:0<=y1)(t8:y1<256)(_fl:y1<256):Calls prog 188 #[.int .u64 x] w fun e w'=>e=.returned (.int .i64 (48+len8 y1.toNat))/\w'=w:=by
 go_enter func188,ntmps188
 go_wp2
 go_ret
 refine⟨dZ ?_,rfl⟩
 have hl:y1.toNat<256:=by omega
 rw[kV]
 generalize hn:y1.toNat=n at hl ⊢
 clear hn
 revert n
 decide+kernel
theorem len_56(x y0 y1 y2:Int)(w:World)(_h0:0<=x)(_h1:x<18446744073709551616)(t32:4294967296<=x)(e32:x/4294967296=y0)(_p32:0<=y0)(t16:65536<=y0)(e16:y0/65536=y1)(_p16:0<=y1)(t8:256<=y1)(e8:y1/256=y2)(p8:0<=y2)(fl:y2<256):Calls prog 188 #[.int .u64 x] w fun e w'=>e=.returned (.int .i64 (56+len8 y2.toNat))/\w'=w:=by
 go_enter func188,ntmps188
 go_wp2
 go_ret
 refine⟨dZ ?_,rfl⟩
 have hl:y2.toNat<256:=by omega
 rw[kV]
 generalize hn:y2.toNat=n at hl ⊢
 clear hn
 revert n
 decide+kernel
theorem CJ(n s:Nat)(h:0<n/2 ^ s):n.log2=(n/2 ^ s).log2+s:=by
 have hy:n/2 ^ s≠0:=by omega
 have h1:=Nat.log2_self_le hy
 have h2:=Nat.lt_log2_self (n:=n/2 ^ s)
 apply kW
 ·rw[Nat.pow_add]
  exact Nat.le_trans (Nat.mul_le_mul_right _ h1) (Nat.div_mul_le_self n (2 ^ s))
 ·have:n<(n/2 ^ s+1)*2 ^ s:=by
   have:=Nat.lt_mul_div_succ n (pow_pos s)
   rw[Nat.mul_comm]at this;exact this
  refine Nat.lt_of_lt_of_le this ?_
  have e:(n/2 ^ s).log2+s+1=((n/2 ^ s).log2+1)+s:=by omega
  rw[e,Nat.pow_add]
  exact Nat.mul_le_mul_right _ h2
theorem gC(n s:Nat)(h:0<n/2 ^ s):(s:Int)+len8 (n/2 ^ s)=((n.log2+1:Nat):Int):=by
 have:=CJ n s h
 unfold len8
 rw[if_neg (by omega)];omega
theorem len64_at(x:Nat)(w:World)(h0:0<x)(h1:x<18446744073709551616):
  Calls prog 188 #[.int .u64 (x:Int)] w fun e w'=>e=.returned (.int .i64 ((x.log2+1:Nat):Int))/\w'=w:=by
 by_cases a:x<4294967296
 ·by_cases b:x<65536
  ·by_cases c:x<256
   ·have h:=len_0 (x:Int) w (by omega) (by omega) (by omega) (by omega) (by omega)
    have e:=gC x 0 (by rw[Nat.pow_zero,Nat.div_one];exact h0)
    rw[Nat.pow_zero,Nat.div_one]at e
    rw[Int.toNat_natCast]at h
    rw[<- e];exact h
   ·have h:=len_8 (x:Int) _ w (by omega) (by omega) (by omega) (by omega) (by omega) rfl (by omega) (by omega)
    have e:=gC x 8 (by omega)
    rw[show((x:Int)/256).toNat=x/2 ^ 8 by omega]at h
    rw[<- e];exact h
  ·by_cases c:x/65536<256
   ·have h:=len_16 (x:Int) _ w (by omega) (by omega) (by omega) (by omega) rfl (by omega) (by omega) (by omega)
    have e:=gC x 16 (by omega)
    rw[show((x:Int)/65536).toNat=x/2 ^ 16 by omega]at h
    rw[<- e];exact h
   ·have h:=len_24 (x:Int) _ _ w (by omega) (by omega) (by omega) (by omega) rfl (by omega) (by omega) rfl (by omega) (by omega)
    have e:=gC x 24 (by omega)
    rw[show((x:Int)/65536/256).toNat=x/2 ^ 24 by omega]at h
    rw[<- e];exact h
 ·by_cases b:x/4294967296<65536
  ·by_cases c:x/4294967296<256
   ·have h:=len_32 (x:Int) _ w (by omega) (by omega) (by omega) rfl (by omega) (by omega) (by omega) (by omega)
    have e:=gC x 32 (by omega)
    rw[show((x:Int)/4294967296).toNat=x/2 ^ 32 by omega]at h
    rw[<- e];exact h
   ·have h:=len_40 (x:Int) _ _ w (by omega) (by omega) (by omega) rfl (by omega) (by omega) (by omega) rfl (by omega) (by omega)
    have e:=gC x 40 (by omega)
    rw[show((x:Int)/4294967296/256).toNat=x/2 ^ 40 by omega]at h
    rw[<- e];exact h
  ·by_cases c:x/4294967296/65536<256
   ·have h:=len_48 (x:Int) _ _ w (by omega) (by omega) (by omega) rfl (by omega) (by omega) rfl (by omega) (by omega) (by omega)
    have e:=gC x 48 (by omega)
    rw[show((x:Int)/4294967296/65536).toNat=x/2 ^ 48 by omega]at h
    rw[<- e];exact h
   ·have h:=len_56 (x:Int) _ _ _ w (by omega) (by omega) (by omega) rfl (by omega) (by omega) rfl (by omega) (by omega) rfl (by omega) (by omega)
    have e:=gC x 56 (by omega)
    rw[show((x:Int)/4294967296/65536/256).toNat=x/2 ^ 56 by omega]at h
    rw[<- e];exact h
theorem dQ(k:Nat):((2:Int) ^ k)=((2 ^ k:Nat):Int):=by rw[Int.natCast_pow];rfl
theorem or_add(a b s:Nat)(hb:b<2 ^ s)(h:a*2 ^ s+b<18446744073709551616):bits .or .u64 ((a*2 ^ s:Nat):Int) (b:Int)=((a*2 ^ s+b:Nat):Int):=by
 show IntKind.u64.wrap ((BitVec.ofInt 64 ((a*2 ^ s:Nat):Int) ||| BitVec.ofInt 64 (b:Int)).toNat:Int)=_
 rw[BitVec.toNat_or,ofInt_u64 _ (by omega),ofInt_u64 _ (by omega)]
 have:=Nat.shiftLeft_add_eq_or_of_lt hb a
 rw[Nat.shiftLeft_eq]at this
 rw[<- this,vN]
 omega
theorem lead_go(x n:Int)(w:World)(L:Hid (Calls prog 188 #[.int .u64 x] w fun e w'=>e=.returned (.int .i64 n)/\w'=w))(h0:0<=n)(h1:n<=64):Calls prog 161 #[.int .u64 x] w fun e w'=>e=.returned (.int .i64 (64 - n))/\w'=w:=by
 go_enter func161,ntmps161
 go_wp2_with fail
 refine L.out.mono ?_
 rintro e9 v ⟨rfl,hv⟩
 have hv2:=hv.symm
 subst hv2
 go_wp2
 go_ret
 exact⟨rfl,rfl⟩
theorem lead_at(x:Nat)(w:World)(h0:0<x)(h1:x<18446744073709551616):Calls prog 161 #[.int .u64 (x:Int)] w fun e w'=>e=.returned (.int .i64 (64 - ((x.log2+1:Nat):Int)))/\w'=w:=by
 have l:x.log2<64:=(Nat.log2_lt (by omega)).2 h1
 exact lead_go _ _ w (len64_at x w h0 h1) (by omega) (by omega)
end Sh
end
namespace Sh
def DI(y yn1 u32 U q rh:Int):Prop:=q*yn1+rh=u32/\U/y<=q/\0<=rh/\0<=q
section
variable {y yn1 yn0 u32 u1 U q rh:Int}
theorem DI.start(hy:y=yn1*4294967296+yn0)(h0:0<=yn0)(h1:0<yn1)(hu:U=u32*4294967296+u1)(hu1:0<=u1/\u1<4294967296)(hu0:0<=u32):DI y yn1 u32 U (u32/yn1) (u32 - u32/yn1*yn1):=by
 have d:=nQ (a:=u32) h1
 rw[Int.mul_comm]at d
 have q0:0<=u32/yn1:=Int.ediv_nonneg hu0 (by omega)
 refine⟨by omega,?_,by omega,q0⟩
 generalize u32/yn1=k at*
 have hy0:0<y:=by omega
 refine Int.le_of_lt_add_one (Int.ediv_lt_of_lt_mul hy0 ?_)
 have e1:(k+1)*y=(k*yn1+yn1)*4294967296+(k+1)*yn0:=by
  rw[hy,Int.mul_add,<- Int.mul_assoc,Int.add_mul k 1 yn1,Int.one_mul]
 have e2:0<=(k+1)*yn0:=Int.mul_nonneg (by omega) h0
 rw[e1]
 have e3:u32+1<=k*yn1+yn1:=by omega
 omega
theorem DI.test(hy:y=yn1*4294967296+yn0)(hu:U=u32*4294967296+u1)(h:DI y yn1 u32 U q rh):(4294967296*rh+u1<q*yn0 ↔ U<q*y):=by
 have e:q*y=q*yn1*4294967296+q*yn0:=by rw[hy,Int.mul_add,<- Int.mul_assoc]
 have h1:=h.1
 rw[e,hu]
 constructor<;>intro k<;>omega
theorem DI.small(hy0:0<y)(hu:U=u32*4294967296+u1)(hu1:0<=u1/\u1<4294967296)(hl:u32<y):U/y<4294967296:=by
 refine Int.ediv_lt_of_lt_mul hy0 ?_
 omega
theorem DI.next(hy:y=yn1*4294967296+yn0)(hy0:0<y)(hu:U=u32*4294967296+u1)(hu1:0<=u1/\u1<4294967296)(hl:u32<y)(hU:0<=U)(h1:0<yn1)(h:DI y yn1 u32 U q rh)(c:4294967296<=q\/4294967296*rh+u1<q*yn0):DI y yn1 u32 U (q - 1) (rh+yn1):=by
 have lt:U/y<q:=by
  rcases c with c | c
  ·have:=DI.small hy0 hu hu1 hl;omega
  ·have k:=(DI.test hy hu h).1 c
   exact Int.ediv_lt_of_lt_mul hy0 k
 have p:=Int.ediv_nonneg hU (show 0<=y by omega)
 obtain⟨a,b,r,s⟩:=h
 refine⟨?_,by omega,by omega,by omega⟩
 rw[Int.sub_mul,Int.one_mul]
 omega
theorem DI.done(hy:y=yn1*4294967296+yn0)(hy0:0<y)(hu:U=u32*4294967296+u1)(h:DI y yn1 u32 U q rh)(c: ¬4294967296*rh+u1<q*yn0):q=U/y:=by
 have k:q*y<=U:=by
  have:=(DI.test hy hu h)
  rcases Int.lt_or_le U (q*y)with l | l
  ·exact absurd (this.2 l) c
  ·exact l
 have g:=h.2.1
 have l:=(Int.le_ediv_iff_mul_le hy0).2 k
 omega
theorem DI.great(hy:y=yn1*4294967296+yn0)(h0:0<=yn0/\yn0<4294967296)(h1:0<yn1)(hu1:0<=u1)(hl:u32<y)(h:DI y yn1 u32 U q rh)(g:4294967296<=rh):q<4294967296/\ ¬4294967296*rh+u1<q*yn0:=by
 obtain⟨a,b,r,s⟩:=h
 have lq:q<4294967296:=by
  have k:yn1*q<yn1*4294967296:=by
   have:yn1*q=q*yn1:=Int.mul_comm _ _
   omega
  exact Int.lt_of_mul_lt_mul_left k (by omega)
 refine⟨lq,fun c=> ?_⟩
 have m:q*yn0<=4294967295*4294967295:=Int.mul_le_mul (by omega) (by omega) h0.1 (by omega)
 have e:(4294967295:Int)*4294967295=18446744065119617025:=by decide
 omega
end
end Sh
section
open Go.RowKit
namespace Sh
theorem Ap(lo y:Int)(w:World)(hy:0<y)(hy2:y<18446744073709551616)(hl:0<=lo)(hl2:lo<18446744073709551616):
  Calls prog 136 #[.int .u64 0,.int .u64 lo,.int .u64 y] w fun e w'=>(∃r,e=.returned (.tuple #[.int .u64 (lo/y),.int .u64 r]))/\w'=w.drew:=by
 have h0:(y==0)=false:=by simp;omega
 have h1:decide (y<=0)=false:=decide_eq_false (by omega)
 go_enter func136,ntmps136
 go_wp2
 go_region
 go_wp2
 go_ret2
 exact⟨⟨_,rfl⟩,rfl⟩
theorem div_go(hi lo y s Y a1 a0 u32 u10 u1 u0 U Q1 qa ra n21 V Q0 qb rb R:Int)(w:World)(h0:0<hi)(hy:hi<y)(_hy2:y<9223372036854775808)(_hl:0<=lo)(_hl2:lo<18446744073709551616)
  (LZ:Hid (∀v,Calls prog 161 #[.int .u64 y] v fun e w'=>e=.returned (.int .i64 s)/\w'=v))
  (s0:0<s) (s1:s<64)
  (eY:IntKind.u64.wrap (y*2 ^ s.toNat)=Y) (_Y0:0<=Y) (_Y1:Y<18446744073709551616) (e1:Y/4294967296=a1) (e0:bits .and .u64 Y 4294967295=a0)
  (eu:bits .or .u64 (IntKind.u64.wrap (hi*2 ^ s.toNat)) (lo/2 ^ (64 - s).toNat)=u32)
  (el:IntKind.u64.wrap (lo*2 ^ s.toNat)=u10) (_l0:0<=u10) (_l1:u10<18446744073709551616) (f1:u10/4294967296=u1) (f0:bits .and .u64 u10 4294967295=u0) (a1p:0<a1) (a1q:a1<4294967296) (a0p:0<=a0) (a0q:a0<4294967296) (u32p:0<=u32) (u32q:u32<18446744073709551616) (u1p:0<=u1) (u1q:u1<4294967296) (u0p:0<=u0) (u0q:u0<4294967296)
  (eqa:u32/a1=qa) (era:IntKind.u64.wrap (u32 - IntKind.u64.wrap (qa*a1))=ra) (qap:0<=qa) (qaq:qa<18446744073709551616) (_rap:0<=ra) (raq:ra<4294967296)
  (HY:Hid (Y=a1*4294967296+a0)) (HY0:Hid (0<Y)) (HAU:Hid (U=u32*4294967296+u1)) (HA0:Hid (0<=U)) (HAL:Hid (u32<Y)) (HAQ:Hid (U/Y=Q1)) (HAS:Hid (DI Y a1 u32 U qa ra))
  (en:IntKind.u64.wrap (IntKind.u64.wrap (IntKind.u64.wrap (u32*4294967296)+u1) - IntKind.u64.wrap (Q1*Y))=n21) (np:0<=n21) (nq:n21<18446744073709551616) (Q1p:0<=Q1) (Q1q:Q1<4294967296)
  (eqb:n21/a1=qb) (erb:IntKind.u64.wrap (n21 - IntKind.u64.wrap (qb*a1))=rb) (_qbp:0<=qb) (qbq:qb<18446744073709551616) (_rbp:0<=rb) (rbq:rb<4294967296)
  (HBU:Hid (V=n21*4294967296+u0)) (HB0:Hid (0<=V)) (HBL:Hid (n21<Y)) (HBQ:Hid (V/Y=Q0)) (HBS:Hid (DI Y a1 n21 V qb rb)) (Q0p:0<=Q0) (Q0q:Q0<4294967296) (RE:Hid (Q1*4294967296+Q0=R)):
  Calls prog 136 #[.int .u64 hi,.int .u64 lo,.int .u64 y] w fun e w'=>(∃r,e=.returned (.tuple #[.int .u64 R,.int .u64 r]))/\w'=w:=by
 have g0:(y==0)=false:=by simp;omega
 have g1:decide (y<=hi)=false:=decide_eq_false (by omega)
 have g2:(hi==0)=false:=by simp;omega
 go_enter func136,ntmps136
 go_wp2_with fail
 refine(LZ.out _).mono ?_
 rintro e9 v ⟨rfl,hv⟩
 have hv2:=hv.symm
 subst hv2
 go_wp2
 clear g0 g1 g2 LZ eY eu el
 go_loopw [15,16] (fun qv rv w8=> ∃(q r:Int),qv=.int .u64 q/\rv=.int .u64 r/\DI Y a1 u32 U q r/\r<4294967296/\q<18446744073709551616/\w8=w) (fun qv _ _=>(intOf qv).toNat)
 case atStart=>exact⟨_,_,rfl,rfl,by first | exact HAS.out | (rw[eqa];exact HAS.out),by omega,by omega,rfl⟩
 case round=>
  obtain⟨q,r,rfl,rfl,iv,rbd,qbd,hw8⟩:=hrel
  have hw9:=hw8.symm
  subst hw9
  have q0:=iv.2.2.2
  have r0:=iv.2.2.1
  have IV:=hid iv
  clear iv
  by_cases c1:4294967296<=q
  ·have d1:decide (4294967296<=q)=true:=decide_eq_true c1
   have CC:Hid (4294967296<=q\/4294967296*r+u1<q*a0):=Or.inl c1
   have NX:=hid (DI.next HY.out HY0.out HAU.out ⟨by omega,by omega⟩ HAL.out HA0.out a1p IV.out CC.out)
   have q1:1<=q:=by have:=NX.out.2.2.2;omega
   clear CC
   by_cases b:4294967296<=r+a1
   ·have d3:decide (4294967296<=r+a1)=true:=decide_eq_true b
    have GR:=hid (DI.great (u1:=u1) HY.out ⟨by omega,by omega⟩ a1p (by omega) HAL.out NX.out b)
    have qe:q - 1=Q1:=(DI.done HY.out HY0.out HAU.out NX.out GR.out.2).trans HAQ.out
    clear IV NX GR
    go_wp2
    go_loopw [16,18] (fun rv qv w8=> ∃(q r:Int),qv=.int .u64 q/\rv=.int .u64 r/\DI Y a1 n21 V q r/\r<4294967296/\q<18446744073709551616/\w8=w) (fun _ qv _=>(intOf qv).toNat)
    case atStart=>exact⟨_,_,rfl,rfl,by first | exact HBS.out | (rw[eqb];exact HBS.out),by omega,by omega,rfl⟩
    case round=>
     obtain⟨q,r,rfl,rfl,iv,rbd,qbd,hw8⟩:=hrel
     have hw9:=hw8.symm
     subst hw9
     have q0:=iv.2.2.2
     have r0:=iv.2.2.1
     have IV:=hid iv
     clear iv
     by_cases c1:4294967296<=q
     ·have d1:decide (4294967296<=q)=true:=decide_eq_true c1
      have CC:Hid (4294967296<=q\/4294967296*r+u0<q*a0):=Or.inl c1
      have NX:=hid (DI.next HY.out HY0.out HBU.out ⟨by omega,by omega⟩ HBL.out HB0.out a1p IV.out CC.out)
      have q1:1<=q:=by have:=NX.out.2.2.2;omega
      clear CC
      by_cases b:4294967296<=r+a1
      ·have d3:decide (4294967296<=r+a1)=true:=decide_eq_true b
       have GR:=hid (DI.great (u1:=u0) HY.out ⟨by omega,by omega⟩ a1p (by omega) HBL.out NX.out b)
       have qe:q - 1=Q0:=(DI.done HY.out HY0.out HBU.out NX.out GR.out.2).trans HBQ.out
       clear IV NX GR
       go_wp2
       go_ret2
       exact⟨⟨_,by rw[<- RE.out];rfl⟩,by first | trivial | rfl⟩
      ·have d3:decide (4294967296<=r+a1)=false:=decide_eq_false b
       go_wp2
       exact⟨⟨_,_,rfl,rfl,NX.out,by omega,by omega,by first | trivial | rfl⟩,by simp[intOf]<;>omega⟩
     ·have d1:decide (4294967296<=q)=false:=decide_eq_false c1
      have pb:=sT (a:=q) (b:=a0) (m:=4294967295) (by omega) (by omega) (by omega) (by omega)
      obtain⟨p,hp⟩:=aB (q*a0)
      have PE:=hid hp
      rw[hp]at pb
      have p0:=pb.1
      have p1:p<=18446744065119617025:=Int.le_trans pb.2 (by decide)
      clear pb
      by_cases c2:4294967296*r+u0<p
      ·have d2:decide (4294967296*r+u0<p)=true:=decide_eq_true c2
       have CC:Hid (4294967296<=q\/4294967296*r+u0<q*a0):=Or.inr (by rw[PE.out];exact c2)
       have NX:=hid (DI.next HY.out HY0.out HBU.out ⟨by omega,by omega⟩ HBL.out HB0.out a1p IV.out CC.out)
       have q1:1<=q:=by have:=NX.out.2.2.2;omega
       clear CC
       by_cases b:4294967296<=r+a1
       ·have d3:decide (4294967296<=r+a1)=true:=decide_eq_true b
        have GR:=hid (DI.great (u1:=u0) HY.out ⟨by omega,by omega⟩ a1p (by omega) HBL.out NX.out b)
        have qe:q - 1=Q0:=(DI.done HY.out HY0.out HBU.out NX.out GR.out.2).trans HBQ.out
        clear IV NX GR
        go_wp2
        go_ret2
        exact⟨⟨_,by rw[<- RE.out];rfl⟩,by first | trivial | rfl⟩
       ·have d3:decide (4294967296<=r+a1)=false:=decide_eq_false b
        go_wp2
        exact⟨⟨_,_,rfl,rfl,NX.out,by omega,by omega,by first | trivial | rfl⟩,by simp[intOf]<;>omega⟩
      ·have d2:decide (4294967296*r+u0<p)=false:=decide_eq_false c2
       have qe:q=Q0:=(DI.done HY.out HY0.out HBU.out IV.out (by rw[PE.out];exact c2)).trans HBQ.out
       clear IV
       subst qe
       go_wp2
       go_ret2
       exact⟨⟨_,by rw[<- RE.out];rfl⟩,by first | trivial | rfl⟩
   ·have d3:decide (4294967296<=r+a1)=false:=decide_eq_false b
    go_wp2
    exact⟨⟨_,_,rfl,rfl,NX.out,by omega,by omega,by first | trivial | rfl⟩,by simp[intOf]<;>omega⟩
  ·have d1:decide (4294967296<=q)=false:=decide_eq_false c1
   have pb:=sT (a:=q) (b:=a0) (m:=4294967295) (by omega) (by omega) (by omega) (by omega)
   obtain⟨p,hp⟩:=aB (q*a0)
   have PE:=hid hp
   rw[hp]at pb
   have p0:=pb.1
   have p1:p<=18446744065119617025:=Int.le_trans pb.2 (by decide)
   clear pb
   by_cases c2:4294967296*r+u1<p
   ·have d2:decide (4294967296*r+u1<p)=true:=decide_eq_true c2
    have CC:Hid (4294967296<=q\/4294967296*r+u1<q*a0):=Or.inr (by rw[PE.out];exact c2)
    have NX:=hid (DI.next HY.out HY0.out HAU.out ⟨by omega,by omega⟩ HAL.out HA0.out a1p IV.out CC.out)
    have q1:1<=q:=by have:=NX.out.2.2.2;omega
    clear CC
    by_cases b:4294967296<=r+a1
    ·have d3:decide (4294967296<=r+a1)=true:=decide_eq_true b
     have GR:=hid (DI.great (u1:=u1) HY.out ⟨by omega,by omega⟩ a1p (by omega) HAL.out NX.out b)
     have qe:q - 1=Q1:=(DI.done HY.out HY0.out HAU.out NX.out GR.out.2).trans HAQ.out
     clear IV NX GR
     go_wp2
     go_loopw [16,18] (fun rv qv w8=> ∃(q r:Int),qv=.int .u64 q/\rv=.int .u64 r/\DI Y a1 n21 V q r/\r<4294967296/\q<18446744073709551616/\w8=w) (fun _ qv _=>(intOf qv).toNat)
     case atStart=>exact⟨_,_,rfl,rfl,by first | exact HBS.out | (rw[eqb];exact HBS.out),by omega,by omega,rfl⟩
     case round=>
      obtain⟨q,r,rfl,rfl,iv,rbd,qbd,hw8⟩:=hrel
      have hw9:=hw8.symm
      subst hw9
      have q0:=iv.2.2.2
      have r0:=iv.2.2.1
      have IV:=hid iv
      clear iv
      by_cases c1:4294967296<=q
      ·have d1:decide (4294967296<=q)=true:=decide_eq_true c1
       have CC:Hid (4294967296<=q\/4294967296*r+u0<q*a0):=Or.inl c1
       have NX:=hid (DI.next HY.out HY0.out HBU.out ⟨by omega,by omega⟩ HBL.out HB0.out a1p IV.out CC.out)
       have q1:1<=q:=by have:=NX.out.2.2.2;omega
       clear CC
       by_cases b:4294967296<=r+a1
       ·have d3:decide (4294967296<=r+a1)=true:=decide_eq_true b
        have GR:=hid (DI.great (u1:=u0) HY.out ⟨by omega,by omega⟩ a1p (by omega) HBL.out NX.out b)
        have qe:q - 1=Q0:=(DI.done HY.out HY0.out HBU.out NX.out GR.out.2).trans HBQ.out
        clear IV NX GR
        go_wp2
        go_ret2
        exact⟨⟨_,by rw[<- RE.out];rfl⟩,by first | trivial | rfl⟩
       ·have d3:decide (4294967296<=r+a1)=false:=decide_eq_false b
        go_wp2
        exact⟨⟨_,_,rfl,rfl,NX.out,by omega,by omega,by first | trivial | rfl⟩,by simp[intOf]<;>omega⟩
      ·have d1:decide (4294967296<=q)=false:=decide_eq_false c1
       have pb:=sT (a:=q) (b:=a0) (m:=4294967295) (by omega) (by omega) (by omega) (by omega)
       obtain⟨p,hp⟩:=aB (q*a0)
       have PE:=hid hp
       rw[hp]at pb
       have p0:=pb.1
       have p1:p<=18446744065119617025:=Int.le_trans pb.2 (by decide)
       clear pb
       by_cases c2:4294967296*r+u0<p
       ·have d2:decide (4294967296*r+u0<p)=true:=decide_eq_true c2
        have CC:Hid (4294967296<=q\/4294967296*r+u0<q*a0):=Or.inr (by rw[PE.out];exact c2)
        have NX:=hid (DI.next HY.out HY0.out HBU.out ⟨by omega,by omega⟩ HBL.out HB0.out a1p IV.out CC.out)
        have q1:1<=q:=by have:=NX.out.2.2.2;omega
        clear CC
        by_cases b:4294967296<=r+a1
        ·have d3:decide (4294967296<=r+a1)=true:=decide_eq_true b
         have GR:=hid (DI.great (u1:=u0) HY.out ⟨by omega,by omega⟩ a1p (by omega) HBL.out NX.out b)
         have qe:q - 1=Q0:=(DI.done HY.out HY0.out HBU.out NX.out GR.out.2).trans HBQ.out
         clear IV NX GR
         go_wp2
         go_ret2
         exact⟨⟨_,by rw[<- RE.out];rfl⟩,by first | trivial | rfl⟩
        ·have d3:decide (4294967296<=r+a1)=false:=decide_eq_false b
         go_wp2
         exact⟨⟨_,_,rfl,rfl,NX.out,by omega,by omega,by first | trivial | rfl⟩,by simp[intOf]<;>omega⟩
       ·have d2:decide (4294967296*r+u0<p)=false:=decide_eq_false c2
        have qe:q=Q0:=(DI.done HY.out HY0.out HBU.out IV.out (by rw[PE.out];exact c2)).trans HBQ.out
        clear IV
        subst qe
        go_wp2
        go_ret2
        exact⟨⟨_,by rw[<- RE.out];rfl⟩,by first | trivial | rfl⟩
    ·have d3:decide (4294967296<=r+a1)=false:=decide_eq_false b
     go_wp2
     exact⟨⟨_,_,rfl,rfl,NX.out,by omega,by omega,by first | trivial | rfl⟩,by simp[intOf]<;>omega⟩
   ·have d2:decide (4294967296*r+u1<p)=false:=decide_eq_false c2
    have qe:q=Q1:=(DI.done HY.out HY0.out HAU.out IV.out (by rw[PE.out];exact c2)).trans HAQ.out
    clear IV
    subst qe
    go_wp2
    go_loopw [16,18] (fun rv qv w8=> ∃(q r:Int),qv=.int .u64 q/\rv=.int .u64 r/\DI Y a1 n21 V q r/\r<4294967296/\q<18446744073709551616/\w8=w) (fun _ qv _=>(intOf qv).toNat)
    case atStart=>exact⟨_,_,rfl,rfl,by first | exact HBS.out | (rw[eqb];exact HBS.out),by omega,by omega,rfl⟩
    case round=>
     obtain⟨q,r,rfl,rfl,iv,rbd,qbd,hw8⟩:=hrel
     have hw9:=hw8.symm
     subst hw9
     have q0:=iv.2.2.2
     have r0:=iv.2.2.1
     have IV:=hid iv
     clear iv
     by_cases c1:4294967296<=q
     ·have d1:decide (4294967296<=q)=true:=decide_eq_true c1
      have CC:Hid (4294967296<=q\/4294967296*r+u0<q*a0):=Or.inl c1
      have NX:=hid (DI.next HY.out HY0.out HBU.out ⟨by omega,by omega⟩ HBL.out HB0.out a1p IV.out CC.out)
      have q1:1<=q:=by have:=NX.out.2.2.2;omega
      clear CC
      by_cases b:4294967296<=r+a1
      ·have d3:decide (4294967296<=r+a1)=true:=decide_eq_true b
       have GR:=hid (DI.great (u1:=u0) HY.out ⟨by omega,by omega⟩ a1p (by omega) HBL.out NX.out b)
       have qe:q - 1=Q0:=(DI.done HY.out HY0.out HBU.out NX.out GR.out.2).trans HBQ.out
       clear IV NX GR
       go_wp2
       go_ret2
       exact⟨⟨_,by rw[<- RE.out];rfl⟩,by first | trivial | rfl⟩
      ·have d3:decide (4294967296<=r+a1)=false:=decide_eq_false b
       go_wp2
       exact⟨⟨_,_,rfl,rfl,NX.out,by omega,by omega,by first | trivial | rfl⟩,by simp[intOf]<;>omega⟩
     ·have d1:decide (4294967296<=q)=false:=decide_eq_false c1
      have pb:=sT (a:=q) (b:=a0) (m:=4294967295) (by omega) (by omega) (by omega) (by omega)
      obtain⟨p,hp⟩:=aB (q*a0)
      have PE:=hid hp
      rw[hp]at pb
      have p0:=pb.1
      have p1:p<=18446744065119617025:=Int.le_trans pb.2 (by decide)
      clear pb
      by_cases c2:4294967296*r+u0<p
      ·have d2:decide (4294967296*r+u0<p)=true:=decide_eq_true c2
       have CC:Hid (4294967296<=q\/4294967296*r+u0<q*a0):=Or.inr (by rw[PE.out];exact c2)
       have NX:=hid (DI.next HY.out HY0.out HBU.out ⟨by omega,by omega⟩ HBL.out HB0.out a1p IV.out CC.out)
       have q1:1<=q:=by have:=NX.out.2.2.2;omega
       clear CC
       by_cases b:4294967296<=r+a1
       ·have d3:decide (4294967296<=r+a1)=true:=decide_eq_true b
        have GR:=hid (DI.great (u1:=u0) HY.out ⟨by omega,by omega⟩ a1p (by omega) HBL.out NX.out b)
        have qe:q - 1=Q0:=(DI.done HY.out HY0.out HBU.out NX.out GR.out.2).trans HBQ.out
        clear IV NX GR
        go_wp2
        go_ret2
        exact⟨⟨_,by rw[<- RE.out];rfl⟩,by first | trivial | rfl⟩
       ·have d3:decide (4294967296<=r+a1)=false:=decide_eq_false b
        go_wp2
        exact⟨⟨_,_,rfl,rfl,NX.out,by omega,by omega,by first | trivial | rfl⟩,by simp[intOf]<;>omega⟩
      ·have d2:decide (4294967296*r+u0<p)=false:=decide_eq_false c2
       have qe:q=Q0:=(DI.done HY.out HY0.out HBU.out IV.out (by rw[PE.out];exact c2)).trans HBQ.out
       clear IV
       subst qe
       go_wp2
       go_ret2
       exact⟨⟨_,by rw[<- RE.out];rfl⟩,by first | trivial | rfl⟩
end Sh
end
end Go.Proofs.YtmhnilnaffjhmaaGreatDoor
