/-
  Some of the texts of this proof, one behind the other.
-/
import Derived.Deep.QuietTactic
import Derived.Test.YtmhnilnaffjhmaaGreatDoorCeg15
set_option maxRecDepth 100000
set_option maxHeartbeats 400000000
namespace Go.Proofs.YtmhnilnaffjhmaaGreatDoor
open _root_.Go.Proofs.Tryz
section
open Go.RowKit Tf Cu Go.Deep
namespace Fc
theorem canon_qB{x:Nat}:canonB (qB x)=canonB x:=by
 cases h:isN x
 ·rw[fT h]
 ·rw[qB_N h]
  have e:canonB x=quiet:=by unfold canonB;rw[if_pos h]
  rw[e]
  decide
theorem zH{P:Program}(w:World)(a b:Nat)(ha:a<18446744073709551616)(hb:b<18446744073709551616): ∃r n,(∀t,(binOp .mul t (.float .f64 a) (.float .f64 b)).run P w=.ok (.float .f64 r) (w.drewN n))/\IsQ r (mlB a b):=by
 obtain⟨r,n,h1,h2⟩:=fN (P:=P) w a (qB a) b (qB b) (IsQ.self ha) (IsQ.self hb)
 rw[mlB_qq]at h2
 exact⟨r,n,h1,h2⟩
theorem sub_o{P:Program}(w:World)(a b:Nat)(ha:a<18446744073709551616)(hb:b<18446744073709551616): ∃r n,(∀t,(binOp .sub t (.float .f64 a) (.float .f64 b)).run P w=.ok (.float .f64 r) (w.drewN n))/\IsC r (sbB a b):=by
 obtain⟨r,n,h1,h2⟩:=mM (P:=P) w a (qB a) b (qB b) (IsQ.self ha) (IsQ.self hb)
 rw[sbB_q hb]at h2
 exact⟨r,n,h1,h2⟩
theorem Bw{a b c d:Nat}(ha:a<18446744073709551616)(hb:b<18446744073709551616)(hc:c<18446744073709551616)(hd:d<18446744073709551616)(h:canonB a=canonB c)(k:canonB b=canonB d):canonB (mlB a b)=canonB (mlB c d):=by
 rw[<- kW ha hb,h,kW hc hb,xG,<- kW hb hc,k,kW hd hc,xG]
theorem mY{r q:Nat}(h:IsQ r q):canonB r=canonB q:=by rw[<- h.2,canon_qB]
theorem pu_o{G dt ll lr gap r1 rd r2:Nat}(hG:G<18446744073709551616)(ht:dt<18446744073709551616)(h1:ll<18446744073709551616)(h2:lr<18446744073709551616)(hg:gap<18446744073709551616)(i1:IsQ r1 (mlB G dt))(i2:IsC rd (sbB lr ll))(i3:IsQ r2 (mlB r1 rd)):dvB r2 gap=puB G dt ll lr gap:=by
 have hd:=bO h2 h1
 unfold puB
 rw[<- rR i3.1 hg,<- rR (dK (dK hG ht) hd) hg,mY i3,Bw i1.1 i2.1 (dK hG ht) hd (mY i1) (i2.2.trans (Ef h2 h1).symm)]
theorem u1_o{G dt u ll lr gap r3:Nat}(hu:u<18446744073709551616)(i:IsC r3 (puB G dt ll lr gap)):sbB u r3=u1B G dt u ll lr gap:=by
 unfold u1B
 rw[<- iR hu i.1,<- iR hu (puB_lt _ _ _ _ _),i.2]
 congr 1
 unfold puB
 exact(nN _ _).symm
theorem fgt_can{x y:Nat}(hx:x<18446744073709551616)(hy:y<18446744073709551616)(h:canonB x=canonB y):fgt x 0=fgt y 0/\(fgt x 0=true->x=y):=by
 have r0:rk 0=0:=by decide
 have n0:isN 0=false:=by decide
 rw[eT x 0 hx (by decide),eT y 0 hy (by decide),r0,n0]
 rcases bH hx with⟨a,e⟩ | ⟨a,e⟩ | ⟨a,k,e⟩
 ·rcases bH hy with⟨b,f⟩ | ⟨b,f⟩ | ⟨b,l,f⟩
  ·rw[a,b];simp
  ·rw[e,f]at h;exact absurd h (by decide)
  ·rw[e,f]at h;rw[<- h]at b;exact absurd b (by decide)
 ·have rx:rk x=0:=by unfold rk;rw[a];split<;>rfl
  rcases bH hy with⟨b,f⟩ | ⟨b,f⟩ | ⟨b,l,f⟩
  ·rw[e,f]at h;exact absurd h (by decide)
  ·have ry:rk y=0:=by unfold rk;rw[b];split<;>rfl
   rw[rx,ry];simp
  ·rw[e,f]at h;rw[<- h]at l;exact absurd rfl l
 ·rcases bH hy with⟨b,f⟩ | ⟨b,f⟩ | ⟨b,l,f⟩
  ·rw[e,f]at h;rw[h]at a;exact absurd a (by decide)
  ·rw[e,f]at h;rw[h]at k;exact absurd rfl k
  ·rw[e,f]at h;subst h;simp
theorem h_o{dl dr rs rh:Nat}(h1:dl<18446744073709551616)(h2:dr<18446744073709551616)(i1:IsC rs (addB dl dr))(i2:IsQ rh (mlB 4602678819172646912 rs)):fgt rh 0=fgt (hB dl dr) 0/\(fgt rh 0=true->rh=hB dl dr):=by
 refine fgt_can i2.1 (hB_lt h1 h2) ?_
 unfold hB
 rw[mY i2]
 refine Bw (by decide) i1.1 (by decide) (kQ _ _ h1 h2) rfl ?_
 rw[i1.2]
 exact(Al _ _ h1 h2).symm
theorem mag_o{r x:Nat}(i:IsC r x):canonB (mg r)=canonB (mg x):=by
 have hx:x<18446744073709551616:=by rw[<- i.2];exact Eb i.1
 rcases bH i.1 with⟨a,e⟩ | ⟨a,e⟩ | ⟨a,k,e⟩
 ·have ex:x=quiet:=by rw[<- i.2,e]
  subst ex
  have n:isN (mg r)=true:=by
   rw[bJ]at a ⊢
   have:mg (mg r)=mg r:=by unfold mg;omega
   rw[this];exact a
  have c:canonB (mg r)=quiet:=by unfold canonB;rw[if_pos n]
  rw[c]
  decide
 ·have ex:x=0:=by rw[<- i.2,e]
  subst ex
  rw[a]
  rfl
 ·have ex:x=r:=by rw[<- i.2,e]
  rw[ex]
theorem dg_o{D dt u1 h r6 m r7:Nat}(hD:D<18446744073709551616)(ht:dt<18446744073709551616)(hh:h<18446744073709551616)(i6:IsQ r6 (mlB D dt))(hm:m<18446744073709551616)(im:canonB m=canonB (mg u1))(i7:IsQ r7 (mlB r6 m)):dvB r7 h=dvB (mlB (mlB D dt) (mg u1)) h:=by
 have hu:=wA u1
 rw[<- rR i7.1 hh,<- rR (dK (dK hD ht) hu) hh,mY i7,Bw i6.1 hm (dK hD ht) hu (mY i6) im]
theorem add_can2{a x y:Nat}(ha:a<18446744073709551616)(hx:x<18446744073709551616)(hy:y<18446744073709551616)(h:canonB x=canonB y):addB a x=addB a y:=by
 have e: ∀z,z<18446744073709551616->addB a z=sbB a (negB z):=fun z hz=>by unfold sbB;rw[qY hz]
 have c:canonB (negB x)=canonB (negB y):=by
  have hx2:IsC x (canonB x):=⟨hx,rfl⟩
  have hy2:IsC y (canonB x):=⟨hy,h.symm⟩
  rw[cn_of hx2,cn_of hy2]
 rw[e x hx,e y hy,<- iR ha (bC hx),<- iR ha (bC hy),c]
theorem one_nz{y z:Nat}(hy:y<18446744073709551616)(e:Ieee.double.add 4607182418800017408 y=some z):z≠9223372036854775808:=by
 rcases three y with c | c | c
 ·rw[xC 4607182418800017408 y (by decide) hy (by decide) c]at e
  injection e with e
  rw[show(ng 4607182418800017408&&ng y)=false by rw[show ng 4607182418800017408=false by decide];rfl]at e
  rw[<- e]
  generalize sv 4607182418800017408+sv y=v
  by_cases z:v=0
  ·subst z;rw[kO];decide
  ·intro q
   have h1:mg (rn false v)=0:=by rw[q];decide
   rw[rn_mg]at h1
   have h2:1<=rung 52 0 v.natAbs:=by
    have e1:mag 52 1=1:=by decide
    exact pO (by omega) (by rw[Nat.pow_zero,Nat.mul_one,e1];omega)
   generalize rung 52 0 v.natAbs=r at*
   omega
 ·rw[iA 4607182418800017408 y hy (by decide) c]at e
  injection e with e
  rw[<- e]
  cases ng y<;>decide
 ·rw[bI 4607182418800017408 y (.inr c)]at e
  cases e
theorem dv_o{x y r9:Nat}(hy:y<18446744073709551616)(hr:r9<18446744073709551616)(e:Ieee.double.add 4607182418800017408 y=some r9\/(Ieee.double.add 4607182418800017408 y=none/\isN r9=true)):dvB x r9=dvB x (addB 4607182418800017408 y):=by
 rcases e with e | ⟨e,n⟩
 ·rw[bE e]
  rcases bH hr with⟨a,c⟩ | ⟨a,c⟩ | ⟨a,k,c⟩
  ·rw[c,kA a,kA (by decide)]
  ·rcases jJ hr a with q | q
   ·rw[q];rfl
   ·exact absurd q (one_nz hy e)
  ·rw[c]
 ·rw[aX e,kA n,kA (by decide)]
theorem cu_canon{x:Nat}(hx:x<18446744073709551616):cuB (canonB x)=cuB x:=by
 rcases bH hx with⟨a,e⟩ | ⟨a,e⟩ | ⟨_,_,e⟩
 ·rw[e]
  rcases uF hx with⟨_,c⟩ | ⟨n,_⟩ | ⟨n,_⟩ | ⟨n,_⟩
  ·rw[c];decide
  ·rw[a]at n;cases n
  ·rw[a]at n;cases n
  ·rw[a]at n;cases n
 ·rw[e]
  rcases jJ hx a with rfl | rfl
  ·rfl
  ·decide
 ·rw[e]
theorem add_o{P:Program}(w:World)(a b:Nat)(ha:a<18446744073709551616)(hb:b<18446744073709551616): ∃r n,(∀t,(binOp .add t (.float .f64 a) (.float .f64 b)).run P w=.ok (.float .f64 r) (w.drewN n))/\IsC r (addB a b)/\(Ieee.double.add a b=some r\/(Ieee.double.add a b=none/\isN r=true)):=by
 cases e:Ieee.double.add a b with
 | none=>exact⟨nanOf w a b,1,fun t=>jV w t a b e,⟨fW _ _ _,by rw[aX e];unfold canonB;rw[if_pos (dS _ _ _)]⟩,.inr ⟨rfl,dS _ _ _⟩⟩
 | some r=>exact⟨r,0,fun t=>run_float_arith w .add t .f64 a b r e,⟨(IsQ.add (IsQ.self ha) (IsQ.self hb) e).1,by rw[bE e]⟩,.inl rfl⟩
theorem sp_o{G dt D u ll lr dl dr gap r4 r8 r9 r10 h:Nat}(i4:IsC r4 (u1B G dt u ll lr gap))(hh:h=hB dl dr)(q:fgt h 0=true)(i8:IsC r8 (dvB (mlB (mlB D dt) (mg (u1B G dt u ll lr gap))) h))(h9:r9<18446744073709551616)(e9:Ieee.double.add 4607182418800017408 r8=some r9\/(Ieee.double.add 4607182418800017408 r8=none/\isN r9=true))(i10:IsC r10 (dvB r4 r9)):cuB r10=spB G dt D u ll lr dl dr gap:=by
 have e1:dvB r4 r9=dvB (u1B G dt u ll lr gap) (drB D dt (u1B G dt u ll lr gap) h):=by
  rw[dv_o i8.1 h9 e9,<- rR i4.1 (kQ _ _ (by decide) i8.1),i4.2]
  unfold drB
  rw[add_can2 (by decide) i8.1 (vK _ _) (by rw[i8.2,nN])]
 have e2:cuB r10=cuB (dvB r4 r9):=by
  rw[<- i10.2]
  exact(cu_canon i10.1).symm
 unfold spB
 rw[<- hh,if_pos q,e2,e1]
end Fc
end
section
open Go.RowKit Tf Cu Go.Deep Rl
attribute [local go_sem] aJ aK aN aO aP aQ aV aD
namespace Fc
theorem gM(x:Nat)(w:World)(hx:x<18446744073709551616):Calls prog 169 #[.float .f64 x] w fun e w'=>e=.returned (.float .f64 (cuB x))/\w'=w:=by
 have CL:=hid (tN x w hx)
 have CN:=hid (bN x w hx)
 cases c1:fgt x 4652218415073722368
 ·cases c2:flt x 13875590451928498176
  ·cases c3:isN x
   ·have e:cuB x=canonB x:=by unfold cuB;rw[if_neg (by rw[c1];decide),if_neg (by rw[c2];decide),if_neg (by rw[c3];decide)]
    rw[e]
    have e4:(classB x==4)=false:=by
     have h:=cF.1 c3
     unfold classB
     split
     ·rfl
     ·split
      ·rfl
      ·split
       ·rfl
       ·rw[if_pos (by omega)];rfl
    clear e c3 hx
    generalize canonB x=y at*
    generalize classB x=c at*
    go_enter func169,ntmps169
    go_wp2_with fail
    refine(CL.out).mono ?_
    rintro e w' ⟨rfl,rfl⟩
    go_wp2_with fail
    refine(CN.out).mono ?_
    rintro e w' ⟨rfl,rfl⟩
    go_wp2
    go_ret
    exact⟨rfl,rfl⟩
   ·have e:cuB x=0:=by unfold cuB;rw[if_neg (by rw[c1];decide),if_neg (by rw[c2];decide),if_pos c3]
    rw[e]
    have e4:(classB x==4)=true:=by
     have h:=bJ.1 c3
     unfold classB
     rw[if_neg (by omega),if_neg (by omega),if_neg (by omega),if_neg (by omega)]
     rfl
    clear e c3 hx
    generalize classB x=c at*
    go_enter func169,ntmps169
    go_wp2_with fail
    refine(CL.out).mono ?_
    rintro e w' ⟨rfl,rfl⟩
    go_wp2
    go_ret
    exact⟨rfl,rfl⟩
  ·have e:cuB x=13875590451928498176:=by unfold cuB;rw[if_neg (by rw[c1];decide),if_pos c2]
   rw[e]
   clear e hx
   go_enter func169,ntmps169
   go_wp2
   go_ret
   exact⟨rfl,rfl⟩
 ·have e:cuB x=4652218415073722368:=by unfold cuB;rw[if_pos c1]
  rw[e]
  clear e hx
  go_enter func169,ntmps169
  go_wp2
  go_ret
  exact⟨rfl,rfl⟩
theorem Fk(bl br gap vu:Nat)(wl al wr ar:Int)(dl dv:Nat)(w:World)(h3:dl<18446744073709551616)(h4:dv<18446744073709551616)
  (DL:Hid (∀v,Calls prog 171 #[.agg #[.float .f64 bl,.int .i64 wl,.int .i64 al]] v fun e w'=>e=.returned (.float .f64 dl)/\Below v.heap.size v w'))
  (DR:Hid (∀v,Calls prog 171 #[.agg #[.float .f64 br,.int .i64 wr,.int .i64 ar]] v fun e w'=>e=.returned (.float .f64 dv)/\Below v.heap.size v w')):
  Calls prog 148 #[.agg #[.float .f64 bl,.int .i64 wl,.int .i64 al,.float .f64 br,.int .i64 wr,.int .i64 ar,.float .f64 gap,.float .f64 vu]] w fun e w'=>(∃r,e=.returned (.float .f64 r)/\r<18446744073709551616/\fgt r 0=fgt (hB dl dv) 0/\(fgt r 0=true->r=hB dl dv))/\Below w.heap.size w w':=by
 obtain⟨W_W0,R0⟩:=aL w (.cells #[.float .f64 bl,.int .i64 wl,.int .i64 al,.float .f64 br,.int .i64 wr,.int .i64 ar,.float .f64 gap,.float .f64 vu] 191)
 go_enter func148,ntmps148
 go_upto_region 1 with fail
 generalize hW:World.alloc w _=W0 at*
 obtain⟨g1,hg1⟩:=aB w.heap.size
 rw[hg1]at R0 ⊢
 clear hg1 hW
 obtain⟨UU,E,hF1,hF2⟩:=cls W0
 have HU:=hid hF2
 have HU1:=hid hF1
 have HX:Hid (∀u,Ab w (E u)):=fun u=>W_W0.out.trans (hF1 u)
 have x0: ∀u,(E u).cell? ⟨g1,0,none⟩=some (.float .f64 bl):=fun u=>aA 0 ((hF1 u).heap R0.out)
 have x1: ∀u,(E u).cell? ⟨g1,1,none⟩=some (.int .i64 wl):=fun u=>aA 1 ((hF1 u).heap R0.out)
 have x2: ∀u,(E u).cell? ⟨g1,2,none⟩=some (.int .i64 al):=fun u=>aA 2 ((hF1 u).heap R0.out)
 have x3: ∀u,(E u).cell? ⟨g1,3,none⟩=some (.float .f64 br):=fun u=>aA 3 ((hF1 u).heap R0.out)
 have x4: ∀u,(E u).cell? ⟨g1,4,none⟩=some (.int .i64 wr):=fun u=>aA 4 ((hF1 u).heap R0.out)
 have x5: ∀u,(E u).cell? ⟨g1,5,none⟩=some (.int .i64 ar):=fun u=>aA 5 ((hF1 u).heap R0.out)
 have x6: ∀u,(E u).cell? ⟨g1,6,none⟩=some (.float .f64 gap):=fun u=>aA 6 ((hF1 u).heap R0.out)
 have x7: ∀u,(E u).cell? ⟨g1,7,none⟩=some (.float .f64 vu):=fun u=>aA 7 ((hF1 u).heap R0.out)
 have DD0:=HU.out _ (Ab.refl W0).drew
 clear hF1 hF2
 refine cH 6 E (by kernel_rfl) (by kernel_rfl) (by kernel_rfl) DD0 ?_
 simp only[List.take_succ_cons,List.take_zero,List.drop_succ_cons,List.drop_zero]
 repeat(go_big_quiet_step (first
  | (with_reducible rfl)
  | (go_at_call_of 171 bl;exact aH HU HU1 (DL.out _))
  | (go_at_call_of 171 br;exact aH HU HU1 (DR.out _))))
 refine wpQuiet_nil ?_
 intro z hwz
 obtain⟨u0,hu⟩:=hwz
 have AZ:Hid (Ab W0 z):=by rw[hu];exact HU1.out u0
 clear hu u0
 clear HU HU1 DD0 HX x0 x1 x2 x3 x4 x5 x6 x7
 clear E UU
 have W_z:Hid (Ab w z):=W_W0.out.trans AZ.out
 obtain⟨rs,n1,hr1,i1,_⟩:=add_o (P:=prog) z dl dv h3 h4
 obtain⟨rh,n2,hr2,i2⟩:=zH (P:=prog) (z.drewN n1) 4602678819172646912 rs (by decide) i1.1
 have HH:=hid (h_o h3 h4 i1 i2)
 have HL:=hid i2.1
 clear i1 i2 h3 h4
 go_wp2
 go_ret
 exact⟨⟨rh,rfl,HL.out,HH.out.1,HH.out.2⟩,Ab.drewN W_z.out _⟩
theorem Fl(bl br gap vu:Nat)(wl al wr ar:Int)(sd:Int)(dt gr dr:Nat)(lim:Int)(rv:Bool)(pr:Option Addr)(lr cr:Nat)(ll lv:Nat)(w:World)(ht:dt<18446744073709551616)(hG:gr<18446744073709551616)(hu:vu<18446744073709551616)(h1:ll<18446744073709551616)(h2:lv<18446744073709551616)(hg:gap<18446744073709551616)
  (LL:Hid (∀v,Calls prog 170 #[.agg #[.float .f64 bl,.int .i64 wl,.int .i64 al]] v fun e w'=>e=.returned (.float .f64 ll)/\Below v.heap.size v w'))
  (LR:Hid (∀v,Calls prog 170 #[.agg #[.float .f64 br,.int .i64 wr,.int .i64 ar]] v fun e w'=>e=.returned (.float .f64 lv)/\Below v.heap.size v w')):
  Calls prog 147 #[.agg #[.float .f64 bl,.int .i64 wl,.int .i64 al,.float .f64 br,.int .i64 wr,.int .i64 ar,.float .f64 gap,.float .f64 vu],.agg #[.int .i64 sd,.float .f64 dt,.float .f64 gr,.float .f64 dr,.int .i64 lim,.bool rv,.slice pr lr cr]] w fun e w'=>(∃r,e=.returned (.float .f64 r)/\IsC r (u1B gr dt vu ll lv gap))/\Below w.heap.size w w':=by
 obtain⟨W_W0,RE,RP⟩:=cA w (.cells #[.float .f64 bl,.int .i64 wl,.int .i64 al,.float .f64 br,.int .i64 wr,.int .i64 ar,.float .f64 gap,.float .f64 vu] 191) (.cells #[.int .i64 sd,.float .f64 dt,.float .f64 gr,.float .f64 dr,.int .i64 lim,.bool rv,.slice pr lr cr] 45)
 go_enter func147,ntmps147
 go_upto_region 1 with fail
 generalize hW:World.alloc (World.alloc w _) _=W0 at*
 obtain⟨ge,hge⟩:=aB w.heap.size
 obtain⟨gp,hgp⟩:=aB (w.heap.size+1)
 rw[hgp]at RP ⊢
 rw[hge]at RE ⊢
 clear hge hgp hW
 have HB:=hid (And.intro ht (And.intro hG (And.intro hu (And.intro h1 (And.intro h2 hg)))))
 clear ht hG hu h1 h2 hg
 refine Rl.lV (fun i v=>match i with
   | 0=>v=.pointer (some ⟨gp,2,none⟩)
   | 1=>v=.float .f64 gr
   | 2=>v=.pointer (some ⟨gp,1,none⟩)
   | 3=>v=.float .f64 dt
   | 4=> ∃r,v=.float .f64 r/\IsQ r (mlB gr dt)
   | 5=>v=.pointer (some ⟨ge,3,none⟩)
   | 6=>v=.agg #[.float .f64 br,.int .i64 wr,.int .i64 ar]
   | 7=>v=.float .f64 lv
   | 8=>v=.pointer (some ⟨ge,0,none⟩)
   | 9=>v=.agg #[.float .f64 bl,.int .i64 wl,.int .i64 al]
   | 10=>v=.float .f64 ll
   | 11=> ∃r,v=.float .f64 r/\IsC r (sbB lv ll)
   | 12=> ∃r,v=.float .f64 r/\r<18446744073709551616/\dvB r gap=puB gr dt ll lv gap
   | 13=>v=.pointer (some ⟨ge,6,none⟩)
   | 14=>v=.float .f64 gap
   | 15=> ∃r,v=.float .f64 r/\IsC r (puB gr dt ll lv gap)
   | _=> ∃r,v=.float .f64 r/\IsC r (puB gr dt ll lv gap)) (fun w9=>Ab W0 w9) (by kernel_rfl) (by kernel_rfl) (by kernel_rfl) (Ab.refl W0).drew ?_ ?_
 ·refine Rl.aR 1 (fun v=>v=.pointer (some ⟨gp,2,none⟩)) rfl rfl ?_ ?_
  ·intro x v hC hR
   clear hR
   intro K hK
   simp only[putAll,Act.put,List.setIfInBounds_toArray,List.set_cons_zero,List.set_cons_succ,Nat.reduceAdd,Nat.zero_add]at hK ⊢
   go_simp
   exact hK.out _ _ rfl hC
  refine Rl.aR 2 (fun v=>v=.float .f64 gr) rfl rfl ?_ ?_
  ·intro x v hC hR
   have h0:x 0=.pointer (some ⟨gp,2,none⟩):=hR 0 (by kernel_rfl)
   have y0:=aA 2 (hC.heap RP.out)
   clear hR
   intro K hK
   simp only[putAll,Act.put,List.setIfInBounds_toArray,List.set_cons_zero,List.set_cons_succ,Nat.reduceAdd,Nat.zero_add]at hK ⊢
   simp only[h0]at hK ⊢
   go_simp
   exact hK.out _ _ rfl hC
  refine Rl.aR 3 (fun v=>v=.pointer (some ⟨gp,1,none⟩)) rfl rfl ?_ ?_
  ·intro x v hC hR
   clear hR
   intro K hK
   simp only[putAll,Act.put,List.setIfInBounds_toArray,List.set_cons_zero,List.set_cons_succ,Nat.reduceAdd,Nat.zero_add]at hK ⊢
   go_simp
   exact hK.out _ _ rfl hC
  refine Rl.aR 4 (fun v=>v=.float .f64 dt) rfl rfl ?_ ?_
  ·intro x v hC hR
   have h0:x 2=.pointer (some ⟨gp,1,none⟩):=hR 2 (by kernel_rfl)
   have y0:=aA 1 (hC.heap RP.out)
   clear hR
   intro K hK
   simp only[putAll,Act.put,List.setIfInBounds_toArray,List.set_cons_zero,List.set_cons_succ,Nat.reduceAdd,Nat.zero_add]at hK ⊢
   simp only[h0]at hK ⊢
   go_simp
   exact hK.out _ _ rfl hC
  refine Rl.aR 5 (fun v=> ∃r,v=.float .f64 r/\IsQ r (mlB gr dt)) rfl rfl ?_ ?_
  ·intro x v hC hR
   have h0:x 1=.float .f64 gr:=hR 1 (by kernel_rfl)
   have h1:x 3=.float .f64 dt:=hR 3 (by kernel_rfl)
   obtain⟨r,k,hr,hi⟩:=zH (P:=prog) v gr dt HB.out.2.1 HB.out.1
   have HI:=hid hi
   clear hi
   clear hR
   intro K hK
   simp only[putAll,Act.put,List.setIfInBounds_toArray,List.set_cons_zero,List.set_cons_succ,Nat.reduceAdd,Nat.zero_add]at hK ⊢
   simp only[h0,h1]at hK ⊢
   go_simp
   exact hK.out _ _ ⟨r,rfl,HI.out⟩ (Ab.drewN hC k)
  refine Rl.aR 6 (fun v=>v=.pointer (some ⟨ge,3,none⟩)) rfl rfl ?_ ?_
  ·intro x v hC hR
   clear hR
   intro K hK
   simp only[putAll,Act.put,List.setIfInBounds_toArray,List.set_cons_zero,List.set_cons_succ,Nat.reduceAdd,Nat.zero_add]at hK ⊢
   go_simp
   exact hK.out _ _ rfl hC
  refine Rl.aR 7 (fun v=>v=.agg #[.float .f64 br,.int .i64 wr,.int .i64 ar]) rfl rfl ?_ ?_
  ·intro x v hC hR
   have h0:x 5=.pointer (some ⟨ge,3,none⟩):=hR 5 (by kernel_rfl)
   have y0:=aA 3 (hC.heap RE.out)
   have y1:=aA 4 (hC.heap RE.out)
   have y2:=aA 5 (hC.heap RE.out)
   clear hR
   intro K hK
   simp only[putAll,Act.put,List.setIfInBounds_toArray,List.set_cons_zero,List.set_cons_succ,Nat.reduceAdd,Nat.zero_add]at hK ⊢
   simp only[h0]at hK ⊢
   go_simp
   exact hK.out _ _ rfl hC
  refine Rl.aR 8 (fun v=>v=.float .f64 lv) rfl rfl ?_ ?_
  ·intro x v hC hR
   have h0:x 6=.agg #[.float .f64 br,.int .i64 wr,.int .i64 ar]:=hR 6 (by kernel_rfl)
   clear hR
   intro K hK
   simp only[putAll,Act.put,List.setIfInBounds_toArray,List.set_cons_zero,List.set_cons_succ,Nat.reduceAdd,Nat.zero_add]at hK ⊢
   simp only[h0]at hK ⊢
   go_simp
   refine(LR.out _).mono ?_
   rintro e w8 ⟨rfl,kb⟩
   exact hK.out _ _ rfl (hC.call kb)
  refine Rl.aR 9 (fun v=>v=.pointer (some ⟨ge,0,none⟩)) rfl rfl ?_ ?_
  ·intro x v hC hR
   clear hR
   intro K hK
   simp only[putAll,Act.put,List.setIfInBounds_toArray,List.set_cons_zero,List.set_cons_succ,Nat.reduceAdd,Nat.zero_add]at hK ⊢
   go_simp
   exact hK.out _ _ rfl hC
  refine Rl.aR 10 (fun v=>v=.agg #[.float .f64 bl,.int .i64 wl,.int .i64 al]) rfl rfl ?_ ?_
  ·intro x v hC hR
   have h0:x 8=.pointer (some ⟨ge,0,none⟩):=hR 8 (by kernel_rfl)
   have y0:=aA 0 (hC.heap RE.out)
   have y1:=aA 1 (hC.heap RE.out)
   have y2:=aA 2 (hC.heap RE.out)
   clear hR
   intro K hK
   simp only[putAll,Act.put,List.setIfInBounds_toArray,List.set_cons_zero,List.set_cons_succ,Nat.reduceAdd,Nat.zero_add]at hK ⊢
   simp only[h0]at hK ⊢
   go_simp
   exact hK.out _ _ rfl hC
  refine Rl.aR 11 (fun v=>v=.float .f64 ll) rfl rfl ?_ ?_
  ·intro x v hC hR
   have h0:x 9=.agg #[.float .f64 bl,.int .i64 wl,.int .i64 al]:=hR 9 (by kernel_rfl)
   clear hR
   intro K hK
   simp only[putAll,Act.put,List.setIfInBounds_toArray,List.set_cons_zero,List.set_cons_succ,Nat.reduceAdd,Nat.zero_add]at hK ⊢
   simp only[h0]at hK ⊢
   go_simp
   refine(LL.out _).mono ?_
   rintro e w8 ⟨rfl,kb⟩
   exact hK.out _ _ rfl (hC.call kb)
  refine Rl.aR 12 (fun v=> ∃r,v=.float .f64 r/\IsC r (sbB lv ll)) rfl rfl ?_ ?_
  ·intro x v hC hR
   have h0:x 7=.float .f64 lv:=hR 7 (by kernel_rfl)
   have h1:x 10=.float .f64 ll:=hR 10 (by kernel_rfl)
   obtain⟨r,k,hr,hi⟩:=sub_o (P:=prog) v lv ll HB.out.2.2.2.2.1 HB.out.2.2.2.1
   have HI:=hid hi
   clear hi
   clear hR
   intro K hK
   simp only[putAll,Act.put,List.setIfInBounds_toArray,List.set_cons_zero,List.set_cons_succ,Nat.reduceAdd,Nat.zero_add]at hK ⊢
   simp only[h0,h1]at hK ⊢
   go_simp
   exact hK.out _ _ ⟨r,rfl,HI.out⟩ (Ab.drewN hC k)
  refine Rl.aR 13 (fun v=> ∃r,v=.float .f64 r/\r<18446744073709551616/\dvB r gap=puB gr dt ll lv gap) rfl rfl ?_ ?_
  ·intro x v hC hR
   have h0: ∃r,x 4=.float .f64 r/\IsQ r (mlB gr dt):=hR 4 (by kernel_rfl)
   have h5: ∃r,x 11=.float .f64 r/\IsC r (sbB lv ll):=hR 11 (by kernel_rfl)
   obtain⟨r1,e1,i1⟩:=h0
   obtain⟨rd,e2,i2⟩:=h5
   obtain⟨r,k,hr,hi⟩:=zH (P:=prog) v r1 rd i1.1 i2.1
   have HP:=hid (pu_o HB.out.2.1 HB.out.1 HB.out.2.2.2.1 HB.out.2.2.2.2.1 HB.out.2.2.2.2.2 i1 i2 hi)
   have HL:=hid hi.1
   clear i1 i2 hi
   clear hR
   intro K hK
   simp only[putAll,Act.put,List.setIfInBounds_toArray,List.set_cons_zero,List.set_cons_succ,Nat.reduceAdd,Nat.zero_add]at hK ⊢
   simp only[e1,e2]at hK ⊢
   go_simp
   exact hK.out _ _ ⟨r,rfl,HL.out,HP.out⟩ (Ab.drewN hC k)
  refine Rl.aR 14 (fun v=>v=.pointer (some ⟨ge,6,none⟩)) rfl rfl ?_ ?_
  ·intro x v hC hR
   clear hR
   intro K hK
   simp only[putAll,Act.put,List.setIfInBounds_toArray,List.set_cons_zero,List.set_cons_succ,Nat.reduceAdd,Nat.zero_add]at hK ⊢
   go_simp
   exact hK.out _ _ rfl hC
  refine Rl.aR 15 (fun v=>v=.float .f64 gap) rfl rfl ?_ ?_
  ·intro x v hC hR
   have h0:x 13=.pointer (some ⟨ge,6,none⟩):=hR 13 (by kernel_rfl)
   have y0:=aA 6 (hC.heap RE.out)
   clear hR
   intro K hK
   simp only[putAll,Act.put,List.setIfInBounds_toArray,List.set_cons_zero,List.set_cons_succ,Nat.reduceAdd,Nat.zero_add]at hK ⊢
   simp only[h0]at hK ⊢
   go_simp
   exact hK.out _ _ rfl hC
  refine Rl.aR 16 (fun v=> ∃r,v=.float .f64 r/\IsC r (puB gr dt ll lv gap)) rfl rfl ?_ ?_
  ·intro x v hC hR
   have h0: ∃r,x 12=.float .f64 r/\r<18446744073709551616/\dvB r gap=puB gr dt ll lv gap:=hR 12 (by kernel_rfl)
   have h5:x 14=.float .f64 gap:=hR 14 (by kernel_rfl)
   obtain⟨r1,e1,i1,i2⟩:=h0
   obtain⟨r,k,hr,hi⟩:=gJ (P:=prog) v r1 gap
   rw[i2]at hi
   have HI:=hid hi
   clear i1 i2 hi
   clear hR
   intro K hK
   simp only[putAll,Act.put,List.setIfInBounds_toArray,List.set_cons_zero,List.set_cons_succ,Nat.reduceAdd,Nat.zero_add]at hK ⊢
   simp only[e1,h5]at hK ⊢
   go_simp
   exact hK.out _ _ ⟨r,rfl,HI.out⟩ (Ab.drewN hC k)
  refine Rl.aR 17 (fun v=> ∃r,v=.float .f64 r/\IsC r (puB gr dt ll lv gap)) rfl rfl ?_ ?_
  ·intro x v hC hR
   have h0: ∃r,x 15=.float .f64 r/\IsC r (puB gr dt ll lv gap):=hR 15 (by kernel_rfl)
   obtain⟨r1,e1,i1⟩:=h0
   have HI:=hid i1
   clear i1
   clear hR
   intro K hK
   simp only[putAll,Act.put,List.setIfInBounds_toArray,List.set_cons_zero,List.set_cons_succ,Nat.reduceAdd,Nat.zero_add]at hK ⊢
   simp only[e1]at hK ⊢
   go_simp
   exact hK.out _ _ ⟨r1,rfl,HI.out⟩ hC
  exact Rl.wM
 ·intro x z hz hR
  have h0: ∃r,x 16=.float .f64 r/\IsC r (puB gr dt ll lv gap):=hR 16 (by decide)
  clear hR
  obtain⟨r3,e3,i3⟩:=h0
  have y7:=aA 7 (Ab.heap hz RE.out)
  obtain⟨r,k,hr,hi⟩:=sub_o (P:=prog) z vu r3 HB.out.2.2.1 i3.1
  rw[u1_o HB.out.2.2.1 i3]at hi
  have HI:=hid hi
  have WZ:Hid (Ab w z):=W_W0.out.trans hz
  clear hi i3 hz
  simp only[putAll,Act.put,List.setIfInBounds_toArray,List.set_cons_zero,List.set_cons_succ,Nat.reduceAdd,Nat.zero_add]
  go_wp2
  go_ret
  exact⟨⟨r,rfl,HI.out⟩,Ab.drewN WZ.out k⟩
theorem Bx(sd:Int)(dt gr dr:Nat)(lim:Int)(rv:Bool)(pr:Option Addr)(lr cr:Nat)(u h:Nat)(w:World)(q:fgt h 0=false):Calls prog 146 #[.agg #[.int .i64 sd,.float .f64 dt,.float .f64 gr,.float .f64 dr,.int .i64 lim,.bool rv,.slice pr lr cr],.float .f64 u,.float .f64 h] w fun e w'=>e=.returned (.float .f64 0)/\Below w.heap.size w w':=by
 have A0:=jP (bl1 w (.cells #[.int .i64 sd,.float .f64 dt,.float .f64 gr,.float .f64 dr,.int .i64 lim,.bool rv,.slice pr lr cr] 45))
 go_enter func146,ntmps146
 go_wp2
 go_ret
 exact⟨rfl,A0.out⟩
theorem zI(sd:Int)(dt gr dr:Nat)(lim:Int)(rv:Bool)(pr:Option Addr)(lr cr:Nat)(u h vu ll lv dl dv gap:Nat)(w:World)(ht:dt<18446744073709551616)(hD:dr<18446744073709551616)(hL:h<18446744073709551616)(i4:IsC u (u1B gr dt vu ll lv gap))(hh:h=hB dl dv)(q:fgt h 0=true):Calls prog 146 #[.agg #[.int .i64 sd,.float .f64 dt,.float .f64 gr,.float .f64 dr,.int .i64 lim,.bool rv,.slice pr lr cr],.float .f64 u,.float .f64 h] w fun e w'=>e=.returned (.float .f64 (spB gr dt dr vu ll lv dl dv gap))/\Below w.heap.size w w':=by
 have I4:=hid i4
 have AB:=hid (fun v=>vH u v i4.1)
 have HH:=hid (And.intro hh q)
 have HB:=hid (And.intro ht (And.intro hD hL))
 clear i4 hh ht hD hL
 obtain⟨y,hy⟩:=aB (spB gr dt dr vu ll lv dl dv gap)
 rw[hy]
 have HY:=hid hy
 clear hy
 obtain⟨W_W0,RP⟩:=aL w (.cells #[.int .i64 sd,.float .f64 dt,.float .f64 gr,.float .f64 dr,.int .i64 lim,.bool rv,.slice pr lr cr] 45)
 go_enter func146,ntmps146
 go_upto_region 2 with fail
 generalize hW:World.alloc w _=W0 at*
 obtain⟨gp,hgp⟩:=aB w.heap.size
 rw[hgp]at RP ⊢
 clear hgp hW q
 refine Rl.lV (fun i v=>match i with
   | 0=>v=.float .f64 u
   | 1=>v=.pointer (some ⟨gp,3,none⟩)
   | 2=>v=.float .f64 dr
   | 3=>v=.pointer (some ⟨gp,1,none⟩)
   | 4=>v=.float .f64 dt
   | 5=> ∃r,v=.float .f64 r/\IsQ r (mlB dr dt)
   | 6=>v=.float .f64 u
   | 7=>v=.float .f64 (mg u)
   | 8=> ∃r,v=.float .f64 r/\r<18446744073709551616/\dvB r h=dvB (mlB (mlB dr dt) (mg (u1B gr dt vu ll lv gap))) h
   | 9=>v=.float .f64 h
   | 10=> ∃r,v=.float .f64 r/\IsC r (dvB (mlB (mlB dr dt) (mg (u1B gr dt vu ll lv gap))) h)
   | 11=> ∃r9 r8,v=.float .f64 r9/\r9<18446744073709551616/\IsC r8 (dvB (mlB (mlB dr dt) (mg (u1B gr dt vu ll lv gap))) h)/\(Ieee.double.add 4607182418800017408 r8=some r9\/(Ieee.double.add 4607182418800017408 r8=none/\isN r9=true))
   | 12=> ∃r,v=.float .f64 r/\r<18446744073709551616/\cuB r=spB gr dt dr vu ll lv dl dv gap
   | 13=>v=.float .f64 y
   | _=>v=.float .f64 y) (fun w9=>Ab W0 w9) (by kernel_rfl) (by kernel_rfl) (by kernel_rfl) (Ab.refl W0).drew ?_ ?_
 ·refine Rl.aR 1 (fun v=>v=.float .f64 u) rfl rfl ?_ ?_
  ·intro x v hC hR
   clear hR
   intro K hK
   simp only[putAll,Act.put,List.setIfInBounds_toArray,List.set_cons_zero,List.set_cons_succ,Nat.reduceAdd,Nat.zero_add]at hK ⊢
   go_simp
   exact hK.out _ _ rfl hC
  refine Rl.aR 2 (fun v=>v=.pointer (some ⟨gp,3,none⟩)) rfl rfl ?_ ?_
  ·intro x v hC hR
   clear hR
   intro K hK
   simp only[putAll,Act.put,List.setIfInBounds_toArray,List.set_cons_zero,List.set_cons_succ,Nat.reduceAdd,Nat.zero_add]at hK ⊢
   go_simp
   exact hK.out _ _ rfl hC
  refine Rl.aR 3 (fun v=>v=.float .f64 dr) rfl rfl ?_ ?_
  ·intro x v hC hR
   have h0:x 1=.pointer (some ⟨gp,3,none⟩):=hR 1 (by kernel_rfl)
   have y0:=aA 3 (hC.heap RP.out)
   clear hR
   intro K hK
   simp only[putAll,Act.put,List.setIfInBounds_toArray,List.set_cons_zero,List.set_cons_succ,Nat.reduceAdd,Nat.zero_add]at hK ⊢
   simp only[h0]at hK ⊢
   go_simp
   exact hK.out _ _ rfl hC
  refine Rl.aR 4 (fun v=>v=.pointer (some ⟨gp,1,none⟩)) rfl rfl ?_ ?_
  ·intro x v hC hR
   clear hR
   intro K hK
   simp only[putAll,Act.put,List.setIfInBounds_toArray,List.set_cons_zero,List.set_cons_succ,Nat.reduceAdd,Nat.zero_add]at hK ⊢
   go_simp
   exact hK.out _ _ rfl hC
  refine Rl.aR 5 (fun v=>v=.float .f64 dt) rfl rfl ?_ ?_
  ·intro x v hC hR
   have h0:x 3=.pointer (some ⟨gp,1,none⟩):=hR 3 (by kernel_rfl)
   have y0:=aA 1 (hC.heap RP.out)
   clear hR
   intro K hK
   simp only[putAll,Act.put,List.setIfInBounds_toArray,List.set_cons_zero,List.set_cons_succ,Nat.reduceAdd,Nat.zero_add]at hK ⊢
   simp only[h0]at hK ⊢
   go_simp
   exact hK.out _ _ rfl hC
  refine Rl.aR 6 (fun v=> ∃r,v=.float .f64 r/\IsQ r (mlB dr dt)) rfl rfl ?_ ?_
  ·intro x v hC hR
   have h0:x 2=.float .f64 dr:=hR 2 (by kernel_rfl)
   have h1:x 4=.float .f64 dt:=hR 4 (by kernel_rfl)
   obtain⟨r,k,hr,hi⟩:=zH (P:=prog) v dr dt HB.out.2.1 HB.out.1
   have HI:=hid hi
   clear hi
   clear hR
   intro K hK
   simp only[putAll,Act.put,List.setIfInBounds_toArray,List.set_cons_zero,List.set_cons_succ,Nat.reduceAdd,Nat.zero_add]at hK ⊢
   simp only[h0,h1]at hK ⊢
   go_simp
   exact hK.out _ _ ⟨r,rfl,HI.out⟩ (Ab.drewN hC k)
  refine Rl.aR 7 (fun v=>v=.float .f64 u) rfl rfl ?_ ?_
  ·intro x v hC hR
   clear hR
   intro K hK
   simp only[putAll,Act.put,List.setIfInBounds_toArray,List.set_cons_zero,List.set_cons_succ,Nat.reduceAdd,Nat.zero_add]at hK ⊢
   go_simp
   exact hK.out _ _ rfl hC
  refine Rl.aR 8 (fun v=>v=.float .f64 (mg u)) rfl rfl ?_ ?_
  ·intro x v hC hR
   have h0:x 6=.float .f64 u:=hR 6 (by kernel_rfl)
   clear hR
   intro K hK
   simp only[putAll,Act.put,List.setIfInBounds_toArray,List.set_cons_zero,List.set_cons_succ,Nat.reduceAdd,Nat.zero_add]at hK ⊢
   simp only[h0]at hK ⊢
   go_simp
   refine(AB.out _).mono ?_
   rintro e w8 ⟨rfl,hw8⟩
   have hw9:=hw8.symm
   subst hw9
   exact hK.out _ _ rfl hC
  refine Rl.aR 9 (fun v=> ∃r,v=.float .f64 r/\r<18446744073709551616/\dvB r h=dvB (mlB (mlB dr dt) (mg (u1B gr dt vu ll lv gap))) h) rfl rfl ?_ ?_
  ·intro x v hC hR
   have h0: ∃r,x 5=.float .f64 r/\IsQ r (mlB dr dt):=hR 5 (by kernel_rfl)
   have h5:x 7=.float .f64 (mg u):=hR 7 (by kernel_rfl)
   obtain⟨r1,e1,i1⟩:=h0
   obtain⟨r,k,hr,hi⟩:=zH (P:=prog) v r1 (mg u) i1.1 (wA u)
   have HP:=hid (dg_o HB.out.2.1 HB.out.1 HB.out.2.2 i1 (wA u) (mag_o I4.out) hi)
   have HL:=hid hi.1
   clear i1 hi
   clear hR
   intro K hK
   simp only[putAll,Act.put,List.setIfInBounds_toArray,List.set_cons_zero,List.set_cons_succ,Nat.reduceAdd,Nat.zero_add]at hK ⊢
   simp only[e1,h5]at hK ⊢
   go_simp
   exact hK.out _ _ ⟨r,rfl,HL.out,HP.out⟩ (Ab.drewN hC k)
  refine Rl.aR 10 (fun v=>v=.float .f64 h) rfl rfl ?_ ?_
  ·intro x v hC hR
   clear hR
   intro K hK
   simp only[putAll,Act.put,List.setIfInBounds_toArray,List.set_cons_zero,List.set_cons_succ,Nat.reduceAdd,Nat.zero_add]at hK ⊢
   go_simp
   exact hK.out _ _ rfl hC
  refine Rl.aR 11 (fun v=> ∃r,v=.float .f64 r/\IsC r (dvB (mlB (mlB dr dt) (mg (u1B gr dt vu ll lv gap))) h)) rfl rfl ?_ ?_
  ·intro x v hC hR
   have h0: ∃r,x 8=.float .f64 r/\r<18446744073709551616/\dvB r h=dvB (mlB (mlB dr dt) (mg (u1B gr dt vu ll lv gap))) h:=hR 8 (by kernel_rfl)
   have h5:x 9=.float .f64 h:=hR 9 (by kernel_rfl)
   obtain⟨r1,e1,i1,i2⟩:=h0
   obtain⟨r,k,hr,hi⟩:=gJ (P:=prog) v r1 h
   rw[i2]at hi
   have HI:=hid hi
   clear i1 i2 hi
   clear hR
   intro K hK
   simp only[putAll,Act.put,List.setIfInBounds_toArray,List.set_cons_zero,List.set_cons_succ,Nat.reduceAdd,Nat.zero_add]at hK ⊢
   simp only[e1,h5]at hK ⊢
   go_simp
   exact hK.out _ _ ⟨r,rfl,HI.out⟩ (Ab.drewN hC k)
  refine Rl.aR 12 (fun v=> ∃r9 r8,v=.float .f64 r9/\r9<18446744073709551616/\IsC r8 (dvB (mlB (mlB dr dt) (mg (u1B gr dt vu ll lv gap))) h)/\(Ieee.double.add 4607182418800017408 r8=some r9\/(Ieee.double.add 4607182418800017408 r8=none/\isN r9=true))) rfl rfl ?_ ?_
  ·intro x v hC hR
   have h0: ∃r,x 10=.float .f64 r/\IsC r (dvB (mlB (mlB dr dt) (mg (u1B gr dt vu ll lv gap))) h):=hR 10 (by kernel_rfl)
   obtain⟨r1,e1,i1⟩:=h0
   obtain⟨r,k,hr,hi,hj⟩:=add_o (P:=prog) v 4607182418800017408 r1 (by decide) i1.1
   have HI:=hid (And.intro hi.1 (And.intro i1 hj))
   clear i1 hi hj
   clear hR
   intro K hK
   simp only[putAll,Act.put,List.setIfInBounds_toArray,List.set_cons_zero,List.set_cons_succ,Nat.reduceAdd,Nat.zero_add]at hK ⊢
   simp only[e1]at hK ⊢
   go_simp
   exact hK.out _ _ ⟨r,r1,rfl,HI.out⟩ (Ab.drewN hC k)
  refine Rl.aR 13 (fun v=> ∃r,v=.float .f64 r/\r<18446744073709551616/\cuB r=spB gr dt dr vu ll lv dl dv gap) rfl rfl ?_ ?_
  ·intro x v hC hR
   have h5:x 0=.float .f64 u:=hR 0 (by kernel_rfl)
   have h0: ∃r9 r8,x 11=.float .f64 r9/\r9<18446744073709551616/\IsC r8 (dvB (mlB (mlB dr dt) (mg (u1B gr dt vu ll lv gap))) h)/\(Ieee.double.add 4607182418800017408 r8=some r9\/(Ieee.double.add 4607182418800017408 r8=none/\isN r9=true)):=hR 11 (by kernel_rfl)
   obtain⟨r9,r8,e1,i9,i8,j9⟩:=h0
   obtain⟨r,k,hr,hi⟩:=gJ (P:=prog) v u r9
   have HI:=hid (And.intro hi.1 (sp_o (dl:=dl) (dr:=dv) I4.out HH.out.1 HH.out.2 i8 i9 j9 hi))
   clear i8 i9 j9 hi
   clear hR
   intro K hK
   simp only[putAll,Act.put,List.setIfInBounds_toArray,List.set_cons_zero,List.set_cons_succ,Nat.reduceAdd,Nat.zero_add]at hK ⊢
   simp only[h5,e1]at hK ⊢
   go_simp
   exact hK.out _ _ ⟨r,rfl,HI.out⟩ (Ab.drewN hC k)
  refine Rl.aR 14 (fun v=>v=.float .f64 y) rfl rfl ?_ ?_
  ·intro x v hC hR
   have h0: ∃r,x 12=.float .f64 r/\r<18446744073709551616/\cuB r=spB gr dt dr vu ll lv dl dv gap:=hR 12 (by kernel_rfl)
   obtain⟨r1,e1,i1,i2⟩:=h0
   have KP:=hid (fun v9=>gM r1 v9 i1)
   rw[i2,HY.out]at KP
   clear i1 i2
   clear hR
   intro K hK
   simp only[putAll,Act.put,List.setIfInBounds_toArray,List.set_cons_zero,List.set_cons_succ,Nat.reduceAdd,Nat.zero_add]at hK ⊢
   simp only[e1]at hK ⊢
   go_simp
   refine(KP.out _).mono ?_
   rintro e w8 ⟨rfl,hw8⟩
   have hw9:=hw8.symm
   subst hw9
   exact hK.out _ _ rfl hC
  refine Rl.aR 15 (fun v=>v=.float .f64 y) rfl rfl ?_ ?_
  ·intro x v hC hR
   have h0:x 13=.float .f64 y:=hR 13 (by kernel_rfl)
   clear hR
   intro K hK
   simp only[putAll,Act.put,List.setIfInBounds_toArray,List.set_cons_zero,List.set_cons_succ,Nat.reduceAdd,Nat.zero_add]at hK ⊢
   simp only[h0]at hK ⊢
   go_simp
   exact hK.out _ _ rfl hC
  exact Rl.wM
 ·intro x z hz hR
  have h0:x 14=.float .f64 y:=hR 14 (by decide)
  clear hR
  have WZ:Hid (Ab w z):=W_W0.out.trans hz
  clear hz
  simp only[putAll,Act.put,List.setIfInBounds_toArray,List.set_cons_zero,List.set_cons_succ,Nat.reduceAdd,Nat.zero_add,h0]
  go_wp2
  go_ret
  exact⟨rfl,WZ.out⟩
end Fc
end
section
open Go.RowKit Tf Cu Go.Deep Rl
attribute [local go_sem] aJ aK aN aO aP aQ aV aD
namespace Fc
theorem ffits_at(gb:Nat)(pb pw pt ps:Option Addr)(lb cb lw cw lt ct ls cs:Nat)(sky st:Int)(M N:Nat)(q:Bool)(w:World)
  (hq:(((lb:Int)==(M:Int))=false/\q=false)\/(((lb:Int)==(M:Int))=true/\((lw:Int)==(M:Int))=false/\q=false)\/(((lb:Int)==(M:Int))=true/\((lw:Int)==(M:Int))=true/\((lt:Int)==(M:Int))=false/\q=false)\/(((lb:Int)==(M:Int))=true/\((lw:Int)==(M:Int))=true/\((lt:Int)==(M:Int))=true/\((ls:Int)==(N:Int))=q))
  (CC:Hid (∀v,Ab w v->Calls prog 7 #[(.pointer (some ⟨gb,0,none⟩))] v fun e w'=>e=.returned (.int .i64 (M:Nat))/\Below v.heap.size v w'))
  (CE:Hid (∀v,Ab w v->Calls prog 8 #[(.pointer (some ⟨gb,0,none⟩))] v fun e w'=>e=.returned (.int .i64 (N:Nat))/\Below v.heap.size v w')):
  Calls prog 110 #[(.pointer (some ⟨gb,0,none⟩)),.agg #[.slice pb lb cb,.slice pw lw cw,.slice pt lt ct,.slice ps ls cs,.int .i64 sky,.int .i64 st]] w fun e w'=>e=.returned (.bool q)/\Below w.heap.size w w':=by
 obtain⟨A0,RO⟩:=aL w (.cells #[.slice pb lb cb,.slice pw lw cw,.slice pt lt ct,.slice ps ls cs,.int .i64 sky,.int .i64 st] 48)
 go_enter func110,ntmps110
 go_wp2_with fail
 refine(CC.out _ A0.out).mono ?_
 rintro e9 v1 ⟨rfl,b1⟩
 have A1:Hid (Ab w v1):=A0.out.call b1
 have R1:Hid (v1.heap[w.heap.size]? =some (.cells #[.slice pb lb cb,.slice pw lw cw,.slice pt lt ct,.slice ps ls cs,.int .i64 sky,.int .i64 st] 48)):=Ab.heap b1 RO.out
 clear b1 A0 RO
 go_upto_region 2 with fail
 obtain⟨gs,hgs⟩:=aB w.heap.size
 rw[hgs]at R1 ⊢
 clear hgs
 rcases hq with⟨q1,rfl⟩ | ⟨q1,q2,rfl⟩ | ⟨q1,q2,q3,rfl⟩ | ⟨q1,q2,q3,q4⟩
 ·obtain⟨UU,E,hF1,hF2⟩:=cls v1
  have HU:=hid hF2
  have HU1:=hid hF1
  have HX:Hid (∀u,Ab w (E u)):=fun u=>Ab.trans A1.out (hF1 u)
  have s0: ∀u,(E u).cell? ⟨gs,0,none⟩=some (.slice pb lb cb):=fun u=>aA 0 ((hF1 u).heap R1.out)
  have s1: ∀u,(E u).cell? ⟨gs,1,none⟩=some (.slice pw lw cw):=fun u=>aA 1 ((hF1 u).heap R1.out)
  have s2: ∀u,(E u).cell? ⟨gs,2,none⟩=some (.slice pt lt ct):=fun u=>aA 2 ((hF1 u).heap R1.out)
  have s3: ∀u,(E u).cell? ⟨gs,3,none⟩=some (.slice ps ls cs):=fun u=>aA 3 ((hF1 u).heap R1.out)
  have DD0:=HU.out _ (Ab.refl v1).drew
  clear hF1 hF2
  refine aM E (by kernel_rfl) (by kernel_rfl) DD0 ?_
  repeat(go_big_quiet_step (first
   | (with_reducible rfl)
   | (go_at_call 8;exact aH HU HU1 (CE.out _ (HX.out _)))))
  refine wpQuiet_nil ?_
  intro z hwz
  obtain⟨u0,hu⟩:=hwz
  have AZ:Hid (Ab w z):=by rw[hu];exact HX.out u0
  clear hu u0
  clear HU HU1 HX DD0 s0 s1 s2 s3
  clear E UU
  go_wp2
  go_ret
  exact⟨rfl,AZ.out⟩
 ·obtain⟨UU,E,hF1,hF2⟩:=cls v1
  have HU:=hid hF2
  have HU1:=hid hF1
  have HX:Hid (∀u,Ab w (E u)):=fun u=>Ab.trans A1.out (hF1 u)
  have s0: ∀u,(E u).cell? ⟨gs,0,none⟩=some (.slice pb lb cb):=fun u=>aA 0 ((hF1 u).heap R1.out)
  have s1: ∀u,(E u).cell? ⟨gs,1,none⟩=some (.slice pw lw cw):=fun u=>aA 1 ((hF1 u).heap R1.out)
  have s2: ∀u,(E u).cell? ⟨gs,2,none⟩=some (.slice pt lt ct):=fun u=>aA 2 ((hF1 u).heap R1.out)
  have s3: ∀u,(E u).cell? ⟨gs,3,none⟩=some (.slice ps ls cs):=fun u=>aA 3 ((hF1 u).heap R1.out)
  have DD0:=HU.out _ (Ab.refl v1).drew
  clear hF1 hF2
  refine aM E (by kernel_rfl) (by kernel_rfl) DD0 ?_
  repeat(go_big_quiet_step (first
   | (with_reducible rfl)
   | (go_at_call 8;exact aH HU HU1 (CE.out _ (HX.out _)))))
  refine wpQuiet_nil ?_
  intro z hwz
  obtain⟨u0,hu⟩:=hwz
  have AZ:Hid (Ab w z):=by rw[hu];exact HX.out u0
  clear hu u0
  clear HU HU1 HX DD0 s0 s1 s2 s3
  clear E UU
  go_wp2
  go_ret
  exact⟨rfl,AZ.out⟩
 ·obtain⟨UU,E,hF1,hF2⟩:=cls v1
  have HU:=hid hF2
  have HU1:=hid hF1
  have HX:Hid (∀u,Ab w (E u)):=fun u=>Ab.trans A1.out (hF1 u)
  have s0: ∀u,(E u).cell? ⟨gs,0,none⟩=some (.slice pb lb cb):=fun u=>aA 0 ((hF1 u).heap R1.out)
  have s1: ∀u,(E u).cell? ⟨gs,1,none⟩=some (.slice pw lw cw):=fun u=>aA 1 ((hF1 u).heap R1.out)
  have s2: ∀u,(E u).cell? ⟨gs,2,none⟩=some (.slice pt lt ct):=fun u=>aA 2 ((hF1 u).heap R1.out)
  have s3: ∀u,(E u).cell? ⟨gs,3,none⟩=some (.slice ps ls cs):=fun u=>aA 3 ((hF1 u).heap R1.out)
  have DD0:=HU.out _ (Ab.refl v1).drew
  clear hF1 hF2
  refine aM E (by kernel_rfl) (by kernel_rfl) DD0 ?_
  repeat(go_big_quiet_step (first
   | (with_reducible rfl)
   | (go_at_call 8;exact aH HU HU1 (CE.out _ (HX.out _)))))
  refine wpQuiet_nil ?_
  intro z hwz
  obtain⟨u0,hu⟩:=hwz
  have AZ:Hid (Ab w z):=by rw[hu];exact HX.out u0
  clear hu u0
  clear HU HU1 HX DD0 s0 s1 s2 s3
  clear E UU
  go_wp2
  go_ret
  exact⟨rfl,AZ.out⟩
 ·obtain⟨UU,E,hF1,hF2⟩:=cls v1
  have HU:=hid hF2
  have HU1:=hid hF1
  have HX:Hid (∀u,Ab w (E u)):=fun u=>Ab.trans A1.out (hF1 u)
  have s0: ∀u,(E u).cell? ⟨gs,0,none⟩=some (.slice pb lb cb):=fun u=>aA 0 ((hF1 u).heap R1.out)
  have s1: ∀u,(E u).cell? ⟨gs,1,none⟩=some (.slice pw lw cw):=fun u=>aA 1 ((hF1 u).heap R1.out)
  have s2: ∀u,(E u).cell? ⟨gs,2,none⟩=some (.slice pt lt ct):=fun u=>aA 2 ((hF1 u).heap R1.out)
  have s3: ∀u,(E u).cell? ⟨gs,3,none⟩=some (.slice ps ls cs):=fun u=>aA 3 ((hF1 u).heap R1.out)
  have DD0:=HU.out _ (Ab.refl v1).drew
  clear hF1 hF2
  refine aM E (by kernel_rfl) (by kernel_rfl) DD0 ?_
  repeat(go_big_quiet_step (first
   | (with_reducible rfl)
   | (go_at_call 8;exact aH HU HU1 (CE.out _ (HX.out _)))))
  refine wpQuiet_nil ?_
  intro z hwz
  obtain⟨u0,hu⟩:=hwz
  have AZ:Hid (Ab w z):=by rw[hu];exact HX.out u0
  clear hu u0
  clear HU HU1 HX DD0 s0 s1 s2 s3
  clear E UU
  go_wp2
  go_ret
  exact⟨rfl,AZ.out⟩
theorem row8{w:World}{g:Nat}{a b c d e f i j x y z p q r s k:Value}{T:TypeId}(h:w.heap[g]? =some (.cells #[a,b,c,d,e,f,i,j] T)):
  ((((((((w.setCell ⟨g,0,none⟩ x).setCell ⟨g,1,none⟩ y).setCell ⟨g,2,none⟩ z).setCell ⟨g,3,none⟩ p).setCell ⟨g,4,none⟩ q).setCell ⟨g,5,none⟩ r).setCell ⟨g,6,none⟩ s).setCell ⟨g,7,none⟩ k).heap[g]? =some (.cells #[x,y,z,p,q,r,s,k] T):=by
 have h1:=aI (v:=x) (k:=0) h
 have h2:=aI (v:=y) (k:=1) h1
 have h3:=aI (v:=z) (k:=2) h2
 have h4:=aI (v:=p) (k:=3) h3
 have h5:=aI (v:=q) (k:=4) h4
 have h6:=aI (v:=r) (k:=5) h5
 have h7:=aI (v:=s) (k:=6) h6
 have h8:=aI (v:=k) (k:=7) h7
 simpa using h8
theorem uN(gb bb bo wb wo M cb cw:Nat)(pt ps:Option Addr)(lt ct ls cs:Nat)(sky st:Int)(c:Nat)(b:Nat)(wt aC:Int)(w:World)(hc:((c:Nat):Int)<M)
  (FB:Hid (∀v,Ab w v->v.cell? ⟨bb,bo+c,none⟩=some (.float .f64 b)))
  (FW:Hid (∀v,Ab w v->v.cell? ⟨wb,wo+c,none⟩=some (.int .i64 wt)))
  (AC:Hid (∀v,Ab w v->Calls prog 17 #[.pointer (some ⟨gb,0,none⟩),.int .i64 (c:Nat)] v fun e w'=>e=.returned (.int .i64 aC)/\Below v.heap.size v w')):
  Calls prog 166 #[.pointer (some ⟨gb,0,none⟩),.agg #[.slice (some ⟨bb,bo,none⟩) M cb,.slice (some ⟨wb,wo,none⟩) M cw,.slice pt lt ct,.slice ps ls cs,.int .i64 sky,.int .i64 st],.int .i64 (c:Nat)] w fun e w'=>e=.returned (.agg #[.float .f64 b,.int .i64 wt,.int .i64 aC])/\Below w.heap.size w w':=by
 obtain⟨W_W0,RS,RC⟩:=cA w (.cells #[.slice (some ⟨bb,bo,none⟩) M cb,.slice (some ⟨wb,wo,none⟩) M cw,.slice pt lt ct,.slice ps ls cs,.int .i64 sky,.int .i64 st] 48) (.cells #[.float .f64 0,.int .i64 0,.int .i64 0] 189)
 have LG:Hid (w.heap.size<=w.heap.size+1):=Nat.le_succ _
 go_enter func166,ntmps166
 go_upto_region 1 with fail
 generalize hW:World.alloc (World.alloc w _) _=W0 at*
 obtain⟨gs,hgs⟩:=aB w.heap.size
 obtain⟨gc,hgc⟩:=aB (w.heap.size+1)
 rw[hgc]at RC LG ⊢
 rw[hgs]at RS ⊢
 clear hgs hgc hW
 obtain⟨UU,E,hF1,hF2⟩:=cls W0
 have HU:=hid hF2
 have HU1:=hid hF1
 have HX:Hid (∀u,Ab w (E u)):=fun u=>W_W0.out.trans (hF1 u)
 have x0: ∀u,(E u).cell? ⟨gs,0,none⟩=some (.slice (some ⟨bb,bo,none⟩) M cb):=fun u=>aA 0 ((hF1 u).heap RS.out)
 have x1: ∀u,(E u).cell? ⟨gs,1,none⟩=some (.slice (some ⟨wb,wo,none⟩) M cw):=fun u=>aA 1 ((hF1 u).heap RS.out)
 have xb: ∀u,(E u).cell? ⟨bb,bo+c,none⟩=some (.float .f64 b):=fun u=>FB.out _ (HX.out u)
 have xw: ∀u,(E u).cell? ⟨wb,wo+c,none⟩=some (.int .i64 wt):=fun u=>FW.out _ (HX.out u)
 have DD0:=HU.out _ (Ab.refl W0).drew
 clear hF1 hF2
 refine cH 14 E (by kernel_rfl) (by kernel_rfl) (by kernel_rfl) DD0 ?_
 simp only[List.take_succ_cons,List.take_zero,List.drop_succ_cons,List.drop_zero]
 repeat(go_big_quiet_step (first
  | (with_reducible rfl)
  | (go_at_call 17;exact aH HU HU1 (AC.out _ (HX.out _)))))
 refine wpQuiet_nil ?_
 intro z hwz
 obtain⟨u0,hu⟩:=hwz
 have AZ:Hid (Ab W0 z):=by rw[hu];exact HU1.out u0
 clear hu u0
 clear HU HU1 DD0 HX x0 x1 xb xw
 clear E UU
 have W_z:Hid (Ab w z):=W_W0.out.trans AZ.out
 have RZ:=hid (Ab.heap AZ.out RC.out)
 obtain⟨⟨o0,o1,o2⟩,o3,o4,o5⟩:=rowfacts RZ.out
 go_wp2
 refine bodyPost_ret ?_ rfl ⟨rfl,?_⟩
 ·exact results_cell_row results166 _ _ gc _ _ (0,0) _ rfl (lF RZ.out) underlying189 rfl (by kernel_rfl)
 ·exact((W_z.out.setk LG.out _).setk LG.out _).setk LG.out _
end Fc
end
section
open Go.RowKit Tf Cu Go.Deep Rl
attribute [local go_sem] aJ aK aN aO aP aQ aV aD
namespace Fc
theorem Fm(gp:Value)(pb pw pt ps:Option Addr)(lb cb lw cw lt ct ls cs:Nat)(sky st:Int)(e:Int)(w:World)
  (EG:Hid (∀v,Ab w v->Calls prog 10 #[gp,.int .i64 e] v fun x w'=>x=.returned (.tuple #[.agg #[.int .i64 0,.int .i64 0,.int .i64 0,.int .i64 0],.bool false])/\Below v.heap.size v w')):
  Calls prog 144 #[gp,.agg #[.slice pb lb cb,.slice pw lw cw,.slice pt lt ct,.slice ps ls cs,.int .i64 sky,.int .i64 st],.int .i64 e] w fun x w'=>x=.returned (.tuple #[.agg #[.float .f64 0,.int .i64 0,.int .i64 0,.float .f64 0,.int .i64 0,.int .i64 0,.float .f64 0,.float .f64 0],.bool false])/\Below w.heap.size w w':=by
 obtain⟨W_W0,RS,RC⟩:=cA w (.cells #[.slice pb lb cb,.slice pw lw cw,.slice pt lt ct,.slice ps ls cs,.int .i64 sky,.int .i64 st] 48) (.cells #[.float .f64 0,.int .i64 0,.int .i64 0,.float .f64 0,.int .i64 0,.int .i64 0,.float .f64 0,.float .f64 0] 191)
 have LG:Hid (w.heap.size<=w.heap.size+1):=Nat.le_succ _
 go_enter func144,ntmps144
 go_upto_region 1 with fail
 generalize hW:World.alloc (World.alloc w _) _=W0 at*
 obtain⟨gs,hgs⟩:=aB w.heap.size
 obtain⟨gc,hgc⟩:=aB (w.heap.size+1)
 rw[hgc]at RC LG ⊢
 rw[hgs]at RS ⊢
 clear hgs hgc hW
 go_wp2_with fail
 refine(EG.out _ W_W0.out).mono ?_
 rintro e9 v1 ⟨rfl,k1⟩
 have W_v1:Hid (Ab w v1):=W_W0.out.call k1
 have RS1:=hid (Ab.heap k1 RS.out)
 have RC1:=hid (Ab.heap k1 RC.out)
 clear k1 W_W0 RS RC
 go_upto_region 2 with fail
 have RE:=hid (heap_alloc_new v1 (.cells #[.int .i64 0,.int .i64 0,.int .i64 0,.int .i64 0] 30))
 have W_V:Hid (Ab w (v1.alloc (.cells #[.int .i64 0,.int .i64 0,.int .i64 0,.int .i64 0] 30))):=W_v1.out.trans (bl1 _ _)
 have RS2:Hid ((v1.alloc (.cells #[.int .i64 0,.int .i64 0,.int .i64 0,.int .i64 0] 30)).heap[gs]? =some (.cells #[.slice pb lb cb,.slice pw lw cw,.slice pt lt ct,.slice ps ls cs,.int .i64 sky,.int .i64 st] 48)):=Ab.heap (bl1 _ _) RS1.out
 have RC2:Hid ((v1.alloc (.cells #[.int .i64 0,.int .i64 0,.int .i64 0,.int .i64 0] 30)).heap[gc]? =some (.cells #[.float .f64 0,.int .i64 0,.int .i64 0,.float .f64 0,.int .i64 0,.int .i64 0,.float .f64 0,.float .f64 0] 191)):=Ab.heap (bl1 _ _) RC1.out
 generalize hV:v1.alloc (.cells #[.int .i64 0,.int .i64 0,.int .i64 0,.int .i64 0] 30)=V at*
 obtain⟨ge,hge⟩:=aB v1.heap.size
 rw[hge]at RE ⊢
 clear hV hge W_v1 RS1 RC1
 have o0:=aA 0 RC2.out
 have q0:=aF RC2.out 0
 have o1:=aA 1 RC2.out
 have q1:=aF RC2.out 1
 have o2:=aA 2 RC2.out
 have q2:=aF RC2.out 2
 have o3:=aA 3 RC2.out
 have q3:=aF RC2.out 3
 have o4:=aA 4 RC2.out
 have q4:=aF RC2.out 4
 have o5:=aA 5 RC2.out
 have q5:=aF RC2.out 5
 have o6:=aA 6 RC2.out
 have q6:=aF RC2.out 6
 have o7:=aA 7 RC2.out
 have q7:=aF RC2.out 7
 go_wp2
 refine bodyPost_ret ?_ rfl ⟨rfl,?_⟩
 ·exact dE results144 _ _ gc _ _ (0,0) _ _ rfl rfl (row8 RC2.out) underlying191 rfl (by kernel_rfl)
 ·exact((((((((W_V.out.setk LG.out _).setk LG.out _).setk LG.out _).setk LG.out _).setk LG.out _).setk LG.out _).setk LG.out _).setk LG.out _)
theorem Bz(gb:Nat)(pb pw pt ps:Option Addr)(lb cb lw cw lt ct ls cs:Nat)(sky st:Int)(e:Int)(lc s1 rc s2:Nat)(w:World)
  (EG:Hid (∀v,Ab w v->Calls prog 10 #[.pointer (some ⟨gb,0,none⟩),.int .i64 e] v fun x w'=>x=.returned (.tuple #[.agg #[.int .i64 (lc:Nat),.int .i64 (s1:Nat),.int .i64 (rc:Nat),.int .i64 (s2:Nat)],.bool true])/\Below v.heap.size v w'))
  (CF:Hid (∀v,Ab w v->Calls prog 110 #[.pointer (some ⟨gb,0,none⟩),.agg #[.slice pb lb cb,.slice pw lw cw,.slice pt lt ct,.slice ps ls cs,.int .i64 sky,.int .i64 st]] v fun x w'=>x=.returned (.bool false)/\Below v.heap.size v w')):
  Calls prog 144 #[.pointer (some ⟨gb,0,none⟩),.agg #[.slice pb lb cb,.slice pw lw cw,.slice pt lt ct,.slice ps ls cs,.int .i64 sky,.int .i64 st],.int .i64 e] w fun x w'=>x=.returned (.tuple #[.agg #[.float .f64 0,.int .i64 0,.int .i64 0,.float .f64 0,.int .i64 0,.int .i64 0,.float .f64 0,.float .f64 0],.bool false])/\Below w.heap.size w w':=by
 obtain⟨W_W0,RS,RC⟩:=cA w (.cells #[.slice pb lb cb,.slice pw lw cw,.slice pt lt ct,.slice ps ls cs,.int .i64 sky,.int .i64 st] 48) (.cells #[.float .f64 0,.int .i64 0,.int .i64 0,.float .f64 0,.int .i64 0,.int .i64 0,.float .f64 0,.float .f64 0] 191)
 have LG:Hid (w.heap.size<=w.heap.size+1):=Nat.le_succ _
 go_enter func144,ntmps144
 go_upto_region 1 with fail
 generalize hW:World.alloc (World.alloc w _) _=W0 at*
 obtain⟨gs,hgs⟩:=aB w.heap.size
 obtain⟨gc,hgc⟩:=aB (w.heap.size+1)
 rw[hgc]at RC LG ⊢
 rw[hgs]at RS ⊢
 clear hgs hgc hW
 go_wp2_with fail
 refine(EG.out _ W_W0.out).mono ?_
 rintro e9 v1 ⟨rfl,k1⟩
 have W_v1:Hid (Ab w v1):=W_W0.out.call k1
 have RS1:=hid (Ab.heap k1 RS.out)
 have RC1:=hid (Ab.heap k1 RC.out)
 clear k1 W_W0 RS RC
 go_upto_region 2 with fail
 have RE:=hid (heap_alloc_new v1 (.cells #[.int .i64 (lc:Nat),.int .i64 (s1:Nat),.int .i64 (rc:Nat),.int .i64 (s2:Nat)] 30))
 have W_V:Hid (Ab w (v1.alloc (.cells #[.int .i64 (lc:Nat),.int .i64 (s1:Nat),.int .i64 (rc:Nat),.int .i64 (s2:Nat)] 30))):=W_v1.out.trans (bl1 _ _)
 have RS2:Hid ((v1.alloc (.cells #[.int .i64 (lc:Nat),.int .i64 (s1:Nat),.int .i64 (rc:Nat),.int .i64 (s2:Nat)] 30)).heap[gs]? =some (.cells #[.slice pb lb cb,.slice pw lw cw,.slice pt lt ct,.slice ps ls cs,.int .i64 sky,.int .i64 st] 48)):=Ab.heap (bl1 _ _) RS1.out
 have RC2:Hid ((v1.alloc (.cells #[.int .i64 (lc:Nat),.int .i64 (s1:Nat),.int .i64 (rc:Nat),.int .i64 (s2:Nat)] 30)).heap[gc]? =some (.cells #[.float .f64 0,.int .i64 0,.int .i64 0,.float .f64 0,.int .i64 0,.int .i64 0,.float .f64 0,.float .f64 0] 191)):=Ab.heap (bl1 _ _) RC1.out
 generalize hV:v1.alloc (.cells #[.int .i64 (lc:Nat),.int .i64 (s1:Nat),.int .i64 (rc:Nat),.int .i64 (s2:Nat)] 30)=V at*
 obtain⟨ge,hge⟩:=aB v1.heap.size
 rw[hge]at RE ⊢
 clear hV hge W_v1 RS1 RC1
 have y0:=aA 0 RS2.out
 have y1:=aA 1 RS2.out
 have y2:=aA 2 RS2.out
 have y3:=aA 3 RS2.out
 have y4:=aA 4 RS2.out
 have y5:=aA 5 RS2.out
 go_wp2_with fail
 refine(CF.out _ W_V.out).mono ?_
 rintro e9 v2 ⟨rfl,k1⟩
 have W_v2:Hid (Ab w v2):=W_V.out.call k1
 have RC3:=hid (Ab.heap k1 RC2.out)
 clear k1 W_V RC2 y0 y1 y2 y3 y4 y5
 have o0:=aA 0 RC3.out
 have q0:=aF RC3.out 0
 have o1:=aA 1 RC3.out
 have q1:=aF RC3.out 1
 have o2:=aA 2 RC3.out
 have q2:=aF RC3.out 2
 have o3:=aA 3 RC3.out
 have q3:=aF RC3.out 3
 have o4:=aA 4 RC3.out
 have q4:=aF RC3.out 4
 have o5:=aA 5 RC3.out
 have q5:=aF RC3.out 5
 have o6:=aA 6 RC3.out
 have q6:=aF RC3.out 6
 have o7:=aA 7 RC3.out
 have q7:=aF RC3.out 7
 go_wp2
 refine bodyPost_ret ?_ rfl ⟨rfl,?_⟩
 ·exact dE results144 _ _ gc _ _ (0,0) _ _ rfl rfl (row8 RC3.out) underlying191 rfl (by kernel_rfl)
 ·exact((((((((W_v2.out.setk LG.out _).setk LG.out _).setk LG.out _).setk LG.out _).setk LG.out _).setk LG.out _).setk LG.out _).setk LG.out _)
theorem Fo(gb bb bo wb wo sb so M N cb cw cs:Nat)(pt:Option Addr)(lt ct:Nat)(sky st:Int)(e lc s1 rc s2:Nat)(bl br gap vu:Nat)(wl al wr ar:Int)(w:World)(he:((e:Nat):Int)<N)
  (EG:Hid (∀v,Ab w v->Calls prog 10 #[.pointer (some ⟨gb,0,none⟩),.int .i64 (e:Nat)] v fun x w'=>x=.returned (.tuple #[.agg #[.int .i64 (lc:Nat),.int .i64 (s1:Nat),.int .i64 (rc:Nat),.int .i64 (s2:Nat)],.bool true])/\Below v.heap.size v w'))
  (CF:Hid (∀v,Ab w v->Calls prog 110 #[.pointer (some ⟨gb,0,none⟩),.agg #[.slice (some ⟨bb,bo,none⟩) M cb,.slice (some ⟨wb,wo,none⟩) M cw,.slice pt lt ct,.slice (some ⟨sb,so,none⟩) N cs,.int .i64 sky,.int .i64 st]] v fun x w'=>x=.returned (.bool true)/\Below v.heap.size v w'))
  (CL:Hid (∀v,Ab w v->Calls prog 166 #[.pointer (some ⟨gb,0,none⟩),.agg #[.slice (some ⟨bb,bo,none⟩) M cb,.slice (some ⟨wb,wo,none⟩) M cw,.slice pt lt ct,.slice (some ⟨sb,so,none⟩) N cs,.int .i64 sky,.int .i64 st],.int .i64 (lc:Nat)] v fun x w'=>x=.returned (.agg #[.float .f64 bl,.int .i64 wl,.int .i64 al])/\Below v.heap.size v w'))
  (CR:Hid (∀v,Ab w v->Calls prog 166 #[.pointer (some ⟨gb,0,none⟩),.agg #[.slice (some ⟨bb,bo,none⟩) M cb,.slice (some ⟨wb,wo,none⟩) M cw,.slice pt lt ct,.slice (some ⟨sb,so,none⟩) N cs,.int .i64 sky,.int .i64 st],.int .i64 (rc:Nat)] v fun x w'=>x=.returned (.agg #[.float .f64 br,.int .i64 wr,.int .i64 ar])/\Below v.heap.size v w'))
  (CG:Hid (∀v,Ab w v->Calls prog 16 #[.pointer (some ⟨gb,0,none⟩),.int .i64 (e:Nat)] v fun x w'=>x=.returned (.float .f64 gap)/\Below v.heap.size v w'))
  (FSp:Hid (∀v,Ab w v->v.cell? ⟨sb,so+e,none⟩=some (.float .f64 vu))):
  Calls prog 144 #[.pointer (some ⟨gb,0,none⟩),.agg #[.slice (some ⟨bb,bo,none⟩) M cb,.slice (some ⟨wb,wo,none⟩) M cw,.slice pt lt ct,.slice (some ⟨sb,so,none⟩) N cs,.int .i64 sky,.int .i64 st],.int .i64 (e:Nat)] w fun x w'=>x=.returned (.tuple #[.agg #[.float .f64 bl,.int .i64 wl,.int .i64 al,.float .f64 br,.int .i64 wr,.int .i64 ar,.float .f64 gap,.float .f64 vu],.bool true])/\Below w.heap.size w w':=by
 obtain⟨W_W0,RS,RC⟩:=cA w (.cells #[.slice (some ⟨bb,bo,none⟩) M cb,.slice (some ⟨wb,wo,none⟩) M cw,.slice pt lt ct,.slice (some ⟨sb,so,none⟩) N cs,.int .i64 sky,.int .i64 st] 48) (.cells #[.float .f64 0,.int .i64 0,.int .i64 0,.float .f64 0,.int .i64 0,.int .i64 0,.float .f64 0,.float .f64 0] 191)
 have LG:Hid (w.heap.size<=w.heap.size+1):=Nat.le_succ _
 go_enter func144,ntmps144
 go_upto_region 1 with fail
 generalize hW:World.alloc (World.alloc w _) _=W0 at*
 obtain⟨gs,hgs⟩:=aB w.heap.size
 obtain⟨gc,hgc⟩:=aB (w.heap.size+1)
 rw[hgc]at RC LG ⊢
 rw[hgs]at RS ⊢
 clear hgs hgc hW
 go_wp2_with fail
 refine(EG.out _ W_W0.out).mono ?_
 rintro e9 v1 ⟨rfl,k1⟩
 have W_v1:Hid (Ab w v1):=W_W0.out.call k1
 have RS1:=hid (Ab.heap k1 RS.out)
 have RC1:=hid (Ab.heap k1 RC.out)
 clear k1 W_W0 RS RC
 go_upto_region 2 with fail
 have RE:=hid (heap_alloc_new v1 (.cells #[.int .i64 (lc:Nat),.int .i64 (s1:Nat),.int .i64 (rc:Nat),.int .i64 (s2:Nat)] 30))
 have W_V:Hid (Ab w (v1.alloc (.cells #[.int .i64 (lc:Nat),.int .i64 (s1:Nat),.int .i64 (rc:Nat),.int .i64 (s2:Nat)] 30))):=W_v1.out.trans (bl1 _ _)
 have RS2:Hid ((v1.alloc (.cells #[.int .i64 (lc:Nat),.int .i64 (s1:Nat),.int .i64 (rc:Nat),.int .i64 (s2:Nat)] 30)).heap[gs]? =some (.cells #[.slice (some ⟨bb,bo,none⟩) M cb,.slice (some ⟨wb,wo,none⟩) M cw,.slice pt lt ct,.slice (some ⟨sb,so,none⟩) N cs,.int .i64 sky,.int .i64 st] 48)):=Ab.heap (bl1 _ _) RS1.out
 have RC2:Hid ((v1.alloc (.cells #[.int .i64 (lc:Nat),.int .i64 (s1:Nat),.int .i64 (rc:Nat),.int .i64 (s2:Nat)] 30)).heap[gc]? =some (.cells #[.float .f64 0,.int .i64 0,.int .i64 0,.float .f64 0,.int .i64 0,.int .i64 0,.float .f64 0,.float .f64 0] 191)):=Ab.heap (bl1 _ _) RC1.out
 generalize hV:v1.alloc (.cells #[.int .i64 (lc:Nat),.int .i64 (s1:Nat),.int .i64 (rc:Nat),.int .i64 (s2:Nat)] 30)=V at*
 obtain⟨ge,hge⟩:=aB v1.heap.size
 rw[hge]at RE ⊢
 clear hV hge W_v1 RS1 RC1
 have y0:=aA 0 RS2.out
 have y1:=aA 1 RS2.out
 have y2:=aA 2 RS2.out
 have y3:=aA 3 RS2.out
 have y4:=aA 4 RS2.out
 have y5:=aA 5 RS2.out
 go_wp2_with fail
 refine(CF.out _ W_V.out).mono ?_
 rintro e9 v2 ⟨rfl,k1⟩
 have W_v2:Hid (Ab w v2):=W_V.out.call k1
 have RC3:=hid (Ab.heap k1 RC2.out)
 have RS3:=hid (Ab.heap k1 RS2.out)
 have RE3:=hid (Ab.heap k1 RE.out)
 clear k1 W_V RC2 RS2 RE y0 y1 y2 y3 y4 y5
 go_upto_region 4 with fail
 obtain⟨UU,E,hF1,hF2⟩:=cls v2
 have HU:=hid hF2
 have HU1:=hid hF1
 have HX:Hid (∀u,Ab w (E u)):=fun u=>W_v2.out.trans (hF1 u)
 have x0: ∀u,(E u).cell? ⟨gs,0,none⟩=some (.slice (some ⟨bb,bo,none⟩) M cb):=fun u=>aA 0 ((hF1 u).heap RS3.out)
 have x1: ∀u,(E u).cell? ⟨gs,1,none⟩=some (.slice (some ⟨wb,wo,none⟩) M cw):=fun u=>aA 1 ((hF1 u).heap RS3.out)
 have x2: ∀u,(E u).cell? ⟨gs,2,none⟩=some (.slice pt lt ct):=fun u=>aA 2 ((hF1 u).heap RS3.out)
 have x3: ∀u,(E u).cell? ⟨gs,3,none⟩=some (.slice (some ⟨sb,so,none⟩) N cs):=fun u=>aA 3 ((hF1 u).heap RS3.out)
 have x4: ∀u,(E u).cell? ⟨gs,4,none⟩=some (.int .i64 sky):=fun u=>aA 4 ((hF1 u).heap RS3.out)
 have x5: ∀u,(E u).cell? ⟨gs,5,none⟩=some (.int .i64 st):=fun u=>aA 5 ((hF1 u).heap RS3.out)
 have ye: ∀u,(E u).cell? ⟨ge,0,none⟩=some (.int .i64 (lc:Nat)):=fun u=>aA 0 ((hF1 u).heap RE3.out)
 have yf: ∀u,(E u).cell? ⟨ge,2,none⟩=some (.int .i64 (rc:Nat)):=fun u=>aA 2 ((hF1 u).heap RE3.out)
 have ys: ∀u,(E u).cell? ⟨sb,so+e,none⟩=some (.float .f64 vu):=fun u=>FSp.out _ (HX.out u)
 have DD0:=HU.out _ (Ab.refl v2).drew
 clear hF1 hF2
 refine cH 19 E (by kernel_rfl) (by kernel_rfl) (by kernel_rfl) DD0 ?_
 simp only[List.take_succ_cons,List.take_zero,List.drop_succ_cons,List.drop_zero]
 repeat(go_big_quiet_step (first
  | (with_reducible rfl)
  | (go_at_call_of 166 lc;exact aH HU HU1 (CL.out _ (HX.out _)))
  | (go_at_call_of 166 rc;exact aH HU HU1 (CR.out _ (HX.out _)))
  | (go_at_call 16;exact aH HU HU1 (CG.out _ (HX.out _)))))
 refine wpQuiet_nil ?_
 intro z hwz
 obtain⟨u0,hu⟩:=hwz
 have AZ:Hid (Ab v2 z):=by rw[hu];exact HU1.out u0
 clear hu u0
 clear HU HU1 DD0 HX x0 x1 x2 x3 x4 x5 ye yf ys
 clear E UU
 have W_z:Hid (Ab w z):=W_v2.out.trans AZ.out
 have RZ:=hid (Ab.heap AZ.out RC3.out)
 have o0:=aA 0 RZ.out
 have q0:=aF RZ.out 0
 have o1:=aA 1 RZ.out
 have q1:=aF RZ.out 1
 have o2:=aA 2 RZ.out
 have q2:=aF RZ.out 2
 have o3:=aA 3 RZ.out
 have q3:=aF RZ.out 3
 have o4:=aA 4 RZ.out
 have q4:=aF RZ.out 4
 have o5:=aA 5 RZ.out
 have q5:=aF RZ.out 5
 have o6:=aA 6 RZ.out
 have q6:=aF RZ.out 6
 have o7:=aA 7 RZ.out
 have q7:=aF RZ.out 7
 go_wp2
 refine bodyPost_ret ?_ rfl ⟨rfl,?_⟩
 ·exact dE results144 _ _ gc _ _ (0,0) _ _ rfl rfl (row8 RZ.out) underlying191 rfl (by kernel_rfl)
 ·exact((((((((W_z.out.setk LG.out _).setk LG.out _).setk LG.out _).setk LG.out _).setk LG.out _).setk LG.out _).setk LG.out _).setk LG.out _)
end Fc
end
end Go.Proofs.YtmhnilnaffjhmaaGreatDoor
