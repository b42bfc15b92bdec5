/-
  Some of the texts of this proof, one behind the other.
-/
import Derived.Deep.RegionHeld3
import Derived.Deep.RegionWith
import Derived.Deep.Cut
import Derived.Deep.CutRange
import Derived.Laws.StructEq
import Derived.Deep.Quiet
import Derived.BigQuiet
import Derived.Maps.AppendAt
import Derived.Deep.MidRow
import Derived.Test.YtmhnilnaffjhmaaGreatDoorCeg00
set_option maxRecDepth 100000
set_option maxHeartbeats 400000000
namespace Go.Proofs.YtmhnilnaffjhmaaGreatDoor
open _root_.Go.Proofs.Tryz
section
open Go.RowKit Cu
theorem wr{x:Int}(h: -1000000<=x/\x<=1000000):IntKind.i64.wrap x=x:=by rw[IntKind.wrap_i64];omega
def Pc(w:World)(g o:Nat)(p:P3):Prop:=w.cell? ⟨g,o,none⟩=some (.int .i64 p.1)/\w.cell? ⟨g,o+1,none⟩=some (.int .i64 p.2.1)/\w.cell? ⟨g,o+2,none⟩=some (.int .i64 p.2.2)
theorem Ab.pc{W w:World}(h:Ab W w){g o:Nat}{p:P3}(hg:g<W.heap.size)(k:Pc W g o p):Pc w g o p:=
 ⟨(Below.cell h (by exact hg)).trans k.1,(Below.cell h (by exact hg)).trans k.2.1,(Below.cell h (by exact hg)).trans k.2.2⟩
theorem pc_row{w:World}{g:Nat}{p:P3}{T:TypeId}{fr:Nat × Nat}(h:w.heap[g]? =some (.cells #[.int .i64 p.1,.int .i64 p.2.1,.int .i64 p.2.2] T fr)):Pc w g 0 p:=
 ⟨cell_of_row w g 0 _ _ _ h,cell_of_row w g 1 _ _ _ h,cell_of_row w g 2 _ _ _ h⟩
theorem Abx.pc{W w:World}{g n:Nat}{T:TypeId}(h:Abx W g n T w){k o:Nat}{p:P3}(hne:k≠g)(hg:k<W.heap.size)(q:Pc W k o p):Pc w k o p:=by
 have e: ∀j,w.cell? ⟨k,j,none⟩=W.cell? ⟨k,j,none⟩:=fun j=>World.cell?_of_block (h.1.2.2.2.2 k hg hne)
 unfold Pc at*
 simp only[e]
 exact q
theorem D4(n f i j:Nat)(w:World)(hn:1<=(n:Int)/\(n:Int)<=32)(hf:f<6)(hi:(i:Int)<n)(hj:(j:Int)<n)(h:Fr w):
  Calls prog 54 #[.int .i64 n,.int .i64 f,.int .i64 i,.int .i64 j] w fun e w'=>e=.returned (.agg #[.int .i64 (md n f i j).1,.int .i64 (md n f i j).2.1,.int .i64 (md n f i j).2.2])/\Below w.heap.size w w':=by
 obtain⟨⟨k0,k1,k2⟩,⟨k3,k4,k5⟩,⟨k6,k7,k8⟩⟩:=h.2 f hf
 have h0:=h.1
 have hf':(f:Int)<6:=by omega
 obtain⟨a,ha⟩: ∃a:Int,2*(i:Int)+1 - n=a:=⟨_,rfl⟩
 obtain⟨b,hb⟩: ∃b:Int,2*(j:Int)+1 - n=b:=⟨_,rfl⟩
 have u1:IntKind.i64.wrap (IntKind.i64.wrap (IntKind.i64.wrap (2*(i:Int))+1) - n)=a:=by rw[wr (x:=2*(i:Int)) (by omega),wr (x:=2*(i:Int)+1) (by omega),wr (by omega),ha]
 have u2:IntKind.i64.wrap (IntKind.i64.wrap (IntKind.i64.wrap (2*(j:Int))+1) - n)=b:=by rw[wr (x:=2*(j:Int)) (by omega),wr (x:=2*(j:Int)+1) (by omega),wr (by omega),hb]
 have S1:Sm (sc a (cR f)):=oT (un_R hf) (by omega)
 have S2:Sm (sc b (cU f)):=oT (un_U hf) (by omega)
 have S3:Sm (sc n (cC f)):=oT (un_C hf) (by omega)
 have S4:Sm (pl (sc a (cR f)) (sc b (cU f))):=by
  have x1:=fZ (un_R hf).1 32 (show -32<=a/\a<=32 by omega)
  have x2:=fZ (un_R hf).2.1 32 (show -32<=a/\a<=32 by omega)
  have x3:=fZ (un_R hf).2.2 32 (show -32<=a/\a<=32 by omega)
  have y1:=fZ (un_U hf).1 32 (show -32<=b/\b<=32 by omega)
  have y2:=fZ (un_U hf).2.1 32 (show -32<=b/\b<=32 by omega)
  have y3:=fZ (un_U hf).2.2 32 (show -32<=b/\b<=32 by omega)
  simp only[Sm,pl,sc]
  omega
 have T1:=hid (fun w=>iG (cR f) a w S1)
 have T2:=hid (fun w=>iG (cU f) b w S2)
 have P1:=hid (fun w=>Cl (sc a (cR f)) (sc b (cU f)) w S1 S2)
 have T3:=hid (fun w=>wX (cC f) n w S3)
 have P2:=hid (fun w=>mA (sc n (cC f)) (pl (sc a (cR f)) (sc b (cU f))) w S3 S4)
 have E:Hid (md n f i j=pl (sc n (cC f)) (pl (sc a (cR f)) (sc b (cU f)))):=by rw[<- ha,<- hb];exact rfl
 rw[E.out]
 clear h hf S1 S2 S3 S4 ha hb E
 go_enter func54,ntmps54
 go_upto_region 2 with fail
 generalize hW:World.alloc _ _=W
 have z1:Hid (W.heap.size=w.heap.size+2):=by rw[<- hW];simp[Hid]
 have AW:Hid (Ab w W):=by rw[<- hW];exact bl2 _ _ _
 have r8:Hid (W.heap[w.heap.size]? =some (.cells #[.int .i64 0,.int .i64 0,.int .i64 0] 107)):=by rw[<- hW];exact heap_alloc2_old _ _ _
 have r9:W.heap[w.heap.size+1]? =some (.cells #[.int .i64 (cC f).1,.int .i64 (cC f).2.1,.int .i64 (cC f).2.2,.int .i64 (cR f).1,.int .i64 (cR f).2.1,.int .i64 (cR f).2.2,.int .i64 (cU f).1,.int .i64 (cU f).2.1,.int .i64 (cU f).2.2] 114):=by rw[<- hW];exact heap_alloc2_new _ _ _
 have KS:Hid (∀w',Ab W w'->Ab W w'/\w'.cell? ⟨w.heap.size+1,3,none⟩=some (.int .i64 (cR f).1)/\w'.cell? ⟨w.heap.size+1,4,none⟩=some (.int .i64 (cR f).2.1)/\w'.cell? ⟨w.heap.size+1,5,none⟩=some (.int .i64 (cR f).2.2)/\w'.cell? ⟨w.heap.size+1,6,none⟩=some (.int .i64 (cU f).1)/\w'.cell? ⟨w.heap.size+1,7,none⟩=some (.int .i64 (cU f).2.1)/\w'.cell? ⟨w.heap.size+1,8,none⟩=some (.int .i64 (cU f).2.2)):=by
  intro w' hw
  have r:=hw.heap r9
  exact⟨hw,aA 3 r,aA 4 r,aA 5 r,aA 6 r,aA 7 r,aA 8 r⟩
 have KC:Hid (∀w',Ab W w'->Pc w' (w.heap.size+1) 0 (cC f)):=by
  intro w' hw
  have r:=hw.heap r9
  exact⟨aA 0 r,aA 1 r,aA 2 r⟩
 have A0:=Ab.refl W
 clear r9 k0 k1 k2 k3 k4 k5 k6 k7 k8 hW
 go_cut [10]from 14 to 30 (fun s10 wx=> ∃g10,s10=.pointer (some ⟨g10,0,none⟩)/\Ab W wx/\W.heap.size<=g10/\wx.heap[g10]? =some (.cells #[.int .i64 (pl (sc a (cR f)) (sc b (cU f))).1,.int .i64 (pl (sc a (cR f)) (sc b (cU f))).2.1,.int .i64 (pl (sc a (cR f)) (sc b (cU f))).2.2] 107))
 case first=>
  go_region_held3 (fun w'=>Ab W w'/\w'.cell? ⟨w.heap.size+1,3,none⟩=some (.int .i64 (cR f).1)/\w'.cell? ⟨w.heap.size+1,4,none⟩=some (.int .i64 (cR f).2.1)/\w'.cell? ⟨w.heap.size+1,5,none⟩=some (.int .i64 (cR f).2.2)/\w'.cell? ⟨w.heap.size+1,6,none⟩=some (.int .i64 (cU f).1)/\w'.cell? ⟨w.heap.size+1,7,none⟩=some (.int .i64 (cU f).2.1)/\w'.cell? ⟨w.heap.size+1,8,none⟩=some (.int .i64 (cU f).2.2)) ((refine KS.out _ ?_;(with_reducible (repeat(first | assumption | apply Ab.drew | apply Ab.alloc)));done)) (first
   | (go_at_call_of 56 a;refine(T1.out _).mono ?_;rintro e w1 ⟨rfl,rfl⟩)
   | (go_at_call_of 56 b;refine(T2.out _).mono ?_;rintro e w1 ⟨rfl,rfl⟩)
   | (go_at_call 55;refine(P1.out _).mono ?_;rintro e w1 ⟨rfl,rfl⟩))
  all_goals go_wp2_with fail
  all_goals go_meet
  all_goals refine⟨_,rfl,?_,?_,?_⟩
  all_goals first
   | ((with_reducible (repeat(first | assumption | apply Ab.drew | apply Ab.alloc)));done)
   | omega
   | (simp;done)
   | (simp;omega)
   | (rw[tH];(repeat(first | exact Cj _ _ _ (by first | (simp;done) | (simp;omega)) | rw[Below.heap_alloc _ _ _ (by first | (simp;done) | (simp;omega))]));done)
   | trace_state
 case rest=>
  obtain⟨g10,rfl,A1,hg10,r10⟩:=hcut
  clear KS T1 T2 P1 u1 u2
  have KS:Hid (∀w',Abx wc w.heap.size 3 107 w'->Abx wc w.heap.size 3 107 w'/\w'.cell? ⟨w.heap.size+1,0,none⟩=some (.int .i64 (cC f).1)/\w'.cell? ⟨w.heap.size+1,1,none⟩=some (.int .i64 (cC f).2.1)/\w'.cell? ⟨w.heap.size+1,2,none⟩=some (.int .i64 (cC f).2.2)/\w'.cell? ⟨g10,0,none⟩=some (.int .i64 (pl (sc a (cR f)) (sc b (cU f))).1)/\w'.cell? ⟨g10,1,none⟩=some (.int .i64 (pl (sc a (cR f)) (sc b (cU f))).2.1)/\w'.cell? ⟨g10,2,none⟩=some (.int .i64 (pl (sc a (cR f)) (sc b (cU f))).2.2)/\w'.frozen? ⟨w.heap.size,0,none⟩=false/\w'.frozen? ⟨w.heap.size,1,none⟩=false/\w'.frozen? ⟨w.heap.size,2,none⟩=false/\w'.cell? ⟨w.heap.size,0,none⟩=some (rv w' w.heap.size 0)/\w'.cell? ⟨w.heap.size,1,none⟩=some (rv w' w.heap.size 1)/\w'.cell? ⟨w.heap.size,2,none⟩=some (rv w' w.heap.size 2)):=by
   intro w' hw
   have hz:=z1.out
   have r1:=hw.heap (by omega) r10
   obtain⟨q1,q2,q3⟩:=hw.pc (by omega) (by have:=A1.size;omega) (KC.out _ A1)
   exact⟨hw,q1,q2,q3,aA 0 r1,aA 1 r1,aA 2 r1,hw.free 0,hw.free 1,hw.free 2,hw.some (by omega),hw.some (by omega),hw.some (by omega)⟩
  have A0':Abx wc w.heap.size 3 107 wc:=(Ab.refl wc).x rfl (A1.heap r8.out)
  clear r10 KC r8
  go_upto_region 3 with fail
  go_region_held3 (fun w'=>Abx wc w.heap.size 3 107 w'/\w'.cell? ⟨w.heap.size+1,0,none⟩=some (.int .i64 (cC f).1)/\w'.cell? ⟨w.heap.size+1,1,none⟩=some (.int .i64 (cC f).2.1)/\w'.cell? ⟨w.heap.size+1,2,none⟩=some (.int .i64 (cC f).2.2)/\w'.cell? ⟨g10,0,none⟩=some (.int .i64 (pl (sc a (cR f)) (sc b (cU f))).1)/\w'.cell? ⟨g10,1,none⟩=some (.int .i64 (pl (sc a (cR f)) (sc b (cU f))).2.1)/\w'.cell? ⟨g10,2,none⟩=some (.int .i64 (pl (sc a (cR f)) (sc b (cU f))).2.2)/\w'.frozen? ⟨w.heap.size,0,none⟩=false/\w'.frozen? ⟨w.heap.size,1,none⟩=false/\w'.frozen? ⟨w.heap.size,2,none⟩=false/\w'.cell? ⟨w.heap.size,0,none⟩=some (rv w' w.heap.size 0)/\w'.cell? ⟨w.heap.size,1,none⟩=some (rv w' w.heap.size 1)/\w'.cell? ⟨w.heap.size,2,none⟩=some (rv w' w.heap.size 2)) ((refine KS.out _ ?_;(with_reducible (repeat(first | assumption | apply Abx.drew | apply Abx.set | (refine Abx.call ?_ (by assumption)))));done)) (first
   | (go_at_call 56;refine(T3.out _).mono ?_;rintro e w1 ⟨rfl,b1⟩)
   | (go_at_call 55;refine(P2.out _).mono ?_;rintro e w2 ⟨rfl,b2⟩))
  go_wp2
  have A2:=(A0'.drew.call b1).call b2
  refine bodyPost_ret ?_ rfl ⟨rfl,?_⟩
  ·exact results_cell_row results54 _ _ w.heap.size _ _ (0,0) _ rfl (set3 A2) underlying107 rfl (by kernel_rfl)
  ·exact(((A2.set 0 _).set 1 _).set 2 _).ab (AW.out.trans A1) (Nat.le_refl _)
end
section
open Go.RowKit Cu
theorem info_int: ∃i,Tryz.prog.info? 3=some i:=by
 cases h:Tryz.prog.info? 3 with
 | none=>
  have:(Tryz.prog.info? 3).isSome=true:=by kernel_rfl
  rw[h]at this;cases this
 | some i=>exact⟨i,rfl⟩
theorem pt_cmp(d:Nat)(p q:P3)(w:World):(Op.equalIn (d+2) 107 (.agg #[.int .i64 p.1,.int .i64 p.2.1,.int .i64 p.2.2]) (.agg #[.int .i64 q.1,.int .i64 q.2.1,.int .i64 q.2.2])).run prog w=.ok (decide (p=q)) w:=by
 obtain⟨i,hi⟩:=info_int
 obtain⟨a,b,c⟩:=p
 obtain⟨x,y,z⟩:=q
 rw[run_equalIn_array w (d+1) _ _ underlying107 hi]
 have k0:Tryz.prog.cellsOf 3=1:=by kernel_rfl
 have hp:Tryz.prog.plainKey 3=true:=by kernel_rfl
 rw[k0,show List.range 3=[0,1,2]from rfl]
 have e: ∀s t:Int,(Op.equalIn (d+1) 3 (.int .i64 s) (.int .i64 t)).run prog w=.ok (s==t) w:=fun s t=>run_equalIn_int w d 3 .i64 .i64 s t underlying3
 have p0: ∀r s t:Int,(part 3 #[.int .i64 r,.int .i64 s,.int .i64 t] (0*1)).run prog w=.ok (.int .i64 r) w:=fun r s t=>run_part_plain w hp rfl
 have p1: ∀r s t:Int,(part 3 #[.int .i64 r,.int .i64 s,.int .i64 t] (1*1)).run prog w=.ok (.int .i64 s) w:=fun r s t=>run_part_plain w hp rfl
 have p2: ∀r s t:Int,(part 3 #[.int .i64 r,.int .i64 s,.int .i64 t] (2*1)).run prog w=.ok (.int .i64 t) w:=fun r s t=>run_part_plain w hp rfl
 simp only[Op.eqItems,Sem.run_bind,p0,e,Result.andThen_ok]
 by_cases h1:a=x<;>by_cases h2:b=y<;>by_cases h3:c=z<;>simp[h1,h2,h3,e,p1,p2,Sem.run_bind]
end
section
open Go.RowKit
theorem cls(w:World): ∃(U:Type) (F:U->World),(∀u,Ab w (F u))/\(∀w',Ab w w'-> ∃u,w'=F u):=
 ⟨{u:World // Ab w u},Subtype.val,fun u=>u.2,fun w' h=>⟨⟨w',h⟩,rfl⟩⟩
theorem aM{P:Program}{id:Nat}{Q:Exit->Act->World->Prop}{a:Act}{w:World}{l:List Oper}{U:Type}(F:U->World)(hm:P.follows .mixedOrders=true)(hB:Region.lexB .any l.toArray=true)
  (hC: ∃u,w.drew=F u)
  (h:wpQuiet P l.toArray (fun w'=> ∃u,w'=F u) (fun a'=> ∀w',(∃u,w'=F u)->Q .normal a' w') l a):(Code.region id l.toArray true).wp P Q a w:=
 wp_region_quiet (C:=fun w'=> ∃u,w'=F u) hm hB hC (by simpa using h)
theorem aH{P:Program}{f:FuncId}{args:Array Value}{U:Type}{F:U->World}{u:U}{v:Value}{w0:World}(hF:Hid (∀w',Ab w0 w'-> ∃u,w'=F u))(hF1:Hid (∀u,Ab w0 (F u)))
  (h:Calls P f args (F u) fun e w'=>e=.returned v/\Below (F u).heap.size (F u) w'):Calls P f args (F u) fun e w''=>e=.returned v/\ ∃u,w''=F u:=
 h.mono fun _ _ ⟨he,hb⟩=>⟨he,hF.out _ ((hF1.out u).call hb)⟩
end
section
open Go.RowKit Cu
theorem least_u(N k0:Nat)(m:Nat->Bool)(g0 g1:Nat)(w:World)(hN:(N:Int)<=24)(hk:(k0:Int)<N)(h1:m k0=true)(h2: ∀k,k<k0->m k=false)
  (H:Hid (∀k:Nat,k<N-> ∀w',Ab w w'->Calls prog 96 #[.int .i64 k,.pointer (some ⟨g0,0,none⟩),.pointer (some ⟨g1,0,none⟩)] w' fun e w''=>e=.returned (.bool (m k))/\Below w'.heap.size w' w'')):
  Calls prog 95 #[.int .i64 N,.func (.func 96) #[] #[.pointer (some ⟨g0,0,none⟩),.pointer (some ⟨g1,0,none⟩)]] w fun e w'=>e=.returned (.int .i64 k0)/\Below w.heap.size w w':=by
 have H1:=hid h1
 have H2:=hid h2
 clear h1 h2
 go_enter func95,ntmps95
 go_wp2
 go_loopw [7] (fun iv wr=> ∃k:Nat,k<=k0/\iv=.int .i64 (k:Nat)/\Ab w wr) (fun iv _=>k0 - (intOf iv).toNat)
 case atStart=>exact⟨0,by omega,rfl,Ab.refl _⟩
 case round=>
  obtain⟨k,hk0,rfl,A⟩:=hrel
  have hkN:(k:Int)<N:=by omega
  by_cases he:k=k0
  ·subst he
   have C:=H.out k (by omega) wr A
   rw[H1.out]at C
   have C':=hid C
   clear C H H1 H2
   go_wp2_with fail
   refine C'.out.mono ?_
   rintro e w1 ⟨rfl,b1⟩
   go_wp2
   go_ret
   exact⟨rfl,A.call b1⟩
  ·have C:=H.out k (by omega) wr A
   rw[H2.out k (by omega)]at C
   have C':=hid C
   clear C
   go_wp2_with fail
   refine C'.out.mono ?_
   rintro e w1 ⟨rfl,b1⟩
   go_wp2
   go_roundw
   case rel=>exact⟨k+1,by omega,by simp,A.call b1⟩
   case measure=>simp[intOf];omega
theorem least_s(N k0:Nat)(m:Nat->Bool)(g0 g1:Nat)(w:World)(hN:(N:Int)<=24)(hk:(k0:Int)<N)(h1:m k0=true)(h2: ∀k,k<k0->m k=false)
  (H:Hid (∀k:Nat,k<N-> ∀w',Ab w w'->Calls prog 97 #[.int .i64 k,.pointer (some ⟨g0,0,none⟩),.pointer (some ⟨g1,0,none⟩)] w' fun e w''=>e=.returned (.bool (m k))/\Below w'.heap.size w' w'')):
  Calls prog 95 #[.int .i64 N,.func (.func 97) #[] #[.pointer (some ⟨g0,0,none⟩),.pointer (some ⟨g1,0,none⟩)]] w fun e w'=>e=.returned (.int .i64 k0)/\Below w.heap.size w w':=by
 have H1:=hid h1
 have H2:=hid h2
 clear h1 h2
 go_enter func95,ntmps95
 go_wp2
 go_loopw [7] (fun iv wr=> ∃k:Nat,k<=k0/\iv=.int .i64 (k:Nat)/\Ab w wr) (fun iv _=>k0 - (intOf iv).toNat)
 case atStart=>exact⟨0,by omega,rfl,Ab.refl _⟩
 case round=>
  obtain⟨k,hk0,rfl,A⟩:=hrel
  have hkN:(k:Int)<N:=by omega
  by_cases he:k=k0
  ·subst he
   have C:=H.out k (by omega) wr A
   rw[H1.out]at C
   have C':=hid C
   clear C H H1 H2
   go_wp2_with fail
   refine C'.out.mono ?_
   rintro e w1 ⟨rfl,b1⟩
   go_wp2
   go_ret
   exact⟨rfl,A.call b1⟩
  ·have C:=H.out k (by omega) wr A
   rw[H2.out k (by omega)]at C
   have C':=hid C
   clear C
   go_wp2_with fail
   refine C'.out.mono ?_
   rintro e w1 ⟨rfl,b1⟩
   go_wp2
   go_roundw
   case rel=>exact⟨k+1,by omega,by simp,A.call b1⟩
   case measure=>simp[intOf];omega
theorem D5(k n:Nat)(p:P3)(g0 g1:Nat)(w:World)(hk:k<6)(hp:Sm p)(h:Fr w)(hg0:g0<w.heap.size)(hg1:g1<w.heap.size)(ha:Pc w g0 0 p)(hs:w.cell? ⟨g1,0,none⟩=some (.int .i64 n)):
  Calls prog 96 #[.int .i64 k,.pointer (some ⟨g0,0,none⟩),.pointer (some ⟨g1,0,none⟩)] w fun e w'=>e=.returned (.bool (decide (dt p (cC k)=n)))/\Below w.heap.size w w':=by
 obtain⟨U,F,hF1,hF2⟩:=cls w
 have HF:=hid hF2
 have HF1:=hid hF1
 have x0: ∀u,(F u).cell? ⟨g0,0,none⟩=some (.int .i64 p.1):=fun u=>((hF1 u).pc hg0 ha).1
 have x1: ∀u,(F u).cell? ⟨g0,1,none⟩=some (.int .i64 p.2.1):=fun u=>((hF1 u).pc hg0 ha).2.1
 have x2: ∀u,(F u).cell? ⟨g0,2,none⟩=some (.int .i64 p.2.2):=fun u=>((hF1 u).pc hg0 ha).2.2
 have x3: ∀u,(F u).cell? ⟨g1,0,none⟩=some (.int .i64 n):=fun u=>(Below.cell (hF1 u) (by exact hg1)).trans hs
 have y0: ∀u,(F u).cell? ⟨1,k*9,none⟩=some (.int .i64 (cC k).1):=fun u=>((h.to (hF1 u)).2 k hk).1.1
 have y1: ∀u,(F u).cell? ⟨1,k*9+1,none⟩=some (.int .i64 (cC k).2.1):=fun u=>((h.to (hF1 u)).2 k hk).1.2.1
 have y2: ∀u,(F u).cell? ⟨1,k*9+2,none⟩=some (.int .i64 (cC k).2.2):=fun u=>((h.to (hF1 u)).2 k hk).1.2.2
 have T:=hid (fun w=>mC p (cC k) w hp (un_C hk))
 have hk':(k:Int)<6:=by omega
 have D:=HF.out _ (Ab.refl w).drew
 clear hF1 hF2 h ha hs hk
 go_enter func96,ntmps96
 go_wp2_with fail
 refine aM F (by kernel_rfl) (by kernel_rfl) D ?_
 repeat(go_big_quiet_step (first | rfl | (go_at_call 57;exact aH HF HF1 (T.out _))))
 refine wpQuiet_nil ?_
 intro wz hwz
 obtain⟨u,rfl⟩:=hwz
 go_wp2
 go_ret
 exact⟨by simp[Bool.beq_eq_decide_eq],HF1.out u⟩
theorem zX(k f:Nat)(p:P3)(g0 g1:Nat)(w:World)(hk:k<4)(hf:f<6)(h:Fr w)(hg0:g0<w.heap.size)(hg1:g1<w.heap.size)(ha:Pc w g1 0 p)(hs:w.cell? ⟨g0,0,none⟩=some (.int .i64 f)):
  Calls prog 97 #[.int .i64 k,.pointer (some ⟨g0,0,none⟩),.pointer (some ⟨g1,0,none⟩)] w fun e w'=>e=.returned (.bool (decide (wy f k=p)))/\Below w.heap.size w w':=by
 obtain⟨U,F,hF1,hF2⟩:=cls w
 have HF:=hid hF2
 have HF1:=hid hF1
 have x0: ∀u,(F u).cell? ⟨g1,0,none⟩=some (.int .i64 p.1):=fun u=>((hF1 u).pc hg1 ha).1
 have x1: ∀u,(F u).cell? ⟨g1,1,none⟩=some (.int .i64 p.2.1):=fun u=>((hF1 u).pc hg1 ha).2.1
 have x2: ∀u,(F u).cell? ⟨g1,2,none⟩=some (.int .i64 p.2.2):=fun u=>((hF1 u).pc hg1 ha).2.2
 have x3: ∀u,(F u).cell? ⟨g0,0,none⟩=some (.int .i64 f):=fun u=>(Below.cell (hF1 u) (by exact hg0)).trans hs
 have T:=hid (fun u=>way_at f k (F u) hf hk (h.to (hF1 u)))
 have D:=HF.out _ (Ab.refl w).drew
 have EQ: ∀u,(Op.equalIn 10000 107 (.agg #[.int .i64 (wy f k).1,.int .i64 (wy f k).2.1,.int .i64 (wy f k).2.2]) (.agg #[.int .i64 p.1,.int .i64 p.2.1,.int .i64 p.2.2])).run prog (F u)=.ok (decide (wy f k=p)) (F u):=fun u=>pt_cmp 9998 _ _ _
 clear hF1 hF2 h ha hs hk hf
 go_enter func97,ntmps97
 go_wp2_with fail
 refine aM F (by kernel_rfl) (by kernel_rfl) D ?_
 repeat(go_big_quiet_step (first | rfl | (go_at_call 53;exact aH HF HF1 (T.out _))))
 refine wpQuiet_nil ?_
 intro wz hwz
 obtain⟨u,rfl⟩:=hwz
 go_wp2
 go_ret
 exact⟨rfl,HF1.out u⟩
end
section
open Go.RowKit Cu
theorem wr6{x:Int}(h: -1000000<=x/\x<=1000000):wrap64 x=x:=by unfold wrap64;omega
theorem wY{w W w':World}(h:Ab w W)(b:Below W.heap.size W w'):Below w.heap.size w w':=h.call b
theorem D6(f s:Nat)(p:P3)(w:World)(hf:f<6)(hs:s<4)(hp:wy f s=p)(h:Fr w):
  Calls prog 60 #[.int .i64 f,.agg #[.int .i64 p.1,.int .i64 p.2.1,.int .i64 p.2.2]] w fun e w'=>e=.returned (.int .i64 s)/\Below w.heap.size w w':=by
 have hmf: ∀(fn:Fn) (first cap:Array Value) (w:World),(Instr.makeFunc fn first cap).run prog w=.ok (.func fn first cap) w:=fun _ _ _ _=>rfl
 have A1:Ab w ((w.alloc (.cells #[.int .i64 f] 3)).alloc (.cells #[.int .i64 p.1,.int .i64 p.2.1,.int .i64 p.2.2] 107)):=bl2 _ _ _
 have L:=hid (least_s 4 s (fun k=>decide (wy f k=p)) w.heap.size (w.heap.size+1) ((w.alloc (.cells #[.int .i64 f] 3)).alloc (.cells #[.int .i64 p.1,.int .i64 p.2.1,.int .i64 p.2.2] 107)) (by decide) (by omega) (by simp[hp])
  (fun k hk=>by simp only[decide_eq_false_iff_not];intro e;have:=wy_inj f hf s hs k (by omega) (e.trans hp.symm);omega)
  (hid (fun k hk w' hw=>zX k f p w.heap.size (w.heap.size+1) w' hk hf (h.to (A1.trans hw)) (Nat.lt_of_lt_of_le (by simp;omega) hw.size) (Nat.lt_of_lt_of_le (by simp) hw.size)
   (pc_row (hw.heap (heap_alloc2_new _ _ _))) (aA 0 (hw.heap (heap_alloc2_old _ _ _))))))
 have AW:=hid A1
 clear hp h A1
 go_enter func60,ntmps60
 go_wp2_with fail
 refine L.out.mono ?_
 rintro e w1 ⟨rfl,b1⟩
 go_wp2
 go_ret
 exact⟨rfl,wY AW.out b1⟩
theorem under_at(n f i j:Nat)(p:P3)(w:World)(hn:1<=n/\n<=32)(hf:f<6)(hi:i<n)(hj:j<n)(hp:md n f i j=p)(h:Fr w):
  Calls prog 58 #[.int .i64 n,.agg #[.int .i64 p.1,.int .i64 p.2.1,.int .i64 p.2.2]] w fun e w'=>e=.returned (.tuple #[.int .i64 f,.int .i64 i,.int .i64 j])/\Below w.heap.size w w':=by
 have hmf: ∀(fn:Fn) (first cap:Array Value) (w:World),(Instr.makeFunc fn first cap).run prog w=.ok (.func fn first cap) w:=fun _ _ _ _=>rfl
 have A1:Ab w ((w.alloc (.cells #[.int .i64 n] 3)).alloc (.cells #[.int .i64 p.1,.int .i64 p.2.1,.int .i64 p.2.2] 107)):=bl2 _ _ _
 have hm:=md_le hf hi hj hn.2
 rw[hp]at hm
 have hsm:Sm p:=by unfold Sm;omega
 have hd:=md_dt (n:=n) (i:=i) (j:=j) hf
 rw[hp]at hd
 have L:=hid (least_u 6 f (fun k=>decide (dt p (cC k)=n)) (w.heap.size+1) w.heap.size ((w.alloc (.cells #[.int .i64 n] 3)).alloc (.cells #[.int .i64 p.1,.int .i64 p.2.1,.int .i64 p.2.2] 107)) (by decide) (by omega) (by simp[hd.1])
  (fun k hk=>by simp only[decide_eq_false_iff_not];rw[<- hp,md_face hf (by omega) hi hj];omega)
  (hid (fun k hk w' hw=>D5 k n p (w.heap.size+1) w.heap.size w' hk hsm (h.to (A1.trans hw)) (Nat.lt_of_lt_of_le (by simp) hw.size) (Nat.lt_of_lt_of_le (by simp;omega) hw.size)
   (pc_row (hw.heap (heap_alloc2_new _ _ _))) (aA 0 (hw.heap (heap_alloc2_old _ _ _))))))
 have T1:Hid (∀w,Calls prog 57 #[.agg #[.int .i64 p.1,.int .i64 p.2.1,.int .i64 p.2.2],.agg #[.int .i64 (cR f).1,.int .i64 (cR f).2.1,.int .i64 (cR f).2.2]] w fun e w'=>e=.returned (.int .i64 (2*i+1 - n))/\Below w.heap.size w w'):=fun w=>by rw[<- hd.2.1];exact mC p (cR f) w hsm (un_R hf)
 have T2:Hid (∀w,Calls prog 57 #[.agg #[.int .i64 p.1,.int .i64 p.2.1,.int .i64 p.2.2],.agg #[.int .i64 (cU f).1,.int .i64 (cU f).2.1,.int .i64 (cU f).2.2]] w fun e w'=>e=.returned (.int .i64 (2*j+1 - n))/\Below w.heap.size w w'):=fun w=>by rw[<- hd.2.2];exact mC p (cU f) w hsm (un_U hf)
 have AW:=hid A1
 have HH:=hid h
 have hf':(f:Int)<6:=by omega
 have V1:Hid (wrap64 ((wrap64 (wrap64 (2*(i:Int)+1) - 1)).tdiv 2)=i):=by
  show _=_
  rw[wr6 (x:=2*(i:Int)+1) (by omega),show 2*(i:Int)+1 - 1=2*i by omega,wr6 (x:=2*(i:Int)) (by omega),Int.mul_tdiv_cancel_left _ (by decide)];exact wr6 (by omega)
 have V2:Hid (wrap64 ((wrap64 (wrap64 (2*(j:Int)+1) - 1)).tdiv 2)=j):=by
  show _=_
  rw[wr6 (x:=2*(j:Int)+1) (by omega),show 2*(j:Int)+1 - 1=2*j by omega,wr6 (x:=2*(j:Int)) (by omega),Int.mul_tdiv_cancel_left _ (by decide)];exact wr6 (by omega)
 have HN:=hid hn
 have H0:=h.1
 clear hp h A1 hd hsm hm hn hi hj
 go_enter func58,ntmps58
 go_wp2_with fail
 refine L.out.mono ?_
 rintro e w1 ⟨rfl,b1⟩
 have A2:Ab w w1:=wY AW.out b1
 obtain⟨⟨k0,k1,k2⟩,⟨k3,k4,k5⟩,⟨k6,k7,k8⟩⟩:=(HH.out.to A2).2 f (by omega)
 have hz:1<w1.heap.size:=Nat.lt_of_lt_of_le H0 A2.size
 have B1:=hid b1
 have A2':=hid A2
 clear b1 A2 L HN
 go_upto_region 3 with fail
 generalize hW:World.alloc w1 _=W
 have A3:Ab w1 W:=by rw[<- hW];exact bl1 _ _
 have r8:W.heap[w1.heap.size]? =some (.cells #[.int .i64 (cC f).1,.int .i64 (cC f).2.1,.int .i64 (cC f).2.2,.int .i64 (cR f).1,.int .i64 (cR f).2.1,.int .i64 (cR f).2.2,.int .i64 (cU f).1,.int .i64 (cU f).2.1,.int .i64 (cU f).2.2] 114):=by rw[<- hW];exact heap_alloc_new _ _
 have A4:Ab ((w.alloc (.cells #[.int .i64 n] 3)).alloc (.cells #[.int .i64 p.1,.int .i64 p.2.1,.int .i64 p.2.2] 107)) W:=Ab.trans B1.out A3
 have r3:=A4.heap (heap_alloc2_new _ _ _)
 have r2:=A4.heap (heap_alloc2_old _ _ _)
 obtain⟨U,F,hF1,hF2⟩:=cls W
 have HF:=hid hF2
 have HF1:=hid hF1
 have x0: ∀u,(F u).cell? ⟨w.heap.size+1,0,none⟩=some (.int .i64 p.1):=fun u=>aA 0 ((hF1 u).heap r3)
 have x1: ∀u,(F u).cell? ⟨w.heap.size+1,1,none⟩=some (.int .i64 p.2.1):=fun u=>aA 1 ((hF1 u).heap r3)
 have x2: ∀u,(F u).cell? ⟨w.heap.size+1,2,none⟩=some (.int .i64 p.2.2):=fun u=>aA 2 ((hF1 u).heap r3)
 have x3: ∀u,(F u).cell? ⟨w.heap.size,0,none⟩=some (.int .i64 n):=fun u=>aA 0 ((hF1 u).heap r2)
 have y0: ∀u,(F u).cell? ⟨w1.heap.size,3,none⟩=some (.int .i64 (cR f).1):=fun u=>aA 3 ((hF1 u).heap r8)
 have z0: ∀u,(F u).cell? ⟨w1.heap.size,6,none⟩=some (.int .i64 (cU f).1):=fun u=>aA 6 ((hF1 u).heap r8)
 have y1: ∀u,(F u).cell? ⟨w1.heap.size,4,none⟩=some (.int .i64 (cR f).2.1):=fun u=>aA 4 ((hF1 u).heap r8)
 have z1: ∀u,(F u).cell? ⟨w1.heap.size,7,none⟩=some (.int .i64 (cU f).2.1):=fun u=>aA 7 ((hF1 u).heap r8)
 have y2: ∀u,(F u).cell? ⟨w1.heap.size,5,none⟩=some (.int .i64 (cR f).2.2):=fun u=>aA 5 ((hF1 u).heap r8)
 have z2: ∀u,(F u).cell? ⟨w1.heap.size,8,none⟩=some (.int .i64 (cU f).2.2):=fun u=>aA 8 ((hF1 u).heap r8)
 have D:=HF.out _ (Ab.refl W).drew
 have AA:=hid (A2'.out.trans A3)
 clear hF1 hF2 r2 r3 r8 k0 k1 k2 k3 k4 k5 k6 k7 k8 A3 A4 hW B1 A2'
 refine aM F (by kernel_rfl) (by kernel_rfl) D ?_
 repeat(go_big_quiet_step (first | rfl | (go_at_call_of 57 (cR f);exact aH HF HF1 (T1.out _)) | (go_at_call_of 57 (cU f);exact aH HF HF1 (T2.out _))))
 refine wpQuiet_nil ?_
 intro wz hwz
 obtain⟨u,rfl⟩:=hwz
 go_wp2
 refine bodyPost_ret (v:=.tuple #[.int .i64 f,.int .i64 i,.int .i64 j]) (by simp[results,results58,go_sem,V1.out,V2.out]) rfl ⟨rfl,AA.out.trans (HF1.out u)⟩
end
section
open Go.RowKit Cu
def Ay(W:World)(g h:Nat)(w:World):Prop:=
 (w.os=W.os/\w.tape=W.tape/\w.output=W.output/\W.heap.size<=w.heap.size/\ ∀k,k<W.heap.size->k≠g->k≠h->w.heap[k]? =W.heap[k]?)/\
 (∃a b c:Value,w.heap[g]? =some (.cells #[a,b,c] 107))/\(∃a b c:Value,w.heap[h]? =some (.cells #[a,b,c] 107))
theorem Ab.y{W w:World}(h:Ab W w){g k:Nat}{a b c x y z:Value}(hg:W.heap[g]? =some (.cells #[a,b,c] 107))(hk:W.heap[k]? =some (.cells #[x,y,z] 107)):Ay W g k w:=
 ⟨⟨Below.os h,Below.tape h,Below.output h,Below.size h,fun i hi _ _=>Below.block h i hi⟩,⟨_,_,_,h.heap hg⟩,⟨_,_,_,h.heap hk⟩⟩
theorem Ay.drew{W w:World}{g h:Nat}(a:Ay W g h w):Ay W g h w.drew:=a
theorem Ay.call{W u w:World}{g h:Nat}(a:Ay W g h u)(b:Below u.heap.size u w):Ay W g h w:=by
 obtain⟨⟨h1,h2,h3,h4,h5⟩,⟨x,y,z,hg⟩,⟨x',y',z',hh⟩⟩:=a
 exact⟨⟨b.os.trans h1,b.tape.trans h2,b.output.trans h3,Nat.le_trans h4 b.size,fun k hk hne hne2=>(b.block k (by omega)).trans (h5 k hk hne hne2)⟩,⟨x,y,z,(b.block g (lt_of_block hg)).trans hg⟩,⟨x',y',z',(b.block h (lt_of_block hh)).trans hh⟩⟩
theorem set_k{a b c v:Value}(k:Nat): ∃x y z:Value,#[a,b,c].setIfInBounds k v= #[x,y,z]:=by
 rcases k with _ | _ | _ | k
 ·exact⟨v,b,c,rfl⟩
 ·exact⟨a,v,c,rfl⟩
 ·exact⟨a,b,v,rfl⟩
 ·exact⟨a,b,c,by simp[Array.setIfInBounds]⟩
theorem Ay.setg{W w:World}{g h:Nat}(a:Ay W g h w)(hne:g≠h)(k:Nat)(v:Value):Ay W g h (w.setCell ⟨g,k,none⟩ v):=by
 obtain⟨⟨h1,h2,h3,h4,h5⟩,⟨x,y,z,hg⟩,⟨x',y',z',hh⟩⟩:=a
 obtain⟨p,q,r,e⟩:=set_k (a:=x) (b:=y) (c:=z) (v:=v) k
 have o:=aI (k:=k) (v:=v) hg
 rw[e]at o
 exact⟨⟨h1,h2,h3,by simpa [World.setCell]using h4,fun i hi n1 n2=>(Below.heap_setCell _ _ _ _ n1).trans (h5 i hi n1 n2)⟩,⟨p,q,r,o⟩,⟨x',y',z',(Below.heap_setCell _ _ _ _ (by exact fun e=>hne e.symm)).trans hh⟩⟩
theorem Ay.swap{W w:World}{g h:Nat}(a:Ay W g h w):Ay W h g w:=
 ⟨⟨a.1.1,a.1.2.1,a.1.2.2.1,a.1.2.2.2.1,fun k hk n1 n2=>a.1.2.2.2.2 k hk n2 n1⟩,a.2.2,a.2.1⟩
theorem Ay.seth{W w:World}{g h:Nat}(a:Ay W g h w)(hne:g≠h)(k:Nat)(v:Value):Ay W g h (w.setCell ⟨h,k,none⟩ v):=(a.swap.setg hne.symm k v).swap
theorem Ay.heap{W w:World}{g h k:Nat}{o:Obj}(a:Ay W g h w)(n1:k≠g)(n2:k≠h)(hk:W.heap[k]? =some o):w.heap[k]? =some o:=by
 have hlt:k<W.heap.size:=by
  rcases Nat.lt_or_ge k W.heap.size with h1 | h1
  ·exact h1
  ·rw[Array.getElem?_eq_none h1]at hk;cases hk
 exact(a.1.2.2.2.2 k hlt n1 n2).trans hk
theorem Ay.ab{w0 W w:World}{g h:Nat}(a:Ay W g h w)(b:Ab w0 W)(hg:w0.heap.size<=g)(hh:w0.heap.size<=h):Ab w0 w:=by
 obtain⟨⟨h1,h2,h3,h4,h5⟩,_⟩:=a
 exact⟨h1.trans b.os,h2.trans b.tape,h3.trans b.output,Nat.le_trans (Below.size b) h4,fun k hk=>(h5 k (Nat.lt_of_lt_of_le hk (Below.size b)) (by omega) (by omega)).trans (b.block k hk)⟩
theorem Ay.factsg{W w:World}{g h:Nat}(a:Ay W g h w):(w.frozen? ⟨g,0,none⟩=false/\w.frozen? ⟨g,1,none⟩=false/\w.frozen? ⟨g,2,none⟩=false)/\w.cell? ⟨g,0,none⟩=some (rv w g 0)/\w.cell? ⟨g,1,none⟩=some (rv w g 1)/\w.cell? ⟨g,2,none⟩=some (rv w g 2):=by
 obtain⟨_,⟨x,y,z,hg⟩,_⟩:=a
 have e: ∀k,w.cell? ⟨g,k,none⟩= #[x,y,z][k]? :=fun k=>cell_of_row _ _ k _ _ _ hg
 refine⟨⟨aF hg 0,aF hg 1,aF hg 2⟩,?_,?_,?_⟩<;>simp[rv,e]
theorem tJ(n c f i j s f2 i2 j2 s2:Nat)(p q r bk:P3)(d:Int)(w:World)(hn:1<=n/\n<=32)(hf:f<6)(hs:s<4)(hf2:f2<6)(hi2:i2<n)(hj2:j2<n)(hs2:s2<4)(hi:i<n)(hj:j<n)(h:Fr w)
  (PL:Hid (∀w,Calls prog 50 #[.int .i64 n,.int .i64 c] w fun e w'=>e=.returned (.tuple #[.int .i64 f,.int .i64 i,.int .i64 j,.bool true])/\ ∃k,w'=w.drewN k))
  (hp:md n f i j=p) (hq:pl p (wy f s)=q) (hd:dt q (wy f s)=d) (sp:Sm p) (sq:Sm q)
  (hr:md n f2 i2 j2=r) (hb:wy f2 s2=bk) (hw:(¬d=n/\pl q (wy f s)=r/\sc (-1) (wy f s)=bk)\/(d=n/\pl q (sc (-1) (cC f))=r/\cC f=bk)):
  Calls prog 36 #[.int .i64 n,.int .i64 c,.int .i64 s] w fun e w'=>e=.returned (.tuple #[.int .i64 (cN n f2 i2 j2),.int .i64 s2])/\Below w.heap.size w w':=by
 have CT:Hid (∀w,Calls prog 52 #[.int .i64 s,.int .i64 4] w fun e w'=>e=.returned (.bool true)/\w'=w):=fun w=>by
  have:=nF s 4 w
  rwa [show inR s 4=true by rw[cY];omega]at this
 have WY:=hid (fun(u:World) (hu:Ab w u)=>way_at f s u hf hs (h.to hu))
 have MI:Hid (∀u,Ab w u->Calls prog 54 #[.int .i64 n,.int .i64 f,.int .i64 i,.int .i64 j] u fun e w'=>e=.returned (.agg #[.int .i64 p.1,.int .i64 p.2.1,.int .i64 p.2.2])/\Below u.heap.size u w'):=fun u hu=>by
  rw[<- hp];exact D4 n f i j u (by omega) hf (by omega) (by omega) (h.to hu)
 have PQ:Hid (∀u,Calls prog 55 #[.agg #[.int .i64 p.1,.int .i64 p.2.1,.int .i64 p.2.2],.agg #[.int .i64 (wy f s).1,.int .i64 (wy f s).2.1,.int .i64 (wy f s).2.2]] u fun e w'=>e=.returned (.agg #[.int .i64 q.1,.int .i64 q.2.1,.int .i64 q.2.2])/\Below u.heap.size u w'):=fun u=>by
  rw[<- hq];exact mA p (wy f s) u sp (tI hf).sm
 have TM:=hid (fun u=>iG (wy f s) (-1) u (oT (tI hf) (by omega)))
 have AL:Hid (∀u,Calls prog 57 #[.agg #[.int .i64 q.1,.int .i64 q.2.1,.int .i64 q.2.2],.agg #[.int .i64 (wy f s).1,.int .i64 (wy f s).2.1,.int .i64 (wy f s).2.2]] u fun e w'=>e=.returned (.int .i64 d)/\Below u.heap.size u w'):=fun u=>by
  rw[<- hd];exact mC q (wy f s) u sq (tI hf)
 have HH:=hid h
 have R0:=hid (Ab.refl w)
 have HP:=hid hp
 clear h hp hd sp
 go_enter func36,ntmps36
 go_upto_region 4 with(first
  | (go_at_call 50;refine(PL.out _).mono ?_;rintro e w' ⟨rfl,k,rfl⟩)
  | (go_at_call 52;refine(CT.out _).mono ?_;rintro e w' ⟨rfl,rfl⟩))
 have A1:Ab w (w.drewN k):=(Ab.refl w).drewN k
 go_wp2_with fail
 refine(WY.out _ A1).mono ?_
 rintro e w1 ⟨rfl,b1⟩
 have A2:=hid (A1.call b1)
 clear b1 A1 PL CT WY R0
 go_upto_region 5 with fail
 generalize hW:World.alloc w1 _=W
 obtain⟨g12,hg12⟩:=aB w1.heap.size
 have r12:W.heap[g12]? =some (.cells #[.int .i64 (wy f s).1,.int .i64 (wy f s).2.1,.int .i64 (wy f s).2.2] 107):=by rw[<- hW,<- hg12];exact heap_alloc_new _ _
 have A3:Ab w W:=by rw[<- hW];exact A2.out.alloc _
 rw[hg12]
 clear hW hg12 A2
 have KS:Hid (∀w',Ab W w'->Ab W w'/\w'.cell? ⟨g12,0,none⟩=some (.int .i64 (wy f s).1)/\w'.cell? ⟨g12,1,none⟩=some (.int .i64 (wy f s).2.1)/\w'.cell? ⟨g12,2,none⟩=some (.int .i64 (wy f s).2.2)):=fun w' hw=>⟨hw,aA 0 (hw.heap r12),aA 1 (hw.heap r12),aA 2 (hw.heap r12)⟩
 have AW:=Ab.refl W
 have R12:=hid r12
 have A3':=hid A3
 have MI':Hid (∀u,Ab W u->Calls prog 54 #[.int .i64 n,.int .i64 f,.int .i64 i,.int .i64 j] u fun e w'=>e=.returned (.agg #[.int .i64 p.1,.int .i64 p.2.1,.int .i64 p.2.2])/\Below u.heap.size u w'/\Ab W w'):=fun u hu=>(MI.out u (A3.trans hu)).mono fun _ _ ⟨he,hb⟩=>⟨he,hb,hu.call hb⟩
 have PQ':Hid (∀u,Ab W u->Calls prog 55 #[.agg #[.int .i64 p.1,.int .i64 p.2.1,.int .i64 p.2.2],.agg #[.int .i64 (wy f s).1,.int .i64 (wy f s).2.1,.int .i64 (wy f s).2.2]] u fun e w'=>e=.returned (.agg #[.int .i64 q.1,.int .i64 q.2.1,.int .i64 q.2.2])/\Below u.heap.size u w'/\Ab W w'):=fun u hu=>(PQ.out u).mono fun _ _ ⟨he,hb⟩=>⟨he,hb,hu.call hb⟩
 clear r12 A3 MI PQ
 go_cut [13]from 37 to 43 (fun s13 wx=> ∃g13,s13=.pointer (some ⟨g13,0,none⟩)/\Ab W wx/\W.heap.size<=g13/\wx.heap[g13]? =some (.cells #[.int .i64 q.1,.int .i64 q.2.1,.int .i64 q.2.2] 107))
 case first=>
  go_region_held3 (fun w'=>Ab W w'/\w'.cell? ⟨g12,0,none⟩=some (.int .i64 (wy f s).1)/\w'.cell? ⟨g12,1,none⟩=some (.int .i64 (wy f s).2.1)/\w'.cell? ⟨g12,2,none⟩=some (.int .i64 (wy f s).2.2)) ((refine KS.out _ ?_;(with_reducible (repeat(first | assumption | apply Ab.drew | apply Ab.alloc | (refine Ab.call ?_ (by assumption)) | (refine Ab.setk ?_ (by first | assumption | exact Nat.le_refl _ | omega) _))));done)) (first
   | (go_at_call 54;refine(MI'.out _ ?_).mono ?_;(exact And.left (by assumption));rintro e w2 ⟨rfl,b2,a2⟩;have l2:W.heap.size<=w2.heap.size:=Nat.le_trans (by first | exact Nat.le_refl _ | (simp;done)) (Below.size b2);(try(have n2:=newrow b2;have n2':=rowfacts n2;obtain⟨⟨_,_,_⟩,_,_,_⟩:=n2')))
   | (go_at_call 55;refine(PQ'.out _ ?_).mono ?_;(exact And.left (by assumption));rintro e w3 ⟨rfl,b3,a3⟩;(try(have n3:=Ab.heap b3 n2;have n3':=rowfacts n3;obtain⟨⟨_,_,_⟩,_,_,_⟩:=n3'));(try(have n4:=newrow' b3;have n4':=rowfacts n4;obtain⟨⟨_,_,_⟩,_,_,_⟩:=n4'))))
  all_goals go_wp2_with fail
  all_goals go_meet
  all_goals refine⟨_,rfl,?_,?_,?_⟩
  all_goals first
   | exact heap_alloc_new _ _
   | exact lF n4
   | exact lF n3
   | exact a3.size
   | exact l2
   | exact Nat.le_refl _
   | ((with_reducible (repeat(first | assumption | apply Ab.drew | apply Ab.alloc | (refine Ab.setk ?_ (by first | assumption | exact Nat.le_refl _ | omega) _))));done)
 case rest=>
 obtain⟨g13,rfl,A4,hg13,r13⟩:=hcut
 have r12:=A4.heap R12.out
 have hA:=hid (A3'.out.trans A4)
 clear KS AW R12 A3' MI' PQ' hg13 A4
 have KS:Hid (∀w',Ab wc w'->Ab wc w'/\w'.cell? ⟨g12,0,none⟩=some (.int .i64 (wy f s).1)/\w'.cell? ⟨g12,1,none⟩=some (.int .i64 (wy f s).2.1)/\w'.cell? ⟨g12,2,none⟩=some (.int .i64 (wy f s).2.2)):=fun w' hw=>⟨hw,aA 0 (hw.heap r12),aA 1 (hw.heap r12),aA 2 (hw.heap r12)⟩
 have AW:=Ab.refl wc
 have R12:=hid r12
 have R13:=hid r13
 clear r12 r13
 go_upto_region 6 with fail
 go_cut [14,15]from 44 to 46 (fun s14 s15 wx=> ∃g14 g15,s14=.pointer (some ⟨g14,0,none⟩)/\s15=.pointer (some ⟨g15,0,none⟩)/\Ab wc wx/\wc.heap.size<=g14/\wc.heap.size<=g15/\g14≠g15/\wx.heap[g14]? =some (.cells #[.int .i64 (wy f s).1,.int .i64 (wy f s).2.1,.int .i64 (wy f s).2.2] 107)/\wx.heap[g15]? =some (.cells #[.int .i64 (sc (-1) (wy f s)).1,.int .i64 (sc (-1) (wy f s)).2.1,.int .i64 (sc (-1) (wy f s)).2.2] 107))
 case first=>
  go_region_held3 (fun w'=>Ab wc w'/\w'.cell? ⟨g12,0,none⟩=some (.int .i64 (wy f s).1)/\w'.cell? ⟨g12,1,none⟩=some (.int .i64 (wy f s).2.1)/\w'.cell? ⟨g12,2,none⟩=some (.int .i64 (wy f s).2.2)) ((refine KS.out _ ?_;(with_reducible (repeat(first | assumption | apply Ab.drew | apply Ab.alloc | (refine Ab.call ?_ (by assumption)) | (refine Ab.setk ?_ (by first | assumption | exact Nat.le_refl _ | omega) _))));done)) (first
   | (go_at_call 56;refine(TM.out _).mono ?_;rintro e w2 ⟨rfl,rfl⟩))
  all_goals go_wp2_with fail
  all_goals go_meet
  all_goals refine⟨_,_,rfl,rfl,?_,?_,?_,?_,?_,?_⟩
  all_goals first
   | ((with_reducible (repeat(first | assumption | apply Ab.drew | apply Ab.alloc)));done)
   | omega
   | (rw[tH];(repeat(first | exact Cj _ _ _ (by first | (simp;done) | (simp;omega)) | rw[Below.heap_alloc _ _ _ (by first | (simp;done) | (simp;omega))]));done)
 case rest=>
 obtain⟨g14,g15,rfl,rfl,A6,h14,h15,hne,r14,r15⟩:=hcut
 have r12:=A6.heap R12.out
 have r13:=A6.heap R13.out
 have A7:=hid (hA.out.trans A6)
 have n13:g13<g14/\g13<g15/\g12<g14/\g12<g15/\w.heap.size<=g14/\w.heap.size<=g15:=by
  have:=lt_of_block R13.out
  have:=lt_of_block R12.out
  have:=hA.out.size
  omega
 obtain⟨-,q0,q1,q2⟩:=rowfacts r13
 obtain⟨-,o0,o1,o2⟩:=rowfacts r12
 have R13':=hid r13
 have R14:=hid r14
 have R15:=hid r15
 have PR:Hid (∀v,pl q v=r->Sm v-> ∀u,Calls prog 55 #[.agg #[.int .i64 q.1,.int .i64 q.2.1,.int .i64 q.2.2],.agg #[.int .i64 v.1,.int .i64 v.2.1,.int .i64 v.2.2]] u fun e w'=>e=.returned (.agg #[.int .i64 r.1,.int .i64 r.2.1,.int .i64 r.2.2])/\Below u.heap.size u w'):=fun v hv sv u=>by
  rw[<- hv];exact mA q v u sq sv
 have UN:Hid (∀u,Ab w u->Calls prog 58 #[.int .i64 n,.agg #[.int .i64 r.1,.int .i64 r.2.1,.int .i64 r.2.2]] u fun e w'=>e=.returned (.tuple #[.int .i64 f2,.int .i64 i2,.int .i64 j2])/\Below u.heap.size u w'):=fun u hu=>under_at n f2 i2 j2 r u hn hf2 hi2 hj2 hr (HH.out.to hu)
 have CE:=hid (fun u=>Cm n f2 i2 j2 u)
 have SD:Hid (∀u,Ab w u->Calls prog 60 #[.int .i64 f2,.agg #[.int .i64 bk.1,.int .i64 bk.2.1,.int .i64 bk.2.2]] u fun e w'=>e=.returned (.int .i64 s2)/\Below u.heap.size u w'):=fun u hu=>D6 f2 s2 bk u hf2 hs2 hb (HH.out.to hu)
 have T8:=hid (fun u=>wX (cC f) (-1) u (oT (un_C hf) (by omega)))
 have SF:=hid (oT (k:= -1) (un_C hf) (by omega))
 have SW:=hid (tI (s:=s) hf).sm
 have hf':(f:Int)<6:=by omega
 have H15:=hid h15
 have HNE:=hid hne
 have N13:=hid n13
 clear r12 r13 r14 r15 n13 h14 h15 hne TM KS AW R12 R13 hA A6
 rcases hw with⟨w1,w2,w3⟩ | ⟨w1,w2,w3⟩
 ·have PR':=hid (PR.out _ w2 SW.out)
  rw[w3]at R15
  clear w2 w3 PR T8 SF SW hq
  go_upto_region 9 with(go_at_call 57;refine(AL.out _).mono ?_;rintro e w7 ⟨rfl,b7⟩)
  obtain⟨-,t0,t1,t2⟩:=rowfacts (Ab.heap b7 R13'.out)
  obtain⟨-,t3,t4,t5⟩:=rowfacts (Ab.heap b7 R14.out)
  have A9:=hid (A7.out.call b7)
  have R15':=hid (Ab.heap b7 R15.out)
  go_wp2_with (first
   | (go_at_call 55;refine(PR'.out _).mono ?_;rintro e w8 ⟨rfl,b8⟩)
   | (go_at_call 58;refine(UN.out _ (A9.out.call b8)).mono ?_;rintro e w9 ⟨rfl,b9⟩))
  have B15:=Ab.heap b9 (Ab.heap b8 R15'.out)
  have A10:=hid ((A9.out.call b8).call b9)
  obtain⟨U,F,hF1,hF2⟩:=cls w9
  have HF:=hid hF2
  have HF1:=hid hF1
  have x0: ∀u,(F u).cell? ⟨g15,0,none⟩=some (.int .i64 bk.1):=fun u=>aA 0 ((hF1 u).heap B15)
  have x1: ∀u,(F u).cell? ⟨g15,1,none⟩=some (.int .i64 bk.2.1):=fun u=>aA 1 ((hF1 u).heap B15)
  have x2: ∀u,(F u).cell? ⟨g15,2,none⟩=some (.int .i64 bk.2.2):=fun u=>aA 2 ((hF1 u).heap B15)
  have SD':=hid (fun u=>SD.out (F u) (A10.out.trans (hF1 u)))
  have D:=HF.out _ (Ab.refl w9).drew
  clear hF1 hF2 B15 b8 b9 UN SD PR'
  refine aM F (by kernel_rfl) (by kernel_rfl) D ?_
  repeat(go_big_quiet_step (first | rfl | (go_at_call 59;exact(CE.out _).mono (fun _ _ ⟨he,hw⟩=>⟨he,_,hw⟩)) | (go_at_call 60;exact aH HF HF1 (SD'.out _))))
  refine wpQuiet_nil ?_
  intro wz hwz
  obtain⟨u,rfl⟩:=hwz
  go_wp2
  go_ret2
  exact⟨rfl,A10.out.trans (HF1.out u)⟩
 ·have PR':=hid (PR.out _ w2 SF.out)
  have W3:=hid w3
  clear w2 w3 PR SW hq
  have hf0:(0:Int)<=(f:Int):=by omega
  have FRW:=hid (fun u (hu:Ab w u)=>(HH.out.to hu).2 f hf)
  go_upto_region 8 with(go_at_call 57;refine(AL.out _).mono ?_;rintro e w7 ⟨rfl,b7⟩)
  have A8:=A7.out.call b7
  have ne: ¬g14=g15:=HNE.out
  have ne': ¬g15=g14:=fun e=>HNE.out e.symm
  have nz: ¬g14=0:=by have:=N13.out;omega
  have nz': ¬g15=0:=by have:=N13.out;omega
  have nz2: ¬0=g14:=by have:=N13.out;omega
  have nz3: ¬0=g15:=by have:=N13.out;omega
  have nn:=N13.out
  have hz:1<w.heap.size:=HH.out.1
  have KS:Hid (∀w',Ay w7 g14 g15 w'->Ay w7 g14 g15 w'/\w'.cell? ⟨1,f*9,none⟩=some (.int .i64 (cC f).1)/\w'.cell? ⟨1,f*9+1,none⟩=some (.int .i64 (cC f).2.1)/\w'.cell? ⟨1,f*9+2,none⟩=some (.int .i64 (cC f).2.2)):=fun w' hw=>by
   obtain⟨⟨k0,k1,k2⟩,_,_⟩:=FRW.out w' (hw.ab A8 nn.2.2.2.2.1 nn.2.2.2.2.2)
   exact⟨hw,k0,k1,k2⟩
  have Y0:Ay w7 g14 g15 w7:=(Ab.refl w7).y (Ab.heap b7 R14.out) (Ab.heap b7 R15.out)
  have R13'':=hid (Ab.heap b7 R13'.out)
  have A8':=hid A8
  have B7:=hid b7
  clear A8 nn b7 R13' R14 R15 A7
  go_cut [8]from 52 to 60 (fun s8 wx=>s8=.int .i64 f/\Ay w7 g14 g15 wx/\wx.heap[g14]? =some (.cells #[.int .i64 (sc (-1) (cC f)).1,.int .i64 (sc (-1) (cC f)).2.1,.int .i64 (sc (-1) (cC f)).2.2] 107)/\wx.heap[g15]? =some (.cells #[.int .i64 (cC f).1,.int .i64 (cC f).2.1,.int .i64 (cC f).2.2] 107))
  case first=>
   go_region_held3 (fun w'=>Ay w7 g14 g15 w'/\w'.cell? ⟨1,f*9,none⟩=some (.int .i64 (cC f).1)/\w'.cell? ⟨1,f*9+1,none⟩=some (.int .i64 (cC f).2.1)/\w'.cell? ⟨1,f*9+2,none⟩=some (.int .i64 (cC f).2.2)) ((refine KS.out _ ?_;(with_reducible (repeat(first | assumption | apply Ay.drew | (refine Ay.setg ?_ ne _ _) | (refine Ay.seth ?_ ne _ _) | (refine Ay.call ?_ (by assumption)))));done)) (first
    | (go_at_call 56;refine(T8.out _).mono ?_;rintro e w2 ⟨rfl,b2⟩;have y2:=Y0.drew.call b2;have y3:=y2.factsg;have y4:=y2.swap.factsg;obtain⟨⟨_,_,_⟩,_,_,_⟩:=y3;obtain⟨⟨_,_,_⟩,_,_,_⟩:=y4))
   have Y2:=Y0.drew.call b2
   obtain⟨-,⟨a1,a2,a3,hg⟩,⟨c1,c2,c3,hh⟩⟩:=id Y2
   clear Y0 KS
   go_wp2_with fail
   go_meet
   refine⟨rfl,(((((Y2.setg ne _ _).setg ne _ _).setg ne _ _).seth ne _ _).seth ne _ _).seth ne _ _,?_,?_⟩
   ·exact(Below.heap_setCell _ _ _ _ ne).trans ((Below.heap_setCell _ _ _ _ ne).trans ((Below.heap_setCell _ _ _ _ ne).trans (lF hg)))
   ·exact lF ((Below.heap_setCell _ _ _ _ ne').trans ((Below.heap_setCell _ _ _ _ ne').trans ((Below.heap_setCell _ _ _ _ ne').trans hh)))
  case rest=>
   obtain⟨rfl,YB,z14,z15⟩:=hcut
   rw[W3.out]at z15
   have nn:g13≠g14/\g13≠g15/\w.heap.size<=g14/\w.heap.size<=g15:=by have:=N13.out;omega
   clear KS Y0
   obtain⟨-,t0,t1,t2⟩:=rowfacts (YB.heap nn.1 nn.2.1 R13''.out)
   obtain⟨-,t3,t4,t5⟩:=rowfacts z14
   have A9:=hid (YB.ab A8'.out nn.2.2.1 nn.2.2.2)
   have R15':=hid z15
   go_wp2_with (first
    | (go_at_call 55;refine(PR'.out _).mono ?_;rintro e w8 ⟨rfl,b8⟩)
    | (go_at_call 58;refine(UN.out _ (A9.out.call b8)).mono ?_;rintro e w9 ⟨rfl,b9⟩))
   have B15:=Ab.heap b9 (Ab.heap b8 R15'.out)
   have A10:=hid ((A9.out.call b8).call b9)
   obtain⟨U,F,hF1,hF2⟩:=cls w9
   have HF:=hid hF2
   have HF1:=hid hF1
   have x0: ∀u,(F u).cell? ⟨g15,0,none⟩=some (.int .i64 bk.1):=fun u=>aA 0 ((hF1 u).heap B15)
   have x1: ∀u,(F u).cell? ⟨g15,1,none⟩=some (.int .i64 bk.2.1):=fun u=>aA 1 ((hF1 u).heap B15)
   have x2: ∀u,(F u).cell? ⟨g15,2,none⟩=some (.int .i64 bk.2.2):=fun u=>aA 2 ((hF1 u).heap B15)
   have SD':=hid (fun u=>SD.out (F u) (A10.out.trans (hF1 u)))
   have D:=HF.out _ (Ab.refl w9).drew
   clear hF1 hF2 B15 b8 b9 UN SD PR'
   refine aM F (by kernel_rfl) (by kernel_rfl) D ?_
   repeat(go_big_quiet_step (first | rfl | (go_at_call 59;exact(CE.out _).mono (fun _ _ ⟨he,hw⟩=>⟨he,_,hw⟩)) | (go_at_call 60;exact aH HF HF1 (SD'.out _))))
   refine wpQuiet_nil ?_
   intro wz hwz
   obtain⟨u,rfl⟩:=hwz
   go_wp2
   go_ret2
   exact⟨rfl,A10.out.trans (HF1.out u)⟩
end
section
open Go.RowKit Cu
theorem pM{n:Nat}(hn:1<=n/\n<=32):clN n=(6*n*n:Nat):=by
 unfold clN
 rw[if_pos (by omega)]
 simp
theorem qL(n c:Nat)(hn:1<=n/\n<=32)(hc:c<6*n*n)(w:World):
  Calls prog 50 #[.int .i64 n,.int .i64 c] w fun e w'=>e=.returned (.tuple #[.int .i64 (cf n c),.int .i64 (ci n c),.int .i64 (cj n c),.bool true])/\ ∃k,w'=w.drewN k:=by
 have h:=place_at n c w
 have hin:inR c (clN n)=true:=by rw[cY,pM hn];omega
 rw[hin,show pF n c=(cf n c:Nat)by simp[pF,hin,cf],show pI n c=(ci n c:Nat)by simp[pI,hin,ci],show pJ n c=(cj n c:Nat)by simp[pJ,hin,cj]]at h
 exact h
theorem zY{n f i j:Nat}(hn:1<=n/\n<=32)(hf:f<6)(hi:i<n)(hj:j<n):cN n f i j=(nm n f i j:Nat):=by
 unfold cN
 rw[if_pos ⟨by omega,by rw[cY];omega,by rw[cY];omega,by rw[cY];omega⟩]
 simp[nm]
theorem sm_100{p:P3}(h:(-100<=p.1/\p.1<=100)/\(-100<=p.2.1/\p.2.1<=100)/\(-100<=p.2.2/\p.2.2<=100)):Sm p:=by unfold Sm;omega
theorem sm_pl{p q:P3}(h:(-100<=p.1/\p.1<=100)/\(-100<=p.2.1/\p.2.1<=100)/\(-100<=p.2.2/\p.2.2<=100))(k:Un q):Sm (pl p q):=by unfold Un at k;simp only[Sm,pl];omega
theorem tK(n c s:Nat)(w:World)(hn:1<=n/\n<=32)(hc:c<6*n*n)(hs:s<4)(h:Fr w):
  Calls prog 36 #[.int .i64 n,.int .i64 c,.int .i64 s] w fun e w'=>e=.returned (.tuple #[.int .i64 (bsC n c s),.int .i64 (bsS n c s)])/\Below w.heap.size w w':=by
 obtain⟨h1,h2,h3,h4⟩:=eK hn.1 hc
 have hm:=md_le h1 h2 h3 hn.2
 have he:=at_ah (s:=s) hs h2 h3
 have hl:=wV (s:=s) h2 h3
 have hms:md n (cf n c) (ci n c) (cj n c)=ms n (cf n c) s (ah n s (ci n c) (cj n c)) (lf n s (ci n c) (cj n c)):=by
  have:=tE (f:=cf n c) h1 hs hl.1 hl.2
  rwa [he.1,he.2]at this
 obtain⟨d1,d2⟩:=Cc (n:=n) (a:=ah n s (ci n c) (cj n c)) (b:=lf n s (ci n c) (cj n c)) h1 hs
 rw[<- hms]at d1 d2
 obtain⟨w1,w2⟩:=lW _ h1 s hs
 have PL:=hid (qL n c hn hc)
 by_cases ha:ah n s (ci n c) (cj n c)+1<n
 ·have k:=oQ (s:=s) ha hl.2
  have hr:=tE (f:=cf n c) h1 hs ha hl.2
  have:=tJ n c (cf n c) (ci n c) (cj n c) s (cf n c) _ _ ((s+2)%4) _ _ _ _ _ w hn h1 hs h1 k.1 k.2 (by omega) h2 h3 h PL rfl rfl d1 (sm_100 hm) (sm_pl hm (tI h1)) hr rfl
   (Or.inl ⟨by omega,d2,w1⟩)
  rw[zY hn h1 k.1 k.2]at this
  unfold bsC bsS
  rw[if_pos ha,if_pos ha]
  exact this
 ·obtain⟨n1,n2⟩:=qI _ h1 s hs
  have h0:0<n:=by omega
  have k:=oQ (s:=ns (cf n c) s) h0 hl.2
  have hr:=tE n1 n2 h0 hl.2
  have hedge:=Cd (n:=n) (a:=ah n s (ci n c) (cj n c)) (b:=lf n s (ci n c) (cj n c)) h1 hs (by omega)
  rw[<- hms]at hedge
  have:=tJ n c (cf n c) (ci n c) (cj n c) s (nf (cf n c) s) _ _ ((ns (cf n c) s+2)%4) _ _ _ _ _ w hn h1 hs n1 k.1 k.2 (by omega) h2 h3 h PL rfl rfl d1 (sm_100 hm) (sm_pl hm (tI h1)) hr rfl
   (Or.inr ⟨by omega,hedge,w2⟩)
  rw[zY hn n1 k.1 k.2]at this
  unfold bsC bsS
  rw[if_neg ha,if_neg ha]
  exact this
theorem D7(n:Nat)(hn:1<=n/\n<=32)(w:World):Calls prog 24 #[.int .i64 n] w fun e w'=>e=.returned (.int .i64 (6*n*n:Nat))/\w'=w:=by
 rw[<- pM hn];exact iJ n w
end
section
open Go.RowKit Cu
def GE(B n T gb mb:Nat)(es v3 v4 v5 v6:Value)(w:World):Prop:=
 w.heap[gb]? =some (.cells #[.int .i64 n,es,.map (some mb),v3,v4,v5,v6] 66)/\w.ownsRow B 30 4 es (eN n T) (edL n T)/\MapIs w mb (2*T) (gT n T)/\(B<=gb/\B<=mb/\gb≠mb)/\es.ownBlock≠some gb/\es.ownBlock≠some mb
theorem GE.to{B n T gb mb:Nat}{es v3 v4 v5 v6:Value}{w w':World}(h:GE B n T gb mb es v3 v4 v5 v6 w)(a:Ab w w'):GE B n T gb mb es v3 v4 v5 v6 w':=by
 obtain⟨h1,h2,h3,h4,h5⟩:=h
 refine⟨a.heap h1,?_,h3.block (Below.block a _ h3.lt),h4,h5⟩
 exact h2.kept (row:=none) ⟨Below.os a,Below.tape a,Below.output a,Below.size a,fun k hk _=>Below.block a k hk⟩ (by cases es.ownBlock<;>simp)
theorem GE.cells{B n T gb mb:Nat}{es v3 v4 v5 v6:Value}{w:World}(h:GE B n T gb mb es v3 v4 v5 v6 w):
  w.cell? ⟨gb,0,none⟩=some (.int .i64 n)/\w.cell? ⟨gb,1,none⟩=some es/\w.cell? ⟨gb,2,none⟩=some (.map (some mb))/\w.frozen? ⟨gb,1,none⟩=false:=
 ⟨aA 0 h.1,aA 1 h.1,aA 2 h.1,aF h.1 1⟩
theorem GE.sl{B n T gb mb:Nat}{es v3 v4 v5 v6:Value}{w:World}(h:GE B n T gb mb es v3 v4 v5 v6 w): ∃a0 cap,es=.slice a0 (eN n T) cap:=by
 rcases h.2.1.2 with⟨rfl,h0⟩ | ⟨g,cap,cur,rfl,_⟩
 ·exact⟨none,0,by rw[h0]⟩
 ·exact⟨_,cap,rfl⟩
theorem GE.maps{B n T gb mb:Nat}{es v3 v4 v5 v6:Value}{w1 w2 w3:World}(h:GE B n T gb mb es v3 v4 v5 v6 w1)(g1:w1.grownBy w2 (some mb))(g2:w2.grownBy w3 (some mb)):
  w3.heap[gb]? =some (.cells #[.int .i64 n,es,.map (some mb),v3,v4,v5,v6] 66)/\w3.ownsRow B 30 4 es (eN n T) (edL n T):=by
 obtain⟨h1,h2,h3,h4,h5⟩:=h
 have g:=g1.trans g2
 exact⟨(g.block gb (lt_of_block h1) (by simp;omega)).trans h1,h2.kept g (.inr h5.2)⟩
theorem qM{w w':World}{r:Option Nat}(h:w.drew.grownBy w' r):w.grownBy w' r:=⟨h.os,h.tape,h.output,h.size,h.block⟩
theorem D8{w:World}{B:Nat}{e:TypeId}{sz k:Nat}{v:Value}{xs:List Value}(h:w.ownsRow B e sz v k xs): ∃a0 cap,v=.slice a0 k cap:=by
 rcases h.2 with⟨rfl,h0⟩ | ⟨g,cap,cur,rfl,_⟩
 ·exact⟨none,0,by rw[h0]⟩
 ·exact⟨_,cap,rfl⟩
theorem D9{w3 w5:World}{o o':Obj}{gb:Nat}{v:Value}(h:w3.heap[gb]? =some o)(hne:v.ownBlock≠some gb)(hg:(w3.alloc o').grownBy w5 v.ownBlock):w5.heap[gb]? =some o:=
 (hg.block gb (by have:=lt_of_block h;simp;omega) (fun e=>hne e.symm)).trans ((Below.heap_alloc _ _ _ (lt_of_block h)).trans h)
theorem sX(w:World)(a b c d:Value)(t:TypeId): ∀j u,[a,b,c,d][j]? =some u->(w.alloc (.cells #[a,b,c,d] t)).cell? ((⟨w.heap.size,0,none⟩:Addr).add j)=some u:=by
 intro j u hj
 have ha:(⟨w.heap.size,0,none⟩:Addr).add j=⟨w.heap.size,j,none⟩:=by unfold Addr.add;split<;>simp_all
 rw[ha,cell_of_row _ _ j _ _ (0,0) (heap_alloc_new w _)]
 simpa using hj
theorem GE.next{B n T gb mb:Nat}{es v v3 v4 v5 v6:Value}{o':Obj}{w1 w3 w5:World}(hn:1<=n)(hT:T<24*n*n)(hl:isL n T=true)(G:GE B n T gb mb es v3 v4 v5 v6 w1)(hm:w1.grownBy w3 (some mb))(hg:(w3.alloc o').grownBy w5 es.ownBlock)
  (R5:w5.heap[gb]? =some (.cells #[.int .i64 n,es,.map (some mb),v3,v4,v5,v6] 66)) (ho:w5.ownsRow B 30 4 v (eN n T+1) (edL n T++edV n T)) (hat:v.ownBlock=es.ownBlock\/v.ownBlock=some (w3.alloc o').heap.size)
  (M:MapIs w3 mb (2*T+1+1) (fun c s=>if c=(bsC n (T/4) (T%4):Nat)/\s=(bsS n (T/4) (T%4):Nat)then(((eN n T:Nat):Int),-1)else if c=(T/4:Nat)/\s=(T%4:Nat)then(((eN n T:Nat):Int),1)else gT n T c s)):
  GE B n (T+1) gb mb v v3 v4 v5 v6 (w5.setCell ⟨gb,1,none⟩ v):=by
 obtain⟨g1,g2,g3,g4,g5,g6⟩:=G
 have l1:=lt_of_block g1
 have l3:=hm.size
 have lm:=M.lt
 have ne1:v.ownBlock≠some gb:=by
  rcases hat with h | h
  ·rw[h];exact g5
  ·rw[h];simp;omega
 have ne2:v.ownBlock≠some mb:=by
  rcases hat with h | h
  ·rw[h];exact g6
  ·rw[h];simp;omega
 have gs:w5.grownBy (w5.setCell ⟨gb,1,none⟩ v) (some gb):=⟨rfl,rfl,rfl,by simp[World.setCell],fun k _ hk=>Below.heap_setCell _ _ _ _ (by simpa using hk)⟩
 refine⟨?_,?_,?_,g4,ne1,ne2⟩
 ·have:=aI (v:=v) (k:=1) R5
  simpa using this
 ·have h:=ho.kept gs (.inr ne1)
  rw[<- pK hl,<- lZ hl]at h
  exact h
 ·have e:(w5.setCell ⟨gb,1,none⟩ v).heap[mb]? =w3.heap[mb]? :=
   (gs.block mb (by have:=hg.size;simp at this;omega) (by simp;omega)).trans ((hg.block mb (by simp;omega) (fun e=>g6 e.symm)).trans (Below.heap_alloc _ _ _ lm))
  have h:=(M.block e).congr (fun c s _ _=>gT_step hn hT hl c s)
  exact h.mono (by omega)
theorem infoEdge:(Tryz.prog.info? 30).map (fun i=>(i.zero,i.size,i.bytes))=some (some (.agg #[.int .i64 0,.int .i64 0,.int .i64 0,.int .i64 0]),4,32):=by kernel_rfl
theorem wZ(n N gb mb:Nat)(v3 v4 v5 v6:Value)(w0 w:World)(hn:1<=n/\n<=32)(hN:N=6*n*n)(hF:Fr w0)(A:Ab w0 w)(G:GE w0.heap.size n 0 gb mb (.slice none 0 0) v3 v4 v5 v6 w):
  Calls prog 25 #[.pointer (some ⟨gb,0,none⟩),.int .i64 N] w fun e w'=>e=.returned (.tuple #[])/\Ab w0 w'/\ ∃es,GE w0.heap.size n (24*n*n) gb mb es v3 v4 v5 v6 w':=by
 have HF:=hid hF
 have HG:=hid G
 have HA:=hid A
 have HN:=hid hN
 have HL:Hid (N<=6144):=by
  show N<=6144
  rw[hN,Nat.mul_assoc]
  have:=Nat.mul_le_mul hn.2 hn.2
  omega
 have HE:Hid (24*n*n=4*N):=by
  show 24*n*n=4*N
  rw[hN,show 24=4*6 from rfl,Nat.mul_assoc 4 6 n,Nat.mul_assoc 4 (6*n) n]
 obtain⟨i0,hi,hz0,hz1,hz2⟩:=info_parts infoEdge
 have HI:=hid (And.intro hi (And.intro hz0 (And.intro hz1 hz2)))
 have Hn:=hid hn
 clear hF G A hN hi hz0 hz1 hz2 hn
 have hN':(N:Int)<=6144:=by have:=HL.out;omega
 go_enter func25,ntmps25
 go_wp2
 go_loopw [9] (fun iv wr=> ∃c:Nat,c<=N/\iv=.int .i64 (c:Nat)/\Ab w0 wr/\ ∃es,GE w0.heap.size n (4*c) gb mb es v3 v4 v5 v6 wr) (fun iv _=>N - (intOf iv).toNat)
 case atStart=>exact⟨0,by omega,rfl,HA.out,_,HG.out⟩
 case round=>
  obtain⟨c,hc,rfl,A,es,G⟩:=hrel
  have A1:=hid A
  have G1:=hid G
  clear A G HG HA
  by_cases hcN:c<N
  ·have hcN':(c:Int)<N:=by omega
   go_wp2
   go_loopw [12] (fun iv wr=> ∃s:Nat,s<=4/\iv=.int .i64 (s:Nat)/\Ab w0 wr/\ ∃es,GE w0.heap.size n (4*c+s) gb mb es v3 v4 v5 v6 wr) (fun iv _=>4 - (intOf iv).toNat)
   case atStart=>exact⟨0,by omega,rfl,A1.out,es,G1.out⟩
   case round=>
    clear A1 G1
    obtain⟨s,hs,rfl,A,es',G⟩:=hrel
    by_cases hs4:s<4
    ·have hs4':(s:Int)<4:=by omega
     obtain⟨a0,cap,rfl⟩:=G.sl
     obtain⟨c0,c1,c2,c3⟩:=G.cells
     have hc6:c<6*n*n:=by rw[<- HN.out];exact hcN
     have BE:=hid (tK n c s wr Hn.out hc6 hs4 (HF.out.to A))
     have AA:=hid A
     have GG:=hid G
     have HT:=hid (fE hc6 hs4)
     obtain⟨d6,b4⟩:=qJ Hn.out.1 hc6 hs4
     have hd6:bsC n c s<6144:=by have:=HL.out;rw[HN.out]at this;omega
     have hT4:=hid (lY (c:=c) hs4)
     have hlis:Hid (isL n (4*c+s)=decide (c<bsC n c s)):=by show isL n (4*c+s)=_;unfold isL;rw[hT4.out.1,hT4.out.2]
     have hKle:Hid (eN n (4*c+s)<=12*n*n):=by
      have:=Ci (n:=n) (Nat.le_of_lt HT.out);rw[uW Hn.out.1]at this;exact this
     have hKb:eN n (4*c+s)<=12288:=by
      have h1:=hKle.out;have h2:=HE.out;have h3:=HL.out
      have:2*(12*n*n)=24*n*n:=by rw[show 24=2*12 from rfl,Nat.mul_assoc 2 12 n,Nat.mul_assoc 2 (12*n) n]
      omega
     obtain⟨d,hd⟩:=aB (bsC n c s)
     obtain⟨b,hb⟩:=aB (bsS n c s)
     obtain⟨K,hK⟩:=aB (eN n (4*c+s))
     rw[hd,hb]at BE
     rw[hd]at hlis d6 hd6
     rw[hb]at b4
     rw[hK]at hKb c1
     have GG':Hid (GE w0.heap.size n (4*c+s) gb mb (.slice a0 K cap) v3 v4 v5 v6 wr):=by rw[<- hK];exact GG.out
     have HD:=hid (And.intro hd (And.intro hb hK))
     clear A G GG hd hb hK hKle hc6
     go_wp2_with fail
     refine BE.out.mono ?_
     rintro e w1 ⟨rfl,b1⟩
     have A2:Hid (Ab w0 w1):=AA.out.call b1
     have G2:Hid (GE w0.heap.size n (4*c+s) gb mb (.slice a0 K cap) v3 v4 v5 v6 w1):=GG'.out.to b1
     clear c0 c1 c2 c3 AA GG' b1 BE
     by_cases hl:c<d
     ·have hl':(c:Int)<d:=by omega
      have hisL:Hid (isL n (4*c+s)=true):=by show _=_;rw[hlis.out];simp[hl]
      obtain⟨w2,hu1,M1,g1⟩:=(G2.out.2.2.1.block (w':=w1.drew) rfl).upd (c:=c) (s:=s) (x:=K) (y:=1) (by have:=HL.out;have:=HT.out;have:=HE.out;omega) (by unfold W64;have:=HL.out;omega) (by unfold W64;omega)
      obtain⟨w3,hu2,M2,g2⟩:=(M1.block (w':=w2.drew) rfl).upd (c:=d) (s:=b) (x:=K) (y:= -1) (by have:=HL.out;have:=HT.out;have:=HE.out;omega) (by unfold W64;omega) (by unfold W64;omega)
      replace g1:=qM g1
      replace g2:=qM g2
      obtain⟨c0,c1,c2,c3⟩:=G2.out.cells
      have GM:=hid (G2.out.maps g1 g2)
      have d1:w2.cell? ⟨gb,1,none⟩=some (.slice a0 K cap):=g1.cell c1 (by have:=G2.out.2.2.2.1.2.2;simp;omega)
      have d2:w2.cell? ⟨gb,2,none⟩=some (.map (some mb)):=g1.cell c2 (by have:=G2.out.2.2.2.1.2.2;simp;omega)
      have M2':=hid M2
      have g12:=hid (And.intro g1 g2)
      clear M1 M2 g1 g2
      go_upto_region 8 with fail
      go_region
      go_upto_region 9 with fail
      go_region
      clear c0 c1 c2 c3 d1 d2 hu1 hu2
      have c1:w3.cell? ⟨gb,1,none⟩=some (.slice a0 K cap):=aA 1 GM.out.1
      have OW:Hid (w3.ownsRow w0.heap.size 30 4 (.slice a0 K cap) K (edL n (4*c+s))):=by have h:=GM.out.2;rw[HD.out.2.2]at h;exact h
      have A3:Hid (Ab w0 w3):=(A2.out.grown (g12.out.1.trans g12.out.2) (Ab.size A2.out) (fun k hk=>by cases hk;exact G2.out.2.2.2.1.2.1))
      obtain⟨hi,hz0,hz1,hz2⟩:=HI.out
      go_upto_region 10 with fail
      go_wp2_with (first
       | (at_builtin;refine wpList_append_own_at _ rfl _ _ 63 rfl w0.heap.size 30 i0 (.agg #[.int .i64 0,.int .i64 0,.int .i64 0,.int .i64 0]) 4 32 underlying63 hi hz0 hz1 hz2 rfl (by decide) _ _ _ rfl (OW.out.alloc _) ⟨w3.heap.size,0,none⟩ 1 1 [.int .i64 c,.int .i64 s,.int .i64 d,.int .i64 b] rfl rfl (sX _ _ _ _ _ _) (by simp[Value.oneCell']) (by unfold maxLen;omega) (by omega) (by have:=Ab.size A3.out;simp;omega) ?_;intro v' w5 ho hg _ hat;obtain⟨a1,cap1,rfl⟩:=D8 ho;have R5:=hid (D9 GM.out.1 G2.out.2.2.2.2.1 hg);have f1:=aF R5.out 1;have x1:=aA 1 R5.out;have HO:=hid (And.intro ho (And.intro hg hat));clear ho hg hat))
      go_roundw
      case rel=>
       have hT:=HT.out
       refine⟨s+1,by omega,by simp,?_,(.slice a1 (K+1) cap1),?_⟩
       ·exact Ab.setk (Below.grown (A3.out.alloc (.cells #[.int .i64 c,.int .i64 s,.int .i64 d,.int .i64 b] 30)) HO.out.2.1 (Ab.size (A3.out.alloc _)) (fun k hk=>(OW.out.lt k hk).1)) G2.out.2.2.2.1.1 _
       ·have e1:=hT4.out.1
        have e2:=hT4.out.2
        have e3:=HD.out
        have hed:edV n (4*c+s)=[.int .i64 c,.int .i64 s,.int .i64 d,.int .i64 b]:=by unfold edV;rw[e1,e2,e3.1,e3.2.1]
        refine GE.next (T:=4*c+s) Hn.out.1 hT hisL.out G2.out (g12.out.1.trans g12.out.2) HO.out.2.1 R5.out ?_ HO.out.2.2 ?_
        ·rw[hed,e3.2.2];exact HO.out.1
        ·rw[e1,e2,e3.1,e3.2.1,e3.2.2];exact M2'.out
      case measure=>simp[intOf];omega
     ·have hl': ¬(c:Int)<d:=by omega
      have hisL:Hid (isL n (4*c+s)=false):=by show _=_;rw[hlis.out];simp[hl]
      go_wp2
      go_roundw
      case rel=>
       refine⟨s+1,by omega,by simp,A2.out,(.slice a0 K cap),?_⟩
       have g:=G2.out
       have hh:=hisL.out
       show GE w0.heap.size n (4*c+s+1) gb mb (.slice a0 K cap) v3 v4 v5 v6 w1
       exact⟨g.1,by rw[uX hh,qK hh];exact g.2.1,(g.2.2.1.congr (fun c' s' _ _=>gT_stay Hn.out.1 hh c' s')).mono (by omega),g.2.2.2⟩
      case measure=>simp[intOf];omega
    ·obtain rfl:s=4:=by omega
     have AA:=hid A
     have GG:=hid G
     clear A G
     go_wp2
     go_roundw
     case rel=>exact⟨c+1,by omega,by simp,AA.out,_,GG.out⟩
     case measure=>simp[intOf];omega
  ·obtain rfl:c=N:=by omega
   go_wp2
   go_end0
   exact⟨rfl,A1.out,es,by rw[HE.out];exact G1.out⟩
end
end Go.Proofs.YtmhnilnaffjhmaaGreatDoor
