/-
  Some of the texts of this proof, one behind the other.
-/
import Derived.Test.YtmhnilnaffjhmaaGreatDoorCeg13
set_option maxRecDepth 100000
set_option maxHeartbeats 400000000
namespace Go.Proofs.YtmhnilnaffjhmaaGreatDoor
open _root_.Go.Proofs.Tryz
section
open Go.RowKit Tf Cu Go.Deep
attribute [local go_sem] aJ aK aN aO aP aQ aV aD
namespace St
open Ss Fc
theorem jM{t:TypeId}{B B' n:Nat}{v:Value}{l:List Value}{w:World}(h:w.ownsRow B t 1 v n l)(hb:B'<=B):w.ownsRow B' t 1 v n l:=by
 refine⟨h.1,?_⟩
 rcases h.2 with h0 | ⟨b,cap,cur,e,h1,rest⟩
 ·exact .inl h0
 ·exact .inr ⟨b,cap,cur,e,Nat.le_trans hb h1,rest⟩
theorem dL{t:TypeId}{B n g:Nat}{v:Value}{l:List Value}{w:World}(h:w.ownsRow B t 1 v n l)(hg:g<B):v.ownBlock≠some g:=fun q=>by
 have:=(World.ownsRow.lt h g q).1
 omega
theorem dj_new{t t':TypeId}{B B' n n':Nat}{v u:Value}{l l':List Value}{w w':World}(h:w'.ownsRow B t 1 v n l)(k:w.ownsRow B' t' 1 u n' l')(hb:w.heap.size<=B):Dj v u/\Dj u v:=by
 refine⟨fun b q r=> ?_,fun b q r=> ?_⟩
 ·have:=(World.ownsRow.lt h b q).1
  have:=(World.ownsRow.lt k b r).2
  omega
 ·have:=(World.ownsRow.lt h b r).1
  have:=(World.ownsRow.lt k b q).2
  omega
theorem oK{M n c:Nat}{p:Option Addr}{f:Nat->Int}{w:World}(h:Sh.Own M (.slice p n c) ((List.range n).map f) w)(hf: ∀i,i<n->Sh.W64 (f i)):Sh.IsI w p n f:=by
 obtain⟨p',c',e,i,-⟩:=own_isI h hf
 injection e with e1 e2 e3
 subst e1
 exact i
theorem Bt{M n c:Nat}{p:Option Addr}{f:Nat->Nat}{w:World}(h:OwnG M (.slice p n c) ((List.range n).map f) w)(hf: ∀i,i<n->f i<18446744073709551616):IsFl w p n f:=by
 obtain⟨p',c',e,i⟩:=OwnG.fl h (fun x hx=>by
  obtain⟨j,hj,rfl⟩:=List.mem_map.1 hx
  exact hf j (List.mem_range.1 hj))
 rw[List.length_map,List.length_range]at i
 injection e with e1 e2 e3
 subst e1
 refine fun k hk=> ?_
 have h:=i k hk
 have e:((List.range n).map f).getD k 0=f k:=by simp[List.getD,hk]
 dsimp only at h
 rw[e]at h
 exact h
theorem min_run{P:Program}{a:Act}{o:Oper}{x y:Operand}{ts:Array TypeId}{m k:Int}(ho:o.op=.call {callee:=.builtin .min,args:= #[x,y],argTypes:=ts})(hx:a.eval x=.int .i64 m)(hy:a.eval y=.int .i64 k)(w:World):(execOp a.eval o).run P w=.ok (.value (.int .i64 (min m k))) w:=by
 have e: ∃cs,execOp a.eval o=builtin .min ts o.type cs #[a.eval x,a.eval y]:=⟨(#[x,y].map fun | .const _=>true | _=>false),by
  unfold execOp
  simp only[ho,resolve,invoke,pure_bind,List.map_toArray,List.map_cons,List.map_nil]
  rfl⟩
 obtain⟨cs,e⟩:=e
 rw[e,BigFrame.builtin_min,hx,hy]
 by_cases h:m<k
 ·have e1:min m k=m:=by omega
  rw[e1]
  simp[go_sem,Builtin.min_,Builtin.min2]
  omega
 ·have e1:min m k=k:=by omega
  rw[e1]
  simp[go_sem,Builtin.min_,Builtin.min2]
  omega
theorem res_two'{P:Program}{fn:Func}{p q:Tmp}{ty:TypeId}(h:fn.results= #[.tmp q,.cell p ty])(tmps:Array Value)(w:World)(g:Nat)(t:TypeId)(cs:Array Value)(fr:Nat × Nat)(d:TypeDesc)(v:Value)
  (hp:tmps.getD p undef=.pointer (some ⟨g,0,none⟩)) (hq:tmps.getD q undef=v) (hg:w.heap[g]? =some (.cells cs t fr))
  (hu:P.underlying ty=some d) (hd:(match d with | .struct _ | .array _ _=>true | _=>false)=true) (hi:(P.info? ty).map (·.size)=some cs.size):
  (results fn tmps).run P w=.ok (.tuple #[v,.agg cs]) w:=by
 have hp':tmps[p]?.getD undef=.pointer (some ⟨g,0,none⟩):=by simpa using hp
 have hq':tmps[q]?.getD undef=v:=by simpa using hq
 simp[results,h,hp',hq',asAddr,run_loadVar_row w g t ty cs fr d hg hu hd hi]
theorem row2{w:World}{g:Nat}{a b x y:Value}{T:TypeId}(h:w.heap[g]? =some (.cells #[a,b] T)):((w.setCell ⟨g,0,none⟩ x).setCell ⟨g,1,none⟩ y).heap[g]? =some (.cells #[x,y] T):=by
 have h1:=aI (v:=x) (k:=0) h
 have h2:=aI (v:=y) (k:=1) h1
 simpa using h2
def mkP(x:Cg.Ix):Value:=.pointer (x.1.map fun b=>⟨b,0,none⟩)
theorem mkP_some{x:Cg.Ix}{b:Nat}(h:x.1=some b):mkP x=.pointer (some ⟨b,0,none⟩):=by unfold mkP;rw[h];rfl
theorem zD(n gb:Nat)(sd:Int)(dt gr dr:Nat)(lim:Int)(rv:Bool)(pr:Option Addr)(lr cr:Nat)(pb:Option Addr)(lb cb:Nat)(pw:Option Addr)(lw cw:Nat)(pt:Option Addr)(lt ct:Nat)(ps:Option Addr)(ls cs:Nat)(sky st:Int)(w:World)(h1:((n:Int) != sd)=true)
  (CS:Hid (∀v,Ab w v->Calls prog 9 #[.pointer (some ⟨gb,0,none⟩)] v fun e w'=>e=.returned (.int .i64 (n:Nat))/\Below v.heap.size v w')):
  Calls prog 42 #[.pointer (some ⟨gb,0,none⟩),.agg #[.int .i64 sd,.float .f64 dt,.float .f64 gr,.float .f64 dr,.int .i64 lim,.bool rv,.slice pr lr cr],.agg #[.slice pb lb cb,.slice pw lw cw,.slice pt lt ct,.slice ps ls cs,.int .i64 sky,.int .i64 st]] w fun e w'=>e=.returned (.int .i64 1)/\Below w.heap.size w w':=by
 obtain⟨A0,R0,Q0⟩:=cA w (.cells #[.int .i64 sd,.float .f64 dt,.float .f64 gr,.float .f64 dr,.int .i64 lim,.bool rv,.slice pr lr cr] 45) (.cells #[.slice pb lb cb,.slice pw lw cw,.slice pt lt ct,.slice ps ls cs,.int .i64 sky,.int .i64 st] 48)
 go_enter func42,ntmps42
 go_upto_region 1 with fail
 generalize hW:World.alloc (World.alloc w _) _=v0 at*
 obtain⟨ga,hga⟩:=aB w.heap.size
 obtain⟨gq,hgq⟩:=aB (w.heap.size+1)
 have HG:Hid (w.heap.size<=gq):=by show _<=_;omega
 rw[hgq]at Q0
 try rw[hgq]
 rw[hga]at R0
 try rw[hga]
 clear hga hgq hW
 go_upto_region 3 with fail
 obtain⟨UU,E,hF1,hF2⟩:=cls v0
 have HU:=hid hF2
 have HU1:=hid hF1
 have x0: ∀u,(E u).cell? ⟨ga,0,none⟩=some (.int .i64 sd):=fun u=>aA 0 ((hF1 u).heap R0.out)
 have D1:Hid (∀u,Calls prog 9 #[.pointer (some ⟨gb,0,none⟩)] (E u) fun e w'=>e=.returned (.int .i64 (n:Nat))/\Below (E u).heap.size (E u) w'):=fun u=>CS.out _ (A0.out.trans (hF1 u))
 have DD0:=HU.out _ (Ab.refl v0).drew
 clear hF1 hF2
 refine aM E (by kernel_rfl) (by kernel_rfl) DD0 ?_
 repeat(go_big_quiet_step (first
  | (go_at_call 9;exact aH HU HU1 (D1.out _))
  | (with_reducible rfl)))
 refine wpQuiet_nil ?_
 intro v1 hwz
 obtain⟨u0,hu⟩:=hwz
 have Z1:Hid (Ab v0 v1):=by rw[hu];exact HU1.out u0
 clear hu u0
 clear HU HU1 DD0 D1 x0
 clear E UU
 have A1:Hid (Ab w v1):=A0.out.trans Z1.out
 have R1:=hid (Ab.heap Z1.out R0.out)
 have Q1:=hid (Ab.heap Z1.out Q0.out)
 clear A0 R0 Q0 Z1 CS
 go_wp2
 go_ret
 exact⟨rfl,A1.out⟩
theorem zE(n gb:Nat)(sd:Int)(dt gr dr:Nat)(lim:Int)(rv:Bool)(pr:Option Addr)(lr cr:Nat)(pb:Option Addr)(lb cb:Nat)(pw:Option Addr)(lw cw:Nat)(pt:Option Addr)(lt ct:Nat)(ps:Option Addr)(ls cs:Nat)(sky st:Int)(pe:Int)(w:World)(h1:((n:Int) != sd)=false)(h2:(pe != 0)=true)
  (CS:Hid (∀v,Ab w v->Calls prog 9 #[.pointer (some ⟨gb,0,none⟩)] v fun e w'=>e=.returned (.int .i64 (n:Nat))/\Below v.heap.size v w'))
  (CP:Hid (∀v,Ab w v->Calls prog 71 #[.agg #[.int .i64 sd,.float .f64 dt,.float .f64 gr,.float .f64 dr,.int .i64 lim,.bool rv,.slice pr lr cr]] v fun e w'=>e=.returned (.int .i64 pe)/\Below v.heap.size v w')):
  Calls prog 42 #[.pointer (some ⟨gb,0,none⟩),.agg #[.int .i64 sd,.float .f64 dt,.float .f64 gr,.float .f64 dr,.int .i64 lim,.bool rv,.slice pr lr cr],.agg #[.slice pb lb cb,.slice pw lw cw,.slice pt lt ct,.slice ps ls cs,.int .i64 sky,.int .i64 st]] w fun e w'=>e=.returned (.int .i64 pe)/\Below w.heap.size w w':=by
 obtain⟨A0,R0,Q0⟩:=cA w (.cells #[.int .i64 sd,.float .f64 dt,.float .f64 gr,.float .f64 dr,.int .i64 lim,.bool rv,.slice pr lr cr] 45) (.cells #[.slice pb lb cb,.slice pw lw cw,.slice pt lt ct,.slice ps ls cs,.int .i64 sky,.int .i64 st] 48)
 go_enter func42,ntmps42
 go_upto_region 1 with fail
 generalize hW:World.alloc (World.alloc w _) _=v0 at*
 obtain⟨ga,hga⟩:=aB w.heap.size
 obtain⟨gq,hgq⟩:=aB (w.heap.size+1)
 have HG:Hid (w.heap.size<=gq):=by show _<=_;omega
 rw[hgq]at Q0
 try rw[hgq]
 rw[hga]at R0
 try rw[hga]
 clear hga hgq hW
 go_upto_region 3 with fail
 obtain⟨UU,E,hF1,hF2⟩:=cls v0
 have HU:=hid hF2
 have HU1:=hid hF1
 have x0: ∀u,(E u).cell? ⟨ga,0,none⟩=some (.int .i64 sd):=fun u=>aA 0 ((hF1 u).heap R0.out)
 have D1:Hid (∀u,Calls prog 9 #[.pointer (some ⟨gb,0,none⟩)] (E u) fun e w'=>e=.returned (.int .i64 (n:Nat))/\Below (E u).heap.size (E u) w'):=fun u=>CS.out _ (A0.out.trans (hF1 u))
 have DD0:=HU.out _ (Ab.refl v0).drew
 clear hF1 hF2
 refine aM E (by kernel_rfl) (by kernel_rfl) DD0 ?_
 repeat(go_big_quiet_step (first
  | (go_at_call 9;exact aH HU HU1 (D1.out _))
  | (with_reducible rfl)))
 refine wpQuiet_nil ?_
 intro v1 hwz
 obtain⟨u0,hu⟩:=hwz
 have Z1:Hid (Ab v0 v1):=by rw[hu];exact HU1.out u0
 clear hu u0
 clear HU HU1 DD0 D1 x0
 clear E UU
 have A1:Hid (Ab w v1):=A0.out.trans Z1.out
 have R1:=hid (Ab.heap Z1.out R0.out)
 have Q1:=hid (Ab.heap Z1.out Q0.out)
 clear A0 R0 Q0 Z1 CS
 have x0:=aY R1.out
 go_wp2_with fail
 refine(CP.out v1 A1.out).mono ?_
 rintro e9 v2 ⟨rfl,b2⟩
 have A2:Hid (Ab w v2):=A1.out.trans b2
 have R2:=hid (Ab.heap b2 R1.out)
 have Q2:=hid (Ab.heap b2 Q1.out)
 clear b2 A1 R1 Q1 x0
 go_wp2
 go_ret
 exact⟨rfl,A2.out⟩
theorem zF(n gb:Nat)(sd:Int)(dt gr dr:Nat)(lim:Int)(rv:Bool)(pr:Option Addr)(lr cr:Nat)(pb:Option Addr)(lb cb:Nat)(pw:Option Addr)(lw cw:Nat)(pt:Option Addr)(lt ct:Nat)(ps:Option Addr)(ls cs:Nat)(sky st:Int)(pe:Int)(ca ce:Int)(w:World)(h1:((n:Int) != sd)=false)(h2:(pe != 0)=false)
  (CS:Hid (∀v,Ab w v->Calls prog 9 #[.pointer (some ⟨gb,0,none⟩)] v fun e w'=>e=.returned (.int .i64 (n:Nat))/\Below v.heap.size v w'))
  (CP:Hid (∀v,Ab w v->Calls prog 71 #[.agg #[.int .i64 sd,.float .f64 dt,.float .f64 gr,.float .f64 dr,.int .i64 lim,.bool rv,.slice pr lr cr]] v fun e w'=>e=.returned (.int .i64 pe)/\Below v.heap.size v w'))
  (CC:Hid (∀v,Ab w v->Calls prog 72 #[.int .i64 sd,.agg #[.slice pb lb cb,.slice pw lw cw,.slice pt lt ct,.slice ps ls cs,.int .i64 sky,.int .i64 st]] v fun e w'=>e=.returned (.tuple #[.int .i64 ca,.int .i64 ce])/\Below v.heap.size v w')):
  Calls prog 42 #[.pointer (some ⟨gb,0,none⟩),.agg #[.int .i64 sd,.float .f64 dt,.float .f64 gr,.float .f64 dr,.int .i64 lim,.bool rv,.slice pr lr cr],.agg #[.slice pb lb cb,.slice pw lw cw,.slice pt lt ct,.slice ps ls cs,.int .i64 sky,.int .i64 st]] w fun e w'=>e=.returned (.int .i64 ce)/\Below w.heap.size w w':=by
 obtain⟨A0,R0,Q0⟩:=cA w (.cells #[.int .i64 sd,.float .f64 dt,.float .f64 gr,.float .f64 dr,.int .i64 lim,.bool rv,.slice pr lr cr] 45) (.cells #[.slice pb lb cb,.slice pw lw cw,.slice pt lt ct,.slice ps ls cs,.int .i64 sky,.int .i64 st] 48)
 go_enter func42,ntmps42
 go_upto_region 1 with fail
 generalize hW:World.alloc (World.alloc w _) _=v0 at*
 obtain⟨ga,hga⟩:=aB w.heap.size
 obtain⟨gq,hgq⟩:=aB (w.heap.size+1)
 have HG:Hid (w.heap.size<=gq):=by show _<=_;omega
 rw[hgq]at Q0
 try rw[hgq]
 rw[hga]at R0
 try rw[hga]
 clear hga hgq hW
 go_upto_region 3 with fail
 obtain⟨UU,E,hF1,hF2⟩:=cls v0
 have HU:=hid hF2
 have HU1:=hid hF1
 have x0: ∀u,(E u).cell? ⟨ga,0,none⟩=some (.int .i64 sd):=fun u=>aA 0 ((hF1 u).heap R0.out)
 have D1:Hid (∀u,Calls prog 9 #[.pointer (some ⟨gb,0,none⟩)] (E u) fun e w'=>e=.returned (.int .i64 (n:Nat))/\Below (E u).heap.size (E u) w'):=fun u=>CS.out _ (A0.out.trans (hF1 u))
 have DD0:=HU.out _ (Ab.refl v0).drew
 clear hF1 hF2
 refine aM E (by kernel_rfl) (by kernel_rfl) DD0 ?_
 repeat(go_big_quiet_step (first
  | (go_at_call 9;exact aH HU HU1 (D1.out _))
  | (with_reducible rfl)))
 refine wpQuiet_nil ?_
 intro v1 hwz
 obtain⟨u0,hu⟩:=hwz
 have Z1:Hid (Ab v0 v1):=by rw[hu];exact HU1.out u0
 clear hu u0
 clear HU HU1 DD0 D1 x0
 clear E UU
 have A1:Hid (Ab w v1):=A0.out.trans Z1.out
 have R1:=hid (Ab.heap Z1.out R0.out)
 have Q1:=hid (Ab.heap Z1.out Q0.out)
 clear A0 R0 Q0 Z1 CS
 have x0:=aY R1.out
 go_wp2_with fail
 refine(CP.out v1 A1.out).mono ?_
 rintro e9 v2 ⟨rfl,b2⟩
 have A2:Hid (Ab w v2):=A1.out.trans b2
 have R2:=hid (Ab.heap b2 R1.out)
 have Q2:=hid (Ab.heap b2 Q1.out)
 clear b2 A1 R1 Q1 x0
 have x0:=aA 0 R2.out
 have y0:=aG Q2.out
 go_wp2_with fail
 refine(CC.out v2 A2.out).mono ?_
 rintro e9 v3 ⟨rfl,b3⟩
 have A3:Hid (Ab w v3):=A2.out.trans b3
 clear b3 A2 R2 Q2 x0 y0
 go_wp2
 go_ret
 exact⟨rfl,A3.out⟩
theorem zG(gb:Nat)(sd:Int)(dt gr dr:Nat)(lim:Int)(rv:Bool)(pr:Option Addr)(lr cr:Nat)(N M:Nat)(pb:Option Addr)(cb:Nat)(pw:Option Addr)(cw:Nat)(pt:Option Addr)(ct:Nat)(ps:Option Addr)(cs:Nat)(sky st:Int)(sp:Nat->Nat)(wt wa tr:Nat->Int)(w:World)
  (SP:Hid (∀v,Ab w v->Calls prog 73 #[.pointer (some ⟨gb,0,none⟩),.agg #[.int .i64 sd,.float .f64 dt,.float .f64 gr,.float .f64 dr,.int .i64 lim,.bool rv,.slice pr lr cr],.agg #[.slice pb N cb,.slice pw N cw,.slice pt N ct,.slice ps M cs,.int .i64 sky,.int .i64 st]] v fun e w'=> ∃vv,e=.returned (.tuple #[vv,.int .i64 0])/\Below v.heap.size v w'/\OwnG v.heap.size vv ((List.range M).map sp) w'))
  (FX:Hid (∀v p c,Ab w v->IsFl v p M sp->Calls prog 74 #[.pointer (some ⟨gb,0,none⟩),.agg #[.int .i64 sd,.float .f64 dt,.float .f64 gr,.float .f64 dr,.int .i64 lim,.bool rv,.slice pr lr cr],.agg #[.slice pb N cb,.slice pw N cw,.slice pt N ct,.slice p M c,.int .i64 sky,.int .i64 st]] v fun e w'=> ∃b,e=.returned (.tuple #[.slice (some ⟨b,0,none⟩) M M,.int .i64 0])/\Below v.heap.size v w'/\Sh.IsI w' (some ⟨b,0,none⟩) M wt))
  (SH:Hid (∀v p c,Ab w v->Sh.IsI v p M wt->Calls prog 75 #[.pointer (some ⟨gb,0,none⟩),.slice pw N cw,.slice p M c] v fun e w'=> ∃vv,e=.returned (.tuple #[vv,.int .i64 0])/\Below v.heap.size v w'/\Sh.Own v.heap.size vv ((List.range M).map wa) w'))
  (TR:Hid (∀v p c,Ab w v->Sh.IsI v p M wa->Calls prog 76 #[.pointer (some ⟨gb,0,none⟩),.slice pw N cw,.slice pt N ct,.slice p M c] v fun e w'=> ∃vv,e=.returned (.tuple #[vv,.int .i64 0])/\Below v.heap.size v w'/\Sh.Own v.heap.size vv ((List.range M).map tr) w'))
  (HB:Hid ((∀i,i<M->sp i<18446744073709551616)/\ ∀i,i<M->Sh.W64 (wa i))):
  Calls prog 43 #[.pointer (some ⟨gb,0,none⟩),.agg #[.int .i64 sd,.float .f64 dt,.float .f64 gr,.float .f64 dr,.int .i64 lim,.bool rv,.slice pr lr cr],.agg #[.slice pb N cb,.slice pw N cw,.slice pt N ct,.slice ps M cs,.int .i64 sky,.int .i64 st]] w fun e w'=> ∃p0 c0 p1 c1 p2 c2,e=.returned (.tuple #[.slice p0 M c0,.agg #[.slice p1 M c1,.slice p2 M c2]])/\Below w.heap.size w w'/\OwnG w.heap.size (.slice p0 M c0) ((List.range M).map sp) w'/\Sh.Own w.heap.size (.slice p1 M c1) ((List.range M).map wa) w'/\Sh.Own w.heap.size (.slice p2 M c2) ((List.range M).map tr) w'/\Dj (.slice p1 M c1) (.slice p2 M c2):=by
 have A0:Hid (Ab w (((w.alloc (.cells #[.int .i64 sd,.float .f64 dt,.float .f64 gr,.float .f64 dr,.int .i64 lim,.bool rv,.slice pr lr cr] 45)).alloc (.cells #[.slice pb N cb,.slice pw N cw,.slice pt N ct,.slice ps M cs,.int .i64 sky,.int .i64 st] 48)).alloc (.cells #[.slice none 0 0,.slice none 0 0] 50))):=bl3 _ _ _ _
 have R0:Hid ((((w.alloc (.cells #[.int .i64 sd,.float .f64 dt,.float .f64 gr,.float .f64 dr,.int .i64 lim,.bool rv,.slice pr lr cr] 45)).alloc (.cells #[.slice pb N cb,.slice pw N cw,.slice pt N ct,.slice ps M cs,.int .i64 sky,.int .i64 st] 48)).alloc (.cells #[.slice none 0 0,.slice none 0 0] 50)).heap[w.heap.size]? =some (.cells #[.int .i64 sd,.float .f64 dt,.float .f64 gr,.float .f64 dr,.int .i64 lim,.bool rv,.slice pr lr cr] 45)):=Ab.heap (bl1 ((w.alloc (.cells #[.int .i64 sd,.float .f64 dt,.float .f64 gr,.float .f64 dr,.int .i64 lim,.bool rv,.slice pr lr cr] 45)).alloc (.cells #[.slice pb N cb,.slice pw N cw,.slice pt N ct,.slice ps M cs,.int .i64 sky,.int .i64 st] 48)) _) (heap_alloc2_old _ _ _)
 have Q0:Hid ((((w.alloc (.cells #[.int .i64 sd,.float .f64 dt,.float .f64 gr,.float .f64 dr,.int .i64 lim,.bool rv,.slice pr lr cr] 45)).alloc (.cells #[.slice pb N cb,.slice pw N cw,.slice pt N ct,.slice ps M cs,.int .i64 sky,.int .i64 st] 48)).alloc (.cells #[.slice none 0 0,.slice none 0 0] 50)).heap[w.heap.size+1]? =some (.cells #[.slice pb N cb,.slice pw N cw,.slice pt N ct,.slice ps M cs,.int .i64 sky,.int .i64 st] 48)):=Ab.heap (bl1 ((w.alloc (.cells #[.int .i64 sd,.float .f64 dt,.float .f64 gr,.float .f64 dr,.int .i64 lim,.bool rv,.slice pr lr cr] 45)).alloc (.cells #[.slice pb N cb,.slice pw N cw,.slice pt N ct,.slice ps M cs,.int .i64 sky,.int .i64 st] 48)) _) (heap_alloc2_new _ _ _)
 have O0:Hid ((((w.alloc (.cells #[.int .i64 sd,.float .f64 dt,.float .f64 gr,.float .f64 dr,.int .i64 lim,.bool rv,.slice pr lr cr] 45)).alloc (.cells #[.slice pb N cb,.slice pw N cw,.slice pt N ct,.slice ps M cs,.int .i64 sky,.int .i64 st] 48)).alloc (.cells #[.slice none 0 0,.slice none 0 0] 50)).heap[w.heap.size+2]? =some (.cells #[.slice none 0 0,.slice none 0 0] 50)):=dH _ _ _ _
 go_enter func43,ntmps43
 go_upto_region 1 with fail
 generalize hW:World.alloc (World.alloc (World.alloc w _) _) _=v0 at*
 obtain⟨ga,hga⟩:=aB w.heap.size
 obtain⟨gq,hgq⟩:=aB (w.heap.size+1)
 obtain⟨go,hgo⟩:=aB (w.heap.size+2)
 have HG:Hid (w.heap.size<=gq/\w.heap.size<=go/\ga≠gq/\go≠gq/\ga≠go):=by show _/\_;omega
 rw[hgo]at O0
 (try rw[hgo])
 (try rw[show w.heap.size+1+1=go from hgo])
 rw[hgq]at Q0
 (try rw[hgq])
 rw[hga]at R0
 (try rw[hga])
 clear hga hgq hgo hW
 have HK:Hid (ga<v0.heap.size/\gq<v0.heap.size/\go<v0.heap.size):=⟨Rv.bX R0.out,Rv.bX Q0.out,Rv.bX O0.out⟩
 have x0:=aY R0.out
 obtain⟨y0,y1,y2,y3,y4,y5⟩:=aG Q0.out
 go_wp2_with fail
 refine(SP.out v0 A0.out).mono ?_
 rintro e9 v1 ⟨vv,rfl,b1,o1⟩
 obtain⟨p0,c0,rfl⟩: ∃p c,vv=.slice p M c:=by
  obtain⟨p,c,e⟩:=gL o1
  exact⟨p,c,by rw[e,List.length_map,List.length_range]⟩
 have L1:Hid (OwnG v0.heap.size (.slice p0 M c0) ((List.range M).map sp) v1):=o1
 have HW:Hid (w.heap.size<=v0.heap.size):=A0.out.size
 have SZ1:Hid (v0.heap.size<=v1.heap.size):=(show Ab v0 v1 from b1).size
 have A1:Hid (Ab w v1):=A0.out.trans b1
 have R1:=hid (Ab.heap b1 R0.out)
 have Q1:=hid (Ab.heap b1 Q0.out)
 have O1:=hid (Ab.heap b1 O0.out)
 clear b1 o1 A0 R0 Q0 O0 SP x0 y0 y1 y2 y3 y4 y5
 have y3:=aA 3 Q1.out
 have f3:=aF Q1.out 3
 go_upto_region 3 with fail
 have A2:Hid (Ab w (v1.setCell ⟨gq,3,none⟩ (.slice p0 M c0))):=A1.out.setk HG.out.1 _
 have R2:Hid ((v1.setCell ⟨gq,3,none⟩ (.slice p0 M c0)).heap[ga]? =some (.cells #[.int .i64 sd,.float .f64 dt,.float .f64 gr,.float .f64 dr,.int .i64 lim,.bool rv,.slice pr lr cr] 45)):=(aE HG.out.2.2.1).trans R1.out
 have Q2:Hid ((v1.setCell ⟨gq,3,none⟩ (.slice p0 M c0)).heap[gq]? =some (.cells #[.slice pb N cb,.slice pw N cw,.slice pt N ct,.slice p0 M c0,.int .i64 sky,.int .i64 st] 48)):=by
  have h:=aI (v:=.slice p0 M c0) (k:=3) Q1.out
  show _=_
  simpa using h
 have O2:Hid ((v1.setCell ⟨gq,3,none⟩ (.slice p0 M c0)).heap[go]? =some (.cells #[.slice none 0 0,.slice none 0 0] 50)):=(aE HG.out.2.2.2.1).trans O1.out
 have SZ2:Hid (v0.heap.size<=(v1.setCell ⟨gq,3,none⟩ (.slice p0 M c0)).heap.size):=by rw[nblk_setCell];exact SZ1.out
 have L2:Hid (OwnG v0.heap.size (.slice p0 M c0) ((List.range M).map sp) (v1.setCell ⟨gq,3,none⟩ (.slice p0 M c0))):=bG L1.out (dL L1.out HK.out.2.1) 3 _
 clear y3 f3 A1 R1 Q1 O1 L1
 generalize World.setCell v1 _ _=v2 at*
 have x0:=aY R2.out
 obtain⟨y0,y1,y2,y3,y4,y5⟩:=aG Q2.out
 go_wp2_with fail
 refine(FX.out v2 p0 c0 A2.out (Bt L2.out HB.out.1)).mono ?_
 rintro e9 v3 ⟨bb,rfl,b3,i3⟩
 have W3:Hid (Sh.IsI v3 (some ⟨bb,0,none⟩) M wt):=i3
 have A3:Hid (Ab w v3):=A2.out.trans b3
 have Q3:=hid (Ab.heap b3 Q2.out)
 have O3:=hid (Ab.heap b3 O2.out)
 have L3:=hid (OwnG.to L2.out b3)
 have Z3:Hid (Ab v2 v3):=b3
 clear b3 i3 A2 R2 Q2 O2 L2 FX x0 y0 y1 y2 y3 y4 y5
 have y1:=aA 1 Q3.out
 go_wp2_with fail
 refine(SH.out v3 _ _ A3.out W3.out).mono ?_
 rintro e9 v4 ⟨vv,rfl,b4,o4⟩
 obtain⟨p1,c1,rfl⟩: ∃p c,vv=.slice p M c:=by
  obtain⟨p,c,e⟩:=gL o4
  exact⟨p,c,by rw[e,List.length_map,List.length_range]⟩
 have SZ4:Hid (v3.heap.size<=v4.heap.size):=(show Ab v3 v4 from b4).size
 have K4:Hid (Sh.Own v3.heap.size (.slice p1 M c1) ((List.range M).map wa) v4):=o4
 have A4:Hid (Ab w v4):=A3.out.trans b4
 have Q4:=hid (Ab.heap b4 Q3.out)
 have O4:=hid (Ab.heap b4 O3.out)
 have L4:=hid (OwnG.to L3.out b4)
 clear b4 o4 A3 Q3 O3 L3 SH W3 y1
 have y1:=aA 1 Q4.out
 have y2:=aA 2 Q4.out
 go_wp2_with fail
 refine(TR.out v4 _ _ A4.out (oK K4.out HB.out.2)).mono ?_
 rintro e9 v5 ⟨vv,rfl,b5,o5⟩
 obtain⟨p2,c2,rfl⟩: ∃p c,vv=.slice p M c:=by
  obtain⟨p,c,e⟩:=gL o5
  exact⟨p,c,by rw[e,List.length_map,List.length_range]⟩
 have DJ:=hid (dj_new o5 K4.out (Nat.le_refl _))
 have S5:Hid (v0.heap.size<=v3.heap.size/\v3.heap.size<=v4.heap.size):=⟨Nat.le_trans SZ2.out Z3.out.size,SZ4.out⟩
 have H5:Hid (Sh.Own v4.heap.size (.slice p2 M c2) ((List.range M).map tr) v5):=o5
 have A5:Hid (Ab w v5):=A4.out.trans b5
 have O5:=hid (Ab.heap b5 O4.out)
 have L5:=hid (OwnG.to L4.out b5)
 have K5:=hid (Sh.Own.to K4.out b5)
 clear b5 o5 A4 Q4 O4 L4 K4 TR y1 y2
 have t0:=aA 0 O5.out
 have t1:=aA 1 O5.out
 have f0:=aF O5.out 0
 have f1:=aF O5.out 1
 go_wp2
 refine bodyPost_ret (v:=.tuple #[.slice p0 M c0,.agg #[.slice p1 M c1,.slice p2 M c2]]) ?_ rfl ?_
 ·exact res_two' results43 _ _ go _ _ (0,0) _ _ rfl rfl (row2 O5.out) underlying50 rfl (by kernel_rfl)
 ·have k3:=S5.out
  have k2:=HK.out.2.2
  refine⟨p0,c0,p1,c1,p2,c2,rfl,(A5.out.setk HG.out.2.1 _).setk HG.out.2.1 _,?_,?_,?_,DJ.out.2⟩
  ·exact jM (bG (bG L5.out (dL L5.out k2) 0 _) (dL L5.out k2) 1 _) HW.out
  ·exact jM (bG (bG K5.out (dL K5.out (by omega)) 0 _) (dL K5.out (by omega)) 1 _) (by have:=HW.out;omega)
  ·exact jM (bG (bG H5.out (dL H5.out (by omega)) 0 _) (dL H5.out (by omega)) 1 _) (by have:=HW.out;omega)
theorem one21_1(gb:Nat)(sd:Int)(dt gr dr:Nat)(lim:Int)(rv:Bool)(pr:Option Addr)(lr cr:Nat)(pb:Option Addr)(lb cb:Nat)(pw:Option Addr)(lw cw:Nat)(pt:Option Addr)(lt ct:Nat)(ps:Option Addr)(ls cs:Nat)(sky st:Int)(er:Int)(w:World)(he:(er != 0)=true)
  (CH:Hid (∀v,Ab w v->Calls prog 42 #[.pointer (some ⟨gb,0,none⟩),.agg #[.int .i64 sd,.float .f64 dt,.float .f64 gr,.float .f64 dr,.int .i64 lim,.bool rv,.slice pr lr cr],.agg #[.slice pb lb cb,.slice pw lw cw,.slice pt lt ct,.slice ps ls cs,.int .i64 sky,.int .i64 st]] v fun e w'=>e=.returned (.int .i64 er)/\Below v.heap.size v w')):
  Calls prog 21 #[.pointer (some ⟨gb,0,none⟩),.agg #[.int .i64 sd,.float .f64 dt,.float .f64 gr,.float .f64 dr,.int .i64 lim,.bool rv,.slice pr lr cr],.agg #[.slice pb lb cb,.slice pw lw cw,.slice pt lt ct,.slice ps ls cs,.int .i64 sky,.int .i64 st]] w fun e w'=>e=.returned (.tuple #[.agg #[.slice none 0 0,.slice none 0 0,.slice none 0 0,.slice none 0 0,.int .i64 0,.int .i64 0],.int .i64 er])/\Below w.heap.size w w':=by
 have A0:Hid (Ab w (((w.alloc (.cells #[.int .i64 sd,.float .f64 dt,.float .f64 gr,.float .f64 dr,.int .i64 lim,.bool rv,.slice pr lr cr] 45)).alloc (.cells #[.slice pb lb cb,.slice pw lw cw,.slice pt lt ct,.slice ps ls cs,.int .i64 sky,.int .i64 st] 48)).alloc (.cells #[.slice none 0 0,.slice none 0 0,.slice none 0 0,.slice none 0 0,.int .i64 0,.int .i64 0] 48))):=bl3 _ _ _ _
 have R0:Hid ((((w.alloc (.cells #[.int .i64 sd,.float .f64 dt,.float .f64 gr,.float .f64 dr,.int .i64 lim,.bool rv,.slice pr lr cr] 45)).alloc (.cells #[.slice pb lb cb,.slice pw lw cw,.slice pt lt ct,.slice ps ls cs,.int .i64 sky,.int .i64 st] 48)).alloc (.cells #[.slice none 0 0,.slice none 0 0,.slice none 0 0,.slice none 0 0,.int .i64 0,.int .i64 0] 48)).heap[w.heap.size]? =some (.cells #[.int .i64 sd,.float .f64 dt,.float .f64 gr,.float .f64 dr,.int .i64 lim,.bool rv,.slice pr lr cr] 45)):=Ab.heap (bl1 ((w.alloc (.cells #[.int .i64 sd,.float .f64 dt,.float .f64 gr,.float .f64 dr,.int .i64 lim,.bool rv,.slice pr lr cr] 45)).alloc (.cells #[.slice pb lb cb,.slice pw lw cw,.slice pt lt ct,.slice ps ls cs,.int .i64 sky,.int .i64 st] 48)) _) (heap_alloc2_old _ _ _)
 have Q0:Hid ((((w.alloc (.cells #[.int .i64 sd,.float .f64 dt,.float .f64 gr,.float .f64 dr,.int .i64 lim,.bool rv,.slice pr lr cr] 45)).alloc (.cells #[.slice pb lb cb,.slice pw lw cw,.slice pt lt ct,.slice ps ls cs,.int .i64 sky,.int .i64 st] 48)).alloc (.cells #[.slice none 0 0,.slice none 0 0,.slice none 0 0,.slice none 0 0,.int .i64 0,.int .i64 0] 48)).heap[w.heap.size+1]? =some (.cells #[.slice pb lb cb,.slice pw lw cw,.slice pt lt ct,.slice ps ls cs,.int .i64 sky,.int .i64 st] 48)):=Ab.heap (bl1 ((w.alloc (.cells #[.int .i64 sd,.float .f64 dt,.float .f64 gr,.float .f64 dr,.int .i64 lim,.bool rv,.slice pr lr cr] 45)).alloc (.cells #[.slice pb lb cb,.slice pw lw cw,.slice pt lt ct,.slice ps ls cs,.int .i64 sky,.int .i64 st] 48)) _) (heap_alloc2_new _ _ _)
 have O0:Hid ((((w.alloc (.cells #[.int .i64 sd,.float .f64 dt,.float .f64 gr,.float .f64 dr,.int .i64 lim,.bool rv,.slice pr lr cr] 45)).alloc (.cells #[.slice pb lb cb,.slice pw lw cw,.slice pt lt ct,.slice ps ls cs,.int .i64 sky,.int .i64 st] 48)).alloc (.cells #[.slice none 0 0,.slice none 0 0,.slice none 0 0,.slice none 0 0,.int .i64 0,.int .i64 0] 48)).heap[w.heap.size+2]? =some (.cells #[.slice none 0 0,.slice none 0 0,.slice none 0 0,.slice none 0 0,.int .i64 0,.int .i64 0] 48)):=dH _ _ _ _
 go_enter func21,ntmps21
 go_upto_region 1 with fail
 generalize hW:World.alloc (World.alloc (World.alloc w _) _) _=v0 at*
 obtain⟨ga,hga⟩:=aB w.heap.size
 obtain⟨gq,hgq⟩:=aB (w.heap.size+1)
 obtain⟨go,hgo⟩:=aB (w.heap.size+2)
 have HG:Hid (w.heap.size<=gq/\w.heap.size<=go/\ga≠gq/\go≠gq/\ga≠go):=by show _/\_;omega
 rw[hgo]at O0
 (try rw[hgo])
 (try rw[show w.heap.size+1+1=go from hgo])
 rw[hgq]at Q0
 (try rw[hgq])
 rw[hga]at R0
 (try rw[hga])
 clear hga hgq hgo hW
 have HK:Hid (ga<v0.heap.size/\gq<v0.heap.size/\go<v0.heap.size):=⟨Rv.bX R0.out,Rv.bX Q0.out,Rv.bX O0.out⟩
 have x0:=aY R0.out
 have y0:=aG Q0.out
 go_wp2_with fail
 refine(CH.out v0 A0.out).mono ?_
 rintro e9 v1 ⟨rfl,b1⟩
 have A1:Hid (Ab w v1):=A0.out.trans b1
 have O1:=hid (Ab.heap b1 O0.out)
 clear b1 A0 R0 Q0 O0 CH x0 y0
 have t0:=aG O1.out
 have f0:=iE O1.out
 go_wp2_with fail
 (try simp only[Exit.inBlock,Exit.then])
 refine bodyPost_ret (v:=.tuple #[.agg #[.slice none 0 0,.slice none 0 0,.slice none 0 0,.slice none 0 0,.int .i64 0,.int .i64 0],.int .i64 er]) ?_ rfl ?_
 ·exact dE results21 _ _ go _ _ (0,0) _ _ rfl rfl (row6 O1.out) underlying48 rfl (by kernel_rfl)
 ·have hg:=HG.out.2.1
  exact⟨rfl,(((((A1.out.setk hg _).setk hg _).setk hg _).setk hg _).setk hg _).setk hg _⟩
theorem one21_go(gb:Nat)(sd:Int)(dt gr dr:Nat)(lim:Int)(rv:Bool)(pr:Option Addr)(lr cr:Nat)(N M:Nat)(pb:Option Addr)(cb:Nat)(pw:Option Addr)(cw:Nat)(pt:Option Addr)(ct:Nat)(ps:Option Addr)(cs:Nat)(sky st:Int)(B sp:Nat->Nat)(wa tr mw mt ra r1 r2 fw ft:Nat->Int)(sk1 st1:Int)(w:World)(hs:0<=st/\st<=4611686018427387904)(h1:st1=min (st+1) 4611686018427387904)(F0:Hid ((rv=false->fw=ra/\ft=mt)/\(rv=true->fw=r1/\ft=r2)))
  (CH:Hid (∀v,Ab w v->Calls prog 42 #[.pointer (some ⟨gb,0,none⟩),.agg #[.int .i64 sd,.float .f64 dt,.float .f64 gr,.float .f64 dr,.int .i64 lim,.bool rv,.slice pr lr cr],.agg #[.slice pb N cb,.slice pw N cw,.slice pt N ct,.slice ps M cs,.int .i64 sky,.int .i64 st]] v fun e w'=>e=.returned (.int .i64 0)/\Below v.heap.size v w'))
  (PU:Hid (∀v,Ab w v->Calls prog 43 #[.pointer (some ⟨gb,0,none⟩),.agg #[.int .i64 sd,.float .f64 dt,.float .f64 gr,.float .f64 dr,.int .i64 lim,.bool rv,.slice pr lr cr],.agg #[.slice pb N cb,.slice pw N cw,.slice pt N ct,.slice ps M cs,.int .i64 sky,.int .i64 st]] v fun e w'=> ∃p0 c0 p1 c1 p2 c2,e=.returned (.tuple #[.slice p0 M c0,.agg #[.slice p1 M c1,.slice p2 M c2]])/\Below v.heap.size v w'/\OwnG v.heap.size (.slice p0 M c0) ((List.range M).map sp) w'/\Sh.Own v.heap.size (.slice p1 M c1) ((List.range M).map wa) w'/\Sh.Own v.heap.size (.slice p2 M c2) ((List.range M).map tr) w'/\Dj (.slice p1 M c1) (.slice p2 M c2)))
  (CL:Hid (∀v,Ab w v->Calls prog 44 #[.slice pb N cb] v (fun e w2=> ∃x,e=.returned (mkS N x)/\Ab v w2/\(∀b,x.1=some b->v.heap.size<=b/\b<w2.heap.size)/\(fun x w'=>OwnG w.heap.size (mkS N x) ((List.range N).map B) w') x w2)))
  (MW:Hid (∀v p c,Ab w v->Sh.IsI v p M wa->Calls prog 45 #[.pointer (some ⟨gb,0,none⟩),.slice pw N cw,.slice p M c] v fun e w'=> ∃vv,e=.returned (.tuple #[vv,.int .i64 0])/\Below v.heap.size v w'/\Sh.Own v.heap.size vv ((List.range N).map mw) w'))
  (MT:Hid (∀v p c,Ab w v->Sh.IsI v p M tr->Calls prog 45 #[.pointer (some ⟨gb,0,none⟩),.slice pt N ct,.slice p M c] v fun e w'=> ∃vv,e=.returned (.tuple #[vv,.int .i64 0])/\Below v.heap.size v w'/\Sh.Own v.heap.size vv ((List.range N).map mt) w'))
  (RA:Hid (∀v p c,Ab w v->Sh.IsI v p N mw->Calls prog 46 #[.slice p N c,.int .i64 sky,.slice pr lr cr,.int .i64 st] v fun e w'=> ∃vv,e=.returned (.tuple #[vv,.int .i64 sk1,.int .i64 0])/\Below v.heap.size v w'/\Sh.Own v.heap.size vv ((List.range N).map ra) w'))
  (RI:Hid (rv=true-> ∀v p1 c1 p2 c2 p3 c3 p4 c4,Ab w v->IsFl v p1 N B->Sh.IsI v p2 N ra->Sh.IsI v p3 N mt->IsFl v p4 M sp->Calls prog 47 #[.pointer (some ⟨gb,0,none⟩),.agg #[.slice p1 N c1,.slice p2 N c2,.slice p3 N c3,.slice p4 M c4,.int .i64 sk1,.int .i64 st1]] v fun e w'=> ∃v1 v2,e=.returned (.tuple #[v1,v2,.int .i64 0])/\Below v.heap.size v w'/\Sh.Own v.heap.size v1 ((List.range N).map r1) w'/\Sh.Own v.heap.size v2 ((List.range N).map r2) w'/\Dj v1 v2))
  (HB:Hid ((∀i,i<N->B i<18446744073709551616)/\(∀i,i<M->sp i<18446744073709551616)/\(∀i,i<M->Sh.W64 (wa i))/\(∀i,i<M->Sh.W64 (tr i))/\(∀i,i<N->Sh.W64 (mw i))/\(∀i,i<N->Sh.W64 (mt i))/\(∀i,i<N->Sh.W64 (ra i)))):
  Calls prog 21 #[.pointer (some ⟨gb,0,none⟩),.agg #[.int .i64 sd,.float .f64 dt,.float .f64 gr,.float .f64 dr,.int .i64 lim,.bool rv,.slice pr lr cr],.agg #[.slice pb N cb,.slice pw N cw,.slice pt N ct,.slice ps M cs,.int .i64 sky,.int .i64 st]] w fun e w'=> ∃v,e=.returned (.tuple #[v,.int .i64 0])/\Below w.heap.size w w'/\OwnS w.heap.size v N N N M B fw ft sp sk1 st1 w':=by
 have s1: -9223372036854775808<=st+1:=by omega
 have s2:st+1<=9223372036854775807:=by omega
 have H1:=hid h1
 clear hs h1
 have A0:Hid (Ab w (((w.alloc (.cells #[.int .i64 sd,.float .f64 dt,.float .f64 gr,.float .f64 dr,.int .i64 lim,.bool rv,.slice pr lr cr] 45)).alloc (.cells #[.slice pb N cb,.slice pw N cw,.slice pt N ct,.slice ps M cs,.int .i64 sky,.int .i64 st] 48)).alloc (.cells #[.slice none 0 0,.slice none 0 0,.slice none 0 0,.slice none 0 0,.int .i64 0,.int .i64 0] 48))):=bl3 _ _ _ _
 have R0:Hid ((((w.alloc (.cells #[.int .i64 sd,.float .f64 dt,.float .f64 gr,.float .f64 dr,.int .i64 lim,.bool rv,.slice pr lr cr] 45)).alloc (.cells #[.slice pb N cb,.slice pw N cw,.slice pt N ct,.slice ps M cs,.int .i64 sky,.int .i64 st] 48)).alloc (.cells #[.slice none 0 0,.slice none 0 0,.slice none 0 0,.slice none 0 0,.int .i64 0,.int .i64 0] 48)).heap[w.heap.size]? =some (.cells #[.int .i64 sd,.float .f64 dt,.float .f64 gr,.float .f64 dr,.int .i64 lim,.bool rv,.slice pr lr cr] 45)):=Ab.heap (bl1 ((w.alloc (.cells #[.int .i64 sd,.float .f64 dt,.float .f64 gr,.float .f64 dr,.int .i64 lim,.bool rv,.slice pr lr cr] 45)).alloc (.cells #[.slice pb N cb,.slice pw N cw,.slice pt N ct,.slice ps M cs,.int .i64 sky,.int .i64 st] 48)) _) (heap_alloc2_old _ _ _)
 have Q0:Hid ((((w.alloc (.cells #[.int .i64 sd,.float .f64 dt,.float .f64 gr,.float .f64 dr,.int .i64 lim,.bool rv,.slice pr lr cr] 45)).alloc (.cells #[.slice pb N cb,.slice pw N cw,.slice pt N ct,.slice ps M cs,.int .i64 sky,.int .i64 st] 48)).alloc (.cells #[.slice none 0 0,.slice none 0 0,.slice none 0 0,.slice none 0 0,.int .i64 0,.int .i64 0] 48)).heap[w.heap.size+1]? =some (.cells #[.slice pb N cb,.slice pw N cw,.slice pt N ct,.slice ps M cs,.int .i64 sky,.int .i64 st] 48)):=Ab.heap (bl1 ((w.alloc (.cells #[.int .i64 sd,.float .f64 dt,.float .f64 gr,.float .f64 dr,.int .i64 lim,.bool rv,.slice pr lr cr] 45)).alloc (.cells #[.slice pb N cb,.slice pw N cw,.slice pt N ct,.slice ps M cs,.int .i64 sky,.int .i64 st] 48)) _) (heap_alloc2_new _ _ _)
 have O0:Hid ((((w.alloc (.cells #[.int .i64 sd,.float .f64 dt,.float .f64 gr,.float .f64 dr,.int .i64 lim,.bool rv,.slice pr lr cr] 45)).alloc (.cells #[.slice pb N cb,.slice pw N cw,.slice pt N ct,.slice ps M cs,.int .i64 sky,.int .i64 st] 48)).alloc (.cells #[.slice none 0 0,.slice none 0 0,.slice none 0 0,.slice none 0 0,.int .i64 0,.int .i64 0] 48)).heap[w.heap.size+2]? =some (.cells #[.slice none 0 0,.slice none 0 0,.slice none 0 0,.slice none 0 0,.int .i64 0,.int .i64 0] 48)):=dH _ _ _ _
 go_enter func21,ntmps21
 go_upto_region 1 with fail
 generalize hW:World.alloc (World.alloc (World.alloc w _) _) _=v0 at*
 obtain⟨ga,hga⟩:=aB w.heap.size
 obtain⟨gq,hgq⟩:=aB (w.heap.size+1)
 obtain⟨go,hgo⟩:=aB (w.heap.size+2)
 have HG:Hid (w.heap.size<=gq/\w.heap.size<=go/\ga≠gq/\go≠gq/\ga≠go):=by show _/\_;omega
 rw[hgo]at O0
 (try rw[hgo])
 (try rw[show w.heap.size+1+1=go from hgo])
 rw[hgq]at Q0
 (try rw[hgq])
 rw[hga]at R0
 (try rw[hga])
 clear hga hgq hgo hW
 have HK:Hid (ga<v0.heap.size/\gq<v0.heap.size/\go<v0.heap.size):=⟨Rv.bX R0.out,Rv.bX Q0.out,Rv.bX O0.out⟩
 have HW:Hid (w.heap.size<=v0.heap.size):=A0.out.size
 obtain⟨x0,x1,x2,x3,x4,x5,x6⟩:=aY R0.out
 obtain⟨y0,y1,y2,y3,y4,y5⟩:=aG Q0.out
 go_wp2_with fail
 refine(CH.out v0 A0.out).mono ?_
 rintro e9 v1 ⟨rfl,b1⟩
 have SZ1:Hid (v0.heap.size<=v1.heap.size):=(show Ab v0 v1 from b1).size
 have A1:Hid (Ab w v1):=A0.out.trans b1
 have R1:=hid (Ab.heap b1 R0.out)
 have Q1:=hid (Ab.heap b1 Q0.out)
 have O1:=hid (Ab.heap b1 O0.out)
 clear b1 A0 R0 Q0 O0 CH x0 x1 x2 x3 x4 x5 x6 y0 y1 y2 y3 y4 y5
 obtain⟨x0,x1,x2,x3,x4,x5,x6⟩:=aY R1.out
 obtain⟨y0,y1,y2,y3,y4,y5⟩:=aG Q1.out
 go_wp2_with fail
 refine(PU.out v1 A1.out).mono ?_
 rintro e9 u2 ⟨p0,c0,p1,c1,p2,c2,rfl,b2,o0,o1,o2,-⟩
 have BB:Hid (Ab v1 (u2.alloc (.cells #[.slice p1 M c1,.slice p2 M c2] 50))):=(show Ab v1 u2 from b2).trans (bl1 _ _)
 have SZ2:Hid (v1.heap.size<=(u2.alloc (.cells #[.slice p1 M c1,.slice p2 M c2] 50)).heap.size):=BB.out.size
 have F2:=hid (heap_alloc_new u2 (.cells #[.slice p1 M c1,.slice p2 M c2] 50))
 have S2:Hid (OwnG v1.heap.size (.slice p0 M c0) ((List.range M).map sp) (u2.alloc (.cells #[.slice p1 M c1,.slice p2 M c2] 50))):=OwnG.to o0 (bl1 _ _)
 have IW:Hid (Sh.IsI (u2.alloc (.cells #[.slice p1 M c1,.slice p2 M c2] 50)) p1 M wa):=oK (Sh.Own.to o1 (bl1 _ _)) HB.out.2.2.1
 have IT:Hid (Sh.IsI (u2.alloc (.cells #[.slice p1 M c1,.slice p2 M c2] 50)) p2 M tr):=oK (Sh.Own.to o2 (bl1 _ _)) HB.out.2.2.2.1
 clear o0 o1 o2 b2 x0 x1 x2 x3 x4 x5 x6 y0 y1 y2 y3 y4 y5 PU
 go_upto_region 5 with fail
 generalize hW:World.alloc u2 _=v2 at*
 obtain⟨gf,hg⟩:=aB u2.heap.size
 rw[hg]at F2 ⊢
 clear hg hW
 have A2:Hid (Ab w v2):=A1.out.trans BB.out
 have R2:=hid (Ab.heap BB.out R1.out)
 have Q2:=hid (Ab.heap BB.out Q1.out)
 have O2:=hid (Ab.heap BB.out O1.out)
 clear BB A1 R1 Q1 O1
 obtain⟨UU,E,hF1,hF2⟩:=cls v2.drew
 have HU:=hid hF2
 have e0: ∀u,(E u).cell? ⟨gq,0,none⟩=some (.slice pb N cb):=fun u=>aA 0 ((hF1 u).heap Q2.out)
 have e5: ∀u,(E u).cell? ⟨gq,5,none⟩=some (.int .i64 st):=fun u=>aA 5 ((hF1 u).heap Q2.out)
 have C1:Hid (∀v,Ab v2.drew v->Calls prog 44 #[.slice pb N cb] v (fun e w2=> ∃x,e=.returned (mkS N x)/\Ab v w2/\(∀b,x.1=some b->v.heap.size<=b/\b<w2.heap.size)/\(fun x w'=>OwnG w.heap.size (mkS N x) ((List.range N).map B) w') x w2)):=fun v a=>CL.out v (A2.out.trans ((Ab.refl v2).drew.trans a))
 have AL: ∀v:World,(Instr.alloc 48 true (.tuple #[])).run prog v=.ok (.pointer (some ⟨v.heap.size,0,none⟩)) (v.alloc (.cells #[.slice none 0 0,.slice none 0 0,.slice none 0 0,.slice none 0 0,.int .i64 0,.int .i64 0] 48)):=fun v=>by
  simp[go_sem]
 clear hF1 hF2
 have STB:Cg.Stable (fun k=>if k=2 then some ((fun x w'=>OwnG w.heap.size (mkS N x) ((List.range N).map B) w'),mkS N)else if k=9 then some ((fun x w'=> ∃b,x.1=some b/\w'.heap[b]? =some (.cells #[.slice none 0 0,.slice none 0 0,.slice none 0 0,.slice none 0 0,.int .i64 0,.int .i64 0] 48)),mkP)else none):=fun i R mk h x v v' hr ha=>by
  by_cases q2:i=2
  ·subst q2
   simp only[if_true,Option.some.injEq,Prod.mk.injEq]at h
   obtain⟨h1,h2⟩:=h
   subst h1 h2
   exact OwnG.to hr ha
  ·by_cases q9:i=9
   ·subst q9
    simp only[if_true,if_neg (show¬(9:Nat)=2 by decide),Option.some.injEq,Prod.mk.injEq]at h
    obtain⟨h1,h2⟩:=h
    subst h1 h2
    obtain⟨b,hb,hc⟩:=hr
    exact⟨b,hb,Ab.heap ha hc⟩
   ·simp only[if_neg q2,if_neg q9]at h
    cases h
 refine Cg.kF 10 (fun k=>if k=2 then some ((fun x w'=>OwnG w.heap.size (mkS N x) ((List.range N).map B) w'),mkS N)else if k=9 then some ((fun x w'=> ∃b,x.1=some b/\w'.heap[b]? =some (.cells #[.slice none 0 0,.slice none 0 0,.slice none 0 0,.slice none 0 0,.int .i64 0,.int .i64 0] 48)),mkP)else none) STB (by kernel_rfl) (by kernel_rfl) (by kernel_rfl) ?_
 simp only[List.take_succ_cons,List.take_zero]
 refine Cg.dF HU (by rfl) (by rfl) ?_
 go_big_quiet_step (with_reducible rfl)
 refine wpQuiet_nil ?_
 refine Cg.dF HU (by rfl) (by rfl) ?_
 go_big_quiet_step (with_reducible rfl)
 refine wpQuiet_nil ?_
 refine Cg.dP (ob:=(fun x w'=>OwnG w.heap.size (mkS N x) ((List.range N).map B) w')) (mk:=mkS N) (by rfl) (by kernel_rfl) ?_ ?_
 ·refine Cg.lay_call (f:=44) (args:= #[.slice pb N cb]) ?_ C1.out
  intro v
  refine E8 (x:=.tmp 28) (ats:= #[38]) (by rfl) (by rfl) func44 (by kernel_rfl) (by kernel_rfl) v
 intro x2 fx2
 simp only[Act.put,List.setIfInBounds_toArray,List.set_cons_succ,List.set_cons_zero]
 obtain⟨pB,mB,cB,qB⟩:=mkS_sl N x2
 rw[qB]
 refine Cg.dF HU (by rfl) (by rfl) ?_
 go_big_quiet_step (with_reducible rfl)
 refine wpQuiet_nil ?_
 refine Cg.dF HU (by rfl) (by rfl) ?_
 go_big_quiet_step (with_reducible rfl)
 refine wpQuiet_nil ?_
 refine Cg.dF HU (by rfl) (by rfl) ?_
 go_big_quiet_step (with_reducible rfl)
 refine wpQuiet_nil ?_
 refine Cg.dF HU (by rfl) (by rfl) ?_
 go_big_quiet_step (with_reducible rfl)
 refine wpQuiet_nil ?_
 refine Cg.Bk (.int .i64 st1) (by rfl) (by kernel_rfl) (fun v=>by rw[H1.out];exact min_run (x:=.tmp 33) (y:=.const (.int .i64 4611686018427387904)) rfl rfl rfl v) ?_
 simp only[Act.put,List.setIfInBounds_toArray,List.set_cons_succ,List.set_cons_zero]
 refine Cg.dF HU (by rfl) (by rfl) ?_
 go_big_quiet_step (with_reducible rfl)
 refine wpQuiet_nil ?_
 refine Cg.dP (ob:=(fun x w'=> ∃b,x.1=some b/\w'.heap[b]? =some (.cells #[.slice none 0 0,.slice none 0 0,.slice none 0 0,.slice none 0 0,.int .i64 0,.int .i64 0] 48))) (mk:=mkP) (by rfl) (by kernel_rfl) ?_ ?_
 ·exact Cg.jK (O:=.cells #[.slice none 0 0,.slice none 0 0,.slice none 0 0,.slice none 0 0,.int .i64 0,.int .i64 0] 48) (c:=0) (fun v _=>Cg.run_alloc rfl (AL v)) (fun v _=>⟨v.heap.size,rfl,heap_alloc_new _ _⟩)
 intro x9 fx9
 simp only[Act.put,List.setIfInBounds_toArray,List.set_cons_succ,List.set_cons_zero]
 refine Cg.lS ?_
 intro v3 hz
 have k2:=hz.at (i:=2) (x:=x2) (R:=(fun x w'=>OwnG w.heap.size (mkS N x) ((List.range N).map B) w')) (mk:=mkS N) (by rfl) (by rfl)
 have k9:=hz.at (i:=9) (x:=x9) (R:=(fun x w'=> ∃b,x.1=some b/\w'.heap[b]? =some (.cells #[.slice none 0 0,.slice none 0 0,.slice none 0 0,.slice none 0 0,.int .i64 0,.int .i64 0] 48))) (mk:=mkP) (by rfl) (by rfl)
 obtain⟨⟨gn,hgn,hrow⟩,hlt⟩:=k9
 have Z3:Hid (Ab v2 v3):=(Ab.refl v2).drew.trans hz.1
 have BN:Hid (OwnG w.heap.size (mkS N x2) ((List.range N).map B) v3/\(∀b,(mkS N x2).ownBlock=some b->v2.heap.size<=b)/\(mkS N x2).ownBlock≠some gn):=⟨k2.1,fun b q=>by rw[DF]at q;exact(k2.2 b q).1,fun q=>by rw[DF]at q;exact(fx9 gn hgn).2 2 x2 (by rfl) q⟩
 have HN:Hid (v2.heap.size<=gn):=(hlt gn hgn).1
 have N3:Hid (v3.heap[gn]? =some (.cells #[.slice none 0 0,.slice none 0 0,.slice none 0 0,.slice none 0 0,.int .i64 0,.int .i64 0] 48)):=hrow
 rw[mkP_some hgn]
 have eN:mB=N:=by
  obtain⟨p',c',e⟩:=gL BN.out.1
  rw[qB]at e
  injection e with e1 e2 e3
  rw[e2,List.length_map,List.length_range]
 rw[eN]at qB ⊢
 rw[qB]at BN
 have B3:=hid BN.out.1
 clear hz fx2 fx9 k2 hlt hgn hrow HU e0 e5 C1 AL STB qB eN mB x2 x9
 clear E UU
 have DB:Hid (Dj (.slice pB N cB) (.slice p0 M c0)):=fun b q r=>by
  have:=BN.out.2.1 b q
  have:=(World.ownsRow.lt S2.out b r).2
  omega
 have NB:=hid BN.out.2.2
 have NO:Hid ((Value.slice pB N cB).ownBlock≠some go):=fun q=>by
  have:=BN.out.2.1 go q
  have:=Rv.bX O2.out
  omega
 have HL:Hid (w.heap.size<=gn):=Nat.le_trans A2.out.size HN.out
 have A3:Hid (Ab w v3):=A2.out.trans Z3.out
 clear BN A2
 obtain⟨t0,t1,t2,t3,t4,t5⟩:=aG N3.out
 obtain⟨f0,f1,f2,f3,f4,f5⟩:=iE N3.out
 simp only[List.drop_succ_cons,List.drop_zero]
 go_upto_region 6 with fail
 have A4:Hid (Ab w (((((((v3).setCell ⟨gn,0,none⟩ (.slice pB N cB)).setCell ⟨gn,1,none⟩ (.slice none 0 0)).setCell ⟨gn,2,none⟩ (.slice none 0 0)).setCell ⟨gn,3,none⟩ (.slice p0 M c0)).setCell ⟨gn,4,none⟩ (.int .i64 0)).setCell ⟨gn,5,none⟩ (.int .i64 st1))):=(Ab.setk (Ab.setk (Ab.setk (Ab.setk (Ab.setk (Ab.setk A3.out HL.out _) HL.out _) HL.out _) HL.out _) HL.out _) HL.out _)
 have X4:Hid (Ab v2 (((((((v3).setCell ⟨gn,0,none⟩ (.slice pB N cB)).setCell ⟨gn,1,none⟩ (.slice none 0 0)).setCell ⟨gn,2,none⟩ (.slice none 0 0)).setCell ⟨gn,3,none⟩ (.slice p0 M c0)).setCell ⟨gn,4,none⟩ (.int .i64 0)).setCell ⟨gn,5,none⟩ (.int .i64 st1))):=(Ab.setk (Ab.setk (Ab.setk (Ab.setk (Ab.setk (Ab.setk Z3.out HN.out _) HN.out _) HN.out _) HN.out _) HN.out _) HN.out _)
 have N4:Hid ((((((((v3).setCell ⟨gn,0,none⟩ (.slice pB N cB)).setCell ⟨gn,1,none⟩ (.slice none 0 0)).setCell ⟨gn,2,none⟩ (.slice none 0 0)).setCell ⟨gn,3,none⟩ (.slice p0 M c0)).setCell ⟨gn,4,none⟩ (.int .i64 0)).setCell ⟨gn,5,none⟩ (.int .i64 st1)).heap[gn]? =some (.cells #[.slice pB N cB,.slice none 0 0,.slice none 0 0,.slice p0 M c0,.int .i64 0,.int .i64 st1] 48)):=row6 N3.out
 have B4:Hid (OwnG w.heap.size (.slice pB N cB) ((List.range N).map B) (((((((v3).setCell ⟨gn,0,none⟩ (.slice pB N cB)).setCell ⟨gn,1,none⟩ (.slice none 0 0)).setCell ⟨gn,2,none⟩ (.slice none 0 0)).setCell ⟨gn,3,none⟩ (.slice p0 M c0)).setCell ⟨gn,4,none⟩ (.int .i64 0)).setCell ⟨gn,5,none⟩ (.int .i64 st1))):=fA B3.out NB.out _ _ _ _ _ _
 have G4:Hid (gn<(((((((v3).setCell ⟨gn,0,none⟩ (.slice pB N cB)).setCell ⟨gn,1,none⟩ (.slice none 0 0)).setCell ⟨gn,2,none⟩ (.slice none 0 0)).setCell ⟨gn,3,none⟩ (.slice p0 M c0)).setCell ⟨gn,4,none⟩ (.int .i64 0)).setCell ⟨gn,5,none⟩ (.int .i64 st1)).heap.size):=Rv.bX N4.out
 clear A3 N3 B3 Z3 t0 t1 t2 t3 t4 t5 f0 f1 f2 f3 f4 f5
 generalize World.setCell _ _ _=v4 at*
 have y1:=aA 1 (Ab.heap X4.out Q2.out)
 have z0:=aA 0 (Ab.heap X4.out F2.out)
 go_wp2_with fail
 refine(MW.out v4 _ _ A4.out (IW.out.below X4.out)).mono ?_
 rintro e9 v5 ⟨vv,rfl,b5,o9⟩
 obtain⟨wp,wc,rfl⟩: ∃p c,vv=.slice p N c:=by
  obtain⟨p,c,e⟩:=gL o9
  exact⟨p,c,by rw[e,List.length_map,List.length_range]⟩
 have W5:Hid (Sh.Own v4.heap.size (.slice wp N wc) ((List.range N).map mw) v5):=o9
 have NW:Hid ((Value.slice wp N wc).ownBlock≠some gn):=dL o9 G4.out
 have EW:Hid (v0.heap.size<=v4.heap.size):=Nat.le_trans (Nat.le_trans SZ1.out SZ2.out) X4.out.size
 have X5:Hid (Ab v2 v5):=X4.out.trans b5
 have G5:Hid (gn<v5.heap.size):=Nat.lt_of_lt_of_le G4.out (show Ab v4 v5 from b5).size
 have A5:Hid (Ab w v5):=A4.out.trans b5
 have N5:=hid (Ab.heap b5 N4.out)
 have B5:=hid (OwnG.to B4.out b5)
 clear X4 G4 A4 N4 B4 b5 o9 y1 z0 MW IW
 have t1:=aA 1 N5.out
 have f1:=aF N5.out 1
 go_upto_region 7 with fail
 have A6:Hid (Ab w ((v5).setCell ⟨gn,1,none⟩ (.slice wp N wc))):=(Ab.setk A5.out HL.out _)
 have X6:Hid (Ab v2 ((v5).setCell ⟨gn,1,none⟩ (.slice wp N wc))):=(Ab.setk X5.out HN.out _)
 have G6:Hid (gn<((v5).setCell ⟨gn,1,none⟩ (.slice wp N wc)).heap.size):=by show gn<_;rw[nblk_setCell];exact G5.out
 have N6:Hid (((v5).setCell ⟨gn,1,none⟩ (.slice wp N wc)).heap[gn]? =some (.cells #[.slice pB N cB,.slice wp N wc,.slice none 0 0,.slice p0 M c0,.int .i64 0,.int .i64 st1] 48)):=by
  have h:=N5.out
  have h:=aI (v:=.slice wp N wc) (k:=1) h
  show _=_
  simpa using h
 have B6:Hid (OwnG w.heap.size (.slice pB N cB) ((List.range N).map B) ((v5).setCell ⟨gn,1,none⟩ (.slice wp N wc))):=(bG B5.out NB.out 1 _)
 have W6:Hid (Sh.Own v4.heap.size (.slice wp N wc) ((List.range N).map mw) ((v5).setCell ⟨gn,1,none⟩ (.slice wp N wc))):=(bG W5.out NW.out 1 _)
 clear A5 X5 G5 N5 B5 W5 t1 f1
 generalize World.setCell _ _ _=v6 at*
 have y2:=aA 2 (Ab.heap X6.out Q2.out)
 have z1:=aA 1 (Ab.heap X6.out F2.out)
 go_wp2_with fail
 refine(MT.out v6 _ _ A6.out (IT.out.below X6.out)).mono ?_
 rintro e9 v7 ⟨vv,rfl,b7,o9⟩
 obtain⟨tp,tc,rfl⟩: ∃p c,vv=.slice p N c:=by
  obtain⟨p,c,e⟩:=gL o9
  exact⟨p,c,by rw[e,List.length_map,List.length_range]⟩
 have T7:Hid (Sh.Own v6.heap.size (.slice tp N tc) ((List.range N).map mt) v7):=o9
 have NT:Hid ((Value.slice tp N tc).ownBlock≠some gn):=dL o9 G6.out
 have ET:Hid (v0.heap.size<=v6.heap.size):=Nat.le_trans (Nat.le_trans SZ1.out SZ2.out) X6.out.size
 have X7:Hid (Ab v2 v7):=X6.out.trans b7
 have G7:Hid (gn<v7.heap.size):=Nat.lt_of_lt_of_le G6.out (show Ab v6 v7 from b7).size
 have A7:Hid (Ab w v7):=A6.out.trans b7
 have N7:=hid (Ab.heap b7 N6.out)
 have B7:=hid (OwnG.to B6.out b7)
 have W7:=hid (Sh.Own.to W6.out b7)
 clear X6 G6 A6 N6 B6 W6 b7 o9 y2 z1 MT IT
 have t2:=aA 2 N7.out
 have f2:=aF N7.out 2
 go_upto_region 8 with fail
 have A8:Hid (Ab w ((v7).setCell ⟨gn,2,none⟩ (.slice tp N tc))):=(Ab.setk A7.out HL.out _)
 have X8:Hid (Ab v2 ((v7).setCell ⟨gn,2,none⟩ (.slice tp N tc))):=(Ab.setk X7.out HN.out _)
 have G8:Hid (gn<((v7).setCell ⟨gn,2,none⟩ (.slice tp N tc)).heap.size):=by show gn<_;rw[nblk_setCell];exact G7.out
 have N8:Hid (((v7).setCell ⟨gn,2,none⟩ (.slice tp N tc)).heap[gn]? =some (.cells #[.slice pB N cB,.slice wp N wc,.slice tp N tc,.slice p0 M c0,.int .i64 0,.int .i64 st1] 48)):=by
  have h:=N7.out
  have h:=aI (v:=.slice tp N tc) (k:=2) h
  show _=_
  simpa using h
 have B8:Hid (OwnG w.heap.size (.slice pB N cB) ((List.range N).map B) ((v7).setCell ⟨gn,2,none⟩ (.slice tp N tc))):=(bG B7.out NB.out 2 _)
 have W8:Hid (Sh.Own v4.heap.size (.slice wp N wc) ((List.range N).map mw) ((v7).setCell ⟨gn,2,none⟩ (.slice tp N tc))):=(bG W7.out NW.out 2 _)
 have T8:Hid (Sh.Own v6.heap.size (.slice tp N tc) ((List.range N).map mt) ((v7).setCell ⟨gn,2,none⟩ (.slice tp N tc))):=(bG T7.out NT.out 2 _)
 clear A7 X7 G7 N7 B7 W7 T7 t2 f2
 generalize World.setCell _ _ _=v8 at*
 have n1:=aA 1 N8.out
 have y4:=aA 4 (Ab.heap X8.out Q2.out)
 have y5:=aA 5 (Ab.heap X8.out Q2.out)
 have x6:=aA 6 (Ab.heap X8.out R2.out)
 go_wp2_with fail
 refine(RA.out v8 _ _ A8.out (oK W8.out HB.out.2.2.2.2.1)).mono ?_
 rintro e9 v9 ⟨vv,rfl,b9,o9⟩
 obtain⟨rp,rc,rfl⟩: ∃p c,vv=.slice p N c:=by
  obtain⟨p,c,e⟩:=gL o9
  exact⟨p,c,by rw[e,List.length_map,List.length_range]⟩
 have H9:Hid (Sh.Own v8.heap.size (.slice rp N rc) ((List.range N).map ra) v9):=o9
 have NH:Hid ((Value.slice rp N rc).ownBlock≠some gn):=dL o9 G8.out
 have EH:Hid (v0.heap.size<=v8.heap.size):=Nat.le_trans (Nat.le_trans SZ1.out SZ2.out) X8.out.size
 have DR:Hid (Dj (.slice rp N rc) (.slice tp N tc)):=(dj_new o9 T8.out (Nat.le_refl _)).1
 have X9:Hid (Ab v2 v9):=X8.out.trans b9
 have G9:Hid (gn<v9.heap.size):=Nat.lt_of_lt_of_le G8.out (show Ab v8 v9 from b9).size
 have A9:Hid (Ab w v9):=A8.out.trans b9
 have N9:=hid (Ab.heap b9 N8.out)
 have B9:=hid (OwnG.to B8.out b9)
 have W9:=hid (Sh.Own.to W8.out b9)
 have T9:=hid (Sh.Own.to T8.out b9)
 clear X8 G8 A8 N8 B8 W8 T8 b9 o9 n1 y4 y5 x6 RA
 clear W9 NW EW
 have t1:=aA 1 N9.out
 have f1:=aF N9.out 1
 have t4:=aA 4 N9.out
 have f4:=aF N9.out 4
 go_upto_region 9 with fail
 have A10:Hid (Ab w (((v9).setCell ⟨gn,1,none⟩ (.slice rp N rc)).setCell ⟨gn,4,none⟩ (.int .i64 sk1))):=(Ab.setk (Ab.setk A9.out HL.out _) HL.out _)
 have X10:Hid (Ab v2 (((v9).setCell ⟨gn,1,none⟩ (.slice rp N rc)).setCell ⟨gn,4,none⟩ (.int .i64 sk1))):=(Ab.setk (Ab.setk X9.out HN.out _) HN.out _)
 have G10:Hid (gn<(((v9).setCell ⟨gn,1,none⟩ (.slice rp N rc)).setCell ⟨gn,4,none⟩ (.int .i64 sk1)).heap.size):=by show gn<_;rw[nblk_setCell,nblk_setCell];exact G9.out
 have N10:Hid ((((v9).setCell ⟨gn,1,none⟩ (.slice rp N rc)).setCell ⟨gn,4,none⟩ (.int .i64 sk1)).heap[gn]? =some (.cells #[.slice pB N cB,.slice rp N rc,.slice tp N tc,.slice p0 M c0,.int .i64 sk1,.int .i64 st1] 48)):=by
  have h:=N9.out
  have h:=aI (v:=.slice rp N rc) (k:=1) h
  have h:=aI (v:=.int .i64 sk1) (k:=4) h
  show _=_
  simpa using h
 have B10:Hid (OwnG w.heap.size (.slice pB N cB) ((List.range N).map B) (((v9).setCell ⟨gn,1,none⟩ (.slice rp N rc)).setCell ⟨gn,4,none⟩ (.int .i64 sk1))):=(bG (bG B9.out NB.out 1 _) NB.out 4 _)
 have T10:Hid (Sh.Own v6.heap.size (.slice tp N tc) ((List.range N).map mt) (((v9).setCell ⟨gn,1,none⟩ (.slice rp N rc)).setCell ⟨gn,4,none⟩ (.int .i64 sk1))):=(bG (bG T9.out NT.out 1 _) NT.out 4 _)
 have H10:Hid (Sh.Own v8.heap.size (.slice rp N rc) ((List.range N).map ra) (((v9).setCell ⟨gn,1,none⟩ (.slice rp N rc)).setCell ⟨gn,4,none⟩ (.int .i64 sk1))):=(bG (bG H9.out NH.out 1 _) NH.out 4 _)
 clear A9 X9 G9 N9 B9 T9 H9 t1 f1 t4 f4
 generalize World.setCell _ _ _=v10 at*
 cases rv with
 | false=>
  have e1:=(F0.out.1 rfl).1.symm
  have e2:=(F0.out.1 rfl).2.symm
  subst e1 e2
  clear F0
  have x5:=aA 5 (Ab.heap X10.out R2.out)
  obtain⟨n0,n1,n2,n3,n4,n5⟩:=aG N10.out
  obtain⟨t0,t1,t2,t3,t4,t5⟩:=aG (Ab.heap X10.out O2.out)
  obtain⟨f0,f1,f2,f3,f4,f5⟩:=iE (Ab.heap X10.out O2.out)
  go_wp2_with fail
  (try simp only[Exit.inBlock,Exit.then])
  refine bodyPost_ret (v:=.tuple #[.agg #[.slice pB N cB,.slice rp N rc,.slice tp N tc,.slice p0 M c0,.int .i64 sk1,.int .i64 st1],.int .i64 0]) ?_ rfl ?_
  ·exact dE results21 _ _ go _ _ (0,0) _ _ rfl rfl (row6 (Ab.heap X10.out O2.out)) underlying48 rfl (by kernel_rfl)
  ·have hg:=HG.out.2.1
   have k2:=HK.out.2.2
   have k3:=SZ1.out
   have k4:=HW.out
   have k5:=EH.out
   have k6:=ET.out
   refine⟨_,rfl,(((((A10.out.setk hg _).setk hg _).setk hg _).setk hg _).setk hg _).setk hg _,_,_,_,_,rfl,?_,?_,?_,?_,DB.out,DR.out⟩
   ·exact fA B10.out NO.out _ _ _ _ _ _
   ·exact jM (fA H10.out (dL H10.out (by omega)) _ _ _ _ _ _) (by omega)
   ·exact jM (fA T10.out (dL T10.out (by omega)) _ _ _ _ _ _) (by omega)
   ·exact jM (fA (OwnG.to S2.out X10.out) (dL S2.out (by omega)) _ _ _ _ _ _) (by omega)
 | true=>
  have e1:=(F0.out.2 rfl).1.symm
  have e2:=(F0.out.2 rfl).2.symm
  subst e1 e2
  clear F0
  have RJ:=hid (RI.out rfl)
  clear RI
  have x5:=aA 5 (Ab.heap X10.out R2.out)
  obtain⟨n0,n1,n2,n3,n4,n5⟩:=aG N10.out
  go_wp2_with fail
  refine(RJ.out v10 _ _ _ _ _ _ _ _ A10.out (Bt B10.out HB.out.1) (oK H10.out HB.out.2.2.2.2.2.2) (oK T10.out HB.out.2.2.2.2.2.1) (Bt (OwnG.to S2.out X10.out) HB.out.2.1)).mono ?_
  rintro e9 v11 ⟨vv,vu,rfl,b11,o9,o8,dj⟩
  obtain⟨up,uc,rfl⟩: ∃p c,vv=.slice p N c:=by
   obtain⟨p,c,e⟩:=gL o9
   exact⟨p,c,by rw[e,List.length_map,List.length_range]⟩
  obtain⟨qp,qc,rfl⟩: ∃p c,vu=.slice p N c:=by
   obtain⟨p,c,e⟩:=gL o8
   exact⟨p,c,by rw[e,List.length_map,List.length_range]⟩
  have U11:Hid (Sh.Own v10.heap.size (.slice up N uc) ((List.range N).map r1) v11):=o9
  have NU:Hid ((Value.slice up N uc).ownBlock≠some gn):=dL o9 G10.out
  have EU:Hid (v0.heap.size<=v10.heap.size):=Nat.le_trans (Nat.le_trans SZ1.out SZ2.out) X10.out.size
  have P11:Hid (Sh.Own v10.heap.size (.slice qp N qc) ((List.range N).map r2) v11):=o8
  have NP:Hid ((Value.slice qp N qc).ownBlock≠some gn):=dL o8 G10.out
  have EP:Hid (v0.heap.size<=v10.heap.size):=Nat.le_trans (Nat.le_trans SZ1.out SZ2.out) X10.out.size
  have DU:=hid dj
  have X11:Hid (Ab v2 v11):=X10.out.trans b11
  have G11:Hid (gn<v11.heap.size):=Nat.lt_of_lt_of_le G10.out (show Ab v10 v11 from b11).size
  have A11:Hid (Ab w v11):=A10.out.trans b11
  have N11:=hid (Ab.heap b11 N10.out)
  have B11:=hid (OwnG.to B10.out b11)
  have T11:=hid (Sh.Own.to T10.out b11)
  have H11:=hid (Sh.Own.to H10.out b11)
  clear X10 G10 A10 N10 B10 T10 H10 b11 o9 o8 dj x5 n0 n1 n2 n3 n4 n5 RJ
  clear H11 T11 NH NT EH ET DR
  have t1:=aA 1 N11.out
  have f1:=aF N11.out 1
  have t2:=aA 2 N11.out
  have f2:=aF N11.out 2
  go_upto_region 11 with fail
  have A12:Hid (Ab w (((v11).setCell ⟨gn,1,none⟩ (.slice up N uc)).setCell ⟨gn,2,none⟩ (.slice qp N qc))):=(Ab.setk (Ab.setk A11.out HL.out _) HL.out _)
  have X12:Hid (Ab v2 (((v11).setCell ⟨gn,1,none⟩ (.slice up N uc)).setCell ⟨gn,2,none⟩ (.slice qp N qc))):=(Ab.setk (Ab.setk X11.out HN.out _) HN.out _)
  have G12:Hid (gn<(((v11).setCell ⟨gn,1,none⟩ (.slice up N uc)).setCell ⟨gn,2,none⟩ (.slice qp N qc)).heap.size):=by show gn<_;rw[nblk_setCell,nblk_setCell];exact G11.out
  have N12:Hid ((((v11).setCell ⟨gn,1,none⟩ (.slice up N uc)).setCell ⟨gn,2,none⟩ (.slice qp N qc)).heap[gn]? =some (.cells #[.slice pB N cB,.slice up N uc,.slice qp N qc,.slice p0 M c0,.int .i64 sk1,.int .i64 st1] 48)):=by
   have h:=N11.out
   have h:=aI (v:=.slice up N uc) (k:=1) h
   have h:=aI (v:=.slice qp N qc) (k:=2) h
   show _=_
   simpa using h
  have B12:Hid (OwnG w.heap.size (.slice pB N cB) ((List.range N).map B) (((v11).setCell ⟨gn,1,none⟩ (.slice up N uc)).setCell ⟨gn,2,none⟩ (.slice qp N qc))):=(bG (bG B11.out NB.out 1 _) NB.out 2 _)
  have U12:Hid (Sh.Own v10.heap.size (.slice up N uc) ((List.range N).map r1) (((v11).setCell ⟨gn,1,none⟩ (.slice up N uc)).setCell ⟨gn,2,none⟩ (.slice qp N qc))):=(bG (bG U11.out NU.out 1 _) NU.out 2 _)
  have P12:Hid (Sh.Own v10.heap.size (.slice qp N qc) ((List.range N).map r2) (((v11).setCell ⟨gn,1,none⟩ (.slice up N uc)).setCell ⟨gn,2,none⟩ (.slice qp N qc))):=(bG (bG P11.out NP.out 1 _) NP.out 2 _)
  clear A11 X11 G11 N11 B11 U11 P11 t1 f1 t2 f2
  generalize World.setCell _ _ _=v12 at*
  obtain⟨n0,n1,n2,n3,n4,n5⟩:=aG N12.out
  obtain⟨t0,t1,t2,t3,t4,t5⟩:=aG (Ab.heap X12.out O2.out)
  obtain⟨f0,f1,f2,f3,f4,f5⟩:=iE (Ab.heap X12.out O2.out)
  go_wp2_with fail
  (try simp only[Exit.inBlock,Exit.then])
  refine bodyPost_ret (v:=.tuple #[.agg #[.slice pB N cB,.slice up N uc,.slice qp N qc,.slice p0 M c0,.int .i64 sk1,.int .i64 st1],.int .i64 0]) ?_ rfl ?_
  ·exact dE results21 _ _ go _ _ (0,0) _ _ rfl rfl (row6 (Ab.heap X12.out O2.out)) underlying48 rfl (by kernel_rfl)
  ·have hg:=HG.out.2.1
   have k2:=HK.out.2.2
   have k3:=SZ1.out
   have k4:=HW.out
   have k5:=EU.out
   have k6:=EP.out
   refine⟨_,rfl,(((((A12.out.setk hg _).setk hg _).setk hg _).setk hg _).setk hg _).setk hg _,_,_,_,_,rfl,?_,?_,?_,?_,DB.out,DU.out⟩
   ·exact fA B12.out NO.out _ _ _ _ _ _
   ·exact jM (fA U12.out (dL U12.out (by omega)) _ _ _ _ _ _) (by omega)
   ·exact jM (fA P12.out (dL P12.out (by omega)) _ _ _ _ _ _) (by omega)
   ·exact jM (fA (OwnG.to S2.out X12.out) (dL S2.out (by omega)) _ _ _ _ _ _) (by omega)
end St
end
end Go.Proofs.YtmhnilnaffjhmaaGreatDoor
