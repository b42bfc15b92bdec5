/-
  Some of the texts of this proof, one behind the other.
-/
import Derived.Deep.RegionHeld3
import Derived.Test.YtlmfpikhlcnjjaaGreatDoorSk13
set_option maxRecDepth 100000
set_option maxHeartbeats 400000000
namespace Go.Proofs.YtlmfpikhlcnjjaaGreatDoor
open _root_.Go.Proofs.Tryz
section
open Go.RowKit Go.Deep Tf Cu
attribute [local go_sem] aF aG aI aJ aK aL aM aD
namespace Sv
theorem cP{P:Program}{fn:Func}{p q r:Tmp}{ty:TypeId}(h:fn.results= #[.tmp q,.cell p ty,.tmp r])(tmps:Array Value)(w:World)(g:Nat)(t:TypeId)(cs:Array Value)(fr:Nat × Nat)(d:TypeDesc)(v u:Value)
  (hp:tmps.getD p undef=.pointer (some ⟨g,0,none⟩)) (hq:tmps.getD q undef=v) (hr:tmps.getD r undef=u) (hg:w.heap[g]? =some (.cells cs t fr))
  (hu:P.underlying ty=some d) (hd:(match d with | .struct _ | .array _ _=>true | _=>false)=true) (hi:(P.info? ty).map (·.size)=some cs.size):
  (results fn tmps).run P w=.ok (.tuple #[v,.agg cs,u]) w:=by
 have hp':tmps[p]?.getD undef=.pointer (some ⟨g,0,none⟩):=by simpa using hp
 have hq':tmps[q]?.getD undef=v:=by simpa using hq
 have hr':tmps[r]?.getD undef=u:=by simpa using hr
 simp[results,h,hp',hq',hr',asAddr,run_loadVar_row w g t ty cs fr d hg hu hd hi]
theorem dD{V w:World}{d:Nat}{x0 x1 x2 x3 x4 x5:Value}(h:Ab V w)(hd:V.heap.size<=d):Ab V ((((((w.setCell ⟨d,0,none⟩ x0).setCell ⟨d,1,none⟩ x1).setCell ⟨d,2,none⟩ x2).setCell ⟨d,3,none⟩ x3).setCell ⟨d,4,none⟩ x4).setCell ⟨d,5,none⟩ x5):=(((((h.setk hd _).setk hd _).setk hd _).setk hd _).setk hd _).setk hd _
def SQ(w:World)(s d:Nat)(x0 x1 x2 x3:Value)(sky st:Int)(v:World):Prop:=
 Ab w v/\v.heap[s]? =some (.cells #[x0,x1,x2,x3,.int .i64 sky,.int .i64 st] 25)/\v.heap[d]? =some (.cells #[.slice none 0 0,.slice none 0 0,.slice none 0 0,.slice none 0 0,.int .i64 0,.int .i64 0] 25)/\w.heap.size<=s/\w.heap.size<=d/\s≠d
theorem SQ.to{w:World}{s d:Nat}{x0 x1 x2 x3:Value}{sky st:Int}{u v:World}(h:SQ w s d x0 x1 x2 x3 sky st u)(a:Ab u v):SQ w s d x0 x1 x2 x3 sky st v:=⟨h.1.trans a,a.heap h.2.1,a.heap h.2.2.1,h.2.2.2⟩
theorem SQ.set{w:World}{s d k:Nat}{x0 x1 x2 x3 y0 y1 y2 y3 x:Value}{sky st:Int}{u:World}(h:SQ w s d x0 x1 x2 x3 sky st u)(e:(#[x0,x1,x2,x3,.int .i64 sky,.int .i64 st]:Array Value).setIfInBounds k x= #[y0,y1,y2,y3,.int .i64 sky,.int .i64 st]):SQ w s d y0 y1 y2 y3 sky st (u.setCell ⟨s,k,none⟩ x):=by
 obtain⟨h1,h2,h3,h4,h5,h6⟩:=h
 exact⟨h1.setk h4 _,by rw[aN h2,e],(blk_setCell_other _ _ _ _ (Ne.symm h6)).trans h3,h4,h5,h6⟩
theorem rZ{w:World}{b d n:Nat}{f:Nat->Nat}{x0 x1 x2 x3 x4 x5:Value}(h:IsFl w (some ⟨b,0,none⟩) n f)(e:b≠d):IsFl ((((((w.setCell ⟨d,0,none⟩ x0).setCell ⟨d,1,none⟩ x1).setCell ⟨d,2,none⟩ x2).setCell ⟨d,3,none⟩ x3).setCell ⟨d,4,none⟩ x4).setCell ⟨d,5,none⟩ x5).drew (some ⟨b,0,none⟩) n f:=by
 have q: ∀c o,(some ⟨b,0,none⟩:Option Addr)=some ⟨c,o,none⟩->c≠d:=fun c o t=>by cases t;exact e
 exact(Spl.bF _ (Spl.bF _ (Spl.bF _ (Spl.bF _ (Spl.bF _ (Spl.bF _ h q) q) q) q) q) q).below (Ab.refl _).drew
theorem sA{w:World}{b d n:Nat}{f:Nat->Int}{x0 x1 x2 x3 x4 x5:Value}(h:Sh.IsI w (some ⟨b,0,none⟩) n f)(e:b≠d):Sh.IsI ((((((w.setCell ⟨d,0,none⟩ x0).setCell ⟨d,1,none⟩ x1).setCell ⟨d,2,none⟩ x2).setCell ⟨d,3,none⟩ x3).setCell ⟨d,4,none⟩ x4).setCell ⟨d,5,none⟩ x5).drew (some ⟨b,0,none⟩) n f:=by
 have q: ∀c o,(some ⟨b,0,none⟩:Option Addr)=some ⟨c,o,none⟩->c≠d:=fun c o t=>by cases t;exact e
 exact(Spl.bU _ (Spl.bU _ (Spl.bU _ (Spl.bU _ (Spl.bU _ (Spl.bU _ h q) q) q) q) q) q).below (Ab.refl _).drew
theorem aU{b s:Nat}(h:b≠s): ∀c o,(some ⟨b,0,none⟩:Option Addr)=some ⟨c,o,none⟩->c≠s:=fun c o e=>by
 cases e
 exact h
theorem rdec_a(p:Option Addr)(l c:Nat)(w:World)(h:l<21):Calls prog 9 #[.slice p l c] w fun e w'=>e=.returned (.tuple #[.int .i64 0,.agg #[.slice none 0 0,.slice none 0 0,.slice none 0 0,.slice none 0 0,.int .i64 0,.int .i64 0],.int .i64 31])/\Ab w w':=by
 obtain⟨A0,D0⟩:=aH w (.cells #[.slice none 0 0,.slice none 0 0,.slice none 0 0,.slice none 0 0,.int .i64 0,.int .i64 0] 25)
 go_enter func9,ntmps9
 go_upto_region 1 with fail
 generalize hV:World.alloc w _=v0 at*
 obtain⟨d,hd⟩:=aB w.heap.size
 have LD:Hid (w.heap.size<=d):=by show _<=_;omega
 rw[hd]at D0 ⊢
 clear hV hd
 have f0:=aC D0.out 0
 have c0:=aA 0 D0.out
 have f1:=aC D0.out 1
 have c1:=aA 1 D0.out
 have f2:=aC D0.out 2
 have c2:=aA 2 D0.out
 have f3:=aC D0.out 3
 have c3:=aA 3 D0.out
 have f4:=aC D0.out 4
 have c4:=aA 4 D0.out
 have f5:=aC D0.out 5
 have c5:=aA 5 D0.out
 go_wp2_with fail
 (try simp only[Exit.inBlock,Exit.then])
 refine bodyPost_ret (v:=.tuple #[.int .i64 0,.agg #[.slice none 0 0,.slice none 0 0,.slice none 0 0,.slice none 0 0,.int .i64 0,.int .i64 0],.int .i64 31]) ?_ rfl ?_
 ·exact cP results9 _ _ d _ _ (0,0) _ _ _ rfl rfl rfl (gZ D0.out) underlying25 rfl (by kernel_rfl)
 ·exact⟨rfl,dD A0.out LD.out⟩
theorem rdec_b1(g o l c:Nat)(F:Nat->Nat)(w:World)(hl:l<=c/\c<=281474976710656)(h21:21<=l)(hF:Ti.IsW .u8 256 w (some ⟨g,o,none⟩) l F)(hm:decide (F 0=84/\F 1=65/\F 2=82/\F 3=78)=false):Calls prog 9 #[.slice (some ⟨g,o,none⟩) l c] w fun e w'=>e=.returned (.tuple #[.int .i64 0,.agg #[.slice none 0 0,.slice none 0 0,.slice none 0 0,.slice none 0 0,.int .i64 0,.int .i64 0],.int .i64 30])/\Ab w w':=by
 have HF:=hid hF
 have HL:=hid (show l<=c/\c<=281474976710656/\21<=l from⟨hl.1,hl.2,h21⟩)
 have MK:=bK (fun i hi=>hF.lt i (by omega)) false hm
 have l0: ¬l<21:=by omega
 have l1:(4:Int)<(l:Int):=by omega
 have l2:4<=c:=by omega
 have l3:(4:Int)<=(c:Int):=by omega
 obtain⟨sd,hsd⟩:=aB (F 4)
 have s0:(0:Int)<=(sd:Int):=by omega
 have s1:(sd:Int)<256:=by have:=hF.lt 4 (by omega);omega
 have SD:=hid hsd
 clear hF hl h21 hm hsd
 obtain⟨A0,D0⟩:=aH w (.cells #[.slice none 0 0,.slice none 0 0,.slice none 0 0,.slice none 0 0,.int .i64 0,.int .i64 0] 25)
 go_enter func9,ntmps9
 go_upto_region 1 with fail
 generalize hV:World.alloc w _=v0 at*
 obtain⟨d,hd⟩:=aB w.heap.size
 have LD:Hid (w.heap.size<=d):=by show _<=_;omega
 rw[hd]at D0 ⊢
 clear hV hd
 have z4:v0.cell? ⟨g,o+4,none⟩=some (.int .u8 ((sd:Nat):Int)):=by
  have q:=((HF.out.below A0.out).at0 (k:=4) (by have:=HL.out;omega)).2.2
  rw[SD.out]at q
  exact q
 have CV:(convert 27 9 (.slice (some ⟨g,o,none⟩) 4 c)).run prog v0=.ok (.string (Ti.str F 4)) v0:=Ti.bX underlying27 underlying5 underlying9 (by
  have q:=(HF.out.below A0.out).part 0 4 (by have:=HL.out;omega)
  simpa using q) (fun e=>by cases e)
 have f0:=aC D0.out 0
 have c0:=aA 0 D0.out
 have f1:=aC D0.out 1
 have c1:=aA 1 D0.out
 have f2:=aC D0.out 2
 have c2:=aA 2 D0.out
 have f3:=aC D0.out 3
 have c3:=aA 3 D0.out
 have f4:=aC D0.out 4
 have c4:=aA 4 D0.out
 have f5:=aC D0.out 5
 have c5:=aA 5 D0.out
 go_wp2_with fail
 (try simp only[Exit.inBlock,Exit.then])
 refine bodyPost_ret (v:=.tuple #[.int .i64 0,.agg #[.slice none 0 0,.slice none 0 0,.slice none 0 0,.slice none 0 0,.int .i64 0,.int .i64 0],.int .i64 30]) ?_ rfl ?_
 ·exact cP results9 _ _ d _ _ (0,0) _ _ _ rfl rfl rfl (gZ D0.out) underlying25 rfl (by kernel_rfl)
 ·exact⟨rfl,dD A0.out LD.out⟩
theorem rdec_b2(g o l c:Nat)(F:Nat->Nat)(w:World)(hl:l<=c/\c<=281474976710656)(h21:21<=l)(hF:Ti.IsW .u8 256 w (some ⟨g,o,none⟩) l F)(hm:decide (F 0=84/\F 1=65/\F 2=82/\F 3=78)=true)(hb: ¬(1<=F 4/\F 4<=32)):Calls prog 9 #[.slice (some ⟨g,o,none⟩) l c] w fun e w'=>e=.returned (.tuple #[.int .i64 0,.agg #[.slice none 0 0,.slice none 0 0,.slice none 0 0,.slice none 0 0,.int .i64 0,.int .i64 0],.int .i64 30])/\Ab w w':=by
 have HF:=hid hF
 have HL:=hid (show l<=c/\c<=281474976710656/\21<=l from⟨hl.1,hl.2,h21⟩)
 have MK:=bK (fun i hi=>hF.lt i (by omega)) true hm
 have l0: ¬l<21:=by omega
 have l1:(4:Int)<(l:Int):=by omega
 have l2:4<=c:=by omega
 have l3:(4:Int)<=(c:Int):=by omega
 obtain⟨sd,hsd⟩:=aB (F 4)
 have s0:(0:Int)<=(sd:Int):=by omega
 have s1:(sd:Int)<256:=by have:=hF.lt 4 (by omega);omega
 have SD:=hid hsd
 rw[hsd]at hb
 have BD:Hid (sd=0\/32<sd):=by show _\/_;omega
 clear hF hl h21 hm hsd hb
 obtain⟨A0,D0⟩:=aH w (.cells #[.slice none 0 0,.slice none 0 0,.slice none 0 0,.slice none 0 0,.int .i64 0,.int .i64 0] 25)
 go_enter func9,ntmps9
 go_upto_region 1 with fail
 generalize hV:World.alloc w _=v0 at*
 obtain⟨d,hd⟩:=aB w.heap.size
 have LD:Hid (w.heap.size<=d):=by show _<=_;omega
 rw[hd]at D0 ⊢
 clear hV hd
 have z4:v0.cell? ⟨g,o+4,none⟩=some (.int .u8 ((sd:Nat):Int)):=by
  have q:=((HF.out.below A0.out).at0 (k:=4) (by have:=HL.out;omega)).2.2
  rw[SD.out]at q
  exact q
 have CV:(convert 27 9 (.slice (some ⟨g,o,none⟩) 4 c)).run prog v0=.ok (.string (Ti.str F 4)) v0:=Ti.bX underlying27 underlying5 underlying9 (by
  have q:=(HF.out.below A0.out).part 0 4 (by have:=HL.out;omega)
  simpa using q) (fun e=>by cases e)
 have f0:=aC D0.out 0
 have c0:=aA 0 D0.out
 have f1:=aC D0.out 1
 have c1:=aA 1 D0.out
 have f2:=aC D0.out 2
 have c2:=aA 2 D0.out
 have f3:=aC D0.out 3
 have c3:=aA 3 D0.out
 have f4:=aC D0.out 4
 have c4:=aA 4 D0.out
 have f5:=aC D0.out 5
 have c5:=aA 5 D0.out
 rcases BD.out with q | q
 ·have w1:(sd:Int)<1:=by omega
  go_wp2_with fail
  (try simp only[Exit.inBlock,Exit.then])
  refine bodyPost_ret (v:=.tuple #[.int .i64 0,.agg #[.slice none 0 0,.slice none 0 0,.slice none 0 0,.slice none 0 0,.int .i64 0,.int .i64 0],.int .i64 30]) ?_ rfl ?_
  ·exact cP results9 _ _ d _ _ (0,0) _ _ _ rfl rfl rfl (gZ D0.out) underlying25 rfl (by kernel_rfl)
  ·exact⟨rfl,dD A0.out LD.out⟩
 ·have w1: ¬((sd:Int)<1):=by omega
  have w2:(32:Int)<(sd:Int):=by omega
  go_wp2_with fail
  (try simp only[Exit.inBlock,Exit.then])
  refine bodyPost_ret (v:=.tuple #[.int .i64 0,.agg #[.slice none 0 0,.slice none 0 0,.slice none 0 0,.slice none 0 0,.int .i64 0,.int .i64 0],.int .i64 30]) ?_ rfl ?_
  ·exact cP results9 _ _ d _ _ (0,0) _ _ _ rfl rfl rfl (gZ D0.out) underlying25 rfl (by kernel_rfl)
  ·exact⟨rfl,dD A0.out LD.out⟩
theorem rdec_c(g o l c:Nat)(F:Nat->Nat)(w:World)(hl:l<=c/\c<=281474976710656)(h21:21<=l)(hF:Ti.IsW .u8 256 w (some ⟨g,o,none⟩) l F)(hm:decide (F 0=84/\F 1=65/\F 2=82/\F 3=78)=true)(n N:Nat)(h4:F 4=n)(hn:1<=n/\n<=32)(hN:6*n*n=N)(hx:l<29+40*N):Calls prog 9 #[.slice (some ⟨g,o,none⟩) l c] w fun e w'=>e=.returned (.tuple #[.int .i64 0,.agg #[.slice none 0 0,.slice none 0 0,.slice none 0 0,.slice none 0 0,.int .i64 0,.int .i64 0],.int .i64 31])/\Ab w w':=by
 have HF:=hid hF
 have HL:=hid (show l<=c/\c<=281474976710656/\21<=l from⟨hl.1,hl.2,h21⟩)
 have MK:=bK (fun i hi=>hF.lt i (by omega)) true hm
 have l0: ¬l<21:=by omega
 have l1:(4:Int)<(l:Int):=by omega
 have l2:4<=c:=by omega
 have l3:(4:Int)<=(c:Int):=by omega
 obtain⟨sd,hsd⟩:=aB (F 4)
 have s0:(0:Int)<=(sd:Int):=by omega
 have s1:(sd:Int)<256:=by have:=hF.lt 4 (by omega);omega
 have SD:=hid hsd
 have en:sd=n:=by omega
 subst en
 have w1: ¬((sd:Int)<1):=by omega
 have w2: ¬((32:Int)<(sd:Int)):=by omega
 have NE:Hid (1<=N/\N<=6144):=by
  have q5:N<=192*32:=by rw[<- hN];exact Nat.mul_le_mul (by omega) (by omega)
  have q6:6*1*1<=N:=by rw[<- hN];exact Nat.mul_le_mul (Nat.mul_le_mul (Nat.le_refl 6) hn.1) hn.1
  exact⟨by omega,by omega⟩
 obtain⟨m,hm1⟩:=aB (6*sd)
 have q1:6*(sd:Int)=(m:Int):=by omega
 have q2:(m:Int)*(sd:Int)=(N:Int):=by rw[<- hN,hm1];exact(Int.natCast_mul _ _).symm
 obtain⟨b,hb1⟩:=aB (40*N)
 have q3:40*(N:Int)=(b:Int):=by omega
 obtain⟨k,hk1⟩:=aB (21+b)
 have q4:21+(b:Int)=(k:Int):=by omega
 obtain⟨A,hA1⟩:=aB (k+8)
 have q5:(k:Int)+8=(A:Int):=by omega
 have q6:(A:Int) - 8=(k:Int):=by omega
 have b1:(m:Int)<=192:=by omega
 have b2:(N:Int)<=6144:=by have:=NE.out;omega
 have b3:(b:Int)<=245760:=by have:=NE.out;omega
 have b4:(A:Int)<=245789:=by have:=NE.out;omega
 have HK:=hid (show 21+40*N=k/\k+8=A/\sd<=32/\1<=sd from⟨by omega,hA1,by omega,by omega⟩)
 have x1:(l:Int)<(A:Int):=by omega
 clear hF hl h21 hm hsd hm1 hb1 hk1 hA1 h4 hn hN hx
 obtain⟨A0,D0⟩:=aH w (.cells #[.slice none 0 0,.slice none 0 0,.slice none 0 0,.slice none 0 0,.int .i64 0,.int .i64 0] 25)
 go_enter func9,ntmps9
 go_upto_region 1 with fail
 generalize hV:World.alloc w _=v0 at*
 obtain⟨d,hd⟩:=aB w.heap.size
 have LD:Hid (w.heap.size<=d):=by show _<=_;omega
 rw[hd]at D0 ⊢
 clear hV hd
 have z4:v0.cell? ⟨g,o+4,none⟩=some (.int .u8 ((sd:Nat):Int)):=by
  have q:=((HF.out.below A0.out).at0 (k:=4) (by have:=HL.out;omega)).2.2
  rw[SD.out]at q
  exact q
 have CV:(convert 27 9 (.slice (some ⟨g,o,none⟩) 4 c)).run prog v0=.ok (.string (Ti.str F 4)) v0:=Ti.bX underlying27 underlying5 underlying9 (by
  have q:=(HF.out.below A0.out).part 0 4 (by have:=HL.out;omega)
  simpa using q) (fun e=>by cases e)
 have f0:=aC D0.out 0
 have c0:=aA 0 D0.out
 have f1:=aC D0.out 1
 have c1:=aA 1 D0.out
 have f2:=aC D0.out 2
 have c2:=aA 2 D0.out
 have f3:=aC D0.out 3
 have c3:=aA 3 D0.out
 have f4:=aC D0.out 4
 have c4:=aA 4 D0.out
 have f5:=aC D0.out 5
 have c5:=aA 5 D0.out
 go_wp2_with fail
 (try simp only[Exit.inBlock,Exit.then])
 refine bodyPost_ret (v:=.tuple #[.int .i64 0,.agg #[.slice none 0 0,.slice none 0 0,.slice none 0 0,.slice none 0 0,.int .i64 0,.int .i64 0],.int .i64 31]) ?_ rfl ?_
 ·exact cP results9 _ _ d _ _ (0,0) _ _ _ rfl rfl rfl (gZ D0.out) underlying25 rfl (by kernel_rfl)
 ·exact⟨rfl,dD A0.out LD.out⟩
theorem rdec_d(g o l c:Nat)(F:Nat->Nat)(w:World)(hl:l<=c/\c<=281474976710656)(h21:21<=l)(hF:Ti.IsW .u8 256 w (some ⟨g,o,none⟩) l F)(hm:decide (F 0=84/\F 1=65/\F 2=82/\F 3=78)=true)(n N:Nat)(h4:F 4=n)(hn:1<=n/\n<=32)(hN:6*n*n=N)(hx:29+40*N<l):Calls prog 9 #[.slice (some ⟨g,o,none⟩) l c] w fun e w'=>e=.returned (.tuple #[.int .i64 0,.agg #[.slice none 0 0,.slice none 0 0,.slice none 0 0,.slice none 0 0,.int .i64 0,.int .i64 0],.int .i64 30])/\Ab w w':=by
 have HF:=hid hF
 have HL:=hid (show l<=c/\c<=281474976710656/\21<=l from⟨hl.1,hl.2,h21⟩)
 have MK:=bK (fun i hi=>hF.lt i (by omega)) true hm
 have l0: ¬l<21:=by omega
 have l1:(4:Int)<(l:Int):=by omega
 have l2:4<=c:=by omega
 have l3:(4:Int)<=(c:Int):=by omega
 obtain⟨sd,hsd⟩:=aB (F 4)
 have s0:(0:Int)<=(sd:Int):=by omega
 have s1:(sd:Int)<256:=by have:=hF.lt 4 (by omega);omega
 have SD:=hid hsd
 have en:sd=n:=by omega
 subst en
 have w1: ¬((sd:Int)<1):=by omega
 have w2: ¬((32:Int)<(sd:Int)):=by omega
 have NE:Hid (1<=N/\N<=6144):=by
  have q5:N<=192*32:=by rw[<- hN];exact Nat.mul_le_mul (by omega) (by omega)
  have q6:6*1*1<=N:=by rw[<- hN];exact Nat.mul_le_mul (Nat.mul_le_mul (Nat.le_refl 6) hn.1) hn.1
  exact⟨by omega,by omega⟩
 obtain⟨m,hm1⟩:=aB (6*sd)
 have q1:6*(sd:Int)=(m:Int):=by omega
 have q2:(m:Int)*(sd:Int)=(N:Int):=by rw[<- hN,hm1];exact(Int.natCast_mul _ _).symm
 obtain⟨b,hb1⟩:=aB (40*N)
 have q3:40*(N:Int)=(b:Int):=by omega
 obtain⟨k,hk1⟩:=aB (21+b)
 have q4:21+(b:Int)=(k:Int):=by omega
 obtain⟨A,hA1⟩:=aB (k+8)
 have q5:(k:Int)+8=(A:Int):=by omega
 have q6:(A:Int) - 8=(k:Int):=by omega
 have b1:(m:Int)<=192:=by omega
 have b2:(N:Int)<=6144:=by have:=NE.out;omega
 have b3:(b:Int)<=245760:=by have:=NE.out;omega
 have b4:(A:Int)<=245789:=by have:=NE.out;omega
 have HK:=hid (show 21+40*N=k/\k+8=A/\sd<=32/\1<=sd from⟨by omega,hA1,by omega,by omega⟩)
 have x1: ¬((l:Int)<(A:Int)):=by omega
 have x2:(A:Int)<(l:Int):=by omega
 clear hF hl h21 hm hsd hm1 hb1 hk1 hA1 h4 hn hN hx
 obtain⟨A0,D0⟩:=aH w (.cells #[.slice none 0 0,.slice none 0 0,.slice none 0 0,.slice none 0 0,.int .i64 0,.int .i64 0] 25)
 go_enter func9,ntmps9
 go_upto_region 1 with fail
 generalize hV:World.alloc w _=v0 at*
 obtain⟨d,hd⟩:=aB w.heap.size
 have LD:Hid (w.heap.size<=d):=by show _<=_;omega
 rw[hd]at D0 ⊢
 clear hV hd
 have z4:v0.cell? ⟨g,o+4,none⟩=some (.int .u8 ((sd:Nat):Int)):=by
  have q:=((HF.out.below A0.out).at0 (k:=4) (by have:=HL.out;omega)).2.2
  rw[SD.out]at q
  exact q
 have CV:(convert 27 9 (.slice (some ⟨g,o,none⟩) 4 c)).run prog v0=.ok (.string (Ti.str F 4)) v0:=Ti.bX underlying27 underlying5 underlying9 (by
  have q:=(HF.out.below A0.out).part 0 4 (by have:=HL.out;omega)
  simpa using q) (fun e=>by cases e)
 have f0:=aC D0.out 0
 have c0:=aA 0 D0.out
 have f1:=aC D0.out 1
 have c1:=aA 1 D0.out
 have f2:=aC D0.out 2
 have c2:=aA 2 D0.out
 have f3:=aC D0.out 3
 have c3:=aA 3 D0.out
 have f4:=aC D0.out 4
 have c4:=aA 4 D0.out
 have f5:=aC D0.out 5
 have c5:=aA 5 D0.out
 go_wp2_with fail
 (try simp only[Exit.inBlock,Exit.then])
 refine bodyPost_ret (v:=.tuple #[.int .i64 0,.agg #[.slice none 0 0,.slice none 0 0,.slice none 0 0,.slice none 0 0,.int .i64 0,.int .i64 0],.int .i64 30]) ?_ rfl ?_
 ·exact cP results9 _ _ d _ _ (0,0) _ _ _ rfl rfl rfl (gZ D0.out) underlying25 rfl (by kernel_rfl)
 ·exact⟨rfl,dD A0.out LD.out⟩
theorem rdec_e(g o l c:Nat)(F:Nat->Nat)(w:World)(hl:l<=c/\c<=281474976710656)(h21:21<=l)(hF:Ti.IsW .u8 256 w (some ⟨g,o,none⟩) l F)(hm:decide (F 0=84/\F 1=65/\F 2=82/\F 3=78)=true)(n N:Nat)(h4:F 4=n)(hn:1<=n/\n<=32)(hN:6*n*n=N)(hx:29+40*N=l)(hs:num F (21+40*N)≠smN F (21+40*N)):Calls prog 9 #[.slice (some ⟨g,o,none⟩) l c] w fun e w'=>e=.returned (.tuple #[.int .i64 0,.agg #[.slice none 0 0,.slice none 0 0,.slice none 0 0,.slice none 0 0,.int .i64 0,.int .i64 0],.int .i64 32])/\Ab w w':=by
 have HF:=hid hF
 have HL:=hid (show l<=c/\c<=281474976710656/\21<=l from⟨hl.1,hl.2,h21⟩)
 have MK:=bK (fun i hi=>hF.lt i (by omega)) true hm
 have l0: ¬l<21:=by omega
 have l1:(4:Int)<(l:Int):=by omega
 have l2:4<=c:=by omega
 have l3:(4:Int)<=(c:Int):=by omega
 obtain⟨sd,hsd⟩:=aB (F 4)
 have s0:(0:Int)<=(sd:Int):=by omega
 have s1:(sd:Int)<256:=by have:=hF.lt 4 (by omega);omega
 have SD:=hid hsd
 have en:sd=n:=by omega
 subst en
 have w1: ¬((sd:Int)<1):=by omega
 have w2: ¬((32:Int)<(sd:Int)):=by omega
 have NE:Hid (1<=N/\N<=6144):=by
  have q5:N<=192*32:=by rw[<- hN];exact Nat.mul_le_mul (by omega) (by omega)
  have q6:6*1*1<=N:=by rw[<- hN];exact Nat.mul_le_mul (Nat.mul_le_mul (Nat.le_refl 6) hn.1) hn.1
  exact⟨by omega,by omega⟩
 obtain⟨m,hm1⟩:=aB (6*sd)
 have q1:6*(sd:Int)=(m:Int):=by omega
 have q2:(m:Int)*(sd:Int)=(N:Int):=by rw[<- hN,hm1];exact(Int.natCast_mul _ _).symm
 obtain⟨b,hb1⟩:=aB (40*N)
 have q3:40*(N:Int)=(b:Int):=by omega
 obtain⟨k,hk1⟩:=aB (21+b)
 have q4:21+(b:Int)=(k:Int):=by omega
 obtain⟨A,hA1⟩:=aB (k+8)
 have q5:(k:Int)+8=(A:Int):=by omega
 have q6:(A:Int) - 8=(k:Int):=by omega
 have b1:(m:Int)<=192:=by omega
 have b2:(N:Int)<=6144:=by have:=NE.out;omega
 have b3:(b:Int)<=245760:=by have:=NE.out;omega
 have b4:(A:Int)<=245789:=by have:=NE.out;omega
 have HK:=hid (show 21+40*N=k/\k+8=A/\sd<=32/\1<=sd from⟨by omega,hA1,by omega,by omega⟩)
 have EA:A=l:=by omega
 have x1: ¬((l:Int)<(A:Int)):=by omega
 have x2: ¬((A:Int)<(l:Int)):=by omega
 have k1:(0:Int)<=(k:Int):=by omega
 have k2:(k:Int)<=(c:Int):=by omega
 have k3:k<=c:=by omega
 have CN:=hid (fun v (a:Ab w v)=>cO g o l c k F v (by omega) (by omega) (hF.below a))
 have CS:=hid (fun v (a:Ab w v)=>gL (some ⟨g,o,none⟩) k c F v (by omega) (fun i hi=>(hF.below a) i (by omega)))
 obtain⟨x,hx1⟩:=aB (num F k)
 obtain⟨y,hy1⟩:=aB (smN F k)
 rw[hx1]at CN
 rw[hy1]at CS
 have HK0:21+40*N=k:=HK.out.1
 rw[HK0,hx1,hy1]at hs
 have ne:((x:Int) != (y:Int))=true:=by simp;omega
 clear hF hl h21 hm hsd hm1 hb1 hk1 hA1 h4 hn hN hx hx1 hy1 hs HK0 EA
 obtain⟨A0,D0⟩:=aH w (.cells #[.slice none 0 0,.slice none 0 0,.slice none 0 0,.slice none 0 0,.int .i64 0,.int .i64 0] 25)
 go_enter func9,ntmps9
 go_upto_region 1 with fail
 generalize hV:World.alloc w _=v0 at*
 obtain⟨d,hd⟩:=aB w.heap.size
 have LD:Hid (w.heap.size<=d):=by show _<=_;omega
 rw[hd]at D0 ⊢
 clear hV hd
 have z4:v0.cell? ⟨g,o+4,none⟩=some (.int .u8 ((sd:Nat):Int)):=by
  have q:=((HF.out.below A0.out).at0 (k:=4) (by have:=HL.out;omega)).2.2
  rw[SD.out]at q
  exact q
 have CV:(convert 27 9 (.slice (some ⟨g,o,none⟩) 4 c)).run prog v0=.ok (.string (Ti.str F 4)) v0:=Ti.bX underlying27 underlying5 underlying9 (by
  have q:=(HF.out.below A0.out).part 0 4 (by have:=HL.out;omega)
  simpa using q) (fun e=>by cases e)
 go_upto_region 12 with fail
 clear CV z4 MK
 have CN0:=hid (fun v (a:Ab v0 v)=>(CN.out v (A0.out.trans a)).mono (fun e w' ⟨h1,h2⟩=>(⟨h1,by rw[h2];exact Below.refl _ _⟩:e=Ending.returned (.int .u64 ((x:Nat):Int))/\Below v.heap.size v w')))
 have CS0:=hid (fun v (a:Ab v0 v)=>(CS.out v (A0.out.trans a)).mono (fun e w' ⟨h1,h2⟩=>(⟨h1,by rw[h2];exact Below.refl _ _⟩:e=Ending.returned (.int .u64 ((y:Nat):Int))/\Below v.heap.size v w')))
 clear CN CS
 obtain⟨UU,E,hF1,hF2⟩:=cls v0
 have HU:=hid hF2
 have HU1:=hid hF1
 have DD0:=HU.out _ (Ab.refl v0).drew
 clear hF1 hF2
 refine aR E (by kernel_rfl) (by kernel_rfl) DD0 ?_
 repeat(go_big_quiet_step (first
  | (with_reducible rfl)
  | (go_at_call 29;exact aP HU HU1 (CN0.out _ (HU1.out _)))
  | (go_at_call 12;exact aP HU HU1 (CS0.out _ (HU1.out _)))))
 refine wpQuiet_nil ?_
 intro v1 hwz
 obtain⟨uz,hu⟩:=hwz
 have AZ:Hid (Ab v0 v1):=by rw[hu];exact HU1.out uz
 clear hu uz
 clear HU HU1 DD0
 clear E UU
 have A1:Hid (Ab w v1):=A0.out.trans AZ.out
 have D1:=hid (AZ.out.heap D0.out)
 clear CN0 CS0 A0 D0 AZ
 have f0:=aC D1.out 0
 have c0:=aA 0 D1.out
 have f1:=aC D1.out 1
 have c1:=aA 1 D1.out
 have f2:=aC D1.out 2
 have c2:=aA 2 D1.out
 have f3:=aC D1.out 3
 have c3:=aA 3 D1.out
 have f4:=aC D1.out 4
 have c4:=aA 4 D1.out
 have f5:=aC D1.out 5
 have c5:=aA 5 D1.out
 go_wp2_with fail
 (try simp only[Exit.inBlock,Exit.then])
 refine bodyPost_ret (v:=.tuple #[.int .i64 0,.agg #[.slice none 0 0,.slice none 0 0,.slice none 0 0,.slice none 0 0,.int .i64 0,.int .i64 0],.int .i64 32]) ?_ rfl ?_
 ·exact cP results9 _ _ d _ _ (0,0) _ _ _ rfl rfl rfl (gZ D1.out) underlying25 rfl (by kernel_rfl)
 ·exact⟨rfl,dD A1.out LD.out⟩
theorem rdec_chk(g o l c:Nat)(F:Nat->Nat)(w:World)(hl:l<=c/\c<=281474976710656)(h21:21<=l)(hF:Ti.IsW .u8 256 w (some ⟨g,o,none⟩) l F)(hm:decide (F 0=84/\F 1=65/\F 2=82/\F 3=78)=true)(n N:Nat)(h4:F 4=n)(hn:1<=n/\n<=32)(hN:6*n*n=N)(M:Nat)(hM:2*N=M)(hx:29+40*N=l)(hs:num F (21+40*N)=smN F (21+40*N))(x9:Int)(hc:(Ss.chk (n:Nat) N N N M (fun i=>num F (21+8*i)) (fun i=>i64 (num F (21+8*N+8*i))) (fun i=>i64 (num F (21+16*N+8*i))) (fun i=>num F (21+24*N+8*i)) (i64 (num F 13)) (i64 (num F 5))).2=x9)(h0:x9≠0):Calls prog 9 #[.slice (some ⟨g,o,none⟩) l c] w fun e w'=>e=.returned (.tuple #[.int .i64 0,.agg #[.slice none 0 0,.slice none 0 0,.slice none 0 0,.slice none 0 0,.int .i64 0,.int .i64 0],.int .i64 x9])/\Ab w w':=by
 have MN:=hid (show 2*N=M/\29+40*N=l from⟨hM,hx⟩)
 have q7:2*(N:Int)=(M:Int):=by omega
 have N5:=hid (fun v (a:Ab w v)=>cO g o l c 5 F v (by omega) (by omega) (hF.below a))
 have N13:=hid (fun v (a:Ab w v)=>cO g o l c 13 F v (by omega) (by omega) (hF.below a))
 have e5:=wrap_i64 (numl (F:=F) (o:=5) (fun i hi=>(hF.at0 (k:=5+i) (by omega)).1))
 have e13:=wrap_i64 (numl (F:=F) (o:=13) (fun i hi=>(hF.at0 (k:=13+i) (by omega)).1))
 obtain⟨sk,hsk⟩:=aB (i64 (num F 13))
 obtain⟨st,hst⟩:=aB (i64 (num F 5))
 have HX:=hid (show i64 (num F 13)=sk/\i64 (num F 5)=st from⟨hsk,hst⟩)
 have HCC:=hid hc
 rw[hsk,hst]at HCC
 rw[hsk]at e13
 rw[hst]at e5
 obtain⟨w5,hw5⟩:=aB (num F 5)
 obtain⟨w13,hw13⟩:=aB (num F 13)
 rw[hw5]at N5 e5
 rw[hw13]at N13 e13
 have e5b:wrap64 (w5:Int)=st:=by rw[<- e5];simp[wrap64,IntKind.wrap_i64]
 have e13b:wrap64 (w13:Int)=sk:=by rw[<- e13];simp[wrap64,IntKind.wrap_i64]
 have NLL:=hid (fun q (hq:q+8<=l)=>numl (F:=F) (o:=q) (fun i hi=>(hF.at0 (k:=q+i) (by omega)).1))
 have H9:=hid h0
 have HF:=hid hF
 have HL:=hid (show l<=c/\c<=281474976710656/\21<=l from⟨hl.1,hl.2,h21⟩)
 have MK:=bK (fun i hi=>hF.lt i (by omega)) true hm
 have l0: ¬l<21:=by omega
 have l1:(4:Int)<(l:Int):=by omega
 have l2:4<=c:=by omega
 have l3:(4:Int)<=(c:Int):=by omega
 obtain⟨sd,hsd⟩:=aB (F 4)
 have s0:(0:Int)<=(sd:Int):=by omega
 have s1:(sd:Int)<256:=by have:=hF.lt 4 (by omega);omega
 have SD:=hid hsd
 have en:sd=n:=by omega
 subst en
 have w1: ¬((sd:Int)<1):=by omega
 have w2: ¬((32:Int)<(sd:Int)):=by omega
 have NE:Hid (1<=N/\N<=6144):=by
  have q5:N<=192*32:=by rw[<- hN];exact Nat.mul_le_mul (by omega) (by omega)
  have q6:6*1*1<=N:=by rw[<- hN];exact Nat.mul_le_mul (Nat.mul_le_mul (Nat.le_refl 6) hn.1) hn.1
  exact⟨by omega,by omega⟩
 obtain⟨m,hm1⟩:=aB (6*sd)
 have q1:6*(sd:Int)=(m:Int):=by omega
 have q2:(m:Int)*(sd:Int)=(N:Int):=by rw[<- hN,hm1];exact(Int.natCast_mul _ _).symm
 obtain⟨b,hb1⟩:=aB (40*N)
 have q3:40*(N:Int)=(b:Int):=by omega
 obtain⟨k,hk1⟩:=aB (21+b)
 have q4:21+(b:Int)=(k:Int):=by omega
 obtain⟨A,hA1⟩:=aB (k+8)
 have q5:(k:Int)+8=(A:Int):=by omega
 have q6:(A:Int) - 8=(k:Int):=by omega
 have b1:(m:Int)<=192:=by omega
 have b2:(N:Int)<=6144:=by have:=NE.out;omega
 have b3:(b:Int)<=245760:=by have:=NE.out;omega
 have b4:(A:Int)<=245789:=by have:=NE.out;omega
 have HK:=hid (show 21+40*N=k/\k+8=A/\sd<=32/\1<=sd from⟨by omega,hA1,by omega,by omega⟩)
 have EA:A=l:=by omega
 have x1: ¬((l:Int)<(A:Int)):=by omega
 have x2: ¬((A:Int)<(l:Int)):=by omega
 have k1:(0:Int)<=(k:Int):=by omega
 have k2:(k:Int)<=(c:Int):=by omega
 have k3:k<=c:=by omega
 have CN:=hid (fun v (a:Ab w v)=>cO g o l c k F v (by omega) (by omega) (hF.below a))
 have CS:=hid (fun v (a:Ab w v)=>gL (some ⟨g,o,none⟩) k c F v (by omega) (fun i hi=>(hF.below a) i (by omega)))
 obtain⟨x,hx1⟩:=aB (num F k)
 obtain⟨y,hy1⟩:=aB (smN F k)
 rw[hx1]at CN
 rw[hy1]at CS
 have HK0:21+40*N=k:=HK.out.1
 rw[HK0,hx1,hy1]at hs
 have ne:((x:Int) != (y:Int))=false:=by simp;omega
 obtain⟨p1,hp1⟩:=aB (21+8*N)
 obtain⟨p2,hp2⟩:=aB (21+16*N)
 obtain⟨p3,hp3⟩:=aB (21+24*N)
 have PP:=hid (show 21+8*N=p1/\21+16*N=p2/\21+24*N=p3 from⟨hp1,hp2,hp3⟩)
 obtain⟨y1,hy1b⟩:=aB (8*N)
 obtain⟨y2,hy2b⟩:=aB (16*N)
 obtain⟨y3,hy3b⟩:=aB (24*N)
 have m1:8*(N:Int)=(y1:Int):=by omega
 have m2:16*(N:Int)=(y2:Int):=by omega
 have m3:24*(N:Int)=(y3:Int):=by omega
 have m4:21+(y1:Int)=(p1:Int):=by omega
 have m5:21+(y2:Int)=(p2:Int):=by omega
 have m6:21+(y3:Int)=(p3:Int):=by omega
 have m7:(y3:Int)<=147456:=by have:=NE.out;omega
 have m8:(y2:Int)<=98304:=by have:=NE.out;omega
 have m9:(y1:Int)<=49152:=by have:=NE.out;omega
 have ma:(M:Int)<=12288:=by have:=NE.out;omega
 clear hF hl h21 hm hsd hm1 hb1 hk1 hA1 h4 hn hN hx hx1 hy1 hs HK0 EA hsk hst hw5 hw13 hp1 hp2 hp3 hy1b hy2b hy3b hM hc h0
 obtain⟨A0,D0⟩:=aH w (.cells #[.slice none 0 0,.slice none 0 0,.slice none 0 0,.slice none 0 0,.int .i64 0,.int .i64 0] 25)
 go_enter func9,ntmps9
 go_upto_region 1 with fail
 generalize hV:World.alloc w _=v0 at*
 obtain⟨d,hd⟩:=aB w.heap.size
 have LD:Hid (w.heap.size<=d):=by show _<=_;omega
 rw[hd]at D0 ⊢
 clear hV hd
 have z4:v0.cell? ⟨g,o+4,none⟩=some (.int .u8 ((sd:Nat):Int)):=by
  have q:=((HF.out.below A0.out).at0 (k:=4) (by have:=HL.out;omega)).2.2
  rw[SD.out]at q
  exact q
 have CV:(convert 27 9 (.slice (some ⟨g,o,none⟩) 4 c)).run prog v0=.ok (.string (Ti.str F 4)) v0:=Ti.bX underlying27 underlying5 underlying9 (by
  have q:=(HF.out.below A0.out).part 0 4 (by have:=HL.out;omega)
  simpa using q) (fun e=>by cases e)
 go_upto_region 12 with fail
 clear CV z4 MK
 have CN0:=hid (fun v (a:Ab v0 v)=>(CN.out v (A0.out.trans a)).mono (fun e w' ⟨h1,h2⟩=>(⟨h1,by rw[h2];exact Below.refl _ _⟩:e=Ending.returned (.int .u64 ((x:Nat):Int))/\Below v.heap.size v w')))
 have CS0:=hid (fun v (a:Ab v0 v)=>(CS.out v (A0.out.trans a)).mono (fun e w' ⟨h1,h2⟩=>(⟨h1,by rw[h2];exact Below.refl _ _⟩:e=Ending.returned (.int .u64 ((y:Nat):Int))/\Below v.heap.size v w')))
 clear CN CS
 obtain⟨UU,E,hF1,hF2⟩:=cls v0
 have HU:=hid hF2
 have HU1:=hid hF1
 have DD0:=HU.out _ (Ab.refl v0).drew
 clear hF1 hF2
 refine aR E (by kernel_rfl) (by kernel_rfl) DD0 ?_
 repeat(go_big_quiet_step (first
  | (with_reducible rfl)
  | (go_at_call 29;exact aP HU HU1 (CN0.out _ (HU1.out _)))
  | (go_at_call 12;exact aP HU HU1 (CS0.out _ (HU1.out _)))))
 refine wpQuiet_nil ?_
 intro v1 hwz
 obtain⟨uz,hu⟩:=hwz
 have AZ:Hid (Ab v0 v1):=by rw[hu];exact HU1.out uz
 clear hu uz
 clear HU HU1 DD0
 clear E UU
 have A1:Hid (Ab w v1):=A0.out.trans AZ.out
 have D1:=hid (AZ.out.heap D0.out)
 clear CN0 CS0 A0 D0 AZ
 obtain⟨X2,S2⟩:=aH v1 (.cells #[.slice none 0 0,.slice none 0 0,.slice none 0 0,.slice none 0 0,.int .i64 sk,.int .i64 st] 25)
 have T2:Hid (SQ w v1.heap.size d (.slice none 0 0) (.slice none 0 0) (.slice none 0 0) (.slice none 0 0) sk st (v1.alloc (.cells #[.slice none 0 0,.slice none 0 0,.slice none 0 0,.slice none 0 0,.int .i64 sk,.int .i64 st] 25))):=⟨A1.out.trans X2.out,S2.out,X2.out.heap D1.out,Below.size A1.out,LD.out,by have:=lt_of_block D1.out;omega⟩
 have ss: ∃s,v1.heap.size=s:=⟨_,rfl⟩
 go_wp2_with fail
 refine(N5.out _ A1.out).mono ?_
 rintro e9 z1 ⟨rfl,hz⟩
 have hz1:=hz.symm
 subst hz1
 go_wp2_with fail
 refine(N13.out _ A1.out).mono ?_
 rintro e9 z1 ⟨rfl,hz⟩
 have hz1:=hz.symm
 subst hz1
 go_upto_region 15 with fail
 generalize hV:World.alloc v1 _=v2 at*
 obtain⟨s,hs⟩:=ss
 rw[hs]at T2 ⊢
 clear hV hs X2 S2 A1 D1 N5 N13
 have CT:=hid (fC g o l c (21) N F v2 (by have:=NE.out;have:=MN.out;omega) (by have:=HK.out;have:=PP.out;have:=MN.out;omega) (by have:=HL.out;omega) (HF.out.below T2.out.1))
 go_wp2_with fail
 refine CT.out.mono ?_
 rintro e9 r2 ⟨t0,u0,rfl,a1,lb,i1⟩
 have U2:=hid (T2.out.to a1)
 have L0:Hid (t0≠s):=by
  have:=lt_of_block T2.out.2.1
  show _≠_
  omega
 have KD0:Hid (t0≠d):=by
  have:=lt_of_block T2.out.2.2.1
  show _≠_
  omega
 have M0:=hid i1
 clear a1 lb i1 CT T2
 have f0:=aC U2.out.2.1 0
 have c0:=aA 0 U2.out.2.1
 have T3:Hid (SQ w s d (.slice (some ⟨t0,0,none⟩) N u0) (.slice none 0 0) (.slice none 0 0) (.slice none 0 0) sk st (r2.setCell ⟨s,0,none⟩ (.slice (some ⟨t0,0,none⟩) N u0))):=SQ.set U2.out (by rfl)
 have N0:Hid (IsFl (r2.setCell ⟨s,0,none⟩ (.slice (some ⟨t0,0,none⟩) N u0)) (some ⟨t0,0,none⟩) N (fun i=>num F (21+8*i))):=Spl.bF _ M0.out (aU L0.out)
 go_upto_region 16 with fail
 generalize hV:World.setCell r2 _ _=v3 at*
 clear hV f0 c0 U2 M0
 have CT:=hid (fD g o l c (p1) N F v3 (by have:=NE.out;have:=MN.out;omega) (by have:=HK.out;have:=PP.out;have:=MN.out;omega) (by have:=HL.out;omega) (HF.out.below T3.out.1))
 go_wp2_with fail
 refine CT.out.mono ?_
 rintro e9 r3 ⟨t1,u1,rfl,a1,lb,i1⟩
 have U3:=hid (T3.out.to a1)
 have L1:Hid (t1≠s):=by
  have:=lt_of_block T3.out.2.1
  show _≠_
  omega
 have KD1:Hid (t1≠d):=by
  have:=lt_of_block T3.out.2.2.1
  show _≠_
  omega
 have M0:=hid (N0.out.below a1)
 have M1:=hid i1
 clear a1 lb i1 CT T3 N0
 have f0:=aC U3.out.2.1 1
 have c0:=aA 1 U3.out.2.1
 have T4:Hid (SQ w s d (.slice (some ⟨t0,0,none⟩) N u0) (.slice (some ⟨t1,0,none⟩) N u1) (.slice none 0 0) (.slice none 0 0) sk st (r3.setCell ⟨s,1,none⟩ (.slice (some ⟨t1,0,none⟩) N u1))):=SQ.set U3.out (by rfl)
 have N0:Hid (IsFl (r3.setCell ⟨s,1,none⟩ (.slice (some ⟨t1,0,none⟩) N u1)) (some ⟨t0,0,none⟩) N (fun i=>num F (21+8*i))):=Spl.bF _ M0.out (aU L0.out)
 have N1:Hid (Sh.IsI (r3.setCell ⟨s,1,none⟩ (.slice (some ⟨t1,0,none⟩) N u1)) (some ⟨t1,0,none⟩) N (fun i=>i64 (num F (21+8*N+8*i)))):=Spl.bU _ (by rw[PP.out.1];exact M1.out) (aU L1.out)
 go_upto_region 17 with fail
 generalize hV:World.setCell r3 _ _=v4 at*
 clear hV f0 c0 U3 M0 M1
 have CT:=hid (fD g o l c (p2) N F v4 (by have:=NE.out;have:=MN.out;omega) (by have:=HK.out;have:=PP.out;have:=MN.out;omega) (by have:=HL.out;omega) (HF.out.below T4.out.1))
 go_wp2_with fail
 refine CT.out.mono ?_
 rintro e9 r4 ⟨t2,u2,rfl,a1,lb,i1⟩
 have U4:=hid (T4.out.to a1)
 have L2:Hid (t2≠s):=by
  have:=lt_of_block T4.out.2.1
  show _≠_
  omega
 have KD2:Hid (t2≠d):=by
  have:=lt_of_block T4.out.2.2.1
  show _≠_
  omega
 have M0:=hid (N0.out.below a1)
 have M1:=hid (N1.out.below a1)
 have M2:=hid i1
 clear a1 lb i1 CT T4 N0 N1
 have f0:=aC U4.out.2.1 2
 have c0:=aA 2 U4.out.2.1
 have T5:Hid (SQ w s d (.slice (some ⟨t0,0,none⟩) N u0) (.slice (some ⟨t1,0,none⟩) N u1) (.slice (some ⟨t2,0,none⟩) N u2) (.slice none 0 0) sk st (r4.setCell ⟨s,2,none⟩ (.slice (some ⟨t2,0,none⟩) N u2))):=SQ.set U4.out (by rfl)
 have N0:Hid (IsFl (r4.setCell ⟨s,2,none⟩ (.slice (some ⟨t2,0,none⟩) N u2)) (some ⟨t0,0,none⟩) N (fun i=>num F (21+8*i))):=Spl.bF _ M0.out (aU L0.out)
 have N1:Hid (Sh.IsI (r4.setCell ⟨s,2,none⟩ (.slice (some ⟨t2,0,none⟩) N u2)) (some ⟨t1,0,none⟩) N (fun i=>i64 (num F (21+8*N+8*i)))):=Spl.bU _ M1.out (aU L1.out)
 have N2:Hid (Sh.IsI (r4.setCell ⟨s,2,none⟩ (.slice (some ⟨t2,0,none⟩) N u2)) (some ⟨t2,0,none⟩) N (fun i=>i64 (num F (21+16*N+8*i)))):=Spl.bU _ (by rw[PP.out.2.1];exact M2.out) (aU L2.out)
 go_upto_region 18 with fail
 generalize hV:World.setCell r4 _ _=v5 at*
 clear hV f0 c0 U4 M0 M1 M2
 have CT:=hid (fC g o l c (p3) M F v5 (by have:=NE.out;have:=MN.out;omega) (by have:=HK.out;have:=PP.out;have:=MN.out;omega) (by have:=HL.out;omega) (HF.out.below T5.out.1))
 go_wp2_with fail
 refine CT.out.mono ?_
 rintro e9 r5 ⟨t3,u3,rfl,a1,lb,i1⟩
 have U5:=hid (T5.out.to a1)
 have L3:Hid (t3≠s):=by
  have:=lt_of_block T5.out.2.1
  show _≠_
  omega
 have KD3:Hid (t3≠d):=by
  have:=lt_of_block T5.out.2.2.1
  show _≠_
  omega
 have M0:=hid (N0.out.below a1)
 have M1:=hid (N1.out.below a1)
 have M2:=hid (N2.out.below a1)
 have M3:=hid i1
 clear a1 lb i1 CT T5 N0 N1 N2
 have f0:=aC U5.out.2.1 3
 have c0:=aA 3 U5.out.2.1
 have T6:Hid (SQ w s d (.slice (some ⟨t0,0,none⟩) N u0) (.slice (some ⟨t1,0,none⟩) N u1) (.slice (some ⟨t2,0,none⟩) N u2) (.slice (some ⟨t3,0,none⟩) M u3) sk st (r5.setCell ⟨s,3,none⟩ (.slice (some ⟨t3,0,none⟩) M u3))):=SQ.set U5.out (by rfl)
 have N0:Hid (IsFl (r5.setCell ⟨s,3,none⟩ (.slice (some ⟨t3,0,none⟩) M u3)) (some ⟨t0,0,none⟩) N (fun i=>num F (21+8*i))):=Spl.bF _ M0.out (aU L0.out)
 have N1:Hid (Sh.IsI (r5.setCell ⟨s,3,none⟩ (.slice (some ⟨t3,0,none⟩) M u3)) (some ⟨t1,0,none⟩) N (fun i=>i64 (num F (21+8*N+8*i)))):=Spl.bU _ M1.out (aU L1.out)
 have N2:Hid (Sh.IsI (r5.setCell ⟨s,3,none⟩ (.slice (some ⟨t3,0,none⟩) M u3)) (some ⟨t2,0,none⟩) N (fun i=>i64 (num F (21+16*N+8*i)))):=Spl.bU _ M2.out (aU L2.out)
 have N3:Hid (IsFl (r5.setCell ⟨s,3,none⟩ (.slice (some ⟨t3,0,none⟩) M u3)) (some ⟨t3,0,none⟩) M (fun i=>num F (21+24*N+8*i))):=Spl.bF _ (by rw[PP.out.2.2];exact M3.out) (aU L3.out)
 go_upto_region 19 with fail
 generalize hV:World.setCell r5 _ _=v6 at*
 clear hV f0 c0 U5 M0 M1 M2 M3
 have CK:=hid (Ss.lQ (sd:Nat) (some ⟨t0,0,none⟩) N u0 (fun i=>num F (21+8*i)) (some ⟨t1,0,none⟩) N u1 (fun i=>i64 (num F (21+8*N+8*i))) (some ⟨t2,0,none⟩) N u2 (fun i=>i64 (num F (21+16*N+8*i))) (some ⟨t3,0,none⟩) M u3 (fun i=>num F (21+24*N+8*i)) sk st v6 (by have:=NE.out;have:=MN.out;omega) N0.out N1.out N2.out N3.out)
 rw[HCC.out]at CK
 obtain⟨x1,hx1⟩:=aB ((Ss.chk (sd:Nat) N N N M (fun i=>num F (21+8*i)) (fun i=>i64 (num F (21+8*N+8*i))) (fun i=>i64 (num F (21+16*N+8*i))) (fun i=>num F (21+24*N+8*i)) sk st).1)
 rw[hx1]at CK
 clear hx1
 obtain⟨y0,y1,y2,y3,y4,y5⟩:=aE T6.out.2.1
 go_wp2_with fail
 refine CK.out.mono ?_
 rintro e9 v7 ⟨rfl,b7⟩
 have T7:=hid (T6.out.to b7)
 have A7:Hid (Ab w v7):=T7.out.1
 have D7:Hid (v7.heap[d]? =some (.cells #[.slice none 0 0,.slice none 0 0,.slice none 0 0,.slice none 0 0,.int .i64 0,.int .i64 0] 25)):=T7.out.2.2.1
 have S7:=hid T7.out.2.1
 have sdn:s≠d:=T7.out.2.2.2.2.2
 have P0:=hid (N0.out.below b7)
 have P1:=hid (N1.out.below b7)
 have P2:=hid (N2.out.below b7)
 have P3:=hid (N3.out.below b7)
 clear b7 CK T6 y0 y1 y2 y3 y4 y5 N0 N1 N2 N3
 have f0:=aC D7.out 0
 have c0:=aA 0 D7.out
 have f1:=aC D7.out 1
 have c1:=aA 1 D7.out
 have f2:=aC D7.out 2
 have c2:=aA 2 D7.out
 have f3:=aC D7.out 3
 have c3:=aA 3 D7.out
 have f4:=aC D7.out 4
 have c4:=aA 4 D7.out
 have f5:=aC D7.out 5
 have c5:=aA 5 D7.out
 have n9:(x9 != 0)=true:=by simpa using H9.out
 go_wp2_with fail
 (try simp only[Exit.inBlock,Exit.then])
 refine bodyPost_ret (v:=.tuple #[.int .i64 0,.agg #[.slice none 0 0,.slice none 0 0,.slice none 0 0,.slice none 0 0,.int .i64 0,.int .i64 0],.int .i64 x9]) ?_ rfl ?_
 ·exact cP results9 _ _ d _ _ (0,0) _ _ _ rfl rfl rfl (gZ D7.out) underlying25 rfl (by kernel_rfl)
 ·exact⟨rfl,dD A7.out LD.out⟩
theorem rdec_ok(g o l c:Nat)(F:Nat->Nat)(w:World)(hl:l<=c/\c<=281474976710656)(h21:21<=l)(hF:Ti.IsW .u8 256 w (some ⟨g,o,none⟩) l F)(hm:decide (F 0=84/\F 1=65/\F 2=82/\F 3=78)=true)(n N:Nat)(h4:F 4=n)(hn:1<=n/\n<=32)(hN:6*n*n=N)(M:Nat)(hM:2*N=M)(hx:29+40*N=l)(hs:num F (21+40*N)=smN F (21+40*N))(hc:(Ss.chk (n:Nat) N N N M (fun i=>num F (21+8*i)) (fun i=>i64 (num F (21+8*N+8*i))) (fun i=>i64 (num F (21+16*N+8*i))) (fun i=>num F (21+24*N+8*i)) (i64 (num F 13)) (i64 (num F 5))).2=0):Calls prog 9 #[.slice (some ⟨g,o,none⟩) l c] w fun e w'=> ∃t0 t1 t2 t3 u0 u1 u2 u3,e=.returned (.tuple #[.int .i64 (n:Nat),.agg #[.slice (some ⟨t0,0,none⟩) N u0,.slice (some ⟨t1,0,none⟩) N u1,.slice (some ⟨t2,0,none⟩) N u2,.slice (some ⟨t3,0,none⟩) M u3,.int .i64 (i64 (num F 13)),.int .i64 (i64 (num F 5))],.int .i64 0])/\Ab w w'/\IsFl w' (some ⟨t0,0,none⟩) N (fun i=>num F (21+8*i))/\Sh.IsI w' (some ⟨t1,0,none⟩) N (fun i=>i64 (num F (21+8*N+8*i)))/\Sh.IsI w' (some ⟨t2,0,none⟩) N (fun i=>i64 (num F (21+16*N+8*i)))/\IsFl w' (some ⟨t3,0,none⟩) M (fun i=>num F (21+24*N+8*i)):=by
 have MN:=hid (show 2*N=M/\29+40*N=l from⟨hM,hx⟩)
 have q7:2*(N:Int)=(M:Int):=by omega
 have N5:=hid (fun v (a:Ab w v)=>cO g o l c 5 F v (by omega) (by omega) (hF.below a))
 have N13:=hid (fun v (a:Ab w v)=>cO g o l c 13 F v (by omega) (by omega) (hF.below a))
 have e5:=wrap_i64 (numl (F:=F) (o:=5) (fun i hi=>(hF.at0 (k:=5+i) (by omega)).1))
 have e13:=wrap_i64 (numl (F:=F) (o:=13) (fun i hi=>(hF.at0 (k:=13+i) (by omega)).1))
 obtain⟨sk,hsk⟩:=aB (i64 (num F 13))
 obtain⟨st,hst⟩:=aB (i64 (num F 5))
 have HX:=hid (show i64 (num F 13)=sk/\i64 (num F 5)=st from⟨hsk,hst⟩)
 have HCC:=hid hc
 rw[hsk,hst]at HCC
 rw[hsk]at e13
 rw[hst]at e5
 obtain⟨w5,hw5⟩:=aB (num F 5)
 obtain⟨w13,hw13⟩:=aB (num F 13)
 rw[hw5]at N5 e5
 rw[hw13]at N13 e13
 have e5b:wrap64 (w5:Int)=st:=by rw[<- e5];simp[wrap64,IntKind.wrap_i64]
 have e13b:wrap64 (w13:Int)=sk:=by rw[<- e13];simp[wrap64,IntKind.wrap_i64]
 have NLL:=hid (fun q (hq:q+8<=l)=>numl (F:=F) (o:=q) (fun i hi=>(hF.at0 (k:=q+i) (by omega)).1))
 have HF:=hid hF
 have HL:=hid (show l<=c/\c<=281474976710656/\21<=l from⟨hl.1,hl.2,h21⟩)
 have MK:=bK (fun i hi=>hF.lt i (by omega)) true hm
 have l0: ¬l<21:=by omega
 have l1:(4:Int)<(l:Int):=by omega
 have l2:4<=c:=by omega
 have l3:(4:Int)<=(c:Int):=by omega
 obtain⟨sd,hsd⟩:=aB (F 4)
 have s0:(0:Int)<=(sd:Int):=by omega
 have s1:(sd:Int)<256:=by have:=hF.lt 4 (by omega);omega
 have SD:=hid hsd
 have en:sd=n:=by omega
 subst en
 have w1: ¬((sd:Int)<1):=by omega
 have w2: ¬((32:Int)<(sd:Int)):=by omega
 have NE:Hid (1<=N/\N<=6144):=by
  have q5:N<=192*32:=by rw[<- hN];exact Nat.mul_le_mul (by omega) (by omega)
  have q6:6*1*1<=N:=by rw[<- hN];exact Nat.mul_le_mul (Nat.mul_le_mul (Nat.le_refl 6) hn.1) hn.1
  exact⟨by omega,by omega⟩
 obtain⟨m,hm1⟩:=aB (6*sd)
 have q1:6*(sd:Int)=(m:Int):=by omega
 have q2:(m:Int)*(sd:Int)=(N:Int):=by rw[<- hN,hm1];exact(Int.natCast_mul _ _).symm
 obtain⟨b,hb1⟩:=aB (40*N)
 have q3:40*(N:Int)=(b:Int):=by omega
 obtain⟨k,hk1⟩:=aB (21+b)
 have q4:21+(b:Int)=(k:Int):=by omega
 obtain⟨A,hA1⟩:=aB (k+8)
 have q5:(k:Int)+8=(A:Int):=by omega
 have q6:(A:Int) - 8=(k:Int):=by omega
 have b1:(m:Int)<=192:=by omega
 have b2:(N:Int)<=6144:=by have:=NE.out;omega
 have b3:(b:Int)<=245760:=by have:=NE.out;omega
 have b4:(A:Int)<=245789:=by have:=NE.out;omega
 have HK:=hid (show 21+40*N=k/\k+8=A/\sd<=32/\1<=sd from⟨by omega,hA1,by omega,by omega⟩)
 have EA:A=l:=by omega
 have x1: ¬((l:Int)<(A:Int)):=by omega
 have x2: ¬((A:Int)<(l:Int)):=by omega
 have k1:(0:Int)<=(k:Int):=by omega
 have k2:(k:Int)<=(c:Int):=by omega
 have k3:k<=c:=by omega
 have CN:=hid (fun v (a:Ab w v)=>cO g o l c k F v (by omega) (by omega) (hF.below a))
 have CS:=hid (fun v (a:Ab w v)=>gL (some ⟨g,o,none⟩) k c F v (by omega) (fun i hi=>(hF.below a) i (by omega)))
 obtain⟨x,hx1⟩:=aB (num F k)
 obtain⟨y,hy1⟩:=aB (smN F k)
 rw[hx1]at CN
 rw[hy1]at CS
 have HK0:21+40*N=k:=HK.out.1
 rw[HK0,hx1,hy1]at hs
 have ne:((x:Int) != (y:Int))=false:=by simp;omega
 obtain⟨p1,hp1⟩:=aB (21+8*N)
 obtain⟨p2,hp2⟩:=aB (21+16*N)
 obtain⟨p3,hp3⟩:=aB (21+24*N)
 have PP:=hid (show 21+8*N=p1/\21+16*N=p2/\21+24*N=p3 from⟨hp1,hp2,hp3⟩)
 obtain⟨y1,hy1b⟩:=aB (8*N)
 obtain⟨y2,hy2b⟩:=aB (16*N)
 obtain⟨y3,hy3b⟩:=aB (24*N)
 have m1:8*(N:Int)=(y1:Int):=by omega
 have m2:16*(N:Int)=(y2:Int):=by omega
 have m3:24*(N:Int)=(y3:Int):=by omega
 have m4:21+(y1:Int)=(p1:Int):=by omega
 have m5:21+(y2:Int)=(p2:Int):=by omega
 have m6:21+(y3:Int)=(p3:Int):=by omega
 have m7:(y3:Int)<=147456:=by have:=NE.out;omega
 have m8:(y2:Int)<=98304:=by have:=NE.out;omega
 have m9:(y1:Int)<=49152:=by have:=NE.out;omega
 have ma:(M:Int)<=12288:=by have:=NE.out;omega
 clear hF hl h21 hm hsd hm1 hb1 hk1 hA1 h4 hn hN hx hx1 hy1 hs HK0 EA hsk hst hw5 hw13 hp1 hp2 hp3 hy1b hy2b hy3b hM hc
 obtain⟨A0,D0⟩:=aH w (.cells #[.slice none 0 0,.slice none 0 0,.slice none 0 0,.slice none 0 0,.int .i64 0,.int .i64 0] 25)
 go_enter func9,ntmps9
 go_upto_region 1 with fail
 generalize hV:World.alloc w _=v0 at*
 obtain⟨d,hd⟩:=aB w.heap.size
 have LD:Hid (w.heap.size<=d):=by show _<=_;omega
 rw[hd]at D0 ⊢
 clear hV hd
 have z4:v0.cell? ⟨g,o+4,none⟩=some (.int .u8 ((sd:Nat):Int)):=by
  have q:=((HF.out.below A0.out).at0 (k:=4) (by have:=HL.out;omega)).2.2
  rw[SD.out]at q
  exact q
 have CV:(convert 27 9 (.slice (some ⟨g,o,none⟩) 4 c)).run prog v0=.ok (.string (Ti.str F 4)) v0:=Ti.bX underlying27 underlying5 underlying9 (by
  have q:=(HF.out.below A0.out).part 0 4 (by have:=HL.out;omega)
  simpa using q) (fun e=>by cases e)
 go_upto_region 12 with fail
 clear CV z4 MK
 have CN0:=hid (fun v (a:Ab v0 v)=>(CN.out v (A0.out.trans a)).mono (fun e w' ⟨h1,h2⟩=>(⟨h1,by rw[h2];exact Below.refl _ _⟩:e=Ending.returned (.int .u64 ((x:Nat):Int))/\Below v.heap.size v w')))
 have CS0:=hid (fun v (a:Ab v0 v)=>(CS.out v (A0.out.trans a)).mono (fun e w' ⟨h1,h2⟩=>(⟨h1,by rw[h2];exact Below.refl _ _⟩:e=Ending.returned (.int .u64 ((y:Nat):Int))/\Below v.heap.size v w')))
 clear CN CS
 obtain⟨UU,E,hF1,hF2⟩:=cls v0
 have HU:=hid hF2
 have HU1:=hid hF1
 have DD0:=HU.out _ (Ab.refl v0).drew
 clear hF1 hF2
 refine aR E (by kernel_rfl) (by kernel_rfl) DD0 ?_
 repeat(go_big_quiet_step (first
  | (with_reducible rfl)
  | (go_at_call 29;exact aP HU HU1 (CN0.out _ (HU1.out _)))
  | (go_at_call 12;exact aP HU HU1 (CS0.out _ (HU1.out _)))))
 refine wpQuiet_nil ?_
 intro v1 hwz
 obtain⟨uz,hu⟩:=hwz
 have AZ:Hid (Ab v0 v1):=by rw[hu];exact HU1.out uz
 clear hu uz
 clear HU HU1 DD0
 clear E UU
 have A1:Hid (Ab w v1):=A0.out.trans AZ.out
 have D1:=hid (AZ.out.heap D0.out)
 clear CN0 CS0 A0 D0 AZ
 obtain⟨X2,S2⟩:=aH v1 (.cells #[.slice none 0 0,.slice none 0 0,.slice none 0 0,.slice none 0 0,.int .i64 sk,.int .i64 st] 25)
 have T2:Hid (SQ w v1.heap.size d (.slice none 0 0) (.slice none 0 0) (.slice none 0 0) (.slice none 0 0) sk st (v1.alloc (.cells #[.slice none 0 0,.slice none 0 0,.slice none 0 0,.slice none 0 0,.int .i64 sk,.int .i64 st] 25))):=⟨A1.out.trans X2.out,S2.out,X2.out.heap D1.out,Below.size A1.out,LD.out,by have:=lt_of_block D1.out;omega⟩
 have ss: ∃s,v1.heap.size=s:=⟨_,rfl⟩
 go_wp2_with fail
 refine(N5.out _ A1.out).mono ?_
 rintro e9 z1 ⟨rfl,hz⟩
 have hz1:=hz.symm
 subst hz1
 go_wp2_with fail
 refine(N13.out _ A1.out).mono ?_
 rintro e9 z1 ⟨rfl,hz⟩
 have hz1:=hz.symm
 subst hz1
 go_upto_region 15 with fail
 generalize hV:World.alloc v1 _=v2 at*
 obtain⟨s,hs⟩:=ss
 rw[hs]at T2 ⊢
 clear hV hs X2 S2 A1 D1 N5 N13
 have CT:=hid (fC g o l c (21) N F v2 (by have:=NE.out;have:=MN.out;omega) (by have:=HK.out;have:=PP.out;have:=MN.out;omega) (by have:=HL.out;omega) (HF.out.below T2.out.1))
 go_wp2_with fail
 refine CT.out.mono ?_
 rintro e9 r2 ⟨t0,u0,rfl,a1,lb,i1⟩
 have U2:=hid (T2.out.to a1)
 have L0:Hid (t0≠s):=by
  have:=lt_of_block T2.out.2.1
  show _≠_
  omega
 have KD0:Hid (t0≠d):=by
  have:=lt_of_block T2.out.2.2.1
  show _≠_
  omega
 have M0:=hid i1
 clear a1 lb i1 CT T2
 have f0:=aC U2.out.2.1 0
 have c0:=aA 0 U2.out.2.1
 have T3:Hid (SQ w s d (.slice (some ⟨t0,0,none⟩) N u0) (.slice none 0 0) (.slice none 0 0) (.slice none 0 0) sk st (r2.setCell ⟨s,0,none⟩ (.slice (some ⟨t0,0,none⟩) N u0))):=SQ.set U2.out (by rfl)
 have N0:Hid (IsFl (r2.setCell ⟨s,0,none⟩ (.slice (some ⟨t0,0,none⟩) N u0)) (some ⟨t0,0,none⟩) N (fun i=>num F (21+8*i))):=Spl.bF _ M0.out (aU L0.out)
 go_upto_region 16 with fail
 generalize hV:World.setCell r2 _ _=v3 at*
 clear hV f0 c0 U2 M0
 have CT:=hid (fD g o l c (p1) N F v3 (by have:=NE.out;have:=MN.out;omega) (by have:=HK.out;have:=PP.out;have:=MN.out;omega) (by have:=HL.out;omega) (HF.out.below T3.out.1))
 go_wp2_with fail
 refine CT.out.mono ?_
 rintro e9 r3 ⟨t1,u1,rfl,a1,lb,i1⟩
 have U3:=hid (T3.out.to a1)
 have L1:Hid (t1≠s):=by
  have:=lt_of_block T3.out.2.1
  show _≠_
  omega
 have KD1:Hid (t1≠d):=by
  have:=lt_of_block T3.out.2.2.1
  show _≠_
  omega
 have M0:=hid (N0.out.below a1)
 have M1:=hid i1
 clear a1 lb i1 CT T3 N0
 have f0:=aC U3.out.2.1 1
 have c0:=aA 1 U3.out.2.1
 have T4:Hid (SQ w s d (.slice (some ⟨t0,0,none⟩) N u0) (.slice (some ⟨t1,0,none⟩) N u1) (.slice none 0 0) (.slice none 0 0) sk st (r3.setCell ⟨s,1,none⟩ (.slice (some ⟨t1,0,none⟩) N u1))):=SQ.set U3.out (by rfl)
 have N0:Hid (IsFl (r3.setCell ⟨s,1,none⟩ (.slice (some ⟨t1,0,none⟩) N u1)) (some ⟨t0,0,none⟩) N (fun i=>num F (21+8*i))):=Spl.bF _ M0.out (aU L0.out)
 have N1:Hid (Sh.IsI (r3.setCell ⟨s,1,none⟩ (.slice (some ⟨t1,0,none⟩) N u1)) (some ⟨t1,0,none⟩) N (fun i=>i64 (num F (21+8*N+8*i)))):=Spl.bU _ (by rw[PP.out.1];exact M1.out) (aU L1.out)
 go_upto_region 17 with fail
 generalize hV:World.setCell r3 _ _=v4 at*
 clear hV f0 c0 U3 M0 M1
 have CT:=hid (fD g o l c (p2) N F v4 (by have:=NE.out;have:=MN.out;omega) (by have:=HK.out;have:=PP.out;have:=MN.out;omega) (by have:=HL.out;omega) (HF.out.below T4.out.1))
 go_wp2_with fail
 refine CT.out.mono ?_
 rintro e9 r4 ⟨t2,u2,rfl,a1,lb,i1⟩
 have U4:=hid (T4.out.to a1)
 have L2:Hid (t2≠s):=by
  have:=lt_of_block T4.out.2.1
  show _≠_
  omega
 have KD2:Hid (t2≠d):=by
  have:=lt_of_block T4.out.2.2.1
  show _≠_
  omega
 have M0:=hid (N0.out.below a1)
 have M1:=hid (N1.out.below a1)
 have M2:=hid i1
 clear a1 lb i1 CT T4 N0 N1
 have f0:=aC U4.out.2.1 2
 have c0:=aA 2 U4.out.2.1
 have T5:Hid (SQ w s d (.slice (some ⟨t0,0,none⟩) N u0) (.slice (some ⟨t1,0,none⟩) N u1) (.slice (some ⟨t2,0,none⟩) N u2) (.slice none 0 0) sk st (r4.setCell ⟨s,2,none⟩ (.slice (some ⟨t2,0,none⟩) N u2))):=SQ.set U4.out (by rfl)
 have N0:Hid (IsFl (r4.setCell ⟨s,2,none⟩ (.slice (some ⟨t2,0,none⟩) N u2)) (some ⟨t0,0,none⟩) N (fun i=>num F (21+8*i))):=Spl.bF _ M0.out (aU L0.out)
 have N1:Hid (Sh.IsI (r4.setCell ⟨s,2,none⟩ (.slice (some ⟨t2,0,none⟩) N u2)) (some ⟨t1,0,none⟩) N (fun i=>i64 (num F (21+8*N+8*i)))):=Spl.bU _ M1.out (aU L1.out)
 have N2:Hid (Sh.IsI (r4.setCell ⟨s,2,none⟩ (.slice (some ⟨t2,0,none⟩) N u2)) (some ⟨t2,0,none⟩) N (fun i=>i64 (num F (21+16*N+8*i)))):=Spl.bU _ (by rw[PP.out.2.1];exact M2.out) (aU L2.out)
 go_upto_region 18 with fail
 generalize hV:World.setCell r4 _ _=v5 at*
 clear hV f0 c0 U4 M0 M1 M2
 have CT:=hid (fC g o l c (p3) M F v5 (by have:=NE.out;have:=MN.out;omega) (by have:=HK.out;have:=PP.out;have:=MN.out;omega) (by have:=HL.out;omega) (HF.out.below T5.out.1))
 go_wp2_with fail
 refine CT.out.mono ?_
 rintro e9 r5 ⟨t3,u3,rfl,a1,lb,i1⟩
 have U5:=hid (T5.out.to a1)
 have L3:Hid (t3≠s):=by
  have:=lt_of_block T5.out.2.1
  show _≠_
  omega
 have KD3:Hid (t3≠d):=by
  have:=lt_of_block T5.out.2.2.1
  show _≠_
  omega
 have M0:=hid (N0.out.below a1)
 have M1:=hid (N1.out.below a1)
 have M2:=hid (N2.out.below a1)
 have M3:=hid i1
 clear a1 lb i1 CT T5 N0 N1 N2
 have f0:=aC U5.out.2.1 3
 have c0:=aA 3 U5.out.2.1
 have T6:Hid (SQ w s d (.slice (some ⟨t0,0,none⟩) N u0) (.slice (some ⟨t1,0,none⟩) N u1) (.slice (some ⟨t2,0,none⟩) N u2) (.slice (some ⟨t3,0,none⟩) M u3) sk st (r5.setCell ⟨s,3,none⟩ (.slice (some ⟨t3,0,none⟩) M u3))):=SQ.set U5.out (by rfl)
 have N0:Hid (IsFl (r5.setCell ⟨s,3,none⟩ (.slice (some ⟨t3,0,none⟩) M u3)) (some ⟨t0,0,none⟩) N (fun i=>num F (21+8*i))):=Spl.bF _ M0.out (aU L0.out)
 have N1:Hid (Sh.IsI (r5.setCell ⟨s,3,none⟩ (.slice (some ⟨t3,0,none⟩) M u3)) (some ⟨t1,0,none⟩) N (fun i=>i64 (num F (21+8*N+8*i)))):=Spl.bU _ M1.out (aU L1.out)
 have N2:Hid (Sh.IsI (r5.setCell ⟨s,3,none⟩ (.slice (some ⟨t3,0,none⟩) M u3)) (some ⟨t2,0,none⟩) N (fun i=>i64 (num F (21+16*N+8*i)))):=Spl.bU _ M2.out (aU L2.out)
 have N3:Hid (IsFl (r5.setCell ⟨s,3,none⟩ (.slice (some ⟨t3,0,none⟩) M u3)) (some ⟨t3,0,none⟩) M (fun i=>num F (21+24*N+8*i))):=Spl.bF _ (by rw[PP.out.2.2];exact M3.out) (aU L3.out)
 go_upto_region 19 with fail
 generalize hV:World.setCell r5 _ _=v6 at*
 clear hV f0 c0 U5 M0 M1 M2 M3
 have CK:=hid (Ss.lQ (sd:Nat) (some ⟨t0,0,none⟩) N u0 (fun i=>num F (21+8*i)) (some ⟨t1,0,none⟩) N u1 (fun i=>i64 (num F (21+8*N+8*i))) (some ⟨t2,0,none⟩) N u2 (fun i=>i64 (num F (21+16*N+8*i))) (some ⟨t3,0,none⟩) M u3 (fun i=>num F (21+24*N+8*i)) sk st v6 (by have:=NE.out;have:=MN.out;omega) N0.out N1.out N2.out N3.out)
 rw[HCC.out]at CK
 obtain⟨x1,hx1⟩:=aB ((Ss.chk (sd:Nat) N N N M (fun i=>num F (21+8*i)) (fun i=>i64 (num F (21+8*N+8*i))) (fun i=>i64 (num F (21+16*N+8*i))) (fun i=>num F (21+24*N+8*i)) sk st).1)
 rw[hx1]at CK
 clear hx1
 obtain⟨y0,y1,y2,y3,y4,y5⟩:=aE T6.out.2.1
 go_wp2_with fail
 refine CK.out.mono ?_
 rintro e9 v7 ⟨rfl,b7⟩
 have T7:=hid (T6.out.to b7)
 have A7:Hid (Ab w v7):=T7.out.1
 have D7:Hid (v7.heap[d]? =some (.cells #[.slice none 0 0,.slice none 0 0,.slice none 0 0,.slice none 0 0,.int .i64 0,.int .i64 0] 25)):=T7.out.2.2.1
 have S7:=hid T7.out.2.1
 have sdn:s≠d:=T7.out.2.2.2.2.2
 have P0:=hid (N0.out.below b7)
 have P1:=hid (N1.out.below b7)
 have P2:=hid (N2.out.below b7)
 have P3:=hid (N3.out.below b7)
 clear b7 CK T6 y0 y1 y2 y3 y4 y5 N0 N1 N2 N3
 obtain⟨y0,y1,y2,y3,y4,y5⟩:=aE S7.out
 have f0:=aC D7.out 0
 have c0:=aA 0 D7.out
 have f1:=aC D7.out 1
 have c1:=aA 1 D7.out
 have f2:=aC D7.out 2
 have c2:=aA 2 D7.out
 have f3:=aC D7.out 3
 have c3:=aA 3 D7.out
 have f4:=aC D7.out 4
 have c4:=aA 4 D7.out
 have f5:=aC D7.out 5
 have c5:=aA 5 D7.out
 go_wp2_with fail
 go_region
 go_wp2_with fail
 (try simp only[Exit.inBlock,Exit.then])
 refine bodyPost_ret (v:=.tuple #[.int .i64 (sd:Nat),.agg #[.slice (some ⟨t0,0,none⟩) N u0,.slice (some ⟨t1,0,none⟩) N u1,.slice (some ⟨t2,0,none⟩) N u2,.slice (some ⟨t3,0,none⟩) M u3,.int .i64 sk,.int .i64 st],.int .i64 0]) ?_ rfl ?_
 ·exact cP results9 _ _ d _ _ (0,0) _ _ _ rfl rfl rfl (row6d D7.out) underlying25 rfl (by kernel_rfl)
 refine⟨t0,t1,t2,t3,u0,u1,u2,u3,by rw[HX.out.1,HX.out.2],ab_six A7.out LD.out,?_,?_,?_,?_⟩
 ·exact rZ P0.out KD0.out
 ·exact sA P1.out KD1.out
 ·exact sA P2.out KD2.out
 ·exact rZ P3.out KD3.out
end Sv
end
section
open Go.RowKit Go.Deep Tf Cu
attribute [local go_sem] aF aG aI aJ aK aL aM aD
namespace Sv
theorem rdec_no(p:Option Addr)(l c:Nat)(F:Nat->Nat)(w:World)(hl:l<=c/\c<=281474976710656)(hF:Ti.IsW .u8 256 w p l F)(he:derr l F≠0):
  Calls prog 9 #[.slice p l c] w fun e w'=>e=.returned (.tuple #[.int .i64 0,.agg #[.slice none 0 0,.slice none 0 0,.slice none 0 0,.slice none 0 0,.int .i64 0,.int .i64 0],.int .i64 (derr l F)])/\Ab w w':=by
 by_cases h1:l<21
 ·rw[show derr l F=31 from if_pos h1]
  exact rdec_a p l c w h1
 ·obtain⟨g,o,rfl⟩:=hF.some0 (by omega)
  have h21:21<=l:=by omega
  unfold derr at he ⊢
  rw[if_neg h1]at he ⊢
  cases hm:decide (F 0=84/\F 1=65/\F 2=82/\F 3=78)with
  | false=>
   have hm2:=of_decide_eq_false hm
   rw[if_pos (fun q=>hm2 q.1)]
   exact rdec_b1 g o l c F w hl h21 hF hm
  | true=>
   have hm2:=of_decide_eq_true hm
   by_cases hb:1<=F 4/\F 4<=32
   ·rw[if_neg (fun q=>q ⟨hm2,hb⟩)]at he ⊢
    obtain⟨N,hN⟩:=aB (6*F 4*F 4)
    rw[hN]at he ⊢
    by_cases h2:l<29+40*N
    ·rw[if_pos h2]
     exact rdec_c g o l c F w hl h21 hF hm (F 4) N rfl hb hN h2
    ·rw[if_neg h2]at he ⊢
     by_cases h3:29+40*N<l
     ·rw[if_pos h3]
      exact rdec_d g o l c F w hl h21 hF hm (F 4) N rfl hb hN h3
     ·rw[if_neg h3]at he ⊢
      by_cases h4:num F (21+40*N)≠smN F (21+40*N)
      ·rw[if_pos h4]
       exact rdec_e g o l c F w hl h21 hF hm (F 4) N rfl hb hN (by omega) h4
      ·rw[if_neg h4]at he ⊢
       refine rdec_chk g o l c F w hl h21 hF hm (F 4) N rfl hb hN (2*N) rfl (by omega) (Decidable.of_not_not h4) _ ?_ he
       rw[mX hb hN]
       rfl
   ·rw[if_pos (fun q=>hb q.2)]
    exact rdec_b2 g o l c F w hl h21 hF hm hb
theorem rdec_yes(p:Option Addr)(l c n N M:Nat)(F:Nat->Nat)(w:World)(hl:l<=c/\c<=281474976710656)(hF:Ti.IsW .u8 256 w p l F)(he:derr l F=0)(hn:F 4=n)(hN:6*n*n=N)(hM:2*N=M):
  Calls prog 9 #[.slice p l c] w fun e w'=> ∃t0 t1 t2 t3 u0 u1 u2 u3,e=.returned (.tuple #[.int .i64 (n:Nat),.agg #[.slice (some ⟨t0,0,none⟩) N u0,.slice (some ⟨t1,0,none⟩) N u1,.slice (some ⟨t2,0,none⟩) N u2,.slice (some ⟨t3,0,none⟩) M u3,.int .i64 (i64 (num F 13)),.int .i64 (i64 (num F 5))],.int .i64 0])/\Ab w w'/\IsFl w' (some ⟨t0,0,none⟩) N (dB F)/\Sh.IsI w' (some ⟨t1,0,none⟩) N (dW N F)/\Sh.IsI w' (some ⟨t2,0,none⟩) N (dT N F)/\IsFl w' (some ⟨t3,0,none⟩) M (dS N F):=by
 obtain⟨d1,d2,d3,d4,d5⟩:=derr_0 he
 rw[hn]at d2 d3 d4 d5
 rw[hN]at d3 d4 d5
 obtain⟨g,o,rfl⟩:=hF.some0 (by omega)
 refine rdec_ok g o l c F w hl (by omega) hF (decide_eq_true d1) n N hn d2 hN M hM d3.symm d4 ?_
 rw[mX d2 hN,<- hM]
 exact d5
end Sv
end
section
open Go.RowKit Tf Cu Go.Deep
attribute [local go_sem] aF aG aI aJ aK aL aM aD
namespace Sv
def cutF(L:Nat)(f:Nat->Nat)(i:Nat):Nat:=if i<L then f i else 0
theorem cutF_w{w:World}{a0:Option Addr}{len:Nat}{xs:Nat->Nat}(h:Ti.IsW .u8 256 w a0 len xs):Ti.IsW .u8 256 w a0 len (cutF len xs):=h.congr fun k hk=>by unfold cutF;rw[if_pos hk]
theorem cutF_lt{L:Nat}{f:Nat->Nat}(h: ∀i,i<L->f i<256)(i:Nat):cutF L f i<256:=by
 unfold cutF
 split
 ·exact h i (by assumption)
 ·decide
end Sv
end
end Go.Proofs.YtlmfpikhlcnjjaaGreatDoor
