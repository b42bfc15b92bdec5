/-
  Some of the texts of this proof, one behind the other.
-/
import Derived.Deep.QuietTactic
import Derived.Test.YtaphajlpbgcfjaaGreatDoorMa12
set_option maxRecDepth 100000
set_option maxHeartbeats 400000000
namespace Go.Proofs.YtaphajlpbgcfjaaGreatDoor
open _root_.Go.Proofs.Tryz
section
open Go.RowKit Tf Cu
attribute [local go_sem] aK aL aP aQ aR aV aW aF
theorem nM{w:World}{q x:Nat}(h:w.heap[q]? =some (.cells #[.float .f64 x,.float .f64 x] 22 (0,0))):Src prog 1 26 (.slice (some ⟨q,0,none⟩) 2 2) 2 [.float .f64 x,.float .f64 x] w:=
 Src.ofSlice w underlying26 ⟨q,0,none⟩ 2 2 [.float .f64 x,.float .f64 x] rfl (World.news_of_block h) (fun u hu=>by simp at hu;subst hu;rfl)
theorem nN{w:World}{q:Nat}{x:Int}(h:w.heap[q]? =some (.cells #[.int .i64 x,.int .i64 x] 2 (0,0))):Src prog 1 27 (.slice (some ⟨q,0,none⟩) 2 2) 2 [.int .i64 x,.int .i64 x] w:=
 Src.ofSlice w underlying27 ⟨q,0,none⟩ 2 2 [.int .i64 x,.int .i64 x] rfl (World.news_of_block h) (fun u hu=>by simp at hu;subst hu;rfl)
theorem zT(L:Nat)(hL:L<=65536)(w:World):(Instr.makeSlice 26 (.int .i64 0) (.int .i64 ((L:Int)+2))).run prog w=.ok (.slice (some ⟨w.heap.size,0,none⟩) 0 (L+2)) (w.alloc (.cells (madeCells #[.float .f64 0] (L+2)) 22)):=by
 obtain⟨i,hi,hzz⟩:=Option.map_eq_some_iff.1 kZ
 simp only[Prod.mk.injEq]at hzz
 obtain⟨h1,h2,h3⟩:=hzz
 have h:=run_make (P:=prog) w 26 22 i (.float .f64 0) underlying26 hi h1 .i64 .i64 0 ((L:Int)+2) (by omega) (by omega) (by rw[h3];omega) (by omega)
 rw[h2,Nat.mul_one]at h
 have e:((L:Int)+2).toNat=L+2:=by omega
 rw[e]at h
 exact h
theorem zU(L:Nat)(hL:L<=65536)(w:World):(Instr.makeSlice 27 (.int .i64 0) (.int .i64 ((L:Int)+2))).run prog w=.ok (.slice (some ⟨w.heap.size,0,none⟩) 0 (L+2)) (w.alloc (.cells (madeCells #[.int .i64 0] (L+2)) 2)):=by
 obtain⟨i,hi,hzz⟩:=Option.map_eq_some_iff.1 dV
 simp only[Prod.mk.injEq]at hzz
 obtain⟨h1,h2,h3⟩:=hzz
 have h:=run_make (P:=prog) w 27 2 i (.int .i64 0) underlying27 hi h1 .i64 .i64 0 ((L:Int)+2) (by omega) (by omega) (by rw[h3];omega) (by omega)
 rw[h2,Nat.mul_one]at h
 have e:((L:Int)+2).toNat=L+2:=by omega
 rw[e]at h
 exact h
theorem pS(L:Nat)(hL:L<=65536):IntKind.i64.wrap ((L:Int)+2)=(L:Int)+2:=by
 rw[IntKind.wrap_i64]
 omega
def mkG(L:Nat)(g:Nat->Value)(m:Value)(j:Nat):Value:=if j<L then g j else m
theorem qP(L:Nat)(g:Nat->Value)(m z:Value)(j:Nat)(hj:j<L+2):
  (if L<=j then([m,m][j - L]?).getD (if 0<=j then(((List.range L).map g)[j - 0]?).getD z else z)else(if 0<=j then(((List.range L).map g)[j - 0]?).getD z else z))=mkG L g m j:=by
 unfold mkG
 by_cases c:j<L
 ·simp[c,show¬L<=j by omega]
 ·by_cases c2:j=L
  ·subst c2
   simp
  ·have e:j - L=1:=by omega
   rw[e]
   simp[c,show L<=j by omega]
theorem Ck(pb pw pt ps:Option Addr)(lb cb lw cw lt ct ls cs:Nat)(B:Nat->Nat)(Wt Tr:Nat->Int)(Sp:Nat->Nat)(sky st:Int)(w:World)
  (hB:IsFl w pb lb B) (hW:IsIn w pw lw Wt) (hT:IsIn w pt lt Tr) (hS:IsFl w ps ls Sp)
  (hl:lb<=65536/\lw<=65536/\lt<=65536/\ls<=65536):
  Calls prog 34 #[.agg #[.slice pb lb cb,.slice pw lw cw,.slice pt lt ct,.slice ps ls cs,.int .i64 sky,.int .i64 st]] w fun e w'=> ∃bb bw bt bs,e=.returned (.agg #[.slice (some ⟨bb,0,none⟩) lb (lb+2),.slice (some ⟨bw,0,none⟩) lw (lw+2),.slice (some ⟨bt,0,none⟩) lt (lt+2),.slice (some ⟨bs,0,none⟩) ls (ls+2),.int .i64 sky,.int .i64 st])/\Below w.heap.size w w'/\w'.rowIs bb 22 (lb+2) (mkG lb (fun k=>.float .f64 (B k)) (.float .f64 4619567317775286272))/\w'.rowIs bw 2 (lw+2) (mkG lw (fun k=>.int .i64 (Wt k)) (.int .i64 7))/\w'.rowIs bt 2 (lt+2) (mkG lt (fun k=>.int .i64 (Tr k)) (.int .i64 7))/\w'.rowIs bs 22 (ls+2) (mkG ls (fun k=>.float .f64 (Sp k)) (.float .f64 4619567317775286272))/\(w.heap.size<=bb/\w.heap.size<=bw/\w.heap.size<=bt/\w.heap.size<=bs/\bb≠bw/\bb≠bt/\bb≠bs/\bw≠bt/\bw≠bs/\bt≠bs):=by
 have A0:Hid (Ab w (((w.alloc (.cells #[.slice pb lb cb,.slice pw lw cw,.slice pt lt ct,.slice ps ls cs,.int .i64 sky,.int .i64 st] 29)).alloc (.cells #[.slice none 0 0,.slice none 0 0,.slice none 0 0,.slice none 0 0,.int .i64 0,.int .i64 0] 29)).alloc (.cells #[.slice pb lb cb,.slice pw lw cw,.slice pt lt ct,.slice ps ls cs,.int .i64 sky,.int .i64 st] 29))):=bl3 _ _ _ _
 have GS:Hid ((((w.alloc (.cells #[.slice pb lb cb,.slice pw lw cw,.slice pt lt ct,.slice ps ls cs,.int .i64 sky,.int .i64 st] 29)).alloc (.cells #[.slice none 0 0,.slice none 0 0,.slice none 0 0,.slice none 0 0,.int .i64 0,.int .i64 0] 29)).alloc (.cells #[.slice pb lb cb,.slice pw lw cw,.slice pt lt ct,.slice ps ls cs,.int .i64 sky,.int .i64 st] 29)).heap[w.heap.size]? =some (.cells #[.slice pb lb cb,.slice pw lw cw,.slice pt lt ct,.slice ps ls cs,.int .i64 sky,.int .i64 st] 29)):=Ab.heap (bl2 _ _ _) (heap_alloc_new _ _)
 have GR:Hid ((((w.alloc (.cells #[.slice pb lb cb,.slice pw lw cw,.slice pt lt ct,.slice ps ls cs,.int .i64 sky,.int .i64 st] 29)).alloc (.cells #[.slice none 0 0,.slice none 0 0,.slice none 0 0,.slice none 0 0,.int .i64 0,.int .i64 0] 29)).alloc (.cells #[.slice pb lb cb,.slice pw lw cw,.slice pt lt ct,.slice ps ls cs,.int .i64 sky,.int .i64 st] 29)).heap[w.heap.size+1]? =some (.cells #[.slice none 0 0,.slice none 0 0,.slice none 0 0,.slice none 0 0,.int .i64 0,.int .i64 0] 29)):=Ab.heap (bl1 _ _) (heap_alloc2_new _ _ _)
 have GO:Hid ((((w.alloc (.cells #[.slice pb lb cb,.slice pw lw cw,.slice pt lt ct,.slice ps ls cs,.int .i64 sky,.int .i64 st] 29)).alloc (.cells #[.slice none 0 0,.slice none 0 0,.slice none 0 0,.slice none 0 0,.int .i64 0,.int .i64 0] 29)).alloc (.cells #[.slice pb lb cb,.slice pw lw cw,.slice pt lt ct,.slice ps ls cs,.int .i64 sky,.int .i64 st] 29)).heap[w.heap.size+2]? =some (.cells #[.slice pb lb cb,.slice pw lw cw,.slice pt lt ct,.slice ps ls cs,.int .i64 sky,.int .i64 st] 29)):=cE _ _ _ _
 have HL:=hid hl
 have Hb:=hid hB
 have Hw:=hid hW
 have Ht:=hid hT
 have Hs:=hid hS
 clear hl hB hW hT hS
 go_enter func34,ntmps34
 go_upto_region 2 with fail
 generalize hV:World.alloc (World.alloc (World.alloc w _) _) _=V at*
 obtain⟨gs,hgs⟩:=aD w.heap.size
 obtain⟨gr,hgr⟩:=aD (w.heap.size+1)
 obtain⟨go,hgo⟩:=aD (w.heap.size+2)
 have GSO:Hid (gs≠go):=by intro h;omega
 have GRO:Hid (gr≠go/\gs≠gr):=⟨by intro h;omega,by intro h;omega⟩
 have GRW:Hid (w.heap.size<=gr/\gr<go/\w.heap.size<=go):=⟨by omega,by omega,by omega⟩
 have GOW:Hid (w.heap.size<=go):=by show w.heap.size<=go;omega
 rw[hgs]at GS
 rw[hgr]at GR
 rw[hgo]at GO
 rw[hgo,hgr,hgs]
 have AV:=A0
 clear hgs hgr hgo hV A0
 go_upto_region 2 with fail
 go_cut []from 5 to 19 (fun V0=> ∃bb:Nat,V.heap.size<=bb/\Abx V go 6 29 V0/\V0.heap[go]? =some (.cells #[.slice (some ⟨bb,0,none⟩) lb (lb+2),.slice pw lw cw,.slice pt lt ct,.slice ps ls cs,.int .i64 sky,.int .i64 st] 29)/\V0.rowIs bb 22 (lb+2) (mkG lb (fun k=>.float .f64 (B k)) (.float .f64 4619567317775286272)))
 case first=>
  obtain⟨i0,hi0,hi1⟩:=zQ
  have IP:=hid (And.intro hi0 hi1)
  clear hi0 hi1
  have M1: ∀v:World,(Instr.makeSlice 26 (.int .i64 0) (.int .i64 (IntKind.i64.wrap ((lb:Int)+2)))).run prog v=.ok (.slice (some ⟨v.heap.size,0,none⟩) 0 (lb+2)) (v.alloc (.cells (madeCells #[.float .f64 0] (lb+2)) 22)):=fun v=>by rw[pS _ HL.out.1];exact zT lb HL.out.1 v
  have WR:Hid (IntKind.i64.wrap ((lb:Int)+2)=(lb:Int)+2):=pS _ HL.out.1
  have lb1:(lb:Int)<=65536:=by have:=HL.out;omega
  have AX0:Abx V go 6 29 V:=(Ab.refl V).x rfl GO.out
  have lb2:((lb:Nat):Int)<=((lb+2:Nat):Int):=by omega
  have lb3:(lb:Int)<=(lb:Int)+2:=by omega
  have lb4:(0:Int)<=(lb:Int):=by omega
  have AB0:=hid (Ab.refl V)
  have GX:=hid (lt_of_block GO.out)
  have KS:Hid (∀w',Abx V go 6 29 w'->Abx V go 6 29 w'/\w'.cell? ⟨gs,0,none⟩=some (.slice pb lb cb)/\w'.frozen? ⟨go,0,none⟩=false/\w'.cell? ⟨go,0,none⟩=some (rv w' go 0)):=fun w' h=>⟨h,aA 0 (h.heap GSO.out GS.out),h.free 0,h.some (by decide)⟩
  have SR:Hid (∀v,Abx V go 6 29 v->Src prog 1 26 (.slice pb lb cb) lb ((List.range lb).map fun k=>Value.float .f64 (B k)) v):=fun v h=>src_fl (Hb.out.below (h.ab AV.out GOW.out)) _
  go_region_held3 (fun w'=>Abx V go 6 29 w'/\w'.cell? ⟨gs,0,none⟩=some (.slice pb lb cb)/\w'.frozen? ⟨go,0,none⟩=false/\w'.cell? ⟨go,0,none⟩=some (rv w' go 0)) ((refine KS.out _ ?_;(with_reducible (repeat(first | assumption | apply Abx.drew | apply Abx.alloc | apply Abx.set)));done)) (first
   | (have r1:=R1.out;have q1:=HQ.out;refine bX (by rfl) _ _ 26 (by rfl) 22 i0 underlying26 IP.out.1 IP.out.2 _ lb (lb+2) _ (by rfl) r1 _ 2 _ (by rfl) (nM q1) (by omega) (lb+2) rfl ?_;intro w5 r5 x5;have AX5:=Abx.far AX4 x5 (by omega) GX.out;have AB5:=hid (Abx.ab x5 AB4.out (by omega));have R2:=hid r5;clear r5 x5;clear r1 q1)
   | (have r1:=R1.out;refine bX (by rfl) _ _ 26 (by rfl) 22 i0 underlying26 IP.out.1 IP.out.2 _ lb (lb+2) _ (by rfl) (r1.alloc _) _ 2 _ (by rfl) (nM (heap_alloc_new w4 _)) (by omega) (lb+2) rfl ?_;intro w5 r5 x5;have AX5:=Abx.far (AX4.alloc _) x5 (by omega) GX.out;have AB5:=hid (Abx.ab x5 (AB4.out.alloc _) (by omega));have R2:=hid r5;clear r5 x5;clear r1)
   | (refine bX (by rfl) _ _ 26 (by rfl) 22 i0 underlying26 IP.out.1 IP.out.2 (V.heap.size+1) 0 (lb+2) (fun _=>.float .f64 0) (by rfl) (xF V (.float .f64 0) (lb+2) 22 (.cells #[.float .f64 4619567317775286272,.float .f64 4619567317775286272] 22)) (.slice pb lb cb) lb _ (by rfl) (SR.out _ ((AX0.drew.alloc (.cells #[.float .f64 4619567317775286272,.float .f64 4619567317775286272] 22)).alloc (.cells (madeCells #[.float .f64 0] (lb+2)) 22))) (by omega) lb (by omega) ?_;intro w4 r4 x4;have AX4:=Abx.far ((AX0.drew.alloc (.cells #[.float .f64 4619567317775286272,.float .f64 4619567317775286272] 22)).alloc (.cells (madeCells #[.float .f64 0] (lb+2)) 22)) x4 (by omega) GX.out;have AB4:=hid (Abx.ab x4 ((AB0.out.drew.alloc (.cells #[.float .f64 4619567317775286272,.float .f64 4619567317775286272] 22)).alloc (.cells (madeCells #[.float .f64 0] (lb+2)) 22)) (by omega));have R1:=hid r4;have HQ:=hid (eJ x4 (xH V _ (.cells #[.float .f64 4619567317775286272,.float .f64 4619567317775286272] 22)) (by omega));clear r4 x4)
   | (refine bX (by rfl) _ _ 26 (by rfl) 22 i0 underlying26 IP.out.1 IP.out.2 V.heap.size 0 (lb+2) (fun _=>.float .f64 0) (by rfl) (xE V (.float .f64 0) (lb+2) 22 (.cells #[.float .f64 4619567317775286272,.float .f64 4619567317775286272] 22)) (.slice pb lb cb) lb _ (by rfl) (SR.out _ ((AX0.drew.alloc (.cells (madeCells #[.float .f64 0] (lb+2)) 22)).alloc (.cells #[.float .f64 4619567317775286272,.float .f64 4619567317775286272] 22))) (by omega) lb (by omega) ?_;intro w4 r4 x4;have AX4:=Abx.far ((AX0.drew.alloc (.cells (madeCells #[.float .f64 0] (lb+2)) 22)).alloc (.cells #[.float .f64 4619567317775286272,.float .f64 4619567317775286272] 22)) x4 (by omega) GX.out;have AB4:=hid (Abx.ab x4 ((AB0.out.drew.alloc (.cells (madeCells #[.float .f64 0] (lb+2)) 22)).alloc (.cells #[.float .f64 4619567317775286272,.float .f64 4619567317775286272] 22)) (by omega));have R1:=hid r4;have HQ:=hid (eJ x4 (xG V _ (.cells #[.float .f64 4619567317775286272,.float .f64 4619567317775286272] 22)) (by omega));clear r4 x4)
   | (refine bX (by rfl) _ _ 26 (by rfl) 22 i0 underlying26 IP.out.1 IP.out.2 V.heap.size 0 (lb+2) (fun _=>.float .f64 0) (by rfl) (xD V (.float .f64 0) (lb+2) 22) (.slice pb lb cb) lb _ (by rfl) (SR.out _ (AX0.drew.alloc (.cells (madeCells #[.float .f64 0] (lb+2)) 22))) (by omega) lb (by omega) ?_;intro w4 r4 x4;have AX4:=Abx.far (AX0.drew.alloc (.cells (madeCells #[.float .f64 0] (lb+2)) 22)) x4 (by omega) GX.out;have AB4:=hid (Abx.ab x4 (AB0.out.drew.alloc (.cells (madeCells #[.float .f64 0] (lb+2)) 22)) (by omega));have R1:=hid r4;clear r4 x4))
  all_goals
   go_wp2_with fail
   go_meet
   exact⟨_,by omega,AX5.set _ _,aM (AB5.out.heap GO.out),(R2.out.setOther (Ne.symm (Nat.ne_of_lt (Nat.lt_of_lt_of_le GX.out (by omega)))) _).congr (fun j hj=>qP _ _ _ _ _ hj)⟩
 case rest=>
  rename World=>V0
  obtain⟨bb,h1,h2,h3,h4⟩:=hcut
  have LTb:Hid (V.heap.size<=bb/\bb<V0.heap.size/\go<V.heap.size):=⟨h1,h4.lt,lt_of_block GO.out⟩
  have AV2:Hid (Ab w V0):=h2.ab AV.out GOW.out
  have GS2:=hid (h2.heap GSO.out GS.out)
  have GR2:=hid (h2.heap GRO.out.1 GR.out)
  have Rb:=hid h4
  clear AV GS GR GO
  have AV:=AV2
  have GS:=GS2
  have GR:=GR2
  have GO:=hid h3
  clear AV2 GS2 GR2 h1 h2 h3 h4
  go_upto_region 3 with fail
  go_cut []from 20 to 34 (fun V1=> ∃bs:Nat,V0.heap.size<=bs/\Abx V0 go 6 29 V1/\V1.heap[go]? =some (.cells #[.slice (some ⟨bb,0,none⟩) lb (lb+2),.slice pw lw cw,.slice pt lt ct,.slice (some ⟨bs,0,none⟩) ls (ls+2),.int .i64 sky,.int .i64 st] 29)/\V1.rowIs bs 22 (ls+2) (mkG ls (fun k=>.float .f64 (Sp k)) (.float .f64 4619567317775286272)))
  case first=>
   obtain⟨i0,hi0,hi1⟩:=zQ
   have IP:=hid (And.intro hi0 hi1)
   clear hi0 hi1
   have M1: ∀v:World,(Instr.makeSlice 26 (.int .i64 0) (.int .i64 (IntKind.i64.wrap ((ls:Int)+2)))).run prog v=.ok (.slice (some ⟨v.heap.size,0,none⟩) 0 (ls+2)) (v.alloc (.cells (madeCells #[.float .f64 0] (ls+2)) 22)):=fun v=>by rw[pS _ HL.out.2.2.2];exact zT ls HL.out.2.2.2 v
   have WR:Hid (IntKind.i64.wrap ((ls:Int)+2)=(ls:Int)+2):=pS _ HL.out.2.2.2
   have lb1:(ls:Int)<=65536:=by have:=HL.out;omega
   have AX0:Abx V0 go 6 29 V0:=(Ab.refl V0).x rfl GO.out
   have lb2:((ls:Nat):Int)<=((ls+2:Nat):Int):=by omega
   have lb3:(ls:Int)<=(ls:Int)+2:=by omega
   have lb4:(0:Int)<=(ls:Int):=by omega
   have AB0:=hid (Ab.refl V0)
   have GX:=hid (lt_of_block GO.out)
   have KS:Hid (∀w',Abx V0 go 6 29 w'->Abx V0 go 6 29 w'/\w'.cell? ⟨gs,3,none⟩=some (.slice ps ls cs)/\w'.frozen? ⟨go,3,none⟩=false/\w'.cell? ⟨go,3,none⟩=some (rv w' go 3)):=fun w' h=>⟨h,aA 3 (h.heap GSO.out GS.out),h.free 3,h.some (by decide)⟩
   have SR:Hid (∀v,Abx V0 go 6 29 v->Src prog 1 26 (.slice ps ls cs) ls ((List.range ls).map fun k=>Value.float .f64 (Sp k)) v):=fun v h=>src_fl (Hs.out.below (h.ab AV.out GOW.out)) _
   go_region_held3 (fun w'=>Abx V0 go 6 29 w'/\w'.cell? ⟨gs,3,none⟩=some (.slice ps ls cs)/\w'.frozen? ⟨go,3,none⟩=false/\w'.cell? ⟨go,3,none⟩=some (rv w' go 3)) ((refine KS.out _ ?_;(with_reducible (repeat(first | assumption | apply Abx.drew | apply Abx.alloc | apply Abx.set)));done)) (first
    | (have r1:=R1.out;have q1:=HQ.out;refine bX (by rfl) _ _ 26 (by rfl) 22 i0 underlying26 IP.out.1 IP.out.2 _ ls (ls+2) _ (by rfl) r1 _ 2 _ (by rfl) (nM q1) (by omega) (ls+2) rfl ?_;intro w5 r5 x5;have AX5:=Abx.far AX4 x5 (by omega) GX.out;have AB5:=hid (Abx.ab x5 AB4.out (by omega));have R2:=hid r5;clear r5 x5;clear r1 q1)
    | (have r1:=R1.out;refine bX (by rfl) _ _ 26 (by rfl) 22 i0 underlying26 IP.out.1 IP.out.2 _ ls (ls+2) _ (by rfl) (r1.alloc _) _ 2 _ (by rfl) (nM (heap_alloc_new w4 _)) (by omega) (ls+2) rfl ?_;intro w5 r5 x5;have AX5:=Abx.far (AX4.alloc _) x5 (by omega) GX.out;have AB5:=hid (Abx.ab x5 (AB4.out.alloc _) (by omega));have R2:=hid r5;clear r5 x5;clear r1)
    | (refine bX (by rfl) _ _ 26 (by rfl) 22 i0 underlying26 IP.out.1 IP.out.2 (V0.heap.size+1) 0 (ls+2) (fun _=>.float .f64 0) (by rfl) (xF V0 (.float .f64 0) (ls+2) 22 (.cells #[.float .f64 4619567317775286272,.float .f64 4619567317775286272] 22)) (.slice ps ls cs) ls _ (by rfl) (SR.out _ ((AX0.drew.alloc (.cells #[.float .f64 4619567317775286272,.float .f64 4619567317775286272] 22)).alloc (.cells (madeCells #[.float .f64 0] (ls+2)) 22))) (by omega) ls (by omega) ?_;intro w4 r4 x4;have AX4:=Abx.far ((AX0.drew.alloc (.cells #[.float .f64 4619567317775286272,.float .f64 4619567317775286272] 22)).alloc (.cells (madeCells #[.float .f64 0] (ls+2)) 22)) x4 (by omega) GX.out;have AB4:=hid (Abx.ab x4 ((AB0.out.drew.alloc (.cells #[.float .f64 4619567317775286272,.float .f64 4619567317775286272] 22)).alloc (.cells (madeCells #[.float .f64 0] (ls+2)) 22)) (by omega));have R1:=hid r4;have HQ:=hid (eJ x4 (xH V0 _ (.cells #[.float .f64 4619567317775286272,.float .f64 4619567317775286272] 22)) (by omega));clear r4 x4)
    | (refine bX (by rfl) _ _ 26 (by rfl) 22 i0 underlying26 IP.out.1 IP.out.2 V0.heap.size 0 (ls+2) (fun _=>.float .f64 0) (by rfl) (xE V0 (.float .f64 0) (ls+2) 22 (.cells #[.float .f64 4619567317775286272,.float .f64 4619567317775286272] 22)) (.slice ps ls cs) ls _ (by rfl) (SR.out _ ((AX0.drew.alloc (.cells (madeCells #[.float .f64 0] (ls+2)) 22)).alloc (.cells #[.float .f64 4619567317775286272,.float .f64 4619567317775286272] 22))) (by omega) ls (by omega) ?_;intro w4 r4 x4;have AX4:=Abx.far ((AX0.drew.alloc (.cells (madeCells #[.float .f64 0] (ls+2)) 22)).alloc (.cells #[.float .f64 4619567317775286272,.float .f64 4619567317775286272] 22)) x4 (by omega) GX.out;have AB4:=hid (Abx.ab x4 ((AB0.out.drew.alloc (.cells (madeCells #[.float .f64 0] (ls+2)) 22)).alloc (.cells #[.float .f64 4619567317775286272,.float .f64 4619567317775286272] 22)) (by omega));have R1:=hid r4;have HQ:=hid (eJ x4 (xG V0 _ (.cells #[.float .f64 4619567317775286272,.float .f64 4619567317775286272] 22)) (by omega));clear r4 x4)
    | (refine bX (by rfl) _ _ 26 (by rfl) 22 i0 underlying26 IP.out.1 IP.out.2 V0.heap.size 0 (ls+2) (fun _=>.float .f64 0) (by rfl) (xD V0 (.float .f64 0) (ls+2) 22) (.slice ps ls cs) ls _ (by rfl) (SR.out _ (AX0.drew.alloc (.cells (madeCells #[.float .f64 0] (ls+2)) 22))) (by omega) ls (by omega) ?_;intro w4 r4 x4;have AX4:=Abx.far (AX0.drew.alloc (.cells (madeCells #[.float .f64 0] (ls+2)) 22)) x4 (by omega) GX.out;have AB4:=hid (Abx.ab x4 (AB0.out.drew.alloc (.cells (madeCells #[.float .f64 0] (ls+2)) 22)) (by omega));have R1:=hid r4;clear r4 x4))
   all_goals
    go_wp2_with fail
    go_meet
    exact⟨_,by omega,AX5.set _ _,aM (AB5.out.heap GO.out),(R2.out.setOther (Ne.symm (Nat.ne_of_lt (Nat.lt_of_lt_of_le GX.out (by omega)))) _).congr (fun j hj=>qP _ _ _ _ _ hj)⟩
  case rest=>
   rename World=>V1
   obtain⟨bs,h1,h2,h3,h4⟩:=hcut
   have LTs:Hid (V0.heap.size<=bs/\bs<V1.heap.size/\go<V0.heap.size):=⟨h1,h4.lt,lt_of_block GO.out⟩
   have AV2:Hid (Ab w V1):=h2.ab AV.out GOW.out
   have GS2:=hid (h2.heap GSO.out GS.out)
   have GR2:=hid (h2.heap GRO.out.1 GR.out)
   have Rs:=hid h4
   have Qb:=hid (gI Rb.out h2 (by have:=LTb.out;omega))
   clear AV GS GR GO Rb
   have Rb:=Qb
   clear Qb
   have AV:=AV2
   have GS:=GS2
   have GR:=GR2
   have GO:=hid h3
   clear AV2 GS2 GR2 h1 h2 h3 h4
   go_upto_region 4 with fail
   go_cut []from 35 to 49 (fun V2=> ∃bw:Nat,V1.heap.size<=bw/\Abx V1 go 6 29 V2/\V2.heap[go]? =some (.cells #[.slice (some ⟨bb,0,none⟩) lb (lb+2),.slice (some ⟨bw,0,none⟩) lw (lw+2),.slice pt lt ct,.slice (some ⟨bs,0,none⟩) ls (ls+2),.int .i64 sky,.int .i64 st] 29)/\V2.rowIs bw 2 (lw+2) (mkG lw (fun k=>.int .i64 (Wt k)) (.int .i64 7)))
   case first=>
    obtain⟨i0,hi0,hi1⟩:=zR
    have IP:=hid (And.intro hi0 hi1)
    clear hi0 hi1
    have M1: ∀v:World,(Instr.makeSlice 27 (.int .i64 0) (.int .i64 (IntKind.i64.wrap ((lw:Int)+2)))).run prog v=.ok (.slice (some ⟨v.heap.size,0,none⟩) 0 (lw+2)) (v.alloc (.cells (madeCells #[.int .i64 0] (lw+2)) 2)):=fun v=>by rw[pS _ HL.out.2.1];exact zU lw HL.out.2.1 v
    have WR:Hid (IntKind.i64.wrap ((lw:Int)+2)=(lw:Int)+2):=pS _ HL.out.2.1
    have lb1:(lw:Int)<=65536:=by have:=HL.out;omega
    have AX0:Abx V1 go 6 29 V1:=(Ab.refl V1).x rfl GO.out
    have lb2:((lw:Nat):Int)<=((lw+2:Nat):Int):=by omega
    have lb3:(lw:Int)<=(lw:Int)+2:=by omega
    have lb4:(0:Int)<=(lw:Int):=by omega
    have AB0:=hid (Ab.refl V1)
    have GX:=hid (lt_of_block GO.out)
    have KS:Hid (∀w',Abx V1 go 6 29 w'->Abx V1 go 6 29 w'/\w'.cell? ⟨gs,1,none⟩=some (.slice pw lw cw)/\w'.frozen? ⟨go,1,none⟩=false/\w'.cell? ⟨go,1,none⟩=some (rv w' go 1)):=fun w' h=>⟨h,aA 1 (h.heap GSO.out GS.out),h.free 1,h.some (by decide)⟩
    have SR:Hid (∀v,Abx V1 go 6 29 v->Src prog 1 27 (.slice pw lw cw) lw ((List.range lw).map fun k=>Value.int .i64 (Wt k)) v):=fun v h=>sG (Hw.out.below (h.ab AV.out GOW.out)) _
    go_region_held3 (fun w'=>Abx V1 go 6 29 w'/\w'.cell? ⟨gs,1,none⟩=some (.slice pw lw cw)/\w'.frozen? ⟨go,1,none⟩=false/\w'.cell? ⟨go,1,none⟩=some (rv w' go 1)) ((refine KS.out _ ?_;(with_reducible (repeat(first | assumption | apply Abx.drew | apply Abx.alloc | apply Abx.set)));done)) (first
     | (have r1:=R1.out;have q1:=HQ.out;refine bX (by rfl) _ _ 27 (by rfl) 2 i0 underlying27 IP.out.1 IP.out.2 _ lw (lw+2) _ (by rfl) r1 _ 2 _ (by rfl) (nN q1) (by omega) (lw+2) rfl ?_;intro w5 r5 x5;have AX5:=Abx.far AX4 x5 (by omega) GX.out;have AB5:=hid (Abx.ab x5 AB4.out (by omega));have R2:=hid r5;clear r5 x5;clear r1 q1)
     | (have r1:=R1.out;refine bX (by rfl) _ _ 27 (by rfl) 2 i0 underlying27 IP.out.1 IP.out.2 _ lw (lw+2) _ (by rfl) (r1.alloc _) _ 2 _ (by rfl) (nN (heap_alloc_new w4 _)) (by omega) (lw+2) rfl ?_;intro w5 r5 x5;have AX5:=Abx.far (AX4.alloc _) x5 (by omega) GX.out;have AB5:=hid (Abx.ab x5 (AB4.out.alloc _) (by omega));have R2:=hid r5;clear r5 x5;clear r1)
     | (refine bX (by rfl) _ _ 27 (by rfl) 2 i0 underlying27 IP.out.1 IP.out.2 (V1.heap.size+1) 0 (lw+2) (fun _=>.int .i64 0) (by rfl) (xF V1 (.int .i64 0) (lw+2) 2 (.cells #[.int .i64 7,.int .i64 7] 2)) (.slice pw lw cw) lw _ (by rfl) (SR.out _ ((AX0.drew.alloc (.cells #[.int .i64 7,.int .i64 7] 2)).alloc (.cells (madeCells #[.int .i64 0] (lw+2)) 2))) (by omega) lw (by omega) ?_;intro w4 r4 x4;have AX4:=Abx.far ((AX0.drew.alloc (.cells #[.int .i64 7,.int .i64 7] 2)).alloc (.cells (madeCells #[.int .i64 0] (lw+2)) 2)) x4 (by omega) GX.out;have AB4:=hid (Abx.ab x4 ((AB0.out.drew.alloc (.cells #[.int .i64 7,.int .i64 7] 2)).alloc (.cells (madeCells #[.int .i64 0] (lw+2)) 2)) (by omega));have R1:=hid r4;have HQ:=hid (eJ x4 (xH V1 _ (.cells #[.int .i64 7,.int .i64 7] 2)) (by omega));clear r4 x4)
     | (refine bX (by rfl) _ _ 27 (by rfl) 2 i0 underlying27 IP.out.1 IP.out.2 V1.heap.size 0 (lw+2) (fun _=>.int .i64 0) (by rfl) (xE V1 (.int .i64 0) (lw+2) 2 (.cells #[.int .i64 7,.int .i64 7] 2)) (.slice pw lw cw) lw _ (by rfl) (SR.out _ ((AX0.drew.alloc (.cells (madeCells #[.int .i64 0] (lw+2)) 2)).alloc (.cells #[.int .i64 7,.int .i64 7] 2))) (by omega) lw (by omega) ?_;intro w4 r4 x4;have AX4:=Abx.far ((AX0.drew.alloc (.cells (madeCells #[.int .i64 0] (lw+2)) 2)).alloc (.cells #[.int .i64 7,.int .i64 7] 2)) x4 (by omega) GX.out;have AB4:=hid (Abx.ab x4 ((AB0.out.drew.alloc (.cells (madeCells #[.int .i64 0] (lw+2)) 2)).alloc (.cells #[.int .i64 7,.int .i64 7] 2)) (by omega));have R1:=hid r4;have HQ:=hid (eJ x4 (xG V1 _ (.cells #[.int .i64 7,.int .i64 7] 2)) (by omega));clear r4 x4)
     | (refine bX (by rfl) _ _ 27 (by rfl) 2 i0 underlying27 IP.out.1 IP.out.2 V1.heap.size 0 (lw+2) (fun _=>.int .i64 0) (by rfl) (xD V1 (.int .i64 0) (lw+2) 2) (.slice pw lw cw) lw _ (by rfl) (SR.out _ (AX0.drew.alloc (.cells (madeCells #[.int .i64 0] (lw+2)) 2))) (by omega) lw (by omega) ?_;intro w4 r4 x4;have AX4:=Abx.far (AX0.drew.alloc (.cells (madeCells #[.int .i64 0] (lw+2)) 2)) x4 (by omega) GX.out;have AB4:=hid (Abx.ab x4 (AB0.out.drew.alloc (.cells (madeCells #[.int .i64 0] (lw+2)) 2)) (by omega));have R1:=hid r4;clear r4 x4))
    all_goals
     go_wp2_with fail
     go_meet
     exact⟨_,by omega,AX5.set _ _,aM (AB5.out.heap GO.out),(R2.out.setOther (Ne.symm (Nat.ne_of_lt (Nat.lt_of_lt_of_le GX.out (by omega)))) _).congr (fun j hj=>qP _ _ _ _ _ hj)⟩
   case rest=>
    rename World=>V2
    obtain⟨bw,h1,h2,h3,h4⟩:=hcut
    have LTw:Hid (V1.heap.size<=bw/\bw<V2.heap.size/\go<V1.heap.size):=⟨h1,h4.lt,lt_of_block GO.out⟩
    have AV2:Hid (Ab w V2):=h2.ab AV.out GOW.out
    have GS2:=hid (h2.heap GSO.out GS.out)
    have GR2:=hid (h2.heap GRO.out.1 GR.out)
    have Rw:=hid h4
    have Qb:=hid (gI Rb.out h2 (by have:=LTb.out;omega))
    have Qs:=hid (gI Rs.out h2 (by have:=LTs.out;omega))
    clear AV GS GR GO Rb Rs
    have Rb:=Qb
    clear Qb
    have Rs:=Qs
    clear Qs
    have AV:=AV2
    have GS:=GS2
    have GR:=GR2
    have GO:=hid h3
    clear AV2 GS2 GR2 h1 h2 h3 h4
    go_upto_region 5 with fail
    go_cut []from 50 to 64 (fun V3=> ∃bt:Nat,V2.heap.size<=bt/\Abx V2 go 6 29 V3/\V3.heap[go]? =some (.cells #[.slice (some ⟨bb,0,none⟩) lb (lb+2),.slice (some ⟨bw,0,none⟩) lw (lw+2),.slice (some ⟨bt,0,none⟩) lt (lt+2),.slice (some ⟨bs,0,none⟩) ls (ls+2),.int .i64 sky,.int .i64 st] 29)/\V3.rowIs bt 2 (lt+2) (mkG lt (fun k=>.int .i64 (Tr k)) (.int .i64 7)))
    case first=>
     obtain⟨i0,hi0,hi1⟩:=zR
     have IP:=hid (And.intro hi0 hi1)
     clear hi0 hi1
     have M1: ∀v:World,(Instr.makeSlice 27 (.int .i64 0) (.int .i64 (IntKind.i64.wrap ((lt:Int)+2)))).run prog v=.ok (.slice (some ⟨v.heap.size,0,none⟩) 0 (lt+2)) (v.alloc (.cells (madeCells #[.int .i64 0] (lt+2)) 2)):=fun v=>by rw[pS _ HL.out.2.2.1];exact zU lt HL.out.2.2.1 v
     have WR:Hid (IntKind.i64.wrap ((lt:Int)+2)=(lt:Int)+2):=pS _ HL.out.2.2.1
     have lb1:(lt:Int)<=65536:=by have:=HL.out;omega
     have AX0:Abx V2 go 6 29 V2:=(Ab.refl V2).x rfl GO.out
     have lb2:((lt:Nat):Int)<=((lt+2:Nat):Int):=by omega
     have lb3:(lt:Int)<=(lt:Int)+2:=by omega
     have lb4:(0:Int)<=(lt:Int):=by omega
     have AB0:=hid (Ab.refl V2)
     have GX:=hid (lt_of_block GO.out)
     have KS:Hid (∀w',Abx V2 go 6 29 w'->Abx V2 go 6 29 w'/\w'.cell? ⟨gs,2,none⟩=some (.slice pt lt ct)/\w'.frozen? ⟨go,2,none⟩=false/\w'.cell? ⟨go,2,none⟩=some (rv w' go 2)):=fun w' h=>⟨h,aA 2 (h.heap GSO.out GS.out),h.free 2,h.some (by decide)⟩
     have SR:Hid (∀v,Abx V2 go 6 29 v->Src prog 1 27 (.slice pt lt ct) lt ((List.range lt).map fun k=>Value.int .i64 (Tr k)) v):=fun v h=>sG (Ht.out.below (h.ab AV.out GOW.out)) _
     go_region_held3 (fun w'=>Abx V2 go 6 29 w'/\w'.cell? ⟨gs,2,none⟩=some (.slice pt lt ct)/\w'.frozen? ⟨go,2,none⟩=false/\w'.cell? ⟨go,2,none⟩=some (rv w' go 2)) ((refine KS.out _ ?_;(with_reducible (repeat(first | assumption | apply Abx.drew | apply Abx.alloc | apply Abx.set)));done)) (first
      | (have r1:=R1.out;have q1:=HQ.out;refine bX (by rfl) _ _ 27 (by rfl) 2 i0 underlying27 IP.out.1 IP.out.2 _ lt (lt+2) _ (by rfl) r1 _ 2 _ (by rfl) (nN q1) (by omega) (lt+2) rfl ?_;intro w5 r5 x5;have AX5:=Abx.far AX4 x5 (by omega) GX.out;have AB5:=hid (Abx.ab x5 AB4.out (by omega));have R2:=hid r5;clear r5 x5;clear r1 q1)
      | (have r1:=R1.out;refine bX (by rfl) _ _ 27 (by rfl) 2 i0 underlying27 IP.out.1 IP.out.2 _ lt (lt+2) _ (by rfl) (r1.alloc _) _ 2 _ (by rfl) (nN (heap_alloc_new w4 _)) (by omega) (lt+2) rfl ?_;intro w5 r5 x5;have AX5:=Abx.far (AX4.alloc _) x5 (by omega) GX.out;have AB5:=hid (Abx.ab x5 (AB4.out.alloc _) (by omega));have R2:=hid r5;clear r5 x5;clear r1)
      | (refine bX (by rfl) _ _ 27 (by rfl) 2 i0 underlying27 IP.out.1 IP.out.2 (V2.heap.size+1) 0 (lt+2) (fun _=>.int .i64 0) (by rfl) (xF V2 (.int .i64 0) (lt+2) 2 (.cells #[.int .i64 7,.int .i64 7] 2)) (.slice pt lt ct) lt _ (by rfl) (SR.out _ ((AX0.drew.alloc (.cells #[.int .i64 7,.int .i64 7] 2)).alloc (.cells (madeCells #[.int .i64 0] (lt+2)) 2))) (by omega) lt (by omega) ?_;intro w4 r4 x4;have AX4:=Abx.far ((AX0.drew.alloc (.cells #[.int .i64 7,.int .i64 7] 2)).alloc (.cells (madeCells #[.int .i64 0] (lt+2)) 2)) x4 (by omega) GX.out;have AB4:=hid (Abx.ab x4 ((AB0.out.drew.alloc (.cells #[.int .i64 7,.int .i64 7] 2)).alloc (.cells (madeCells #[.int .i64 0] (lt+2)) 2)) (by omega));have R1:=hid r4;have HQ:=hid (eJ x4 (xH V2 _ (.cells #[.int .i64 7,.int .i64 7] 2)) (by omega));clear r4 x4)
      | (refine bX (by rfl) _ _ 27 (by rfl) 2 i0 underlying27 IP.out.1 IP.out.2 V2.heap.size 0 (lt+2) (fun _=>.int .i64 0) (by rfl) (xE V2 (.int .i64 0) (lt+2) 2 (.cells #[.int .i64 7,.int .i64 7] 2)) (.slice pt lt ct) lt _ (by rfl) (SR.out _ ((AX0.drew.alloc (.cells (madeCells #[.int .i64 0] (lt+2)) 2)).alloc (.cells #[.int .i64 7,.int .i64 7] 2))) (by omega) lt (by omega) ?_;intro w4 r4 x4;have AX4:=Abx.far ((AX0.drew.alloc (.cells (madeCells #[.int .i64 0] (lt+2)) 2)).alloc (.cells #[.int .i64 7,.int .i64 7] 2)) x4 (by omega) GX.out;have AB4:=hid (Abx.ab x4 ((AB0.out.drew.alloc (.cells (madeCells #[.int .i64 0] (lt+2)) 2)).alloc (.cells #[.int .i64 7,.int .i64 7] 2)) (by omega));have R1:=hid r4;have HQ:=hid (eJ x4 (xG V2 _ (.cells #[.int .i64 7,.int .i64 7] 2)) (by omega));clear r4 x4)
      | (refine bX (by rfl) _ _ 27 (by rfl) 2 i0 underlying27 IP.out.1 IP.out.2 V2.heap.size 0 (lt+2) (fun _=>.int .i64 0) (by rfl) (xD V2 (.int .i64 0) (lt+2) 2) (.slice pt lt ct) lt _ (by rfl) (SR.out _ (AX0.drew.alloc (.cells (madeCells #[.int .i64 0] (lt+2)) 2))) (by omega) lt (by omega) ?_;intro w4 r4 x4;have AX4:=Abx.far (AX0.drew.alloc (.cells (madeCells #[.int .i64 0] (lt+2)) 2)) x4 (by omega) GX.out;have AB4:=hid (Abx.ab x4 (AB0.out.drew.alloc (.cells (madeCells #[.int .i64 0] (lt+2)) 2)) (by omega));have R1:=hid r4;clear r4 x4))
     all_goals
      go_wp2_with fail
      go_meet
      exact⟨_,by omega,AX5.set _ _,aM (AB5.out.heap GO.out),(R2.out.setOther (Ne.symm (Nat.ne_of_lt (Nat.lt_of_lt_of_le GX.out (by omega)))) _).congr (fun j hj=>qP _ _ _ _ _ hj)⟩
    case rest=>
     rename World=>V3
     obtain⟨bt,h1,h2,h3,h4⟩:=hcut
     have LTt:Hid (V2.heap.size<=bt/\bt<V3.heap.size/\go<V2.heap.size):=⟨h1,h4.lt,lt_of_block GO.out⟩
     have AV2:Hid (Ab w V3):=h2.ab AV.out GOW.out
     have GS2:=hid (h2.heap GSO.out GS.out)
     have GR2:=hid (h2.heap GRO.out.1 GR.out)
     have Rt:=hid h4
     have Qb:=hid (gI Rb.out h2 (by have:=LTb.out;omega))
     have Qs:=hid (gI Rs.out h2 (by have:=LTs.out;omega))
     have Qw:=hid (gI Rw.out h2 (by have:=LTw.out;omega))
     clear AV GS GR GO Rb Rs Rw
     have Rb:=Qb
     clear Qb
     have Rs:=Qs
     clear Qs
     have Rw:=Qw
     clear Qw
     have AV:=AV2
     have GS:=GS2
     have GR:=GR2
     have GO:=hid h3
     clear AV2 GS2 GR2 h1 h2 h3 h4
     have o0:=aA 0 GO.out
     have r0:=aA 0 GR.out
     have f0:=aG GR.out 0
     have o1:=aA 1 GO.out
     have r1:=aA 1 GR.out
     have f1:=aG GR.out 1
     have o2:=aA 2 GO.out
     have r2:=aA 2 GR.out
     have f2:=aG GR.out 2
     have o3:=aA 3 GO.out
     have r3:=aA 3 GR.out
     have f3:=aG GR.out 3
     have o4:=aA 4 GO.out
     have r4:=aA 4 GR.out
     have f4:=aG GR.out 4
     have o5:=aA 5 GO.out
     have r5:=aA 5 GR.out
     have f5:=aG GR.out 5
     have ROW:=hid (row6 (x:=.slice (some ⟨bb,0,none⟩) lb (lb+2)) (y:=.slice (some ⟨bw,0,none⟩) lw (lw+2)) (z:=.slice (some ⟨bt,0,none⟩) lt (lt+2)) (p:=.slice (some ⟨bs,0,none⟩) ls (ls+2)) (q:=.int .i64 sky) (r:=.int .i64 st) GR.out)
     go_wp2
     have LL:Hid (w.heap.size<=bb/\gr<bb/\bb<bs/\bs<bw/\bw<bt):=by
      have h1:=LTb.out
      have h2:=LTs.out
      have h3:=LTw.out
      have h4:=LTt.out
      have h5:=GRW.out
      exact⟨by omega,by omega,by omega,by omega,by omega⟩
     have NB:Hid (bb≠gr/\bw≠gr/\bt≠gr/\bs≠gr):=by
      have:=LL.out
      exact⟨by omega,by omega,by omega,by omega⟩
     refine bodyPost_ret ?_ rfl ⟨bb,bw,bt,bs,rfl,?_,?_,?_,?_,?_,?_⟩
     ·exact results_cell_row results34 _ _ gr _ _ (0,0) _ rfl ROW.out underlying29 rfl (by kernel_rfl)
     ·exact(((((AV.out.setk GRW.out.1 _).setk GRW.out.1 _).setk GRW.out.1 _).setk GRW.out.1 _).setk GRW.out.1 _).setk GRW.out.1 _
     ·exact(((((Rb.out.setOther NB.out.1 _).setOther NB.out.1 _).setOther NB.out.1 _).setOther NB.out.1 _).setOther NB.out.1 _).setOther NB.out.1 _
     ·exact(((((Rw.out.setOther NB.out.2.1 _).setOther NB.out.2.1 _).setOther NB.out.2.1 _).setOther NB.out.2.1 _).setOther NB.out.2.1 _).setOther NB.out.2.1 _
     ·exact(((((Rt.out.setOther NB.out.2.2.1 _).setOther NB.out.2.2.1 _).setOther NB.out.2.2.1 _).setOther NB.out.2.2.1 _).setOther NB.out.2.2.1 _).setOther NB.out.2.2.1 _
     ·exact(((((Rs.out.setOther NB.out.2.2.2 _).setOther NB.out.2.2.2 _).setOther NB.out.2.2.2 _).setOther NB.out.2.2.2 _).setOther NB.out.2.2.2 _).setOther NB.out.2.2.2 _
     ·have:=LL.out
      exact⟨by omega,by omega,by omega,by omega,by omega,by omega,by omega,by omega,by omega,by omega⟩
end
section
open Go.RowKit Tf Cu Go.Deep
attribute [local go_sem] aK aL aP aQ aR aV aW aF
namespace St
theorem Gm(bb bw bt bs:Nat)(pb pw pt ps:Option Addr)(lb cb lw cw lt ct ls cs:Nat){B:Nat->Nat}{W T:Nat->Int}{S:Nat->Nat}(sky st:Int)(w:World)(HL:Hid (lb<=12288/\lw<=12288/\lt<=12288/\ls<=12288))
  (Rb:Hid (w.rowIs bb 22 (lb+2) (mkG lb (fun k=>.float .f64 (B k)) (.float .f64 4619567317775286272)))) (Rw:Hid (w.rowIs bw 2 (lw+2) (mkG lw (fun k=>.int .i64 (W k)) (.int .i64 7)))) (Rt:Hid (w.rowIs bt 2 (lt+2) (mkG lt (fun k=>.int .i64 (T k)) (.int .i64 7)))) (Rs:Hid (w.rowIs bs 22 (ls+2) (mkG ls (fun k=>.float .f64 (S k)) (.float .f64 4619567317775286272))))
  (SM:Hid (∀v,Ab w v->Calls prog 31 #[.agg #[.slice (some ⟨bb,0,none⟩) lb (lb+2),.slice (some ⟨bw,0,none⟩) lw (lw+2),.slice (some ⟨bt,0,none⟩) lt (lt+2),.slice (some ⟨bs,0,none⟩) ls (ls+2),.int .i64 sky,.int .i64 st],.agg #[.slice pb lb cb,.slice pw lw cw,.slice pt lt ct,.slice ps ls cs,.int .i64 sky,.int .i64 st]] v fun e w'=>e=.returned (.bool true)/\Below v.heap.size v w')):
  Calls prog 35 #[.agg #[.slice (some ⟨bb,0,none⟩) lb (lb+2),.slice (some ⟨bw,0,none⟩) lw (lw+2),.slice (some ⟨bt,0,none⟩) lt (lt+2),.slice (some ⟨bs,0,none⟩) ls (ls+2),.int .i64 sky,.int .i64 st],.agg #[.slice pb lb cb,.slice pw lw cw,.slice pt lt ct,.slice ps ls cs,.int .i64 sky,.int .i64 st]] w fun e w'=>e=.returned (.bool true)/\Below w.heap.size w w':=by
 obtain⟨A0,RO,RD⟩:=bJ w (.cells #[.slice (some ⟨bb,0,none⟩) lb (lb+2),.slice (some ⟨bw,0,none⟩) lw (lw+2),.slice (some ⟨bt,0,none⟩) lt (lt+2),.slice (some ⟨bs,0,none⟩) ls (ls+2),.int .i64 sky,.int .i64 st] 29) (.cells #[.slice pb lb cb,.slice pw lw cw,.slice pt lt ct,.slice ps ls cs,.int .i64 sky,.int .i64 st] 29)
 go_enter func35,ntmps35
 go_upto_region 1 with fail
 generalize hW:World.alloc (World.alloc w _) _=V0 at*
 obtain⟨ga,hga⟩:=aD w.heap.size
 obtain⟨gs,hgs⟩:=aD (w.heap.size+1)
 rw[hga]at RO
 rw[hgs]at RD
 rw[hgs,hga]
 clear hgs hga hW
 have x0:=aE RO.out
 have y0:=aE RD.out
 go_wp2_with fail
 refine(SM.out V0 A0.out).mono ?_
 rintro e9 v1 ⟨rfl,b1⟩
 have A1:Hid (Ab V0 v1):=b1
 clear b1 SM x0 y0
 have fe:feq 4619567317775286272 4619567317775286272=true:=by decide
 go_wp2
 go_loopw [5] (fun iv wr=> ∃k:Nat,k<=2/\iv=.int .i64 (k:Nat)/\Ab V0 wr) (fun iv _=>2 - (intOf iv).toNat)
 case atStart=>exact⟨0,by omega,rfl,A1.out⟩
 case round=>
  obtain⟨k,hk,rfl,ar⟩:=hrel
  have AR:=hid ar
  clear ar A1
  by_cases hk2:k<2
  ·have HK:=hid hk2
   have kI:(k:Int)<2:=by omega
   have lb1:IntKind.i64.wrap ((lb:Int)+2)=(lb:Int)+2:=by rw[IntKind.wrap_i64];have:=HL.out;omega
   have lb7:IntKind.i64.wrap ((lb:Int)+(k:Int))=((lb+k:Nat):Int):=by rw[IntKind.wrap_i64];have:=HL.out;omega
   have lb2:(lb:Int)+2<=(lb:Int)+2:=by omega
   have lb3:((lb+k:Nat):Int)<(lb:Int)+2:=by omega
   have lb4:(0:Int)<=(lb:Int)+2:=by omega
   have lb5:((lb:Int)+2).toNat=lb+2:=by omega
   have lb6:(lb:Int)<=12288:=by have:=HL.out;omega
   have lb8:lb+k<lb+2:=by omega
   have lw1:IntKind.i64.wrap ((lw:Int)+2)=(lw:Int)+2:=by rw[IntKind.wrap_i64];have:=HL.out;omega
   have lw7:IntKind.i64.wrap ((lw:Int)+(k:Int))=((lw+k:Nat):Int):=by rw[IntKind.wrap_i64];have:=HL.out;omega
   have lw2:(lw:Int)+2<=(lw:Int)+2:=by omega
   have lw3:((lw+k:Nat):Int)<(lw:Int)+2:=by omega
   have lw4:(0:Int)<=(lw:Int)+2:=by omega
   have lw5:((lw:Int)+2).toNat=lw+2:=by omega
   have lw6:(lw:Int)<=12288:=by have:=HL.out;omega
   have lw8:lw+k<lw+2:=by omega
   have lt1:IntKind.i64.wrap ((lt:Int)+2)=(lt:Int)+2:=by rw[IntKind.wrap_i64];have:=HL.out;omega
   have lt7:IntKind.i64.wrap ((lt:Int)+(k:Int))=((lt+k:Nat):Int):=by rw[IntKind.wrap_i64];have:=HL.out;omega
   have lt2:(lt:Int)+2<=(lt:Int)+2:=by omega
   have lt3:((lt+k:Nat):Int)<(lt:Int)+2:=by omega
   have lt4:(0:Int)<=(lt:Int)+2:=by omega
   have lt5:((lt:Int)+2).toNat=lt+2:=by omega
   have lt6:(lt:Int)<=12288:=by have:=HL.out;omega
   have lt8:lt+k<lt+2:=by omega
   have ls1:IntKind.i64.wrap ((ls:Int)+2)=(ls:Int)+2:=by rw[IntKind.wrap_i64];have:=HL.out;omega
   have ls7:IntKind.i64.wrap ((ls:Int)+(k:Int))=((ls+k:Nat):Int):=by rw[IntKind.wrap_i64];have:=HL.out;omega
   have ls2:(ls:Int)+2<=(ls:Int)+2:=by omega
   have ls3:((ls+k:Nat):Int)<(ls:Int)+2:=by omega
   have ls4:(0:Int)<=(ls:Int)+2:=by omega
   have ls5:((ls:Int)+2).toNat=ls+2:=by omega
   have ls6:(ls:Int)<=12288:=by have:=HL.out;omega
   have ls8:ls+k<ls+2:=by omega
   clear hk2 hk
   go_upto_region 6 with fail
   obtain⟨UU,E,hF1,hF2⟩:=cls wr
   have HU:=hid hF2
   have HU1:=hid hF1
   have a0: ∀u,(E u).cell? ⟨ga,0,none⟩=some (.slice (some ⟨bb,0,none⟩) lb (lb+2)):=fun u=>aA 0 ((AR.out.trans (hF1 u)).heap RO.out)
   have a1: ∀u,(E u).cell? ⟨ga,1,none⟩=some (.slice (some ⟨bw,0,none⟩) lw (lw+2)):=fun u=>aA 1 ((AR.out.trans (hF1 u)).heap RO.out)
   have a2: ∀u,(E u).cell? ⟨ga,2,none⟩=some (.slice (some ⟨bt,0,none⟩) lt (lt+2)):=fun u=>aA 2 ((AR.out.trans (hF1 u)).heap RO.out)
   have a3: ∀u,(E u).cell? ⟨ga,3,none⟩=some (.slice (some ⟨bs,0,none⟩) ls (ls+2)):=fun u=>aA 3 ((AR.out.trans (hF1 u)).heap RO.out)
   have a4: ∀u,(E u).cell? ⟨ga,4,none⟩=some (.int .i64 sky):=fun u=>aA 4 ((AR.out.trans (hF1 u)).heap RO.out)
   have a5: ∀u,(E u).cell? ⟨ga,5,none⟩=some (.int .i64 st):=fun u=>aA 5 ((AR.out.trans (hF1 u)).heap RO.out)
   have s0: ∀u,(E u).cell? ⟨gs,0,none⟩=some (.slice pb lb cb):=fun u=>aA 0 ((AR.out.trans (hF1 u)).heap RD.out)
   have s1: ∀u,(E u).cell? ⟨gs,1,none⟩=some (.slice pw lw cw):=fun u=>aA 1 ((AR.out.trans (hF1 u)).heap RD.out)
   have s2: ∀u,(E u).cell? ⟨gs,2,none⟩=some (.slice pt lt ct):=fun u=>aA 2 ((AR.out.trans (hF1 u)).heap RD.out)
   have s3: ∀u,(E u).cell? ⟨gs,3,none⟩=some (.slice ps ls cs):=fun u=>aA 3 ((AR.out.trans (hF1 u)).heap RD.out)
   have s4: ∀u,(E u).cell? ⟨gs,4,none⟩=some (.int .i64 sky):=fun u=>aA 4 ((AR.out.trans (hF1 u)).heap RD.out)
   have s5: ∀u,(E u).cell? ⟨gs,5,none⟩=some (.int .i64 st):=fun u=>aA 5 ((AR.out.trans (hF1 u)).heap RD.out)
   have mb: ∀u,(E u).cell? ⟨bb,lb+k,none⟩=some (.float .f64 4619567317775286272):=fun u=>((rowIs.ab Rb.out (A0.out.trans (AR.out.trans (hF1 u)))).cell (show lb+k<lb+2 by have:=HK.out;omega)).trans (by unfold mkG;rw[if_neg (by omega)])
   have mw: ∀u,(E u).cell? ⟨bw,lw+k,none⟩=some (.int .i64 7):=fun u=>((rowIs.ab Rw.out (A0.out.trans (AR.out.trans (hF1 u)))).cell (show lw+k<lw+2 by have:=HK.out;omega)).trans (by unfold mkG;rw[if_neg (by omega)])
   have mt: ∀u,(E u).cell? ⟨bt,lt+k,none⟩=some (.int .i64 7):=fun u=>((rowIs.ab Rt.out (A0.out.trans (AR.out.trans (hF1 u)))).cell (show lt+k<lt+2 by have:=HK.out;omega)).trans (by unfold mkG;rw[if_neg (by omega)])
   have ms: ∀u,(E u).cell? ⟨bs,ls+k,none⟩=some (.float .f64 4619567317775286272):=fun u=>((rowIs.ab Rs.out (A0.out.trans (AR.out.trans (hF1 u)))).cell (show ls+k<ls+2 by have:=HK.out;omega)).trans (by unfold mkG;rw[if_neg (by omega)])
   have DD0:=HU.out _ (Ab.refl wr).drew
   clear hF1 hF2
   refine aJ E (by kernel_rfl) (by kernel_rfl) DD0 ?_
   simp only[List.append_eq,List.cons_append,List.nil_append]
   repeat(go_big_quiet_step (with_reducible rfl))
   refine wpQuiet_nil ?_
   intro z hwz
   obtain⟨u0,hu⟩:=hwz
   have AZ:Hid (Ab wr z):=by rw[hu];exact HU1.out u0
   clear hu u0
   clear HU HU1 DD0 a0 a1 a2 a3 a4 a5 s0 s1 s2 s3 s4 s5 mb mw mt ms
   clear E UU
   clear lb1 lb2 lb3 lb4 lb5 lb6 lb7 lb8 lw1 lw2 lw3 lw4 lw5 lw6 lw7 lw8 lt1 lt2 lt3 lt4 lt5 lt6 lt7 lt8 ls1 ls2 ls3 ls4 ls5 ls6 ls7 ls8
   go_wp2
   exact⟨⟨k+1,by have:=HK.out;omega,by simp,AR.out.trans AZ.out⟩,by have:=HK.out;simp[intOf];omega⟩
  ·have e6:k=2:=by omega
   subst e6
   go_wp2
   go_ret
   exact⟨rfl,A0.out.trans AR.out⟩
end St
end
end Go.Proofs.YtaphajlpbgcfjaaGreatDoor
