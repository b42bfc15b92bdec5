/-
  Some of the texts of this proof, one behind the other.
-/
import Derived.WalkKit
import Derived.Test.YtdeammhdedcjlaaKf04
set_option maxRecDepth 100000
set_option maxHeartbeats 400000000
namespace Go.Proofs.Ytdeammhdedcjlaa
open _root_.Go.Proofs.Try
section
open Go.RowKit Go.Deep Tf
namespace Ti
theorem kH{face:Int}{m:Nat}{f:Nat->Nat}{ls ms:Nat}(h:okT face m f ls ms=true):(0<=face/\face<6)/\(1<=sideN m/\sideN m<=32/\sideN m*sideN m=m)/\(1<=m/\m<=1024):=by
 obtain⟨h1,h2,_⟩:=oX.1 h
 rcases dY m with⟨z,_⟩ | ⟨a,b,c⟩
 ·exact absurd z h2
 ·refine⟨h1,⟨a,b,c⟩,?_⟩
  have p1:1*1<=sideN m*sideN m:=Nat.mul_le_mul a a
  have p2:sideN m*sideN m<=32*32:=Nat.mul_le_mul b b
  omega
theorem eJ(face:Int)(ls ms:Nat)(p:Option Addr)(m cp:Nat)(f:Nat->Nat)(w:World)(hm:m<=70368744177664/\m<=cp/\cp<=9223372036854775807)(hf:IsW .u32 4294967296 w p m f)(h:okT face m f ls ms=false):
  Calls prog 9 #[.agg #[.int .i64 face,.int .u32 (ls:Int),.int .u32 (ms:Int),.slice p m cp]] w fun e w'=>e=.returned (.tuple #[.slice none 0 0,.int .i64 1])/\Below w.heap.size w w':=
 enc_no face ls ms p m cp w (hid fun v a=>by rw[<- h];exact fK face ls ms p m cp f v hm (hf.below a))
theorem cO(face:Int)(ls ms:Nat)(p:Option Addr)(m cp:Nat)(f:Nat->Nat)(w:World)(hls:ls<4294967296)(hms:ms<4294967296)(hm:m<=70368744177664/\m<=cp/\cp<=9223372036854775807)(hf:IsW .u32 4294967296 w p m f)(h:okT face m f ls ms=true):
  Calls prog 9 #[.agg #[.int .i64 face,.int .u32 (ls:Int),.int .u32 (ms:Int),.slice p m cp]] w fun e w'=> ∃g,e=.returned (.tuple #[.slice (some ⟨g,0,none⟩) (14+4*m:Nat) (14+4*m:Nat),.int .i64 0])/\Below w.heap.size w w'/\w.heap.size<=g/\w'.rowIs g 5 (14+4*m) (fun i=>.int .u8 ((enc face.toNat (sideN m) ls ms f i:Nat):Int)):=by
 obtain⟨h1,h2,h3⟩:=kH h
 obtain⟨fc,rfl⟩: ∃fc:Nat,face=(fc:Nat):=⟨face.toNat,by omega⟩
 obtain⟨pb,po,rfl⟩:=hf.some0 h3.1
 exact enc_yes fc ls ms pb po m cp (sideN m) (14+4*m) f w (by omega) hls hms h2.2.1 h3 rfl hf (hid fun v a=>by rw[<- h];exact fK fc ls ms _ m cp f v hm (hf.below a)) (hid fun v=>jC m v (by omega))
theorem gG{w:World}{g:Nat}{a b c d x y z p:Value}{T:TypeId}(h:w.heap[g]? =some (.cells #[a,b,c,d] T)):
  ((((w.setCell ⟨g,0,none⟩ x).setCell ⟨g,1,none⟩ y).setCell ⟨g,2,none⟩ z).setCell ⟨g,3,none⟩ p).heap[g]? =some (.cells #[x,y,z,p] T):=by
 have h1:=aH (v:=x) (k:=0) h
 have h2:=aH (v:=y) (k:=1) h1
 have h3:=aH (v:=z) (k:=2) h2
 have h4:=aH (v:=p) (k:=3) h3
 simpa using h4
theorem dec_0(p:Option Addr)(L cp:Nat)(w:World)(hL:(L:Int)<14):
  Calls prog 10 #[.slice p L cp] w fun e w'=>e=.returned (.tuple #[.agg #[.int .i64 0,.int .u32 0,.int .u32 0,.slice none 0 0],.int .i64 31])/\Below w.heap.size w w':=by
 obtain⟨A0,R0⟩:=aF w (.cells #[.int .i64 0,.int .u32 0,.int .u32 0,.slice none 0 0] 25)
 go_enter func10,ntmps10
 go_upto_region 1 with fail
 generalize hW:World.alloc w _=V0 at*
 obtain⟨gr,hgr⟩:=aB w.heap.size
 have HG:Hid (w.heap.size<=gr):=by show _<=_;omega
 rw[hgr]at R0 ⊢
 clear hgr hW
 have t0:=aA 0 R0.out
 have t1:=aA 1 R0.out
 have t2:=aA 2 R0.out
 have t3:=aA 3 R0.out
 have f0:=aC R0.out 0
 have f1:=aC R0.out 1
 have f2:=aC R0.out 2
 have f3:=aC R0.out 3
 go_wp2_with fail
 (try simp only[Exit.inBlock,Exit.then])
 refine bodyPost_ret (v:=.tuple #[.agg #[.int .i64 0,.int .u32 0,.int .u32 0,.slice none 0 0],.int .i64 31]) ?_ rfl ?_
 ·exact bT results10 _ _ gr _ _ (0,0) _ _ rfl rfl (gG R0.out) underlying25 rfl (by kernel_rfl)
 ·exact⟨rfl,(((A0.out.setk HG.out _).setk HG.out _).setk HG.out _).setk HG.out _⟩
theorem dec_1(b o L cp:Nat)(f:Nat->Nat)(fc n:Nat)(w:World)(hL:(14:Int)<=(L:Int))(hL2:(L:Int)<=(cp:Int)/\(cp:Int)<=9223372036854775807)(hf:IsW .u8 256 w (some ⟨b,o,none⟩) L f)(h4:f 4=fc)(h5:f 5=n)(hm:decide (f 0=84/\f 1=73/\f 2=76/\f 3=69)=false):
  Calls prog 10 #[.slice (some ⟨b,o,none⟩) L cp] w fun e w'=>e=.returned (.tuple #[.agg #[.int .i64 0,.int .u32 0,.int .u32 0,.slice none 0 0],.int .i64 30])/\Below w.heap.size w w':=by
 have HF:=hid hf
 have HL:=hid (show 14<=L by omega)
 have c1:(L:Int)<=(cp:Int):=hL2.1
 have c2:(cp:Int)<=9223372036854775807:=hL2.2
 have MK:=bP (fun i hi=>hf.lt i (by omega)) false hm
 have fb:(fc:Int)<256:=by have:=hf.lt 4 (by omega);omega
 have nb:(n:Int)<256:=by have:=hf.lt 5 (by omega);omega
 have f0':(0:Int)<=(fc:Int):=by omega
 have n0':(0:Int)<=(n:Int):=by omega
 have l4:(4:Int)<=(L:Int):=by omega
 have l4b:(4:Int)<(L:Int):=by omega
 have l5b:(5:Int)<(L:Int):=by omega
 have l4c:(4:Int)<=(cp:Int):=by omega
 have H45:=hid (show f 4=fc/\f 5=n from⟨h4,h5⟩)
 clear hm hf h4 h5 hL2
 obtain⟨A0,R0⟩:=aF w (.cells #[.int .i64 0,.int .u32 0,.int .u32 0,.slice none 0 0] 25)
 go_enter func10,ntmps10
 go_upto_region 1 with fail
 generalize hW:World.alloc w _=V0 at*
 obtain⟨gr,hgr⟩:=aB w.heap.size
 have HG:Hid (w.heap.size<=gr):=by show _<=_;omega
 rw[hgr]at R0 ⊢
 clear hgr hW
 have b4:=((HF.out.below A0.out).at0 (k:=4) (by have:=HL.out;omega)).2.2
 have b5:=((HF.out.below A0.out).at0 (k:=5) (by have:=HL.out;omega)).2.2
 rw[H45.out.1]at b4
 rw[H45.out.2]at b5
 go_wp2_with fail
 go_region
 clear b4 b5
 have A1:Hid (Ab w V0.drew):=A0.out.drew
 have R1:Hid (V0.drew.heap[gr]? =some (.cells #[.int .i64 0,.int .u32 0,.int .u32 0,.slice none 0 0] 25)):=R0.out
 obtain⟨V1,hV1⟩:=aB V0.drew
 rw[hV1]at A1 R1 ⊢
 clear hV1 A0 R0
 have CV: ∀c:Nat,(convert 26 9 (.slice (some ⟨b,o,none⟩) 4 c)).run prog V1=.ok (.string (str f 4)) V1:=fun c=>aL underlying26 underlying5 underlying9 (by
  have q:=(HF.out.below A1.out).part 0 4 (by have:=HL.out;omega)
  simpa using q) (fun e=>by cases e)
 have t0:=aA 0 R1.out
 have t1:=aA 1 R1.out
 have t2:=aA 2 R1.out
 have t3:=aA 3 R1.out
 have f0:=aC R1.out 0
 have f1:=aC R1.out 1
 have f2:=aC R1.out 2
 have f3:=aC R1.out 3
 go_wp2_with fail
 (try simp only[Exit.inBlock,Exit.then])
 refine bodyPost_ret (v:=.tuple #[.agg #[.int .i64 0,.int .u32 0,.int .u32 0,.slice none 0 0],.int .i64 30]) ?_ rfl ?_
 ·exact bT results10 _ _ gr _ _ (0,0) _ _ rfl rfl (gG R1.out) underlying25 rfl (by kernel_rfl)
 ·exact⟨rfl,(((A1.out.setk HG.out _).setk HG.out _).setk HG.out _).setk HG.out _⟩
theorem dec_2(b o L cp:Nat)(f:Nat->Nat)(fc n:Nat)(w:World)(hL:(14:Int)<=(L:Int))(hL2:(L:Int)<=(cp:Int)/\(cp:Int)<=9223372036854775807)(hf:IsW .u8 256 w (some ⟨b,o,none⟩) L f)(h4:f 4=fc)(h5:f 5=n)(hm:decide (f 0=84/\f 1=73/\f 2=76/\f 3=69)=true)(CF:Hid (∀v,Calls prog 24 #[.int .i64 (fc:Int)] v fun e w'=>e=.returned (.bool false)/\w'=v)):
  Calls prog 10 #[.slice (some ⟨b,o,none⟩) L cp] w fun e w'=>e=.returned (.tuple #[.agg #[.int .i64 0,.int .u32 0,.int .u32 0,.slice none 0 0],.int .i64 30])/\Below w.heap.size w w':=by
 have HF:=hid hf
 have HL:=hid (show 14<=L by omega)
 have c1:(L:Int)<=(cp:Int):=hL2.1
 have c2:(cp:Int)<=9223372036854775807:=hL2.2
 have MK:=bP (fun i hi=>hf.lt i (by omega)) true hm
 have fb:(fc:Int)<256:=by have:=hf.lt 4 (by omega);omega
 have nb:(n:Int)<256:=by have:=hf.lt 5 (by omega);omega
 have f0':(0:Int)<=(fc:Int):=by omega
 have n0':(0:Int)<=(n:Int):=by omega
 have l4:(4:Int)<=(L:Int):=by omega
 have l4b:(4:Int)<(L:Int):=by omega
 have l5b:(5:Int)<(L:Int):=by omega
 have l4c:(4:Int)<=(cp:Int):=by omega
 have H45:=hid (show f 4=fc/\f 5=n from⟨h4,h5⟩)
 clear hm hf h4 h5 hL2
 obtain⟨A0,R0⟩:=aF w (.cells #[.int .i64 0,.int .u32 0,.int .u32 0,.slice none 0 0] 25)
 go_enter func10,ntmps10
 go_upto_region 1 with fail
 generalize hW:World.alloc w _=V0 at*
 obtain⟨gr,hgr⟩:=aB w.heap.size
 have HG:Hid (w.heap.size<=gr):=by show _<=_;omega
 rw[hgr]at R0 ⊢
 clear hgr hW
 have b4:=((HF.out.below A0.out).at0 (k:=4) (by have:=HL.out;omega)).2.2
 have b5:=((HF.out.below A0.out).at0 (k:=5) (by have:=HL.out;omega)).2.2
 rw[H45.out.1]at b4
 rw[H45.out.2]at b5
 go_wp2_with fail
 go_region
 clear b4 b5
 have A1:Hid (Ab w V0.drew):=A0.out.drew
 have R1:Hid (V0.drew.heap[gr]? =some (.cells #[.int .i64 0,.int .u32 0,.int .u32 0,.slice none 0 0] 25)):=R0.out
 obtain⟨V1,hV1⟩:=aB V0.drew
 rw[hV1]at A1 R1 ⊢
 clear hV1 A0 R0
 have CV: ∀c:Nat,(convert 26 9 (.slice (some ⟨b,o,none⟩) 4 c)).run prog V1=.ok (.string (str f 4)) V1:=fun c=>aL underlying26 underlying5 underlying9 (by
  have q:=(HF.out.below A1.out).part 0 4 (by have:=HL.out;omega)
  simpa using q) (fun e=>by cases e)
 go_wp2_with fail
 refine(CF.out V1).mono ?_
 rintro e9 v9 ⟨rfl,hv9⟩
 have hv8:=hv9.symm
 subst hv8
 have t0:=aA 0 R1.out
 have t1:=aA 1 R1.out
 have t2:=aA 2 R1.out
 have t3:=aA 3 R1.out
 have f0:=aC R1.out 0
 have f1:=aC R1.out 1
 have f2:=aC R1.out 2
 have f3:=aC R1.out 3
 go_wp2_with fail
 (try simp only[Exit.inBlock,Exit.then])
 refine bodyPost_ret (v:=.tuple #[.agg #[.int .i64 0,.int .u32 0,.int .u32 0,.slice none 0 0],.int .i64 30]) ?_ rfl ?_
 ·exact bT results10 _ _ gr _ _ (0,0) _ _ rfl rfl (gG R1.out) underlying25 rfl (by kernel_rfl)
 ·exact⟨rfl,(((A1.out.setk HG.out _).setk HG.out _).setk HG.out _).setk HG.out _⟩
theorem dec_3(b o L cp:Nat)(f:Nat->Nat)(fc n:Nat)(w:World)(hL:(14:Int)<=(L:Int))(hL2:(L:Int)<=(cp:Int)/\(cp:Int)<=9223372036854775807)(hf:IsW .u8 256 w (some ⟨b,o,none⟩) L f)(h4:f 4=fc)(h5:f 5=n)(hm:decide (f 0=84/\f 1=73/\f 2=76/\f 3=69)=true)(CF:Hid (∀v,Calls prog 24 #[.int .i64 (fc:Int)] v fun e w'=>e=.returned (.bool true)/\w'=v))(hn:(n:Int)<1):
  Calls prog 10 #[.slice (some ⟨b,o,none⟩) L cp] w fun e w'=>e=.returned (.tuple #[.agg #[.int .i64 0,.int .u32 0,.int .u32 0,.slice none 0 0],.int .i64 30])/\Below w.heap.size w w':=by
 have HF:=hid hf
 have HL:=hid (show 14<=L by omega)
 have c1:(L:Int)<=(cp:Int):=hL2.1
 have c2:(cp:Int)<=9223372036854775807:=hL2.2
 have MK:=bP (fun i hi=>hf.lt i (by omega)) true hm
 have fb:(fc:Int)<256:=by have:=hf.lt 4 (by omega);omega
 have nb:(n:Int)<256:=by have:=hf.lt 5 (by omega);omega
 have f0':(0:Int)<=(fc:Int):=by omega
 have n0':(0:Int)<=(n:Int):=by omega
 have l4:(4:Int)<=(L:Int):=by omega
 have l4b:(4:Int)<(L:Int):=by omega
 have l5b:(5:Int)<(L:Int):=by omega
 have l4c:(4:Int)<=(cp:Int):=by omega
 have H45:=hid (show f 4=fc/\f 5=n from⟨h4,h5⟩)
 clear hm hf h4 h5 hL2
 obtain⟨A0,R0⟩:=aF w (.cells #[.int .i64 0,.int .u32 0,.int .u32 0,.slice none 0 0] 25)
 go_enter func10,ntmps10
 go_upto_region 1 with fail
 generalize hW:World.alloc w _=V0 at*
 obtain⟨gr,hgr⟩:=aB w.heap.size
 have HG:Hid (w.heap.size<=gr):=by show _<=_;omega
 rw[hgr]at R0 ⊢
 clear hgr hW
 have b4:=((HF.out.below A0.out).at0 (k:=4) (by have:=HL.out;omega)).2.2
 have b5:=((HF.out.below A0.out).at0 (k:=5) (by have:=HL.out;omega)).2.2
 rw[H45.out.1]at b4
 rw[H45.out.2]at b5
 go_wp2_with fail
 go_region
 clear b4 b5
 have A1:Hid (Ab w V0.drew):=A0.out.drew
 have R1:Hid (V0.drew.heap[gr]? =some (.cells #[.int .i64 0,.int .u32 0,.int .u32 0,.slice none 0 0] 25)):=R0.out
 obtain⟨V1,hV1⟩:=aB V0.drew
 rw[hV1]at A1 R1 ⊢
 clear hV1 A0 R0
 have CV: ∀c:Nat,(convert 26 9 (.slice (some ⟨b,o,none⟩) 4 c)).run prog V1=.ok (.string (str f 4)) V1:=fun c=>aL underlying26 underlying5 underlying9 (by
  have q:=(HF.out.below A1.out).part 0 4 (by have:=HL.out;omega)
  simpa using q) (fun e=>by cases e)
 go_wp2_with fail
 refine(CF.out V1).mono ?_
 rintro e9 v9 ⟨rfl,hv9⟩
 have hv8:=hv9.symm
 subst hv8
 have t0:=aA 0 R1.out
 have t1:=aA 1 R1.out
 have t2:=aA 2 R1.out
 have t3:=aA 3 R1.out
 have f0:=aC R1.out 0
 have f1:=aC R1.out 1
 have f2:=aC R1.out 2
 have f3:=aC R1.out 3
 go_wp2_with fail
 (try simp only[Exit.inBlock,Exit.then])
 refine bodyPost_ret (v:=.tuple #[.agg #[.int .i64 0,.int .u32 0,.int .u32 0,.slice none 0 0],.int .i64 30]) ?_ rfl ?_
 ·exact bT results10 _ _ gr _ _ (0,0) _ _ rfl rfl (gG R1.out) underlying25 rfl (by kernel_rfl)
 ·exact⟨rfl,(((A1.out.setk HG.out _).setk HG.out _).setk HG.out _).setk HG.out _⟩
theorem dec_4(b o L cp:Nat)(f:Nat->Nat)(fc n:Nat)(w:World)(hL:(14:Int)<=(L:Int))(hL2:(L:Int)<=(cp:Int)/\(cp:Int)<=9223372036854775807)(hf:IsW .u8 256 w (some ⟨b,o,none⟩) L f)(h4:f 4=fc)(h5:f 5=n)(hm:decide (f 0=84/\f 1=73/\f 2=76/\f 3=69)=true)(CF:Hid (∀v,Calls prog 24 #[.int .i64 (fc:Int)] v fun e w'=>e=.returned (.bool true)/\w'=v))(hn: ¬(n:Int)<1)(hn2:(32:Int)<(n:Int)):
  Calls prog 10 #[.slice (some ⟨b,o,none⟩) L cp] w fun e w'=>e=.returned (.tuple #[.agg #[.int .i64 0,.int .u32 0,.int .u32 0,.slice none 0 0],.int .i64 30])/\Below w.heap.size w w':=by
 have HF:=hid hf
 have HL:=hid (show 14<=L by omega)
 have c1:(L:Int)<=(cp:Int):=hL2.1
 have c2:(cp:Int)<=9223372036854775807:=hL2.2
 have MK:=bP (fun i hi=>hf.lt i (by omega)) true hm
 have fb:(fc:Int)<256:=by have:=hf.lt 4 (by omega);omega
 have nb:(n:Int)<256:=by have:=hf.lt 5 (by omega);omega
 have f0':(0:Int)<=(fc:Int):=by omega
 have n0':(0:Int)<=(n:Int):=by omega
 have l4:(4:Int)<=(L:Int):=by omega
 have l4b:(4:Int)<(L:Int):=by omega
 have l5b:(5:Int)<(L:Int):=by omega
 have l4c:(4:Int)<=(cp:Int):=by omega
 have H45:=hid (show f 4=fc/\f 5=n from⟨h4,h5⟩)
 clear hm hf h4 h5 hL2
 obtain⟨A0,R0⟩:=aF w (.cells #[.int .i64 0,.int .u32 0,.int .u32 0,.slice none 0 0] 25)
 go_enter func10,ntmps10
 go_upto_region 1 with fail
 generalize hW:World.alloc w _=V0 at*
 obtain⟨gr,hgr⟩:=aB w.heap.size
 have HG:Hid (w.heap.size<=gr):=by show _<=_;omega
 rw[hgr]at R0 ⊢
 clear hgr hW
 have b4:=((HF.out.below A0.out).at0 (k:=4) (by have:=HL.out;omega)).2.2
 have b5:=((HF.out.below A0.out).at0 (k:=5) (by have:=HL.out;omega)).2.2
 rw[H45.out.1]at b4
 rw[H45.out.2]at b5
 go_wp2_with fail
 go_region
 clear b4 b5
 have A1:Hid (Ab w V0.drew):=A0.out.drew
 have R1:Hid (V0.drew.heap[gr]? =some (.cells #[.int .i64 0,.int .u32 0,.int .u32 0,.slice none 0 0] 25)):=R0.out
 obtain⟨V1,hV1⟩:=aB V0.drew
 rw[hV1]at A1 R1 ⊢
 clear hV1 A0 R0
 have CV: ∀c:Nat,(convert 26 9 (.slice (some ⟨b,o,none⟩) 4 c)).run prog V1=.ok (.string (str f 4)) V1:=fun c=>aL underlying26 underlying5 underlying9 (by
  have q:=(HF.out.below A1.out).part 0 4 (by have:=HL.out;omega)
  simpa using q) (fun e=>by cases e)
 go_wp2_with fail
 refine(CF.out V1).mono ?_
 rintro e9 v9 ⟨rfl,hv9⟩
 have hv8:=hv9.symm
 subst hv8
 have t0:=aA 0 R1.out
 have t1:=aA 1 R1.out
 have t2:=aA 2 R1.out
 have t3:=aA 3 R1.out
 have f0:=aC R1.out 0
 have f1:=aC R1.out 1
 have f2:=aC R1.out 2
 have f3:=aC R1.out 3
 go_wp2_with fail
 (try simp only[Exit.inBlock,Exit.then])
 refine bodyPost_ret (v:=.tuple #[.agg #[.int .i64 0,.int .u32 0,.int .u32 0,.slice none 0 0],.int .i64 30]) ?_ rfl ?_
 ·exact bT results10 _ _ gr _ _ (0,0) _ _ rfl rfl (gG R1.out) underlying25 rfl (by kernel_rfl)
 ·exact⟨rfl,(((A1.out.setk HG.out _).setk HG.out _).setk HG.out _).setk HG.out _⟩
theorem dec_5(b o L cp:Nat)(f:Nat->Nat)(fc n:Nat)(w:World)(hL:(14:Int)<=(L:Int))(hL2:(L:Int)<=(cp:Int)/\(cp:Int)<=9223372036854775807)(hf:IsW .u8 256 w (some ⟨b,o,none⟩) L f)(h4:f 4=fc)(h5:f 5=n)(hm:decide (f 0=84/\f 1=73/\f 2=76/\f 3=69)=true)(CF:Hid (∀v,Calls prog 24 #[.int .i64 (fc:Int)] v fun e w'=>e=.returned (.bool true)/\w'=v))(hn: ¬(n:Int)<1)(hn2: ¬(32:Int)<(n:Int))(m N:Nat)(hm2:(n:Int)*(n:Int)=(m:Int))(hm3:(m:Int)<=1024)(SZ:Hid (∀v,Calls prog 20 #[.int .i64 (m:Int)] v fun e w'=>e=.returned (.int .i64 (N:Int))/\w'=v))(hl:(L:Int)<(N:Int)):
  Calls prog 10 #[.slice (some ⟨b,o,none⟩) L cp] w fun e w'=>e=.returned (.tuple #[.agg #[.int .i64 0,.int .u32 0,.int .u32 0,.slice none 0 0],.int .i64 31])/\Below w.heap.size w w':=by
 have HF:=hid hf
 have HL:=hid (show 14<=L by omega)
 have c1:(L:Int)<=(cp:Int):=hL2.1
 have c2:(cp:Int)<=9223372036854775807:=hL2.2
 have MK:=bP (fun i hi=>hf.lt i (by omega)) true hm
 have fb:(fc:Int)<256:=by have:=hf.lt 4 (by omega);omega
 have nb:(n:Int)<256:=by have:=hf.lt 5 (by omega);omega
 have f0':(0:Int)<=(fc:Int):=by omega
 have n0':(0:Int)<=(n:Int):=by omega
 have l4:(4:Int)<=(L:Int):=by omega
 have l4b:(4:Int)<(L:Int):=by omega
 have l5b:(5:Int)<(L:Int):=by omega
 have l4c:(4:Int)<=(cp:Int):=by omega
 have H45:=hid (show f 4=fc/\f 5=n from⟨h4,h5⟩)
 clear hm hf h4 h5 hL2
 obtain⟨A0,R0⟩:=aF w (.cells #[.int .i64 0,.int .u32 0,.int .u32 0,.slice none 0 0] 25)
 go_enter func10,ntmps10
 go_upto_region 1 with fail
 generalize hW:World.alloc w _=V0 at*
 obtain⟨gr,hgr⟩:=aB w.heap.size
 have HG:Hid (w.heap.size<=gr):=by show _<=_;omega
 rw[hgr]at R0 ⊢
 clear hgr hW
 have b4:=((HF.out.below A0.out).at0 (k:=4) (by have:=HL.out;omega)).2.2
 have b5:=((HF.out.below A0.out).at0 (k:=5) (by have:=HL.out;omega)).2.2
 rw[H45.out.1]at b4
 rw[H45.out.2]at b5
 go_wp2_with fail
 go_region
 clear b4 b5
 have A1:Hid (Ab w V0.drew):=A0.out.drew
 have R1:Hid (V0.drew.heap[gr]? =some (.cells #[.int .i64 0,.int .u32 0,.int .u32 0,.slice none 0 0] 25)):=R0.out
 obtain⟨V1,hV1⟩:=aB V0.drew
 rw[hV1]at A1 R1 ⊢
 clear hV1 A0 R0
 have CV: ∀c:Nat,(convert 26 9 (.slice (some ⟨b,o,none⟩) 4 c)).run prog V1=.ok (.string (str f 4)) V1:=fun c=>aL underlying26 underlying5 underlying9 (by
  have q:=(HF.out.below A1.out).part 0 4 (by have:=HL.out;omega)
  simpa using q) (fun e=>by cases e)
 go_wp2_with fail
 refine(CF.out V1).mono ?_
 rintro e9 v9 ⟨rfl,hv9⟩
 have hv8:=hv9.symm
 subst hv8
 go_wp2_with fail
 refine(SZ.out V1).mono ?_
 rintro e9 v9 ⟨rfl,hv9⟩
 have hv8:=hv9.symm
 subst hv8
 have t0:=aA 0 R1.out
 have t1:=aA 1 R1.out
 have t2:=aA 2 R1.out
 have t3:=aA 3 R1.out
 have f0:=aC R1.out 0
 have f1:=aC R1.out 1
 have f2:=aC R1.out 2
 have f3:=aC R1.out 3
 go_wp2_with fail
 (try simp only[Exit.inBlock,Exit.then])
 refine bodyPost_ret (v:=.tuple #[.agg #[.int .i64 0,.int .u32 0,.int .u32 0,.slice none 0 0],.int .i64 31]) ?_ rfl ?_
 ·exact bT results10 _ _ gr _ _ (0,0) _ _ rfl rfl (gG R1.out) underlying25 rfl (by kernel_rfl)
 ·exact⟨rfl,(((A1.out.setk HG.out _).setk HG.out _).setk HG.out _).setk HG.out _⟩
theorem dec_6(b o L cp:Nat)(f:Nat->Nat)(fc n:Nat)(w:World)(hL:(14:Int)<=(L:Int))(hL2:(L:Int)<=(cp:Int)/\(cp:Int)<=9223372036854775807)(hf:IsW .u8 256 w (some ⟨b,o,none⟩) L f)(h4:f 4=fc)(h5:f 5=n)(hm:decide (f 0=84/\f 1=73/\f 2=76/\f 3=69)=true)(CF:Hid (∀v,Calls prog 24 #[.int .i64 (fc:Int)] v fun e w'=>e=.returned (.bool true)/\w'=v))(hn: ¬(n:Int)<1)(hn2: ¬(32:Int)<(n:Int))(m N:Nat)(hm2:(n:Int)*(n:Int)=(m:Int))(hm3:(m:Int)<=1024)(SZ:Hid (∀v,Calls prog 20 #[.int .i64 (m:Int)] v fun e w'=>e=.returned (.int .i64 (N:Int))/\w'=v))(hl3:(N:Int)<(L:Int)):
  Calls prog 10 #[.slice (some ⟨b,o,none⟩) L cp] w fun e w'=>e=.returned (.tuple #[.agg #[.int .i64 0,.int .u32 0,.int .u32 0,.slice none 0 0],.int .i64 3])/\Below w.heap.size w w':=by
 have HF:=hid hf
 have HL:=hid (show 14<=L by omega)
 have c1:(L:Int)<=(cp:Int):=hL2.1
 have c2:(cp:Int)<=9223372036854775807:=hL2.2
 have MK:=bP (fun i hi=>hf.lt i (by omega)) true hm
 have fb:(fc:Int)<256:=by have:=hf.lt 4 (by omega);omega
 have nb:(n:Int)<256:=by have:=hf.lt 5 (by omega);omega
 have f0':(0:Int)<=(fc:Int):=by omega
 have n0':(0:Int)<=(n:Int):=by omega
 have l4:(4:Int)<=(L:Int):=by omega
 have l4b:(4:Int)<(L:Int):=by omega
 have l5b:(5:Int)<(L:Int):=by omega
 have l4c:(4:Int)<=(cp:Int):=by omega
 have H45:=hid (show f 4=fc/\f 5=n from⟨h4,h5⟩)
 clear hm hf h4 h5 hL2
 obtain⟨A0,R0⟩:=aF w (.cells #[.int .i64 0,.int .u32 0,.int .u32 0,.slice none 0 0] 25)
 go_enter func10,ntmps10
 go_upto_region 1 with fail
 generalize hW:World.alloc w _=V0 at*
 obtain⟨gr,hgr⟩:=aB w.heap.size
 have HG:Hid (w.heap.size<=gr):=by show _<=_;omega
 rw[hgr]at R0 ⊢
 clear hgr hW
 have b4:=((HF.out.below A0.out).at0 (k:=4) (by have:=HL.out;omega)).2.2
 have b5:=((HF.out.below A0.out).at0 (k:=5) (by have:=HL.out;omega)).2.2
 rw[H45.out.1]at b4
 rw[H45.out.2]at b5
 go_wp2_with fail
 go_region
 clear b4 b5
 have A1:Hid (Ab w V0.drew):=A0.out.drew
 have R1:Hid (V0.drew.heap[gr]? =some (.cells #[.int .i64 0,.int .u32 0,.int .u32 0,.slice none 0 0] 25)):=R0.out
 obtain⟨V1,hV1⟩:=aB V0.drew
 rw[hV1]at A1 R1 ⊢
 clear hV1 A0 R0
 have CV: ∀c:Nat,(convert 26 9 (.slice (some ⟨b,o,none⟩) 4 c)).run prog V1=.ok (.string (str f 4)) V1:=fun c=>aL underlying26 underlying5 underlying9 (by
  have q:=(HF.out.below A1.out).part 0 4 (by have:=HL.out;omega)
  simpa using q) (fun e=>by cases e)
 go_wp2_with fail
 refine(CF.out V1).mono ?_
 rintro e9 v9 ⟨rfl,hv9⟩
 have hv8:=hv9.symm
 subst hv8
 go_wp2_with fail
 refine(SZ.out V1).mono ?_
 rintro e9 v9 ⟨rfl,hv9⟩
 have hv8:=hv9.symm
 subst hv8
 have t0:=aA 0 R1.out
 have t1:=aA 1 R1.out
 have t2:=aA 2 R1.out
 have t3:=aA 3 R1.out
 have f0:=aC R1.out 0
 have f1:=aC R1.out 1
 have f2:=aC R1.out 2
 have f3:=aC R1.out 3
 go_wp2_with fail
 (try simp only[Exit.inBlock,Exit.then])
 refine bodyPost_ret (v:=.tuple #[.agg #[.int .i64 0,.int .u32 0,.int .u32 0,.slice none 0 0],.int .i64 3]) ?_ rfl ?_
 ·exact bT results10 _ _ gr _ _ (0,0) _ _ rfl rfl (gG R1.out) underlying25 rfl (by kernel_rfl)
 ·exact⟨rfl,(((A1.out.setk HG.out _).setk HG.out _).setk HG.out _).setk HG.out _⟩
theorem dec_7(b o L cp:Nat)(f:Nat->Nat)(fc n:Nat)(w:World)(hL:(14:Int)<=(L:Int))(hL2:(L:Int)<=(cp:Int)/\(cp:Int)<=9223372036854775807)(hf:IsW .u8 256 w (some ⟨b,o,none⟩) L f)(h4:f 4=fc)(h5:f 5=n)(hm:decide (f 0=84/\f 1=73/\f 2=76/\f 3=69)=true)(CF:Hid (∀v,Calls prog 24 #[.int .i64 (fc:Int)] v fun e w'=>e=.returned (.bool true)/\w'=v))(hn: ¬(n:Int)<1)(hn2: ¬(32:Int)<(n:Int))(m:Nat)(hm2:(n:Int)*(n:Int)=(m:Int))(hm3:(m:Int)<=1024)(SZ:Hid (∀v,Calls prog 20 #[.int .i64 (m:Int)] v fun e w'=>e=.returned (.int .i64 (L:Int))/\w'=v))(G F:Nat->Nat)(hFb: ∀i,i<m->F i<4294967296)(h6: ∀i,num (fun j=>f (i+j)) 0=G i)(hF:rx (fun k=>num (fun i=>f (14+i)) (4*k))=F)(hN:14+4*m=L)(hm4:1<=m)(CB:Hid (∀v g c,Ab w v->IsW .u32 4294967296 v (some ⟨g,0,none⟩) m F->m<=c->c<=70368744177664->Calls prog 19 #[.agg #[.int .i64 (fc:Int),.int .u32 ((G 6:Nat):Int),.int .u32 ((G 10:Nat):Int),.slice (some ⟨g,0,none⟩) m c]] v fun e w'=>e=.returned (.bool false)/\Below v.heap.size v w')):
  Calls prog 10 #[.slice (some ⟨b,o,none⟩) L cp] w fun e w'=>e=.returned (.tuple #[.agg #[.int .i64 0,.int .u32 0,.int .u32 0,.slice none 0 0],.int .i64 30])/\Below w.heap.size w w':=by
 have HF:=hid hf
 have HL:=hid (show 14<=L by omega)
 have c1:(L:Int)<=(cp:Int):=hL2.1
 have c2:(cp:Int)<=9223372036854775807:=hL2.2
 have MK:=bP (fun i hi=>hf.lt i (by omega)) true hm
 have fb:(fc:Int)<256:=by have:=hf.lt 4 (by omega);omega
 have nb:(n:Int)<256:=by have:=hf.lt 5 (by omega);omega
 have f0':(0:Int)<=(fc:Int):=by omega
 have n0':(0:Int)<=(n:Int):=by omega
 have l4:(4:Int)<=(L:Int):=by omega
 have l4b:(4:Int)<(L:Int):=by omega
 have l5b:(5:Int)<(L:Int):=by omega
 have l4c:(4:Int)<=(cp:Int):=by omega
 have LL:=hid h6
 have HM:=hid (show 14+4*m=L/\1<=m/\m<=1024 from⟨hN,hm4,by omega⟩)
 have EF:=hid hF
 have BF:=hid hFb
 clear hFb h6 hF hN hm4
 have H45:=hid (show f 4=fc/\f 5=n from⟨h4,h5⟩)
 clear hm hf h4 h5 hL2
 obtain⟨A0,R0⟩:=aF w (.cells #[.int .i64 0,.int .u32 0,.int .u32 0,.slice none 0 0] 25)
 go_enter func10,ntmps10
 go_upto_region 1 with fail
 generalize hW:World.alloc w _=V0 at*
 obtain⟨gr,hgr⟩:=aB w.heap.size
 have HG:Hid (w.heap.size<=gr):=by show _<=_;omega
 rw[hgr]at R0 ⊢
 clear hgr hW
 have b4:=((HF.out.below A0.out).at0 (k:=4) (by have:=HL.out;omega)).2.2
 have b5:=((HF.out.below A0.out).at0 (k:=5) (by have:=HL.out;omega)).2.2
 rw[H45.out.1]at b4
 rw[H45.out.2]at b5
 go_wp2_with fail
 go_region
 clear b4 b5
 have A1:Hid (Ab w V0.drew):=A0.out.drew
 have R1:Hid (V0.drew.heap[gr]? =some (.cells #[.int .i64 0,.int .u32 0,.int .u32 0,.slice none 0 0] 25)):=R0.out
 obtain⟨V1,hV1⟩:=aB V0.drew
 rw[hV1]at A1 R1 ⊢
 clear hV1 A0 R0
 have CV: ∀c:Nat,(convert 26 9 (.slice (some ⟨b,o,none⟩) 4 c)).run prog V1=.ok (.string (str f 4)) V1:=fun c=>aL underlying26 underlying5 underlying9 (by
  have q:=(HF.out.below A1.out).part 0 4 (by have:=HL.out;omega)
  simpa using q) (fun e=>by cases e)
 go_wp2_with fail
 refine(CF.out V1).mono ?_
 rintro e9 v9 ⟨rfl,hv9⟩
 have hv8:=hv9.symm
 subst hv8
 go_wp2_with fail
 refine(SZ.out V1).mono ?_
 rintro e9 v9 ⟨rfl,hv9⟩
 have hv8:=hv9.symm
 subst hv8
 clear SZ CV MK
 have b6:(6:Int)<=(L:Int):=by have:=HL.out;omega
 have b10:(10:Int)<=(L:Int):=by have:=HL.out;omega
 have b14:(14:Int)<=(L:Int):=by have:=HL.out;omega
 have p6: ¬cp=6:=by have:=HL.out;omega
 have p10: ¬cp=10:=by have:=HL.out;omega
 have p14: ¬cp=14:=by have:=HM.out;omega
 have FB:=hid (HF.out.below A1.out)
 have GG:Hid (∀v (i:Nat),Ab V1 v->i+4<=L->Calls prog 25 #[.slice (some ⟨b,o+i,none⟩) (L - i) (cp - i)] v fun e w'=>e=.returned (.int .u32 (G i:Nat))/\w'=v):=fun v i a hi=>by rw[<- LL.out i];exact nS b (o+i) (L - i) (cp - i) (fun j=>f (i+j)) v (by have:=HM.out;omega) ((FB.out.below a).part i (L - i) (by have:=HL.out;omega))
 have G14:Hid (∀v,Ab V1 v->Calls prog 26 #[.slice (some ⟨b,o+14,none⟩) (L - 14) (cp - 14)] v fun e w'=> ∃g,e=.returned (.slice (some ⟨g,0,none⟩) m m)/\Ab v w'/\v.heap.size<=g/\w'.rowIs g 22 m (fun i=>.int .u32 ((F i:Nat):Int))):=fun v a=>by
  have q:=gB b (o+14) m (cp - 14) (fun i=>f (14+i)) v (by have:=HM.out;omega) (by have:=HM.out;omega) (by omega) ((FB.out.below a).part 14 (4*m) (by have:=HM.out;omega))
  rw[show 4*m=L - 14 by have:=HM.out;omega,EF.out]at q
  exact q
 clear FB
 go_wp2_with fail
 go_cut [7]from 54 to 64 (fun s7 wx=> ∃gt g,s7=.pointer (some ⟨gt,0,none⟩)/\Ab V1 wx/\V1.heap.size<=gt/\V1.heap.size<=g/\wx.heap[gt]? =some (.cells #[.int .i64 (fc:Int),.int .u32 (G 6:Nat),.int .u32 (G 10:Nat),.slice (some ⟨g,0,none⟩) m m] 25)/\wx.rowIs g 22 m (fun i=>.int .u32 ((F i:Nat):Int)))
 case first=>
  have X0:Ab V1 V1:=Ab.refl V1
  go_region_held3 (fun w'=>Ab V1 w') ((with_reducible (repeat(first | assumption | apply Ab.drew | apply Ab.alloc | (refine Ab.setk ?_ (by first | assumption | exact Nat.le_refl _ | exact Ab.size (by assumption)) _)));done)) (first
   | (go_at_call 25;refine(GG.out _ _ (by with_reducible (repeat(first | assumption | apply Ab.drew | apply Ab.alloc))) (by have:=HM.out;omega)).mono ?_;rintro e9 z2 ⟨rfl,hz2⟩;have hz3:=hz2.symm;subst hz3)
   | (go_at_call 26;refine(G14.out _ (by with_reducible (repeat(first | assumption | apply Ab.drew | apply Ab.alloc)))).mono ?_;rintro e9 z2 ⟨g,rfl,a9,l9,r9⟩;have az2:Ab V1 z2:=Ab.trans (show Ab V1 _ by with_reducible (repeat(first | assumption | apply Ab.drew | apply Ab.alloc))) a9;have lg:V1.heap.size<=g:=Nat.le_trans (Ab.size (show Ab V1 _ by with_reducible (repeat(first | assumption | apply Ab.drew | apply Ab.alloc)))) l9;first | (have q2:=Ab.heap a9 (heap_drew_new _ _);have t0:=aA 0 q2;have t1:=aA 1 q2;have t2:=aA 2 q2;have t3:=aA 3 q2;have f0:=aC q2 0;have f1:=aC q2 1;have f2:=aC q2 2;have f3:=aC q2 3;skip) | (have q2:=Ab.heap a9 (heap_alloc_new _ _);have t0:=aA 0 q2;have t1:=aA 1 q2;have t2:=aA 2 q2;have t3:=aA 3 q2;have f0:=aC q2 0;have f1:=aC q2 1;have f2:=aC q2 2;have f3:=aC q2 3;skip) | skip))
  all_goals(try go_wp2_with fail)
  all_goals(try go_meet)
  all_goals first
   | exact⟨_,g,rfl,az2.alloc _,az2.size,lg,heap_alloc_new _ _,r9.alloc _⟩
   | (have ne:g≠V1.heap.size:=(by have l8:=l9;simp at l8;omega);exact⟨_,g,rfl,(((az2.setk (Nat.le_refl _) _).setk (Nat.le_refl _) _).setk (Nat.le_refl _) _).setk (Nat.le_refl _) _,Nat.le_refl _,lg,gG q2,(((r9.setOther (a:=⟨V1.heap.size,0,none⟩) ne _).setOther (a:=⟨V1.heap.size,1,none⟩) ne _).setOther (a:=⟨V1.heap.size,2,none⟩) ne _).setOther (a:=⟨V1.heap.size,3,none⟩) ne _⟩)
 case rest=>
 obtain⟨gt,g,rfl,ac,lt,lg,rt,rg⟩:=hcut
 have AC:=hid (A1.out.trans ac)
 have RT:=hid rt
 have RG:=hid rg
 have R2:=hid (Ab.heap ac R1.out)
 have LN:=hid (show V1.heap.size<=g/\V1.heap.size<=gt from⟨lg,lt⟩)
 have LR:=hid (lt_of_block R1.out)
 clear ac lt lg rt rg R1 GG G14
 have t0:=aA 0 RT.out
 have t1:=aA 1 RT.out
 have t2:=aA 2 RT.out
 have t3:=aA 3 RT.out
 go_wp2_with fail
 refine(CB.out wc g m AC.out (bF RG.out (by have:=BF.out;exact this)) (Nat.le_refl _) (by have:=HM.out;omega)).mono ?_
 rintro e9 v3 ⟨rfl,b3⟩
 have A3:Hid (Ab w v3):=Ab.trans AC.out b3
 have R3:=hid (Ab.heap b3 R2.out)
 have RT3:=hid (Ab.heap b3 RT.out)
 have RG3:=hid (Sh.aD RG.out b3)
 clear b3 t0 t1 t2 t3
 have t0:=aA 0 R3.out
 have t1:=aA 1 R3.out
 have t2:=aA 2 R3.out
 have t3:=aA 3 R3.out
 have f0:=aC R3.out 0
 have f1:=aC R3.out 1
 have f2:=aC R3.out 2
 have f3:=aC R3.out 3
 go_wp2_with fail
 (try simp only[Exit.inBlock,Exit.then])
 refine bodyPost_ret (v:=.tuple #[.agg #[.int .i64 0,.int .u32 0,.int .u32 0,.slice none 0 0],.int .i64 30]) ?_ rfl ?_
 ·exact bT results10 _ _ gr _ _ (0,0) _ _ rfl rfl (gG R3.out) underlying25 rfl (by kernel_rfl)
 ·exact⟨rfl,(((A3.out.setk HG.out _).setk HG.out _).setk HG.out _).setk HG.out _⟩
theorem dec_8(b o L cp:Nat)(f:Nat->Nat)(fc n:Nat)(w:World)(hL:(14:Int)<=(L:Int))(hL2:(L:Int)<=(cp:Int)/\(cp:Int)<=9223372036854775807)(hf:IsW .u8 256 w (some ⟨b,o,none⟩) L f)(h4:f 4=fc)(h5:f 5=n)(hm:decide (f 0=84/\f 1=73/\f 2=76/\f 3=69)=true)(CF:Hid (∀v,Calls prog 24 #[.int .i64 (fc:Int)] v fun e w'=>e=.returned (.bool true)/\w'=v))(hn: ¬(n:Int)<1)(hn2: ¬(32:Int)<(n:Int))(m:Nat)(hm2:(n:Int)*(n:Int)=(m:Int))(hm3:(m:Int)<=1024)(SZ:Hid (∀v,Calls prog 20 #[.int .i64 (m:Int)] v fun e w'=>e=.returned (.int .i64 (L:Int))/\w'=v))(G F:Nat->Nat)(hFb: ∀i,i<m->F i<4294967296)(h6: ∀i,num (fun j=>f (i+j)) 0=G i)(hF:rx (fun k=>num (fun i=>f (14+i)) (4*k))=F)(hN:14+4*m=L)(hm4:1<=m)(CB:Hid (∀v g c,Ab w v->IsW .u32 4294967296 v (some ⟨g,0,none⟩) m F->m<=c->c<=70368744177664->Calls prog 19 #[.agg #[.int .i64 (fc:Int),.int .u32 ((G 6:Nat):Int),.int .u32 ((G 10:Nat):Int),.slice (some ⟨g,0,none⟩) m c]] v fun e w'=>e=.returned (.bool true)/\Below v.heap.size v w')):
  Calls prog 10 #[.slice (some ⟨b,o,none⟩) L cp] w fun e w'=> ∃g,e=.returned (.tuple #[.agg #[.int .i64 (fc:Int),.int .u32 (G 6:Nat),.int .u32 (G 10:Nat),.slice (some ⟨g,0,none⟩) m m],.int .i64 0])/\Below w.heap.size w w'/\w.heap.size<=g/\w'.rowIs g 22 m (fun i=>.int .u32 ((F i:Nat):Int)):=by
 have HF:=hid hf
 have HL:=hid (show 14<=L by omega)
 have c1:(L:Int)<=(cp:Int):=hL2.1
 have c2:(cp:Int)<=9223372036854775807:=hL2.2
 have MK:=bP (fun i hi=>hf.lt i (by omega)) true hm
 have fb:(fc:Int)<256:=by have:=hf.lt 4 (by omega);omega
 have nb:(n:Int)<256:=by have:=hf.lt 5 (by omega);omega
 have f0':(0:Int)<=(fc:Int):=by omega
 have n0':(0:Int)<=(n:Int):=by omega
 have l4:(4:Int)<=(L:Int):=by omega
 have l4b:(4:Int)<(L:Int):=by omega
 have l5b:(5:Int)<(L:Int):=by omega
 have l4c:(4:Int)<=(cp:Int):=by omega
 have LL:=hid h6
 have HM:=hid (show 14+4*m=L/\1<=m/\m<=1024 from⟨hN,hm4,by omega⟩)
 have EF:=hid hF
 have BF:=hid hFb
 clear hFb h6 hF hN hm4
 have H45:=hid (show f 4=fc/\f 5=n from⟨h4,h5⟩)
 clear hm hf h4 h5 hL2
 obtain⟨A0,R0⟩:=aF w (.cells #[.int .i64 0,.int .u32 0,.int .u32 0,.slice none 0 0] 25)
 go_enter func10,ntmps10
 go_upto_region 1 with fail
 generalize hW:World.alloc w _=V0 at*
 obtain⟨gr,hgr⟩:=aB w.heap.size
 have HG:Hid (w.heap.size<=gr):=by show _<=_;omega
 rw[hgr]at R0 ⊢
 clear hgr hW
 have b4:=((HF.out.below A0.out).at0 (k:=4) (by have:=HL.out;omega)).2.2
 have b5:=((HF.out.below A0.out).at0 (k:=5) (by have:=HL.out;omega)).2.2
 rw[H45.out.1]at b4
 rw[H45.out.2]at b5
 go_wp2_with fail
 go_region
 clear b4 b5
 have A1:Hid (Ab w V0.drew):=A0.out.drew
 have R1:Hid (V0.drew.heap[gr]? =some (.cells #[.int .i64 0,.int .u32 0,.int .u32 0,.slice none 0 0] 25)):=R0.out
 obtain⟨V1,hV1⟩:=aB V0.drew
 rw[hV1]at A1 R1 ⊢
 clear hV1 A0 R0
 have CV: ∀c:Nat,(convert 26 9 (.slice (some ⟨b,o,none⟩) 4 c)).run prog V1=.ok (.string (str f 4)) V1:=fun c=>aL underlying26 underlying5 underlying9 (by
  have q:=(HF.out.below A1.out).part 0 4 (by have:=HL.out;omega)
  simpa using q) (fun e=>by cases e)
 go_wp2_with fail
 refine(CF.out V1).mono ?_
 rintro e9 v9 ⟨rfl,hv9⟩
 have hv8:=hv9.symm
 subst hv8
 go_wp2_with fail
 refine(SZ.out V1).mono ?_
 rintro e9 v9 ⟨rfl,hv9⟩
 have hv8:=hv9.symm
 subst hv8
 clear SZ CV MK
 have b6:(6:Int)<=(L:Int):=by have:=HL.out;omega
 have b10:(10:Int)<=(L:Int):=by have:=HL.out;omega
 have b14:(14:Int)<=(L:Int):=by have:=HL.out;omega
 have p6: ¬cp=6:=by have:=HL.out;omega
 have p10: ¬cp=10:=by have:=HL.out;omega
 have p14: ¬cp=14:=by have:=HM.out;omega
 have FB:=hid (HF.out.below A1.out)
 have GG:Hid (∀v (i:Nat),Ab V1 v->i+4<=L->Calls prog 25 #[.slice (some ⟨b,o+i,none⟩) (L - i) (cp - i)] v fun e w'=>e=.returned (.int .u32 (G i:Nat))/\w'=v):=fun v i a hi=>by rw[<- LL.out i];exact nS b (o+i) (L - i) (cp - i) (fun j=>f (i+j)) v (by have:=HM.out;omega) ((FB.out.below a).part i (L - i) (by have:=HL.out;omega))
 have G14:Hid (∀v,Ab V1 v->Calls prog 26 #[.slice (some ⟨b,o+14,none⟩) (L - 14) (cp - 14)] v fun e w'=> ∃g,e=.returned (.slice (some ⟨g,0,none⟩) m m)/\Ab v w'/\v.heap.size<=g/\w'.rowIs g 22 m (fun i=>.int .u32 ((F i:Nat):Int))):=fun v a=>by
  have q:=gB b (o+14) m (cp - 14) (fun i=>f (14+i)) v (by have:=HM.out;omega) (by have:=HM.out;omega) (by omega) ((FB.out.below a).part 14 (4*m) (by have:=HM.out;omega))
  rw[show 4*m=L - 14 by have:=HM.out;omega,EF.out]at q
  exact q
 clear FB
 go_wp2_with fail
 go_cut [7]from 54 to 64 (fun s7 wx=> ∃gt g,s7=.pointer (some ⟨gt,0,none⟩)/\Ab V1 wx/\V1.heap.size<=gt/\V1.heap.size<=g/\wx.heap[gt]? =some (.cells #[.int .i64 (fc:Int),.int .u32 (G 6:Nat),.int .u32 (G 10:Nat),.slice (some ⟨g,0,none⟩) m m] 25)/\wx.rowIs g 22 m (fun i=>.int .u32 ((F i:Nat):Int)))
 case first=>
  have X0:Ab V1 V1:=Ab.refl V1
  go_region_held3 (fun w'=>Ab V1 w') ((with_reducible (repeat(first | assumption | apply Ab.drew | apply Ab.alloc | (refine Ab.setk ?_ (by first | assumption | exact Nat.le_refl _ | exact Ab.size (by assumption)) _)));done)) (first
   | (go_at_call 25;refine(GG.out _ _ (by with_reducible (repeat(first | assumption | apply Ab.drew | apply Ab.alloc))) (by have:=HM.out;omega)).mono ?_;rintro e9 z2 ⟨rfl,hz2⟩;have hz3:=hz2.symm;subst hz3)
   | (go_at_call 26;refine(G14.out _ (by with_reducible (repeat(first | assumption | apply Ab.drew | apply Ab.alloc)))).mono ?_;rintro e9 z2 ⟨g,rfl,a9,l9,r9⟩;have az2:Ab V1 z2:=Ab.trans (show Ab V1 _ by with_reducible (repeat(first | assumption | apply Ab.drew | apply Ab.alloc))) a9;have lg:V1.heap.size<=g:=Nat.le_trans (Ab.size (show Ab V1 _ by with_reducible (repeat(first | assumption | apply Ab.drew | apply Ab.alloc)))) l9;first | (have q2:=Ab.heap a9 (heap_drew_new _ _);have t0:=aA 0 q2;have t1:=aA 1 q2;have t2:=aA 2 q2;have t3:=aA 3 q2;have f0:=aC q2 0;have f1:=aC q2 1;have f2:=aC q2 2;have f3:=aC q2 3;skip) | (have q2:=Ab.heap a9 (heap_alloc_new _ _);have t0:=aA 0 q2;have t1:=aA 1 q2;have t2:=aA 2 q2;have t3:=aA 3 q2;have f0:=aC q2 0;have f1:=aC q2 1;have f2:=aC q2 2;have f3:=aC q2 3;skip) | skip))
  all_goals(try go_wp2_with fail)
  all_goals(try go_meet)
  all_goals first
   | exact⟨_,g,rfl,az2.alloc _,az2.size,lg,heap_alloc_new _ _,r9.alloc _⟩
   | (have ne:g≠V1.heap.size:=(by have l8:=l9;simp at l8;omega);exact⟨_,g,rfl,(((az2.setk (Nat.le_refl _) _).setk (Nat.le_refl _) _).setk (Nat.le_refl _) _).setk (Nat.le_refl _) _,Nat.le_refl _,lg,gG q2,(((r9.setOther (a:=⟨V1.heap.size,0,none⟩) ne _).setOther (a:=⟨V1.heap.size,1,none⟩) ne _).setOther (a:=⟨V1.heap.size,2,none⟩) ne _).setOther (a:=⟨V1.heap.size,3,none⟩) ne _⟩)
 case rest=>
 obtain⟨gt,g,rfl,ac,lt,lg,rt,rg⟩:=hcut
 have AC:=hid (A1.out.trans ac)
 have RT:=hid rt
 have RG:=hid rg
 have R2:=hid (Ab.heap ac R1.out)
 have LN:=hid (show V1.heap.size<=g/\V1.heap.size<=gt from⟨lg,lt⟩)
 have LR:=hid (lt_of_block R1.out)
 clear ac lt lg rt rg R1 GG G14
 have t0:=aA 0 RT.out
 have t1:=aA 1 RT.out
 have t2:=aA 2 RT.out
 have t3:=aA 3 RT.out
 go_wp2_with fail
 refine(CB.out wc g m AC.out (bF RG.out (by have:=BF.out;exact this)) (Nat.le_refl _) (by have:=HM.out;omega)).mono ?_
 rintro e9 v3 ⟨rfl,b3⟩
 have A3:Hid (Ab w v3):=Ab.trans AC.out b3
 have R3:=hid (Ab.heap b3 R2.out)
 have RT3:=hid (Ab.heap b3 RT.out)
 have RG3:=hid (Sh.aD RG.out b3)
 clear b3 t0 t1 t2 t3
 have t0:=aA 0 RT3.out
 have t1:=aA 1 RT3.out
 have t2:=aA 2 RT3.out
 have t3:=aA 3 RT3.out
 have t4:=aA 0 R3.out
 have t5:=aA 1 R3.out
 have t6:=aA 2 R3.out
 have t7:=aA 3 R3.out
 have f0:=aC R3.out 0
 have f1:=aC R3.out 1
 have f2:=aC R3.out 2
 have f3:=aC R3.out 3
 go_wp2_with fail
 (try simp only[Exit.inBlock,Exit.then])
 have ne:g≠gr:=by have:=LN.out;have:=LR.out;omega
 refine bodyPost_ret (v:=.tuple #[.agg #[.int .i64 (fc:Int),.int .u32 (G 6:Nat),.int .u32 (G 10:Nat),.slice (some ⟨g,0,none⟩) m m],.int .i64 0]) ?_ rfl ?_
 ·exact bT results10 _ _ gr _ _ (0,0) _ _ rfl rfl (gG R3.out) underlying25 rfl (by kernel_rfl)
 ·exact⟨g,rfl,(((A3.out.setk HG.out _).setk HG.out _).setk HG.out _).setk HG.out _,by have:=LN.out;have:=A1.out.size;omega,(((RG3.out.setOther (a:=⟨gr,0,none⟩) ne _).setOther (a:=⟨gr,1,none⟩) ne _).setOther (a:=⟨gr,2,none⟩) ne _).setOther (a:=⟨gr,3,none⟩) ne _⟩
end Ti
end
section
open Go.RowKit Go.Deep Tf
namespace Ti
def dErr(L:Nat)(f:Nat->Nat):Int:=
 if derr L f≠0 then derr L f else if okT ((f 4:Nat):Int) (f 5*f 5) (dec f) (num f 6) (num f 10)=true then 0 else 30
theorem dG{n:Nat}(h1:1<=n)(h2:n<=32):n*n<=1024/\1<=n*n:=by
 have p1:1*1<=n*n:=Nat.mul_le_mul h1 h1
 have p2:n*n<=32*32:=Nat.mul_le_mul h2 h2
 omega
theorem rx_dec(f:Nat->Nat):rx (fun k=>num (fun i=>f (14+i)) (4*k))=dec f:=by
 funext k
 unfold dec
 have e:(fun k=>num (fun i=>f (14+i)) (4*k))=fun k=>num f (14+4*k):=by
  funext k
  rfl
 rw[e]
theorem derr_ne{L:Nat}{f:Nat->Nat}(h:dErr L f=0):derr L f=0/\okT ((f 4:Nat):Int) (f 5*f 5) (dec f) (num f 6) (num f 10)=true:=by
 unfold dErr at h
 by_cases c:derr L f≠0
 ·rw[if_pos c]at h;exact absurd h c
 ·rw[if_neg c]at h
  refine⟨by simpa using c,?_⟩
  by_cases d:okT ((f 4:Nat):Int) (f 5*f 5) (dec f) (num f 6) (num f 10)=true
  ·exact d
  ·rw[if_neg d]at h;exact absurd h (by decide)
theorem derr_0{L:Nat}{f:Nat->Nat}(h:derr L f=0):(f 0=84/\f 1=73/\f 2=76/\f 3=69)/\f 4<=5/\(1<=f 5/\f 5<=32)/\14+4*(f 5*f 5)=L:=by
 unfold derr at h
 by_cases c1:L<14
 ·rw[if_pos c1]at h;exact absurd h (by decide)
 rw[if_neg c1]at h
 by_cases c2:((f 0=84/\f 1=73/\f 2=76/\f 3=69)/\f 4<=5/\1<=f 5/\f 5<=32)
 ·rw[if_neg (fun q=>q c2)]at h
  by_cases c3:L<14+4*(f 5*f 5)
  ·rw[if_pos c3]at h;exact absurd h (by decide)
  rw[if_neg c3]at h
  by_cases c4:14+4*(f 5*f 5)<L
  ·rw[if_pos c4]at h;exact absurd h (by decide)
  exact⟨c2.1,c2.2.1,c2.2.2,by omega⟩
 ·rw[if_pos c2]at h;exact absurd h (by decide)
theorem dec_32{L:Nat}{f:Nat->Nat}{m:Nat}(hb: ∀i,i<L->f i<256)(hm:14+4*m<=L): ∀i,i<m->dec f i<4294967296:=fun i hi=>rx_lt fun j hj=>by
 have e0:=hb (14+4*j) (by omega)
 have e1:=hb (14+4*j+1) (by omega)
 have e2:=hb (14+4*j+2) (by omega)
 have e3:=hb (14+4*j+3) (by omega)
 show num f (14+4*j)<_
 unfold num
 omega
theorem eR(p:Option Addr)(L cp:Nat)(f:Nat->Nat)(w:World)(hL:L<=cp/\cp<=9223372036854775807)(hf:IsW .u8 256 w p L f)(h:dErr L f=0):
  Calls prog 10 #[.slice p L cp] w fun e w'=> ∃g,e=.returned (.tuple #[.agg #[.int .i64 ((f 4:Nat):Int),.int .u32 ((num f 6:Nat):Int),.int .u32 ((num f 10:Nat):Int),.slice (some ⟨g,0,none⟩) (f 5*f 5:Nat) (f 5*f 5:Nat)],.int .i64 0])/\Below w.heap.size w w'/\w.heap.size<=g/\w'.rowIs g 22 (f 5*f 5) (fun i=>.int .u32 ((dec f i:Nat):Int)):=by
 obtain⟨e1,e2⟩:=derr_ne h
 obtain⟨h1,h2,h3,h4⟩:=derr_0 e1
 obtain⟨b,o,rfl⟩:=hf.some0 (by omega)
 have s:=dG h3.1 h3.2
 obtain⟨m,hm⟩:=aB (f 5*f 5)
 rw[hm]at s e2 h4 ⊢
 exact dec_8 b o L cp f (f 4) (f 5) w (by omega) (by omega) hf rfl rfl (decide_eq_true h1) (hid fun v=>dM _ true v (decide_eq_true (by omega))) (by omega) (by omega) m (by rw[<- hm];exact(Int.natCast_mul _ _).symm) (by omega) (hid fun v=>by have q:=kG (m:Int) v (by omega) (by omega);rwa [show(14:Int)+4*(m:Int)=(L:Int)by omega]at q) (num f) (dec f) (dec_32 hf.lt (by omega)) (fun i=>by
  unfold num
  rfl) (rx_dec f) h4 (by omega) (hid fun v g c _ iw hc1 hc2=>by rw[<- e2];exact fK _ _ _ _ m c (dec f) v ⟨by omega,by omega,by omega⟩ iw)
theorem qK(p:Option Addr)(L cp:Nat)(f:Nat->Nat)(w:World)(hL:L<=cp/\cp<=9223372036854775807)(hf:IsW .u8 256 w p L f)(h:dErr L f≠0):
  Calls prog 10 #[.slice p L cp] w fun e w'=>e=.returned (.tuple #[.agg #[.int .i64 0,.int .u32 0,.int .u32 0,.slice none 0 0],.int .i64 (dErr L f)])/\Below w.heap.size w w':=by
 by_cases c1:L<14
 ·have e:derr L f=31:=by unfold derr;rw[if_pos c1]
  have e2:dErr L f=31:=by unfold dErr;rw[e];rfl
  rw[e2]
  exact dec_0 p L cp w (by omega)
 obtain⟨b,o,rfl⟩:=hf.some0 (by omega)
 have F0:=fun r (q:decide (0<=((f 4:Nat):Int)/\((f 4:Nat):Int)<6)=r)=>hid fun v=>dM ((f 4:Nat):Int) r v q
 by_cases c2:((f 0=84/\f 1=73/\f 2=76/\f 3=69)/\f 4<=5/\1<=f 5/\f 5<=32)
 ·obtain⟨h1,h2,h3⟩:=c2
  have s:=dG h3.1 h3.2
  obtain⟨m,hm⟩:=aB (f 5*f 5)
  have hq:((f 5:Nat):Int)*((f 5:Nat):Int)=(m:Int):=by rw[<- hm];exact(Int.natCast_mul _ _).symm
  rw[hm]at s
  have SZ:=fun N:Nat=>fun(e:14+4*m=N)=>hid fun v=>by have q:=kG (m:Int) v (by omega) (by omega);rwa [show(14:Int)+4*(m:Int)=(N:Int)by omega]at q
  have FT:=F0 true (decide_eq_true (by omega))
  by_cases c3:L<14+4*m
  ·have e:derr L f=31:=by unfold derr;rw[if_neg c1,if_neg (fun q=>q ⟨h1,h2,h3⟩),hm,if_pos c3]
   have e2:dErr L f=31:=by unfold dErr;rw[e];rfl
   rw[e2]
   exact dec_5 b o L cp f (f 4) (f 5) w (by omega) (by omega) hf rfl rfl (decide_eq_true h1) FT (by omega) (by omega) m (14+4*m) hq (by omega) (SZ _ rfl) (by omega)
  by_cases c4:14+4*m<L
  ·have e:derr L f=3:=by unfold derr;rw[if_neg c1,if_neg (fun q=>q ⟨h1,h2,h3⟩),hm,if_neg c3,if_pos c4]
   have e2:dErr L f=3:=by unfold dErr;rw[e];rfl
   rw[e2]
   exact dec_6 b o L cp f (f 4) (f 5) w (by omega) (by omega) hf rfl rfl (decide_eq_true h1) FT (by omega) (by omega) m (14+4*m) hq (by omega) (SZ _ rfl) (by omega)
  ·have e:derr L f=0:=by unfold derr;rw[if_neg c1,if_neg (fun q=>q ⟨h1,h2,h3⟩),hm,if_neg c3,if_neg c4]
   have e4:okT ((f 4:Nat):Int) m (dec f) (num f 6) (num f 10)=false:=by
    cases k:okT ((f 4:Nat):Int) m (dec f) (num f 6) (num f 10)with
    | false=>rfl
    | true=>exact absurd (by unfold dErr;rw[e,hm,if_neg (by decide),if_pos k]) h
   have e2:dErr L f=30:=by unfold dErr;rw[e,hm,e4];rfl
   rw[e2]
   exact dec_7 b o L cp f (f 4) (f 5) w (by omega) (by omega) hf rfl rfl (decide_eq_true h1) FT (by omega) (by omega) m hq (by omega) (SZ L (by omega)) (num f) (dec f) (dec_32 hf.lt (by omega)) (fun i=>by
    unfold num
    rfl) (rx_dec f) (by omega) (by omega) (hid fun v g c _ iw hc1 hc2=>by rw[<- e4];exact fK _ _ _ _ m c (dec f) v ⟨by omega,by omega,by omega⟩ iw)
 ·have e:derr L f=30:=by unfold derr;rw[if_neg c1,if_pos c2]
  have e2:dErr L f=30:=by unfold dErr;rw[e];rfl
  rw[e2]
  by_cases h1:(f 0=84/\f 1=73/\f 2=76/\f 3=69)
  ·by_cases h2:f 4<=5
   ·have FT:=F0 true (decide_eq_true (by omega))
    by_cases h3:1<=f 5
    ·exact dec_4 b o L cp f (f 4) (f 5) w (by omega) (by omega) hf rfl rfl (decide_eq_true h1) FT (by omega) (by omega)
    ·exact dec_3 b o L cp f (f 4) (f 5) w (by omega) (by omega) hf rfl rfl (decide_eq_true h1) FT (by omega)
   ·exact dec_2 b o L cp f (f 4) (f 5) w (by omega) (by omega) hf rfl rfl (decide_eq_true h1) (F0 false (decide_eq_false (by omega)))
  ·exact dec_1 b o L cp f (f 4) (f 5) w (by omega) (by omega) hf rfl rfl (decide_eq_false h1)
end Ti
end
section
open Go.RowKit Go.Deep Tf
namespace Ti
def eqT(fa fb:Int)(la lb ma mb m n:Nat)(f g:Nat->Nat):Bool:=decide (fa=fb/\la=lb/\ma=mb/\m=n/\ ∀i,i<m->f i=g i)
theorem same_0(fa fb:Int)(la lb ma mb:Nat)(p q:Option Addr)(m n cp cq:Nat)(w:World)(e0:(fa != fb)=true):
  Calls prog 11 #[.agg #[.int .i64 fa,.int .u32 (la:Int),.int .u32 (ma:Int),.slice p m cp],.agg #[.int .i64 fb,.int .u32 (lb:Int),.int .u32 (mb:Int),.slice q n cq]] w fun e w'=>e=.returned (.bool false)/\Below w.heap.size w w':=by
 obtain⟨A0,R0,R1⟩:=fH w (.cells #[.int .i64 fa,.int .u32 (la:Int),.int .u32 (ma:Int),.slice p m cp] 25) (.cells #[.int .i64 fb,.int .u32 (lb:Int),.int .u32 (mb:Int),.slice q n cq] 25)
 go_enter func11,ntmps11
 go_upto_region 1 with fail
 generalize hW:World.alloc (World.alloc w _) _=V0 at*
 obtain⟨ga,hga⟩:=aB w.heap.size
 obtain⟨gb,hgb⟩:=aB (w.heap.size+1)
 rw[hgb]at R1 ⊢
 rw[hga]at R0 ⊢
 clear hga hgb hW
 have y0:=aA 0 R0.out
 have y1:=aA 1 R0.out
 have y2:=aA 2 R0.out
 have y3:=aA 3 R0.out
 have z0:=aA 0 R1.out
 have z1:=aA 1 R1.out
 have z2:=aA 2 R1.out
 have z3:=aA 3 R1.out
 go_wp2
 go_ret
 exact⟨rfl,A0.out⟩
theorem same_1(fa fb:Int)(la lb ma mb:Nat)(p q:Option Addr)(m n cp cq:Nat)(w:World)(e0:(fa != fb)=false)(e1:((la:Int) != (lb:Int))=true):
  Calls prog 11 #[.agg #[.int .i64 fa,.int .u32 (la:Int),.int .u32 (ma:Int),.slice p m cp],.agg #[.int .i64 fb,.int .u32 (lb:Int),.int .u32 (mb:Int),.slice q n cq]] w fun e w'=>e=.returned (.bool false)/\Below w.heap.size w w':=by
 obtain⟨A0,R0,R1⟩:=fH w (.cells #[.int .i64 fa,.int .u32 (la:Int),.int .u32 (ma:Int),.slice p m cp] 25) (.cells #[.int .i64 fb,.int .u32 (lb:Int),.int .u32 (mb:Int),.slice q n cq] 25)
 go_enter func11,ntmps11
 go_upto_region 1 with fail
 generalize hW:World.alloc (World.alloc w _) _=V0 at*
 obtain⟨ga,hga⟩:=aB w.heap.size
 obtain⟨gb,hgb⟩:=aB (w.heap.size+1)
 rw[hgb]at R1 ⊢
 rw[hga]at R0 ⊢
 clear hga hgb hW
 have y0:=aA 0 R0.out
 have y1:=aA 1 R0.out
 have y2:=aA 2 R0.out
 have y3:=aA 3 R0.out
 have z0:=aA 0 R1.out
 have z1:=aA 1 R1.out
 have z2:=aA 2 R1.out
 have z3:=aA 3 R1.out
 go_wp2
 go_ret
 exact⟨rfl,A0.out⟩
theorem same_2(fa fb:Int)(la lb ma mb:Nat)(p q:Option Addr)(m n cp cq:Nat)(w:World)(e0:(fa != fb)=false)(e1:((la:Int) != (lb:Int))=false)(e2:((ma:Int) != (mb:Int))=true):
  Calls prog 11 #[.agg #[.int .i64 fa,.int .u32 (la:Int),.int .u32 (ma:Int),.slice p m cp],.agg #[.int .i64 fb,.int .u32 (lb:Int),.int .u32 (mb:Int),.slice q n cq]] w fun e w'=>e=.returned (.bool false)/\Below w.heap.size w w':=by
 obtain⟨A0,R0,R1⟩:=fH w (.cells #[.int .i64 fa,.int .u32 (la:Int),.int .u32 (ma:Int),.slice p m cp] 25) (.cells #[.int .i64 fb,.int .u32 (lb:Int),.int .u32 (mb:Int),.slice q n cq] 25)
 go_enter func11,ntmps11
 go_upto_region 1 with fail
 generalize hW:World.alloc (World.alloc w _) _=V0 at*
 obtain⟨ga,hga⟩:=aB w.heap.size
 obtain⟨gb,hgb⟩:=aB (w.heap.size+1)
 rw[hgb]at R1 ⊢
 rw[hga]at R0 ⊢
 clear hga hgb hW
 have y0:=aA 0 R0.out
 have y1:=aA 1 R0.out
 have y2:=aA 2 R0.out
 have y3:=aA 3 R0.out
 have z0:=aA 0 R1.out
 have z1:=aA 1 R1.out
 have z2:=aA 2 R1.out
 have z3:=aA 3 R1.out
 go_wp2
 go_ret
 exact⟨rfl,A0.out⟩
theorem same_3(fa fb:Int)(la lb ma mb:Nat)(p q:Option Addr)(m n cp cq:Nat)(w:World)(e0:(fa != fb)=false)(e1:((la:Int) != (lb:Int))=false)(e2:((ma:Int) != (mb:Int))=false)(e3:((m:Int) != (n:Int))=true):
  Calls prog 11 #[.agg #[.int .i64 fa,.int .u32 (la:Int),.int .u32 (ma:Int),.slice p m cp],.agg #[.int .i64 fb,.int .u32 (lb:Int),.int .u32 (mb:Int),.slice q n cq]] w fun e w'=>e=.returned (.bool false)/\Below w.heap.size w w':=by
 obtain⟨A0,R0,R1⟩:=fH w (.cells #[.int .i64 fa,.int .u32 (la:Int),.int .u32 (ma:Int),.slice p m cp] 25) (.cells #[.int .i64 fb,.int .u32 (lb:Int),.int .u32 (mb:Int),.slice q n cq] 25)
 go_enter func11,ntmps11
 go_upto_region 1 with fail
 generalize hW:World.alloc (World.alloc w _) _=V0 at*
 obtain⟨ga,hga⟩:=aB w.heap.size
 obtain⟨gb,hgb⟩:=aB (w.heap.size+1)
 rw[hgb]at R1 ⊢
 rw[hga]at R0 ⊢
 clear hga hgb hW
 have y0:=aA 0 R0.out
 have y1:=aA 1 R0.out
 have y2:=aA 2 R0.out
 have y3:=aA 3 R0.out
 have z0:=aA 0 R1.out
 have z1:=aA 1 R1.out
 have z2:=aA 2 R1.out
 have z3:=aA 3 R1.out
 go_wp2
 go_ret
 exact⟨rfl,A0.out⟩
theorem same_4(fa fb:Int)(la lb ma mb:Nat)(p q:Option Addr)(m cp cq:Nat)(f g:Nat->Nat)(r:Bool)(w:World)(e0:(fa != fb)=false)(e1:((la:Int) != (lb:Int))=false)(e2:((ma:Int) != (mb:Int))=false)(hm:m<=70368744177664)(hf:IsW .u32 4294967296 w p m f)(hg:IsW .u32 4294967296 w q m g)(hr:decide (∀i,i<m->f i=g i)=r):
  Calls prog 11 #[.agg #[.int .i64 fa,.int .u32 (la:Int),.int .u32 (ma:Int),.slice p m cp],.agg #[.int .i64 fb,.int .u32 (lb:Int),.int .u32 (mb:Int),.slice q m cq]] w fun e w'=>e=.returned (.bool r)/\Below w.heap.size w w':=by
 obtain⟨A0,R0,R1⟩:=fH w (.cells #[.int .i64 fa,.int .u32 (la:Int),.int .u32 (ma:Int),.slice p m cp] 25) (.cells #[.int .i64 fb,.int .u32 (lb:Int),.int .u32 (mb:Int),.slice q m cq] 25)
 go_enter func11,ntmps11
 go_upto_region 1 with fail
 generalize hW:World.alloc (World.alloc w _) _=V0 at*
 obtain⟨ga,hga⟩:=aB w.heap.size
 obtain⟨gb,hgb⟩:=aB (w.heap.size+1)
 rw[hgb]at R1 ⊢
 rw[hga]at R0 ⊢
 clear hga hgb hW
 have y0:=aA 0 R0.out
 have y1:=aA 1 R0.out
 have y2:=aA 2 R0.out
 have y3:=aA 3 R0.out
 have z0:=aA 0 R1.out
 have z1:=aA 1 R1.out
 have z2:=aA 2 R1.out
 have z3:=aA 3 R1.out
 have HF:=hid (hf.below A0.out)
 have HG:=hid (hg.below A0.out)
 have HM:=hid hm
 have HR:=hid hr
 clear hf hg hm hr
 have e3:((m:Int) != (m:Int))=false:=by simp
 go_wp2
 go_loopw [5] (fun iv wr=> ∃c:Nat,c<=m/\iv=.int .i64 (c:Nat)/\(∀i,i<c->f i=g i)/\ ∃k,wr=V0.drewN k) (fun iv _=>m - (intOf iv).toNat)
 case atStart=>exact⟨0,by omega,rfl,fun i hi=>absurd hi (Nat.not_lt_zero i),0,rfl⟩
 case round=>
  obtain⟨c,hc,rfl,g1,k,rfl⟩:=hrel
  have G1:=hid g1
  clear g1
  by_cases hcm:c<m
  ·have HC:=hid hcm
   have hcI:(c:Int)<m:=by omega
   have hcB:(c:Int)<=70368744177664:=by have:=HM.out;omega
   obtain⟨b1,o1,rfl⟩:=HF.out.some0 (show 0<m by omega)
   obtain⟨b2,o2,rfl⟩:=HG.out.some0 (show 0<m by omega)
   have x1:=(HF.out.at0 hcm).2.2
   have x2:=(HG.out.at0 hcm).2.2
   obtain⟨x,hx⟩:=aB (f c)
   obtain⟨y,hy⟩:=aB (g c)
   rw[hx]at x1
   rw[hy]at x2
   have HX:=hid (show f c=x/\g c=y from⟨hx,hy⟩)
   clear hx hy hcm hc
   have y3k:(V0.drewN k).cell? ⟨ga,3,none⟩=_:=y3
   have z3k:(V0.drewN k).cell? ⟨gb,3,none⟩=_:=z3
   have x1k:(V0.drewN k).cell? ⟨b1,o1+c,none⟩=_:=x1
   have x2k:(V0.drewN k).cell? ⟨b2,o2+c,none⟩=_:=x2
   cases he:((x:Int) != (y:Int))with
   | true=>
    have hr2:Hid (r=false):=by
     show _=_
     rw[<- HR.out]
     refine decide_eq_false (fun h=> ?_)
     have q:=h c HC.out
     rw[HX.out.1,HX.out.2]at q
     rw[q]at he
     simp at he
    go_wp2_with fail
    go_region
    go_wp2
    go_ret
    exact⟨by rw[hr2.out];rfl,A0.out.drewN _⟩
   | false=>
    have xy:x=y:=by
     simp at he
     omega
    have XY:=hid xy
    clear xy
    go_wp2_with fail
    go_region
    go_wp2
    refine⟨⟨c+1,by have:=HC.out;omega,by simp,fun i hi=> ?_,k+1,rfl⟩,by have:=HC.out;simp[intOf];omega⟩
    by_cases l:i<c
    ·exact G1.out i l
    ·rw[show i=c by omega,HX.out.1,HX.out.2,XY.out]
  ·have e6:m=c:=by omega
   subst e6
   have hr2:Hid (r=true):=by
    show _=_
    rw[<- HR.out]
    exact decide_eq_true G1.out
   have y3k:(V0.drewN k).cell? ⟨ga,3,none⟩=_:=y3
   go_wp2
   go_ret
   exact⟨by rw[hr2.out];rfl,A0.out.drewN _⟩
theorem cE(fa fb:Int)(la lb ma mb:Nat)(p q:Option Addr)(m n cp cq:Nat)(f g:Nat->Nat)(w:World)(hm:m<=70368744177664)(hf:IsW .u32 4294967296 w p m f)(hg:IsW .u32 4294967296 w q n g):
  Calls prog 11 #[.agg #[.int .i64 fa,.int .u32 (la:Int),.int .u32 (ma:Int),.slice p m cp],.agg #[.int .i64 fb,.int .u32 (lb:Int),.int .u32 (mb:Int),.slice q n cq]] w fun e w'=>e=.returned (.bool (eqT fa fb la lb ma mb m n f g))/\Below w.heap.size w w':=by
 by_cases c0:fa=fb
 ·have e0:(fa != fb)=false:=by simp[c0]
  by_cases c1:la=lb
  ·have e1:((la:Int) != (lb:Int))=false:=by simp[c1]
   by_cases c2:ma=mb
   ·have e2:((ma:Int) != (mb:Int))=false:=by simp[c2]
    by_cases c3:m=n
    ·subst c3
     have e:eqT fa fb la lb ma mb m m f g=decide (∀i,i<m->f i=g i):=by
      unfold eqT
      rw[Bool.eq_iff_iff,decide_eq_true_eq,decide_eq_true_eq]
      exact⟨fun h=>h.2.2.2.2,fun h=>⟨c0,c1,c2,rfl,h⟩⟩
     rw[e]
     exact same_4 fa fb la lb ma mb p q m cp cq f g _ w e0 e1 e2 hm hf hg rfl
    ·rw[show eqT fa fb la lb ma mb m n f g=false from decide_eq_false (fun h=>c3 h.2.2.2.1)]
     exact same_3 fa fb la lb ma mb p q m n cp cq w e0 e1 e2 (by simp;omega)
   ·rw[show eqT fa fb la lb ma mb m n f g=false from decide_eq_false (fun h=>c2 h.2.2.1)]
    exact same_2 fa fb la lb ma mb p q m n cp cq w e0 e1 (by simp;omega)
  ·rw[show eqT fa fb la lb ma mb m n f g=false from decide_eq_false (fun h=>c1 h.2.1)]
   exact same_1 fa fb la lb ma mb p q m n cp cq w e0 (by simp;omega)
 ·rw[show eqT fa fb la lb ma mb m n f g=false from decide_eq_false (fun h=>c0 h.1)]
  exact same_0 fa fb la lb ma mb p q m n cp cq w (by simp;omega)
end Ti
end
namespace Sh
def sumN(f:Nat->Int):Nat->Int
 | 0=>0
 | n+1=>sumN f n+f n
theorem qL{f:Nat->Int}{n:Nat}(h: ∀i,i<n->0<=f i): ∀{m:Nat},m<=n->sumN f m<=sumN f n:=by
 intro m hm
 induction n with
 | zero=>
    obtain rfl:m=0:=by omega
    omega
 | succ n ih=>
  by_cases e:m=n+1
  ·subst e;omega
  ·have a:=ih (fun i hi=>h i (by omega)) (by omega)
   have b:=h n (by omega)
   show sumN f m<=sumN f n+f n
   omega
end Sh
section
namespace Rv
open Sh
def lt2(K:Nat->Nat)(a b:Nat):Bool:=decide (K a<K b)||(decide (K a=K b)&&decide (a<b))
/-! ### the order -/
def bf(K:Nat->Nat)(a b:Nat):Prop:=K b<K a\/(K a=K b/\a<b)
/-! ### a step of rivers -/
def okV(n:Nat)(f:Nat->Int):Prop:=(∀c,c<n->0<=f c)/\sumN f n<=4503599627370496
section
variable {n:Nat} {dn:Nat->Int} {sh:Int->Nat->Bool} {X:(Nat->Int) × (Nat->Int)}
end
end Rv
end
section
namespace Rn
open Sh
def dn(a s x:Int):Int:=if a<0 then -(if x< -a then x else -a)else(if s<a then s else a)
section
variable {st:Int} {R:Nat->Int × Int × Int × Int} {X:(Nat->Int) × Int} {n:Nat} {r:Int × Int × Int × Int}
end
end Rn
end
section
open Tf Ieee
def Er17:Nat:=2030
theorem mv_E17:mv 9146810843189477376=2 ^ (52+Er17):=cM Er17 _ (by decide)
theorem le_E17{W d:Nat}(hW:W<=2 ^ 57)(hd:d<=2025):W*2 ^ d<=mv 9146810843189477376:=by
 rw[mv_E17]
 have h1:2 ^ d<=2 ^ (Er17 - 5):=Nat.pow_le_pow_right (by omega) (by unfold Er17;omega)
 have h2:=Nat.mul_le_mul hW h1
 have e:2 ^ 57*2 ^ (Er17 - 5)=2 ^ (52+Er17):=by rw[<- Nat.pow_add];congr 1
 rw[e]at h2
 exact h2
theorem quo_lo{m n:Nat}(m1:4503599627370496<=m)(m2:m<9007199254740992)(n1:4503599627370496<=n)(n2:n<9007199254740992):9007199254740992<=m <<< 54/n/\m <<< 54/n<=36028797018963968:=by
 rw[Nat.shiftLeft_eq]
 constructor
 ·rw[Nat.le_div_iff_mul_le (by omega)]
  have:=Nat.mul_le_mul_right (2 ^ 54) m1
  omega
 ·refine Nat.div_le_of_le_mul ?_
  omega
theorem div_pos{x l:Nat}(x1:4503599627370496<=x)(x2:x<9218868437227405312)(l1:4503599627370496<=l)(l2:l<9218868437227405312):
  ∃W,18014398509481984<=W/\W<=2 ^ 57/\W=2*((4503599627370496+x%4503599627370496) <<< 54/(4503599627370496+l%4503599627370496))+((4503599627370496+x%4503599627370496) <<< 54%(4503599627370496+l%4503599627370496) != 0).toNat/\double.div x l=some (double.nearest false W (((x/4503599627370496 - 1:Nat):Int) - ((l/4503599627370496 - 1:Nat):Int) - 55)):=by
 have ml:mg l=l:=bD (by omega)
 have mx:mg x=x:=bD (by omega)
 have el:=iU (x:=l) (by omega) (by omega)
 rw[ml,sgn_ng (by omega),bI (by omega)]at el
 have ex:=iU (x:=x) (by omega) (by omega)
 rw[mx,sgn_ng (by omega),bI (by omega)]at ex
 have hn:4503599627370496+l%4503599627370496≠0:=by omega
 have lx:(4503599627370496+x%4503599627370496).log2=52:=log_m _ (Nat.mod_lt _ (by omega))
 have ll:(4503599627370496+l%4503599627370496).log2=52:=log_m _ (Nat.mod_lt _ (by omega))
 have hq:=quo_lo (m:=4503599627370496+x%4503599627370496) (n:=4503599627370496+l%4503599627370496) (by omega) (by omega) (by omega) (by omega)
 refine⟨_,?_,?_,rfl,?_⟩
 ·omega
 ·have:((4503599627370496+x%4503599627370496) <<< 54%(4503599627370496+l%4503599627370496) != 0).toNat<=1:=by cases((4503599627370496+x%4503599627370496) <<< 54%(4503599627370496+l%4503599627370496) != 0)<;>simp
  omega
 ·show((double.read x).quotient 54 (double.read l)).map double.write=_
  rw[ex,el]
  unfold Datum.quotient
  dsimp only
  rw[if_neg hn,lx,ll]
  simp only[Bool.xor_false]
  show some (double.nearest false _ _)=some (double.nearest false _ _)
  congr 2
  omega
theorem rung_E17{V:Nat}(h:V<=mv 9146810843189477376):rung 52 0 V<=9146810843189477376:=by
 refine jR (by omega) ?_
 rw[Nat.pow_zero,Nat.mul_one]
 exact h
end
end Go.Proofs.Ytdeammhdedcjlaa
