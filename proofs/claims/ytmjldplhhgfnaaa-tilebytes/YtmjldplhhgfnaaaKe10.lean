/-
  Some of the texts of this proof, one behind the other.
-/
import Derived.Test.YtmjldplhhgfnaaaKe09
set_option maxRecDepth 100000
set_option maxHeartbeats 400000000
namespace Go.Proofs.Ytmjldplhhgfnaaa
open _root_.Go.Proofs.Try
section
open Go.RowKit Go.Deep Tf
namespace Ti
theorem gJ{kd:IntKind}{M:Nat}{w:World}{g h k:Nat}{v:Value}{n:Nat}{F:Nat->Nat}(ne:g≠h)(i:IsW kd M w (some ⟨g,0,none⟩) n F):IsW kd M (w.setCell ⟨h,k,none⟩ v) (some ⟨g,0,none⟩) n F:=fun j hj=>by
 have q:=i.at0 hj
 exact⟨q.1,g,0,rfl,by simpa [World.setCell]using q.2.1,(World.cell?_of_block (blk_setCell_other _ _ _ _ ne)).trans q.2.2⟩
theorem heap_drew_new(w:World)(o:Obj):(w.alloc o).drew.heap[w.heap.size]? =some o:=heap_alloc_new w o
theorem iJ(face:Int)(ls ms:Nat)(p:Option Addr)(m cp:Nat)(f:Nat->Nat)(w:World)(hm:m<=70368744177664)(hf:IsW .u32 4294967296 w p m f)(h:okT face m f ls ms=false):
  Calls prog 6 #[.agg #[.int .i64 face,.int .u32 (ls:Int),.int .u32 (ms:Int),.slice p m cp]] w fun e w'=>e=.returned (.tuple #[.slice none 0 0,.int .i64 1])/\Below w.heap.size w w':=
 renc_no face ls ms p m cp w (hid fun v a=>by rw[<- h];exact gI face ls ms p m cp f v hm (hf.below a))
theorem fS(face:Int)(ls ms:Nat)(p:Option Addr)(m cp:Nat)(f:Nat->Nat)(w:World)(hls:ls<4294967296)(hms:ms<4294967296)(hm:m<=70368744177664)(hf:IsW .u32 4294967296 w p m f)(h:okT face m f ls ms=true):
  Calls prog 6 #[.agg #[.int .i64 face,.int .u32 (ls:Int),.int .u32 (ms:Int),.slice p m cp]] w fun e w'=> ∃g c,e=.returned (.tuple #[.slice (some ⟨g,0,none⟩) (14+4*m:Nat) c,.int .i64 0])/\Below w.heap.size w w'/\T8.Own w.heap.size (.slice (some ⟨g,0,none⟩) (14+4*m:Nat) c) ((List.range (14+4*m)).map (enc face.toNat (sideN m) ls ms f)) w':=by
 obtain⟨h1,h2,h3⟩:=fJ h
 obtain⟨fc,rfl⟩: ∃fc:Nat,face=(fc:Nat):=⟨face.toNat,by omega⟩
 obtain⟨pb,po,rfl⟩:=hf.some0 h3.1
 exact renc_yes fc ls ms pb po m cp (sideN m) (14+4*m) f w (by omega) hls hms h2.2.1 h3 rfl hf (hid fun v a=>by rw[<- h];exact gI fc ls ms _ m cp f v hm (hf.below a)) (hid fun v=>lZ m v)
theorem rdec_0(p:Option Addr)(L cp:Nat)(w:World)(hL:(L:Int)<14):
  Calls prog 8 #[.slice p L cp] w fun e w'=>e=.returned (.tuple #[.agg #[.int .i64 0,.int .u32 0,.int .u32 0,.slice none 0 0],.int .i64 31])/\Below w.heap.size w w':=by
 obtain⟨A0,R0⟩:=aD w (.cells #[.int .i64 0,.int .u32 0,.int .u32 0,.slice none 0 0] 25)
 go_enter func8,ntmps8
 go_upto_region 1 with fail
 generalize hW:World.alloc w _=V0 at*
 obtain⟨gr,hgr⟩:=aB w.heap.size
 have HG:Hid (w.heap.size<=gr):=by show _<=_;omega
 rw[hgr]at R0 ⊢
 clear hgr hW
 have t0:=aA 0 R0.out
 have t1:=aA 1 R0.out
 have t2:=aA 2 R0.out
 have t3:=aA 3 R0.out
 have f0:=aC R0.out 0
 have f1:=aC R0.out 1
 have f2:=aC R0.out 2
 have f3:=aC R0.out 3
 go_wp2_with fail
 (try simp only[Exit.inBlock,Exit.then])
 refine bodyPost_ret (v:=.tuple #[.agg #[.int .i64 0,.int .u32 0,.int .u32 0,.slice none 0 0],.int .i64 31]) ?_ rfl ?_
 ·exact aU results8 _ _ gr _ _ (0,0) _ _ rfl rfl (bT R0.out) underlying25 rfl (by kernel_rfl)
 ·exact⟨rfl,(((A0.out.setk HG.out _).setk HG.out _).setk HG.out _).setk HG.out _⟩
theorem rdec_1(b o L cp:Nat)(f:Nat->Nat)(fc n:Nat)(w:World)(hL:(14:Int)<=(L:Int))(hL2:(L:Int)<=(cp:Int)/\(cp:Int)<=9223372036854775807)(hf:IsW .u8 256 w (some ⟨b,o,none⟩) L f)(h4:f 4=fc)(h5:f 5=n)(hm:decide (f 0=84/\f 1=73/\f 2=76/\f 3=69)=false):
  Calls prog 8 #[.slice (some ⟨b,o,none⟩) L cp] w fun e w'=>e=.returned (.tuple #[.agg #[.int .i64 0,.int .u32 0,.int .u32 0,.slice none 0 0],.int .i64 30])/\Below w.heap.size w w':=by
 have HF:=hid hf
 have HL:=hid (show 14<=L by omega)
 have c1:(L:Int)<=(cp:Int):=hL2.1
 have c2:(cp:Int)<=9223372036854775807:=hL2.2
 have MK:=aK (fun i hi=>hf.lt i (by omega)) false hm
 have fb:(fc:Int)<256:=by have:=hf.lt 4 (by omega);omega
 have nb:(n:Int)<256:=by have:=hf.lt 5 (by omega);omega
 have f0':(0:Int)<=(fc:Int):=by omega
 have n0':(0:Int)<=(n:Int):=by omega
 have l4:(4:Int)<=(L:Int):=by omega
 have l4b:(4:Int)<(L:Int):=by omega
 have l5b:(5:Int)<(L:Int):=by omega
 have l4c:(4:Int)<=(cp:Int):=by omega
 have H45:=hid (show f 4=fc/\f 5=n from⟨h4,h5⟩)
 clear hm hf h4 h5 hL2
 obtain⟨A0,R0⟩:=aD w (.cells #[.int .i64 0,.int .u32 0,.int .u32 0,.slice none 0 0] 25)
 go_enter func8,ntmps8
 go_upto_region 1 with fail
 generalize hW:World.alloc w _=V0 at*
 obtain⟨gr,hgr⟩:=aB w.heap.size
 have HG:Hid (w.heap.size<=gr):=by show _<=_;omega
 rw[hgr]at R0 ⊢
 clear hgr hW
 have CV: ∀c:Nat,(convert 26 9 (.slice (some ⟨b,o,none⟩) 4 c)).run prog V0=.ok (.string (str f 4)) V0:=fun c=>aJ underlying26 underlying5 underlying9 (by
  have q:=(HF.out.below A0.out).part 0 4 (by have:=HL.out;omega)
  simpa using q) (fun e=>by cases e)
 have b4:=((HF.out.below A0.out).at0 (k:=4) (by have:=HL.out;omega)).2.2
 have b5:=((HF.out.below A0.out).at0 (k:=5) (by have:=HL.out;omega)).2.2
 rw[H45.out.1]at b4
 rw[H45.out.2]at b5
 have t0:=aA 0 R0.out
 have t1:=aA 1 R0.out
 have t2:=aA 2 R0.out
 have t3:=aA 3 R0.out
 have f0:=aC R0.out 0
 have f1:=aC R0.out 1
 have f2:=aC R0.out 2
 have f3:=aC R0.out 3
 go_wp2_with fail
 (try simp only[Exit.inBlock,Exit.then])
 refine bodyPost_ret (v:=.tuple #[.agg #[.int .i64 0,.int .u32 0,.int .u32 0,.slice none 0 0],.int .i64 30]) ?_ rfl ?_
 ·exact aU results8 _ _ gr _ _ (0,0) _ _ rfl rfl (bT R0.out) underlying25 rfl (by kernel_rfl)
 ·exact⟨rfl,(((A0.out.setk HG.out _).setk HG.out _).setk HG.out _).setk HG.out _⟩
theorem rdec_2(b o L cp:Nat)(f:Nat->Nat)(fc n:Nat)(w:World)(hL:(14:Int)<=(L:Int))(hL2:(L:Int)<=(cp:Int)/\(cp:Int)<=9223372036854775807)(hf:IsW .u8 256 w (some ⟨b,o,none⟩) L f)(h4:f 4=fc)(h5:f 5=n)(hm:decide (f 0=84/\f 1=73/\f 2=76/\f 3=69)=true)(hf5:(5:Int)<(fc:Int)):
  Calls prog 8 #[.slice (some ⟨b,o,none⟩) L cp] w fun e w'=>e=.returned (.tuple #[.agg #[.int .i64 0,.int .u32 0,.int .u32 0,.slice none 0 0],.int .i64 30])/\Below w.heap.size w w':=by
 have HF:=hid hf
 have HL:=hid (show 14<=L by omega)
 have c1:(L:Int)<=(cp:Int):=hL2.1
 have c2:(cp:Int)<=9223372036854775807:=hL2.2
 have MK:=aK (fun i hi=>hf.lt i (by omega)) true hm
 have fb:(fc:Int)<256:=by have:=hf.lt 4 (by omega);omega
 have nb:(n:Int)<256:=by have:=hf.lt 5 (by omega);omega
 have f0':(0:Int)<=(fc:Int):=by omega
 have n0':(0:Int)<=(n:Int):=by omega
 have l4:(4:Int)<=(L:Int):=by omega
 have l4b:(4:Int)<(L:Int):=by omega
 have l5b:(5:Int)<(L:Int):=by omega
 have l4c:(4:Int)<=(cp:Int):=by omega
 have H45:=hid (show f 4=fc/\f 5=n from⟨h4,h5⟩)
 clear hm hf h4 h5 hL2
 obtain⟨A0,R0⟩:=aD w (.cells #[.int .i64 0,.int .u32 0,.int .u32 0,.slice none 0 0] 25)
 go_enter func8,ntmps8
 go_upto_region 1 with fail
 generalize hW:World.alloc w _=V0 at*
 obtain⟨gr,hgr⟩:=aB w.heap.size
 have HG:Hid (w.heap.size<=gr):=by show _<=_;omega
 rw[hgr]at R0 ⊢
 clear hgr hW
 have CV: ∀c:Nat,(convert 26 9 (.slice (some ⟨b,o,none⟩) 4 c)).run prog V0=.ok (.string (str f 4)) V0:=fun c=>aJ underlying26 underlying5 underlying9 (by
  have q:=(HF.out.below A0.out).part 0 4 (by have:=HL.out;omega)
  simpa using q) (fun e=>by cases e)
 have b4:=((HF.out.below A0.out).at0 (k:=4) (by have:=HL.out;omega)).2.2
 have b5:=((HF.out.below A0.out).at0 (k:=5) (by have:=HL.out;omega)).2.2
 rw[H45.out.1]at b4
 rw[H45.out.2]at b5
 have t0:=aA 0 R0.out
 have t1:=aA 1 R0.out
 have t2:=aA 2 R0.out
 have t3:=aA 3 R0.out
 have f0:=aC R0.out 0
 have f1:=aC R0.out 1
 have f2:=aC R0.out 2
 have f3:=aC R0.out 3
 go_wp2_with fail
 (try simp only[Exit.inBlock,Exit.then])
 refine bodyPost_ret (v:=.tuple #[.agg #[.int .i64 0,.int .u32 0,.int .u32 0,.slice none 0 0],.int .i64 30]) ?_ rfl ?_
 ·exact aU results8 _ _ gr _ _ (0,0) _ _ rfl rfl (bT R0.out) underlying25 rfl (by kernel_rfl)
 ·exact⟨rfl,(((A0.out.setk HG.out _).setk HG.out _).setk HG.out _).setk HG.out _⟩
theorem rdec_3(b o L cp:Nat)(f:Nat->Nat)(fc n:Nat)(w:World)(hL:(14:Int)<=(L:Int))(hL2:(L:Int)<=(cp:Int)/\(cp:Int)<=9223372036854775807)(hf:IsW .u8 256 w (some ⟨b,o,none⟩) L f)(h4:f 4=fc)(h5:f 5=n)(hm:decide (f 0=84/\f 1=73/\f 2=76/\f 3=69)=true)(hf5: ¬(5:Int)<(fc:Int))(hn:(n:Int)<1):
  Calls prog 8 #[.slice (some ⟨b,o,none⟩) L cp] w fun e w'=>e=.returned (.tuple #[.agg #[.int .i64 0,.int .u32 0,.int .u32 0,.slice none 0 0],.int .i64 30])/\Below w.heap.size w w':=by
 have HF:=hid hf
 have HL:=hid (show 14<=L by omega)
 have c1:(L:Int)<=(cp:Int):=hL2.1
 have c2:(cp:Int)<=9223372036854775807:=hL2.2
 have MK:=aK (fun i hi=>hf.lt i (by omega)) true hm
 have fb:(fc:Int)<256:=by have:=hf.lt 4 (by omega);omega
 have nb:(n:Int)<256:=by have:=hf.lt 5 (by omega);omega
 have f0':(0:Int)<=(fc:Int):=by omega
 have n0':(0:Int)<=(n:Int):=by omega
 have l4:(4:Int)<=(L:Int):=by omega
 have l4b:(4:Int)<(L:Int):=by omega
 have l5b:(5:Int)<(L:Int):=by omega
 have l4c:(4:Int)<=(cp:Int):=by omega
 have H45:=hid (show f 4=fc/\f 5=n from⟨h4,h5⟩)
 clear hm hf h4 h5 hL2
 obtain⟨A0,R0⟩:=aD w (.cells #[.int .i64 0,.int .u32 0,.int .u32 0,.slice none 0 0] 25)
 go_enter func8,ntmps8
 go_upto_region 1 with fail
 generalize hW:World.alloc w _=V0 at*
 obtain⟨gr,hgr⟩:=aB w.heap.size
 have HG:Hid (w.heap.size<=gr):=by show _<=_;omega
 rw[hgr]at R0 ⊢
 clear hgr hW
 have CV: ∀c:Nat,(convert 26 9 (.slice (some ⟨b,o,none⟩) 4 c)).run prog V0=.ok (.string (str f 4)) V0:=fun c=>aJ underlying26 underlying5 underlying9 (by
  have q:=(HF.out.below A0.out).part 0 4 (by have:=HL.out;omega)
  simpa using q) (fun e=>by cases e)
 have b4:=((HF.out.below A0.out).at0 (k:=4) (by have:=HL.out;omega)).2.2
 have b5:=((HF.out.below A0.out).at0 (k:=5) (by have:=HL.out;omega)).2.2
 rw[H45.out.1]at b4
 rw[H45.out.2]at b5
 have t0:=aA 0 R0.out
 have t1:=aA 1 R0.out
 have t2:=aA 2 R0.out
 have t3:=aA 3 R0.out
 have f0:=aC R0.out 0
 have f1:=aC R0.out 1
 have f2:=aC R0.out 2
 have f3:=aC R0.out 3
 go_wp2_with fail
 (try simp only[Exit.inBlock,Exit.then])
 refine bodyPost_ret (v:=.tuple #[.agg #[.int .i64 0,.int .u32 0,.int .u32 0,.slice none 0 0],.int .i64 30]) ?_ rfl ?_
 ·exact aU results8 _ _ gr _ _ (0,0) _ _ rfl rfl (bT R0.out) underlying25 rfl (by kernel_rfl)
 ·exact⟨rfl,(((A0.out.setk HG.out _).setk HG.out _).setk HG.out _).setk HG.out _⟩
theorem rdec_4(b o L cp:Nat)(f:Nat->Nat)(fc n:Nat)(w:World)(hL:(14:Int)<=(L:Int))(hL2:(L:Int)<=(cp:Int)/\(cp:Int)<=9223372036854775807)(hf:IsW .u8 256 w (some ⟨b,o,none⟩) L f)(h4:f 4=fc)(h5:f 5=n)(hm:decide (f 0=84/\f 1=73/\f 2=76/\f 3=69)=true)(hf5: ¬(5:Int)<(fc:Int))(hn: ¬(n:Int)<1)(hn2:(32:Int)<(n:Int)):
  Calls prog 8 #[.slice (some ⟨b,o,none⟩) L cp] w fun e w'=>e=.returned (.tuple #[.agg #[.int .i64 0,.int .u32 0,.int .u32 0,.slice none 0 0],.int .i64 30])/\Below w.heap.size w w':=by
 have HF:=hid hf
 have HL:=hid (show 14<=L by omega)
 have c1:(L:Int)<=(cp:Int):=hL2.1
 have c2:(cp:Int)<=9223372036854775807:=hL2.2
 have MK:=aK (fun i hi=>hf.lt i (by omega)) true hm
 have fb:(fc:Int)<256:=by have:=hf.lt 4 (by omega);omega
 have nb:(n:Int)<256:=by have:=hf.lt 5 (by omega);omega
 have f0':(0:Int)<=(fc:Int):=by omega
 have n0':(0:Int)<=(n:Int):=by omega
 have l4:(4:Int)<=(L:Int):=by omega
 have l4b:(4:Int)<(L:Int):=by omega
 have l5b:(5:Int)<(L:Int):=by omega
 have l4c:(4:Int)<=(cp:Int):=by omega
 have H45:=hid (show f 4=fc/\f 5=n from⟨h4,h5⟩)
 clear hm hf h4 h5 hL2
 obtain⟨A0,R0⟩:=aD w (.cells #[.int .i64 0,.int .u32 0,.int .u32 0,.slice none 0 0] 25)
 go_enter func8,ntmps8
 go_upto_region 1 with fail
 generalize hW:World.alloc w _=V0 at*
 obtain⟨gr,hgr⟩:=aB w.heap.size
 have HG:Hid (w.heap.size<=gr):=by show _<=_;omega
 rw[hgr]at R0 ⊢
 clear hgr hW
 have CV: ∀c:Nat,(convert 26 9 (.slice (some ⟨b,o,none⟩) 4 c)).run prog V0=.ok (.string (str f 4)) V0:=fun c=>aJ underlying26 underlying5 underlying9 (by
  have q:=(HF.out.below A0.out).part 0 4 (by have:=HL.out;omega)
  simpa using q) (fun e=>by cases e)
 have b4:=((HF.out.below A0.out).at0 (k:=4) (by have:=HL.out;omega)).2.2
 have b5:=((HF.out.below A0.out).at0 (k:=5) (by have:=HL.out;omega)).2.2
 rw[H45.out.1]at b4
 rw[H45.out.2]at b5
 have t0:=aA 0 R0.out
 have t1:=aA 1 R0.out
 have t2:=aA 2 R0.out
 have t3:=aA 3 R0.out
 have f0:=aC R0.out 0
 have f1:=aC R0.out 1
 have f2:=aC R0.out 2
 have f3:=aC R0.out 3
 go_wp2_with fail
 (try simp only[Exit.inBlock,Exit.then])
 refine bodyPost_ret (v:=.tuple #[.agg #[.int .i64 0,.int .u32 0,.int .u32 0,.slice none 0 0],.int .i64 30]) ?_ rfl ?_
 ·exact aU results8 _ _ gr _ _ (0,0) _ _ rfl rfl (bT R0.out) underlying25 rfl (by kernel_rfl)
 ·exact⟨rfl,(((A0.out.setk HG.out _).setk HG.out _).setk HG.out _).setk HG.out _⟩
theorem rdec_5(b o L cp:Nat)(f:Nat->Nat)(fc n:Nat)(w:World)(hL:(14:Int)<=(L:Int))(hL2:(L:Int)<=(cp:Int)/\(cp:Int)<=9223372036854775807)(hf:IsW .u8 256 w (some ⟨b,o,none⟩) L f)(h4:f 4=fc)(h5:f 5=n)(hm:decide (f 0=84/\f 1=73/\f 2=76/\f 3=69)=true)(hf5: ¬(5:Int)<(fc:Int))(hn: ¬(n:Int)<1)(hn2: ¬(32:Int)<(n:Int))(M N:Nat)(hM:4*(n:Int)*(n:Int)=(M:Int))(hM2:(M:Int)<=4096)(hN:(14:Int)+(M:Int)=(N:Int))(hl:(L:Int)<(N:Int)):
  Calls prog 8 #[.slice (some ⟨b,o,none⟩) L cp] w fun e w'=>e=.returned (.tuple #[.agg #[.int .i64 0,.int .u32 0,.int .u32 0,.slice none 0 0],.int .i64 31])/\Below w.heap.size w w':=by
 have HF:=hid hf
 have HL:=hid (show 14<=L by omega)
 have c1:(L:Int)<=(cp:Int):=hL2.1
 have c2:(cp:Int)<=9223372036854775807:=hL2.2
 have MK:=aK (fun i hi=>hf.lt i (by omega)) true hm
 have fb:(fc:Int)<256:=by have:=hf.lt 4 (by omega);omega
 have nb:(n:Int)<256:=by have:=hf.lt 5 (by omega);omega
 have f0':(0:Int)<=(fc:Int):=by omega
 have n0':(0:Int)<=(n:Int):=by omega
 have l4:(4:Int)<=(L:Int):=by omega
 have l4b:(4:Int)<(L:Int):=by omega
 have l5b:(5:Int)<(L:Int):=by omega
 have l4c:(4:Int)<=(cp:Int):=by omega
 have H45:=hid (show f 4=fc/\f 5=n from⟨h4,h5⟩)
 clear hm hf h4 h5 hL2
 obtain⟨A0,R0⟩:=aD w (.cells #[.int .i64 0,.int .u32 0,.int .u32 0,.slice none 0 0] 25)
 go_enter func8,ntmps8
 go_upto_region 1 with fail
 generalize hW:World.alloc w _=V0 at*
 obtain⟨gr,hgr⟩:=aB w.heap.size
 have HG:Hid (w.heap.size<=gr):=by show _<=_;omega
 rw[hgr]at R0 ⊢
 clear hgr hW
 have CV: ∀c:Nat,(convert 26 9 (.slice (some ⟨b,o,none⟩) 4 c)).run prog V0=.ok (.string (str f 4)) V0:=fun c=>aJ underlying26 underlying5 underlying9 (by
  have q:=(HF.out.below A0.out).part 0 4 (by have:=HL.out;omega)
  simpa using q) (fun e=>by cases e)
 have b4:=((HF.out.below A0.out).at0 (k:=4) (by have:=HL.out;omega)).2.2
 have b5:=((HF.out.below A0.out).at0 (k:=5) (by have:=HL.out;omega)).2.2
 rw[H45.out.1]at b4
 rw[H45.out.2]at b5
 have t0:=aA 0 R0.out
 have t1:=aA 1 R0.out
 have t2:=aA 2 R0.out
 have t3:=aA 3 R0.out
 have f0:=aC R0.out 0
 have f1:=aC R0.out 1
 have f2:=aC R0.out 2
 have f3:=aC R0.out 3
 go_wp2_with fail
 (try simp only[Exit.inBlock,Exit.then])
 refine bodyPost_ret (v:=.tuple #[.agg #[.int .i64 0,.int .u32 0,.int .u32 0,.slice none 0 0],.int .i64 31]) ?_ rfl ?_
 ·exact aU results8 _ _ gr _ _ (0,0) _ _ rfl rfl (bT R0.out) underlying25 rfl (by kernel_rfl)
 ·exact⟨rfl,(((A0.out.setk HG.out _).setk HG.out _).setk HG.out _).setk HG.out _⟩
theorem rdec_6(b o L cp:Nat)(f:Nat->Nat)(fc n:Nat)(w:World)(hL:(14:Int)<=(L:Int))(hL2:(L:Int)<=(cp:Int)/\(cp:Int)<=9223372036854775807)(hf:IsW .u8 256 w (some ⟨b,o,none⟩) L f)(h4:f 4=fc)(h5:f 5=n)(hm:decide (f 0=84/\f 1=73/\f 2=76/\f 3=69)=true)(hf5: ¬(5:Int)<(fc:Int))(hn: ¬(n:Int)<1)(hn2: ¬(32:Int)<(n:Int))(M N:Nat)(hM:4*(n:Int)*(n:Int)=(M:Int))(hM2:(M:Int)<=4096)(hN:(14:Int)+(M:Int)=(N:Int))(hl: ¬(L:Int)<(N:Int))(hl3:(N:Int)<(L:Int)):
  Calls prog 8 #[.slice (some ⟨b,o,none⟩) L cp] w fun e w'=>e=.returned (.tuple #[.agg #[.int .i64 0,.int .u32 0,.int .u32 0,.slice none 0 0],.int .i64 3])/\Below w.heap.size w w':=by
 have HF:=hid hf
 have HL:=hid (show 14<=L by omega)
 have c1:(L:Int)<=(cp:Int):=hL2.1
 have c2:(cp:Int)<=9223372036854775807:=hL2.2
 have MK:=aK (fun i hi=>hf.lt i (by omega)) true hm
 have fb:(fc:Int)<256:=by have:=hf.lt 4 (by omega);omega
 have nb:(n:Int)<256:=by have:=hf.lt 5 (by omega);omega
 have f0':(0:Int)<=(fc:Int):=by omega
 have n0':(0:Int)<=(n:Int):=by omega
 have l4:(4:Int)<=(L:Int):=by omega
 have l4b:(4:Int)<(L:Int):=by omega
 have l5b:(5:Int)<(L:Int):=by omega
 have l4c:(4:Int)<=(cp:Int):=by omega
 have H45:=hid (show f 4=fc/\f 5=n from⟨h4,h5⟩)
 clear hm hf h4 h5 hL2
 obtain⟨A0,R0⟩:=aD w (.cells #[.int .i64 0,.int .u32 0,.int .u32 0,.slice none 0 0] 25)
 go_enter func8,ntmps8
 go_upto_region 1 with fail
 generalize hW:World.alloc w _=V0 at*
 obtain⟨gr,hgr⟩:=aB w.heap.size
 have HG:Hid (w.heap.size<=gr):=by show _<=_;omega
 rw[hgr]at R0 ⊢
 clear hgr hW
 have CV: ∀c:Nat,(convert 26 9 (.slice (some ⟨b,o,none⟩) 4 c)).run prog V0=.ok (.string (str f 4)) V0:=fun c=>aJ underlying26 underlying5 underlying9 (by
  have q:=(HF.out.below A0.out).part 0 4 (by have:=HL.out;omega)
  simpa using q) (fun e=>by cases e)
 have b4:=((HF.out.below A0.out).at0 (k:=4) (by have:=HL.out;omega)).2.2
 have b5:=((HF.out.below A0.out).at0 (k:=5) (by have:=HL.out;omega)).2.2
 rw[H45.out.1]at b4
 rw[H45.out.2]at b5
 have t0:=aA 0 R0.out
 have t1:=aA 1 R0.out
 have t2:=aA 2 R0.out
 have t3:=aA 3 R0.out
 have f0:=aC R0.out 0
 have f1:=aC R0.out 1
 have f2:=aC R0.out 2
 have f3:=aC R0.out 3
 go_wp2_with fail
 (try simp only[Exit.inBlock,Exit.then])
 refine bodyPost_ret (v:=.tuple #[.agg #[.int .i64 0,.int .u32 0,.int .u32 0,.slice none 0 0],.int .i64 3]) ?_ rfl ?_
 ·exact aU results8 _ _ gr _ _ (0,0) _ _ rfl rfl (bT R0.out) underlying25 rfl (by kernel_rfl)
 ·exact⟨rfl,(((A0.out.setk HG.out _).setk HG.out _).setk HG.out _).setk HG.out _⟩
theorem rdec_7(b o L cp:Nat)(f:Nat->Nat)(fc n:Nat)(w:World)(hL:(14:Int)<=(L:Int))(hL2:(L:Int)<=(cp:Int)/\(cp:Int)<=9223372036854775807)(hf:IsW .u8 256 w (some ⟨b,o,none⟩) L f)(h4:f 4=fc)(h5:f 5=n)(hm:decide (f 0=84/\f 1=73/\f 2=76/\f 3=69)=true)(hf5: ¬(5:Int)<(fc:Int))(hn: ¬(n:Int)<1)(hn2: ¬(32:Int)<(n:Int))(M:Nat)(hM:4*(n:Int)*(n:Int)=(M:Int))(hM2:(M:Int)<=4096)(hN:(14:Int)+(M:Int)=(L:Int))(m:Nat)(G F:Nat->Nat)(hFb: ∀i,i<m->F i<4294967296)(h6: ∀i,num (fun j=>f (i+j)) 0=G i)(hF:rx (fun k=>num f (14+4*k))=F)(hNm:14+4*m=L)(hm4:1<=m)(hm5:m<=1024)(hnn:(n:Int)*(n:Int)=(m:Int))(CB:Hid (∀v g c,IsW .u32 4294967296 v (some ⟨g,0,none⟩) m F->Calls prog 17 #[.agg #[.int .i64 (fc:Int),.int .u32 (G 6:Nat),.int .u32 (G 10:Nat),.slice (some ⟨g,0,none⟩) m c]] v fun e w'=>e=.returned (.bool false)/\Below v.heap.size v w')):
  Calls prog 8 #[.slice (some ⟨b,o,none⟩) L cp] w fun e w'=>e=.returned (.tuple #[.agg #[.int .i64 0,.int .u32 0,.int .u32 0,.slice none 0 0],.int .i64 30])/\Below w.heap.size w w':=by
 have HF:=hid hf
 have HL:=hid (show 14<=L by omega)
 have c1:(L:Int)<=(cp:Int):=hL2.1
 have c2:(cp:Int)<=9223372036854775807:=hL2.2
 have MK:=aK (fun i hi=>hf.lt i (by omega)) true hm
 have fb:(fc:Int)<256:=by have:=hf.lt 4 (by omega);omega
 have nb:(n:Int)<256:=by have:=hf.lt 5 (by omega);omega
 have f0':(0:Int)<=(fc:Int):=by omega
 have n0':(0:Int)<=(n:Int):=by omega
 have l4:(4:Int)<=(L:Int):=by omega
 have l4b:(4:Int)<(L:Int):=by omega
 have l5b:(5:Int)<(L:Int):=by omega
 have l4c:(4:Int)<=(cp:Int):=by omega
 have LL:=hid h6
 have HM:=hid (show 14+4*m=L/\1<=m/\m<=1024 from⟨hNm,hm4,hm5⟩)
 have EF:=hid hF
 have BF:=hid hFb
 clear hFb h6 hF hNm hm4
 have H45:=hid (show f 4=fc/\f 5=n from⟨h4,h5⟩)
 clear hm hf h4 h5 hL2
 obtain⟨A0,R0⟩:=aD w (.cells #[.int .i64 0,.int .u32 0,.int .u32 0,.slice none 0 0] 25)
 go_enter func8,ntmps8
 go_upto_region 1 with fail
 generalize hW:World.alloc w _=V0 at*
 obtain⟨gr,hgr⟩:=aB w.heap.size
 have HG:Hid (w.heap.size<=gr):=by show _<=_;omega
 rw[hgr]at R0 ⊢
 clear hgr hW
 have CV: ∀c:Nat,(convert 26 9 (.slice (some ⟨b,o,none⟩) 4 c)).run prog V0=.ok (.string (str f 4)) V0:=fun c=>aJ underlying26 underlying5 underlying9 (by
  have q:=(HF.out.below A0.out).part 0 4 (by have:=HL.out;omega)
  simpa using q) (fun e=>by cases e)
 have b4:=((HF.out.below A0.out).at0 (k:=4) (by have:=HL.out;omega)).2.2
 have b5:=((HF.out.below A0.out).at0 (k:=5) (by have:=HL.out;omega)).2.2
 rw[H45.out.1]at b4
 rw[H45.out.2]at b5
 have wf:IntKind.i64.wrap (fc:Int)=(fc:Int):=by rw[IntKind.wrap_i64];omega
 have b6:(6:Int)<=(L:Int):=by have:=HL.out;omega
 have b10:(10:Int)<=(L:Int):=by have:=HL.out;omega
 have b14:(14:Int)<=(L:Int):=by have:=HL.out;omega
 have p6: ¬cp=6:=by have:=HL.out;omega
 have p10: ¬cp=10:=by have:=HL.out;omega
 have FB:=hid (HF.out.below A0.out)
 have GG:Hid (∀v (i:Nat),Ab V0 v->i+4<=L->Calls prog 23 #[.slice (some ⟨b,o+i,none⟩) (L - i) (cp - i)] v fun e w'=>e=.returned (.int .u32 (G i:Nat))/\ ∃k,w'=v.drewN k):=fun v i a hi=>by rw[<- LL.out i];exact jH b (o+i) (L - i) (cp - i) (fun j=>f (i+j)) v (by omega) ((FB.out.below a).part i (L - i) (by omega))
 have KS:Hid (∀v,Ab V0 v->Ab V0 v/\v.cell? ⟨b,o+4,none⟩=some (.int .u8 (fc:Int))):=fun v a=>by
  have q:=((FB.out.below a).at0 (k:=4) (by have:=HL.out;omega)).2.2
  rw[H45.out.1]at q
  exact⟨a,q⟩
 go_wp2_with fail
 clear b4 b5 CV MK
 go_cut [5]from 53 to 63 (fun s5 wx=> ∃gt,s5=.pointer (some ⟨gt,0,none⟩)/\Ab V0 wx/\V0.heap.size<=gt/\wx.heap[gt]? =some (.cells #[.int .i64 (fc:Int),.int .u32 (G 6:Nat),.int .u32 (G 10:Nat),.slice none 0 0] 25))
 case first=>
  have X0:Ab V0 V0:=Ab.refl V0
  go_region_held3 (fun w'=>Ab V0 w'/\w'.cell? ⟨b,o+4,none⟩=some (.int .u8 (fc:Int))) ((refine KS.out _ ?_;(with_reducible (repeat(first | assumption | apply Ab.drew | apply Ab.drewN | apply Ab.alloc | (refine Ab.setk ?_ (by first | exact Nat.le_refl _ | assumption) _))));done)) (first
   | (go_at_call 23;refine(GG.out _ _ (by with_reducible (repeat(first | assumption | apply Ab.drew | apply Ab.drewN | apply Ab.alloc))) (by have:=HM.out;omega)).mono ?_;rintro e9 z2 ⟨rfl,k2,hz2⟩;have a9:Ab _ z2:=(by rw[hz2];exact Ab.drewN (Ab.refl _) k2);have az2:Ab V0 z2:=Ab.trans (show Ab V0 _ by with_reducible (repeat(first | assumption | apply Ab.drew | apply Ab.drewN | apply Ab.alloc))) a9;have lz:=az2.size;clear hz2;first | (have q3:=Ab.heap a9 q2;have t0:=aA 0 q3;have f0:=aC q3 0;have t1:=aA 1 q3;have f1:=aC q3 1;have t2:=aA 2 q3;have f2:=aC q3 2;have t3:=aA 3 q3;have f3:=aC q3 3;skip) | (have q2:=Ab.heap a9 (heap_drew_new _ _);have t0:=aA 0 q2;have f0:=aC q2 0;have t1:=aA 1 q2;have f1:=aC q2 1;have t2:=aA 2 q2;have f2:=aC q2 2;have t3:=aA 3 q2;have f3:=aC q2 3;skip) | (have q2:=Ab.heap a9 (heap_alloc_new _ _);have t0:=aA 0 q2;have f0:=aC q2 0;have t1:=aA 1 q2;have f1:=aC q2 1;have t2:=aA 2 q2;have f2:=aC q2 2;have t3:=aA 3 q2;have f3:=aC q2 3;skip) | skip))
  all_goals(try go_wp2_with fail)
  all_goals(try go_meet)
  all_goals first
   | exact⟨_,rfl,az2.alloc _,az2.size,heap_alloc_new _ _⟩
   | exact⟨_,rfl,(((az2.setk (by first | exact Nat.le_refl _ | assumption) _).setk (by first | exact Nat.le_refl _ | assumption) _).setk (by first | exact Nat.le_refl _ | assumption) _).setk (by first | exact Nat.le_refl _ | assumption) _,(by first | exact Nat.le_refl _ | assumption),bT q3⟩
   | exact⟨_,rfl,(((az2.setk (by first | exact Nat.le_refl _ | assumption) _).setk (by first | exact Nat.le_refl _ | assumption) _).setk (by first | exact Nat.le_refl _ | assumption) _).setk (by first | exact Nat.le_refl _ | assumption) _,(by first | exact Nat.le_refl _ | assumption),bT q2⟩
 case rest=>
 obtain⟨gt,rfl,ac,lt,rt⟩:=hcut
 have AV:=hid ac
 have AC:=hid (A0.out.trans ac)
 have LT:=hid lt
 have R2:=hid (Ab.heap ac R0.out)
 have NE:=hid (show gr≠gt/\gr<wc.heap.size/\gt<wc.heap.size from⟨by have:=lt_of_block R0.out;omega,by have:=lt_of_block R0.out;have:=ac.size;omega,lt_of_block rt⟩)
 have O0:Hid (T32.Own wc.heap.size (.slice none 0 0) ((List.range 0).map F) wc):=T32.Own.new _ _
 have RT:=hid rt
 have LB:=hid (IsW.lt HF.out)
 have A1:=A0
 clear ac lt rt A0 KS
 go_wp2
 go_loopw [6,7] (fun xv iv wr=> ∃(k:Nat) (v:Value),k<=m/\iv=.int .i64 (k:Nat)/\xv=.int .u32 ((pv F k:Nat):Int)/\wr.heap[gt]? =some (.cells #[.int .i64 (fc:Int),.int .u32 (G 6:Nat),.int .u32 (G 10:Nat),v] 25)/\T32.Own wc.heap.size v ((List.range k).map F) wr/\Sh.Abo wc gt wr) (fun _ iv _=>m - (intOf iv).toNat)
 case atStart=>exact⟨0,_,by omega,rfl,rfl,RT.out,O0.out,Sh.Abo.refl _ _⟩
 case round=>
  obtain⟨k,v,hk,rfl,rfl,r8,o8,a8⟩:=hrel
  have R8:=hid r8
  have O8:=hid o8
  have A8:=hid a8
  clear r8 o8 a8 RT O0
  have AB8:Hid (Ab V0 wr):=Sh.Abo.ab A8.out AV.out LT.out
  by_cases hkm:k<m
  ·have HK:=hid hkm
   have kI:(k:Int)<(m:Int):=by omega
   have kI0:(0:Int)<=(k:Int):=by omega
   have kB:(k:Int)<=1024:=by omega
   have k1:14+4*(k:Int)<=(L:Int):=by have:=HM.out;omega
   have k3: ¬cp=14+4*k:=by have:=HM.out;omega
   have bg:=fun i (hi:i<=k)=>BF.out i (by omega)
   have e8:G (14+4*k)=num f (14+4*k):=by rw[<- LL.out];rfl
   have e9:F k=pv F k ^^^ G (14+4*k):=by
    rw[e8]
    have q:=rx_pv (fun k=>num f (14+4*k)) k
    rw[EF.out]at q
    exact q
   have b1:=lK (f:=F) (M:=4294967296) (k:=k) (by decide) (fun i hi=>bg i (by omega))
   have b2:G (14+4*k)<4294967296:=by rw[e8];exact num_32 LB.out (by have:=HM.out;omega)
   have b3:=bg k (Nat.le_refl _)
   have q:=lJ b1 b2
   rw[<- e9]at q
   have GN:=hid (GG.out wr (14+4*k) AB8.out (by have:=HM.out;omega))
   obtain⟨y,hy⟩:=aB (pv F k)
   obtain⟨z,hz⟩:=aB (G (14+4*k))
   obtain⟨u,hu⟩:=aB (F k)
   rw[hy,hz,hu]at q
   rw[hz]at GN
   rw[hy]
   have HU:=hid (show F k=u/\u<4294967296 from⟨hu,by rw[<- hu];exact b3⟩)
   clear hy hz hu b1 b2 b3 bg e8 e9 hkm hk
   go_wp2_with fail
   refine GN.out.mono ?_
   rintro e9 v9 ⟨rfl,k9,hv9⟩
   have A9:Ab wr v9:=by rw[hv9];exact Ab.drewN (Ab.refl _) k9
   have R9:=hid (A9.heap R8.out)
   have O9:=hid (O8.out.to A9)
   have D9:=hid (Abo.trans A8.out (Abo.of A9 gt))
   clear hv9 A9 GN R8 O8 A8 AB8
   have y3:=aA 3 R9.out
   have NB: ∀j w',([u].map fun x:Nat=>Value.int .u32 (x:Int))[j]? =some w'->(v9.alloc (.cells #[.int .u32 (u:Int)] 22)).cell? ((⟨v9.heap.size,0,none⟩:Addr).add j)=some w':=World.news_of_block (cs:= #[.int .u32 (u:Int)]) (t:=22) (fr:=(0,0)) (heap_alloc_new _ _)
   have NH:=hid NB
   clear NB
   have sz9:=D9.out.2.2.2.1
   have S9:=hid sz9
   clear sz9
   go_upto_region 14 with(at_builtin;refine T32.dD rfl (.tmp 80) (.tmp 82) rfl wc.heap.size v ((List.range k).map F) rfl (O9.out.alloc _) ⟨v9.heap.size,0,none⟩ 1 1 [u] rfl rfl NH.out (by decide) (by have:=HM.out;have:=HK.out;simp;omega) (by have:=S9.out;simp;omega) (k+1) (by simp) ?_;intro g5 c5 v5 o5 q5 e5 l5;have ge:v5.heap[gt]? =v9.heap[gt]? :=(q5.block gt (by have:=S9.out;have:=NE.out;simp;omega) (fun e=>by have:=(World.ownsRow.lt O9.out gt e.symm).1;have:=NE.out;omega)).trans (Below.heap_alloc _ _ _ (by have:=S9.out;have:=NE.out;omega));have rt5:=ge.trans R9.out;have t3:=aA 3 rt5;have f3:=aC rt5 3)
   have P5:(v5.setCell ⟨gt,3,none⟩ (.slice (some ⟨g5,0,none⟩) (k+1) c5)).heap[gt]? =some (.cells #[.int .i64 (fc:Int),.int .u32 (G 6:Nat),.int .u32 (G 10:Nat),.slice (some ⟨g5,0,none⟩) (k+1) c5] 25):=by
    have q:=aG (v:=.slice (some ⟨g5,0,none⟩) (k+1) c5) (k:=3) rt5
    simpa using q
   have eR:(List.range k).map F++[u]=(List.range (k+1)).map F:=by rw[List.range_succ,List.map_append,<- HU.out.1];rfl
   have O5:T32.Own wc.heap.size (.slice (some ⟨g5,0,none⟩) (k+1) c5) ((List.range (k+1)).map F) (v5.setCell ⟨gt,3,none⟩ (.slice (some ⟨g5,0,none⟩) (k+1) c5)):=by
    rw[<- eR]
    exact ownsRow_setCell_below o5 NE.out.2.2 _
   have D5:Sh.Abo wc gt (v5.setCell ⟨gt,3,none⟩ (.slice (some ⟨g5,0,none⟩) (k+1) c5)):=Abo.set (Sh.Abo.grown D9.out q5 (fun b hb=>.inr (World.ownsRow.lt O9.out b hb).1)) 3 _
   have PH:=hid P5
   have OH:=hid O5
   have DH:=hid D5
   clear P5 O5 D5 eR o5 q5 e5 l5 ge rt5 t3 f3 y3 NH
   go_wp2
   exact⟨⟨k+1,_,by have:=HK.out;omega,by simp,by rw[<- HU.out.1];rfl,PH.out,OH.out,DH.out⟩,by have:=HK.out;simp[intOf];omega⟩
  ·have e6:m=k:=by omega
   subst e6
   obtain⟨g,c9,rfl,hg1,hg2⟩:=World.ownsRow.form O8.out (by simp;have:=HM.out;omega)
   simp only[List.length_map,List.length_range]at O8 R8
   have IW:IsW .u32 4294967296 wr (some ⟨g,0,none⟩) m F:=by
    obtain⟨a0,cp0,e0,i0,-⟩:=T32.Own.at O8.out (fun x hx=>by
     obtain⟨j,hj,rfl⟩:=List.mem_map.1 hx
     exact BF.out j (List.mem_range.1 hj))
    rw[List.length_map,List.length_range]at e0 i0
    injection e0 with e1 e2 e3
    subst e1
    exact i0.congr (fun j hj=>by simp[List.getD,hj])
   have CBm:=hid (CB.out wr g c9 IW)
   have IH:=hid IW
   have LG:=hid (show wc.heap.size<=g/\g<wr.heap.size from⟨hg1,hg2⟩)
   have RG:Hid (wr.heap[gr]? =some (.cells #[.int .i64 0,.int .u32 0,.int .u32 0,.slice none 0 0] 25)):=(A8.out.2.2.2.2 gr NE.out.2.1 NE.out.1).trans R2.out
   clear IW hg1 hg2 hk hkm
   have t0:=aA 0 R8.out
   have t1:=aA 1 R8.out
   have t2:=aA 2 R8.out
   have t3:=aA 3 R8.out
   go_wp2_with fail
   refine CBm.out.mono ?_
   rintro e9 v3 ⟨rfl,b3⟩
   have A3:Hid (Ab w v3):=Sh.Abo.ab (Abo.trans A8.out (Abo.of b3 gt)) AC.out (by have:=LT.out;have:=A1.out.size;omega)
   have R3:=hid (Ab.heap b3 RG.out)
   have RT3:=hid (Ab.heap b3 R8.out)
   have IW3:=hid (IH.out.below b3)
   clear b3 t0 t1 t2 t3 CBm
   have t0:=aA 0 R3.out
   have t1:=aA 1 R3.out
   have t2:=aA 2 R3.out
   have t3:=aA 3 R3.out
   have f0:=aC R3.out 0
   have f1:=aC R3.out 1
   have f2:=aC R3.out 2
   have f3:=aC R3.out 3
   go_wp2_with fail
   (try simp only[Exit.inBlock,Exit.then])
   refine bodyPost_ret (v:=.tuple #[.agg #[.int .i64 0,.int .u32 0,.int .u32 0,.slice none 0 0],.int .i64 30]) ?_ rfl ?_
   ·exact aU results8 _ _ gr _ _ (0,0) _ _ rfl rfl (bT R3.out) underlying25 rfl (by kernel_rfl)
   ·exact⟨rfl,(((A3.out.setk HG.out _).setk HG.out _).setk HG.out _).setk HG.out _⟩
theorem rdec_8(b o L cp:Nat)(f:Nat->Nat)(fc n:Nat)(w:World)(hL:(14:Int)<=(L:Int))(hL2:(L:Int)<=(cp:Int)/\(cp:Int)<=9223372036854775807)(hf:IsW .u8 256 w (some ⟨b,o,none⟩) L f)(h4:f 4=fc)(h5:f 5=n)(hm:decide (f 0=84/\f 1=73/\f 2=76/\f 3=69)=true)(hf5: ¬(5:Int)<(fc:Int))(hn: ¬(n:Int)<1)(hn2: ¬(32:Int)<(n:Int))(M:Nat)(hM:4*(n:Int)*(n:Int)=(M:Int))(hM2:(M:Int)<=4096)(hN:(14:Int)+(M:Int)=(L:Int))(m:Nat)(G F:Nat->Nat)(hFb: ∀i,i<m->F i<4294967296)(h6: ∀i,num (fun j=>f (i+j)) 0=G i)(hF:rx (fun k=>num f (14+4*k))=F)(hNm:14+4*m=L)(hm4:1<=m)(hm5:m<=1024)(hnn:(n:Int)*(n:Int)=(m:Int))(CB:Hid (∀v g c,IsW .u32 4294967296 v (some ⟨g,0,none⟩) m F->Calls prog 17 #[.agg #[.int .i64 (fc:Int),.int .u32 (G 6:Nat),.int .u32 (G 10:Nat),.slice (some ⟨g,0,none⟩) m c]] v fun e w'=>e=.returned (.bool true)/\Below v.heap.size v w')):
  Calls prog 8 #[.slice (some ⟨b,o,none⟩) L cp] w fun e w'=> ∃g c,e=.returned (.tuple #[.agg #[.int .i64 (fc:Int),.int .u32 (G 6:Nat),.int .u32 (G 10:Nat),.slice (some ⟨g,0,none⟩) m c],.int .i64 0])/\Below w.heap.size w w'/\IsW .u32 4294967296 w' (some ⟨g,0,none⟩) m F:=by
 have HF:=hid hf
 have HL:=hid (show 14<=L by omega)
 have c1:(L:Int)<=(cp:Int):=hL2.1
 have c2:(cp:Int)<=9223372036854775807:=hL2.2
 have MK:=aK (fun i hi=>hf.lt i (by omega)) true hm
 have fb:(fc:Int)<256:=by have:=hf.lt 4 (by omega);omega
 have nb:(n:Int)<256:=by have:=hf.lt 5 (by omega);omega
 have f0':(0:Int)<=(fc:Int):=by omega
 have n0':(0:Int)<=(n:Int):=by omega
 have l4:(4:Int)<=(L:Int):=by omega
 have l4b:(4:Int)<(L:Int):=by omega
 have l5b:(5:Int)<(L:Int):=by omega
 have l4c:(4:Int)<=(cp:Int):=by omega
 have LL:=hid h6
 have HM:=hid (show 14+4*m=L/\1<=m/\m<=1024 from⟨hNm,hm4,hm5⟩)
 have EF:=hid hF
 have BF:=hid hFb
 clear hFb h6 hF hNm hm4
 have H45:=hid (show f 4=fc/\f 5=n from⟨h4,h5⟩)
 clear hm hf h4 h5 hL2
 obtain⟨A0,R0⟩:=aD w (.cells #[.int .i64 0,.int .u32 0,.int .u32 0,.slice none 0 0] 25)
 go_enter func8,ntmps8
 go_upto_region 1 with fail
 generalize hW:World.alloc w _=V0 at*
 obtain⟨gr,hgr⟩:=aB w.heap.size
 have HG:Hid (w.heap.size<=gr):=by show _<=_;omega
 rw[hgr]at R0 ⊢
 clear hgr hW
 have CV: ∀c:Nat,(convert 26 9 (.slice (some ⟨b,o,none⟩) 4 c)).run prog V0=.ok (.string (str f 4)) V0:=fun c=>aJ underlying26 underlying5 underlying9 (by
  have q:=(HF.out.below A0.out).part 0 4 (by have:=HL.out;omega)
  simpa using q) (fun e=>by cases e)
 have b4:=((HF.out.below A0.out).at0 (k:=4) (by have:=HL.out;omega)).2.2
 have b5:=((HF.out.below A0.out).at0 (k:=5) (by have:=HL.out;omega)).2.2
 rw[H45.out.1]at b4
 rw[H45.out.2]at b5
 have wf:IntKind.i64.wrap (fc:Int)=(fc:Int):=by rw[IntKind.wrap_i64];omega
 have b6:(6:Int)<=(L:Int):=by have:=HL.out;omega
 have b10:(10:Int)<=(L:Int):=by have:=HL.out;omega
 have b14:(14:Int)<=(L:Int):=by have:=HL.out;omega
 have p6: ¬cp=6:=by have:=HL.out;omega
 have p10: ¬cp=10:=by have:=HL.out;omega
 have FB:=hid (HF.out.below A0.out)
 have GG:Hid (∀v (i:Nat),Ab V0 v->i+4<=L->Calls prog 23 #[.slice (some ⟨b,o+i,none⟩) (L - i) (cp - i)] v fun e w'=>e=.returned (.int .u32 (G i:Nat))/\ ∃k,w'=v.drewN k):=fun v i a hi=>by rw[<- LL.out i];exact jH b (o+i) (L - i) (cp - i) (fun j=>f (i+j)) v (by omega) ((FB.out.below a).part i (L - i) (by omega))
 have KS:Hid (∀v,Ab V0 v->Ab V0 v/\v.cell? ⟨b,o+4,none⟩=some (.int .u8 (fc:Int))):=fun v a=>by
  have q:=((FB.out.below a).at0 (k:=4) (by have:=HL.out;omega)).2.2
  rw[H45.out.1]at q
  exact⟨a,q⟩
 go_wp2_with fail
 clear b4 b5 CV MK
 go_cut [5]from 53 to 63 (fun s5 wx=> ∃gt,s5=.pointer (some ⟨gt,0,none⟩)/\Ab V0 wx/\V0.heap.size<=gt/\wx.heap[gt]? =some (.cells #[.int .i64 (fc:Int),.int .u32 (G 6:Nat),.int .u32 (G 10:Nat),.slice none 0 0] 25))
 case first=>
  have X0:Ab V0 V0:=Ab.refl V0
  go_region_held3 (fun w'=>Ab V0 w'/\w'.cell? ⟨b,o+4,none⟩=some (.int .u8 (fc:Int))) ((refine KS.out _ ?_;(with_reducible (repeat(first | assumption | apply Ab.drew | apply Ab.drewN | apply Ab.alloc | (refine Ab.setk ?_ (by first | exact Nat.le_refl _ | assumption) _))));done)) (first
   | (go_at_call 23;refine(GG.out _ _ (by with_reducible (repeat(first | assumption | apply Ab.drew | apply Ab.drewN | apply Ab.alloc))) (by have:=HM.out;omega)).mono ?_;rintro e9 z2 ⟨rfl,k2,hz2⟩;have a9:Ab _ z2:=(by rw[hz2];exact Ab.drewN (Ab.refl _) k2);have az2:Ab V0 z2:=Ab.trans (show Ab V0 _ by with_reducible (repeat(first | assumption | apply Ab.drew | apply Ab.drewN | apply Ab.alloc))) a9;have lz:=az2.size;clear hz2;first | (have q3:=Ab.heap a9 q2;have t0:=aA 0 q3;have f0:=aC q3 0;have t1:=aA 1 q3;have f1:=aC q3 1;have t2:=aA 2 q3;have f2:=aC q3 2;have t3:=aA 3 q3;have f3:=aC q3 3;skip) | (have q2:=Ab.heap a9 (heap_drew_new _ _);have t0:=aA 0 q2;have f0:=aC q2 0;have t1:=aA 1 q2;have f1:=aC q2 1;have t2:=aA 2 q2;have f2:=aC q2 2;have t3:=aA 3 q2;have f3:=aC q2 3;skip) | (have q2:=Ab.heap a9 (heap_alloc_new _ _);have t0:=aA 0 q2;have f0:=aC q2 0;have t1:=aA 1 q2;have f1:=aC q2 1;have t2:=aA 2 q2;have f2:=aC q2 2;have t3:=aA 3 q2;have f3:=aC q2 3;skip) | skip))
  all_goals(try go_wp2_with fail)
  all_goals(try go_meet)
  all_goals first
   | exact⟨_,rfl,az2.alloc _,az2.size,heap_alloc_new _ _⟩
   | exact⟨_,rfl,(((az2.setk (by first | exact Nat.le_refl _ | assumption) _).setk (by first | exact Nat.le_refl _ | assumption) _).setk (by first | exact Nat.le_refl _ | assumption) _).setk (by first | exact Nat.le_refl _ | assumption) _,(by first | exact Nat.le_refl _ | assumption),bT q3⟩
   | exact⟨_,rfl,(((az2.setk (by first | exact Nat.le_refl _ | assumption) _).setk (by first | exact Nat.le_refl _ | assumption) _).setk (by first | exact Nat.le_refl _ | assumption) _).setk (by first | exact Nat.le_refl _ | assumption) _,(by first | exact Nat.le_refl _ | assumption),bT q2⟩
 case rest=>
 obtain⟨gt,rfl,ac,lt,rt⟩:=hcut
 have AV:=hid ac
 have AC:=hid (A0.out.trans ac)
 have LT:=hid lt
 have R2:=hid (Ab.heap ac R0.out)
 have NE:=hid (show gr≠gt/\gr<wc.heap.size/\gt<wc.heap.size from⟨by have:=lt_of_block R0.out;omega,by have:=lt_of_block R0.out;have:=ac.size;omega,lt_of_block rt⟩)
 have O0:Hid (T32.Own wc.heap.size (.slice none 0 0) ((List.range 0).map F) wc):=T32.Own.new _ _
 have RT:=hid rt
 have LB:=hid (IsW.lt HF.out)
 have A1:=A0
 clear ac lt rt A0 KS
 go_wp2
 go_loopw [6,7] (fun xv iv wr=> ∃(k:Nat) (v:Value),k<=m/\iv=.int .i64 (k:Nat)/\xv=.int .u32 ((pv F k:Nat):Int)/\wr.heap[gt]? =some (.cells #[.int .i64 (fc:Int),.int .u32 (G 6:Nat),.int .u32 (G 10:Nat),v] 25)/\T32.Own wc.heap.size v ((List.range k).map F) wr/\Sh.Abo wc gt wr) (fun _ iv _=>m - (intOf iv).toNat)
 case atStart=>exact⟨0,_,by omega,rfl,rfl,RT.out,O0.out,Sh.Abo.refl _ _⟩
 case round=>
  obtain⟨k,v,hk,rfl,rfl,r8,o8,a8⟩:=hrel
  have R8:=hid r8
  have O8:=hid o8
  have A8:=hid a8
  clear r8 o8 a8 RT O0
  have AB8:Hid (Ab V0 wr):=Sh.Abo.ab A8.out AV.out LT.out
  by_cases hkm:k<m
  ·have HK:=hid hkm
   have kI:(k:Int)<(m:Int):=by omega
   have kI0:(0:Int)<=(k:Int):=by omega
   have kB:(k:Int)<=1024:=by omega
   have k1:14+4*(k:Int)<=(L:Int):=by have:=HM.out;omega
   have k3: ¬cp=14+4*k:=by have:=HM.out;omega
   have bg:=fun i (hi:i<=k)=>BF.out i (by omega)
   have e8:G (14+4*k)=num f (14+4*k):=by rw[<- LL.out];rfl
   have e9:F k=pv F k ^^^ G (14+4*k):=by
    rw[e8]
    have q:=rx_pv (fun k=>num f (14+4*k)) k
    rw[EF.out]at q
    exact q
   have b1:=lK (f:=F) (M:=4294967296) (k:=k) (by decide) (fun i hi=>bg i (by omega))
   have b2:G (14+4*k)<4294967296:=by rw[e8];exact num_32 LB.out (by have:=HM.out;omega)
   have b3:=bg k (Nat.le_refl _)
   have q:=lJ b1 b2
   rw[<- e9]at q
   have GN:=hid (GG.out wr (14+4*k) AB8.out (by have:=HM.out;omega))
   obtain⟨y,hy⟩:=aB (pv F k)
   obtain⟨z,hz⟩:=aB (G (14+4*k))
   obtain⟨u,hu⟩:=aB (F k)
   rw[hy,hz,hu]at q
   rw[hz]at GN
   rw[hy]
   have HU:=hid (show F k=u/\u<4294967296 from⟨hu,by rw[<- hu];exact b3⟩)
   clear hy hz hu b1 b2 b3 bg e8 e9 hkm hk
   go_wp2_with fail
   refine GN.out.mono ?_
   rintro e9 v9 ⟨rfl,k9,hv9⟩
   have A9:Ab wr v9:=by rw[hv9];exact Ab.drewN (Ab.refl _) k9
   have R9:=hid (A9.heap R8.out)
   have O9:=hid (O8.out.to A9)
   have D9:=hid (Abo.trans A8.out (Abo.of A9 gt))
   clear hv9 A9 GN R8 O8 A8 AB8
   have y3:=aA 3 R9.out
   have NB: ∀j w',([u].map fun x:Nat=>Value.int .u32 (x:Int))[j]? =some w'->(v9.alloc (.cells #[.int .u32 (u:Int)] 22)).cell? ((⟨v9.heap.size,0,none⟩:Addr).add j)=some w':=World.news_of_block (cs:= #[.int .u32 (u:Int)]) (t:=22) (fr:=(0,0)) (heap_alloc_new _ _)
   have NH:=hid NB
   clear NB
   have sz9:=D9.out.2.2.2.1
   have S9:=hid sz9
   clear sz9
   go_upto_region 14 with(at_builtin;refine T32.dD rfl (.tmp 80) (.tmp 82) rfl wc.heap.size v ((List.range k).map F) rfl (O9.out.alloc _) ⟨v9.heap.size,0,none⟩ 1 1 [u] rfl rfl NH.out (by decide) (by have:=HM.out;have:=HK.out;simp;omega) (by have:=S9.out;simp;omega) (k+1) (by simp) ?_;intro g5 c5 v5 o5 q5 e5 l5;have ge:v5.heap[gt]? =v9.heap[gt]? :=(q5.block gt (by have:=S9.out;have:=NE.out;simp;omega) (fun e=>by have:=(World.ownsRow.lt O9.out gt e.symm).1;have:=NE.out;omega)).trans (Below.heap_alloc _ _ _ (by have:=S9.out;have:=NE.out;omega));have rt5:=ge.trans R9.out;have t3:=aA 3 rt5;have f3:=aC rt5 3)
   have P5:(v5.setCell ⟨gt,3,none⟩ (.slice (some ⟨g5,0,none⟩) (k+1) c5)).heap[gt]? =some (.cells #[.int .i64 (fc:Int),.int .u32 (G 6:Nat),.int .u32 (G 10:Nat),.slice (some ⟨g5,0,none⟩) (k+1) c5] 25):=by
    have q:=aG (v:=.slice (some ⟨g5,0,none⟩) (k+1) c5) (k:=3) rt5
    simpa using q
   have eR:(List.range k).map F++[u]=(List.range (k+1)).map F:=by rw[List.range_succ,List.map_append,<- HU.out.1];rfl
   have O5:T32.Own wc.heap.size (.slice (some ⟨g5,0,none⟩) (k+1) c5) ((List.range (k+1)).map F) (v5.setCell ⟨gt,3,none⟩ (.slice (some ⟨g5,0,none⟩) (k+1) c5)):=by
    rw[<- eR]
    exact ownsRow_setCell_below o5 NE.out.2.2 _
   have D5:Sh.Abo wc gt (v5.setCell ⟨gt,3,none⟩ (.slice (some ⟨g5,0,none⟩) (k+1) c5)):=Abo.set (Sh.Abo.grown D9.out q5 (fun b hb=>.inr (World.ownsRow.lt O9.out b hb).1)) 3 _
   have PH:=hid P5
   have OH:=hid O5
   have DH:=hid D5
   clear P5 O5 D5 eR o5 q5 e5 l5 ge rt5 t3 f3 y3 NH
   go_wp2
   exact⟨⟨k+1,_,by have:=HK.out;omega,by simp,by rw[<- HU.out.1];rfl,PH.out,OH.out,DH.out⟩,by have:=HK.out;simp[intOf];omega⟩
  ·have e6:m=k:=by omega
   subst e6
   obtain⟨g,c9,rfl,hg1,hg2⟩:=World.ownsRow.form O8.out (by simp;have:=HM.out;omega)
   simp only[List.length_map,List.length_range]at O8 R8
   have IW:IsW .u32 4294967296 wr (some ⟨g,0,none⟩) m F:=by
    obtain⟨a0,cp0,e0,i0,-⟩:=T32.Own.at O8.out (fun x hx=>by
     obtain⟨j,hj,rfl⟩:=List.mem_map.1 hx
     exact BF.out j (List.mem_range.1 hj))
    rw[List.length_map,List.length_range]at e0 i0
    injection e0 with e1 e2 e3
    subst e1
    exact i0.congr (fun j hj=>by simp[List.getD,hj])
   have CBm:=hid (CB.out wr g c9 IW)
   have IH:=hid IW
   have LG:=hid (show wc.heap.size<=g/\g<wr.heap.size from⟨hg1,hg2⟩)
   have RG:Hid (wr.heap[gr]? =some (.cells #[.int .i64 0,.int .u32 0,.int .u32 0,.slice none 0 0] 25)):=(A8.out.2.2.2.2 gr NE.out.2.1 NE.out.1).trans R2.out
   clear IW hg1 hg2 hk hkm
   have t0:=aA 0 R8.out
   have t1:=aA 1 R8.out
   have t2:=aA 2 R8.out
   have t3:=aA 3 R8.out
   go_wp2_with fail
   refine CBm.out.mono ?_
   rintro e9 v3 ⟨rfl,b3⟩
   have A3:Hid (Ab w v3):=Sh.Abo.ab (Abo.trans A8.out (Abo.of b3 gt)) AC.out (by have:=LT.out;have:=A1.out.size;omega)
   have R3:=hid (Ab.heap b3 RG.out)
   have RT3:=hid (Ab.heap b3 R8.out)
   have IW3:=hid (IH.out.below b3)
   clear b3 t0 t1 t2 t3 CBm
   have t0:=aA 0 RT3.out
   have t1:=aA 1 RT3.out
   have t2:=aA 2 RT3.out
   have t3:=aA 3 RT3.out
   have z0:=aA 0 R3.out
   have z1:=aA 1 R3.out
   have z2:=aA 2 R3.out
   have z3:=aA 3 R3.out
   have f0:=aC R3.out 0
   have f1:=aC R3.out 1
   have f2:=aC R3.out 2
   have f3:=aC R3.out 3
   go_wp2_with fail
   (try simp only[Exit.inBlock,Exit.then])
   have ne:g≠gr:=by have:=LG.out;have:=NE.out;omega
   refine bodyPost_ret (v:=.tuple #[.agg #[.int .i64 (fc:Int),.int .u32 (G 6:Nat),.int .u32 (G 10:Nat),.slice (some ⟨g,0,none⟩) m c9],.int .i64 0]) ?_ rfl ?_
   ·exact aU results8 _ _ gr _ _ (0,0) _ _ rfl rfl (bT R3.out) underlying25 rfl (by kernel_rfl)
   ·exact⟨g,c9,rfl,(((A3.out.setk HG.out _).setk HG.out _).setk HG.out _).setk HG.out _,gJ ne (gJ ne (gJ ne (gJ ne IW3.out)))⟩
end Ti
end
section
open Go.RowKit Go.Deep Tf
namespace Ti
theorem fT(p:Option Addr)(L cp:Nat)(f:Nat->Nat)(w:World)(hL:L<=cp/\cp<=9223372036854775807)(hf:IsW .u8 256 w p L f)(h:dErr L f=0):
  Calls prog 8 #[.slice p L cp] w fun e w'=> ∃g c,e=.returned (.tuple #[.agg #[.int .i64 ((f 4:Nat):Int),.int .u32 ((num f 6:Nat):Int),.int .u32 ((num f 10:Nat):Int),.slice (some ⟨g,0,none⟩) (f 5*f 5:Nat) c],.int .i64 0])/\Below w.heap.size w w'/\IsW .u32 4294967296 w' (some ⟨g,0,none⟩) (f 5*f 5) (dec f):=by
 obtain⟨e1,e2⟩:=kE h
 obtain⟨h1,h2,h3,h4⟩:=nB e1
 obtain⟨b,o,rfl⟩:=hf.some0 (by omega)
 have s:=bL h3.1 h3.2
 have q2:4*((f 5:Nat):Int)*((f 5:Nat):Int)=((4*(f 5*f 5):Nat):Int):=by rw[Int.mul_assoc,<- Int.natCast_mul,Int.natCast_mul 4];rfl
 have q3:((f 5:Nat):Int)*((f 5:Nat):Int)=((f 5*f 5:Nat):Int):=(Int.natCast_mul _ _).symm
 obtain⟨m,hm⟩:=aB (f 5*f 5)
 rw[hm]at s e2 h4 q2 q3 ⊢
 exact rdec_8 b o L cp f (f 4) (f 5) w (by omega) (by omega) hf rfl rfl (decide_eq_true h1) (by omega) (by omega) (by omega) (4*m) q2 (by omega) (by omega) m (num f) (dec f) (kF hf.lt (by omega)) (fun i=>by
  unfold num
  rfl) rfl h4 (by omega) (by omega) q3 (hid fun v g c iw=>by rw[<- e2];exact gI _ _ _ _ m c (dec f) v (by omega) iw)
theorem iK(p:Option Addr)(L cp:Nat)(f:Nat->Nat)(w:World)(hL:L<=cp/\cp<=9223372036854775807)(hf:IsW .u8 256 w p L f)(h:dErr L f≠0):
  Calls prog 8 #[.slice p L cp] w fun e w'=>e=.returned (.tuple #[.agg #[.int .i64 0,.int .u32 0,.int .u32 0,.slice none 0 0],.int .i64 (dErr L f)])/\Below w.heap.size w w':=by
 by_cases c1:L<14
 ·have e:derr L f=31:=by unfold derr;rw[if_pos c1]
  have e2:dErr L f=31:=by unfold dErr;rw[e];rfl
  rw[e2]
  exact rdec_0 p L cp w (by omega)
 obtain⟨b,o,rfl⟩:=hf.some0 (by omega)
 by_cases c2:((f 0=84/\f 1=73/\f 2=76/\f 3=69)/\f 4<=5/\1<=f 5/\f 5<=32)
 ·obtain⟨h1,h2,h3⟩:=c2
  have s:=bL h3.1 h3.2
  have q2:4*((f 5:Nat):Int)*((f 5:Nat):Int)=((4*(f 5*f 5):Nat):Int):=by rw[Int.mul_assoc,<- Int.natCast_mul,Int.natCast_mul 4];rfl
  have q3:((f 5:Nat):Int)*((f 5:Nat):Int)=((f 5*f 5:Nat):Int):=(Int.natCast_mul _ _).symm
  obtain⟨m,hm⟩:=aB (f 5*f 5)
  rw[hm]at s q2 q3
  by_cases c3:L<14+4*m
  ·have e:derr L f=31:=by unfold derr;rw[if_neg c1,if_neg (fun q=>q ⟨h1,h2,h3⟩),hm,if_pos c3]
   have e2:dErr L f=31:=by unfold dErr;rw[e];rfl
   rw[e2]
   exact rdec_5 b o L cp f (f 4) (f 5) w (by omega) (by omega) hf rfl rfl (decide_eq_true h1) (by omega) (by omega) (by omega) (4*m) (14+4*m) q2 (by omega) (by omega) (by omega)
  by_cases c4:14+4*m<L
  ·have e:derr L f=3:=by unfold derr;rw[if_neg c1,if_neg (fun q=>q ⟨h1,h2,h3⟩),hm,if_neg c3,if_pos c4]
   have e2:dErr L f=3:=by unfold dErr;rw[e];rfl
   rw[e2]
   exact rdec_6 b o L cp f (f 4) (f 5) w (by omega) (by omega) hf rfl rfl (decide_eq_true h1) (by omega) (by omega) (by omega) (4*m) (14+4*m) q2 (by omega) (by omega) (by omega) (by omega)
  ·have e:derr L f=0:=by unfold derr;rw[if_neg c1,if_neg (fun q=>q ⟨h1,h2,h3⟩),hm,if_neg c3,if_neg c4]
   have e4:okT ((f 4:Nat):Int) m (dec f) (num f 6) (num f 10)=false:=by
    cases k:okT ((f 4:Nat):Int) m (dec f) (num f 6) (num f 10)with
    | false=>rfl
    | true=>exact absurd (by unfold dErr;rw[e,hm,if_neg (by decide),if_pos k]) h
   have e2:dErr L f=30:=by unfold dErr;rw[e,hm,e4];rfl
   rw[e2]
   exact rdec_7 b o L cp f (f 4) (f 5) w (by omega) (by omega) hf rfl rfl (decide_eq_true h1) (by omega) (by omega) (by omega) (4*m) q2 (by omega) (by omega) m (num f) (dec f) (kF hf.lt (by omega)) (fun i=>by
    unfold num
    rfl) rfl (by omega) (by omega) (by omega) q3 (hid fun v g c iw=>by rw[<- e4];exact gI _ _ _ _ m c (dec f) v (by omega) iw)
 ·have e:derr L f=30:=by unfold derr;rw[if_neg c1,if_pos c2]
  have e2:dErr L f=30:=by unfold dErr;rw[e];rfl
  rw[e2]
  by_cases h1:(f 0=84/\f 1=73/\f 2=76/\f 3=69)
  ·by_cases h2:f 4<=5
   ·by_cases h3:1<=f 5
    ·exact rdec_4 b o L cp f (f 4) (f 5) w (by omega) (by omega) hf rfl rfl (decide_eq_true h1) (by omega) (by omega) (by omega)
    ·exact rdec_3 b o L cp f (f 4) (f 5) w (by omega) (by omega) hf rfl rfl (decide_eq_true h1) (by omega) (by omega)
   ·exact rdec_2 b o L cp f (f 4) (f 5) w (by omega) (by omega) hf rfl rfl (decide_eq_true h1) (by omega)
  ·exact rdec_1 b o L cp f (f 4) (f 5) w (by omega) (by omega) hf rfl rfl (decide_eq_false h1)
end Ti
end
end Go.Proofs.Ytmjldplhhgfnaaa
