/-
  Some of the texts of this proof, one behind the other.
-/
import Derived.Lib.AppendStr
import Derived.Lib.SlBytesConst
import Derived.Test.YtlmfpikhlcnjjaaGreatDoorTie
import Derived.Test.YtlmfpikhlcnjjaaGreatDoorCards
import Derived.ProofKit
import Derived.LaidMore
import Derived.OpenShut
import Derived.Stop.Joined
import Derived.Carry
import Derived.Lib.SmallJoins
import Derived.WalkLawsBesides
import Derived.Deep.AppendSrc
import Derived.Laws.StructEq
import Derived.Test.YtlmfpikhlcnjjaaGreatDoorRows
import Derived.Test.YtlmfpikhlcnjjaaGreatDoorSk11
set_option maxRecDepth 100000
set_option maxHeartbeats 400000000
namespace Go.Proofs.YtlmfpikhlcnjjaaGreatDoor
open _root_.Go.Proofs.Tryz
section
open Go.RowKit Go.Deep Tf Cu
attribute [local go_sem] aF aG aI aJ aK aL aM aD
namespace Sv
theorem head_any(r:Nat)(p:Option Addr)(l c:Nat)(w:World)(h:w.heap[r]? =some (.cells #[.slice p l c] 82))(hl:l<21):
  Calls prog 54 #[.pointer (some ⟨r,0,none⟩)] w fun e w'=>e=.panicked [{v:=.iface 28 (.int .i64 31),recovered:=false}]/\Ab w w':=by
 have A0:=bG (bl1 w (.cells #[.slice none 0 0,.slice none 0 0,.slice none 0 0,.slice none 0 0,.int .i64 0,.int .i64 0] 25))
 have R0:=A0.out.heap h
 have CB:=hid (kE r p l c 21 _ (aA 0 R0) hl)
 clear h hl R0
 go_enter func54,ntmps54
 go_upto_region 1 with fail
 generalize hV:World.alloc w _=v0 at*
 go_wp2_with (go_at_call 72;refine CB.out.mono ?_;rintro e9 z1 ⟨rfl,hz⟩;have hz2:=hz.symm;subst hz2)
 exact⟨rfl,rfl,A0.out⟩
theorem read_any(p:Option Addr)(l c:Nat)(w:World)(hl:l<21):
  Calls prog 28 #[.slice p l c] w fun e w'=>e=.panicked [{v:=.iface 28 (.int .i64 31),recovered:=false}]/\Ab w w':=by
 have A0:=bG (bl2 w (.cells #[.slice none 0 0,.slice none 0 0,.slice none 0 0,.slice none 0 0,.int .i64 0,.int .i64 0] 25) (.cells #[.slice p l c] 82))
 have R0:((w.alloc (.cells #[.slice none 0 0,.slice none 0 0,.slice none 0 0,.slice none 0 0,.int .i64 0,.int .i64 0] 25)).alloc (.cells #[.slice p l c] 82)).heap[w.heap.size+1]? =some (.cells #[.slice p l c] 82):=by
  have q:=heap_alloc_new (w.alloc (.cells #[.slice none 0 0,.slice none 0 0,.slice none 0 0,.slice none 0 0,.int .i64 0,.int .i64 0] 25)) (.cells #[.slice p l c] 82)
  rw[bT]at q
  exact q
 have CH:=hid (head_any (w.heap.size+1) p l c _ R0 hl)
 clear R0 hl
 go_enter func28,ntmps28
 go_upto_region 2 with fail
 generalize hV:World.alloc (World.alloc w _) _=v0 at*
 obtain⟨r,hr⟩:=aB (w.heap.size+1)
 rw[hr]at CH ⊢
 clear hV hr
 go_wp2_with (go_at_call 54;refine CH.out.mono ?_;rintro e9 v1 ⟨rfl,b1⟩)
 exact⟨rfl,rfl,A0.out.trans b1⟩
def DecOK(N M sd:Nat)(F:Nat->Nat)(w:World)(e:Ending)(w':World):Prop:= ∃t0 t1 t2 t3,e=.returned (.tuple #[.int .i64 (sd:Nat),.agg #[.slice (some ⟨t0,0,none⟩) N N,.slice (some ⟨t1,0,none⟩) N N,.slice (some ⟨t2,0,none⟩) N N,.slice (some ⟨t3,0,none⟩) M M,.int .i64 (i64 (num F 13)),.int .i64 (i64 (num F 5))],.int .i64 0])/\Ab w w'/\(w.heap.size<=t0/\w.heap.size<=t1/\w.heap.size<=t2/\w.heap.size<=t3)/\(t0≠t1/\t0≠t2/\t0≠t3/\t1≠t2/\t1≠t3/\t2≠t3)/\w'.rowIs t0 47 N (fun i=>.float .f64 (dB F i))/\w'.rowIs t1 2 N (fun i=>.int .i64 (dW N F i))/\w'.rowIs t2 2 N (fun i=>.int .i64 (dT N F i))/\w'.rowIs t3 47 M (fun i=>.float .f64 (dS N F i))
theorem mX{n N M:Nat}{B:Nat->Nat}{W T:Nat->Int}{S:Nat->Nat}{sky st:Int}(hn:1<=n/\n<=32)(hN:6*n*n=N):Ss.chk (n:Nat) N N N M B W T S sky st=Ss.chN N N N N M B W T S sky st:=by
 unfold Ss.chk
 rw[if_pos (by omega),Int.toNat_natCast,hN]
theorem dec_no(p:Option Addr)(l c:Nat)(F:Nat->Nat)(w:World)(hl:l<=c/\c<=9223372036854775807)(hF:Ti.IsW .u8 256 w p l F)(he:derr l F≠0):
  Calls prog 8 #[.slice p l c] w fun e w'=>e=.returned (.tuple #[.int .i64 0,.agg #[.slice none 0 0,.slice none 0 0,.slice none 0 0,.slice none 0 0,.int .i64 0,.int .i64 0],.int .i64 (derr l F)])/\Ab w w':=by
 refine dec_bad p l c (derr l F) w fun v a=> ?_
 have HF:=hF.below a
 by_cases h1:l<21
 ·rw[show derr l F=31 from if_pos h1]
  exact read_any p l c v h1
 ·obtain⟨g,o,rfl⟩:=hF.some0 (by omega)
  have gl:=(hF.at0 (k:=0) (by omega)).2.1
  have glv:=(HF.at0 (k:=0) (by omega)).2.1
  unfold derr at he ⊢
  rw[if_neg h1]at he ⊢
  cases hm:decide (F 0=84/\F 1=65/\F 2=82/\F 3=78)with
  | false=>
   have hm2:=of_decide_eq_false hm
   rw[if_pos (fun q=>hm2 q.1)]
   exact lM g o l c F v hl HF 30 (fun r u hne hR hU=>tK r g o l c F u hR ⟨by omega,hl.1⟩ hne hU hm) glv
  | true=>
   have hm2:=of_decide_eq_true hm
   by_cases hb:1<=F 4/\F 4<=32
   ·rw[if_neg (fun q=>q ⟨hm2,hb⟩)]at he ⊢
    obtain⟨N,hN⟩:=aB (6*F 4*F 4)
    have hN1:6*1*1<=N:=by rw[<- hN];exact Nat.mul_le_mul (Nat.mul_le_mul (Nat.le_refl 6) hb.1) hb.1
    rw[hN]at he ⊢
    by_cases h2:l<29+40*N
    ·rw[if_pos h2]
     by_cases k0:l<21+N*8
     ·exact read_s0 g o l c F v hl HF (by omega) hm (F 4) N (2*N) (N*8) (2*N*8) rfl hb hN rfl rfl rfl ⟨by omega,by omega⟩
     ·by_cases k1:l<21+N*8+N*8
      ·exact read_s1 g o l c F v hl HF (by omega) hm (F 4) N (2*N) (N*8) (2*N*8) rfl hb hN rfl rfl rfl ⟨by omega,by omega⟩
      ·by_cases k2:l<21+N*8+N*8+N*8
       ·exact read_s2 g o l c F v hl HF (by omega) hm (F 4) N (2*N) (N*8) (2*N*8) rfl hb hN rfl rfl rfl ⟨by omega,by omega⟩
       ·by_cases k3:l<21+N*8+N*8+N*8+2*N*8
        ·exact read_s3 g o l c F v hl HF (by omega) hm (F 4) N (2*N) (N*8) (2*N*8) rfl hb hN rfl rfl rfl ⟨by omega,by omega⟩
        ·exact hP g o l c F v hl HF (by omega) hm (F 4) N (2*N) (N*8) (2*N*8) rfl hb hN rfl rfl rfl (by omega) 31 (fun r u hne hR hU=>(foot_no r g o l c _ u hR (by omega) hl.1 hl.2 (by omega)).mono fun e u' q=>⟨q.1,by rw[q.2];exact Sh.Abo.refl _ _⟩)
    ·rw[if_neg h2]at he ⊢
     have e0:21+N*8+N*8+N*8+2*N*8=21+40*N:=by omega
     by_cases h3:29+40*N<l
     ·rw[if_pos h3]
      exact hP g o l c F v hl HF (by omega) hm (F 4) N (2*N) (N*8) (2*N*8) rfl hb hN rfl rfl rfl (by omega) 30 (fun r u hne hR hU=>tM r g o l c _ F u hR (by omega) hl.1 hl.2 hne hU (by omega))
     ·rw[if_neg h3]at he ⊢
      by_cases h4:num F (21+40*N)≠smN F (21+40*N)
      ·rw[if_pos h4]
       exact hP g o l c F v hl HF (by omega) hm (F 4) N (2*N) (N*8) (2*N*8) rfl hb hN rfl rfl rfl (by omega) 32 (fun r u hne hR hU=>foot_sum r g o l c _ F u hR (by omega) hl.1 hl.2 hne hU (by omega) (by rw[e0];exact h4))
      ·rw[if_neg h4]at he ⊢
       refine read_chk g o l c F v hl HF (by omega) hm (F 4) N (2*N) (N*8) (2*N*8) rfl hb hN rfl rfl rfl (by omega) (by rw[e0];exact Decidable.of_not_not h4) _ ?_ he
       rw[mX hb hN]
       have eW:(fun i=>i64 (num F (21+N*8+8*i)))=dW N F:=by funext i;unfold dW;congr 2;omega
       have eT:(fun i=>i64 (num F (21+N*8+N*8+8*i)))=dT N F:=by funext i;unfold dT;congr 2;omega
       have eS:(fun i=>num F (21+N*8+N*8+N*8+8*i))=dS N F:=by funext i;unfold dS;congr 1;omega
       rw[eW,eT,eS]
       rfl
   ·rw[if_pos (fun q=>hb q.2)]
    exact lM g o l c F v hl HF 30 (fun r u hne hR hU=>tL r g o l c F u hR ⟨by omega,hl.1⟩ hne hU hm (F 4) rfl hb) glv
theorem rX(p:Option Addr)(l c n N M:Nat)(F:Nat->Nat)(w:World)(hl:l<=c/\c<=9223372036854775807)(hF:Ti.IsW .u8 256 w p l F)(he:derr l F=0)(hn:F 4=n)(hN:6*n*n=N)(hM:2*N=M):
  Calls prog 8 #[.slice p l c] w (DecOK N M n F w):=by
 have h1: ¬l<21:=fun h1=>by
  rw[show derr l F=31 from if_pos h1]at he
  omega
 obtain⟨g,o,rfl⟩:=hF.some0 (by omega)
 unfold derr at he
 rw[if_neg h1]at he
 by_cases hb:(F 0=84/\F 1=65/\F 2=82/\F 3=78)/\1<=F 4/\F 4<=32
 ·rw[if_neg (fun q=>q hb),hn,hN]at he
  by_cases h2:l<29+40*N
  ·rw[if_pos h2]at he
   omega
  ·rw[if_neg h2]at he
   by_cases h3:29+40*N<l
   ·rw[if_pos h3]at he
    omega
   ·rw[if_neg h3]at he
    by_cases h4:num F (21+40*N)≠smN F (21+40*N)
    ·rw[if_pos h4]at he
     omega
    ·rw[if_neg h4]at he
     have e0:21+N*8+N*8+N*8+M*8=21+40*N:=by omega
     have hb2:1<=n/\n<=32:=by rw[<- hn];exact hb.2
     have eW:(fun i=>i64 (num F (21+N*8+8*i)))=dW N F:=by funext i;unfold dW;congr 2;omega
     have eT:(fun i=>i64 (num F (21+N*8+N*8+8*i)))=dT N F:=by funext i;unfold dT;congr 2;omega
     have eS:(fun i=>num F (21+N*8+N*8+N*8+8*i))=dS N F:=by funext i;unfold dS;congr 1;omega
     refine(dec_good (some ⟨g,o,none⟩) l c n N M _ _ (dB F) (dW N F) (dT N F) (dS N F) w fun v a=> ?_).mono fun e w' q=>q
     have q:=read_ok g o l c F v hl (hF.below a) (by omega) (decide_eq_true hb.1) n N M (N*8) (M*8) hn hb2 hN hM rfl rfl (by omega) (by rw[e0];exact Decidable.of_not_not h4) (by
      rw[mX hb2 hN,eW,eT,eS,<- hM]
      exact he)
     refine q.mono fun e w' q=> ?_
     obtain⟨t0,t1,t2,t3,q1,q2,q3,q4,q5,q6,q7,q8⟩:=q
     refine⟨t0,t1,t2,t3,q1,q2,q3,q4,q5,?_,?_,?_⟩
     ·exact q6.congr fun i _=>congrArg (Value.int .i64) (congrFun eW i)
     ·exact q7.congr fun i _=>congrArg (Value.int .i64) (congrFun eT i)
     ·exact q8.congr fun i _=>congrArg (Value.float .f64) (congrFun eS i)
 ·rw[if_pos (fun q=>hb q)]at he
  omega
end Sv
end
section
open Go.RowKit Go.Deep Tf Cu
attribute [local go_sem] aF aG aI aJ aK aL aM aD
namespace Sv
theorem qQ{ops:Array Oper}{rest:List Oper}{o:Oper}{a:Act}{w:World}{Q:Exit->Act->World->Prop}(hgd:o.guard=none)(s x:Operand)
  (ho:o.op=.call {callee:=.builtin .append,args:= #[s,x],argTypes:= #[27,9]})
  (B:Nat) (v:Value) (hs:a.eval s=v) (hown:T8.Own B v [] w) (hx:a.eval x=.string {data:= #[84,65,82,78]}) (hB:B<=w.heap.size)
  (h: ∀g cap w',T8.Own B (.slice (some ⟨g,0,none⟩) 4 cap) [84,65,82,78] w'->w.grownBy w' v.ownBlock->wpList prog ops Q rest (a.put o.dst (.slice (some ⟨g,0,none⟩) 4 cap)) w'):wpList prog ops Q (o :: rest) a w:=by
 obtain⟨i0,hi,hz⟩:=Option.map_eq_some_iff.1 Ti.mT
 simp only[Prod.mk.injEq]at hz
 obtain⟨hz0,hz1,hz2⟩:=hz
 refine Go.Lib.wpList_append_own_string w hgd s x _ _ ho B 5 i0 underlying27 underlying9 hi hz0 hz1 hz2 v 0 [] hs hown _ hx (by decide) (by decide) hB ?_
 intro v' w' o1 g1 e1
 have o2:w'.ownsRow B 5 1 v' 4 ([84,65,82,78].map fun x:Nat=>Value.int .u8 (x:Int)):=o1
 rcases o2.2 with⟨q,q2⟩ | ⟨g2,cap2,cur,q,_⟩
 ·have:=(e1.1 q).2
  cases this
 ·subst q
  exact h g2 cap2 w' o2 g1
theorem size_at(n N sz:Nat)(v:World)(hn:n<=32)(hN:6*n*n=N)(hs:29+40*N=sz):Calls prog 16 #[.int .i64 (n:Nat)] v fun e w'=>e=.returned (.int .i64 (sz:Nat))/\w'=v:=by
 have CC:=hid (fun w=>aZ n N w hn hN)
 have CE:=hid (fun w=>cF n N (2*N) w hn hN rfl)
 have q5:N<=192*32:=by rw[<- hN];exact Nat.mul_le_mul (by omega) (by omega)
 have HN:=hid (show N<=6144/\29+40*N=sz from⟨by omega,hs⟩)
 obtain⟨M,hM⟩:=aB (2*N)
 have HM:=hid hM
 rw[hM]at CE
 have q6:(N:Int)<=6144:=by omega
 have q7:(M:Int)<=12288:=by omega
 clear hN hM hn q5 hs
 go_enter func16,ntmps16
 go_wp2_with (first
  | (go_at_call 49;refine(CC.out _).mono ?_;rintro e9 z1 ⟨rfl,hz⟩;have hz2:=hz.symm;subst hz2)
  | (go_at_call 50;refine(CE.out _).mono ?_;rintro e9 z1 ⟨rfl,hz⟩;have hz2:=hz.symm;subst hz2))
 go_ret
 exact⟨by show Ending.returned (Value.int .i64 _)=_;congr 2;have:=HN.out;have:=HM.out;omega,rfl⟩
theorem own_mono{B C:Nat}{v:Value}{l:List Nat}{w:World}(h:T8.Own B v l w)(hc:C<=B):T8.Own C v l w:=by
 refine⟨h.1,?_⟩
 rcases h.2 with h0 | ⟨g,cap,cur,e,hb,h1⟩
 ·exact .inl h0
 ·exact .inr ⟨g,cap,cur,e,by omega,h1⟩
theorem make_u8(n:Nat)(hn:n<=1048576)(w:World):
  (Instr.makeSlice 27 (.int .i64 0) (.int .i64 (n:Nat))).run prog w=.ok (.slice (some ⟨w.heap.size,0,none⟩) 0 n) (w.alloc (.cells (madeCells #[.int .u8 0] n) 5)):=by
 obtain⟨i,hi,hzz⟩:=Option.map_eq_some_iff.1 Ti.mT
 simp only[Prod.mk.injEq]at hzz
 obtain⟨h1,h2,h3⟩:=hzz
 have h:=run_make (P:=prog) w 27 5 i (.int .u8 0) underlying27 hi h1 .i64 .i64 0 (n:Int) (by omega) (by omega) (by rw[h3];omega) (by omega)
 rw[h2,Nat.mul_one,Int.toNat_natCast]at h
 exact h
theorem tT(f:Nat->Nat)(a b:Nat):(List.range (a+b)).map f=(List.range a).map f++(List.range b).map fun i=>f (a+i):=by
 rw[List.range_add,List.map_append,List.map_map]
 rfl
theorem iY(side:Nat)(ws:Nat->Nat)(j x:Nat)(hx:x=ws j):(List.range (5+8*j)).map (pre side ws)++by8 x 8=(List.range (5+8*(j+1))).map (pre side ws):=by
 have q:=tT (pre side ws) (5+8*j) 8
 rw[show 5+8*(j+1)=5+8*j+8 by omega,q]
 congr 1
 unfold by8
 exact List.map_congr_left fun i hi=>by rw[hx,oV (List.mem_range.1 hi)]
theorem gK(side:Nat)(ws:Nat->Nat)(j n:Nat)(f:Nat->Nat)(h: ∀i,i<n->f i=ws (j+i)):(List.range (5+8*j)).map (pre side ws)++flat f n=(List.range (5+8*(j+n))).map (pre side ws):=by
 induction n with
 | zero=>rw[show flat f 0=[]from rfl,List.append_nil];rfl
 | succ n ih=>rw[mU,<- List.append_assoc,ih (fun i hi=>h i (by omega)),iY side ws (j+n) _ (h n (by omega))];rfl
theorem tU(side:Nat)(ws:Nat->Nat):[84,65,82,78,side]=(List.range (5+8*0)).map (pre side ws):=rfl
theorem enc_list(n N:Nat)(B:Nat->Nat)(W T:Nat->Int)(S:Nat->Nat)(sky st:Int):
  [84,65,82,78,n]++by8 (u64 st) 8++by8 (u64 sky) 8++flat B N++flat (fun i=>u64 (W i)) N++flat (fun i=>u64 (T i)) N++flat S (2*N)=(List.range (21+40*N)).map (pre n (wdA n N B W T S sky st)):=by
 have w: ∀j,j<2+5*N->wdA n N B W T S sky st j=wds N B W T S sky st j:=fun j hj=>by unfold wdA;rw[if_pos hj]
 obtain⟨ws,hws⟩:=aB (wdA n N B W T S sky st)
 rw[hws]at w ⊢
 rw[tU n ws,iY n ws 0 _ (by rw[w 0 (by omega)];rfl),iY n ws 1 _ (by rw[w 1 (by omega)];rfl)]
 rw[gK n ws 2 N B (fun i hi=>by rw[w _ (by omega)];unfold wds;rw[if_neg (by omega),if_neg (by omega),if_pos (by omega),show 2+i - 2=i by omega])]
 rw[gK n ws (2+N) N (fun i=>u64 (W i)) (fun i hi=>by rw[w _ (by omega)];unfold wds;rw[if_neg (by omega),if_neg (by omega),if_neg (by omega),if_pos (by omega),show 2+N+i - 2 - N=i by omega])]
 rw[gK n ws (2+N+N) N (fun i=>u64 (T i)) (fun i hi=>by rw[w _ (by omega)];unfold wds;rw[if_neg (by omega),if_neg (by omega),if_neg (by omega),if_neg (by omega),if_pos (by omega),show 2+N+N+i - 2 - 2*N=i by omega])]
 rw[gK n ws (2+N+N+N) (2*N) S (fun i hi=>by rw[w _ (by omega)];unfold wds;rw[if_neg (by omega),if_neg (by omega),if_neg (by omega),if_neg (by omega),if_neg (by omega),show 2+N+N+N+i - 2 - 3*N=i by omega])]
 rw[show 5+8*(2+N+N+N+2*N)=21+40*N by omega]
theorem enc_all(n N x:Nat)(B:Nat->Nat)(W T:Nat->Int)(S:Nat->Nat)(sky st:Int)(hx:x=smN (pre n (wdA n N B W T S sky st)) (21+40*N)):
  (List.range (21+40*N)).map (pre n (wdA n N B W T S sky st))++by8 x 8=(List.range (29+40*N)).map (enc n N B W T S sky st):=by
 have e:21+40*N=5+8*(2+5*N):=by omega
 have k:x=wdA n N B W T S sky st (2+5*N):=by
  rw[hx]
  show _=if _ then _ else _
  rw[if_neg (by omega)]
  exact eV _ fun i hi=>rQ hi
 rw[e,iY n _ _ _ k,show 5+8*(2+5*N+1)=29+40*N by omega]
 rfl
theorem own_w{B g k cp:Nat}{l:List Nat}{w:World}(h:T8.Own B (.slice (some ⟨g,0,none⟩) k cp) l w)(hk:l.length=k)(hl: ∀x ∈ l,x<256):Ti.IsW .u8 256 w (some ⟨g,0,none⟩) k (fun j=>l.getD j 0):=by
 obtain⟨a0,cap,e,i,_,_⟩:=h.at hl
 injection e with e1 e2 e3
 subst e1
 rw[hk]at i
 exact i
theorem kJ(f:Nat->Nat)(n i:Nat)(hi:i<n):((List.range n).map f).getD i 0=f i:=by simp[hi]
theorem tV(z:Value)(n:Nat):(madeCells #[z] n).size=n:=by
 simp[madeCells]
theorem enc_yes(side:Int)(pb:Option Addr)(lb cb:Nat)(B:Nat->Nat)(pw:Option Addr)(lw cw:Nat)(W:Nat->Int)(pt:Option Addr)(lt ct:Nat)(T:Nat->Int)(ps:Option Addr)(ls cs:Nat)(S:Nat->Nat)(sky st:Int)(w:World)(i1:IsFl w pb lb B)(i2:Sh.IsI w pw lw W)(i3:Sh.IsI w pt lt T)(i4:IsFl w ps ls S)(n N M L:Nat)(hs:side=(n:Nat))(hc:(Ss.chk side lb lw lt ls B W T S sky st).2=0)(hn:1<=n/\n<=32)(hN:6*n*n=N)(hM:2*N=M)(hL:29+40*N=L)(hl:lb=N/\lw=N/\lt=N/\ls=M):
  Calls prog 6 #[.int .i64 side,.agg #[.slice pb lb cb,.slice pw lw cw,.slice pt lt ct,.slice ps ls cs,.int .i64 sky,.int .i64 st]] w fun e w'=> ∃g cp,e=.returned (.tuple #[.slice (some ⟨g,0,none⟩) L cp,.int .i64 0])/\Ab w w'/\T8.Own w.heap.size (.slice (some ⟨g,0,none⟩) L cp) ((List.range L).map (enc n N B W T S sky st)) w':=by
 have I1:=hid i1
 have I2:=hid i2
 have I3:=hid i3
 have I4:=hid i4
 have CK:=hid (fun v (a:Ab w v)=>Ss.kH side pb lb cb B pw lw cw W pt lt ct T ps ls cs S sky st v (i1.below a) (i2.below a) (i3.below a) (i4.below a))
 obtain⟨A0,R0⟩:=aH w (.cells #[.slice pb lb cb,.slice pw lw cw,.slice pt lt ct,.slice ps ls cs,.int .i64 sky,.int .i64 st] 25)
 obtain⟨x1,hx1⟩:=aB ((Ss.chk side lb lw lt ls B W T S sky st).1)
 obtain⟨x2,hx2⟩:=aB ((Ss.chk side lb lw lt ls B W T S sky st).2)
 rw[hx1,hx2]at CK
 rw[hx2]at hc
 subst hc
 obtain⟨l1,l2,l3,l4⟩:=hl
 have l1:=l1.symm
 have l2:=l2.symm
 have l3:=l3.symm
 have l4:=l4.symm
 subst l1 l2 l3 l4
 subst hs
 have NB:Hid (1<=n/\n<=32/\N<=6144/\2*N=M/\29+40*N=L):=by
  have q5:N<=192*32:=by rw[<- hN];exact Nat.mul_le_mul (by omega) (by omega)
  exact⟨hn.1,hn.2,by omega,hM,hL⟩
 have CS:=hid (fun v=>size_at n N L v hn.2 hN hL)
 have n0:(0:Int)<=(n:Int):=by omega
 have n1:(n:Int)<256:=by omega
 have e1:=gG st
 have e2:=gG sky
 obtain⟨z1,hz1⟩:=aB (u64 st)
 obtain⟨z2,hz2⟩:=aB (u64 sky)
 rw[hz1]at e1
 rw[hz2]at e2
 have HZ:=hid (show u64 st=z1/\u64 sky=z2 from⟨hz1,hz2⟩)
 have M1: ∀v:World,(Instr.makeSlice 27 (.int .i64 0) (.int .i64 (L:Nat))).run prog v=.ok (.slice (some ⟨v.heap.size,0,none⟩) 0 L) (v.alloc (.cells (madeCells #[.int .u8 0] L) 5)):=fun v=>make_u8 L (by have:=NB.out;omega) v
 clear hx1 hx2 i1 i2 i3 i4 hn hN hM hL hz1 hz2
 go_enter func6,ntmps6
 go_upto_region 1 with fail
 generalize hV:World.alloc w _=v0 at*
 obtain⟨s,hs⟩:=aB w.heap.size
 rw[hs]at R0 ⊢
 clear hV hs
 have y0:=aE R0.out
 go_wp2_with fail
 refine(CK.out v0 A0.out).mono ?_
 rintro e9 v1 ⟨rfl,b1⟩
 have A1:Hid (Ab w v1):=A0.out.trans b1
 have R1:=hid (Ab.heap b1 R0.out)
 clear b1 A0 R0 y0 CK
 have y0:=aE R1.out
 have O2:Hid (T8.Own v1.heap.size (.slice (some ⟨v1.heap.size,0,none⟩) 0 L) [] (v1.alloc (.cells (madeCells #[.int .u8 0] L) 5))):=World.ownsRow_made v1 _ L (Nat.le_refl _) (by have:=NB.out;unfold maxLen;omega) (by rw[tV];simp)
 have A2:=bG (bl1 v1 (.cells (madeCells #[.int .u8 0] L) 5))
 go_upto_region 5 with(go_at_call 16;refine(CS.out _).mono ?_;rintro e9 z1 ⟨rfl,hz⟩;have hz2:=hz.symm;subst hz2)
 generalize hV:World.alloc v1 _=v2 at*
 clear hV M1
 go_upto_region 6 with(at_builtin;refine qQ rfl (.tmp 21) (.const (.string {data:= #[84,65,82,78]})) rfl v1.heap.size _ rfl O2.out rfl (Below.size A2.out) ?_;intro g3 c3 v3 o3 q3)
 have A3:Hid (Ab v1 v3):=bJ A2.out q3 (fun b hb=>by cases hb;exact O2.out.row.1)
 have O3:=hid o3
 clear o3 q3 A2 O2 y0
 have KB:=hid (show v1.heap.size<=v3.heap.size from Below.size A3.out)
 go_upto_region 7 with(at_builtin;refine T8.aX rfl (.tmp 23) (.tmp 26) rfl v1.heap.size _ [84,65,82,78] rfl (O3.out.alloc _) ⟨v3.heap.size,0,none⟩ 1 1 [n] rfl rfl (gD v3 n _ rfl) (by decide) (by decide) (by have:=KB.out;simp;omega) 5 rfl ?_;intro g4 c4 v4 o4 q4 e4 l4)
 have A4:Hid (Ab v1 v4):=bJ (A3.out.trans (bl1 _ _)) q4 (fun b hb=>by cases hb;exact O3.out.row.1)
 have O4:Hid (T8.Own v1.heap.size (.slice (some ⟨g4,0,none⟩) 5 c4) [84,65,82,78,n] v4):=o4
 clear o4 q4 e4 l4 A3 O3 KB
 have y:=aA 5 (Ab.heap A4.out R1.out)
 have CP:=hid (gF v1 g4 5 c4 (13) z1 ([84,65,82,78,n]) v4 A4.out O4.out (by simp) rfl (by decide))
 go_upto_region 8 with(go_at_call 17;refine CP.out.mono ?_;rintro e9 v5 ⟨g5,c5,rfl,a5,o5⟩)
 have A5:=hid a5
 have O5:=hid o5
 clear a5 o5 CP A4 O4 y
 have y:=aA 4 (Ab.heap A5.out R1.out)
 have CP:=hid (gF v1 g5 13 c5 (21) z2 ([84,65,82,78,n]++by8 z1 8) v5 A5.out O5.out (by simp[bN]) rfl (by decide))
 go_upto_region 9 with(go_at_call 17;refine CP.out.mono ?_;rintro e9 v6 ⟨g6,c6,rfl,a6,o6⟩)
 have A6:=hid a6
 have O6:=hid o6
 clear a6 o6 CP A5 O5 y
 have y:=aA 0 (Ab.heap A6.out R1.out)
 have CP:=hid (pB v1 g6 (21) c6 (21+8*N) N ([84,65,82,78,n]++by8 z1 8++by8 z2 8) pb cb B v6 A6.out O6.out (by simp[bN]) (by have:=NB.out;omega) (by have:=NB.out;omega) (I1.out.below A1.out))
 go_upto_region 10 with(go_at_call 18;refine CP.out.mono ?_;rintro e9 v7 ⟨g7,c7,rfl,a7,o7⟩)
 have A7:=hid a7
 have O7:=hid o7
 clear a7 o7 CP A6 O6 y
 have y:=aA 1 (Ab.heap A7.out R1.out)
 have CP:=hid (pC v1 g7 (21+8*N) c7 (21+16*N) N ([84,65,82,78,n]++by8 z1 8++by8 z2 8++flat B N) pw cw W v7 A7.out O7.out (by simp[bN,eK];have:=NB.out;omega) (by have:=NB.out;omega) (by have:=NB.out;omega) (I2.out.below A1.out))
 go_upto_region 11 with(go_at_call 20;refine CP.out.mono ?_;rintro e9 v8 ⟨g8,c8,rfl,a8,o8⟩)
 have A8:=hid a8
 have O8:=hid o8
 clear a8 o8 CP A7 O7 y
 have y:=aA 2 (Ab.heap A8.out R1.out)
 have CP:=hid (pC v1 g8 (21+16*N) c8 (21+24*N) N ([84,65,82,78,n]++by8 z1 8++by8 z2 8++flat B N++flat (fun i=>u64 (W i)) N) pt ct T v8 A8.out O8.out (by simp[bN,eK];have:=NB.out;omega) (by have:=NB.out;omega) (by have:=NB.out;omega) (I3.out.below A1.out))
 go_upto_region 12 with(go_at_call 20;refine CP.out.mono ?_;rintro e9 v9 ⟨g9,c9,rfl,a9,o9⟩)
 have A9:=hid a9
 have O9:=hid o9
 clear a9 o9 CP A8 O8 y
 have y:=aA 3 (Ab.heap A9.out R1.out)
 have CP:=hid (pB v1 g9 (21+24*N) c9 (21+40*N) M ([84,65,82,78,n]++by8 z1 8++by8 z2 8++flat B N++flat (fun i=>u64 (W i)) N++flat (fun i=>u64 (T i)) N) ps cs S v9 A9.out O9.out (by simp[bN,eK];have:=NB.out;omega) (by have:=NB.out;omega) (by have:=NB.out;omega) (I4.out.below A1.out))
 go_upto_region 13 with(go_at_call 18;refine CP.out.mono ?_;rintro e9 v10 ⟨g10,c10,rfl,a10,o10⟩)
 have A10:=hid a10
 have O10:=hid o10
 clear a10 o10 CP A9 O9 y
 have EL:Hid ([84,65,82,78,n]++by8 z1 8++by8 z2 8++flat B N++flat (fun i=>u64 (W i)) N++flat (fun i=>u64 (T i)) N++flat S M=(List.range (21+40*N)).map (pre n (wdA n N B W T S sky st))):=by
  have q:=enc_list n N B W T S sky st
  rw[HZ.out.1,HZ.out.2,NB.out.2.2.2.1]at q
  exact q
 rw[EL.out]at O10
 obtain⟨XL,hXL⟩:=aB ((List.range (21+40*N)).map (pre n (wdA n N B W T S sky st)))
 rw[hXL]at O10
 have XP:Hid (XL.length=21+40*N/\(∀x ∈ XL,x<256)/\ ∀i,i<21+40*N->XL.getD i 0=pre n (wdA n N B W T S sky st) i):=by
  subst hXL
  refine⟨by simp,fun x hx=> ?_,fun i hi=>kJ _ _ _ hi⟩
  obtain⟨i,_,rfl⟩:=List.mem_map.1 hx
  exact pre_lt (by have:=NB.out;omega)
 have CSM:=hid (hJ (some ⟨g10,0,none⟩) (21+40*N) c10 _ v10 (by have:=NB.out;omega) (own_w O10.out XP.out.1 XP.out.2.1))
 have SE:Hid (smN (fun j=>XL.getD j 0) (21+40*N)=smN (pre n (wdA n N B W T S sky st)) (21+40*N)):=eV _ XP.out.2.2
 obtain⟨sm,hsm⟩:=aB (smN (fun j=>XL.getD j 0) (21+40*N))
 rw[hsm]at CSM SE
 obtain⟨q,hq⟩:=aB (21+40*N)
 have CP:=hid (gF v1 g10 (21+40*N) c10 L sm XL v10 A10.out O10.out XP.out.1 (by have:=NB.out;omega) (by have:=NB.out;omega))
 have HX:=hid hXL
 rw[hq]at CSM CP ⊢
 clear EL hXL hsm O10
 go_wp2_with (first
  | (go_at_call 11;refine CSM.out.mono ?_;rintro e9 z9 ⟨rfl,hz⟩;have hz2:=hz.symm;subst hz2)
  | (go_at_call 17;refine CP.out.mono ?_;rintro e9 v11 ⟨g11,c11,rfl,a11,o11⟩))
 (try simp only[Exit.inBlock,Exit.then])
 refine bodyPost_ret (results_tmp2 rfl _ _ _) rfl ⟨g11,c11,rfl,A1.out.trans a11,?_⟩
 rw[<- HX.out,enc_all n N sm B W T S sky st SE.out,NB.out.2.2.2.2]at o11
 exact own_mono o11 (Below.size A1.out)
end Sv
end
section
open Go.RowKit Tf Cu Go.Deep
attribute [local go_sem] aF aG aI aJ aK aL aM aD
namespace Sv
theorem lk_in: ∀k,k<6-> -9223372036854775808<=lkW k/\lkW k<=9223372036854775807:=by decide+kernel
theorem lv_chk:(Ss.chk ((1:Nat):Int) 6 6 6 12 (fun _=>0) lkW (fun _=>0) (fun _=>0) 0 513).2=0:=by decide+kernel
theorem lv_in:In64 6 (fun _=>0) lkW (fun _=>0) (fun _=>0) 0 513:=⟨fun _ _=>(by decide:0<18446744073709551616),lk_in,fun _ _=>(by decide: -9223372036854775808<=(0:Int)/\(0:Int)<=9223372036854775807),fun _ _=>(by decide:0<18446744073709551616),by decide,by decide⟩
def lvE:Nat->Nat:=enc 1 6 (fun _=>0) lkW (fun _=>0) (fun _=>0) 0 513
theorem lv_sum:smN (fun _=>97) 1=12638187200555641996:=by decide+kernel
theorem rY: ∀i,i<7->lvE i=[84,65,82,78,1,1,2].getD i 0:=by decide+kernel
theorem lv_mark{f:Nat->Nat}(hf: ∀i,i<7->f i=lvE i):((Ti.str f 7).toList==([84,65,82,78,1,1,2]:List UInt8))=true:=by
 rw[Ti.kD]
 have e:Ti.byl f 7=Ti.byl (fun i=>[84,65,82,78,1,1,2].getD i 0) 7:=(Ti.byl_eq (fun i hi=>by rw[hf i hi];exact qK (by decide)) (fun i hi=>by rw[<- rY i hi];exact qK (by decide))).2 ⟨rfl,fun i hi=>by rw[hf i hi,rY i hi]⟩
 rw[e]
 rfl
theorem kK(w:World)(hF:Fr w):Calls prog 5 #[] w fun e w'=>e=.returned (.bool true)/\Below w.heap.size w w':=by
 have NW:=hid (new_at 1 w (by omega) hF)
 clear hF
 go_enter func5,ntmps5
 go_wp2_with fail
 refine NW.out.mono ?_
 rintro e v1 ⟨gb,rfl,a1,-,g1⟩
 have A1:Hid (Ab w v1):=a1
 have G1:Hid (GridOf 1 gb v1):=g1
 clear a1 g1 NW
 go_wp2_with fail
 refine(tI v1 G1.out).mono ?_
 rintro e v2 ⟨b1,b2,b3,b4,rfl,k2,r1,r2,r3,r4,nb⟩
 obtain⟨X3,S3⟩:=aH v2 (.cells #[.slice (some ⟨b1,0,none⟩) 6 6,.slice (some ⟨b2,0,none⟩) 6 6,.slice (some ⟨b3,0,none⟩) 6 6,.slice (some ⟨b4,0,none⟩) 12 12,.int .i64 0,.int .i64 0] 25)
 have A2:Hid (Ab w v2):=A1.out.trans k2
 have NB:Hid (b1≠v2.heap.size/\b2≠v2.heap.size/\b3≠v2.heap.size/\b4≠v2.heap.size/\w.heap.size<=v2.heap.size):=⟨by have:=r1.lt;omega,by have:=r2.lt;omega,by have:=r3.lt;omega,by have:=r4.lt;omega,Below.size A2.out⟩
 have R1:=hid r1
 have R2:=hid r2
 have R3:=hid r3
 have R4:=hid r4
 clear k2 r1 r2 r3 r4 nb A1 G1
 go_upto_region 5 with fail
 generalize hW:World.alloc v2 _=v3 at*
 obtain⟨s,hs⟩:=aB v2.heap.size
 rw[hs]at S3 NB ⊢
 clear hW hs
 have x5:=aA 5 S3.out
 have f5:=aC S3.out 5
 have A4:Hid (Ab w (v3.setCell ⟨s,5,none⟩ (.int .i64 513))):=(A2.out.trans X3.out).setk NB.out.2.2.2.2 _
 have S4:Hid ((v3.setCell ⟨s,5,none⟩ (.int .i64 513)).heap[s]? =some (.cells #[.slice (some ⟨b1,0,none⟩) 6 6,.slice (some ⟨b2,0,none⟩) 6 6,.slice (some ⟨b3,0,none⟩) 6 6,.slice (some ⟨b4,0,none⟩) 12 12,.int .i64 0,.int .i64 513] 25)):=aN S3.out
 have P1:Hid ((v3.setCell ⟨s,5,none⟩ (.int .i64 513)).rowIs b1 47 6 (fun _=>.float .f64 0)):=(Sh.eJ R1.out X3.out).setOther NB.out.1 _
 have P2:Hid ((v3.setCell ⟨s,5,none⟩ (.int .i64 513)).rowIs b2 2 6 (fun i=>.int .i64 (lkW i))):=(Sh.eJ R2.out X3.out).setOther NB.out.2.1 _
 have P3:Hid ((v3.setCell ⟨s,5,none⟩ (.int .i64 513)).rowIs b3 2 6 (fun _=>.int .i64 0)):=(Sh.eJ R3.out X3.out).setOther NB.out.2.2.1 _
 have P4:Hid ((v3.setCell ⟨s,5,none⟩ (.int .i64 513)).rowIs b4 47 12 (fun _=>.float .f64 0)):=(Sh.eJ R4.out X3.out).setOther NB.out.2.2.2.1 _
 go_upto_region 6 with fail
 generalize hW:v3.setCell ⟨s,5,none⟩ (.int .i64 513)=v4 at*
 clear hW x5 f5 S3 X3 A2 R1 R2 R3 R4
 have I1:=hid (rowIs.fl P1.out (fun _ _=>by decide))
 have I2:=hid (Sh.dF P2.out lk_in)
 have I3:=hid (Sh.dF P3.out (fun _ _=>by decide))
 have I4:=hid (rowIs.fl P4.out (fun _ _=>by decide))
 obtain⟨y0,y1,y2,y3,y4,y5⟩:=aE S4.out
 have CE:=hid (enc_yes ((1:Nat):Int) (some ⟨b1,0,none⟩) 6 6 (fun _=>0) (some ⟨b2,0,none⟩) 6 6 lkW (some ⟨b3,0,none⟩) 6 6 (fun _=>0) (some ⟨b4,0,none⟩) 12 12 (fun _=>0) 0 513 v4 I1.out I2.out I3.out I4.out 1 6 12 269 rfl lv_chk (by decide) rfl rfl rfl ⟨rfl,rfl,rfl,rfl⟩)
 go_wp2_with fail
 refine CE.out.mono ?_
 rintro e9 v5 ⟨g,cp,rfl,a5,o5⟩
 obtain⟨XL,hXL⟩:=aB ((List.range 269).map (enc 1 6 (fun _=>0) lkW (fun _=>0) (fun _=>0) 0 513))
 rw[hXL]at o5
 have XP:Hid (XL.length=269/\(∀x ∈ XL,x<256)/\ ∀i,i<269->XL.getD i 0=lvE i):=by
  subst hXL
  refine⟨by simp,fun x hx=> ?_,fun i hi=>kJ _ _ _ hi⟩
  obtain⟨i,_,rfl⟩:=List.mem_map.1 hx
  exact qK (by decide)
 have W5:=hid (own_w o5 XP.out.1 XP.out.2.1)
 have CPB:Hid (269<=cp/\cp<=9223372036854775807):=by
  obtain⟨a0,cap,e,i,h1,h2⟩:=o5.at XP.out.2.1
  injection e with e1 e2 e3
  subst e3
  exact⟨by have:=XP.out.1;omega,h2⟩
 have A5:Hid (Ab w v5):=A4.out.trans a5
 have S5:=hid (Ab.heap a5 S4.out)
 have J1:=hid (I1.out.below a5)
 have J2:=hid (I2.out.below a5)
 have J3:=hid (I3.out.below a5)
 have J4:=hid (I4.out.below a5)
 clear a5 o5 hXL CE I1 I2 I3 I4 P1 P2 P3 P4 S4 A4 y0 y1 y2 y3 y4 y5
 obtain⟨F,hF⟩:=aB ((fun j=>XL.getD j 0))
 have FE:Hid (∀i,i<269->F i=lvE i):=fun i hi=>by rw[<- hF];exact XP.out.2.2 i hi
 rw[hF]at W5
 clear hF XP
 have MK:=lv_mark (fun i hi=>FE.out i (by omega))
 have CV: ∀c:Nat,(convert 27 9 (.slice (some ⟨g,0,none⟩) 7 c)).run prog v5=.ok (.string (Ti.str F 7)) v5:=fun c=>Ti.bX underlying27 underlying5 underlying9 (by
  have q:=W5.out.part 0 7 (by decide)
  simpa using q) (fun e=>by cases e)
 have c7:7<=cp:=by have:=CPB.out;omega
 have D:=rR lv_in FE.out
 have CD:=hid (rX (some ⟨g,0,none⟩) 269 cp 1 6 12 F v5 CPB.out W5.out (by rw[derr_enc (n:=1) (N:=6) (by decide) rfl lv_in FE.out];exact lv_chk) (by rw[FE.out 4 (by decide)];rfl) rfl rfl)
 have DD:=hid D
 clear D
 go_upto_region 9 with fail
 clear MK CV c7
 go_wp2_with fail
 refine CD.out.mono ?_
 rintro e9 v6 ⟨t0,t1,t2,t3,rfl,a6,l6,dj,r0,r1,r2,r3⟩
 rw[DD.out.1,DD.out.2.1]
 have A6:Hid (Ab w v6):=A5.out.trans a6
 obtain⟨X7,S7⟩:=aH v6 (.cells #[.slice (some ⟨t0,0,none⟩) 6 6,.slice (some ⟨t1,0,none⟩) 6 6,.slice (some ⟨t2,0,none⟩) 6 6,.slice (some ⟨t3,0,none⟩) 12 12,.int .i64 0,.int .i64 513] 25)
 have Z7:Hid ((v6.alloc (.cells #[.slice (some ⟨t0,0,none⟩) 6 6,.slice (some ⟨t1,0,none⟩) 6 6,.slice (some ⟨t2,0,none⟩) 6 6,.slice (some ⟨t3,0,none⟩) 12 12,.int .i64 0,.int .i64 513] 25)).heap[s]? =some (.cells #[.slice (some ⟨b1,0,none⟩) 6 6,.slice (some ⟨b2,0,none⟩) 6 6,.slice (some ⟨b3,0,none⟩) 6 6,.slice (some ⟨b4,0,none⟩) 12 12,.int .i64 0,.int .i64 513] 25)):=Ab.heap X7.out (Ab.heap a6 S5.out)
 have J5:=hid ((J1.out.below a6).below X7.out)
 have J6:=hid ((J2.out.below a6).below X7.out)
 have J7:=hid ((J3.out.below a6).below X7.out)
 have J8:=hid ((J4.out.below a6).below X7.out)
 have K1:=hid ((rowIs.fl (r0.congr (fun i hi=>congrArg (Value.float .f64) (DD.out.2.2.1 i hi))) (fun _ _=>by decide)).below X7.out)
 have K2:=hid ((Sh.dF (r1.congr (fun i hi=>congrArg (Value.int .i64) (DD.out.2.2.2.1 i hi))) lk_in).below X7.out)
 have K3:=hid ((Sh.dF (r2.congr (fun i hi=>congrArg (Value.int .i64) (DD.out.2.2.2.2.1 i hi))) (fun _ _=>by decide)).below X7.out)
 have K4:=hid ((rowIs.fl (r3.congr (fun i hi=>congrArg (Value.float .f64) (DD.out.2.2.2.2.2.1 i hi))) (fun _ _=>by decide)).below X7.out)
 clear a6 l6 dj r0 r1 r2 r3 CD A5 S5 J1 J2 J3 J4 W5
 go_upto_region 10 with fail
 generalize hW:World.alloc v6 _=v7 at*
 obtain⟨t,ht⟩:=aB v6.heap.size
 rw[ht]at S7 ⊢
 clear hW ht
 have A7:Hid (Ab w v7):=A6.out.trans X7.out
 have y0:=aA 0 Z7.out
 have z0:=aA 0 S7.out
 have y1:=aA 1 Z7.out
 have z1:=aA 1 S7.out
 have y2:=aA 2 Z7.out
 have z2:=aA 2 S7.out
 have y3:=aA 3 Z7.out
 have z3:=aA 3 S7.out
 have y4:=aA 4 Z7.out
 have z4:=aA 4 S7.out
 have y5:=aA 5 Z7.out
 have z5:=aA 5 S7.out
 have CS:=hid (hH (some ⟨t0,0,none⟩) 6 6 (fun _=>0) (some ⟨t1,0,none⟩) 6 6 lkW (some ⟨t2,0,none⟩) 6 6 (fun _=>0) (some ⟨t3,0,none⟩) 12 12 (fun _=>0) 0 513 (some ⟨b1,0,none⟩) 6 (some ⟨b2,0,none⟩) 6 (some ⟨b3,0,none⟩) 6 (some ⟨b4,0,none⟩) 12 v7 (by omega) K1.out K2.out K3.out K4.out J5.out J6.out J7.out J8.out)
 clear K1 K2 K3 K4 J5 J6 J7 J8 A6 X7
 have CM:=hid (fun v (b:Nat) (c:Nat) (fr:Nat × Nat) (h:v.heap[b]? =some (.cells #[.int .u8 97] 5 fr))=>hJ (some ⟨b,0,none⟩) 1 c (fun _=>97) v (by omega) (fun k hk=>⟨(by decide:97<256),b,0,rfl,lt_of_block h,by
  have e:k=0:=by omega
  subst e
  exact aA 0 h⟩))
 rw[lv_sum]at CM
 have KC:=fun(w:World) (C:Array Value) (n c:Nat)=>Go.Lib.run_convert_bytes_const (P:=prog) w 27 5 C n c underlying27 underlying5
 go_wp2_with (first
  | (go_at_call 10;refine CS.out.mono ?_;rintro e9 v8 ⟨rfl,b8⟩)
  | (go_at_call 11;refine(CM.out _ _ _ _ (heap_alloc_new _ _)).mono ?_;rintro e9 v9 ⟨rfl,hz⟩;have hz2:=hz.symm;subst hz2))
 go_ret
 exact⟨rfl,A7.out.trans (Ab.trans b8 (bl1 _ _))⟩
end Sv
end
section
open Go.ChangeShapes Go.WideShapes Go.ChangeAt Go.WideMaps Go.WideElems Go.RowKit Cu
theorem own:ownKnob Tryz.prog.godebug=none:=by kernel_rfl
theorem gFrames:Tryz.prog.globalNamed "tarn/cube.frames" =some 1:=by kernel_rfl
theorem tFrames:(Tryz.prog.globals[1]?).map (·.type)=some 117:=by kernel_rfl
theorem door_met(os:Os)(args:Array Value):laidMetH prog [("tarn/cube.frames",Rows.laid_tarn_cube_frames)] ((World.doorLaid prog 400 os).forCall (fun _ _=>0) ⟨#[],args,[]⟩).memory:=
 laidMetH_of_parts3 (fuel:=8) (laidMet_of_run' 8 (by kernel_rfl) (by kernel_rfl)) (by kernel_rfl) (by kernel_rfl)
theorem mY{H:Type}{enc:TypeId × Value->H}{w:World}{base fuel:Nat}{spare:Nat->Bool}{held:Bool}{cs:List Value}{x:DataW H × List MemPlace}(h:DataW.trod enc prog w base spare held fuel 109 cs=some x)
  (a b c:Int) (e:x.1=.agg [.lit (.int .i64 a),.lit (.int .i64 b),.lit (.int .i64 c)]):cs=[.int .i64 a,.int .i64 b,.int .i64 c]:=by
 have k3:Tryz.prog.cellsOf 3=1:=by kernel_rfl
 have kp:Tryz.prog.cellsOf 109=3:=by kernel_rfl
 obtain⟨xs,m,_,hx,hlen,hn,hel⟩:=DataW.trod_array underlying109 h
 rw[hx]at e
 match xs,hn,cs,hlen.trans kp with
 | [x0,x1,x2],_,[c0,c1,c2],_=>
  have h0:=hel 0 (by decide)
  have h1:=hel 1 (by decide)
  have h2:=hel 2 (by decide)
  simp[k3]at h0 h1 h2
  obtain⟨n0,e0,f0,_⟩:=DataW.trod_int underlying3 h0
  obtain⟨n1,e1,f1,_⟩:=DataW.trod_int underlying3 h1
  obtain⟨n2,e2,f2,_⟩:=DataW.trod_int underlying3 h2
  simp at e0 e1 e2
  simp[f0,f1,f2]at e
  rw[e0,e1,e2,e.1,e.2.1,e.2.2]
theorem cB{H:Type}{enc:TypeId × Value->H}{w:World}{base fuel:Nat}{spare:Nat->Bool}{held:Bool}{cs:List Value}{x:DataW H × List MemPlace}(h:DataW.trod enc prog w base spare held fuel 116 cs=some x)
  (p q r:P3) (e:x.1=.agg [.agg [.lit (.int .i64 p.1),.lit (.int .i64 p.2.1),.lit (.int .i64 p.2.2)],.agg [.lit (.int .i64 q.1),.lit (.int .i64 q.2.1),.lit (.int .i64 q.2.2)],.agg [.lit (.int .i64 r.1),.lit (.int .i64 r.2.1),.lit (.int .i64 r.2.2)]]):
  cs=[.int .i64 p.1,.int .i64 p.2.1,.int .i64 p.2.2,.int .i64 q.1,.int .i64 q.2.1,.int .i64 q.2.2,.int .i64 r.1,.int .i64 r.2.1,.int .i64 r.2.2]:=by
 have kp:Tryz.prog.cellsOf 109=3:=by kernel_rfl
 have kf:Tryz.prog.cellsOf 116=9:=by kernel_rfl
 obtain⟨xs,m,_,hx,hlen,hn,hel⟩:=DataW.trod_struct underlying116 h
 rw[hx]at e
 match xs,hn,cs,hlen.trans kf with
 | [x0,x1,x2],_,[c0,c1,c2,c3,c4,c5,c6,c7,c8],_=>
  have h0:=hel 0 _ rfl
  have h1:=hel 1 _ rfl
  have h2:=hel 2 _ rfl
  simp[kp]at h0 h1 h2
  simp at e
  have e0:=mY h0 _ _ _ e.1
  have e1:=mY h1 _ _ _ e.2.1
  have e2:=mY h2 _ _ _ e.2.2
  simp at e0 e1 e2
  simp[e0,e1,e2]
theorem qR{H:Type}{enc:TypeId × Value->H}{w:World}{base fuel:Nat}{spare:Nat->Bool}{held:Bool}{cs:List Value}{x:DataW H × List MemPlace}(h:DataW.trod enc prog w base spare held fuel 117 cs=some x)
  (e:x.1=Rows.laid_tarn_cube_frames): ∀f,f<6->(cs.drop (f*9)).take 9=[.int .i64 (cC f).1,.int .i64 (cC f).2.1,.int .i64 (cC f).2.2,.int .i64 (cR f).1,.int .i64 (cR f).2.1,.int .i64 (cR f).2.2,.int .i64 (cU f).1,.int .i64 (cU f).2.1,.int .i64 (cU f).2.2]:=by
 have kf:Tryz.prog.cellsOf 116=9:=by kernel_rfl
 obtain⟨xs,m,_,hx,hlen,hn,hel⟩:=DataW.trod_array underlying117 h
 rw[hx]at e
 intro f hf
 have h0:=hel f hf
 rw[kf]at h0
 match xs,hn with
 | [x0,x1,x2,x3,x4,x5],_=>
  simp only[List.map_cons,List.map_nil,Rows.laid_tarn_cube_frames,DataW.agg.injEq,List.cons.injEq]at e
  rcases six hf with rfl | rfl | rfl | rfl | rfl | rfl
  ·exact cB h0 (cC 0) (cR 0) (cU 0) e.1
  ·exact cB h0 (cC 1) (cR 1) (cU 1) e.2.1
  ·exact cB h0 (cC 2) (cR 2) (cU 2) e.2.2.1
  ·exact cB h0 (cC 3) (cR 3) (cU 3) e.2.2.2.1
  ·exact cB h0 (cC 4) (cR 4) (cU 4) e.2.2.2.2.1
  ·exact cB h0 (cC 5) (cR 5) (cU 5) e.2.2.2.2.2.1
theorem of_laid{W:World}(h:laidMetH prog [("tarn/cube.frames",Rows.laid_tarn_cube_frames)] W):Fr W:=by
 rw[MakeChecks.laidMetH_plain _ _ _ (by kernel_rfl)]at h
 obtain⟨ps,⟨g0,t0,cs0,f0,p0,q0,hg0,ht0,hv0,hd0,_⟩,_⟩:=h
 obtain rfl:=Option.some.inj (gFrames.symm.trans hg0)
 obtain rfl:=Option.some.inj (tFrames.symm.trans ht0)
 have T:=qR hd0 rfl
 have C:=World.var?_cell hg0 hv0
 have K: ∀f,f<6-> ∀k,k<9->W.cell? ⟨1,f*9+k,none⟩=((cs0.toList.drop (f*9)).take 9)[k]? :=by
  intro f hf k hk
  rw[C,List.getElem?_take,if_pos hk,List.getElem?_drop]
  simp
 have N: ∀f,f<6->Fr9 W f:=by
  intro f hf
  have K:=K f hf
  rw[T f hf]at K
  exact⟨⟨K 0 (by omega),K 1 (by omega),K 2 (by omega)⟩,⟨K 3 (by omega),K 4 (by omega),K 5 (by omega)⟩,⟨K 6 (by omega),K 7 (by omega),K 8 (by omega)⟩⟩
 refine⟨?_,N⟩
 have c0:=(N 0 (by omega)).1.1
 rcases Nat.lt_or_ge 1 W.heap.size with h1 | h1
 ·exact h1
 ·rw[World.cell?,Array.getElem?_eq_none h1]at c0;cases c0
end
section
open Go.RowKit Cu
def wi(x:Int)(n:Nat):Nat:=((x%18446744073709551616)%n).toNat
end
section
open Go.RowKit Go.Deep
namespace Sh
def W64(x:Int):Prop:= -9223372036854775808<=x/\x<=9223372036854775807
end Sh
end
section
open Go.RowKit Go.Deep
namespace Sh
theorem own_in{B:Nat}{v:Value}{l:List Int}{w:World}(h:Own B v l w)(hl: ∀x ∈ l,W64 x): ∃a0 cap,v=.slice a0 l.length cap/\IsI w a0 l.length (fun j=>l.getD j 0):=Own.in h hl
end Sh
end
section
open Go.RowKit Tf Cu Go.Deep
attribute [local go_sem] aF aG aI aJ aK aL aM aD
namespace Ss
theorem tW(x:Nat)(w:World):
  Calls prog 53 #[.float .f64 x] w fun e w'=>e=.returned (.int .u64 ((x:Nat):Int))/\w'=w:=by
 go_enter func53,ntmps53
 go_wp2
 go_ret
 exact⟨rfl,rfl⟩
theorem rbtw20(x lo hi:Nat)(w:World):Calls prog 71 #[.float .f64 x,.float .f64 lo,.float .f64 hi] w fun e w'=>e=.returned (.bool (btw x lo hi))/\w'=w:=by
 have RB:=hid (tW x w)
 have BT:Hid (btw x lo hi=((fgt x lo||feq x lo)&&(flt x hi||feq x hi)&&decide (x≠9223372036854775808))):=rfl
 cases h1:(fgt x lo||feq x lo)with
 | false=>
  have K:Hid (btw x lo hi=false):=BT.out.trans (by rw[h1];rfl)
  clear BT
  go_enter func71,ntmps71
  go_wp2
  go_ret
  exact⟨by rw[K.out];rfl,rfl⟩
 | true=>
  cases h2:(flt x hi||feq x hi)with
  | false=>
   have K:Hid (btw x lo hi=false):=BT.out.trans (by rw[h1,h2];rfl)
   clear BT
   go_enter func71,ntmps71
   go_wp2
   go_ret
   exact⟨by rw[K.out];rfl,rfl⟩
  | true=>
   by_cases h3:x=9223372036854775808
   ·have K:Hid (btw x lo hi=false):=BT.out.trans (by rw[h1,h2,decide_eq_false (fun q=>q h3)];rfl)
    have d3:((x:Int) != 9223372036854775808)=false:=by simp;omega
    clear BT h3
    go_enter func71,ntmps71
    go_wp2_with fail
    refine RB.out.mono ?_
    rintro e9 v9 ⟨rfl,hv9⟩
    have hv8:=hv9.symm
    subst hv8
    go_wp2
    go_ret
    exact⟨by rw[K.out];rfl,rfl⟩
   ·have K:Hid (btw x lo hi=true):=BT.out.trans (by rw[h1,h2,decide_eq_true h3];rfl)
    have d3:((x:Int) != 9223372036854775808)=true:=by simp;omega
    clear BT h3
    go_enter func71,ntmps71
    go_wp2_with fail
    refine RB.out.mono ?_
    rintro e9 v9 ⟨rfl,hv9⟩
    have hv8:=hv9.symm
    subst hv8
    go_wp2
    go_ret
    exact⟨by rw[K.out];rfl,rfl⟩
theorem lO(p:Option Addr)(N c:Nat)(f:Nat->Nat)(m nm:Nat)(q:Nat->Bool)(w:World)(hm:Op.negFloat .f64 m=nm)(hN:N<=131072)(hf:IsFl w p N f)(hq: ∀i,i<N->q i= !btw (f i) nm m):
  Calls prog 51 #[.slice p N c,.float .f64 m] w fun e w'=>e=.returned (.int .i64 (fp q N))/\w'=w:=by
 have HF:=hid hf
 have HN:=hid hN
 have HQ:=hid hq
 clear hf hN hq
 go_enter func51,ntmps51
 go_wp2
 go_loopw [5] (fun iv wr=> ∃k:Nat,k<=N/\iv=.int .i64 (k:Nat)/\(∀i,i<k->q i=false)/\wr=w) (fun iv _=>N - (intOf iv).toNat)
 case atStart=>exact⟨0,by omega,rfl,fun i hi=>absurd hi (Nat.not_lt_zero i),rfl⟩
 case round=>
  obtain⟨k,hk,rfl,g1,hwr⟩:=hrel
  have hwr2:=hwr.symm
  subst hwr2
  have G1:=hid g1
  clear g1
  by_cases hkn:k<N
  ·have HK:=hid hkn
   have kI:(k:Int)<N:=by omega
   have kB:(k:Int)<=131072:=by have:=HN.out;omega
   obtain⟨b0,o0,rfl⟩:=HF.out.some0 (show 0<N by omega)
   obtain⟨x,hx⟩:=aB (f k)
   have xc:=(HF.out.at0 hkn).2.2
   rw[hx]at xc
   have CB:=hid (rbtw20 x nm m w)
   have qk:=HQ.out k hkn
   rw[hx]at qk
   clear hx hkn hk
   cases hb:btw x nm m with
   | false=>
    rw[hb]at CB
    have QK:Hid (q k=true):=qk.trans (by rw[hb];rfl)
    have E:Hid (fp q N=(k:Nat)):=fF G1.out QK.out HK.out
    clear qk hb
    go_wp2_with fail
    refine CB.out.mono ?_
    rintro e9 v9 ⟨rfl,hv9⟩
    have hv8:=hv9.symm
    subst hv8
    go_wp2
    go_ret
    exact⟨by rw[E.out];rfl,by first | trivial | rfl⟩
   | true=>
    rw[hb]at CB
    have QK:Hid (q k=false):=qk.trans (by rw[hb];rfl)
    clear qk hb
    go_wp2_with fail
    refine CB.out.mono ?_
    rintro e9 v9 ⟨rfl,hv9⟩
    have hv8:=hv9.symm
    subst hv8
    go_wp2
    refine⟨⟨k+1,by have:=HK.out;omega,by simp,fun i hi=> ?_,by first | trivial | rfl⟩,by have:=HK.out;simp[intOf];omega⟩
    by_cases l:i<k
    ·exact G1.out i l
    ·obtain rfl:i=k:=by omega
     exact QK.out
  ·have e6:N=k:=by omega
   subst e6
   have E:Hid (fp q N= -1):=gA G1.out
   go_wp2
   go_ret
   exact⟨by rw[E.out];rfl,by first | trivial | rfl⟩
theorem lP(p:Option Addr)(N c:Nat)(f:Nat->Int)(th:Int)(w:World)(hN:N<=131072)(hf:Sh.IsI w p N f)(ht:0<=th/\th<=4503599627370496):
  Calls prog 52 #[.slice p N c,.int .i64 th] w fun e w'=>e=.returned (.int .i64 (fp (bQ f th) N))/\w'=w:=by
 have HF:=hid hf
 have HN:=hid hN
 have HT:=hid ht
 clear hf hN ht
 go_enter func52,ntmps52
 go_wp2
 go_loopw [1,5] (fun sv iv wr=> ∃k:Nat,k<=N/\iv=.int .i64 (k:Nat)/\sv=.int .i64 (th+Sh.sumN f k)/\(0<=th+Sh.sumN f k/\th+Sh.sumN f k<=4503599627370496)/\(∀i,i<k->bQ f th i=false)/\wr=w) (fun _ iv _=>N - (intOf iv).toNat)
 case atStart=>exact⟨0,by omega,rfl,by show _=Value.int .i64 (th+0);rw[Int.add_zero],by show 0<=th+0/\th+0<=_;have:=HT.out;omega,fun i hi=>absurd hi (Nat.not_lt_zero i),rfl⟩
 case round=>
  obtain⟨k,hk,rfl,rfl,hb,g1,hwr⟩:=hrel
  have hwr2:=hwr.symm
  subst hwr2
  have G1:=hid g1
  clear g1
  have s1:=hb.1
  have s2:=hb.2
  obtain⟨s,hs⟩:=aB (th+Sh.sumN f k)
  rw[hs]at s1 s2 ⊢
  clear hb
  by_cases hkn:k<N
  ·have HK:=hid hkn
   have kI:(k:Int)<N:=by omega
   have kB:(k:Int)<=131072:=by have:=HN.out;omega
   obtain⟨b0,o0,rfl⟩:=HF.out.some0 (show 0<N by omega)
   obtain⟨x,hx⟩:=aB (f k)
   have xc:=(HF.out.at0 hkn).2.2
   rw[hx]at xc
   have QE:Hid (bQ f th k=(decide (x<0)||decide (4503599627370496 - s<x))):=by show bQ f th k=_;unfold bQ;rw[hs,hx]
   have M3:Hid (th+Sh.sumN f (k+1)=s+x):=by show th+(Sh.sumN f k+f k)=_;rw[<- hs,hx];omega
   clear hx hs hkn hk
   by_cases q1:x<0
   ·have d1:decide (x<0)=true:=decide_eq_true q1
    have E:Hid (fp (bQ f th) N=(k:Nat)):=fF G1.out (QE.out.trans (by rw[d1];rfl)) HK.out
    go_wp2
    go_ret
    exact⟨by rw[E.out];rfl,by first | trivial | rfl⟩
   ·have d1:decide (x<0)=false:=decide_eq_false q1
    by_cases q2:4503599627370496 - s<x
    ·have d2:decide (4503599627370496 - s<x)=true:=decide_eq_true q2
     have E:Hid (fp (bQ f th) N=(k:Nat)):=fF G1.out (QE.out.trans (by rw[d1,d2];rfl)) HK.out
     go_wp2
     go_ret
     exact⟨by rw[E.out];rfl,by first | trivial | rfl⟩
    ·have d2:decide (4503599627370496 - s<x)=false:=decide_eq_false q2
     have QF:Hid (bQ f th k=false):=QE.out.trans (by rw[d1,d2];rfl)
     have n1:0<=s+x:=by omega
     have n2:s+x<=4503599627370496:=by omega
     clear q1 q2
     go_wp2
     refine⟨⟨k+1,by have:=HK.out;omega,by simp,by rw[M3.out],by rw[M3.out];exact⟨n1,n2⟩,fun i hi=> ?_,by first | trivial | rfl⟩,by have:=HK.out;simp[intOf];omega⟩
     by_cases l:i<k
     ·exact G1.out i l
     ·obtain rfl:i=k:=by omega
      exact QF.out
  ·have e6:N=k:=by omega
   subst e6
   have E:Hid (fp (bQ f th) N= -1):=gA G1.out
   go_wp2
   go_ret
   exact⟨by rw[E.out];rfl,by first | trivial | rfl⟩
end Ss
end
section
open Go.RowKit Tf Cu Go.Deep
attribute [local go_sem] aF aG aI aJ aK aL aM aD
namespace Ss
def szN(N lb lw lt ls:Nat)(k:Nat):Int:=if k=0 then(lb:Int)else if k=1 then(lw:Int)else if k=2 then(lt:Int)else(ls:Int) - N
theorem chN_size{N lb lw lt ls:Nat}{B:Nat->Nat}{W T:Nat->Int}{S:Nat->Nat}{sky st:Int}{k:Nat}(hk:k<4)(h: ∀i,i<k->szN N lb lw lt ls i=N)(hne:szN N lb lw lt ls k≠N):chN N lb lw lt ls B W T S sky st=(((k:Nat):Int),12):=by
 unfold chN
 have h0:=h 0
 have h1:=h 1
 have h2:=h 2
 unfold szN at h0 h1 h2 hne
 simp only[if_true,if_neg (show¬(1:Nat)=0 by omega),if_neg (show¬(2:Nat)=0 by omega),if_neg (show¬(2:Nat)=1 by omega)]at h0 h1 h2
 match k,hk with
 | 0,_=>
  rw[if_pos rfl]at hne
  rw[if_pos (by omega)]
  rfl
 | 1,_=>
  rw[if_neg (by omega),if_pos rfl]at hne
  have:=h0 (by omega)
  rw[if_neg (by omega),if_pos (by omega)]
  rfl
 | 2,_=>
  rw[if_neg (by omega),if_neg (by omega),if_pos rfl]at hne
  have:=h0 (by omega)
  have:=h1 (by omega)
  rw[if_neg (by omega),if_neg (by omega),if_pos (by omega)]
  rfl
 | 3,_=>
  rw[if_neg (by omega),if_neg (by omega),if_neg (by omega)]at hne
  have:=h0 (by omega)
  have:=h1 (by omega)
  have:=h2 (by omega)
  rw[if_neg (by omega),if_neg (by omega),if_neg (by omega),if_pos (by omega)]
  rfl
theorem szN_all{N lb lw lt ls:Nat}(h: ∀i,i<4->szN N lb lw lt ls i=N):lb=N/\lw=N/\lt=N/\ls=2*N:=by
 have h0:=h 0 (by omega)
 have h1:=h 1 (by omega)
 have h2:=h 2 (by omega)
 have h3:=h 3 (by omega)
 unfold szN at h0 h1 h2 h3
 simp only[if_true,if_neg (show¬(1:Nat)=0 by omega),if_neg (show¬(2:Nat)=0 by omega),if_neg (show¬(2:Nat)=1 by omega),if_neg (show¬(3:Nat)=0 by omega),if_neg (show¬(3:Nat)=1 by omega),if_neg (show¬(3:Nat)=2 by omega)]at h0 h1 h2 h3
 omega
def chM(N:Nat)(B:Nat->Nat)(W T:Nat->Int)(S:Nat->Nat)(sky st:Int):Int × Int:=
 if 0<=fp (bB B) N then(fp (bB B) N,13)
 else if sky<0\/4503599627370496<sky then(0,17)
 else if 0<=fp (bQ W sky) N then(fp (bQ W sky) N,14)
 else if 0<=fp (bQ T 0) N then(fp (bQ T 0) N,15)
 else if 0<=fp (bS S) (2*N)then(fp (bS S) (2*N),16)
 else if st<0\/4611686018427387904<st then(0,1)else(0,0)
theorem chN_M{N lb lw lt ls:Nat}{B:Nat->Nat}{W T:Nat->Int}{S:Nat->Nat}{sky st:Int}(h:lb=N/\lw=N/\lt=N/\ls=2*N):chN N lb lw lt ls B W T S sky st=chM N B W T S sky st:=by
 unfold chN chM
 rw[if_neg (by omega),if_neg (by omega),if_neg (by omega),if_neg (by omega)]
theorem tX(n N:Nat)(pb:Option Addr)(lb cb:Nat)(B:Nat->Nat)(pw:Option Addr)(lw cw:Nat)(W:Nat->Int)(pt:Option Addr)(lt ct:Nat)(T:Nat->Int)(ps:Option Addr)(ls cs:Nat)(S:Nat->Nat)(sky st:Int)(w:World)(hn:1<=n/\n<=32)(hN:6*(n:Int)*(n:Int)=(N:Nat))(HL:Hid (lb<=281474976710656/\lw<=281474976710656/\lt<=281474976710656/\ls<=281474976710656))(i1:IsFl w pb lb B)(i2:Sh.IsI w pw lw W)(i3:Sh.IsI w pt lt T)(i4:IsFl w ps ls S):
  Calls prog 22 #[.int .i64 (n:Nat),.agg #[.slice pb lb cb,.slice pw lw cw,.slice pt lt ct,.slice ps ls cs,.int .i64 sky,.int .i64 st]] w fun e w'=>e=.returned (.tuple #[.int .i64 (chN N lb lw lt ls B W T S sky st).1,.int .i64 (chN N lb lw lt ls B W T S sky st).2])/\Below w.heap.size w w':=by
 have I1:=hid i1
 have I2:=hid i2
 have I3:=hid i3
 have I4:=hid i4
 clear i1 i2 i3 i4
 have d1:decide ((n:Int)<1)=false:=decide_eq_false (by omega)
 have d2:decide (32<(n:Int))=false:=decide_eq_false (by omega)
 have nI:(n:Int)<=32:=by omega
 have NB:(N:Int)<=6144:=by
  have h1:n*n<=32*32:=Nat.mul_le_mul hn.2 hn.2
  have h2:((n*n:Nat):Int)<=((32*32:Nat):Int):=by exact_mod_cast h1
  rw[Int.natCast_mul]at h2
  rw[<- hN,Int.mul_assoc]
  omega
 have m1: -9223372036854775808<=6*(n:Int)*(n:Int):=by rw[hN];omega
 have m2:6*(n:Int)*(n:Int)<=9223372036854775807:=by rw[hN];omega
 have l1:(ls:Int)<=281474976710656:=by have:=HL.out;omega
 have HB:=hid NB
 obtain⟨A0,R0⟩:=aH w (.cells #[.slice pb lb cb,.slice pw lw cw,.slice pt lt ct,.slice ps ls cs,.int .i64 sky,.int .i64 st] 25)
 clear hn
 go_enter func22,ntmps22
 go_upto_region 1 with fail
 generalize hW:World.alloc w _=V0 at*
 obtain⟨gw,hgw⟩:=aB w.heap.size
 rw[hgw]at R0 ⊢
 clear hgw hW
 have x0:=aE R0.out
 go_upto_region 5 with fail
 obtain⟨AL,RL⟩:=aH V0 (.cells #[.int .i64 (lb:Nat),.int .i64 (lw:Nat),.int .i64 (lt:Nat),.int .i64 ((ls:Int) - (N:Int))] 3)
 generalize hW:World.alloc V0 _=V1 at*
 obtain⟨gl,hgl⟩:=aB V0.heap.size
 rw[hgl]at RL ⊢
 clear hgl hW x0
 have A1:Hid (Ab w V1):=A0.out.trans AL.out
 have R1:=hid (AL.out.heap R0.out)
 have LC:Hid (∀k,k<4->V1.cell? ⟨gl,k,none⟩=some (.int .i64 (szN N lb lw lt ls k))):=fun k hk=>by
  match k,hk with
  | 0,_=>exact aA 0 RL.out
  | 1,_=>exact aA 1 RL.out
  | 2,_=>exact aA 2 RL.out
  | 3,_=>exact aA 3 RL.out
 clear AL RL A0 R0
 go_wp2
 go_loopw [8] (fun iv wr=> ∃k:Nat,k<=4/\iv=.int .i64 (k:Nat)/\(∀i,i<k->szN N lb lw lt ls i=N)/\wr=V1) (fun iv _=>4 - (intOf iv).toNat)
 case atStart=>exact⟨0,by omega,rfl,fun i hi=>absurd hi (Nat.not_lt_zero i),rfl⟩
 case round=>
  obtain⟨k,hk,rfl,g1,hwr⟩:=hrel
  have hwr2:=hwr.symm
  subst hwr2
  have G1:=hid g1
  clear g1
  by_cases hk4:k<4
  ·have HK:=hid hk4
   have kI:(k:Int)<4:=by omega
   have cc:=LC.out k hk4
   obtain⟨x,hx⟩:=aB (szN N lb lw lt ls k)
   rw[hx]at cc
   by_cases q:x=(N:Int)
   ·have e1:(x != (N:Int))=false:=by simp[q]
    have XE:Hid (szN N lb lw lt ls k=N):=hx.trans q
    clear q hx hk4 hk
    go_wp2
    refine⟨⟨k+1,by have:=HK.out;omega,by simp,fun i hi=> ?_,by first | trivial | rfl⟩,by have:=HK.out;simp[intOf];omega⟩
    by_cases l:i<k
    ·exact G1.out i l
    ·obtain rfl:i=k:=by omega
     exact XE.out
   ·have e1:(x != (N:Int))=true:=by simp[q]
    have E:Hid (chN N lb lw lt ls B W T S sky st=(((k:Nat):Int),12)):=chN_size hk4 G1.out (by rw[hx];exact q)
    clear q hx hk4 hk
    go_wp2
    go_ret2
    exact⟨by rw[E.out];rfl,A1.out⟩
  ·have k4:k=4:=by omega
   subst k4
   have SZ:=hid (szN_all G1.out)
   have HS:Hid (lb<=131072/\lw<=131072/\lt<=131072/\ls<=131072):=by have h1:=SZ.out;have h2:=HB.out;show _/\_;omega
   have E:=hid (chN_M (B:=B) (W:=W) (T:=T) (S:=S) (sky:=sky) (st:=st) SZ.out)
   have EM:Hid (chM N B W T S sky st=if 0<=fp (bB B) N then(fp (bB B) N,13)else if sky<0\/4503599627370496<sky then(0,17)else if 0<=fp (bQ W sky) N then(fp (bQ W sky) N,14)else if 0<=fp (bQ T 0) N then(fp (bQ T 0) N,15)else if 0<=fp (bS S) (2*N)then(fp (bS S) (2*N),16)else if st<0\/4611686018427387904<st then(0,1)else(0,0)):=rfl
   have F1:Hid (∀v,Ab w v->Calls prog 51 #[.slice pb lb cb,.float .f64 4697254411347427328] v fun e w'=>e=.returned (.int .i64 (fp (bB B) N))/\w'=v):=fun v a=>by rw[<- SZ.out.1];exact lO pb lb cb B _ 13920626448202203136 (bB B) v (by decide+kernel) HS.out.1 (I1.out.below a) (fun i _=>rfl)
   have F2:Hid (∀v,Ab w v->0<=sky->sky<=4503599627370496->Calls prog 52 #[.slice pw lw cw,.int .i64 sky] v fun e w'=>e=.returned (.int .i64 (fp (bQ W sky) N))/\w'=v):=fun v a h1 h2=>by rw[<- SZ.out.2.1];exact lP pw lw cw W sky v HS.out.2.1 (I2.out.below a) ⟨h1,h2⟩
   have F3:Hid (∀v,Ab w v->Calls prog 52 #[.slice pt lt ct,.int .i64 0] v fun e w'=>e=.returned (.int .i64 (fp (bQ T 0) N))/\w'=v):=fun v a=>by rw[<- SZ.out.2.2.1];exact lP pt lt ct T 0 v HS.out.2.2.1 (I3.out.below a) ⟨by omega,by omega⟩
   have F4:Hid (∀v,Ab w v->Calls prog 51 #[.slice ps ls cs,.float .f64 4652218415073722368] v fun e w'=>e=.returned (.int .i64 (fp (bS S) (2*N)))/\w'=v):=fun v a=>by rw[<- SZ.out.2.2.2];exact lO ps ls cs S _ 13875590451928498176 (bS S) v (by decide+kernel) HS.out.2.2.2 (I4.out.below a) (fun i _=>rfl)
   obtain⟨f1,hf1⟩:=aB (fp (bB B) N)
   obtain⟨f2,hf2⟩:=aB (fp (bQ W sky) N)
   obtain⟨f3,hf3⟩:=aB (fp (bQ T 0) N)
   obtain⟨f4,hf4⟩:=aB (fp (bS S) (2*N))
   rw[hf1,hf2,hf3,hf4]at EM
   rw[hf1]at F1
   rw[hf2]at F2
   rw[hf3]at F3
   rw[hf4]at F4
   clear hf1 hf2 hf3 hf4 hk4 hk LC G1
   have x0:=aE R1.out
   go_wp2_with fail
   refine(F1.out V1 A1.out).mono ?_
   rintro e9 v9 ⟨rfl,hv9⟩
   have hv8:=hv9.symm
   subst hv8
   by_cases c1:0<=f1
   ·have e1:decide (0<=f1)=true:=decide_eq_true c1
    have C1:=hid c1
    clear c1
    go_wp2
    go_ret2
    exact⟨by rw[E.out,EM.out,if_pos (by have h:=C1.out;omega)];rfl,A1.out⟩
   ·have e1:decide (0<=f1)=false:=decide_eq_false c1
    have C1:=hid c1
    clear c1
    by_cases c2:sky<0\/4503599627370496<sky
    ·by_cases c2a:sky<0
     ·have e2:decide (sky<0)=true:=decide_eq_true c2a
      have C2:=hid c2
      clear c2
      go_wp2
      go_ret2
      exact⟨by rw[E.out,EM.out,if_neg (by have h:=C1.out;omega),if_pos (by have h:=C2.out;omega)];rfl,A1.out⟩
     ·have e2:decide (sky<0)=false:=decide_eq_false c2a
      have e3:decide (4503599627370496<sky)=true:=decide_eq_true (by omega)
      have C2:=hid c2
      clear c2
      go_wp2
      go_ret2
      exact⟨by rw[E.out,EM.out,if_neg (by have h:=C1.out;omega),if_pos (by have h:=C2.out;omega)];rfl,A1.out⟩
    ·have e2:decide (sky<0)=false:=decide_eq_false (by omega)
     have e3:decide (4503599627370496<sky)=false:=decide_eq_false (by omega)
     have k1:0<=sky:=by omega
     have k2:sky<=4503599627370496:=by omega
     have C2:=hid c2
     clear c2
     go_wp2_with fail
     refine(F2.out V1 A1.out k1 k2).mono ?_
     rintro e9 v9 ⟨rfl,hv9⟩
     have hv8:=hv9.symm
     subst hv8
     by_cases c3:0<=f2
     ·have e4:decide (0<=f2)=true:=decide_eq_true c3
      have C3:=hid c3
      clear c3
      go_wp2
      go_ret2
      exact⟨by rw[E.out,EM.out,if_neg (by have h:=C1.out;omega),if_neg (by have h:=C2.out;omega),if_pos (by have h:=C3.out;omega)];rfl,A1.out⟩
     ·have e4:decide (0<=f2)=false:=decide_eq_false c3
      have C3:=hid c3
      clear c3
      go_wp2_with fail
      refine(F3.out V1 A1.out).mono ?_
      rintro e9 v9 ⟨rfl,hv9⟩
      have hv8:=hv9.symm
      subst hv8
      by_cases c4:0<=f3
      ·have e5:decide (0<=f3)=true:=decide_eq_true c4
       have C4:=hid c4
       clear c4
       go_wp2
       go_ret2
       exact⟨by rw[E.out,EM.out,if_neg (by have h:=C1.out;omega),if_neg (by have h:=C2.out;omega),if_neg (by have h:=C3.out;omega),if_pos (by have h:=C4.out;omega)];rfl,A1.out⟩
      ·have e5:decide (0<=f3)=false:=decide_eq_false c4
       have C4:=hid c4
       clear c4
       go_wp2_with fail
       refine(F4.out V1 A1.out).mono ?_
       rintro e9 v9 ⟨rfl,hv9⟩
       have hv8:=hv9.symm
       subst hv8
       by_cases c5:0<=f4
       ·have e6:decide (0<=f4)=true:=decide_eq_true c5
        have C5:=hid c5
        clear c5
        go_wp2
        go_ret2
        exact⟨by rw[E.out,EM.out,if_neg (by have h:=C1.out;omega),if_neg (by have h:=C2.out;omega),if_neg (by have h:=C3.out;omega),if_neg (by have h:=C4.out;omega),if_pos (by have h:=C5.out;omega)];rfl,A1.out⟩
       ·have e6:decide (0<=f4)=false:=decide_eq_false c5
        have C5:=hid c5
        clear c5
        by_cases c6:st<0\/4611686018427387904<st
        ·by_cases c6a:st<0
         ·have e7:decide (st<0)=true:=decide_eq_true c6a
          have C6:=hid c6
          clear c6
          go_wp2
          go_ret2
          exact⟨by rw[E.out,EM.out,if_neg (by have h:=C1.out;omega),if_neg (by have h:=C2.out;omega),if_neg (by have h:=C3.out;omega),if_neg (by have h:=C4.out;omega),if_neg (by have h:=C5.out;omega),if_pos (by have h:=C6.out;omega)];rfl,A1.out⟩
         ·have e7:decide (st<0)=false:=decide_eq_false c6a
          have e8:decide (4611686018427387904<st)=true:=decide_eq_true (by omega)
          have C6:=hid c6
          clear c6
          go_wp2
          go_ret2
          exact⟨by rw[E.out,EM.out,if_neg (by have h:=C1.out;omega),if_neg (by have h:=C2.out;omega),if_neg (by have h:=C3.out;omega),if_neg (by have h:=C4.out;omega),if_neg (by have h:=C5.out;omega),if_pos (by have h:=C6.out;omega)];rfl,A1.out⟩
        ·have e7:decide (st<0)=false:=decide_eq_false (by omega)
         have e8:decide (4611686018427387904<st)=false:=decide_eq_false (by omega)
         have C6:=hid c6
         clear c6
         go_wp2
         go_ret2
         exact⟨by rw[E.out,EM.out,if_neg (by have h:=C1.out;omega),if_neg (by have h:=C2.out;omega),if_neg (by have h:=C3.out;omega),if_neg (by have h:=C4.out;omega),if_neg (by have h:=C5.out;omega),if_neg (by have h:=C6.out;omega)];rfl,A1.out⟩
theorem tY(side:Int)(pb:Option Addr)(lb cb:Nat)(pw:Option Addr)(lw cw:Nat)(pt:Option Addr)(lt ct:Nat)(ps:Option Addr)(ls cs:Nat)(sky st:Int)(w:World)(h: ¬(1<=side/\side<=32)):
  Calls prog 22 #[.int .i64 side,.agg #[.slice pb lb cb,.slice pw lw cw,.slice pt lt ct,.slice ps ls cs,.int .i64 sky,.int .i64 st]] w fun e w'=>e=.returned (.tuple #[.int .i64 0,.int .i64 10])/\Below w.heap.size w w':=by
 have A0:=bG (bl1 w (.cells #[.slice pb lb cb,.slice pw lw cw,.slice pt lt ct,.slice ps ls cs,.int .i64 sky,.int .i64 st] 25))
 by_cases c:side<1
 ·have d1:decide (side<1)=true:=decide_eq_true c
  clear h c
  go_enter func22,ntmps22
  go_wp2
  go_ret2
  exact⟨rfl,A0.out⟩
 ·have d1:decide (side<1)=false:=decide_eq_false c
  have d2:decide (32<side)=true:=decide_eq_true (by omega)
  clear h c
  go_enter func22,ntmps22
  go_wp2
  go_ret2
  exact⟨rfl,A0.out⟩
theorem lQ(side:Int)(pb:Option Addr)(lb cb:Nat)(B:Nat->Nat)(pw:Option Addr)(lw cw:Nat)(W:Nat->Int)(pt:Option Addr)(lt ct:Nat)(T:Nat->Int)(ps:Option Addr)(ls cs:Nat)(S:Nat->Nat)(sky st:Int)(w:World)(hl:(lb<=281474976710656/\lw<=281474976710656/\lt<=281474976710656/\ls<=281474976710656))(i1:IsFl w pb lb B)(i2:Sh.IsI w pw lw W)(i3:Sh.IsI w pt lt T)(i4:IsFl w ps ls S):
  Calls prog 22 #[.int .i64 side,.agg #[.slice pb lb cb,.slice pw lw cw,.slice pt lt ct,.slice ps ls cs,.int .i64 sky,.int .i64 st]] w fun e w'=>e=.returned (.tuple #[.int .i64 (chk side lb lw lt ls B W T S sky st).1,.int .i64 (chk side lb lw lt ls B W T S sky st).2])/\Below w.heap.size w w':=by
 unfold chk
 by_cases h:1<=side/\side<=32
 ·rw[if_pos h]
  obtain⟨n,rfl⟩: ∃n:Nat,side=(n:Nat):=⟨side.toNat,by omega⟩
  rw[Int.toNat_natCast]
  exact tX n (6*n*n) pb lb cb B pw lw cw W pt lt ct T ps ls cs S sky st w (by omega) (by rw[Int.natCast_mul,Int.natCast_mul];rfl) hl i1 i2 i3 i4
 ·rw[if_neg h]
  exact tY side pb lb cb pw lw cw pt lt ct ps ls cs sky st w h
end Ss
end
section
open Go.RowKit Go.Deep Tf Cu
attribute [local go_sem] aF aG aI aJ aK aL aM aD
namespace Sv
theorem gL(p:Option Addr)(l c:Nat)(F:Nat->Nat)(w:World)(hl:l<=9223372036854775807)(hF:Ti.IsW .u8 256 w p l F):
  Calls prog 12 #[.slice p l c] w fun e w'=>e=.returned (.int .u64 ((smN F l:Nat):Int))/\w'=w:=by
 have HF:=hid hF
 have HL:=hid hl
 clear hF hl
 go_enter func12,ntmps12
 go_wp2
 go_loopw [3,4] (fun hv iv wr=> ∃k:Nat,k<=l/\iv=.int .i64 (k:Nat)/\hv=.int .u64 ((smN F k:Nat):Int)/\wr=w) (fun _ iv _=>l - (intOf iv).toNat)
 case atStart=>exact⟨0,by omega,rfl,rfl,rfl⟩
 case round=>
  obtain⟨k,hk,rfl,rfl,hwr⟩:=hrel
  have hwr2:=hwr.symm
  subst hwr2
  by_cases hkl:k<l
  ·have HK:=hid hkl
   obtain⟨b1,g,o,rfl,_,z⟩:=HF.out k hkl
   have SL:=qJ F k
   obtain⟨y,hy⟩:=aB (F k)
   obtain⟨X,hX⟩:=aB (smN F k)
   rw[hy]at z b1
   rw[hX]at SL ⊢
   have kI:(k:Int)<l:=by omega
   have kB:(l:Int)<=9223372036854775807:=by have:=HL.out;omega
   have y0:(0:Int)<=(y:Int):=by omega
   have y1:(y:Int)<256:=by omega
   have xq:=xor64 SL b1
   obtain⟨Y,hY⟩:=aB (X ^^^ y)
   rw[hY]at xq
   have mq:=mul64 Y
   have ST:Hid (smN F (k+1)=Y*1099511628211%18446744073709551616):=by
    show(smN F k ^^^ F k)*1099511628211%18446744073709551616=_
    rw[hX,hy,hY]
   obtain⟨Z,hZ⟩:=aB (Y*1099511628211%18446744073709551616)
   rw[hZ]at mq ST
   clear hy hX hY hZ b1 SL hkl hk
   go_wp2
   exact⟨⟨k+1,by have:=HK.out;omega,by simp,by rw[ST.out],by first | trivial | rfl⟩,by have:=HK.out;simp[intOf];omega⟩
  ·have e6:l=k:=by omega
   subst e6
   go_wp2
   go_ret
   exact⟨rfl,rfl⟩
end Sv
end
end Go.Proofs.YtlmfpikhlcnjjaaGreatDoor
