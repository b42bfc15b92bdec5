/-
  Some of the texts of this proof, one behind the other.
-/
import Derived.Lib.AppendStr
import Derived.Lib.SlBytesConst
import Derived.Deep.AppendSrc
import Derived.Deep.RegionHeld3
import Derived.Test.YtagcbnflfaeahaaGreatDoorSi10
set_option maxRecDepth 100000
set_option maxHeartbeats 400000000
namespace Go.Proofs.YtagcbnflfaeahaaGreatDoor
open _root_.Go.Proofs.Tryz
section
open Go.RowKit Go.Deep Tf Cu
attribute [local go_sem] aF aG aJ aK aL aM aN aD
namespace Sv
theorem head_any(r:Nat)(p:Option Addr)(l c:Nat)(w:World)(h:w.heap[r]? =some (.cells #[.slice p l c] 83))(hl:l<21):
  Calls prog 50 #[.pointer (some ⟨r,0,none⟩)] w fun e w'=>e=.panicked [{v:=.iface 27 (.int .i64 31),recovered:=false}]/\Ab w w':=by
 have A0:=aZ (bl1 w (.cells #[.slice none 0 0,.slice none 0 0,.slice none 0 0,.slice none 0 0,.int .i64 0,.int .i64 0] 25))
 have R0:=A0.out.heap h
 have CB:=hid (kD r p l c 21 _ (aA 0 R0) hl)
 clear h hl R0
 go_enter func50,ntmps50
 go_upto_region 1 with fail
 generalize hV:World.alloc w _=v0 at*
 go_wp2_with (go_at_call 67;refine CB.out.mono ?_;rintro e9 z1 ⟨rfl,hz⟩;have hz2:=hz.symm;subst hz2)
 exact⟨rfl,rfl,A0.out⟩
theorem read_any(p:Option Addr)(l c:Nat)(w:World)(hl:l<21):
  Calls prog 33 #[.slice p l c] w fun e w'=>e=.panicked [{v:=.iface 27 (.int .i64 31),recovered:=false}]/\Ab w w':=by
 have A0:=aZ (bl2 w (.cells #[.slice none 0 0,.slice none 0 0,.slice none 0 0,.slice none 0 0,.int .i64 0,.int .i64 0] 25) (.cells #[.slice p l c] 83))
 have R0:((w.alloc (.cells #[.slice none 0 0,.slice none 0 0,.slice none 0 0,.slice none 0 0,.int .i64 0,.int .i64 0] 25)).alloc (.cells #[.slice p l c] 83)).heap[w.heap.size+1]? =some (.cells #[.slice p l c] 83):=by
  have q:=heap_alloc_new (w.alloc (.cells #[.slice none 0 0,.slice none 0 0,.slice none 0 0,.slice none 0 0,.int .i64 0,.int .i64 0] 25)) (.cells #[.slice p l c] 83)
  rw[bM]at q
  exact q
 have CH:=hid (head_any (w.heap.size+1) p l c _ R0 hl)
 clear R0 hl
 go_enter func33,ntmps33
 go_upto_region 2 with fail
 generalize hV:World.alloc (World.alloc w _) _=v0 at*
 obtain⟨r,hr⟩:=aB (w.heap.size+1)
 rw[hr]at CH ⊢
 clear hV hr
 go_wp2_with (go_at_call 50;refine CH.out.mono ?_;rintro e9 v1 ⟨rfl,b1⟩)
 exact⟨rfl,rfl,A0.out.trans b1⟩
def DecOK(N M sd:Nat)(F:Nat->Nat)(w:World)(e:Ending)(w':World):Prop:= ∃t0 t1 t2 t3,e=.returned (.tuple #[.int .i64 (sd:Nat),.agg #[.slice (some ⟨t0,0,none⟩) N N,.slice (some ⟨t1,0,none⟩) N N,.slice (some ⟨t2,0,none⟩) N N,.slice (some ⟨t3,0,none⟩) M M,.int .i64 (i64 (num F 13)),.int .i64 (i64 (num F 5))],.int .i64 0])/\Ab w w'/\(w.heap.size<=t0/\w.heap.size<=t1/\w.heap.size<=t2/\w.heap.size<=t3)/\(t0≠t1/\t0≠t2/\t0≠t3/\t1≠t2/\t1≠t3/\t2≠t3)/\w'.rowIs t0 45 N (fun i=>.float .f64 (dB F i))/\w'.rowIs t1 2 N (fun i=>.int .i64 (dW N F i))/\w'.rowIs t2 2 N (fun i=>.int .i64 (dT N F i))/\w'.rowIs t3 45 M (fun i=>.float .f64 (dS N F i))
theorem chk_in{n N M:Nat}{B:Nat->Nat}{W T:Nat->Int}{S:Nat->Nat}{sky st:Int}(hn:1<=n/\n<=32)(hN:6*n*n=N):Ss.chk (n:Nat) N N N M B W T S sky st=Ss.chN N N N N M B W T S sky st:=by
 unfold Ss.chk
 rw[if_pos (by omega),Int.toNat_natCast,hN]
theorem rB(p:Option Addr)(l c:Nat)(F:Nat->Nat)(w:World)(hl:l<=c/\c<=9223372036854775807)(hF:Ti.IsW .u8 256 w p l F)(he:derr l F≠0):
  Calls prog 12 #[.slice p l c] w fun e w'=>e=.returned (.tuple #[.int .i64 0,.agg #[.slice none 0 0,.slice none 0 0,.slice none 0 0,.slice none 0 0,.int .i64 0,.int .i64 0],.int .i64 (derr l F)])/\Ab w w':=by
 refine dec_bad p l c (derr l F) w fun v a=> ?_
 have HF:=hF.below a
 by_cases h1:l<21
 ·rw[show derr l F=31 from if_pos h1]
  exact read_any p l c v h1
 ·obtain⟨g,o,rfl⟩:=hF.some0 (by omega)
  have gl:=(hF.at0 (k:=0) (by omega)).2.1
  have glv:=(HF.at0 (k:=0) (by omega)).2.1
  unfold derr at he ⊢
  rw[if_neg h1]at he ⊢
  cases hm:decide (F 0=84/\F 1=65/\F 2=82/\F 3=78)with
  | false=>
   have hm2:=of_decide_eq_false hm
   rw[if_pos (fun q=>hm2 q.1)]
   exact lM g o l c F v hl HF 30 (fun r u hne hR hU=>uD r g o l c F u hR ⟨by omega,hl.1⟩ hne hU hm) glv
  | true=>
   have hm2:=of_decide_eq_true hm
   by_cases hb:1<=F 4/\F 4<=32
   ·rw[if_neg (fun q=>q ⟨hm2,hb⟩)]at he ⊢
    obtain⟨N,hN⟩:=aB (6*F 4*F 4)
    have hN1:6*1*1<=N:=by rw[<- hN];exact Nat.mul_le_mul (Nat.mul_le_mul (Nat.le_refl 6) hb.1) hb.1
    rw[hN]at he ⊢
    by_cases h2:l<29+40*N
    ·rw[if_pos h2]
     by_cases k0:l<21+N*8
     ·exact read_s0 g o l c F v hl HF (by omega) hm (F 4) N (2*N) (N*8) (2*N*8) rfl hb hN rfl rfl rfl ⟨by omega,by omega⟩
     ·by_cases k1:l<21+N*8+N*8
      ·exact read_s1 g o l c F v hl HF (by omega) hm (F 4) N (2*N) (N*8) (2*N*8) rfl hb hN rfl rfl rfl ⟨by omega,by omega⟩
      ·by_cases k2:l<21+N*8+N*8+N*8
       ·exact read_s2 g o l c F v hl HF (by omega) hm (F 4) N (2*N) (N*8) (2*N*8) rfl hb hN rfl rfl rfl ⟨by omega,by omega⟩
       ·by_cases k3:l<21+N*8+N*8+N*8+2*N*8
        ·exact read_s3 g o l c F v hl HF (by omega) hm (F 4) N (2*N) (N*8) (2*N*8) rfl hb hN rfl rfl rfl ⟨by omega,by omega⟩
        ·exact gU g o l c F v hl HF (by omega) hm (F 4) N (2*N) (N*8) (2*N*8) rfl hb hN rfl rfl rfl (by omega) 31 (fun r u hne hR hU=>(foot_no r g o l c _ u hR (by omega) hl.1 hl.2 (by omega)).mono fun e u' q=>⟨q.1,by rw[q.2];exact Sh.Abo.refl _ _⟩)
    ·rw[if_neg h2]at he ⊢
     have e0:21+N*8+N*8+N*8+2*N*8=21+40*N:=by omega
     by_cases h3:29+40*N<l
     ·rw[if_pos h3]
      exact gU g o l c F v hl HF (by omega) hm (F 4) N (2*N) (N*8) (2*N*8) rfl hb hN rfl rfl rfl (by omega) 30 (fun r u hne hR hU=>uF r g o l c _ F u hR (by omega) hl.1 hl.2 hne hU (by omega))
     ·rw[if_neg h3]at he ⊢
      by_cases h4:num F (21+40*N)≠smN F (21+40*N)
      ·rw[if_pos h4]
       exact gU g o l c F v hl HF (by omega) hm (F 4) N (2*N) (N*8) (2*N*8) rfl hb hN rfl rfl rfl (by omega) 32 (fun r u hne hR hU=>foot_sum r g o l c _ F u hR (by omega) hl.1 hl.2 hne hU (by omega) (by rw[e0];exact h4))
      ·rw[if_neg h4]at he ⊢
       refine read_chk g o l c F v hl HF (by omega) hm (F 4) N (2*N) (N*8) (2*N*8) rfl hb hN rfl rfl rfl (by omega) (by rw[e0];exact Decidable.of_not_not h4) _ ?_ he
       rw[chk_in hb hN]
       have eW:(fun i=>i64 (num F (21+N*8+8*i)))=dW N F:=by funext i;unfold dW;congr 2;omega
       have eT:(fun i=>i64 (num F (21+N*8+N*8+8*i)))=dT N F:=by funext i;unfold dT;congr 2;omega
       have eS:(fun i=>num F (21+N*8+N*8+N*8+8*i))=dS N F:=by funext i;unfold dS;congr 1;omega
       rw[eW,eT,eS]
       rfl
   ·rw[if_pos (fun q=>hb q.2)]
    exact lM g o l c F v hl HF 30 (fun r u hne hR hU=>uE r g o l c F u hR ⟨by omega,hl.1⟩ hne hU hm (F 4) rfl hb) glv
theorem dec_yes(p:Option Addr)(l c n N M:Nat)(F:Nat->Nat)(w:World)(hl:l<=c/\c<=9223372036854775807)(hF:Ti.IsW .u8 256 w p l F)(he:derr l F=0)(hn:F 4=n)(hN:6*n*n=N)(hM:2*N=M):
  Calls prog 12 #[.slice p l c] w (DecOK N M n F w):=by
 have h1: ¬l<21:=fun h1=>by
  rw[show derr l F=31 from if_pos h1]at he
  omega
 obtain⟨g,o,rfl⟩:=hF.some0 (by omega)
 unfold derr at he
 rw[if_neg h1]at he
 by_cases hb:(F 0=84/\F 1=65/\F 2=82/\F 3=78)/\1<=F 4/\F 4<=32
 ·rw[if_neg (fun q=>q hb),hn,hN]at he
  by_cases h2:l<29+40*N
  ·rw[if_pos h2]at he
   omega
  ·rw[if_neg h2]at he
   by_cases h3:29+40*N<l
   ·rw[if_pos h3]at he
    omega
   ·rw[if_neg h3]at he
    by_cases h4:num F (21+40*N)≠smN F (21+40*N)
    ·rw[if_pos h4]at he
     omega
    ·rw[if_neg h4]at he
     have e0:21+N*8+N*8+N*8+M*8=21+40*N:=by omega
     have hb2:1<=n/\n<=32:=by rw[<- hn];exact hb.2
     have eW:(fun i=>i64 (num F (21+N*8+8*i)))=dW N F:=by funext i;unfold dW;congr 2;omega
     have eT:(fun i=>i64 (num F (21+N*8+N*8+8*i)))=dT N F:=by funext i;unfold dT;congr 2;omega
     have eS:(fun i=>num F (21+N*8+N*8+N*8+8*i))=dS N F:=by funext i;unfold dS;congr 1;omega
     refine(dec_good (some ⟨g,o,none⟩) l c n N M _ _ (dB F) (dW N F) (dT N F) (dS N F) w fun v a=> ?_).mono fun e w' q=>q
     have q:=read_ok g o l c F v hl (hF.below a) (by omega) (decide_eq_true hb.1) n N M (N*8) (M*8) hn hb2 hN hM rfl rfl (by omega) (by rw[e0];exact Decidable.of_not_not h4) (by
      rw[chk_in hb2 hN,eW,eT,eS,<- hM]
      exact he)
     refine q.mono fun e w' q=> ?_
     obtain⟨t0,t1,t2,t3,q1,q2,q3,q4,q5,q6,q7,q8⟩:=q
     refine⟨t0,t1,t2,t3,q1,q2,q3,q4,q5,?_,?_,?_⟩
     ·exact q6.congr fun i _=>congrArg (Value.int .i64) (congrFun eW i)
     ·exact q7.congr fun i _=>congrArg (Value.int .i64) (congrFun eT i)
     ·exact q8.congr fun i _=>congrArg (Value.float .f64) (congrFun eS i)
 ·rw[if_pos (fun q=>hb q)]at he
  omega
end Sv
end
section
open Go.RowKit Go.Deep Tf Cu
attribute [local go_sem] aF aG aJ aK aL aM aN aD
namespace Sv
theorem rC{ops:Array Oper}{rest:List Oper}{o:Oper}{a:Act}{w:World}{Q:Exit->Act->World->Prop}(hgd:o.guard=none)(s x:Operand)
  (ho:o.op=.call {callee:=.builtin .append,args:= #[s,x],argTypes:= #[30,9]})
  (B:Nat) (v:Value) (hs:a.eval s=v) (hown:T8.Own B v [] w) (hx:a.eval x=.string {data:= #[84,65,82,78]}) (hB:B<=w.heap.size)
  (h: ∀g cap w',T8.Own B (.slice (some ⟨g,0,none⟩) 4 cap) [84,65,82,78] w'->w.grownBy w' v.ownBlock->wpList prog ops Q rest (a.put o.dst (.slice (some ⟨g,0,none⟩) 4 cap)) w'):wpList prog ops Q (o :: rest) a w:=by
 obtain⟨i0,hi,hz⟩:=Option.map_eq_some_iff.1 Ti.fV
 simp only[Prod.mk.injEq]at hz
 obtain⟨hz0,hz1,hz2⟩:=hz
 refine Go.Lib.wpList_append_own_string w hgd s x _ _ ho B 5 i0 underlying30 underlying9 hi hz0 hz1 hz2 v 0 [] hs hown _ hx (by decide) (by decide) hB ?_
 intro v' w' o1 g1 e1
 have o2:w'.ownsRow B 5 1 v' 4 ([84,65,82,78].map fun x:Nat=>Value.int .u8 (x:Int)):=o1
 rcases o2.2 with⟨q,q2⟩ | ⟨g2,cap2,cur,q,_⟩
 ·have:=(e1.1 q).2
  cases this
 ·subst q
  exact h g2 cap2 w' o2 g1
theorem size_at(n N sz:Nat)(v:World)(hn:n<=32)(hN:6*n*n=N)(hs:29+40*N=sz):Calls prog 25 #[.int .i64 (n:Nat)] v fun e w'=>e=.returned (.int .i64 (sz:Nat))/\w'=v:=by
 have CC:=hid (fun w=>aV n N w hn hN)
 have CE:=hid (fun w=>bX n N (2*N) w hn hN rfl)
 have q5:N<=192*32:=by rw[<- hN];exact Nat.mul_le_mul (by omega) (by omega)
 have HN:=hid (show N<=6144/\29+40*N=sz from⟨by omega,hs⟩)
 obtain⟨M,hM⟩:=aB (2*N)
 have HM:=hid hM
 rw[hM]at CE
 have q6:(N:Int)<=6144:=by omega
 have q7:(M:Int)<=12288:=by omega
 clear hN hM hn q5 hs
 go_enter func25,ntmps25
 go_wp2_with (first
  | (go_at_call 48;refine(CC.out _).mono ?_;rintro e9 z1 ⟨rfl,hz⟩;have hz2:=hz.symm;subst hz2)
  | (go_at_call 49;refine(CE.out _).mono ?_;rintro e9 z1 ⟨rfl,hz⟩;have hz2:=hz.symm;subst hz2))
 go_ret
 exact⟨by show Ending.returned (Value.int .i64 _)=_;congr 2;have:=HN.out;have:=HM.out;omega,rfl⟩
theorem own_mono{B C:Nat}{v:Value}{l:List Nat}{w:World}(h:T8.Own B v l w)(hc:C<=B):T8.Own C v l w:=by
 refine⟨h.1,?_⟩
 rcases h.2 with h0 | ⟨g,cap,cur,e,hb,h1⟩
 ·exact .inl h0
 ·exact .inr ⟨g,cap,cur,e,by omega,h1⟩
theorem make_u8(n:Nat)(hn:n<=1048576)(w:World):
  (Instr.makeSlice 30 (.int .i64 0) (.int .i64 (n:Nat))).run prog w=.ok (.slice (some ⟨w.heap.size,0,none⟩) 0 n) (w.alloc (.cells (madeCells #[.int .u8 0] n) 5)):=by
 obtain⟨i,hi,hzz⟩:=Option.map_eq_some_iff.1 Ti.fV
 simp only[Prod.mk.injEq]at hzz
 obtain⟨h1,h2,h3⟩:=hzz
 have h:=run_make (P:=prog) w 30 5 i (.int .u8 0) underlying30 hi h1 .i64 .i64 0 (n:Int) (by omega) (by omega) (by rw[h3];omega) (by omega)
 rw[h2,Nat.mul_one,Int.toNat_natCast]at h
 exact h
theorem lO(f:Nat->Nat)(a b:Nat):(List.range (a+b)).map f=(List.range a).map f++(List.range b).map fun i=>f (a+i):=by
 rw[List.range_add,List.map_append,List.map_map]
 rfl
theorem iU(side:Nat)(ws:Nat->Nat)(j x:Nat)(hx:x=ws j):(List.range (5+8*j)).map (pre side ws)++by8 x 8=(List.range (5+8*(j+1))).map (pre side ws):=by
 have q:=lO (pre side ws) (5+8*j) 8
 rw[show 5+8*(j+1)=5+8*j+8 by omega,q]
 congr 1
 unfold by8
 exact List.map_congr_left fun i hi=>by rw[hx,pD (List.mem_range.1 hi)]
theorem gC(side:Nat)(ws:Nat->Nat)(j n:Nat)(f:Nat->Nat)(h: ∀i,i<n->f i=ws (j+i)):(List.range (5+8*j)).map (pre side ws)++flat f n=(List.range (5+8*(j+n))).map (pre side ws):=by
 induction n with
 | zero=>rw[show flat f 0=[]from rfl,List.append_nil];rfl
 | succ n ih=>rw[nA,<- List.append_assoc,ih (fun i hi=>h i (by omega)),iU side ws (j+n) _ (h n (by omega))];rfl
theorem uM(side:Nat)(ws:Nat->Nat):[84,65,82,78,side]=(List.range (5+8*0)).map (pre side ws):=rfl
theorem enc_list(n N:Nat)(B:Nat->Nat)(W T:Nat->Int)(S:Nat->Nat)(sky st:Int):
  [84,65,82,78,n]++by8 (u64 st) 8++by8 (u64 sky) 8++flat B N++flat (fun i=>u64 (W i)) N++flat (fun i=>u64 (T i)) N++flat S (2*N)=(List.range (21+40*N)).map (pre n (wdA n N B W T S sky st)):=by
 have w: ∀j,j<2+5*N->wdA n N B W T S sky st j=wds N B W T S sky st j:=fun j hj=>by unfold wdA;rw[if_pos hj]
 obtain⟨ws,hws⟩:=aB (wdA n N B W T S sky st)
 rw[hws]at w ⊢
 rw[uM n ws,iU n ws 0 _ (by rw[w 0 (by omega)];rfl),iU n ws 1 _ (by rw[w 1 (by omega)];rfl)]
 rw[gC n ws 2 N B (fun i hi=>by rw[w _ (by omega)];unfold wds;rw[if_neg (by omega),if_neg (by omega),if_pos (by omega),show 2+i - 2=i by omega])]
 rw[gC n ws (2+N) N (fun i=>u64 (W i)) (fun i hi=>by rw[w _ (by omega)];unfold wds;rw[if_neg (by omega),if_neg (by omega),if_neg (by omega),if_pos (by omega),show 2+N+i - 2 - N=i by omega])]
 rw[gC n ws (2+N+N) N (fun i=>u64 (T i)) (fun i hi=>by rw[w _ (by omega)];unfold wds;rw[if_neg (by omega),if_neg (by omega),if_neg (by omega),if_neg (by omega),if_pos (by omega),show 2+N+N+i - 2 - 2*N=i by omega])]
 rw[gC n ws (2+N+N+N) (2*N) S (fun i hi=>by rw[w _ (by omega)];unfold wds;rw[if_neg (by omega),if_neg (by omega),if_neg (by omega),if_neg (by omega),if_neg (by omega),show 2+N+N+N+i - 2 - 3*N=i by omega])]
 rw[show 5+8*(2+N+N+N+2*N)=21+40*N by omega]
theorem enc_all(n N x:Nat)(B:Nat->Nat)(W T:Nat->Int)(S:Nat->Nat)(sky st:Int)(hx:x=smN (pre n (wdA n N B W T S sky st)) (21+40*N)):
  (List.range (21+40*N)).map (pre n (wdA n N B W T S sky st))++by8 x 8=(List.range (29+40*N)).map (enc n N B W T S sky st):=by
 have e:21+40*N=5+8*(2+5*N):=by omega
 have k:x=wdA n N B W T S sky st (2+5*N):=by
  rw[hx]
  show _=if _ then _ else _
  rw[if_neg (by omega)]
  exact cL _ fun i hi=>sI hi
 rw[e,iU n _ _ _ k,show 5+8*(2+5*N+1)=29+40*N by omega]
 rfl
theorem own_w{B g k cp:Nat}{l:List Nat}{w:World}(h:T8.Own B (.slice (some ⟨g,0,none⟩) k cp) l w)(hk:l.length=k)(hl: ∀x ∈ l,x<256):Ti.IsW .u8 256 w (some ⟨g,0,none⟩) k (fun j=>l.getD j 0):=by
 obtain⟨a0,cap,e,i,_,_⟩:=h.at hl
 injection e with e1 e2 e3
 subst e1
 rw[hk]at i
 exact i
theorem kG(f:Nat->Nat)(n i:Nat)(hi:i<n):((List.range n).map f).getD i 0=f i:=by simp[hi]
theorem uN(z:Value)(n:Nat):(madeCells #[z] n).size=n:=by
 simp[madeCells]
theorem enc_no(side:Int)(pb:Option Addr)(lb cb:Nat)(B:Nat->Nat)(pw:Option Addr)(lw cw:Nat)(W:Nat->Int)(pt:Option Addr)(lt ct:Nat)(T:Nat->Int)(ps:Option Addr)(ls cs:Nat)(S:Nat->Nat)(sky st:Int)(w:World)(i1:IsFl w pb lb B)(i2:Sh.IsI w pw lw W)(i3:Sh.IsI w pt lt T)(i4:IsFl w ps ls S)(hc:(Ss.chk side lb lw lt ls B W T S sky st).2≠0):
  Calls prog 11 #[.int .i64 side,.agg #[.slice pb lb cb,.slice pw lw cw,.slice pt lt ct,.slice ps ls cs,.int .i64 sky,.int .i64 st]] w fun e w'=>e=.returned (.tuple #[.slice none 0 0,.int .i64 (Ss.chk side lb lw lt ls B W T S sky st).2])/\Ab w w':=by
 have I1:=hid i1
 have I2:=hid i2
 have I3:=hid i3
 have I4:=hid i4
 have CK:=hid (fun v (a:Ab w v)=>Ss.gA side pb lb cb B pw lw cw W pt lt ct T ps ls cs S sky st v (i1.below a) (i2.below a) (i3.below a) (i4.below a))
 obtain⟨A0,R0⟩:=aI w (.cells #[.slice pb lb cb,.slice pw lw cw,.slice pt lt ct,.slice ps ls cs,.int .i64 sky,.int .i64 st] 25)
 obtain⟨x1,hx1⟩:=aB ((Ss.chk side lb lw lt ls B W T S sky st).1)
 obtain⟨x2,hx2⟩:=aB ((Ss.chk side lb lw lt ls B W T S sky st).2)
 rw[hx1,hx2]at CK
 rw[hx2]at hc
 rw[hx2]
 have n2:(x2 != 0)=true:=by simpa using hc
 clear hx1 hx2 i1 i2 i3 i4
 go_enter func11,ntmps11
 go_upto_region 1 with fail
 generalize hV:World.alloc w _=v0 at*
 obtain⟨s,hs⟩:=aB w.heap.size
 rw[hs]at R0 ⊢
 clear hV hs
 have y0:=aE R0.out
 go_wp2_with fail
 refine(CK.out v0 A0.out).mono ?_
 rintro e9 v1 ⟨rfl,b1⟩
 have A1:Hid (Ab w v1):=A0.out.trans b1
 have R1:=hid (Ab.heap b1 R0.out)
 clear b1 A0 R0 y0 CK
 go_wp2_with fail
 (try simp only[Exit.inBlock,Exit.then])
 exact bodyPost_ret (results_tmp2 rfl _ _ _) rfl ⟨rfl,A1.out⟩
theorem nF(side:Int)(pb:Option Addr)(lb cb:Nat)(B:Nat->Nat)(pw:Option Addr)(lw cw:Nat)(W:Nat->Int)(pt:Option Addr)(lt ct:Nat)(T:Nat->Int)(ps:Option Addr)(ls cs:Nat)(S:Nat->Nat)(sky st:Int)(w:World)(i1:IsFl w pb lb B)(i2:Sh.IsI w pw lw W)(i3:Sh.IsI w pt lt T)(i4:IsFl w ps ls S)(n N M L:Nat)(hs:side=(n:Nat))(hc:(Ss.chk side lb lw lt ls B W T S sky st).2=0)(hn:1<=n/\n<=32)(hN:6*n*n=N)(hM:2*N=M)(hL:29+40*N=L)(hl:lb=N/\lw=N/\lt=N/\ls=M):
  Calls prog 11 #[.int .i64 side,.agg #[.slice pb lb cb,.slice pw lw cw,.slice pt lt ct,.slice ps ls cs,.int .i64 sky,.int .i64 st]] w fun e w'=> ∃g cp,e=.returned (.tuple #[.slice (some ⟨g,0,none⟩) L cp,.int .i64 0])/\Ab w w'/\T8.Own w.heap.size (.slice (some ⟨g,0,none⟩) L cp) ((List.range L).map (enc n N B W T S sky st)) w':=by
 have I1:=hid i1
 have I2:=hid i2
 have I3:=hid i3
 have I4:=hid i4
 have CK:=hid (fun v (a:Ab w v)=>Ss.gA side pb lb cb B pw lw cw W pt lt ct T ps ls cs S sky st v (i1.below a) (i2.below a) (i3.below a) (i4.below a))
 obtain⟨A0,R0⟩:=aI w (.cells #[.slice pb lb cb,.slice pw lw cw,.slice pt lt ct,.slice ps ls cs,.int .i64 sky,.int .i64 st] 25)
 obtain⟨x1,hx1⟩:=aB ((Ss.chk side lb lw lt ls B W T S sky st).1)
 obtain⟨x2,hx2⟩:=aB ((Ss.chk side lb lw lt ls B W T S sky st).2)
 rw[hx1,hx2]at CK
 rw[hx2]at hc
 subst hc
 obtain⟨l1,l2,l3,l4⟩:=hl
 have l1:=l1.symm
 have l2:=l2.symm
 have l3:=l3.symm
 have l4:=l4.symm
 subst l1 l2 l3 l4
 subst hs
 have NB:Hid (1<=n/\n<=32/\N<=6144/\2*N=M/\29+40*N=L):=by
  have q5:N<=192*32:=by rw[<- hN];exact Nat.mul_le_mul (by omega) (by omega)
  exact⟨hn.1,hn.2,by omega,hM,hL⟩
 have CS:=hid (fun v=>size_at n N L v hn.2 hN hL)
 have n0:(0:Int)<=(n:Int):=by omega
 have n1:(n:Int)<256:=by omega
 have e1:=fZ st
 have e2:=fZ sky
 obtain⟨z1,hz1⟩:=aB (u64 st)
 obtain⟨z2,hz2⟩:=aB (u64 sky)
 rw[hz1]at e1
 rw[hz2]at e2
 have HZ:=hid (show u64 st=z1/\u64 sky=z2 from⟨hz1,hz2⟩)
 have M1: ∀v:World,(Instr.makeSlice 30 (.int .i64 0) (.int .i64 (L:Nat))).run prog v=.ok (.slice (some ⟨v.heap.size,0,none⟩) 0 L) (v.alloc (.cells (madeCells #[.int .u8 0] L) 5)):=fun v=>make_u8 L (by have:=NB.out;omega) v
 clear hx1 hx2 i1 i2 i3 i4 hn hN hM hL hz1 hz2
 go_enter func11,ntmps11
 go_upto_region 1 with fail
 generalize hV:World.alloc w _=v0 at*
 obtain⟨s,hs⟩:=aB w.heap.size
 rw[hs]at R0 ⊢
 clear hV hs
 have y0:=aE R0.out
 go_wp2_with fail
 refine(CK.out v0 A0.out).mono ?_
 rintro e9 v1 ⟨rfl,b1⟩
 have A1:Hid (Ab w v1):=A0.out.trans b1
 have R1:=hid (Ab.heap b1 R0.out)
 clear b1 A0 R0 y0 CK
 have y0:=aE R1.out
 have O2:Hid (T8.Own v1.heap.size (.slice (some ⟨v1.heap.size,0,none⟩) 0 L) [] (v1.alloc (.cells (madeCells #[.int .u8 0] L) 5))):=World.ownsRow_made v1 _ L (Nat.le_refl _) (by have:=NB.out;unfold maxLen;omega) (by rw[uN];simp)
 have A2:=aZ (bl1 v1 (.cells (madeCells #[.int .u8 0] L) 5))
 go_upto_region 5 with(go_at_call 25;refine(CS.out _).mono ?_;rintro e9 z1 ⟨rfl,hz⟩;have hz2:=hz.symm;subst hz2)
 generalize hV:World.alloc v1 _=v2 at*
 clear hV M1
 go_upto_region 6 with(at_builtin;refine rC rfl (.tmp 21) (.const (.string {data:= #[84,65,82,78]})) rfl v1.heap.size _ rfl O2.out rfl (Below.size A2.out) ?_;intro g3 c3 v3 o3 q3)
 have A3:Hid (Ab v1 v3):=bD A2.out q3 (fun b hb=>by cases hb;exact O2.out.row.1)
 have O3:=hid o3
 clear o3 q3 A2 O2 y0
 have KB:=hid (show v1.heap.size<=v3.heap.size from Below.size A3.out)
 go_upto_region 7 with(at_builtin;refine T8.bG rfl (.tmp 23) (.tmp 26) rfl v1.heap.size _ [84,65,82,78] rfl (O3.out.alloc _) ⟨v3.heap.size,0,none⟩ 1 1 [n] rfl rfl (fX v3 n _ rfl) (by decide) (by decide) (by have:=KB.out;simp;omega) 5 rfl ?_;intro g4 c4 v4 o4 q4 e4 l4)
 have A4:Hid (Ab v1 v4):=bD (A3.out.trans (bl1 _ _)) q4 (fun b hb=>by cases hb;exact O3.out.row.1)
 have O4:Hid (T8.Own v1.heap.size (.slice (some ⟨g4,0,none⟩) 5 c4) [84,65,82,78,n] v4):=o4
 clear o4 q4 e4 l4 A3 O3 KB
 have y:=aA 5 (Ab.heap A4.out R1.out)
 have CP:=hid (fY v1 g4 5 c4 (13) z1 ([84,65,82,78,n]) v4 A4.out O4.out (by simp) rfl (by decide))
 go_upto_region 8 with(go_at_call 26;refine CP.out.mono ?_;rintro e9 v5 ⟨g5,c5,rfl,a5,o5⟩)
 have A5:=hid a5
 have O5:=hid o5
 clear a5 o5 CP A4 O4 y
 have y:=aA 4 (Ab.heap A5.out R1.out)
 have CP:=hid (fY v1 g5 13 c5 (21) z2 ([84,65,82,78,n]++by8 z1 8) v5 A5.out O5.out (by simp[bI]) rfl (by decide))
 go_upto_region 9 with(go_at_call 26;refine CP.out.mono ?_;rintro e9 v6 ⟨g6,c6,rfl,a6,o6⟩)
 have A6:=hid a6
 have O6:=hid o6
 clear a6 o6 CP A5 O5 y
 have y:=aA 0 (Ab.heap A6.out R1.out)
 have CP:=hid (pN v1 g6 (21) c6 (21+8*N) N ([84,65,82,78,n]++by8 z1 8++by8 z2 8) pb cb B v6 A6.out O6.out (by simp[bI]) (by have:=NB.out;omega) (by have:=NB.out;omega) (I1.out.below A1.out))
 go_upto_region 10 with(go_at_call 27;refine CP.out.mono ?_;rintro e9 v7 ⟨g7,c7,rfl,a7,o7⟩)
 have A7:=hid a7
 have O7:=hid o7
 clear a7 o7 CP A6 O6 y
 have y:=aA 1 (Ab.heap A7.out R1.out)
 have CP:=hid (pO v1 g7 (21+8*N) c7 (21+16*N) N ([84,65,82,78,n]++by8 z1 8++by8 z2 8++flat B N) pw cw W v7 A7.out O7.out (by simp[bI,eI];have:=NB.out;omega) (by have:=NB.out;omega) (by have:=NB.out;omega) (I2.out.below A1.out))
 go_upto_region 11 with(go_at_call 29;refine CP.out.mono ?_;rintro e9 v8 ⟨g8,c8,rfl,a8,o8⟩)
 have A8:=hid a8
 have O8:=hid o8
 clear a8 o8 CP A7 O7 y
 have y:=aA 2 (Ab.heap A8.out R1.out)
 have CP:=hid (pO v1 g8 (21+16*N) c8 (21+24*N) N ([84,65,82,78,n]++by8 z1 8++by8 z2 8++flat B N++flat (fun i=>u64 (W i)) N) pt ct T v8 A8.out O8.out (by simp[bI,eI];have:=NB.out;omega) (by have:=NB.out;omega) (by have:=NB.out;omega) (I3.out.below A1.out))
 go_upto_region 12 with(go_at_call 29;refine CP.out.mono ?_;rintro e9 v9 ⟨g9,c9,rfl,a9,o9⟩)
 have A9:=hid a9
 have O9:=hid o9
 clear a9 o9 CP A8 O8 y
 have y:=aA 3 (Ab.heap A9.out R1.out)
 have CP:=hid (pN v1 g9 (21+24*N) c9 (21+40*N) M ([84,65,82,78,n]++by8 z1 8++by8 z2 8++flat B N++flat (fun i=>u64 (W i)) N++flat (fun i=>u64 (T i)) N) ps cs S v9 A9.out O9.out (by simp[bI,eI];have:=NB.out;omega) (by have:=NB.out;omega) (by have:=NB.out;omega) (I4.out.below A1.out))
 go_upto_region 13 with(go_at_call 27;refine CP.out.mono ?_;rintro e9 v10 ⟨g10,c10,rfl,a10,o10⟩)
 have A10:=hid a10
 have O10:=hid o10
 clear a10 o10 CP A9 O9 y
 have EL:Hid ([84,65,82,78,n]++by8 z1 8++by8 z2 8++flat B N++flat (fun i=>u64 (W i)) N++flat (fun i=>u64 (T i)) N++flat S M=(List.range (21+40*N)).map (pre n (wdA n N B W T S sky st))):=by
  have q:=enc_list n N B W T S sky st
  rw[HZ.out.1,HZ.out.2,NB.out.2.2.2.1]at q
  exact q
 rw[EL.out]at O10
 obtain⟨XL,hXL⟩:=aB ((List.range (21+40*N)).map (pre n (wdA n N B W T S sky st)))
 rw[hXL]at O10
 have XP:Hid (XL.length=21+40*N/\(∀x ∈ XL,x<256)/\ ∀i,i<21+40*N->XL.getD i 0=pre n (wdA n N B W T S sky st) i):=by
  subst hXL
  refine⟨by simp,fun x hx=> ?_,fun i hi=>kG _ _ _ hi⟩
  obtain⟨i,_,rfl⟩:=List.mem_map.1 hx
  exact pre_lt (by have:=NB.out;omega)
 have CSM:=hid (mZ (some ⟨g10,0,none⟩) (21+40*N) c10 _ v10 (by have:=NB.out;omega) (own_w O10.out XP.out.1 XP.out.2.1))
 have SE:Hid (smN (fun j=>XL.getD j 0) (21+40*N)=smN (pre n (wdA n N B W T S sky st)) (21+40*N)):=cL _ XP.out.2.2
 obtain⟨sm,hsm⟩:=aB (smN (fun j=>XL.getD j 0) (21+40*N))
 rw[hsm]at CSM SE
 obtain⟨q,hq⟩:=aB (21+40*N)
 have CP:=hid (fY v1 g10 (21+40*N) c10 L sm XL v10 A10.out O10.out XP.out.1 (by have:=NB.out;omega) (by have:=NB.out;omega))
 have HX:=hid hXL
 rw[hq]at CSM CP ⊢
 clear EL hXL hsm O10
 go_wp2_with (first
  | (go_at_call 14;refine CSM.out.mono ?_;rintro e9 z9 ⟨rfl,hz⟩;have hz2:=hz.symm;subst hz2)
  | (go_at_call 26;refine CP.out.mono ?_;rintro e9 v11 ⟨g11,c11,rfl,a11,o11⟩))
 (try simp only[Exit.inBlock,Exit.then])
 refine bodyPost_ret (results_tmp2 rfl _ _ _) rfl ⟨g11,c11,rfl,A1.out.trans a11,?_⟩
 rw[<- HX.out,enc_all n N sm B W T S sky st SE.out,NB.out.2.2.2.2]at o11
 exact own_mono o11 (Below.size A1.out)
end Sv
end
section
open Go.RowKit Tf Cu Go.Deep
attribute [local go_sem] aF aG aJ aK aL aM aN aD
namespace Sv
theorem lk_in: ∀k,k<6-> -9223372036854775808<=lkW k/\lkW k<=9223372036854775807:=by decide+kernel
theorem lv_chk:(Ss.chk ((1:Nat):Int) 6 6 6 12 (fun _=>0) lkW (fun _=>0) (fun _=>0) 0 513).2=0:=by decide+kernel
theorem lv_in:In64 6 (fun _=>0) lkW (fun _=>0) (fun _=>0) 0 513:=⟨fun _ _=>(by decide:0<18446744073709551616),lk_in,fun _ _=>(by decide: -9223372036854775808<=(0:Int)/\(0:Int)<=9223372036854775807),fun _ _=>(by decide:0<18446744073709551616),by decide,by decide⟩
def lvE:Nat->Nat:=enc 1 6 (fun _=>0) lkW (fun _=>0) (fun _=>0) 0 513
theorem lv_sum:smN (fun _=>97) 1=12638187200555641996:=by decide+kernel
theorem sO: ∀i,i<7->lvE i=[84,65,82,78,1,1,2].getD i 0:=by decide+kernel
theorem lv_mark{f:Nat->Nat}(hf: ∀i,i<7->f i=lvE i):((Ti.str f 7).toList==([84,65,82,78,1,1,2]:List UInt8))=true:=by
 rw[Ti.kC]
 have e:Ti.byl f 7=Ti.byl (fun i=>[84,65,82,78,1,1,2].getD i 0) 7:=(Ti.byl_eq (fun i hi=>by rw[hf i hi];exact jY (by decide)) (fun i hi=>by rw[<- sO i hi];exact jY (by decide))).2 ⟨rfl,fun i hi=>by rw[hf i hi,sO i hi]⟩
 rw[e]
 rfl
theorem kH(w:World)(hF:Fr w):Calls prog 9 #[] w fun e w'=>e=.returned (.bool true)/\Below w.heap.size w w':=by
 have NW:=hid (new_at 1 w (by omega) hF)
 clear hF
 go_enter func9,ntmps9
 go_wp2_with fail
 refine NW.out.mono ?_
 rintro e v1 ⟨gb,rfl,a1,-,g1⟩
 have A1:Hid (Ab w v1):=a1
 have G1:Hid (GridOf 1 gb v1):=g1
 clear a1 g1 NW
 go_wp2_with fail
 refine(uC v1 G1.out).mono ?_
 rintro e v2 ⟨b1,b2,b3,b4,rfl,k2,r1,r2,r3,r4,nb⟩
 obtain⟨X3,S3⟩:=aI v2 (.cells #[.slice (some ⟨b1,0,none⟩) 6 6,.slice (some ⟨b2,0,none⟩) 6 6,.slice (some ⟨b3,0,none⟩) 6 6,.slice (some ⟨b4,0,none⟩) 12 12,.int .i64 0,.int .i64 0] 25)
 have A2:Hid (Ab w v2):=A1.out.trans k2
 have NB:Hid (b1≠v2.heap.size/\b2≠v2.heap.size/\b3≠v2.heap.size/\b4≠v2.heap.size/\w.heap.size<=v2.heap.size):=⟨by have:=r1.lt;omega,by have:=r2.lt;omega,by have:=r3.lt;omega,by have:=r4.lt;omega,Below.size A2.out⟩
 have R1:=hid r1
 have R2:=hid r2
 have R3:=hid r3
 have R4:=hid r4
 clear k2 r1 r2 r3 r4 nb A1 G1
 go_upto_region 5 with fail
 generalize hW:World.alloc v2 _=v3 at*
 obtain⟨s,hs⟩:=aB v2.heap.size
 rw[hs]at S3 NB ⊢
 clear hW hs
 have x5:=aA 5 S3.out
 have f5:=aC S3.out 5
 have A4:Hid (Ab w (v3.setCell ⟨s,5,none⟩ (.int .i64 513))):=(A2.out.trans X3.out).setk NB.out.2.2.2.2 _
 have S4:Hid ((v3.setCell ⟨s,5,none⟩ (.int .i64 513)).heap[s]? =some (.cells #[.slice (some ⟨b1,0,none⟩) 6 6,.slice (some ⟨b2,0,none⟩) 6 6,.slice (some ⟨b3,0,none⟩) 6 6,.slice (some ⟨b4,0,none⟩) 12 12,.int .i64 0,.int .i64 513] 25)):=aH S3.out
 have P1:Hid ((v3.setCell ⟨s,5,none⟩ (.int .i64 513)).rowIs b1 45 6 (fun _=>.float .f64 0)):=(Sh.eG R1.out X3.out).setOther NB.out.1 _
 have P2:Hid ((v3.setCell ⟨s,5,none⟩ (.int .i64 513)).rowIs b2 2 6 (fun i=>.int .i64 (lkW i))):=(Sh.eG R2.out X3.out).setOther NB.out.2.1 _
 have P3:Hid ((v3.setCell ⟨s,5,none⟩ (.int .i64 513)).rowIs b3 2 6 (fun _=>.int .i64 0)):=(Sh.eG R3.out X3.out).setOther NB.out.2.2.1 _
 have P4:Hid ((v3.setCell ⟨s,5,none⟩ (.int .i64 513)).rowIs b4 45 12 (fun _=>.float .f64 0)):=(Sh.eG R4.out X3.out).setOther NB.out.2.2.2.1 _
 go_upto_region 6 with fail
 generalize hW:v3.setCell ⟨s,5,none⟩ (.int .i64 513)=v4 at*
 clear hW x5 f5 S3 X3 A2 R1 R2 R3 R4
 have I1:=hid (rowIs.fl P1.out (fun _ _=>by decide))
 have I2:=hid (Sh.eF P2.out lk_in)
 have I3:=hid (Sh.eF P3.out (fun _ _=>by decide))
 have I4:=hid (rowIs.fl P4.out (fun _ _=>by decide))
 obtain⟨y0,y1,y2,y3,y4,y5⟩:=aE S4.out
 have CE:=hid (nF ((1:Nat):Int) (some ⟨b1,0,none⟩) 6 6 (fun _=>0) (some ⟨b2,0,none⟩) 6 6 lkW (some ⟨b3,0,none⟩) 6 6 (fun _=>0) (some ⟨b4,0,none⟩) 12 12 (fun _=>0) 0 513 v4 I1.out I2.out I3.out I4.out 1 6 12 269 rfl lv_chk (by decide) rfl rfl rfl ⟨rfl,rfl,rfl,rfl⟩)
 go_wp2_with fail
 refine CE.out.mono ?_
 rintro e9 v5 ⟨g,cp,rfl,a5,o5⟩
 obtain⟨XL,hXL⟩:=aB ((List.range 269).map (enc 1 6 (fun _=>0) lkW (fun _=>0) (fun _=>0) 0 513))
 rw[hXL]at o5
 have XP:Hid (XL.length=269/\(∀x ∈ XL,x<256)/\ ∀i,i<269->XL.getD i 0=lvE i):=by
  subst hXL
  refine⟨by simp,fun x hx=> ?_,fun i hi=>kG _ _ _ hi⟩
  obtain⟨i,_,rfl⟩:=List.mem_map.1 hx
  exact jY (by decide)
 have W5:=hid (own_w o5 XP.out.1 XP.out.2.1)
 have CPB:Hid (269<=cp/\cp<=9223372036854775807):=by
  obtain⟨a0,cap,e,i,h1,h2⟩:=o5.at XP.out.2.1
  injection e with e1 e2 e3
  subst e3
  exact⟨by have:=XP.out.1;omega,h2⟩
 have A5:Hid (Ab w v5):=A4.out.trans a5
 have S5:=hid (Ab.heap a5 S4.out)
 have J1:=hid (I1.out.below a5)
 have J2:=hid (I2.out.below a5)
 have J3:=hid (I3.out.below a5)
 have J4:=hid (I4.out.below a5)
 clear a5 o5 hXL CE I1 I2 I3 I4 P1 P2 P3 P4 S4 A4 y0 y1 y2 y3 y4 y5
 obtain⟨F,hF⟩:=aB ((fun j=>XL.getD j 0))
 have FE:Hid (∀i,i<269->F i=lvE i):=fun i hi=>by rw[<- hF];exact XP.out.2.2 i hi
 rw[hF]at W5
 clear hF XP
 have MK:=lv_mark (fun i hi=>FE.out i (by omega))
 have CV: ∀c:Nat,(convert 30 9 (.slice (some ⟨g,0,none⟩) 7 c)).run prog v5=.ok (.string (Ti.str F 7)) v5:=fun c=>Ti.iT underlying30 underlying5 underlying9 (by
  have q:=W5.out.part 0 7 (by decide)
  simpa using q) (fun e=>by cases e)
 have c7:7<=cp:=by have:=CPB.out;omega
 have D:=mU lv_in FE.out
 have CD:=hid (dec_yes (some ⟨g,0,none⟩) 269 cp 1 6 12 F v5 CPB.out W5.out (by rw[derr_enc (n:=1) (N:=6) (by decide) rfl lv_in FE.out];exact lv_chk) (by rw[FE.out 4 (by decide)];rfl) rfl rfl)
 have DD:=hid D
 clear D
 go_upto_region 9 with fail
 clear MK CV c7
 go_wp2_with fail
 refine CD.out.mono ?_
 rintro e9 v6 ⟨t0,t1,t2,t3,rfl,a6,l6,dj,r0,r1,r2,r3⟩
 rw[DD.out.1,DD.out.2.1]
 have A6:Hid (Ab w v6):=A5.out.trans a6
 obtain⟨X7,S7⟩:=aI v6 (.cells #[.slice (some ⟨t0,0,none⟩) 6 6,.slice (some ⟨t1,0,none⟩) 6 6,.slice (some ⟨t2,0,none⟩) 6 6,.slice (some ⟨t3,0,none⟩) 12 12,.int .i64 0,.int .i64 513] 25)
 have Z7:Hid ((v6.alloc (.cells #[.slice (some ⟨t0,0,none⟩) 6 6,.slice (some ⟨t1,0,none⟩) 6 6,.slice (some ⟨t2,0,none⟩) 6 6,.slice (some ⟨t3,0,none⟩) 12 12,.int .i64 0,.int .i64 513] 25)).heap[s]? =some (.cells #[.slice (some ⟨b1,0,none⟩) 6 6,.slice (some ⟨b2,0,none⟩) 6 6,.slice (some ⟨b3,0,none⟩) 6 6,.slice (some ⟨b4,0,none⟩) 12 12,.int .i64 0,.int .i64 513] 25)):=Ab.heap X7.out (Ab.heap a6 S5.out)
 have J5:=hid ((J1.out.below a6).below X7.out)
 have J6:=hid ((J2.out.below a6).below X7.out)
 have J7:=hid ((J3.out.below a6).below X7.out)
 have J8:=hid ((J4.out.below a6).below X7.out)
 have K1:=hid ((rowIs.fl (r0.congr (fun i hi=>congrArg (Value.float .f64) (DD.out.2.2.1 i hi))) (fun _ _=>by decide)).below X7.out)
 have K2:=hid ((Sh.eF (r1.congr (fun i hi=>congrArg (Value.int .i64) (DD.out.2.2.2.1 i hi))) lk_in).below X7.out)
 have K3:=hid ((Sh.eF (r2.congr (fun i hi=>congrArg (Value.int .i64) (DD.out.2.2.2.2.1 i hi))) (fun _ _=>by decide)).below X7.out)
 have K4:=hid ((rowIs.fl (r3.congr (fun i hi=>congrArg (Value.float .f64) (DD.out.2.2.2.2.2.1 i hi))) (fun _ _=>by decide)).below X7.out)
 clear a6 l6 dj r0 r1 r2 r3 CD A5 S5 J1 J2 J3 J4 W5
 go_upto_region 10 with fail
 generalize hW:World.alloc v6 _=v7 at*
 obtain⟨t,ht⟩:=aB v6.heap.size
 rw[ht]at S7 ⊢
 clear hW ht
 have A7:Hid (Ab w v7):=A6.out.trans X7.out
 have y0:=aA 0 Z7.out
 have z0:=aA 0 S7.out
 have y1:=aA 1 Z7.out
 have z1:=aA 1 S7.out
 have y2:=aA 2 Z7.out
 have z2:=aA 2 S7.out
 have y3:=aA 3 Z7.out
 have z3:=aA 3 S7.out
 have y4:=aA 4 Z7.out
 have z4:=aA 4 S7.out
 have y5:=aA 5 Z7.out
 have z5:=aA 5 S7.out
 have CS:=hid (lG (some ⟨t0,0,none⟩) 6 6 (fun _=>0) (some ⟨t1,0,none⟩) 6 6 lkW (some ⟨t2,0,none⟩) 6 6 (fun _=>0) (some ⟨t3,0,none⟩) 12 12 (fun _=>0) 0 513 (some ⟨b1,0,none⟩) 6 (some ⟨b2,0,none⟩) 6 (some ⟨b3,0,none⟩) 6 (some ⟨b4,0,none⟩) 12 v7 (by omega) K1.out K2.out K3.out K4.out J5.out J6.out J7.out J8.out)
 clear K1 K2 K3 K4 J5 J6 J7 J8 A6 X7
 have CM:=hid (fun v (b:Nat) (c:Nat) (fr:Nat × Nat) (h:v.heap[b]? =some (.cells #[.int .u8 97] 5 fr))=>mZ (some ⟨b,0,none⟩) 1 c (fun _=>97) v (by omega) (fun k hk=>⟨(by decide:97<256),b,0,rfl,lt_of_block h,by
  have e:k=0:=by omega
  subst e
  exact aA 0 h⟩))
 rw[lv_sum]at CM
 have KC:=fun(w:World) (C:Array Value) (n c:Nat)=>Go.Lib.run_convert_bytes_const (P:=prog) w 30 5 C n c underlying30 underlying5
 go_wp2_with (first
  | (go_at_call 13;refine CS.out.mono ?_;rintro e9 v8 ⟨rfl,b8⟩)
  | (go_at_call 14;refine(CM.out _ _ _ _ (heap_alloc_new _ _)).mono ?_;rintro e9 v9 ⟨rfl,hz⟩;have hz2:=hz.symm;subst hz2))
 go_ret
 exact⟨rfl,A7.out.trans (Ab.trans b8 (bl1 _ _))⟩
end Sv
end
section
open Go.RowKit Go.Deep
namespace Sv
theorem src8{w:World}{pb:Option Addr}{L:Nat}{f:Nat->Nat}(h:Ti.IsW .u8 256 w pb L f)(cb:Nat):Src prog 1 30 (.slice pb L cb) L ((List.range L).map fun k=>Value.int .u8 ((f k:Nat):Int)) w:=by
 have one: ∀u ∈ (List.range L).map (fun k=>Value.int .u8 ((f k:Nat):Int)),u.oneCell'=true:=fun u hu=>by
  obtain⟨k,_,rfl⟩:=List.mem_map.1 hu
  rfl
 cases pb with
 | none=>
  have:L=0:=by
   rcases Nat.eq_zero_or_pos L with h0 | h0
   ·exact h0
   ·obtain⟨b,o,h2⟩:=h.some0 h0
    cases h2
  subst this
  exact Src.ofNil w underlying30 cb
 | some a=>
  refine Src.ofSlice w underlying30 a L cb _ (by simp) (fun j u hu=> ?_) one
  have hj:j<L:=by
   rcases Nat.lt_or_ge j L with h1 | h1
   ·exact h1
   ·rw[List.getElem?_eq_none (by simpa using h1)]at hu;cases hu
  obtain⟨_,b,o,h2,_,h4⟩:=h j hj
  cases h2
  simp[hj]at hu
  rw[Sh.dQ,<- hu]
  exact h4
theorem nG{ops:Array Oper}{rest:List Oper}{o:Oper}{a:Act}{w:World}{Q:Exit->Act->World->Prop}(hgd:o.guard=none)(s x:Operand)
  (ho:o.op=.call {callee:=.builtin .append,args:= #[s,x],argTypes:= #[30,30]})
  (B:Nat) (v:Value) (l:List Nat) (hs:a.eval s=v) (hown:T8.Own B v l w)
  (ad:Addr) (m c:Nat) (news:List Nat) (hx:a.eval x=.slice (some ad) m c) (hl:news.length=m) (hnews: ∀j u,(news.map fun x:Nat=>Value.int .u8 (x:Int))[j]? =some u->w.cell? (ad.add j)=some u)
  (hm:0<m) (hlen:l.length+m<=1099511627776) (hB:B<=w.heap.size) (nm:Nat) (hnm:l.length+m=nm)
  (h: ∀g cap w',T8.Own B (.slice (some ⟨g,0,none⟩) nm cap) (l++news) w'->w.grownBy w' v.ownBlock->(v.ownBlock=some g\/g=w.heap.size)->B<=g->wpList prog ops Q rest (a.put o.dst (.slice (some ⟨g,0,none⟩) nm cap)) w'):wpList prog ops Q (o :: rest) a w:=by
 subst hnm
 obtain⟨i0,hi,hz⟩:=Option.map_eq_some_iff.1 Ti.fV
 simp only[Prod.mk.injEq]at hz
 obtain⟨hz0,hz1,hz2⟩:=hz
 refine wpList_append_lies w hgd s x _ ho B 5 i0 (.int .u8 0) 1 1 underlying30 hi hz0 hz1 hz2 rfl (by decide) v l.length (l.map fun x:Nat=>Value.int .u8 (x:Int)) hs hown ad m c (news.map fun x:Nat=>Value.int .u8 (x:Int)) hx (by simpa using hl) hnews (fun u hu=>by
  obtain⟨y,_,rfl⟩:=List.mem_map.1 hu
  rfl) hm (by unfold maxLen;omega) (by omega) hB _ rfl ?_
 intro g cap w' o1 g1 e1 _
 have hb:B<=g:=by
  rcases o1.2 with⟨q,_⟩ | ⟨g2,_,_,q,hb,_⟩
  ·cases q
  ·injection q with q1 q2 q3
   injection q1 with q4
   injection q4 with q5
   omega
 refine h g cap w' ?_ g1 e1 hb
 unfold T8.Own
 rw[List.length_append,List.map_append,hl]
 exact o1
theorem nH{ops:Array Oper}{rest:List Oper}{o:Oper}{a:Act}{w:World}{Q:Exit->Act->World->Prop}(hgd:o.guard=none)(s x:Operand)
  (ho:o.op=.call {callee:=.builtin .append,args:= #[s,x],argTypes:= #[30,30]})
  (g k c:Nat) (hk:k<=c) (hs:a.eval s=.slice (some ⟨g,0,none⟩) k c) (src:Value) (hx:a.eval x=src) (hsrc:Src prog 1 30 src 0 [] w)
  (h:wpList prog ops Q rest (a.put o.dst (.slice (some ⟨g,0,none⟩) k c)) w):wpList prog ops Q (o :: rest) a w:=by
 obtain⟨i0,hi,hz⟩:=Option.map_eq_some_iff.1 Ti.fV
 simp only[Prod.mk.injEq]at hz
 obtain⟨hz0,hz1,hz2⟩:=hz
 refine wpList_plain hgd fun _ hK=> ?_
 have hr:=run_append_room_src (P:=prog) w 30 30 o.type 5 i0 underlying30 hi g 0 k c src 0 [] (by rw[hz1];exact hsrc) (by omega) (fun j hj=>absurd hj (Nat.not_lt_zero j)) (fun j hj=>absurd hj (Nat.not_lt_zero j))
 unfold Oper.wp execOp
 simp only[ho,resolve,invoke,builtin,Sem.run_bind,Sem.run_pure,Result.andThen_ok,List.map_toArray,List.map_cons,List.map_nil,hs,hx,hr]
 exact hK _ _ h
theorem rD(w:World)(r:Option Nat):w.grownBy w r:=⟨rfl,rfl,rfl,Nat.le_refl _,fun _ _ _=>rfl⟩
theorem fD{ops:Array Oper}{rest:List Oper}{o:Oper}{a:Act}{w:World}{Q:Exit->Act->World->Prop}(hgd:o.guard=none)(s x:Operand)
  (ho:o.op=.call {callee:=.builtin .append,args:= #[s,x],argTypes:= #[30,30]})
  (B g k cap:Nat) (l:List Nat) (hs:a.eval s=.slice (some ⟨g,0,none⟩) k cap) (own:T8.Own B (.slice (some ⟨g,0,none⟩) k cap) l w)
  (p:Option Addr) (n c:Nat) (f:Nat->Nat) (hx:a.eval x=.slice p n c) (hI:Ti.IsW .u8 256 w p n f) (hn:k+n<=1099511627776) (hB:B<=w.heap.size) (m:Nat) (hm:k+n=m)
  (h: ∀g1 c1 w',T8.Own B (.slice (some ⟨g1,0,none⟩) m c1) (l++(List.range n).map f) w'->w.grownBy w' (some g)->wpList prog ops Q rest (a.put o.dst (.slice (some ⟨g1,0,none⟩) m c1)) w'):wpList prog ops Q (o :: rest) a w:=by
 have lk:k=l.length:=by
  rcases own.2 with⟨e,_⟩ | ⟨g2,cap2,cur,e,_⟩
  ·cases e
  ·injection e
 by_cases h0:n=0
 ·subst h0
  subst hm
  have hk:k<=cap:=own.row.2.1
  refine nH hgd s x ho g k cap hk hs (.slice p 0 c) hx (src8 hI c) ?_
  exact h g cap w (by simpa using own) (rD _ _)
 ·obtain⟨b0,o0,rfl⟩:=hI.some0 (by omega)
  refine nG hgd s x ho B _ l hs own ⟨b0,o0,none⟩ n c ((List.range n).map f) hx (by simp) (T8.news_of hI) (by omega) (by omega) hB m (by omega) ?_
  intro g1 c1 w' o1 x1 _ hg
  exact h g1 c1 w' o1 x1
theorem pW(w:World)(B:Nat)(hB:B<=w.heap.size):T8.Own B (.slice (some ⟨w.heap.size,0,none⟩) 0 0) [] (w.alloc (.cells #[] 5)):=
 ⟨by simp,.inr ⟨w.heap.size,0,#[],rfl,hB,heap_alloc_new _ _,Nat.le_refl _,by unfold maxLen;omega,by simp,by simp⟩⟩
def cat(F:Nat->Nat)(n:Nat)(G:Nat->Nat)(i:Nat):Nat:=if i<n then F i else G (i - n)
theorem cat_list(F G:Nat->Nat)(n m:Nat):(List.range n).map F++(List.range m).map G=(List.range (n+m)).map (cat F n G):=by
 rw[lO]
 congr 1
 ·exact List.map_congr_left fun i hi=>by unfold cat;rw[if_pos (List.mem_range.1 hi)]
 ·exact List.map_congr_left fun i hi=>by unfold cat;rw[if_neg (by omega),Nat.add_sub_cancel_left]
theorem cat_lt{F G:Nat->Nat}{n m i:Nat}(hF: ∀i,i<n->F i<256)(hG: ∀i,i<m->G i<256)(hi:i<n+m):cat F n G i<256:=by
 unfold cat
 split
 ·exact hF i (by assumption)
 ·exact hG _ (by omega)
def turn(F:Nat->Nat)(k x i:Nat):Nat:=if i=k then F k ^^^ x else F i
theorem uO(F:Nat->Nat)(n k x:Nat):((List.range n).map F).set k (F k ^^^ x)=(List.range n).map (turn F k x):=by
 apply List.ext_getElem
 ·simp
 ·intro i h1 h2
  simp only[List.getElem_set,List.getElem_map,List.getElem_range]
  unfold turn
  by_cases e:k=i
  ·rw[if_pos e,if_pos e.symm]
  ·rw[if_neg e,if_neg (Ne.symm e)]
theorem nI{a b:Nat}(ha:a<256)(hb:b<256):a ^^^ b<256:=Nat.xor_lt_two_pow (n:=8) ha hb
theorem xor8_ne{a b:Nat}(hb:b≠0):a ^^^ b≠a:=fun e=>hb (pC (c:=a) (by rw[e,Nat.xor_zero]))
theorem xor8{a b:Nat}(ha:a<256)(hb:b<256):bits .xor .u8 (a:Int) (b:Int)=((a ^^^ b:Nat):Int):=by
 have l:=nI ha hb
 show IntKind.u8.wrap (((BitVec.ofInt 8 (a:Int) ^^^ BitVec.ofInt 8 (b:Int)).toNat:Nat):Int)=_
 rw[BitVec.ofInt_natCast,BitVec.ofInt_natCast,BitVec.toNat_xor,BitVec.toNat_ofNat,BitVec.toNat_ofNat]
 rw[Nat.mod_eq_of_lt (by omega),Nat.mod_eq_of_lt (by omega)]
 show((_:Nat):Int)%256=_
 omega
theorem iV{M g L cp:Nat}{F:Nat->Nat}{v:World}(h:T8.Own M (.slice (some ⟨g,0,none⟩) L cp) ((List.range L).map F) v)(hF: ∀i,i<L->F i<256):Ti.IsW .u8 256 v (some ⟨g,0,none⟩) L F/\L<=cp/\cp<=9223372036854775807:=by
 have hl: ∀x ∈ (List.range L).map F,x<256:=fun x hx=>by
  obtain⟨i,hi,rfl⟩:=List.mem_map.1 hx
  exact hF i (List.mem_range.1 hi)
 refine⟨(own_w h (by simp) hl).congr fun i hi=>kG F L i hi,?_⟩
 obtain⟨a0,cap,e,i,h1,h2⟩:=h.at hl
 injection e with e1 e2 e3
 subst e3
 exact⟨by simpa using h1,h2⟩
theorem own_turn{M g L cp k x:Nat}{F:Nat->Nat}{v:World}(h:T8.Own M (.slice (some ⟨g,0,none⟩) L cp) ((List.range L).map F) v):T8.Own M (.slice (some ⟨g,0,none⟩) L cp) ((List.range L).map (turn F k x)) (v.setCell ⟨g,k,none⟩ (.int .u8 ((F k ^^^ x:Nat):Int))):=by
 have q:=h.set k (F k ^^^ x)
 rw[uO]at q
 exact q
end Sv
end
section
open Go.RowKit Tf Cu Go.Deep
namespace Sv
theorem chk_0{side:Int}{lb lw lt ls:Nat}{B:Nat->Nat}{W T:Nat->Int}{S:Nat->Nat}{sky st:Int}(h:(Ss.chk side lb lw lt ls B W T S sky st).2=0): ∃n N:Nat,side=(n:Nat)/\(1<=n/\n<=32)/\6*n*n=N/\(lb=N/\lw=N/\lt=N/\ls=2*N)/\(Ss.chN N N N N (2*N) B W T S sky st).2=0:=by
 unfold Ss.chk at h
 split at h
 ·rename_i hs
  have e:side=(side.toNat:Nat):=by omega
  obtain⟨l,_⟩:=Ss.chN_ok.1 h
  refine⟨side.toNat,_,e,⟨by omega,by omega⟩,rfl,l,?_⟩
  obtain⟨l1,l2,l3,l4⟩:=l
  rw[l1,l2,l3,l4]at h
  exact h
 ·cases h
theorem in_64{N:Nat}{pb pw pt ps:Option Addr}{B:Nat->Nat}{W T:Nat->Int}{S:Nat->Nat}{sky st:Int}{w:World}(hs: -9223372036854775808<=sky/\sky<=9223372036854775807)(ht: -9223372036854775808<=st/\st<=9223372036854775807)(i1:IsFl w pb N B)(i2:Sh.IsI w pw N W)(i3:Sh.IsI w pt N T)(i4:IsFl w ps (2*N) S):In64 N B W T S sky st:=
 ⟨fun i hi=>(i1 i hi).1,fun i hi=>(i2 i hi).1,fun i hi=>(i3 i hi).1,fun i hi=>(i4 i hi).1,hs,ht⟩
end Sv
end
section
open Go.RowKit Tf Cu Go.Deep
attribute [local go_sem] aF aG aJ aK aL aM aN aD
namespace Sv
theorem enc_any(side:Int)(pb:Option Addr)(lb cb:Nat)(B:Nat->Nat)(pw:Option Addr)(lw cw:Nat)(W:Nat->Int)(pt:Option Addr)(lt ct:Nat)(T:Nat->Int)(ps:Option Addr)(ls cs:Nat)(S:Nat->Nat)(sky st:Int)(w:World)(i1:IsFl w pb lb B)(i2:Sh.IsI w pw lw W)(i3:Sh.IsI w pt lt T)(i4:IsFl w ps ls S):
  Calls prog 11 #[.int .i64 side,.agg #[.slice pb lb cb,.slice pw lw cw,.slice pt lt ct,.slice ps ls cs,.int .i64 sky,.int .i64 st]] w fun e w'=> ∃v,e=.returned (.tuple #[v,.int .i64 (Ss.chk side lb lw lt ls B W T S sky st).2])/\Ab w w':=by
 by_cases hc:(Ss.chk side lb lw lt ls B W T S sky st).2=0
 ·obtain⟨n,N,e0,hn,hN,hl,_⟩:=chk_0 hc
  rw[hc]
  exact(nF side pb lb cb B pw lw cw W pt lt ct T ps ls cs S sky st w i1 i2 i3 i4 n N _ _ e0 hc hn hN rfl rfl hl).mono fun e w' ⟨g,cp,q,a,_⟩=>⟨_,q,a⟩
 ·exact(enc_no side pb lb cb B pw lw cw W pt lt ct T ps ls cs S sky st w i1 i2 i3 i4 hc).mono fun e w' ⟨q,a⟩=>⟨_,q,a⟩
end Sv
end
section
open Go.RowKit Tf Cu Go.Deep
attribute [local go_sem] aF aG aJ aK aL aM aN aD
namespace Sv
def cutF(L:Nat)(f:Nat->Nat)(i:Nat):Nat:=if i<L then f i else 0
theorem cutF_w{w:World}{a0:Option Addr}{len:Nat}{xs:Nat->Nat}(h:Ti.IsW .u8 256 w a0 len xs):Ti.IsW .u8 256 w a0 len (cutF len xs):=h.congr fun k hk=>by unfold cutF;rw[if_pos hk]
theorem cutF_lt{L:Nat}{f:Nat->Nat}(h: ∀i,i<L->f i<256)(i:Nat):cutF L f i<256:=by
 unfold cutF
 split
 ·exact h i (by assumption)
 ·decide
end Sv
end
end Go.Proofs.YtagcbnflfaeahaaGreatDoor
