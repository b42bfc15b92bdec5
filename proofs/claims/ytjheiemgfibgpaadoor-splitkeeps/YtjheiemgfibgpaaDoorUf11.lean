/-
  Some of the texts of this proof, one behind the other.
-/
import Derived.Deep.QuietTactic
import Derived.Deep.AppendSrc
import Derived.Deep.AppendLies
import Derived.Test.YtjheiemgfibgpaaDoorUf10
set_option maxRecDepth 100000
set_option maxHeartbeats 400000000
namespace Go.Proofs.YtjheiemgfibgpaaDoor
open _root_.Go.Proofs.Tryd
section
open Go.RowKit Tf Cu Go.Deep
attribute [local go_sem] aK aL aM aN aO aP aR aE
namespace Spl
theorem keeps_no(side parts:Int)(pb:Option Addr)(lb cb:Nat)(pw:Option Addr)(lw cw:Nat)(pt:Option Addr)(lt ct:Nat)(ps:Option Addr)(ls cs:Nat)(sky st:Int)(w:World)(LV:Hid (∀v,Ab w v->Calls prog 6 #[] v fun e w'=>e=.returned (.bool true)/\Below v.heap.size v w'))
  (NW:Hid (∀v,Ab w v->Calls prog 7 #[.int .i64 side] v fun e w'=>e=.returned (.tuple #[.pointer none,.int .i64 10])/\w'=v)):
  Calls prog 5 #[.int .i64 side,.int .i64 parts,.agg #[.slice pb lb cb,.slice pw lw cw,.slice pt lt ct,.slice ps ls cs,.int .i64 sky,.int .i64 st]] w fun e w'=>e=.returned (.bool true)/\Below w.heap.size w w':=by
 obtain⟨A0,S0⟩:=dT w (.cells #[.slice pb lb cb,.slice pw lw cw,.slice pt lt ct,.slice ps ls cs,.int .i64 sky,.int .i64 st] 41)
 go_enter func5,ntmps5
 go_upto_region 1 with fail
 obtain⟨gs,hgs⟩:=aB w.heap.size
 generalize hW:World.alloc w _=W at*
 rw[hgs]at S0 ⊢
 clear hgs hW
 go_wp2_with fail
 refine(LV.out _ A0.out).mono ?_
 rintro e9 v1 ⟨rfl,k1⟩
 have A1:Hid (Ab w v1):=A0.out.call k1
 have S1:=hid (Ab.heap k1 S0.out)
 clear k1 A0 S0 LV
 go_wp2_with fail
 refine(NW.out v1 A1.out).mono ?_
 rintro e9 v2 ⟨rfl,hw⟩
 have hw2:=hw.symm
 subst hw2
 go_wp2
 go_ret
 exact⟨rfl,A1.out⟩
theorem qQ(side parts:Int)(n:Nat)(pb:Option Addr)(lb cb:Nat)(pw:Option Addr)(lw cw:Nat)(pt:Option Addr)(lt ct:Nat)(ps:Option Addr)(ls cs:Nat)(sky st:Int)(w:World)(LV:Hid (∀v,Ab w v->Calls prog 6 #[] v fun e w'=>e=.returned (.bool true)/\Below v.heap.size v w'))
  (NW:Hid (∀v,Ab w v->Calls prog 7 #[.int .i64 side] v fun e w'=> ∃gb,e=.returned (.tuple #[.pointer (some ⟨gb,0,none⟩),.int .i64 0])/\Ab v w'/\v.heap.size<=gb/\GridOf n gb w'))
  (LG:Hid (∀v,Calls prog 12 #[.agg #[.slice pb lb cb,.slice pw lw cw,.slice pt lt ct,.slice ps ls cs,.int .i64 sky,.int .i64 st]] v fun e w'=>e=.returned (.bool true)/\Below v.heap.size v w')):
  Calls prog 5 #[.int .i64 side,.int .i64 parts,.agg #[.slice pb lb cb,.slice pw lw cw,.slice pt lt ct,.slice ps ls cs,.int .i64 sky,.int .i64 st]] w fun e w'=>e=.returned (.bool true)/\Below w.heap.size w w':=by
 obtain⟨A0,S0⟩:=dT w (.cells #[.slice pb lb cb,.slice pw lw cw,.slice pt lt ct,.slice ps ls cs,.int .i64 sky,.int .i64 st] 41)
 go_enter func5,ntmps5
 go_upto_region 1 with fail
 obtain⟨gs,hgs⟩:=aB w.heap.size
 generalize hW:World.alloc w _=W at*
 rw[hgs]at S0 ⊢
 clear hgs hW
 go_wp2_with fail
 refine(LV.out _ A0.out).mono ?_
 rintro e9 v1 ⟨rfl,k1⟩
 have A1:Hid (Ab w v1):=A0.out.call k1
 have S1:=hid (Ab.heap k1 S0.out)
 clear k1 A0 S0 LV
 go_wp2_with fail
 refine(NW.out v1 A1.out).mono ?_
 rintro e9 v2 ⟨gb,rfl,k2,-,g2⟩
 have A2:Hid (Ab w v2):=A1.out.trans k2
 have S2:=hid (Ab.heap k2 S1.out)
 have G2:=hid g2
 clear k2 g2 NW A1 S1
 have s0:=aG (S2.out)
 go_wp2_with fail
 refine(LG.out v2).mono ?_
 rintro e9 v3 ⟨rfl,k3⟩
 have A3:Hid (Ab w v3):=A2.out.trans k3
 have S3:=hid (Ab.heap k3 S2.out)
 have G3:=hid (G2.out.to k3)
 clear k3 A2 S2 G2 LG s0
 go_wp2
 go_ret
 exact⟨rfl,A3.out⟩
theorem tQ(side parts:Int)(n:Nat)(pb:Option Addr)(lb cb:Nat)(pw:Option Addr)(lw cw:Nat)(pt:Option Addr)(lt ct:Nat)(ps:Option Addr)(ls cs:Nat)(sky st:Int)(w:World)(LV:Hid (∀v,Ab w v->Calls prog 6 #[] v fun e w'=>e=.returned (.bool true)/\Below v.heap.size v w'))
  (NW:Hid (∀v,Ab w v->Calls prog 7 #[.int .i64 side] v fun e w'=> ∃gb,e=.returned (.tuple #[.pointer (some ⟨gb,0,none⟩),.int .i64 0])/\Ab v w'/\v.heap.size<=gb/\GridOf n gb w'))
  (LG:Hid (∀v,Calls prog 12 #[.agg #[.slice pb lb cb,.slice pw lw cw,.slice pt lt ct,.slice ps ls cs,.int .i64 sky,.int .i64 st]] v fun e w'=>e=.returned (.bool false)/\Below v.heap.size v w'))
  (SB:Hid (∀v gb,GridOf n gb v->Calls prog 8 #[.pointer (some ⟨gb,0,none⟩),.int .i64 parts] v fun e w'=>e=.returned (.tuple #[.slice none 0 0,.int .i64 1])/\Below v.heap.size v w')):
  Calls prog 5 #[.int .i64 side,.int .i64 parts,.agg #[.slice pb lb cb,.slice pw lw cw,.slice pt lt ct,.slice ps ls cs,.int .i64 sky,.int .i64 st]] w fun e w'=>e=.returned (.bool true)/\Below w.heap.size w w':=by
 obtain⟨A0,S0⟩:=dT w (.cells #[.slice pb lb cb,.slice pw lw cw,.slice pt lt ct,.slice ps ls cs,.int .i64 sky,.int .i64 st] 41)
 go_enter func5,ntmps5
 go_upto_region 1 with fail
 obtain⟨gs,hgs⟩:=aB w.heap.size
 generalize hW:World.alloc w _=W at*
 rw[hgs]at S0 ⊢
 clear hgs hW
 go_wp2_with fail
 refine(LV.out _ A0.out).mono ?_
 rintro e9 v1 ⟨rfl,k1⟩
 have A1:Hid (Ab w v1):=A0.out.call k1
 have S1:=hid (Ab.heap k1 S0.out)
 clear k1 A0 S0 LV
 go_wp2_with fail
 refine(NW.out v1 A1.out).mono ?_
 rintro e9 v2 ⟨gb,rfl,k2,-,g2⟩
 have A2:Hid (Ab w v2):=A1.out.trans k2
 have S2:=hid (Ab.heap k2 S1.out)
 have G2:=hid g2
 clear k2 g2 NW A1 S1
 have s0:=aG (S2.out)
 go_wp2_with fail
 refine(LG.out v2).mono ?_
 rintro e9 v3 ⟨rfl,k3⟩
 have A3:Hid (Ab w v3):=A2.out.trans k3
 have S3:=hid (Ab.heap k3 S2.out)
 have G3:=hid (G2.out.to k3)
 clear k3 A2 S2 G2 LG s0
 go_wp2_with fail
 refine(SB.out v3 gb G3.out).mono ?_
 rintro e9 v4 ⟨rfl,k4⟩
 have A4:Hid (Ab w v4):=A3.out.trans k4
 have G4:=hid (G3.out.to k4)
 clear k4
 go_wp2_with fail
 refine(SB.out v4 gb G4.out).mono ?_
 rintro e9 v5 ⟨rfl,k5⟩
 have A5:Hid (Ab w v5):=A4.out.trans k5
 clear k5
 go_wp2_with fail
 refine(oW v5).mono ?_
 rintro e9 v6 ⟨rfl,k6⟩
 have A6:Hid (Ab w v6):=A5.out.trans k6
 clear k6
 go_wp2
 go_ret
 exact⟨rfl,A6.out⟩
end Spl
end
section
open Go.RowKit Tf Cu Go.Deep
theorem gI{b:Nat}{t:TypeId}{N:Nat}: ∀(news:List Value) (n:Nat) (f:Nat->Value) (w:World),w.rowIs b t N f->n+news.length<=N->(w.setCells b n news).rowIs b t N (fun j=>if n<=j then(news[j - n]?).getD (f j)else f j)/\Abx w b N t (w.setCells b n news)
 | [],n,f,w,h,_=>by
  refine⟨h.congr (fun i _=>by simp),?_⟩
  obtain⟨c,hb,hn,_⟩:=h
  exact(Ab.refl w).x hn hb
 | x :: xs,n,f,w,h,hn=>by
  rw[List.length_cons]at hn
  have h1:=h.set n x
  obtain⟨r1,r2⟩:=gI xs (n+1) _ _ h1 (by omega)
  refine⟨r1.congr (fun j _=> ?_),?_⟩
  ·by_cases c:n<=j
   ·by_cases c2:j=n
    ·subst c2
     simp[show¬j+1<=j by omega]
    ·have e:j - n=(j - (n+1))+1:=by omega
     simp[c,c2,show n+1<=j by omega,e]
   ·simp[c,show¬n+1<=j by omega,show¬j=n by omega]
  ·obtain⟨c,hb,hc,_⟩:=h
   have a1:Abx w b N t (w.setCell ⟨b,n,none⟩ x):=((Ab.refl w).x hc hb).set n x
   obtain⟨⟨p1,p2,p3,p4,p5⟩,_⟩:=a1
   obtain⟨⟨q1,q2,q3,q4,q5⟩,q6⟩:=r2
   exact⟨⟨q1.trans p1,q2.trans p2,q3.trans p3,Nat.le_trans p4 q4,fun k hk hne=>(q5 k (by omega) hne).trans (p5 k hk hne)⟩,q6⟩
theorem aV{P:Program}{ops:Array Oper}{o:Oper}{a:Act}{w:World}{K:Act->World->Prop}{Q:Exit->Act->World->Prop}{E:Prop}(hgd:o.guard=none)(s x:Operand)(t:TypeId)
  (ho:o.op=.call {callee:=.builtin .append,args:= #[s,x],argTypes:= #[t,t]})
  (e:TypeId) (i:TypeInfo) (ht:P.underlying t=some (.slice e)) (hi:P.info? e=some i) (hsz:i.size=1)
  (b n cap:Nat) (f:Nat->Value) (hs:a.eval s=.slice (some ⟨b,0,none⟩) n cap) (row:w.rowIs b e cap f)
  (src:Value) (m:Nat) (news:List Value) (hx:a.eval x=src) (hsrc:Src P 1 t src m news w) (hroom:n+m<=cap) (nm:Nat) (hnm:n+m=nm)
  (h: ∀w',w'.rowIs b e cap (fun j=>if n<=j then(news[j - n]?).getD (f j)else f j)->Abx w b cap e w'->K (a.put o.dst (.slice (some ⟨b,0,none⟩) nm cap)) w'):
  if Region.wanted o (yielded ops a.tmps)=true then Oper.wp P o a w K Q else E:=by
 subst hnm
 have hw:Region.wanted o (yielded ops a.tmps)=true:=by simp[Region.wanted,hgd]
 rw[if_pos hw]
 have hl:news.length=m:=by have:=hsrc.newsLen;omega
 have hr:=run_append_room_src (P:=P) w t t o.type e i ht hi b 0 n cap src m news (by rw[hsz];exact hsrc) hroom
  (fun j hj=>by rw[hsz];simp only[Nat.zero_add,Nat.mul_one];rw[row.cell (by omega)];rfl) (fun j _=>by rw[hsz];exact row.frozen _)
 rw[hsz,Nat.zero_add,Nat.mul_one]at hr
 obtain⟨r1,r2⟩:=gI news n f w row (by omega)
 unfold Oper.wp execOp
 simp only[ho,resolve,invoke,builtin,Sem.run_bind,Sem.run_pure,Result.andThen_ok,List.map_toArray,List.map_cons,List.map_nil,hs,hx,hr]
 exact h _ r1 r2
theorem oX: ∃i,Tryd.prog.info? 45=some i/\i.size=1:=by
 have h:=fA
 cases e:Tryd.prog.info? 45 with
 | none=>rw[e]at h;cases h
 | some i=>
  rw[e]at h
  simp at h
  exact⟨i,rfl,h.2.1⟩
theorem oY: ∃i,Tryd.prog.info? 2=some i/\i.size=1:=by
 have h:=lW
 cases e:Tryd.prog.info? 2 with
 | none=>rw[e]at h;cases h
 | some i=>
  rw[e]at h
  simp at h
  exact⟨i,rfl,h.2.1⟩
theorem src_fl{w:World}{pb:Option Addr}{L:Nat}{B:Nat->Nat}(h:IsFl w pb L B)(cb:Nat):Src prog 1 38 (.slice pb L cb) L ((List.range L).map fun k=>Value.float .f64 (B k)) w:=by
 have one: ∀u ∈ (List.range L).map (fun k=>Value.float .f64 (B k)),u.oneCell'=true:=fun u hu=>by
  obtain⟨k,_,rfl⟩:=List.mem_map.1 hu
  rfl
 cases pb with
 | none=>
  have:L=0:=by
   rcases Nat.eq_zero_or_pos L with h0 | h0
   ·exact h0
   ·obtain⟨_,b,o,h2,_⟩:=h 0 h0
    cases h2
  subst this
  exact Src.ofNil w underlying38 cb
 | some a=>
  refine Src.ofSlice w underlying38 a L cb _ (by simp) (fun j u hu=> ?_) one
  have hj:j<L:=by
   rcases Nat.lt_or_ge j L with h1 | h1
   ·exact h1
   ·rw[List.getElem?_eq_none (by simpa using h1)]at hu;cases hu
  obtain⟨_,b,o,h2,_,h4⟩:=h j hj
  cases h2
  simp[hj]at hu
  rw[fC,<- hu]
  exact h4
theorem src_in{w:World}{pb:Option Addr}{L:Nat}{B:Nat->Int}(h:IsIn w pb L B)(cb:Nat):Src prog 1 39 (.slice pb L cb) L ((List.range L).map fun k=>Value.int .i64 (B k)) w:=by
 have one: ∀u ∈ (List.range L).map (fun k=>Value.int .i64 (B k)),u.oneCell'=true:=fun u hu=>by
  obtain⟨k,_,rfl⟩:=List.mem_map.1 hu
  rfl
 cases pb with
 | none=>
  have:L=0:=by
   rcases Nat.eq_zero_or_pos L with h0 | h0
   ·exact h0
   ·obtain⟨_,b,o,h2,_⟩:=h 0 h0
    cases h2
  subst this
  exact Src.ofNil w underlying39 cb
 | some a=>
  refine Src.ofSlice w underlying39 a L cb _ (by simp) (fun j u hu=> ?_) one
  have hj:j<L:=by
   rcases Nat.lt_or_ge j L with h1 | h1
   ·exact h1
   ·rw[List.getElem?_eq_none (by simpa using h1)]at hu;cases hu
  obtain⟨_,b,o,h2,_,h4⟩:=h j hj
  cases h2
  simp[hj]at hu
  rw[fC,<- hu]
  exact h4
def mkF(L:Nat)(g:Nat->Value)(m z:Value)(j:Nat):Value:=if j<L then g j else if j=L then m else z
theorem mG(L:Nat)(g:Nat->Value)(m z:Value)(j:Nat):
  (if L<=j then([m][j - L]?).getD (if 0<=j then(((List.range L).map g)[j - 0]?).getD z else z)else(if 0<=j then(((List.range L).map g)[j - 0]?).getD z else z))=mkF L g m z j:=by
 unfold mkF
 by_cases c:j<L
 ·simp[c,show¬L<=j by omega]
 ·by_cases c2:j=L
  ·subst c2
   simp
  ·have e:j - L=(j - L - 1)+1:=by omega
   rw[e]
   simp[c,c2,show L<=j by omega]
theorem gJ{w:World}{q x:Nat}(h:w.heap[q]? =some (.cells #[.float .f64 x] 45 (0,0))):Src prog 1 38 (.slice (some ⟨q,0,none⟩) 1 1) 1 [.float .f64 x] w:=
 Src.ofSlice w underlying38 ⟨q,0,none⟩ 1 1 [.float .f64 x] rfl (World.news_of_block h) (fun u hu=>by simp at hu;subst hu;rfl)
theorem gK{w:World}{q:Nat}{x:Int}(h:w.heap[q]? =some (.cells #[.int .i64 x] 2 (0,0))):Src prog 1 39 (.slice (some ⟨q,0,none⟩) 1 1) 1 [.int .i64 x] w:=
 Src.ofSlice w underlying39 ⟨q,0,none⟩ 1 1 [.int .i64 x] rfl (World.news_of_block h) (fun u hu=>by simp at hu;subst hu;rfl)
theorem Abx.far{V w w':World}{g n b N:Nat}{T e:TypeId}(h:Abx V g n T w)(k:Abx w b N e w')(hb:V.heap.size<=b)(hg:g<V.heap.size):Abx V g n T w':=by
 obtain⟨⟨p1,p2,p3,p4,p5⟩,cs,p6,p7⟩:=h
 obtain⟨⟨q1,q2,q3,q4,q5⟩,_⟩:=k
 exact⟨⟨q1.trans p1,q2.trans p2,q3.trans p3,Nat.le_trans p4 q4,fun i hi hne=>(q5 i (by omega) (by omega)).trans (p5 i hi hne)⟩,cs,p6,(q5 g (by omega) (by omega)).trans p7⟩
theorem bO{w w':World}{b N q:Nat}{e:TypeId}{o:Obj}(k:Abx w b N e w')(h:w.heap[q]? =some o)(hne:q≠b):w'.heap[q]? =some o:=k.heap hne h
theorem oZ(L:Nat)(hL:L<=65536)(w:World):(Instr.makeSlice 38 (.int .i64 0) (.int .i64 ((L:Int)+9))).run prog w=.ok (.slice (some ⟨w.heap.size,0,none⟩) 0 (L+9)) (w.alloc (.cells (madeCells #[.float .f64 0] (L+9)) 45)):=by
 obtain⟨i,hi,hzz⟩:=Option.map_eq_some_iff.1 fA
 simp only[Prod.mk.injEq]at hzz
 obtain⟨h1,h2,h3⟩:=hzz
 have h:=run_make (P:=prog) w 38 45 i (.float .f64 0) underlying38 hi h1 .i64 .i64 0 ((L:Int)+9) (by omega) (by omega) (by rw[h3];omega) (by omega)
 rw[h2,Nat.mul_one]at h
 have e:((L:Int)+9).toNat=L+9:=by omega
 rw[e]at h
 exact h
theorem pE(L:Nat)(hL:L<=65536)(w:World):(Instr.makeSlice 39 (.int .i64 0) (.int .i64 ((L:Int)+9))).run prog w=.ok (.slice (some ⟨w.heap.size,0,none⟩) 0 (L+9)) (w.alloc (.cells (madeCells #[.int .i64 0] (L+9)) 2)):=by
 obtain⟨i,hi,hzz⟩:=Option.map_eq_some_iff.1 lW
 simp only[Prod.mk.injEq]at hzz
 obtain⟨h1,h2,h3⟩:=hzz
 have h:=run_make (P:=prog) w 39 2 i (.int .i64 0) underlying39 hi h1 .i64 .i64 0 ((L:Int)+9) (by omega) (by omega) (by rw[h3];omega) (by omega)
 rw[h2,Nat.mul_one]at h
 have e:((L:Int)+9).toNat=L+9:=by omega
 rw[e]at h
 exact h
theorem hU(L:Nat)(hL:L<=65536):IntKind.i64.wrap ((L:Int)+9)=(L:Int)+9:=by
 rw[IntKind.wrap_i64]
 omega
theorem mJ(V:World)(z:Value)(n:Nat)(t:TypeId):(V.drew.alloc (.cells (madeCells #[z] n) t)).rowIs V.heap.size t n (fun _=>z):=World.rowIs_made V.drew z n t
theorem mK(V:World)(z:Value)(n:Nat)(t:TypeId)(O:Obj):((V.drew.alloc (.cells (madeCells #[z] n) t)).alloc O).rowIs V.heap.size t n (fun _=>z):=(World.rowIs_made V.drew z n t).alloc O
theorem mL(V:World)(z:Value)(n:Nat)(t:TypeId)(O:Obj):((V.drew.alloc O).alloc (.cells (madeCells #[z] n) t)).rowIs (V.heap.size+1) t n (fun _=>z):=by
 have h:=World.rowIs_made (V.drew.alloc O) z n t
 have e:(V.drew.alloc O).heap.size=V.heap.size+1:=by
  show(V.heap.push O).size=_
  simp
 rwa [e]at h
theorem mM(V:World)(M O:Obj):((V.drew.alloc M).alloc O).heap[V.heap.size+1]? =some O:=heap_alloc2_new V.drew M O
theorem mO(V:World)(M O:Obj):((V.drew.alloc O).alloc M).heap[V.heap.size]? =some O:=heap_alloc2_old V.drew O M
theorem cW{V w:World}{b:Nat}{t:TypeId}{n:Nat}{f:Nat->Value}{g m:Nat}{T:TypeId}(h:V.rowIs b t n f)(a:Abx V g m T w)(hne:b≠g):w.rowIs b t n f:=h.of_block (a.1.2.2.2.2 b h.lt hne)
end
section
open Go.RowKit Tf Cu
attribute [local go_sem] aK aL aM aN aO aP aR aE
theorem pG(pb pw pt ps:Option Addr)(lb cb lw cw lt ct ls cs:Nat)(B:Nat->Nat)(Wt Tr:Nat->Int)(Sp:Nat->Nat)(sky st:Int)(w:World)
  (hB:IsFl w pb lb B) (hW:IsIn w pw lw Wt) (hT:IsIn w pt lt Tr) (hS:IsFl w ps ls Sp)
  (hl:lb<=65536/\lw<=65536/\lt<=65536/\ls<=65536):
  Calls prog 17 #[.agg #[.slice pb lb cb,.slice pw lw cw,.slice pt lt ct,.slice ps ls cs,.int .i64 sky,.int .i64 st]] w fun e w'=> ∃bb bw bt bs,e=.returned (.agg #[.slice (some ⟨bb,0,none⟩) lb (lb+9),.slice (some ⟨bw,0,none⟩) lw (lw+9),.slice (some ⟨bt,0,none⟩) lt (lt+9),.slice (some ⟨bs,0,none⟩) ls (ls+9),.int .i64 sky,.int .i64 st])/\Below w.heap.size w w'/\w'.rowIs bb 45 (lb+9) (mkF lb (fun k=>.float .f64 (B k)) (.float .f64 4635118810238550016) (.float .f64 0))/\w'.rowIs bw 2 (lw+9) (mkF lw (fun k=>.int .i64 (Wt k)) (.int .i64 77) (.int .i64 0))/\w'.rowIs bt 2 (lt+9) (mkF lt (fun k=>.int .i64 (Tr k)) (.int .i64 77) (.int .i64 0))/\w'.rowIs bs 45 (ls+9) (mkF ls (fun k=>.float .f64 (Sp k)) (.float .f64 4635118810238550016) (.float .f64 0))/\(w.heap.size<=bb/\w.heap.size<=bw/\w.heap.size<=bt/\w.heap.size<=bs/\bb≠bw/\bb≠bt/\bb≠bs/\bw≠bt/\bw≠bs/\bt≠bs):=by
 have A0:Hid (Ab w (((w.alloc (.cells #[.slice pb lb cb,.slice pw lw cw,.slice pt lt ct,.slice ps ls cs,.int .i64 sky,.int .i64 st] 41)).alloc (.cells #[.slice none 0 0,.slice none 0 0,.slice none 0 0,.slice none 0 0,.int .i64 0,.int .i64 0] 41)).alloc (.cells #[.slice pb lb cb,.slice pw lw cw,.slice pt lt ct,.slice ps ls cs,.int .i64 sky,.int .i64 st] 41))):=bl3 _ _ _ _
 have GS:Hid ((((w.alloc (.cells #[.slice pb lb cb,.slice pw lw cw,.slice pt lt ct,.slice ps ls cs,.int .i64 sky,.int .i64 st] 41)).alloc (.cells #[.slice none 0 0,.slice none 0 0,.slice none 0 0,.slice none 0 0,.int .i64 0,.int .i64 0] 41)).alloc (.cells #[.slice pb lb cb,.slice pw lw cw,.slice pt lt ct,.slice ps ls cs,.int .i64 sky,.int .i64 st] 41)).heap[w.heap.size]? =some (.cells #[.slice pb lb cb,.slice pw lw cw,.slice pt lt ct,.slice ps ls cs,.int .i64 sky,.int .i64 st] 41)):=Ab.heap (bl2 _ _ _) (heap_alloc_new _ _)
 have GR:Hid ((((w.alloc (.cells #[.slice pb lb cb,.slice pw lw cw,.slice pt lt ct,.slice ps ls cs,.int .i64 sky,.int .i64 st] 41)).alloc (.cells #[.slice none 0 0,.slice none 0 0,.slice none 0 0,.slice none 0 0,.int .i64 0,.int .i64 0] 41)).alloc (.cells #[.slice pb lb cb,.slice pw lw cw,.slice pt lt ct,.slice ps ls cs,.int .i64 sky,.int .i64 st] 41)).heap[w.heap.size+1]? =some (.cells #[.slice none 0 0,.slice none 0 0,.slice none 0 0,.slice none 0 0,.int .i64 0,.int .i64 0] 41)):=Ab.heap (bl1 _ _) (heap_alloc2_new _ _ _)
 have GO:Hid ((((w.alloc (.cells #[.slice pb lb cb,.slice pw lw cw,.slice pt lt ct,.slice ps ls cs,.int .i64 sky,.int .i64 st] 41)).alloc (.cells #[.slice none 0 0,.slice none 0 0,.slice none 0 0,.slice none 0 0,.int .i64 0,.int .i64 0] 41)).alloc (.cells #[.slice pb lb cb,.slice pw lw cw,.slice pt lt ct,.slice ps ls cs,.int .i64 sky,.int .i64 st] 41)).heap[w.heap.size+2]? =some (.cells #[.slice pb lb cb,.slice pw lw cw,.slice pt lt ct,.slice ps ls cs,.int .i64 sky,.int .i64 st] 41)):=cE _ _ _ _
 have HL:=hid hl
 have Hb:=hid hB
 have Hw:=hid hW
 have Ht:=hid hT
 have Hs:=hid hS
 clear hl hB hW hT hS
 go_enter func17,ntmps17
 go_upto_region 2 with fail
 generalize hV:World.alloc (World.alloc (World.alloc w _) _) _=V at*
 obtain⟨gs,hgs⟩:=aB w.heap.size
 obtain⟨gr,hgr⟩:=aB (w.heap.size+1)
 obtain⟨go,hgo⟩:=aB (w.heap.size+2)
 have GSO:Hid (gs≠go):=by intro h;omega
 have GRO:Hid (gr≠go/\gs≠gr):=⟨by intro h;omega,by intro h;omega⟩
 have GRW:Hid (w.heap.size<=gr/\gr<go/\w.heap.size<=go):=⟨by omega,by omega,by omega⟩
 have GOW:Hid (w.heap.size<=go):=by show w.heap.size<=go;omega
 rw[hgs]at GS
 rw[hgr]at GR
 rw[hgo]at GO
 rw[hgo,hgr,hgs]
 have AV:=A0
 clear hgs hgr hgo hV A0
 go_upto_region 2 with fail
 go_cut []from 5 to 19 (fun V0=> ∃bb:Nat,V.heap.size<=bb/\Abx V go 6 41 V0/\V0.heap[go]? =some (.cells #[.slice (some ⟨bb,0,none⟩) lb (lb+9),.slice pw lw cw,.slice pt lt ct,.slice ps ls cs,.int .i64 sky,.int .i64 st] 41)/\V0.rowIs bb 45 (lb+9) (mkF lb (fun k=>.float .f64 (B k)) (.float .f64 4635118810238550016) (.float .f64 0)))
 case first=>
  obtain⟨i0,hi0,hi1⟩:=oX
  have IP:=hid (And.intro hi0 hi1)
  clear hi0 hi1
  have M1: ∀v:World,(Instr.makeSlice 38 (.int .i64 0) (.int .i64 (IntKind.i64.wrap ((lb:Int)+9)))).run prog v=.ok (.slice (some ⟨v.heap.size,0,none⟩) 0 (lb+9)) (v.alloc (.cells (madeCells #[.float .f64 0] (lb+9)) 45)):=fun v=>by rw[hU _ HL.out.1];exact oZ lb HL.out.1 v
  have WR:Hid (IntKind.i64.wrap ((lb:Int)+9)=(lb:Int)+9):=hU _ HL.out.1
  have lb1:(lb:Int)<=65536:=by have:=HL.out;omega
  have AX0:Abx V go 6 41 V:=(Ab.refl V).x rfl GO.out
  have lb2:((lb:Nat):Int)<=((lb+9:Nat):Int):=by omega
  have lb3:(lb:Int)<=(lb:Int)+9:=by omega
  have lb4:(0:Int)<=(lb:Int):=by omega
  have AB0:=hid (Ab.refl V)
  have GX:=hid (lt_of_block GO.out)
  have KS:Hid (∀w',Abx V go 6 41 w'->Abx V go 6 41 w'/\w'.cell? ⟨gs,0,none⟩=some (.slice pb lb cb)/\w'.frozen? ⟨go,0,none⟩=false/\w'.cell? ⟨go,0,none⟩=some (rv w' go 0)):=fun w' h=>⟨h,aA 0 (h.heap GSO.out GS.out),h.free 0,h.some (by decide)⟩
  have SR:Hid (∀v,Abx V go 6 41 v->Src prog 1 38 (.slice pb lb cb) lb ((List.range lb).map fun k=>Value.float .f64 (B k)) v):=fun v h=>src_fl (Hb.out.below (h.ab AV.out GOW.out)) _
  go_region_held3 (fun w'=>Abx V go 6 41 w'/\w'.cell? ⟨gs,0,none⟩=some (.slice pb lb cb)/\w'.frozen? ⟨go,0,none⟩=false/\w'.cell? ⟨go,0,none⟩=some (rv w' go 0)) ((refine KS.out _ ?_;(with_reducible (repeat(first | assumption | apply Abx.drew | apply Abx.alloc | apply Abx.set)));done)) (first
   | (have r1:=R1.out;have q1:=HQ.out;refine aV (by rfl) _ _ 38 (by rfl) 45 i0 underlying38 IP.out.1 IP.out.2 _ lb (lb+9) _ (by rfl) r1 _ 1 _ (by rfl) (gJ q1) (by omega) (lb+1) rfl ?_;intro w5 r5 x5;have AX5:=Abx.far AX4 x5 (by omega) GX.out;have AB5:=hid (Abx.ab x5 AB4.out (by omega));have R2:=hid r5;clear r5 x5;clear r1 q1)
   | (have r1:=R1.out;refine aV (by rfl) _ _ 38 (by rfl) 45 i0 underlying38 IP.out.1 IP.out.2 _ lb (lb+9) _ (by rfl) (r1.alloc _) _ 1 _ (by rfl) (gJ (heap_alloc_new w4 _)) (by omega) (lb+1) rfl ?_;intro w5 r5 x5;have AX5:=Abx.far (AX4.alloc _) x5 (by omega) GX.out;have AB5:=hid (Abx.ab x5 (AB4.out.alloc _) (by omega));have R2:=hid r5;clear r5 x5;clear r1)
   | (refine aV (by rfl) _ _ 38 (by rfl) 45 i0 underlying38 IP.out.1 IP.out.2 (V.heap.size+1) 0 (lb+9) (fun _=>.float .f64 0) (by rfl) (mL V (.float .f64 0) (lb+9) 45 (.cells #[.float .f64 4635118810238550016] 45)) (.slice pb lb cb) lb _ (by rfl) (SR.out _ ((AX0.drew.alloc (.cells #[.float .f64 4635118810238550016] 45)).alloc (.cells (madeCells #[.float .f64 0] (lb+9)) 45))) (by omega) lb (by omega) ?_;intro w4 r4 x4;have AX4:=Abx.far ((AX0.drew.alloc (.cells #[.float .f64 4635118810238550016] 45)).alloc (.cells (madeCells #[.float .f64 0] (lb+9)) 45)) x4 (by omega) GX.out;have AB4:=hid (Abx.ab x4 ((AB0.out.drew.alloc (.cells #[.float .f64 4635118810238550016] 45)).alloc (.cells (madeCells #[.float .f64 0] (lb+9)) 45)) (by omega));have R1:=hid r4;have HQ:=hid (bO x4 (mO V _ (.cells #[.float .f64 4635118810238550016] 45)) (by omega));clear r4 x4)
   | (refine aV (by rfl) _ _ 38 (by rfl) 45 i0 underlying38 IP.out.1 IP.out.2 V.heap.size 0 (lb+9) (fun _=>.float .f64 0) (by rfl) (mK V (.float .f64 0) (lb+9) 45 (.cells #[.float .f64 4635118810238550016] 45)) (.slice pb lb cb) lb _ (by rfl) (SR.out _ ((AX0.drew.alloc (.cells (madeCells #[.float .f64 0] (lb+9)) 45)).alloc (.cells #[.float .f64 4635118810238550016] 45))) (by omega) lb (by omega) ?_;intro w4 r4 x4;have AX4:=Abx.far ((AX0.drew.alloc (.cells (madeCells #[.float .f64 0] (lb+9)) 45)).alloc (.cells #[.float .f64 4635118810238550016] 45)) x4 (by omega) GX.out;have AB4:=hid (Abx.ab x4 ((AB0.out.drew.alloc (.cells (madeCells #[.float .f64 0] (lb+9)) 45)).alloc (.cells #[.float .f64 4635118810238550016] 45)) (by omega));have R1:=hid r4;have HQ:=hid (bO x4 (mM V _ (.cells #[.float .f64 4635118810238550016] 45)) (by omega));clear r4 x4)
   | (refine aV (by rfl) _ _ 38 (by rfl) 45 i0 underlying38 IP.out.1 IP.out.2 V.heap.size 0 (lb+9) (fun _=>.float .f64 0) (by rfl) (mJ V (.float .f64 0) (lb+9) 45) (.slice pb lb cb) lb _ (by rfl) (SR.out _ (AX0.drew.alloc (.cells (madeCells #[.float .f64 0] (lb+9)) 45))) (by omega) lb (by omega) ?_;intro w4 r4 x4;have AX4:=Abx.far (AX0.drew.alloc (.cells (madeCells #[.float .f64 0] (lb+9)) 45)) x4 (by omega) GX.out;have AB4:=hid (Abx.ab x4 (AB0.out.drew.alloc (.cells (madeCells #[.float .f64 0] (lb+9)) 45)) (by omega));have R1:=hid r4;clear r4 x4))
  all_goals
   go_wp2_with fail
   go_meet
   exact⟨_,by omega,AX5.set _ _,aI (AB5.out.heap GO.out),(R2.out.setOther (Ne.symm (Nat.ne_of_lt (Nat.lt_of_lt_of_le GX.out (by omega)))) _).congr (fun j _=>mG _ _ _ _ _)⟩
 case rest=>
  rename World=>V0
  obtain⟨bb,h1,h2,h3,h4⟩:=hcut
  have LTb:Hid (V.heap.size<=bb/\bb<V0.heap.size/\go<V.heap.size):=⟨h1,h4.lt,lt_of_block GO.out⟩
  have AV2:Hid (Ab w V0):=h2.ab AV.out GOW.out
  have GS2:=hid (h2.heap GSO.out GS.out)
  have GR2:=hid (h2.heap GRO.out.1 GR.out)
  have Rb:=hid h4
  clear AV GS GR GO
  have AV:=AV2
  have GS:=GS2
  have GR:=GR2
  have GO:=hid h3
  clear AV2 GS2 GR2 h1 h2 h3 h4
  go_upto_region 3 with fail
  go_cut []from 20 to 34 (fun V1=> ∃bs:Nat,V0.heap.size<=bs/\Abx V0 go 6 41 V1/\V1.heap[go]? =some (.cells #[.slice (some ⟨bb,0,none⟩) lb (lb+9),.slice pw lw cw,.slice pt lt ct,.slice (some ⟨bs,0,none⟩) ls (ls+9),.int .i64 sky,.int .i64 st] 41)/\V1.rowIs bs 45 (ls+9) (mkF ls (fun k=>.float .f64 (Sp k)) (.float .f64 4635118810238550016) (.float .f64 0)))
  case first=>
   obtain⟨i0,hi0,hi1⟩:=oX
   have IP:=hid (And.intro hi0 hi1)
   clear hi0 hi1
   have M1: ∀v:World,(Instr.makeSlice 38 (.int .i64 0) (.int .i64 (IntKind.i64.wrap ((ls:Int)+9)))).run prog v=.ok (.slice (some ⟨v.heap.size,0,none⟩) 0 (ls+9)) (v.alloc (.cells (madeCells #[.float .f64 0] (ls+9)) 45)):=fun v=>by rw[hU _ HL.out.2.2.2];exact oZ ls HL.out.2.2.2 v
   have WR:Hid (IntKind.i64.wrap ((ls:Int)+9)=(ls:Int)+9):=hU _ HL.out.2.2.2
   have lb1:(ls:Int)<=65536:=by have:=HL.out;omega
   have AX0:Abx V0 go 6 41 V0:=(Ab.refl V0).x rfl GO.out
   have lb2:((ls:Nat):Int)<=((ls+9:Nat):Int):=by omega
   have lb3:(ls:Int)<=(ls:Int)+9:=by omega
   have lb4:(0:Int)<=(ls:Int):=by omega
   have AB0:=hid (Ab.refl V0)
   have GX:=hid (lt_of_block GO.out)
   have KS:Hid (∀w',Abx V0 go 6 41 w'->Abx V0 go 6 41 w'/\w'.cell? ⟨gs,3,none⟩=some (.slice ps ls cs)/\w'.frozen? ⟨go,3,none⟩=false/\w'.cell? ⟨go,3,none⟩=some (rv w' go 3)):=fun w' h=>⟨h,aA 3 (h.heap GSO.out GS.out),h.free 3,h.some (by decide)⟩
   have SR:Hid (∀v,Abx V0 go 6 41 v->Src prog 1 38 (.slice ps ls cs) ls ((List.range ls).map fun k=>Value.float .f64 (Sp k)) v):=fun v h=>src_fl (Hs.out.below (h.ab AV.out GOW.out)) _
   go_region_held3 (fun w'=>Abx V0 go 6 41 w'/\w'.cell? ⟨gs,3,none⟩=some (.slice ps ls cs)/\w'.frozen? ⟨go,3,none⟩=false/\w'.cell? ⟨go,3,none⟩=some (rv w' go 3)) ((refine KS.out _ ?_;(with_reducible (repeat(first | assumption | apply Abx.drew | apply Abx.alloc | apply Abx.set)));done)) (first
    | (have r1:=R1.out;have q1:=HQ.out;refine aV (by rfl) _ _ 38 (by rfl) 45 i0 underlying38 IP.out.1 IP.out.2 _ ls (ls+9) _ (by rfl) r1 _ 1 _ (by rfl) (gJ q1) (by omega) (ls+1) rfl ?_;intro w5 r5 x5;have AX5:=Abx.far AX4 x5 (by omega) GX.out;have AB5:=hid (Abx.ab x5 AB4.out (by omega));have R2:=hid r5;clear r5 x5;clear r1 q1)
    | (have r1:=R1.out;refine aV (by rfl) _ _ 38 (by rfl) 45 i0 underlying38 IP.out.1 IP.out.2 _ ls (ls+9) _ (by rfl) (r1.alloc _) _ 1 _ (by rfl) (gJ (heap_alloc_new w4 _)) (by omega) (ls+1) rfl ?_;intro w5 r5 x5;have AX5:=Abx.far (AX4.alloc _) x5 (by omega) GX.out;have AB5:=hid (Abx.ab x5 (AB4.out.alloc _) (by omega));have R2:=hid r5;clear r5 x5;clear r1)
    | (refine aV (by rfl) _ _ 38 (by rfl) 45 i0 underlying38 IP.out.1 IP.out.2 (V0.heap.size+1) 0 (ls+9) (fun _=>.float .f64 0) (by rfl) (mL V0 (.float .f64 0) (ls+9) 45 (.cells #[.float .f64 4635118810238550016] 45)) (.slice ps ls cs) ls _ (by rfl) (SR.out _ ((AX0.drew.alloc (.cells #[.float .f64 4635118810238550016] 45)).alloc (.cells (madeCells #[.float .f64 0] (ls+9)) 45))) (by omega) ls (by omega) ?_;intro w4 r4 x4;have AX4:=Abx.far ((AX0.drew.alloc (.cells #[.float .f64 4635118810238550016] 45)).alloc (.cells (madeCells #[.float .f64 0] (ls+9)) 45)) x4 (by omega) GX.out;have AB4:=hid (Abx.ab x4 ((AB0.out.drew.alloc (.cells #[.float .f64 4635118810238550016] 45)).alloc (.cells (madeCells #[.float .f64 0] (ls+9)) 45)) (by omega));have R1:=hid r4;have HQ:=hid (bO x4 (mO V0 _ (.cells #[.float .f64 4635118810238550016] 45)) (by omega));clear r4 x4)
    | (refine aV (by rfl) _ _ 38 (by rfl) 45 i0 underlying38 IP.out.1 IP.out.2 V0.heap.size 0 (ls+9) (fun _=>.float .f64 0) (by rfl) (mK V0 (.float .f64 0) (ls+9) 45 (.cells #[.float .f64 4635118810238550016] 45)) (.slice ps ls cs) ls _ (by rfl) (SR.out _ ((AX0.drew.alloc (.cells (madeCells #[.float .f64 0] (ls+9)) 45)).alloc (.cells #[.float .f64 4635118810238550016] 45))) (by omega) ls (by omega) ?_;intro w4 r4 x4;have AX4:=Abx.far ((AX0.drew.alloc (.cells (madeCells #[.float .f64 0] (ls+9)) 45)).alloc (.cells #[.float .f64 4635118810238550016] 45)) x4 (by omega) GX.out;have AB4:=hid (Abx.ab x4 ((AB0.out.drew.alloc (.cells (madeCells #[.float .f64 0] (ls+9)) 45)).alloc (.cells #[.float .f64 4635118810238550016] 45)) (by omega));have R1:=hid r4;have HQ:=hid (bO x4 (mM V0 _ (.cells #[.float .f64 4635118810238550016] 45)) (by omega));clear r4 x4)
    | (refine aV (by rfl) _ _ 38 (by rfl) 45 i0 underlying38 IP.out.1 IP.out.2 V0.heap.size 0 (ls+9) (fun _=>.float .f64 0) (by rfl) (mJ V0 (.float .f64 0) (ls+9) 45) (.slice ps ls cs) ls _ (by rfl) (SR.out _ (AX0.drew.alloc (.cells (madeCells #[.float .f64 0] (ls+9)) 45))) (by omega) ls (by omega) ?_;intro w4 r4 x4;have AX4:=Abx.far (AX0.drew.alloc (.cells (madeCells #[.float .f64 0] (ls+9)) 45)) x4 (by omega) GX.out;have AB4:=hid (Abx.ab x4 (AB0.out.drew.alloc (.cells (madeCells #[.float .f64 0] (ls+9)) 45)) (by omega));have R1:=hid r4;clear r4 x4))
   all_goals
    go_wp2_with fail
    go_meet
    exact⟨_,by omega,AX5.set _ _,aI (AB5.out.heap GO.out),(R2.out.setOther (Ne.symm (Nat.ne_of_lt (Nat.lt_of_lt_of_le GX.out (by omega)))) _).congr (fun j _=>mG _ _ _ _ _)⟩
  case rest=>
   rename World=>V1
   obtain⟨bs,h1,h2,h3,h4⟩:=hcut
   have LTs:Hid (V0.heap.size<=bs/\bs<V1.heap.size/\go<V0.heap.size):=⟨h1,h4.lt,lt_of_block GO.out⟩
   have AV2:Hid (Ab w V1):=h2.ab AV.out GOW.out
   have GS2:=hid (h2.heap GSO.out GS.out)
   have GR2:=hid (h2.heap GRO.out.1 GR.out)
   have Rs:=hid h4
   have Qb:=hid (cW Rb.out h2 (by have:=LTb.out;omega))
   clear AV GS GR GO Rb
   have Rb:=Qb
   clear Qb
   have AV:=AV2
   have GS:=GS2
   have GR:=GR2
   have GO:=hid h3
   clear AV2 GS2 GR2 h1 h2 h3 h4
   go_upto_region 4 with fail
   go_cut []from 35 to 49 (fun V2=> ∃bw:Nat,V1.heap.size<=bw/\Abx V1 go 6 41 V2/\V2.heap[go]? =some (.cells #[.slice (some ⟨bb,0,none⟩) lb (lb+9),.slice (some ⟨bw,0,none⟩) lw (lw+9),.slice pt lt ct,.slice (some ⟨bs,0,none⟩) ls (ls+9),.int .i64 sky,.int .i64 st] 41)/\V2.rowIs bw 2 (lw+9) (mkF lw (fun k=>.int .i64 (Wt k)) (.int .i64 77) (.int .i64 0)))
   case first=>
    obtain⟨i0,hi0,hi1⟩:=oY
    have IP:=hid (And.intro hi0 hi1)
    clear hi0 hi1
    have M1: ∀v:World,(Instr.makeSlice 39 (.int .i64 0) (.int .i64 (IntKind.i64.wrap ((lw:Int)+9)))).run prog v=.ok (.slice (some ⟨v.heap.size,0,none⟩) 0 (lw+9)) (v.alloc (.cells (madeCells #[.int .i64 0] (lw+9)) 2)):=fun v=>by rw[hU _ HL.out.2.1];exact pE lw HL.out.2.1 v
    have WR:Hid (IntKind.i64.wrap ((lw:Int)+9)=(lw:Int)+9):=hU _ HL.out.2.1
    have lb1:(lw:Int)<=65536:=by have:=HL.out;omega
    have AX0:Abx V1 go 6 41 V1:=(Ab.refl V1).x rfl GO.out
    have lb2:((lw:Nat):Int)<=((lw+9:Nat):Int):=by omega
    have lb3:(lw:Int)<=(lw:Int)+9:=by omega
    have lb4:(0:Int)<=(lw:Int):=by omega
    have AB0:=hid (Ab.refl V1)
    have GX:=hid (lt_of_block GO.out)
    have KS:Hid (∀w',Abx V1 go 6 41 w'->Abx V1 go 6 41 w'/\w'.cell? ⟨gs,1,none⟩=some (.slice pw lw cw)/\w'.frozen? ⟨go,1,none⟩=false/\w'.cell? ⟨go,1,none⟩=some (rv w' go 1)):=fun w' h=>⟨h,aA 1 (h.heap GSO.out GS.out),h.free 1,h.some (by decide)⟩
    have SR:Hid (∀v,Abx V1 go 6 41 v->Src prog 1 39 (.slice pw lw cw) lw ((List.range lw).map fun k=>Value.int .i64 (Wt k)) v):=fun v h=>src_in (Hw.out.below (h.ab AV.out GOW.out)) _
    go_region_held3 (fun w'=>Abx V1 go 6 41 w'/\w'.cell? ⟨gs,1,none⟩=some (.slice pw lw cw)/\w'.frozen? ⟨go,1,none⟩=false/\w'.cell? ⟨go,1,none⟩=some (rv w' go 1)) ((refine KS.out _ ?_;(with_reducible (repeat(first | assumption | apply Abx.drew | apply Abx.alloc | apply Abx.set)));done)) (first
     | (have r1:=R1.out;have q1:=HQ.out;refine aV (by rfl) _ _ 39 (by rfl) 2 i0 underlying39 IP.out.1 IP.out.2 _ lw (lw+9) _ (by rfl) r1 _ 1 _ (by rfl) (gK q1) (by omega) (lw+1) rfl ?_;intro w5 r5 x5;have AX5:=Abx.far AX4 x5 (by omega) GX.out;have AB5:=hid (Abx.ab x5 AB4.out (by omega));have R2:=hid r5;clear r5 x5;clear r1 q1)
     | (have r1:=R1.out;refine aV (by rfl) _ _ 39 (by rfl) 2 i0 underlying39 IP.out.1 IP.out.2 _ lw (lw+9) _ (by rfl) (r1.alloc _) _ 1 _ (by rfl) (gK (heap_alloc_new w4 _)) (by omega) (lw+1) rfl ?_;intro w5 r5 x5;have AX5:=Abx.far (AX4.alloc _) x5 (by omega) GX.out;have AB5:=hid (Abx.ab x5 (AB4.out.alloc _) (by omega));have R2:=hid r5;clear r5 x5;clear r1)
     | (refine aV (by rfl) _ _ 39 (by rfl) 2 i0 underlying39 IP.out.1 IP.out.2 (V1.heap.size+1) 0 (lw+9) (fun _=>.int .i64 0) (by rfl) (mL V1 (.int .i64 0) (lw+9) 2 (.cells #[.int .i64 77] 2)) (.slice pw lw cw) lw _ (by rfl) (SR.out _ ((AX0.drew.alloc (.cells #[.int .i64 77] 2)).alloc (.cells (madeCells #[.int .i64 0] (lw+9)) 2))) (by omega) lw (by omega) ?_;intro w4 r4 x4;have AX4:=Abx.far ((AX0.drew.alloc (.cells #[.int .i64 77] 2)).alloc (.cells (madeCells #[.int .i64 0] (lw+9)) 2)) x4 (by omega) GX.out;have AB4:=hid (Abx.ab x4 ((AB0.out.drew.alloc (.cells #[.int .i64 77] 2)).alloc (.cells (madeCells #[.int .i64 0] (lw+9)) 2)) (by omega));have R1:=hid r4;have HQ:=hid (bO x4 (mO V1 _ (.cells #[.int .i64 77] 2)) (by omega));clear r4 x4)
     | (refine aV (by rfl) _ _ 39 (by rfl) 2 i0 underlying39 IP.out.1 IP.out.2 V1.heap.size 0 (lw+9) (fun _=>.int .i64 0) (by rfl) (mK V1 (.int .i64 0) (lw+9) 2 (.cells #[.int .i64 77] 2)) (.slice pw lw cw) lw _ (by rfl) (SR.out _ ((AX0.drew.alloc (.cells (madeCells #[.int .i64 0] (lw+9)) 2)).alloc (.cells #[.int .i64 77] 2))) (by omega) lw (by omega) ?_;intro w4 r4 x4;have AX4:=Abx.far ((AX0.drew.alloc (.cells (madeCells #[.int .i64 0] (lw+9)) 2)).alloc (.cells #[.int .i64 77] 2)) x4 (by omega) GX.out;have AB4:=hid (Abx.ab x4 ((AB0.out.drew.alloc (.cells (madeCells #[.int .i64 0] (lw+9)) 2)).alloc (.cells #[.int .i64 77] 2)) (by omega));have R1:=hid r4;have HQ:=hid (bO x4 (mM V1 _ (.cells #[.int .i64 77] 2)) (by omega));clear r4 x4)
     | (refine aV (by rfl) _ _ 39 (by rfl) 2 i0 underlying39 IP.out.1 IP.out.2 V1.heap.size 0 (lw+9) (fun _=>.int .i64 0) (by rfl) (mJ V1 (.int .i64 0) (lw+9) 2) (.slice pw lw cw) lw _ (by rfl) (SR.out _ (AX0.drew.alloc (.cells (madeCells #[.int .i64 0] (lw+9)) 2))) (by omega) lw (by omega) ?_;intro w4 r4 x4;have AX4:=Abx.far (AX0.drew.alloc (.cells (madeCells #[.int .i64 0] (lw+9)) 2)) x4 (by omega) GX.out;have AB4:=hid (Abx.ab x4 (AB0.out.drew.alloc (.cells (madeCells #[.int .i64 0] (lw+9)) 2)) (by omega));have R1:=hid r4;clear r4 x4))
    all_goals
     go_wp2_with fail
     go_meet
     exact⟨_,by omega,AX5.set _ _,aI (AB5.out.heap GO.out),(R2.out.setOther (Ne.symm (Nat.ne_of_lt (Nat.lt_of_lt_of_le GX.out (by omega)))) _).congr (fun j _=>mG _ _ _ _ _)⟩
   case rest=>
    rename World=>V2
    obtain⟨bw,h1,h2,h3,h4⟩:=hcut
    have LTw:Hid (V1.heap.size<=bw/\bw<V2.heap.size/\go<V1.heap.size):=⟨h1,h4.lt,lt_of_block GO.out⟩
    have AV2:Hid (Ab w V2):=h2.ab AV.out GOW.out
    have GS2:=hid (h2.heap GSO.out GS.out)
    have GR2:=hid (h2.heap GRO.out.1 GR.out)
    have Rw:=hid h4
    have Qb:=hid (cW Rb.out h2 (by have:=LTb.out;omega))
    have Qs:=hid (cW Rs.out h2 (by have:=LTs.out;omega))
    clear AV GS GR GO Rb Rs
    have Rb:=Qb
    clear Qb
    have Rs:=Qs
    clear Qs
    have AV:=AV2
    have GS:=GS2
    have GR:=GR2
    have GO:=hid h3
    clear AV2 GS2 GR2 h1 h2 h3 h4
    go_upto_region 5 with fail
    go_cut []from 50 to 64 (fun V3=> ∃bt:Nat,V2.heap.size<=bt/\Abx V2 go 6 41 V3/\V3.heap[go]? =some (.cells #[.slice (some ⟨bb,0,none⟩) lb (lb+9),.slice (some ⟨bw,0,none⟩) lw (lw+9),.slice (some ⟨bt,0,none⟩) lt (lt+9),.slice (some ⟨bs,0,none⟩) ls (ls+9),.int .i64 sky,.int .i64 st] 41)/\V3.rowIs bt 2 (lt+9) (mkF lt (fun k=>.int .i64 (Tr k)) (.int .i64 77) (.int .i64 0)))
    case first=>
     obtain⟨i0,hi0,hi1⟩:=oY
     have IP:=hid (And.intro hi0 hi1)
     clear hi0 hi1
     have M1: ∀v:World,(Instr.makeSlice 39 (.int .i64 0) (.int .i64 (IntKind.i64.wrap ((lt:Int)+9)))).run prog v=.ok (.slice (some ⟨v.heap.size,0,none⟩) 0 (lt+9)) (v.alloc (.cells (madeCells #[.int .i64 0] (lt+9)) 2)):=fun v=>by rw[hU _ HL.out.2.2.1];exact pE lt HL.out.2.2.1 v
     have WR:Hid (IntKind.i64.wrap ((lt:Int)+9)=(lt:Int)+9):=hU _ HL.out.2.2.1
     have lb1:(lt:Int)<=65536:=by have:=HL.out;omega
     have AX0:Abx V2 go 6 41 V2:=(Ab.refl V2).x rfl GO.out
     have lb2:((lt:Nat):Int)<=((lt+9:Nat):Int):=by omega
     have lb3:(lt:Int)<=(lt:Int)+9:=by omega
     have lb4:(0:Int)<=(lt:Int):=by omega
     have AB0:=hid (Ab.refl V2)
     have GX:=hid (lt_of_block GO.out)
     have KS:Hid (∀w',Abx V2 go 6 41 w'->Abx V2 go 6 41 w'/\w'.cell? ⟨gs,2,none⟩=some (.slice pt lt ct)/\w'.frozen? ⟨go,2,none⟩=false/\w'.cell? ⟨go,2,none⟩=some (rv w' go 2)):=fun w' h=>⟨h,aA 2 (h.heap GSO.out GS.out),h.free 2,h.some (by decide)⟩
     have SR:Hid (∀v,Abx V2 go 6 41 v->Src prog 1 39 (.slice pt lt ct) lt ((List.range lt).map fun k=>Value.int .i64 (Tr k)) v):=fun v h=>src_in (Ht.out.below (h.ab AV.out GOW.out)) _
     go_region_held3 (fun w'=>Abx V2 go 6 41 w'/\w'.cell? ⟨gs,2,none⟩=some (.slice pt lt ct)/\w'.frozen? ⟨go,2,none⟩=false/\w'.cell? ⟨go,2,none⟩=some (rv w' go 2)) ((refine KS.out _ ?_;(with_reducible (repeat(first | assumption | apply Abx.drew | apply Abx.alloc | apply Abx.set)));done)) (first
      | (have r1:=R1.out;have q1:=HQ.out;refine aV (by rfl) _ _ 39 (by rfl) 2 i0 underlying39 IP.out.1 IP.out.2 _ lt (lt+9) _ (by rfl) r1 _ 1 _ (by rfl) (gK q1) (by omega) (lt+1) rfl ?_;intro w5 r5 x5;have AX5:=Abx.far AX4 x5 (by omega) GX.out;have AB5:=hid (Abx.ab x5 AB4.out (by omega));have R2:=hid r5;clear r5 x5;clear r1 q1)
      | (have r1:=R1.out;refine aV (by rfl) _ _ 39 (by rfl) 2 i0 underlying39 IP.out.1 IP.out.2 _ lt (lt+9) _ (by rfl) (r1.alloc _) _ 1 _ (by rfl) (gK (heap_alloc_new w4 _)) (by omega) (lt+1) rfl ?_;intro w5 r5 x5;have AX5:=Abx.far (AX4.alloc _) x5 (by omega) GX.out;have AB5:=hid (Abx.ab x5 (AB4.out.alloc _) (by omega));have R2:=hid r5;clear r5 x5;clear r1)
      | (refine aV (by rfl) _ _ 39 (by rfl) 2 i0 underlying39 IP.out.1 IP.out.2 (V2.heap.size+1) 0 (lt+9) (fun _=>.int .i64 0) (by rfl) (mL V2 (.int .i64 0) (lt+9) 2 (.cells #[.int .i64 77] 2)) (.slice pt lt ct) lt _ (by rfl) (SR.out _ ((AX0.drew.alloc (.cells #[.int .i64 77] 2)).alloc (.cells (madeCells #[.int .i64 0] (lt+9)) 2))) (by omega) lt (by omega) ?_;intro w4 r4 x4;have AX4:=Abx.far ((AX0.drew.alloc (.cells #[.int .i64 77] 2)).alloc (.cells (madeCells #[.int .i64 0] (lt+9)) 2)) x4 (by omega) GX.out;have AB4:=hid (Abx.ab x4 ((AB0.out.drew.alloc (.cells #[.int .i64 77] 2)).alloc (.cells (madeCells #[.int .i64 0] (lt+9)) 2)) (by omega));have R1:=hid r4;have HQ:=hid (bO x4 (mO V2 _ (.cells #[.int .i64 77] 2)) (by omega));clear r4 x4)
      | (refine aV (by rfl) _ _ 39 (by rfl) 2 i0 underlying39 IP.out.1 IP.out.2 V2.heap.size 0 (lt+9) (fun _=>.int .i64 0) (by rfl) (mK V2 (.int .i64 0) (lt+9) 2 (.cells #[.int .i64 77] 2)) (.slice pt lt ct) lt _ (by rfl) (SR.out _ ((AX0.drew.alloc (.cells (madeCells #[.int .i64 0] (lt+9)) 2)).alloc (.cells #[.int .i64 77] 2))) (by omega) lt (by omega) ?_;intro w4 r4 x4;have AX4:=Abx.far ((AX0.drew.alloc (.cells (madeCells #[.int .i64 0] (lt+9)) 2)).alloc (.cells #[.int .i64 77] 2)) x4 (by omega) GX.out;have AB4:=hid (Abx.ab x4 ((AB0.out.drew.alloc (.cells (madeCells #[.int .i64 0] (lt+9)) 2)).alloc (.cells #[.int .i64 77] 2)) (by omega));have R1:=hid r4;have HQ:=hid (bO x4 (mM V2 _ (.cells #[.int .i64 77] 2)) (by omega));clear r4 x4)
      | (refine aV (by rfl) _ _ 39 (by rfl) 2 i0 underlying39 IP.out.1 IP.out.2 V2.heap.size 0 (lt+9) (fun _=>.int .i64 0) (by rfl) (mJ V2 (.int .i64 0) (lt+9) 2) (.slice pt lt ct) lt _ (by rfl) (SR.out _ (AX0.drew.alloc (.cells (madeCells #[.int .i64 0] (lt+9)) 2))) (by omega) lt (by omega) ?_;intro w4 r4 x4;have AX4:=Abx.far (AX0.drew.alloc (.cells (madeCells #[.int .i64 0] (lt+9)) 2)) x4 (by omega) GX.out;have AB4:=hid (Abx.ab x4 (AB0.out.drew.alloc (.cells (madeCells #[.int .i64 0] (lt+9)) 2)) (by omega));have R1:=hid r4;clear r4 x4))
     all_goals
      go_wp2_with fail
      go_meet
      exact⟨_,by omega,AX5.set _ _,aI (AB5.out.heap GO.out),(R2.out.setOther (Ne.symm (Nat.ne_of_lt (Nat.lt_of_lt_of_le GX.out (by omega)))) _).congr (fun j _=>mG _ _ _ _ _)⟩
    case rest=>
     rename World=>V3
     obtain⟨bt,h1,h2,h3,h4⟩:=hcut
     have LTt:Hid (V2.heap.size<=bt/\bt<V3.heap.size/\go<V2.heap.size):=⟨h1,h4.lt,lt_of_block GO.out⟩
     have AV2:Hid (Ab w V3):=h2.ab AV.out GOW.out
     have GS2:=hid (h2.heap GSO.out GS.out)
     have GR2:=hid (h2.heap GRO.out.1 GR.out)
     have Rt:=hid h4
     have Qb:=hid (cW Rb.out h2 (by have:=LTb.out;omega))
     have Qs:=hid (cW Rs.out h2 (by have:=LTs.out;omega))
     have Qw:=hid (cW Rw.out h2 (by have:=LTw.out;omega))
     clear AV GS GR GO Rb Rs Rw
     have Rb:=Qb
     clear Qb
     have Rs:=Qs
     clear Qs
     have Rw:=Qw
     clear Qw
     have AV:=AV2
     have GS:=GS2
     have GR:=GR2
     have GO:=hid h3
     clear AV2 GS2 GR2 h1 h2 h3 h4
     have o0:=aA 0 GO.out
     have r0:=aA 0 GR.out
     have f0:=aC GR.out 0
     have o1:=aA 1 GO.out
     have r1:=aA 1 GR.out
     have f1:=aC GR.out 1
     have o2:=aA 2 GO.out
     have r2:=aA 2 GR.out
     have f2:=aC GR.out 2
     have o3:=aA 3 GO.out
     have r3:=aA 3 GR.out
     have f3:=aC GR.out 3
     have o4:=aA 4 GO.out
     have r4:=aA 4 GR.out
     have f4:=aC GR.out 4
     have o5:=aA 5 GO.out
     have r5:=aA 5 GR.out
     have f5:=aC GR.out 5
     have ROW:=hid (row6 (x:=.slice (some ⟨bb,0,none⟩) lb (lb+9)) (y:=.slice (some ⟨bw,0,none⟩) lw (lw+9)) (z:=.slice (some ⟨bt,0,none⟩) lt (lt+9)) (p:=.slice (some ⟨bs,0,none⟩) ls (ls+9)) (q:=.int .i64 sky) (r:=.int .i64 st) GR.out)
     go_wp2
     have LL:Hid (w.heap.size<=bb/\gr<bb/\bb<bs/\bs<bw/\bw<bt):=by
      have h1:=LTb.out
      have h2:=LTs.out
      have h3:=LTw.out
      have h4:=LTt.out
      have h5:=GRW.out
      exact⟨by omega,by omega,by omega,by omega,by omega⟩
     have NB:Hid (bb≠gr/\bw≠gr/\bt≠gr/\bs≠gr):=by
      have:=LL.out
      exact⟨by omega,by omega,by omega,by omega⟩
     refine bodyPost_ret ?_ rfl ⟨bb,bw,bt,bs,rfl,?_,?_,?_,?_,?_,?_⟩
     ·exact results_cell_row results17 _ _ gr _ _ (0,0) _ rfl ROW.out underlying41 rfl (by kernel_rfl)
     ·exact(((((AV.out.setk GRW.out.1 _).setk GRW.out.1 _).setk GRW.out.1 _).setk GRW.out.1 _).setk GRW.out.1 _).setk GRW.out.1 _
     ·exact(((((Rb.out.setOther NB.out.1 _).setOther NB.out.1 _).setOther NB.out.1 _).setOther NB.out.1 _).setOther NB.out.1 _).setOther NB.out.1 _
     ·exact(((((Rw.out.setOther NB.out.2.1 _).setOther NB.out.2.1 _).setOther NB.out.2.1 _).setOther NB.out.2.1 _).setOther NB.out.2.1 _).setOther NB.out.2.1 _
     ·exact(((((Rt.out.setOther NB.out.2.2.1 _).setOther NB.out.2.2.1 _).setOther NB.out.2.2.1 _).setOther NB.out.2.2.1 _).setOther NB.out.2.2.1 _).setOther NB.out.2.2.1 _
     ·exact(((((Rs.out.setOther NB.out.2.2.2 _).setOther NB.out.2.2.2 _).setOther NB.out.2.2.2 _).setOther NB.out.2.2.2 _).setOther NB.out.2.2.2 _).setOther NB.out.2.2.2 _
     ·have:=LL.out
      exact⟨by omega,by omega,by omega,by omega,by omega,by omega,by omega,by omega,by omega,by omega⟩
end
section
open Go.RowKit Tf Cu Go.Deep
attribute [local go_sem] aK aL aM aN aO aP aR aE
section
variable {n:Nat} {lim:Int} {B:Nat->Nat} {Wt:Nat->Int} {Sp:Nat->Nat} {dt:Nat} {pb pw ps:Option Addr} {w:World}
end
theorem mk_fl{w:World}{b L:Nat}{B:Nat->Nat}{m z:Value}(h:w.rowIs b 45 (L+9) (mkF L (fun k=>.float .f64 (B k)) m z))(hB: ∀k,k<L->B k<18446744073709551616):IsFl w (some ⟨b,0,none⟩) L B:=fun k hk=>⟨hB k hk,b,0,rfl,h.lt,by
 rw[Nat.zero_add,h.cell (show k<L+9 by omega)]
 unfold mkF
 rw[if_pos hk]⟩
theorem mk_in{w:World}{b L:Nat}{B:Nat->Int}{m z:Value}(h:w.rowIs b 2 (L+9) (mkF L (fun k=>.int .i64 (B k)) m z))(hB: ∀k,k<L-> -9223372036854775808<=B k/\B k<=9223372036854775807):IsIn w (some ⟨b,0,none⟩) L B:=fun k hk=>⟨hB k hk,b,0,rfl,h.lt,by
 rw[Nat.zero_add,h.cell (show k<L+9 by omega)]
 unfold mkF
 rw[if_pos hk]⟩
end
section
open Go.RowKit Tf Cu
attribute [local go_sem] aK aL aM aN aO aP aR aE
theorem qR(bb bw bt bs:Nat)(pb pw pt ps:Option Addr)(lb cb lw cw lt ct ls cs:Nat){B:Nat->Nat}{Wt Tr:Nat->Int}{Sp:Nat->Nat}(sky st:Int)(w:World)
  (Rb:Hid (w.rowIs bb 45 (lb+9) (mkF lb (fun k=>.float .f64 (B k)) (.float .f64 4635118810238550016) (.float .f64 0))))
  (Rw:Hid (w.rowIs bw 2 (lw+9) (mkF lw (fun k=>.int .i64 (Wt k)) (.int .i64 77) (.int .i64 0))))
  (Rt:Hid (w.rowIs bt 2 (lt+9) (mkF lt (fun k=>.int .i64 (Tr k)) (.int .i64 77) (.int .i64 0))))
  (Rs:Hid (w.rowIs bs 45 (ls+9) (mkF ls (fun k=>.float .f64 (Sp k)) (.float .f64 4635118810238550016) (.float .f64 0))))
  (hl:lb<=65536/\lw<=65536/\lt<=65536/\ls<=65536)
  (CB:Hid (∀v,Ab w v->Calls prog 42 #[.slice (some ⟨bb,0,none⟩) lb (lb+9),.slice pb lb cb] v fun e w'=>e=.returned (.bool true)/\Below v.heap.size v w'))
  (CS:Hid (∀v,Ab w v->Calls prog 42 #[.slice (some ⟨bs,0,none⟩) ls (ls+9),.slice ps ls cs] v fun e w'=>e=.returned (.bool true)/\Below v.heap.size v w'))
  (CW:Hid (∀v,Ab w v->Calls prog 43 #[.slice (some ⟨bw,0,none⟩) lw (lw+9),.slice pw lw cw] v fun e w'=>e=.returned (.bool true)/\Below v.heap.size v w'))
  (CT:Hid (∀v,Ab w v->Calls prog 43 #[.slice (some ⟨bt,0,none⟩) lt (lt+9),.slice pt lt ct] v fun e w'=>e=.returned (.bool true)/\Below v.heap.size v w')):
  Calls prog 18 #[.agg #[.slice (some ⟨bb,0,none⟩) lb (lb+9),.slice (some ⟨bw,0,none⟩) lw (lw+9),.slice (some ⟨bt,0,none⟩) lt (lt+9),.slice (some ⟨bs,0,none⟩) ls (ls+9),.int .i64 sky,.int .i64 st],.agg #[.slice pb lb cb,.slice pw lw cw,.slice pt lt ct,.slice ps ls cs,.int .i64 sky,.int .i64 st]] w fun e w'=>e=.returned (.bool true)/\Below w.heap.size w w':=by
 obtain⟨A0,RO,RD⟩:=qY w (.cells #[.slice (some ⟨bb,0,none⟩) lb (lb+9),.slice (some ⟨bw,0,none⟩) lw (lw+9),.slice (some ⟨bt,0,none⟩) lt (lt+9),.slice (some ⟨bs,0,none⟩) ls (ls+9),.int .i64 sky,.int .i64 st] 41) (.cells #[.slice pb lb cb,.slice pw lw cw,.slice pt lt ct,.slice ps ls cs,.int .i64 sky,.int .i64 st] 41)
 have HL:=hid hl
 clear hl
 go_enter func18,ntmps18
 go_upto_region 1 with fail
 generalize hW:World.alloc (World.alloc w _) _=W at*
 obtain⟨ga,hga⟩:=aB w.heap.size
 obtain⟨gs,hgs⟩:=aB (w.heap.size+1)
 rw[hga]at RO
 rw[hgs]at RD
 rw[hgs,hga]
 clear hgs hga hW
 have fe:feq 4635118810238550016 4635118810238550016=true:=by decide
 have lb1:IntKind.i64.wrap ((lb:Int)+1)=(lb:Int)+1:=by rw[IntKind.wrap_i64];have:=HL.out;omega
 have lb2:(lb:Int)+1<=(lb:Int)+9:=by omega
 have lb3:(lb:Int)<(lb:Int)+1:=by omega
 have lb4:(0:Int)<=(lb:Int)+1:=by omega
 have lb5:((lb:Int)+1).toNat=lb+1:=by omega
 have lb6:(lb:Int)<=65536:=by have:=HL.out;omega
 have lw1:IntKind.i64.wrap ((lw:Int)+1)=(lw:Int)+1:=by rw[IntKind.wrap_i64];have:=HL.out;omega
 have lw2:(lw:Int)+1<=(lw:Int)+9:=by omega
 have lw3:(lw:Int)<(lw:Int)+1:=by omega
 have lw4:(0:Int)<=(lw:Int)+1:=by omega
 have lw5:((lw:Int)+1).toNat=lw+1:=by omega
 have lw6:(lw:Int)<=65536:=by have:=HL.out;omega
 have lt1:IntKind.i64.wrap ((lt:Int)+1)=(lt:Int)+1:=by rw[IntKind.wrap_i64];have:=HL.out;omega
 have lt2:(lt:Int)+1<=(lt:Int)+9:=by omega
 have lt3:(lt:Int)<(lt:Int)+1:=by omega
 have lt4:(0:Int)<=(lt:Int)+1:=by omega
 have lt5:((lt:Int)+1).toNat=lt+1:=by omega
 have lt6:(lt:Int)<=65536:=by have:=HL.out;omega
 have ls1:IntKind.i64.wrap ((ls:Int)+1)=(ls:Int)+1:=by rw[IntKind.wrap_i64];have:=HL.out;omega
 have ls2:(ls:Int)+1<=(ls:Int)+9:=by omega
 have ls3:(ls:Int)<(ls:Int)+1:=by omega
 have ls4:(0:Int)<=(ls:Int)+1:=by omega
 have ls5:((ls:Int)+1).toNat=ls+1:=by omega
 have ls6:(ls:Int)<=65536:=by have:=HL.out;omega
 obtain⟨UU,E,hF1,hF2⟩:=cls W
 have HU:=hid hF2
 have HU1:=hid hF1
 have HX:Hid (∀u,Ab W (E u)):=fun u=>Ab.trans (Ab.refl W) (hF1 u)
 have a0: ∀u,(E u).cell? ⟨ga,0,none⟩=some (.slice (some ⟨bb,0,none⟩) lb (lb+9)):=fun u=>aA 0 ((hF1 u).heap RO.out)
 have a1: ∀u,(E u).cell? ⟨ga,1,none⟩=some (.slice (some ⟨bw,0,none⟩) lw (lw+9)):=fun u=>aA 1 ((hF1 u).heap RO.out)
 have a2: ∀u,(E u).cell? ⟨ga,2,none⟩=some (.slice (some ⟨bt,0,none⟩) lt (lt+9)):=fun u=>aA 2 ((hF1 u).heap RO.out)
 have a3: ∀u,(E u).cell? ⟨ga,3,none⟩=some (.slice (some ⟨bs,0,none⟩) ls (ls+9)):=fun u=>aA 3 ((hF1 u).heap RO.out)
 have a4: ∀u,(E u).cell? ⟨ga,4,none⟩=some (.int .i64 sky):=fun u=>aA 4 ((hF1 u).heap RO.out)
 have a5: ∀u,(E u).cell? ⟨ga,5,none⟩=some (.int .i64 st):=fun u=>aA 5 ((hF1 u).heap RO.out)
 have s0: ∀u,(E u).cell? ⟨gs,0,none⟩=some (.slice pb lb cb):=fun u=>aA 0 ((hF1 u).heap RD.out)
 have s1: ∀u,(E u).cell? ⟨gs,1,none⟩=some (.slice pw lw cw):=fun u=>aA 1 ((hF1 u).heap RD.out)
 have s2: ∀u,(E u).cell? ⟨gs,2,none⟩=some (.slice pt lt ct):=fun u=>aA 2 ((hF1 u).heap RD.out)
 have s3: ∀u,(E u).cell? ⟨gs,3,none⟩=some (.slice ps ls cs):=fun u=>aA 3 ((hF1 u).heap RD.out)
 have s4: ∀u,(E u).cell? ⟨gs,4,none⟩=some (.int .i64 sky):=fun u=>aA 4 ((hF1 u).heap RD.out)
 have s5: ∀u,(E u).cell? ⟨gs,5,none⟩=some (.int .i64 st):=fun u=>aA 5 ((hF1 u).heap RD.out)
 have mb: ∀u,(E u).cell? ⟨bb,lb,none⟩=some (.float .f64 4635118810238550016):=fun u=>((rowIs.ab Rb.out (A0.out.trans (hF1 u))).cell (show lb<lb+9 by omega)).trans (by unfold mkF;simp)
 have mw: ∀u,(E u).cell? ⟨bw,lw,none⟩=some (.int .i64 77):=fun u=>((rowIs.ab Rw.out (A0.out.trans (hF1 u))).cell (show lw<lw+9 by omega)).trans (by unfold mkF;simp)
 have mt: ∀u,(E u).cell? ⟨bt,lt,none⟩=some (.int .i64 77):=fun u=>((rowIs.ab Rt.out (A0.out.trans (hF1 u))).cell (show lt<lt+9 by omega)).trans (by unfold mkF;simp)
 have ms: ∀u,(E u).cell? ⟨bs,ls,none⟩=some (.float .f64 4635118810238550016):=fun u=>((rowIs.ab Rs.out (A0.out.trans (hF1 u))).cell (show ls<ls+9 by omega)).trans (by unfold mkF;simp)
 have DD0:=HU.out _ (Ab.refl W).drew
 clear hF1 hF2
 refine aJ E (by kernel_rfl) (by kernel_rfl) DD0 ?_
 repeat(go_big_quiet_step (first
  | (with_reducible rfl)
 ))
 refine wpQuiet_nil ?_
 intro z hwz
 obtain⟨u0,hu⟩:=hwz
 have AZ:Hid (Ab W z):=by rw[hu];exact HX.out u0
 clear hu u0
 clear HU HU1 HX DD0 a0 a1 a2 a3 a4 a5 s0 s1 s2 s3 s4 s5 mb mw mt ms
 clear E UU
 clear lb1 lb2 lb3 lb4 lb5 lb6 lw1 lw2 lw3 lw4 lw5 lw6 lt1 lt2 lt3 lt4 lt5 lt6 ls1 ls2 ls3 ls4 ls5 ls6 fe
 have a0:=aA 0 (AZ.out.heap RO.out)
 have s0:=aA 0 (AZ.out.heap RD.out)
 have a1:=aA 1 (AZ.out.heap RO.out)
 have s1:=aA 1 (AZ.out.heap RD.out)
 have a2:=aA 2 (AZ.out.heap RO.out)
 have s2:=aA 2 (AZ.out.heap RD.out)
 have a3:=aA 3 (AZ.out.heap RO.out)
 have s3:=aA 3 (AZ.out.heap RD.out)
 have a4:=aA 4 (AZ.out.heap RO.out)
 have s4:=aA 4 (AZ.out.heap RD.out)
 have a5:=aA 5 (AZ.out.heap RO.out)
 have s5:=aA 5 (AZ.out.heap RD.out)
 go_wp2_with fail
 refine(CB.out z (A0.out.trans AZ.out)).mono ?_
 rintro e9 y0 ⟨rfl,b0⟩
 have AZ0:Hid (Ab W y0):=AZ.out.trans b0
 clear b0 a0 s0 a1 s1 a2 s2 a3 s3 a4 s4 a5 s5
 have a0:=aA 0 (AZ0.out.heap RO.out)
 have s0:=aA 0 (AZ0.out.heap RD.out)
 have a1:=aA 1 (AZ0.out.heap RO.out)
 have s1:=aA 1 (AZ0.out.heap RD.out)
 have a2:=aA 2 (AZ0.out.heap RO.out)
 have s2:=aA 2 (AZ0.out.heap RD.out)
 have a3:=aA 3 (AZ0.out.heap RO.out)
 have s3:=aA 3 (AZ0.out.heap RD.out)
 have a4:=aA 4 (AZ0.out.heap RO.out)
 have s4:=aA 4 (AZ0.out.heap RD.out)
 have a5:=aA 5 (AZ0.out.heap RO.out)
 have s5:=aA 5 (AZ0.out.heap RD.out)
 go_wp2_with fail
 refine(CS.out y0 (A0.out.trans AZ0.out)).mono ?_
 rintro e9 y1 ⟨rfl,b1⟩
 have AZ1:Hid (Ab W y1):=AZ0.out.trans b1
 clear b1 a0 s0 a1 s1 a2 s2 a3 s3 a4 s4 a5 s5
 have a0:=aA 0 (AZ1.out.heap RO.out)
 have s0:=aA 0 (AZ1.out.heap RD.out)
 have a1:=aA 1 (AZ1.out.heap RO.out)
 have s1:=aA 1 (AZ1.out.heap RD.out)
 have a2:=aA 2 (AZ1.out.heap RO.out)
 have s2:=aA 2 (AZ1.out.heap RD.out)
 have a3:=aA 3 (AZ1.out.heap RO.out)
 have s3:=aA 3 (AZ1.out.heap RD.out)
 have a4:=aA 4 (AZ1.out.heap RO.out)
 have s4:=aA 4 (AZ1.out.heap RD.out)
 have a5:=aA 5 (AZ1.out.heap RO.out)
 have s5:=aA 5 (AZ1.out.heap RD.out)
 go_wp2_with fail
 refine(CW.out y1 (A0.out.trans AZ1.out)).mono ?_
 rintro e9 y2 ⟨rfl,b2⟩
 have AZ2:Hid (Ab W y2):=AZ1.out.trans b2
 clear b2 a0 s0 a1 s1 a2 s2 a3 s3 a4 s4 a5 s5
 have a0:=aA 0 (AZ2.out.heap RO.out)
 have s0:=aA 0 (AZ2.out.heap RD.out)
 have a1:=aA 1 (AZ2.out.heap RO.out)
 have s1:=aA 1 (AZ2.out.heap RD.out)
 have a2:=aA 2 (AZ2.out.heap RO.out)
 have s2:=aA 2 (AZ2.out.heap RD.out)
 have a3:=aA 3 (AZ2.out.heap RO.out)
 have s3:=aA 3 (AZ2.out.heap RD.out)
 have a4:=aA 4 (AZ2.out.heap RO.out)
 have s4:=aA 4 (AZ2.out.heap RD.out)
 have a5:=aA 5 (AZ2.out.heap RO.out)
 have s5:=aA 5 (AZ2.out.heap RD.out)
 go_wp2_with fail
 refine(CT.out y2 (A0.out.trans AZ2.out)).mono ?_
 rintro e9 y3 ⟨rfl,b3⟩
 have AZ3:Hid (Ab W y3):=AZ2.out.trans b3
 clear b3 a0 s0 a1 s1 a2 s2 a3 s3 a4 s4 a5 s5
 have a0:=aA 0 (AZ3.out.heap RO.out)
 have s0:=aA 0 (AZ3.out.heap RD.out)
 have a1:=aA 1 (AZ3.out.heap RO.out)
 have s1:=aA 1 (AZ3.out.heap RD.out)
 have a2:=aA 2 (AZ3.out.heap RO.out)
 have s2:=aA 2 (AZ3.out.heap RD.out)
 have a3:=aA 3 (AZ3.out.heap RO.out)
 have s3:=aA 3 (AZ3.out.heap RD.out)
 have a4:=aA 4 (AZ3.out.heap RO.out)
 have s4:=aA 4 (AZ3.out.heap RD.out)
 have a5:=aA 5 (AZ3.out.heap RO.out)
 have s5:=aA 5 (AZ3.out.heap RD.out)
 have k1:((sky:Int)==sky)=true:=by simp
 have k2:((st:Int)==st)=true:=by simp
 go_wp2
 go_ret
 exact⟨rfl,A0.out.trans AZ3.out⟩
theorem jV(bb bw bt bs:Nat)(pb pw pt ps:Option Addr)(lb cb lw cw lt ct ls cs:Nat){B:Nat->Nat}{Wt Tr:Nat->Int}{Sp:Nat->Nat}(sky st:Int)(w:World)(Rb:w.rowIs bb 45 (lb+9) (mkF lb (fun k=>.float .f64 (B k)) (.float .f64 4635118810238550016) (.float .f64 0)))(Rw:w.rowIs bw 2 (lw+9) (mkF lw (fun k=>.int .i64 (Wt k)) (.int .i64 77) (.int .i64 0)))(Rt:w.rowIs bt 2 (lt+9) (mkF lt (fun k=>.int .i64 (Tr k)) (.int .i64 77) (.int .i64 0)))(Rs:w.rowIs bs 45 (ls+9) (mkF ls (fun k=>.float .f64 (Sp k)) (.float .f64 4635118810238550016) (.float .f64 0)))(hl:lb<=65536/\lw<=65536/\lt<=65536/\ls<=65536)(HB:IsFl w pb lb B)(HW:IsIn w pw lw Wt)(HT:IsIn w pt lt Tr)(HS:IsFl w ps ls Sp):
  Calls prog 18 #[.agg #[.slice (some ⟨bb,0,none⟩) lb (lb+9),.slice (some ⟨bw,0,none⟩) lw (lw+9),.slice (some ⟨bt,0,none⟩) lt (lt+9),.slice (some ⟨bs,0,none⟩) ls (ls+9),.int .i64 sky,.int .i64 st],.agg #[.slice pb lb cb,.slice pw lw cw,.slice pt lt ct,.slice ps ls cs,.int .i64 sky,.int .i64 st]] w fun e w'=>e=.returned (.bool true)/\Below w.heap.size w w':=by
 have IB:=mk_fl Rb (fun k hk=>(HB k hk).1)
 have IW:=mk_in Rw (fun k hk=>(HW k hk).1)
 have IT:=mk_in Rt (fun k hk=>(HT k hk).1)
 have IS:=mk_fl Rs (fun k hk=>(HS k hk).1)
 exact qR bb bw bt bs pb pw pt ps lb cb lw cw lt ct ls cs sky st w Rb Rw Rt Rs hl
  (fun v a=>gF _ _ _ _ _ B v (by omega) (IB.below a) (HB.below a)) (fun v a=>gF _ _ _ _ _ Sp v (by omega) (IS.below a) (HS.below a))
  (fun v a=>fD _ _ _ _ _ Wt v (by omega) (IW.below a) (HW.below a)) (fun v a=>fD _ _ _ _ _ Tr v (by omega) (IT.below a) (HT.below a))
end
end Go.Proofs.YtjheiemgfibgpaaDoor
