/-
  Some of the texts of this proof, one behind the other.
-/
import Derived.ProofKit
import Derived.OpenShut
import Derived.WalkLawsBesides
import Derived.Stop.Joined
import Derived.Carry
import Derived.Lib.SmallJoins
import Derived.Deep.SlicePairs
import Derived.Deep.Slices
import Derived.Test.YtaphajlpbgcfjaaGreatDoorTa17
set_option maxRecDepth 100000
set_option maxHeartbeats 400000000
namespace Go.Proofs.YtaphajlpbgcfjaaGreatDoor
open _root_.Go.Proofs.Tryz
section
open Go.RowKit Tf Cu Go.Deep
attribute [local go_sem] aL aM aV aW aX aY aZ aG
namespace Ss
theorem pD{t:TypeId}{B n:Nat}{v:Value}{l:List Value}{w:World}(h:w.ownsRow B t 1 v n l)(h0:0<n): ∃g cap F,v=.slice (some ⟨g,0,none⟩) n cap/\B<=g/\n<=cap/\cap<=maxLen/\w.rowIs g t cap F:=by
 rcases h.2 with⟨rfl,hz⟩ | ⟨g,cap,cur,e,hb,hg,h1,h2,h3,h4⟩
 ·omega
 ·refine⟨g,cap,fun i=>(cur[i]?).getD (.bool false),e,hb,by omega,h2,⟨cur,hg,by omega,fun i hi=> ?_⟩⟩
  have:i<cur.size:=by omega
  simp[this]
theorem Cd{t:TypeId}{B g cap n:Nat}{F G:Nat->Value}{w:World}(h:w.rowIs g t cap F)(hB:B<=g)(hn:n<=cap)(hc:cap<=maxLen)(hF: ∀i,i<n->F i=G i):w.ownsRow B t 1 (.slice (some ⟨g,0,none⟩) n cap) n ((List.range n).map G):=by
 obtain⟨c,hb,hs,hf⟩:=h
 refine⟨by simp,.inr ⟨g,cap,c,rfl,hB,hb,by omega,hc,by omega,?_⟩⟩
 apply List.ext_getElem?
 intro i
 rw[List.getElem?_take]
 by_cases hi:i<n
 ·have e:=hf i (by omega)
  rw[hF i hi]at e
  rw[if_pos (by omega)]
  rw[<- Array.getElem?_toList]at e
  rw[e]
  simp[hi]
 ·rw[if_neg (by omega),List.getElem?_eq_none (by simp;omega)]
theorem xH{B g cap n:Nat}{F:Nat->Value}{f:Nat->Nat}{w:World}(h:w.rowIs g 22 cap F)(hB:B<=g)(hn:n<=cap)(hc:cap<=maxLen)(hF: ∀i,i<n->F i=.float .f64 (f i)):OwnG B (.slice (some ⟨g,0,none⟩) n cap) ((List.range n).map f) w:=by
 have q:=Cd (G:=fun i=>.float .f64 (f i)) h hB hn hc hF
 unfold OwnG
 simpa [Function.comp_def]using q
theorem xI{B g cap n:Nat}{F:Nat->Value}{f:Nat->Int}{w:World}(h:w.rowIs g 2 cap F)(hB:B<=g)(hn:n<=cap)(hc:cap<=maxLen)(hF: ∀i,i<n->F i=.int .i64 (f i)):Sh.Own B (.slice (some ⟨g,0,none⟩) n cap) ((List.range n).map f) w:=by
 have q:=Cd (G:=fun i=>.int .i64 (f i)) h hB hn hc hF
 unfold Sh.Own
 simpa [Function.comp_def]using q
theorem zU{w:World}{g g':Nat}{t t':TypeId}{n n':Nat}{F F':Nat->Value}(h:w.rowIs g t n F)(h':w.rowIs g' t' n' F')(ht:t≠t'):g≠g':=by
 intro e
 subst e
 obtain⟨c,h1,-⟩:=h
 obtain⟨c',h1',-⟩:=h'
 rw[h1]at h1'
 injection h1' with q
 injection q with q1 q2
 exact ht q2
theorem own_sea4{M0:Nat}{v:Value}{N M:Nat}{B:Nat->Nat}{W T:Nat->Int}{S:Nat->Nat}{sky st:Int}{w:World}(h:OwnS M0 v N N N M B W T S sky st w)(hN:0<N)(hM:0<M):
  ∃b1 c1 F1 b2 c2 F2 b3 c3 F3 b4 c4 F4,v=.agg #[.slice (some ⟨b1,0,none⟩) N c1,.slice (some ⟨b2,0,none⟩) N c2,.slice (some ⟨b3,0,none⟩) N c3,.slice (some ⟨b4,0,none⟩) M c4,.int .i64 sky,.int .i64 st]/\(w.rowIs b1 22 c1 F1/\w.rowIs b2 2 c2 F2/\w.rowIs b3 2 c3 F3/\w.rowIs b4 22 c4 F4)/\(M0<=b1/\M0<=b2/\M0<=b3/\M0<=b4)/\((N<=c1/\N<=c2/\N<=c3/\M<=c4)/\c1<=maxLen/\c2<=maxLen/\c3<=maxLen/\c4<=maxLen)/\(b1≠b2/\b1≠b3/\b1≠b4/\b2≠b3/\b2≠b4/\b3≠b4):=by
 obtain⟨v1,v2,v3,v4,rfl,o1,o2,o3,o4,d14,d23⟩:=h
 unfold OwnG at o1 o4
 unfold Sh.Own at o2 o3
 rw[List.length_map,List.length_range]at o1 o2 o3 o4
 obtain⟨b1,c1,F1,rfl,l1,k1,m1,r1⟩:=pD o1 hN
 obtain⟨b2,c2,F2,rfl,l2,k2,m2,r2⟩:=pD o2 hN
 obtain⟨b3,c3,F3,rfl,l3,k3,m3,r3⟩:=pD o3 hN
 obtain⟨b4,c4,F4,rfl,l4,k4,m4,r4⟩:=pD o4 hM
 exact⟨b1,c1,F1,b2,c2,F2,b3,c3,F3,b4,c4,F4,rfl,⟨r1,r2,r3,r4⟩,⟨l1,l2,l3,l4⟩,⟨⟨k1,k2,k3,k4⟩,m1,m2,m3,m4⟩,zU r1 r2 (by decide),zU r1 r3 (by decide),fun e=>d14 b1 rfl (by rw[e];rfl),fun e=>d23 b2 rfl (by rw[e];rfl),zU r2 r4 (by decide),zU r3 r4 (by decide)⟩
def Aw(V:World)(b1 c1 b2 c2 b3 c3:Nat)(w:World):Prop:=((∃F,w.rowIs b1 22 c1 F)/\(∃F,w.rowIs b2 2 c2 F)/\ ∃F,w.rowIs b3 2 c3 F)/\(b1≠b2/\b1≠b3/\b2≠b3)/\ ∀k,k≠b1->k≠b2->k≠b3->w.heap[k]? =V.heap[k]?
theorem Aw.drew{V w:World}{b1 c1 b2 c2 b3 c3:Nat}(h:Aw V b1 c1 b2 c2 b3 c3 w):Aw V b1 c1 b2 c2 b3 c3 w.drew:=h
theorem Aw.set1{V w:World}{b1 c1 b2 c2 b3 c3:Nat}(h:Aw V b1 c1 b2 c2 b3 c3 w)(k:Nat)(v:Value):Aw V b1 c1 b2 c2 b3 c3 (w.setCell ⟨b1,k,none⟩ v):=by
 obtain⟨⟨⟨F1,h1⟩,⟨F2,h2⟩,F3,h3⟩,⟨n1,n2,n3⟩,h4⟩:=h
 exact⟨⟨⟨_,h1.set k v⟩,⟨_,h2.setOther (a:=⟨b1,k,none⟩) (Ne.symm n1) v⟩,_,h3.setOther (a:=⟨b1,k,none⟩) (Ne.symm n2) v⟩,⟨n1,n2,n3⟩,fun j q1 q2 q3=>(aO q1).trans (h4 j q1 q2 q3)⟩
theorem Aw.set2{V w:World}{b1 c1 b2 c2 b3 c3:Nat}(h:Aw V b1 c1 b2 c2 b3 c3 w)(k:Nat)(v:Value):Aw V b1 c1 b2 c2 b3 c3 (w.setCell ⟨b2,k,none⟩ v):=by
 obtain⟨⟨⟨F1,h1⟩,⟨F2,h2⟩,F3,h3⟩,⟨n1,n2,n3⟩,h4⟩:=h
 exact⟨⟨⟨_,h1.setOther (a:=⟨b2,k,none⟩) n1 v⟩,⟨_,h2.set k v⟩,_,h3.setOther (a:=⟨b2,k,none⟩) (Ne.symm n3) v⟩,⟨n1,n2,n3⟩,fun j q1 q2 q3=>(aO q2).trans (h4 j q1 q2 q3)⟩
theorem Aw.set3{V w:World}{b1 c1 b2 c2 b3 c3:Nat}(h:Aw V b1 c1 b2 c2 b3 c3 w)(k:Nat)(v:Value):Aw V b1 c1 b2 c2 b3 c3 (w.setCell ⟨b3,k,none⟩ v):=by
 obtain⟨⟨⟨F1,h1⟩,⟨F2,h2⟩,F3,h3⟩,⟨n1,n2,n3⟩,h4⟩:=h
 exact⟨⟨⟨_,h1.setOther (a:=⟨b3,k,none⟩) n2 v⟩,⟨_,h2.setOther (a:=⟨b3,k,none⟩) n3 v⟩,_,h3.set k v⟩,⟨n1,n2,n3⟩,fun j q1 q2 q3=>(aO q3).trans (h4 j q1 q2 q3)⟩
theorem Eu{w:World}{g:Nat}{t:TypeId}{n k:Nat}{F:Nat->Value}(h:w.rowIs g t n F)(hk:k<n):w.cell? ⟨g,k,none⟩=some (rv w g k):=by
 unfold rv
 rw[h.cell hk]
 rfl
theorem Ev(side:Int)(pb:Option Addr)(lb cb:Nat)(pw:Option Addr)(lw cw:Nat)(pt:Option Addr)(lt ct:Nat)(ps:Option Addr)(ls cs:Nat)(sky st:Int)(turn ca ce:Int)(w:World)(hc:(ce != 0)=true)
  (CK:Hid (∀v,Ab w v->Calls prog 12 #[.int .i64 side,.agg #[.slice pb lb cb,.slice pw lw cw,.slice pt lt ct,.slice ps ls cs,.int .i64 sky,.int .i64 st]] v fun e w'=>e=.returned (.tuple #[.int .i64 ca,.int .i64 ce])/\Below v.heap.size v w')):
  Calls prog 30 #[.int .i64 side,.agg #[.slice pb lb cb,.slice pw lw cw,.slice pt lt ct,.slice ps ls cs,.int .i64 sky,.int .i64 st],.int .i64 turn] w fun e w'=>e=.returned (.tuple #[.agg #[.slice none 0 0,.slice none 0 0,.slice none 0 0,.slice none 0 0,.int .i64 0,.int .i64 0],.int .i64 ce])/\Below w.heap.size w w':=by
 obtain⟨A0,R0,Q0⟩:=bT w (.cells #[.slice pb lb cb,.slice pw lw cw,.slice pt lt ct,.slice ps ls cs,.int .i64 sky,.int .i64 st] 29) (.cells #[.slice none 0 0,.slice none 0 0,.slice none 0 0,.slice none 0 0,.int .i64 0,.int .i64 0] 29)
 go_enter func30,ntmps30
 go_upto_region 1 with fail
 generalize hW:World.alloc (World.alloc w _) _=V0 at*
 obtain⟨ga,hga⟩:=aD w.heap.size
 obtain⟨gr,hgr⟩:=aD (w.heap.size+1)
 have HG:Hid (w.heap.size<=gr):=by show _<=_;omega
 rw[hgr]at Q0 ⊢
 rw[hga]at R0 ⊢
 clear hga hgr hW
 have x0:=aF R0.out
 go_wp2_with fail
 refine(CK.out _ A0.out).mono ?_
 rintro e9 v1 ⟨rfl,b1⟩
 have B1:Hid (Ab V0 v1):=b1
 have A1:Hid (Ab w v1):=A0.out.trans b1
 have R1:=hid (Ab.heap b1 R0.out)
 have Q1:=hid (Ab.heap b1 Q0.out)
 clear b1 x0
 have t0:=aF Q1.out
 have f0:=eB Q1.out
 go_wp2_with fail
 refine bodyPost_ret (v:=.tuple #[.agg #[.slice none 0 0,.slice none 0 0,.slice none 0 0,.slice none 0 0,.int .i64 0,.int .i64 0],.int .i64 ce]) ?_ rfl ?_
 ·exact cS results30 _ _ gr _ _ (0,0) _ _ rfl rfl (qD Q1.out) underlying29 rfl (by kernel_rfl)
 ·exact⟨rfl,(((((A1.out.setk HG.out _).setk HG.out _).setk HG.out _).setk HG.out _).setk HG.out _).setk HG.out _⟩
theorem Ew(side:Int)(pb:Option Addr)(lb cb:Nat)(pw:Option Addr)(lw cw:Nat)(pt:Option Addr)(lt ct:Nat)(ps:Option Addr)(ls cs:Nat)(sky st:Int)(turn ca:Int)(w:World)(ht: ¬(0<=turn/\turn<=23))
  (CK:Hid (∀v,Ab w v->Calls prog 12 #[.int .i64 side,.agg #[.slice pb lb cb,.slice pw lw cw,.slice pt lt ct,.slice ps ls cs,.int .i64 sky,.int .i64 st]] v fun e w'=>e=.returned (.tuple #[.int .i64 ca,.int .i64 0])/\Below v.heap.size v w')):
  Calls prog 30 #[.int .i64 side,.agg #[.slice pb lb cb,.slice pw lw cw,.slice pt lt ct,.slice ps ls cs,.int .i64 sky,.int .i64 st],.int .i64 turn] w fun e w'=>e=.returned (.tuple #[.agg #[.slice none 0 0,.slice none 0 0,.slice none 0 0,.slice none 0 0,.int .i64 0,.int .i64 0],.int .i64 1])/\Below w.heap.size w w':=by
 by_cases h:turn<0
 ·have d1:decide (turn<0)=true:=decide_eq_true h
  clear ht h
  obtain⟨A0,R0,Q0⟩:=bT w (.cells #[.slice pb lb cb,.slice pw lw cw,.slice pt lt ct,.slice ps ls cs,.int .i64 sky,.int .i64 st] 29) (.cells #[.slice none 0 0,.slice none 0 0,.slice none 0 0,.slice none 0 0,.int .i64 0,.int .i64 0] 29)
  go_enter func30,ntmps30
  go_upto_region 1 with fail
  generalize hW:World.alloc (World.alloc w _) _=V0 at*
  obtain⟨ga,hga⟩:=aD w.heap.size
  obtain⟨gr,hgr⟩:=aD (w.heap.size+1)
  have HG:Hid (w.heap.size<=gr):=by show _<=_;omega
  rw[hgr]at Q0 ⊢
  rw[hga]at R0 ⊢
  clear hga hgr hW
  have x0:=aF R0.out
  go_wp2_with fail
  refine(CK.out _ A0.out).mono ?_
  rintro e9 v1 ⟨rfl,b1⟩
  have B1:Hid (Ab V0 v1):=b1
  have A1:Hid (Ab w v1):=A0.out.trans b1
  have R1:=hid (Ab.heap b1 R0.out)
  have Q1:=hid (Ab.heap b1 Q0.out)
  clear b1 x0
  have t0:=aF Q1.out
  have f0:=eB Q1.out
  go_wp2_with fail
  refine bodyPost_ret (v:=.tuple #[.agg #[.slice none 0 0,.slice none 0 0,.slice none 0 0,.slice none 0 0,.int .i64 0,.int .i64 0],.int .i64 1]) ?_ rfl ?_
  ·exact cS results30 _ _ gr _ _ (0,0) _ _ rfl rfl (qD Q1.out) underlying29 rfl (by kernel_rfl)
  ·exact⟨rfl,(((((A1.out.setk HG.out _).setk HG.out _).setk HG.out _).setk HG.out _).setk HG.out _).setk HG.out _⟩
 ·have d1:decide (turn<0)=false:=decide_eq_false h
  have d2:decide (24<=turn)=true:=decide_eq_true (by omega)
  clear ht h
  obtain⟨A0,R0,Q0⟩:=bT w (.cells #[.slice pb lb cb,.slice pw lw cw,.slice pt lt ct,.slice ps ls cs,.int .i64 sky,.int .i64 st] 29) (.cells #[.slice none 0 0,.slice none 0 0,.slice none 0 0,.slice none 0 0,.int .i64 0,.int .i64 0] 29)
  go_enter func30,ntmps30
  go_upto_region 1 with fail
  generalize hW:World.alloc (World.alloc w _) _=V0 at*
  obtain⟨ga,hga⟩:=aD w.heap.size
  obtain⟨gr,hgr⟩:=aD (w.heap.size+1)
  have HG:Hid (w.heap.size<=gr):=by show _<=_;omega
  rw[hgr]at Q0 ⊢
  rw[hga]at R0 ⊢
  clear hga hgr hW
  have x0:=aF R0.out
  go_wp2_with fail
  refine(CK.out _ A0.out).mono ?_
  rintro e9 v1 ⟨rfl,b1⟩
  have B1:Hid (Ab V0 v1):=b1
  have A1:Hid (Ab w v1):=A0.out.trans b1
  have R1:=hid (Ab.heap b1 R0.out)
  have Q1:=hid (Ab.heap b1 Q0.out)
  clear b1 x0
  have t0:=aF Q1.out
  have f0:=eB Q1.out
  go_wp2_with fail
  refine bodyPost_ret (v:=.tuple #[.agg #[.slice none 0 0,.slice none 0 0,.slice none 0 0,.slice none 0 0,.int .i64 0,.int .i64 0],.int .i64 1]) ?_ rfl ?_
  ·exact cS results30 _ _ gr _ _ (0,0) _ _ rfl rfl (qD Q1.out) underlying29 rfl (by kernel_rfl)
  ·exact⟨rfl,(((((A1.out.setk HG.out _).setk HG.out _).setk HG.out _).setk HG.out _).setk HG.out _).setk HG.out _⟩
theorem IP(n N M:Nat)(qb ob cb qw ow cw qt ot ct qs os cs:Nat)(B:Nat->Nat)(W T:Nat->Int)(S:Nat->Nat)(sky st:Int)(r:Nat)(ca:Int)(tc tq at_:Nat->Nat)(sg:Nat->Int)(B':Nat->Nat)(W' T':Nat->Int)(S':Nat->Nat)(w:World)(hN:0<N/\N<=6144)(hM:0<M/\M<=12288)(hr:(r:Int)<=23)
  (CK:Hid (∀v,Ab w v->Calls prog 12 #[.int .i64 (n:Nat),.agg #[.slice (some ⟨qb,ob,none⟩) N cb,.slice (some ⟨qw,ow,none⟩) N cw,.slice (some ⟨qt,ot,none⟩) N ct,.slice (some ⟨qs,os,none⟩) M cs,.int .i64 sky,.int .i64 st]] v fun e w'=>e=.returned (.tuple #[.int .i64 ca,.int .i64 0])/\Below v.heap.size v w'))
  (NW:Hid (∀v,Ab w v->Calls prog 13 #[.int .i64 (n:Nat)] v fun e w'=> ∃rb,e=.returned (.tuple #[.pointer (some ⟨rb,0,none⟩),.int .i64 0])/\Below v.heap.size v w'/\GridOf n rb w'))
  (CP:Hid (∀v,Ab w v->Calls prog 95 #[.agg #[.slice (some ⟨qb,ob,none⟩) N cb,.slice (some ⟨qw,ow,none⟩) N cw,.slice (some ⟨qt,ot,none⟩) N ct,.slice (some ⟨qs,os,none⟩) M cs,.int .i64 sky,.int .i64 st]] v fun e w'=> ∃x,e=.returned x/\Below v.heap.size v w'/\OwnS v.heap.size x N N N M B W T S sky st w'))
  (TN:Hid (∀v (c:Nat),Ab w v->c<N->Calls prog 96 #[.int .i64 (n:Nat),.int .i64 (r:Nat),.int .i64 (c:Nat)] v fun e w'=>e=.returned (.tuple #[.int .i64 (tc c:Nat),.int .i64 (tq c:Nat)])/\Below v.heap.size v w'))
  (ED:Hid (∀v rb (i:Nat),Ab w v->GridOf n rb v->i<M->Calls prog 97 #[.pointer (some ⟨rb,0,none⟩),.int .i64 (r:Nat),.int .i64 (i:Nat)] v fun e w'=>e=.returned (.tuple #[.int .i64 (at_ i:Nat),.int .i64 (sg i)])/\Below v.heap.size v w'))
  (TL:Hid (∀c,c<N->tc c<N)) (TI:Hid (∀c d,c<N->d<N->tc c=tc d->c=d))
  (EL:Hid (∀i,i<M->at_ i<M)) (EI:Hid (∀i j,i<M->j<M->at_ i=at_ j->i=j))
  (TB:Hid (∀i,i<N-> ∃c,c<N/\tc c=i/\B' i=B c/\W' i=W c/\T' i=T c))
  (TS:Hid (∀e,e<M-> ∃i,i<M/\at_ i=e/\S' e=if sg i<0 then ngC (S i)else S i))
  (IB:Hid (IsFl w (some ⟨qb,ob,none⟩) N B)) (IW:Hid (Sh.IsI w (some ⟨qw,ow,none⟩) N W)) (IT:Hid (Sh.IsI w (some ⟨qt,ot,none⟩) N T)) (IS:Hid (IsFl w (some ⟨qs,os,none⟩) M S)):
  Calls prog 30 #[.int .i64 (n:Nat),.agg #[.slice (some ⟨qb,ob,none⟩) N cb,.slice (some ⟨qw,ow,none⟩) N cw,.slice (some ⟨qt,ot,none⟩) N ct,.slice (some ⟨qs,os,none⟩) M cs,.int .i64 sky,.int .i64 st],.int .i64 (r:Nat)] w fun e w'=> ∃v,e=.returned (.tuple #[v,.int .i64 0])/\Below w.heap.size w w'/\OwnS w.heap.size v N N N M B' W' T' S' sky st w':=by
 have d1:decide ((r:Int)<0)=false:=decide_eq_false (by omega)
 have d2:decide (24<=(r:Int))=false:=decide_eq_false (by omega)
 have d3:decide (24<=r)=false:=decide_eq_false (by omega)
 have HN:=hid (And.intro hN hM)
 clear hN hM hr
 obtain⟨A0,R0,Q0⟩:=bT w (.cells #[.slice (some ⟨qb,ob,none⟩) N cb,.slice (some ⟨qw,ow,none⟩) N cw,.slice (some ⟨qt,ot,none⟩) N ct,.slice (some ⟨qs,os,none⟩) M cs,.int .i64 sky,.int .i64 st] 29) (.cells #[.slice none 0 0,.slice none 0 0,.slice none 0 0,.slice none 0 0,.int .i64 0,.int .i64 0] 29)
 go_enter func30,ntmps30
 go_upto_region 1 with fail
 generalize hW:World.alloc (World.alloc w _) _=V0 at*
 obtain⟨ga,hga⟩:=aD w.heap.size
 obtain⟨gr,hgr⟩:=aD (w.heap.size+1)
 have HG:Hid (w.heap.size<=gr):=by show _<=_;omega
 rw[hgr]at Q0 ⊢
 rw[hga]at R0 ⊢
 clear hga hgr hW
 obtain⟨x0,x1,x2,x3,x4,x5⟩:=aF R0.out
 go_wp2_with fail
 refine(CK.out _ A0.out).mono ?_
 rintro e9 v1 ⟨rfl,b1⟩
 have B1:Hid (Ab V0 v1):=b1
 have A1:Hid (Ab w v1):=A0.out.trans b1
 have R1:=hid (Ab.heap b1 R0.out)
 have Q1:=hid (Ab.heap b1 Q0.out)
 clear b1 x0 x1 x2 x3 x4 x5
 go_wp2_with fail
 refine(NW.out _ A1.out).mono ?_
 rintro e9 v2 ⟨rb,rfl,b2,g2⟩
 have B2:Hid (Ab V0 v2):=B1.out.trans b2
 have A2:Hid (Ab w v2):=A1.out.trans b2
 have R2:=hid (Ab.heap b2 R1.out)
 have Q2:=hid (Ab.heap b2 Q1.out)
 have G2:=hid g2
 clear b2 g2 R1 Q1 A1 B1 CK NW
 obtain⟨x0,x1,x2,x3,x4,x5⟩:=aF R2.out
 go_wp2_with fail
 refine(CP.out _ A2.out).mono ?_
 rintro e9 v3 ⟨xv,rfl,b3',ow3⟩
 obtain⟨b1,c1,F1,b2,c2,F2,b3,c3,F3,b4,c4,F4,rfl,⟨r1,r2,r3,r4⟩,hl,hc,hne⟩:=own_sea4 ow3 HN.out.1.1 HN.out.2.1
 have A3:Hid (Ab v2 v3):=b3'
 have N1:=hid r1
 have N2:=hid r2
 have N3:=hid r3
 have N4:=hid r4
 have LL:=hid hl
 have LC:=hid hc
 have NN:=hid hne
 have GL:Hid (b1<v3.heap.size/\b2<v3.heap.size/\b3<v3.heap.size/\b4<v3.heap.size):=⟨r1.lt,r2.lt,r3.lt,r4.lt⟩
 clear b3' ow3 r1 r2 r3 r4 hl hc hne CP x0 x1 x2 x3 x4 x5
 go_upto_region 8 with fail
 have H54:=hid (heap_alloc_new v3 (.cells #[.slice (some ⟨b1,0,none⟩) N c1,.slice (some ⟨b2,0,none⟩) N c2,.slice (some ⟨b3,0,none⟩) N c3,.slice (some ⟨b4,0,none⟩) M c4,.int .i64 sky,.int .i64 st] 29))
 have A4:Hid (Ab v2 (v3.alloc (.cells #[.slice (some ⟨b1,0,none⟩) N c1,.slice (some ⟨b2,0,none⟩) N c2,.slice (some ⟨b3,0,none⟩) N c3,.slice (some ⟨b4,0,none⟩) M c4,.int .i64 sky,.int .i64 st] 29))):=A3.out.trans (bl1 _ _)
 have P14:=hid (rowIs.ab N1.out (bl1 v3 (.cells #[.slice (some ⟨b1,0,none⟩) N c1,.slice (some ⟨b2,0,none⟩) N c2,.slice (some ⟨b3,0,none⟩) N c3,.slice (some ⟨b4,0,none⟩) M c4,.int .i64 sky,.int .i64 st] 29)))
 have P24:=hid (rowIs.ab N2.out (bl1 v3 (.cells #[.slice (some ⟨b1,0,none⟩) N c1,.slice (some ⟨b2,0,none⟩) N c2,.slice (some ⟨b3,0,none⟩) N c3,.slice (some ⟨b4,0,none⟩) M c4,.int .i64 sky,.int .i64 st] 29)))
 have P34:=hid (rowIs.ab N3.out (bl1 v3 (.cells #[.slice (some ⟨b1,0,none⟩) N c1,.slice (some ⟨b2,0,none⟩) N c2,.slice (some ⟨b3,0,none⟩) N c3,.slice (some ⟨b4,0,none⟩) M c4,.int .i64 sky,.int .i64 st] 29)))
 have P44:=hid (rowIs.ab N4.out (bl1 v3 (.cells #[.slice (some ⟨b1,0,none⟩) N c1,.slice (some ⟨b2,0,none⟩) N c2,.slice (some ⟨b3,0,none⟩) N c3,.slice (some ⟨b4,0,none⟩) M c4,.int .i64 sky,.int .i64 st] 29)))
 generalize hW:World.alloc v3 _=V4 at*
 obtain⟨g5,hg5⟩:=aD v3.heap.size
 have L5:Hid (v2.heap.size<=g5):=by show _<=_;rw[<- hg5];exact A3.out.size
 rw[hg5]at H54 GL ⊢
 have NG:Hid (b1≠g5/\b2≠g5/\b3≠g5/\b4≠g5):=by show _/\_;have:=GL.out;omega
 clear hg5 hW N1 N2 N3 N4 A3 GL
 obtain⟨x0,x1,x2,x3,x4,x5⟩:=aF (A4.out.heap R2.out)
 go_wp2
 go_loopw [47] (fun iv wr=> ∃(k:Nat) (F1 F2 F3:Nat->Value),k<=N/\iv=.int .i64 (k:Nat)/\Ab v2 wr/\wr.heap[g5]? =some (.cells #[.slice (some ⟨b1,0,none⟩) N c1,.slice (some ⟨b2,0,none⟩) N c2,.slice (some ⟨b3,0,none⟩) N c3,.slice (some ⟨b4,0,none⟩) M c4,.int .i64 sky,.int .i64 st] 29)/\wr.rowIs b1 22 c1 F1/\wr.rowIs b2 2 c2 F2/\wr.rowIs b3 2 c3 F3/\wr.rowIs b4 22 c4 F4/\(∀c,c<k->F1 (tc c)=.float .f64 (B c)/\F2 (tc c)=.int .i64 (W c)/\F3 (tc c)=.int .i64 (T c))) (fun iv _=>N - (intOf iv).toNat)
 case atStart=>exact⟨0,_,_,_,by omega,rfl,A4.out,H54.out,P14.out,P24.out,P34.out,P44.out,fun c hc=>absurd hc (Nat.not_lt_zero c)⟩
 case round=>
  clear P14 P24 P34 P44 H54 A4 x0 x1 x2 x3 x4 x5
  clear F1 F2 F3
  obtain⟨k,F1,F2,F3,hk,rfl,ar,h5,r1,r2,r3,r4,hq⟩:=hrel
  have AW:=hid ar
  have H5:=hid h5
  have P1:=hid r1
  have P2:=hid r2
  have P3:=hid r3
  have P4:=hid r4
  have HQ:=hid hq
  clear ar h5 r1 r2 r3 r4 hq
  by_cases hkn:k<N
  ·have HK:=hid hkn
   have kI:(k:Int)<N:=by omega
   have kB:(k:Int)<=6144:=by have:=HN.out.1;omega
   have CT:=hid (TN.out wr k (A2.out.trans AW.out) hkn)
   obtain⟨c,hc⟩:=aD (tc k)
   have cl:=TL.out k hkn
   rw[hc]at CT cl
   obtain⟨tk,htk⟩:=aD (tq k)
   rw[htk]at CT
   have CC:=hid hc
   have CL:=hid cl
   have cI:(c:Int)<N:=by omega
   have cB:(c:Int)<=6144:=by have:=HN.out.1;omega
   obtain⟨xb,hxb⟩:=aD (B k)
   obtain⟨xw,hxw⟩:=aD (W k)
   obtain⟨xt,hxt⟩:=aD (T k)
   have XV:=hid (And.intro hxb (And.intro hxw hxt))
   have YB:Hid (∀v,Ab w v->v.cell? ⟨qb,ob+k,none⟩=some (.float .f64 xb)):=fun v a=>by rw[<- hxb];exact((IB.out.below a).at0 hkn).2.2
   have YW:Hid (∀v,Ab w v->v.cell? ⟨qw,ow+k,none⟩=some (.int .i64 xw)):=fun v a=>by rw[<- hxw];exact((IW.out.below a).at0 hkn).2.2
   have YT:Hid (∀v,Ab w v->v.cell? ⟨qt,ot+k,none⟩=some (.int .i64 xt)):=fun v a=>by rw[<- hxt];exact((IT.out.below a).at0 hkn).2.2
   have OLD:Hid (∀d,d<k->tc d≠c):=fun d hd e=>by
    have:=TI.out d k (by omega) hkn (by rw[e,hc])
    omega
   clear hc cl hxb hxw hxt hkn hk htk
   go_wp2_with fail
   refine CT.out.mono ?_
   rintro e9 v4 ⟨rfl,b4'⟩
   have A4:Hid (Ab wr v4):=b4'
   clear b4' CT
   go_upto_region 12 with fail
   have K4:Hid (Ab v2 v4):=AW.out.trans A4.out
   have H54:=hid (Ab.heap A4.out H5.out)
   have P14:=hid (rowIs.ab P1.out A4.out)
   have P24:=hid (rowIs.ab P2.out A4.out)
   have P34:=hid (rowIs.ab P3.out A4.out)
   have P44:=hid (rowIs.ab P4.out A4.out)
   clear A4 H5 P1 P2 P3 P4 AW
   have LX:Hid (c<c1/\c<c2/\c<c3):=by show _/\_;have:=CL.out;have:=LC.out.1;omega
   have KS:Hid (∀w',Aw v4 b1 c1 b2 c2 b3 c3 w'->Aw v4 b1 c1 b2 c2 b3 c3 w'/\w'.cell? ⟨g5,0,none⟩=some (.slice (some ⟨b1,0,none⟩) N c1)/\w'.cell? ⟨g5,1,none⟩=some (.slice (some ⟨b2,0,none⟩) N c2)/\w'.cell? ⟨g5,2,none⟩=some (.slice (some ⟨b3,0,none⟩) N c3)/\w'.cell? ⟨ga,0,none⟩=some (.slice (some ⟨qb,ob,none⟩) N cb)/\w'.cell? ⟨ga,1,none⟩=some (.slice (some ⟨qw,ow,none⟩) N cw)/\w'.cell? ⟨ga,2,none⟩=some (.slice (some ⟨qt,ot,none⟩) N ct)/\w'.cell? ⟨qb,ob+k,none⟩=some (.float .f64 xb)/\w'.cell? ⟨qw,ow+k,none⟩=some (.int .i64 xw)/\w'.cell? ⟨qt,ot+k,none⟩=some (.int .i64 xt)/\w'.frozen? ⟨b1,c,none⟩=false/\w'.cell? ⟨b1,c,none⟩=some (rv w' b1 c)/\w'.frozen? ⟨b2,c,none⟩=false/\w'.cell? ⟨b2,c,none⟩=some (rv w' b2 c)/\w'.frozen? ⟨b3,c,none⟩=false/\w'.cell? ⟨b3,c,none⟩=some (rv w' b3 c)):=fun w' h=>by
    have sz:=A2.out.size
    have ll:=LL.out
    have gn:g5≠b1/\g5≠b2/\g5≠b3:=by have:=NG.out;omega
    have gl:=Rv.bI R2.out
    have an:ga≠b1/\ga≠b2/\ga≠b3:=by omega
    have h1:=(IB.out.at0 HK.out).2.1
    have h2:=(IW.out.at0 HK.out).2.1
    have h3:=(IT.out.at0 HK.out).2.1
    have qbn:qb≠b1/\qb≠b2/\qb≠b3:=by omega
    have qwn:qw≠b1/\qw≠b2/\qw≠b3:=by omega
    have qtn:qt≠b1/\qt≠b2/\qt≠b3:=by omega
    obtain⟨F1',f1⟩:=h.1.1
    obtain⟨F2',f2⟩:=h.1.2.1
    obtain⟨F3',f3⟩:=h.1.2.2
    exact⟨h,aA 0 ((h.2.2 g5 gn.1 gn.2.1 gn.2.2).trans H54.out),aA 1 ((h.2.2 g5 gn.1 gn.2.1 gn.2.2).trans H54.out),aA 2 ((h.2.2 g5 gn.1 gn.2.1 gn.2.2).trans H54.out),aA 0 ((h.2.2 ga an.1 an.2.1 an.2.2).trans (K4.out.heap R2.out)),aA 1 ((h.2.2 ga an.1 an.2.1 an.2.2).trans (K4.out.heap R2.out)),aA 2 ((h.2.2 ga an.1 an.2.1 an.2.2).trans (K4.out.heap R2.out)),(World.cell?_of_block (h.2.2 qb (qbn).1 (qbn).2.1 (qbn).2.2)).trans (YB.out _ (A2.out.trans K4.out)),(World.cell?_of_block (h.2.2 qw (qwn).1 (qwn).2.1 (qwn).2.2)).trans (YW.out _ (A2.out.trans K4.out)),(World.cell?_of_block (h.2.2 qt (qtn).1 (qtn).2.1 (qtn).2.2)).trans (YT.out _ (A2.out.trans K4.out)),f1.frozen c,Eu f1 LX.out.1,f2.frozen c,Eu f2 LX.out.2.1,f3.frozen c,Eu f3 LX.out.2.2⟩
   have AW0:Aw v4 b1 c1 b2 c2 b3 c3 v4:=⟨⟨⟨_,P14.out⟩,⟨_,P24.out⟩,_,P34.out⟩,⟨NN.out.1,NN.out.2.1,NN.out.2.2.2.1⟩,fun _ _ _ _=>rfl⟩
   have AZ:Hid (Ab v4 v4.drew):=(Ab.refl v4).drew
   go_region_held3 (fun w'=>Aw v4 b1 c1 b2 c2 b3 c3 w'/\w'.cell? ⟨g5,0,none⟩=some (.slice (some ⟨b1,0,none⟩) N c1)/\w'.cell? ⟨g5,1,none⟩=some (.slice (some ⟨b2,0,none⟩) N c2)/\w'.cell? ⟨g5,2,none⟩=some (.slice (some ⟨b3,0,none⟩) N c3)/\w'.cell? ⟨ga,0,none⟩=some (.slice (some ⟨qb,ob,none⟩) N cb)/\w'.cell? ⟨ga,1,none⟩=some (.slice (some ⟨qw,ow,none⟩) N cw)/\w'.cell? ⟨ga,2,none⟩=some (.slice (some ⟨qt,ot,none⟩) N ct)/\w'.cell? ⟨qb,ob+k,none⟩=some (.float .f64 xb)/\w'.cell? ⟨qw,ow+k,none⟩=some (.int .i64 xw)/\w'.cell? ⟨qt,ot+k,none⟩=some (.int .i64 xt)/\w'.frozen? ⟨b1,c,none⟩=false/\w'.cell? ⟨b1,c,none⟩=some (rv w' b1 c)/\w'.frozen? ⟨b2,c,none⟩=false/\w'.cell? ⟨b2,c,none⟩=some (rv w' b2 c)/\w'.frozen? ⟨b3,c,none⟩=false/\w'.cell? ⟨b3,c,none⟩=some (rv w' b3 c)) ((refine KS.out _ ?_;(with_reducible (repeat(first | assumption | apply Aw.drew | apply Aw.set1 | apply Aw.set2 | apply Aw.set3)));done)) (fail)
   clear KS AW0
   have P15:=hid ((rowIs.ab P14.out AZ.out).set c (.float .f64 xb))
   have P25:=hid ((rowIs.ab P24.out AZ.out).setOther (a:=⟨b1,c,none⟩) (Ne.symm NN.out.1) (.float .f64 xb))
   have P35:=hid ((rowIs.ab P34.out AZ.out).setOther (a:=⟨b1,c,none⟩) (Ne.symm NN.out.2.1) (.float .f64 xb))
   have P45:=hid ((rowIs.ab P44.out AZ.out).setOther (a:=⟨b1,c,none⟩) (Ne.symm NN.out.2.2.1) (.float .f64 xb))
   have P16:=hid (P15.out.setOther (a:=⟨b2,c,none⟩) NN.out.1 (.int .i64 xw))
   have P26:=hid (P25.out.set c (.int .i64 xw))
   have P36:=hid (P35.out.setOther (a:=⟨b2,c,none⟩) (Ne.symm NN.out.2.2.2.1) (.int .i64 xw))
   have P46:=hid (P45.out.setOther (a:=⟨b2,c,none⟩) (Ne.symm NN.out.2.2.2.2.1) (.int .i64 xw))
   have P17:=hid (P16.out.setOther (a:=⟨b3,c,none⟩) NN.out.2.1 (.int .i64 xt))
   have P27:=hid (P26.out.setOther (a:=⟨b3,c,none⟩) NN.out.2.2.2.1 (.int .i64 xt))
   have P37:=hid (P36.out.set c (.int .i64 xt))
   have P47:=hid (P46.out.setOther (a:=⟨b3,c,none⟩) (Ne.symm NN.out.2.2.2.2.2) (.int .i64 xt))
   have H57:Hid ((((v4.drew.setCell ⟨b1,c,none⟩ (.float .f64 xb)).setCell ⟨b2,c,none⟩ (.int .i64 xw)).setCell ⟨b3,c,none⟩ (.int .i64 xt)).heap[g5]? =some (.cells #[.slice (some ⟨b1,0,none⟩) N c1,.slice (some ⟨b2,0,none⟩) N c2,.slice (some ⟨b3,0,none⟩) N c3,.slice (some ⟨b4,0,none⟩) M c4,.int .i64 sky,.int .i64 st] 29)):=(aO (Ne.symm NG.out.2.2.1)).trans ((aO (Ne.symm NG.out.2.1)).trans ((aO (Ne.symm NG.out.1)).trans (Ab.heap AZ.out H54.out)))
   have K7:Hid (Ab v2 (((v4.drew.setCell ⟨b1,c,none⟩ (.float .f64 xb)).setCell ⟨b2,c,none⟩ (.int .i64 xw)).setCell ⟨b3,c,none⟩ (.int .i64 xt))):=(((K4.out.trans AZ.out).setk LL.out.1 _).setk LL.out.2.1 _).setk LL.out.2.2.1 _
   go_wp2_with fail
   refine⟨⟨k+1,_,_,_,by have:=HK.out;omega,by simp,K7.out,H57.out,P17.out,P27.out,P37.out,P47.out,fun d hd=> ?_⟩,by have:=HK.out;simp[intOf];omega⟩
   by_cases e:d=k
   ·subst e
    rw[CC.out,XV.out.1,XV.out.2.1,XV.out.2.2]
    simp
   ·have l:d<k:=by omega
    have h:=HQ.out d l
    have ne:=OLD.out d l
    simp[ne,h.1,h.2.1,h.2.2]
  ·have e6:N=k:=by omega
   subst e6
   have OW:=AW
   have OH:=H5
   have O1:=P1
   have O2:=P2
   have O3:=P3
   have O4:=P4
   clear AW H5 P1 P2 P3 P4 hkn hk
   obtain⟨x0,x1,x2,x3,x4,x5⟩:=aF (OW.out.heap R2.out)
   go_wp2
   go_loopw [88] (fun iv wr=> ∃(k:Nat) (F4:Nat->Value),k<=M/\iv=.int .i64 (k:Nat)/\Ab v2 wr/\wr.heap[g5]? =some (.cells #[.slice (some ⟨b1,0,none⟩) N c1,.slice (some ⟨b2,0,none⟩) N c2,.slice (some ⟨b3,0,none⟩) N c3,.slice (some ⟨b4,0,none⟩) M c4,.int .i64 sky,.int .i64 st] 29)/\wr.rowIs b1 22 c1 F1/\wr.rowIs b2 2 c2 F2/\wr.rowIs b3 2 c3 F3/\wr.rowIs b4 22 c4 F4/\(∀i,i<k->F4 (at_ i)=.float .f64 (if sg i<0 then ngC (S i)else S i))) (fun iv _=>M - (intOf iv).toNat)
   case atStart=>exact⟨0,_,by omega,rfl,OW.out,OH.out,O1.out,O2.out,O3.out,O4.out,fun c hc=>absurd hc (Nat.not_lt_zero c)⟩
   case round=>
    clear OW OH O1 O2 O3 O4 x0 x1 x2 x3 x4 x5
    obtain⟨k,F4,hk,rfl,ar,h5,r1,r2,r3,r4,hq⟩:=hrel
    have AW:=hid ar
    have H5:=hid h5
    have P1:=hid r1
    have P2:=hid r2
    have P3:=hid r3
    have P4:=hid r4
    have HQ4:=hid hq
    clear ar h5 r1 r2 r3 r4 hq
    by_cases hkn:k<M
    ·have HK:=hid hkn
     have kI:(k:Int)<M:=by omega
     have kB:(k:Int)<=12288:=by have:=HN.out.2;omega
     have CE0:=fun v (a:Ab v2 v)=>ED.out v rb k (A2.out.trans a) (G2.out.to a) hkn
     have l3:=EL.out k hkn
     obtain⟨a,ha⟩:=aD (at_ k)
     obtain⟨g,hg⟩:=aD (sg k)
     rw[ha]at l3 CE0
     rw[hg]at CE0
     have CE:=hid CE0
     have aI:(a:Int)<M:=by omega
     have aB:(a:Int)<=12288:=by have:=HN.out.2;omega
     have AL:=hid l3
     have AG:=hid (And.intro ha hg)
     obtain⟨x,hx⟩:=aD (S k)
     have XE:=hid hx
     have xl:x<18446744073709551616:=by rw[<- hx];exact(IS.out k hkn).1
     have ys:wr.cell? ⟨qs,os+k,none⟩=some (.float .f64 x):=by rw[<- hx];exact((IS.out.below (A2.out.trans AW.out)).at0 hkn).2.2
     have OLD:Hid (∀d,d<k->at_ d≠a):=fun d hd e=>by
      have:=EI.out d k (by omega) hkn (by rw[e,ha])
      omega
     obtain⟨nx,hnx⟩:=aD (negB x)
     have nf:Op.negFloat .f64 x=nx:=by rw[<- hnx];exact bJ x xl
     have nl:nx<18446744073709551616:=by rw[<- hnx];exact bG xl
     have CN:Hid (∀v,Calls prog 98 #[.float .f64 nx] v fun e w'=>e=.returned (.float .f64 (ngC x))/\w'=v):=fun v=>(tB nx _ v nl rfl).mono fun e w' h=>⟨by rw[h.1];unfold ngC;rw[hnx],h.2⟩
     obtain⟨y,hy⟩:=aD (ngC x)
     rw[hy]at CN
     have YE:=hid hy
     clear CE0 l3 ha hg hx hnx hy xl nl hkn hk
     go_wp2_with fail
     refine(CE.out wr AW.out).mono ?_
     rintro e9 v7 ⟨rfl,b7⟩
     have A7:Hid (Ab wr v7):=b7
     have K7:Hid (Ab v2 v7):=AW.out.trans A7.out
     have H57:=hid (Ab.heap A7.out H5.out)
     have P17:=hid (rowIs.ab P1.out A7.out)
     have P27:=hid (rowIs.ab P2.out A7.out)
     have P37:=hid (rowIs.ab P3.out A7.out)
     have P47:=hid (rowIs.ab P4.out A7.out)
     have AL4:Hid (a<c4):=by show _<_;have:=AL.out;have:=LC.out.1;omega
     clear b7 CE A7 H5 P1 P2 P3 P4 AW ys
     have z0:=aA 3 H57.out
     have z1:=P47.out.cell AL4.out
     have z2:=P47.out.frozen a
     by_cases gq:g<0
     ·have d5:decide (g<0)=true:=decide_eq_true gq
      go_wp2_with fail
      refine(CN.out v7).mono ?_
      rintro e9 v9 ⟨rfl,hv9⟩
      have hv8:=hv9.symm
      subst hv8
      go_wp2_with fail
      have P48:=hid (P47.out.set a (.float .f64 y))
      have P18:=hid (P17.out.setOther (a:=⟨b4,a,none⟩) (NN.out.2.2.1) (.float .f64 y))
      have P28:=hid (P27.out.setOther (a:=⟨b4,a,none⟩) (NN.out.2.2.2.2.1) (.float .f64 y))
      have P38:=hid (P37.out.setOther (a:=⟨b4,a,none⟩) (NN.out.2.2.2.2.2) (.float .f64 y))
      have H58:Hid ((v7.setCell ⟨b4,a,none⟩ (.float .f64 y)).heap[g5]? =some (.cells #[.slice (some ⟨b1,0,none⟩) N c1,.slice (some ⟨b2,0,none⟩) N c2,.slice (some ⟨b3,0,none⟩) N c3,.slice (some ⟨b4,0,none⟩) M c4,.int .i64 sky,.int .i64 st] 29)):=(aO (Ne.symm (NG.out.2.2.2))).trans H57.out
      have K8:Hid (Ab v2 (v7.setCell ⟨b4,a,none⟩ (.float .f64 y))):=K7.out.setk LL.out.2.2.2 _
      refine⟨⟨k+1,_,by have:=HK.out;omega,by simp,K8.out,H58.out,P18.out,P28.out,P38.out,P48.out,fun d hd=> ?_⟩,by have:=HK.out;simp[intOf];omega⟩
      by_cases e:d=k
      ·subst e
       rw[AG.out.1,AG.out.2,XE.out,if_pos gq,YE.out]
       simp
      ·have h:=HQ4.out d (by omega)
       have ne:=OLD.out d (by omega)
       simp[ne,h]
     ·have d5:decide (g<0)=false:=decide_eq_false gq
      have GQ:=hid gq
      go_wp2_with fail
      have P48:=hid (P47.out.set a (.float .f64 x))
      have P18:=hid (P17.out.setOther (a:=⟨b4,a,none⟩) (NN.out.2.2.1) (.float .f64 x))
      have P28:=hid (P27.out.setOther (a:=⟨b4,a,none⟩) (NN.out.2.2.2.2.1) (.float .f64 x))
      have P38:=hid (P37.out.setOther (a:=⟨b4,a,none⟩) (NN.out.2.2.2.2.2) (.float .f64 x))
      have H58:Hid ((v7.setCell ⟨b4,a,none⟩ (.float .f64 x)).heap[g5]? =some (.cells #[.slice (some ⟨b1,0,none⟩) N c1,.slice (some ⟨b2,0,none⟩) N c2,.slice (some ⟨b3,0,none⟩) N c3,.slice (some ⟨b4,0,none⟩) M c4,.int .i64 sky,.int .i64 st] 29)):=(aO (Ne.symm (NG.out.2.2.2))).trans H57.out
      have K8:Hid (Ab v2 (v7.setCell ⟨b4,a,none⟩ (.float .f64 x))):=K7.out.setk LL.out.2.2.2 _
      refine⟨⟨k+1,_,by have:=HK.out;omega,by simp,K8.out,H58.out,P18.out,P28.out,P38.out,P48.out,fun d hd=> ?_⟩,by have:=HK.out;simp[intOf];omega⟩
      by_cases e:d=k
      ·subst e
       rw[AG.out.1,AG.out.2,XE.out,if_neg (show¬g<0 by have:=GQ.out;omega)]
       simp
      ·have h:=HQ4.out d (by omega)
       have ne:=OLD.out d (by omega)
       simp[ne,h]
    ·have e6:M=k:=by omega
     subst e6
     have QW:Hid (wr.heap[gr]? =some (.cells #[.slice none 0 0,.slice none 0 0,.slice none 0 0,.slice none 0 0,.int .i64 0,.int .i64 0] 29)):=Ab.heap AW.out Q2.out
     have GL:Hid (gr<v2.heap.size):=Rv.bI Q2.out
     clear hkn hk
     have o0:=aF H5.out
     have t0:=aF QW.out
     obtain⟨f0,f1,f2,f3,f4,f5⟩:=eB QW.out
     go_wp2_with fail
     have RY:=hid (qD (x:=.slice (some ⟨b1,0,none⟩) N c1) (y:=.slice (some ⟨b2,0,none⟩) N c2) (z:=.slice (some ⟨b3,0,none⟩) N c3) (p:=.slice (some ⟨b4,0,none⟩) M c4) (q:=.int .i64 sky) (r:=.int .i64 st) QW.out)
     (try simp only[Exit.inBlock,Exit.then])
     refine bodyPost_ret (v:=.tuple #[.agg #[.slice (some ⟨b1,0,none⟩) N c1,.slice (some ⟨b2,0,none⟩) N c2,.slice (some ⟨b3,0,none⟩) N c3,.slice (some ⟨b4,0,none⟩) M c4,.int .i64 sky,.int .i64 st],.int .i64 0]) ?_ rfl ?_
     ·exact cS results30 _ _ gr _ _ (0,0) _ _ rfl rfl RY.out underlying29 rfl (by kernel_rfl)
     obtain⟨l1,l2,l3,l4⟩:=LL.out
     obtain⟨n12,n13,n14,n23,n24,n34⟩:=NN.out
     obtain⟨⟨k1,k2,k3,k4⟩,m1,m2,m3,m4⟩:=LC.out
     have gl:=GL.out
     have hg:=HG.out
     have hs:=A2.out.size
     have st_: ∀(b n:Nat) (t:TypeId) (f:Nat->Value),b≠gr->wr.rowIs b t n f-> ∀x0 x1 x2 x3 x4 x5,((((((wr.setCell ⟨gr,0,none⟩ x0).setCell ⟨gr,1,none⟩ x1).setCell ⟨gr,2,none⟩ x2).setCell ⟨gr,3,none⟩ x3).setCell ⟨gr,4,none⟩ x4).setCell ⟨gr,5,none⟩ x5).rowIs b t n f:=fun b n t f hb h x0 x1 x2 x3 x4 x5=>(((((h.setOther (a:=⟨gr,0,none⟩) hb x0).setOther (a:=⟨gr,1,none⟩) hb x1).setOther (a:=⟨gr,2,none⟩) hb x2).setOther (a:=⟨gr,3,none⟩) hb x3).setOther (a:=⟨gr,4,none⟩) hb x4).setOther (a:=⟨gr,5,none⟩) hb x5
     have f1: ∀i,i<N->F1 i=.float .f64 (B' i)/\F2 i=.int .i64 (W' i)/\F3 i=.int .i64 (T' i):=fun i hi=>by
      obtain⟨c,hc,e,e1,e2,e3⟩:=TB.out i hi
      have h:=HQ.out c hc
      rw[e]at h
      rw[e1,e2,e3]
      exact h
     have f4: ∀i,i<M->F4 i=.float .f64 (S' i):=fun i hi=>by
      obtain⟨j,hj,e,e1⟩:=TS.out i hi
      have h:=HQ4.out j hj
      rw[e]at h
      rw[e1]
      exact h
     refine⟨_,rfl,(((((((A2.out.trans AW.out).setk hg _).setk hg _).setk hg _).setk hg _).setk hg _).setk hg _),_,_,_,_,rfl,?_,?_,?_,?_,?_,?_⟩
     ·exact xH (st_ b1 _ _ _ (by omega) P1.out _ _ _ _ _ _) (by omega) k1 m1 (fun i hi=>(f1 i hi).1)
     ·exact xI (st_ b2 _ _ _ (by omega) P2.out _ _ _ _ _ _) (by omega) k2 m2 (fun i hi=>(f1 i hi).2.1)
     ·exact xI (st_ b3 _ _ _ (by omega) P3.out _ _ _ _ _ _) (by omega) k3 m3 (fun i hi=>(f1 i hi).2.2)
     ·exact xH (st_ b4 _ _ _ (by omega) P4.out _ _ _ _ _ _) (by omega) k4 m4 (fun i hi=>f4 i hi)
     ·intro k h1 h2
      simp only[Value.ownBlock,Option.some.injEq]at h1 h2
      omega
     ·intro k h1 h2
      simp only[Value.ownBlock,Option.some.injEq]at h1 h2
      omega
theorem IQ(side:Int)(pb:Option Addr)(lb cb:Nat)(B:Nat->Nat)(pw:Option Addr)(lw cw:Nat)(W:Nat->Int)(pt:Option Addr)(lt ct:Nat)(T:Nat->Int)(ps:Option Addr)(ls cs:Nat)(S:Nat->Nat)(sky st:Int)(turn:Int)(w:World)(hF:Fr w)(i1:IsFl w pb lb B)(i2:Sh.IsI w pw lw W)(i3:Sh.IsI w pt lt T)(i4:IsFl w ps ls S):
  (tuE side lb lw lt ls B W T S sky st turn=0->Calls prog 30 #[.int .i64 side,.agg #[.slice pb lb cb,.slice pw lw cw,.slice pt lt ct,.slice ps ls cs,.int .i64 sky,.int .i64 st],.int .i64 turn] w fun e w'=> ∃v,e=.returned (.tuple #[v,.int .i64 0])/\Below w.heap.size w w'/\OwnS w.heap.size v lb lw lt ls (tuC side.toNat turn.toNat B) (tuC side.toNat turn.toNat W) (tuC side.toNat turn.toNat T) (tuS side.toNat turn.toNat S) sky st w')/\
  (tuE side lb lw lt ls B W T S sky st turn≠0->Calls prog 30 #[.int .i64 side,.agg #[.slice pb lb cb,.slice pw lw cw,.slice pt lt ct,.slice ps ls cs,.int .i64 sky,.int .i64 st],.int .i64 turn] w fun e w'=>e=.returned (.tuple #[.agg #[.slice none 0 0,.slice none 0 0,.slice none 0 0,.slice none 0 0,.int .i64 0,.int .i64 0],.int .i64 (tuE side lb lw lt ls B W T S sky st turn)])/\Below w.heap.size w w'):=by
 have CK:=fun v (a:Ab w v)=>uK side pb lb cb B pw lw cw W pt lt ct T ps ls cs S sky st v (i1.below a) (i2.below a) (i3.below a) (i4.below a)
 obtain⟨ck,hck⟩:=aD (chk side lb lw lt ls B W T S sky st)
 by_cases h0:ck.2=0
 ·by_cases ht:0<=turn/\turn<=23
  ·have te:tuE side lb lw lt ls B W T S sky st turn=0:=by
    unfold tuE
    rw[hck,if_neg (by omega),if_pos ht]
   refine⟨fun _=> ?_,fun q=>absurd te q⟩
   obtain⟨hs,⟨l1,l2,l3,l4⟩,-⟩:=tuE_ok te
   obtain⟨n,rfl⟩: ∃n:Nat,side=(n:Nat):=⟨side.toNat,by omega⟩
   obtain⟨r,rfl⟩: ∃r:Nat,turn=(r:Nat):=⟨turn.toNat,by omega⟩
   rw[Int.toNat_natCast]at l1 l2 l3 l4
   rw[Int.toNat_natCast,Int.toNat_natCast]
   have hn:1<=n/\n<=32:=by omega
   have hr:r<24:=by omega
   have e12:2*(6*n*n)=12*n*n:=by rw[Nat.mul_assoc,Nat.mul_assoc];omega
   rw[e12]at l4
   have p1:0<n*n:=Nat.mul_pos (by omega) (by omega)
   have p2:n*n<=32*32:=Nat.mul_le_mul hn.2 hn.2
   have q6:6*n*n=6*(n*n):=Nat.mul_assoc _ _ _
   have q12:12*n*n=12*(n*n):=Nat.mul_assoc _ _ _
   rw[hck,h0]at CK
   clear hck te
   subst l1 l2 l3 l4
   obtain⟨qb,ob,rfl⟩:=i1.some0 (show 0<6*n*n by omega)
   obtain⟨qw,ow,rfl⟩:=i2.some0 (show 0<6*n*n by omega)
   obtain⟨qt,ot,rfl⟩:=i3.some0 (show 0<6*n*n by omega)
   obtain⟨qs,os,rfl⟩:=i4.some0 (show 0<12*n*n by omega)
   exact IP n (6*n*n) (12*n*n) qb ob cb qw ow cw qt ot ct qs os cs B W T S sky st r ck.1 (tnC n r) (tnS n r) (atS n r) (fun i=>eS n (tnT n r (edT n i))) (tuC n r B) (tuC n r W) (tuC n r T) (tuS n r S) w (by omega) (by omega) (by omega) CK
    (fun v a=>(DM n v hn (hF.to a)).mono fun e w' h=>by
     obtain⟨gb,rfl,a1,-,g⟩:=h
     exact⟨gb,rfl,a1,g⟩)
    (fun v a=>copy_at _ _ _ B _ _ _ W _ _ _ T _ _ _ S sky st v (by show _/\_;omega) (i1.below a) (i2.below a) (i3.below a) (i4.below a))
    (fun v c a hc=>Ft n r c v hn hc hr (hF.to a))
    (fun v rb i a g hi=>edgeT_at hn hr hi g (hF.to a))
    (fun c hc=>(zC hn.1 hc hr).1) (fun c d hc hd h=>tn_inj hn.1 hr hc hd h)
    (fun i hi=>atS_lt hn.1 hr hi) (fun i j hi hj h=>atS_inj hn.1 hr hi hj h)
    (fun i hi=>⟨tnC n (inv r) i,iU hn.1 (eA r hr).1 hi,(lO hn.1 hr hi).2,rfl,rfl,rfl⟩)
    (fun e he=>atS_ex hn.1 hr S he) i1 i2 i3 i4
  ·have te:tuE side lb lw lt ls B W T S sky st turn=1:=by
    unfold tuE
    rw[hck,if_neg (by omega),if_neg ht]
   refine⟨fun q=>absurd (te.symm.trans q) (by decide),fun _=> ?_⟩
   rw[te]
   rw[hck,h0]at CK
   exact Ew side pb lb cb pw lw cw pt lt ct ps ls cs sky st turn ck.1 w ht CK
 ·have te:tuE side lb lw lt ls B W T S sky st turn=ck.2:=by
   unfold tuE
   rw[hck,if_pos h0]
  refine⟨fun q=>absurd (te.symm.trans q) h0,fun _=> ?_⟩
  rw[te]
  rw[hck]at CK
  exact Ev side pb lb cb pw lw cw pt lt ct ps ls cs sky st turn ck.1 ck.2 w (by simpa using h0) CK
theorem turnedC:TurnedC:=fun side pb lb cb B pw lw cw W pt lt ct T ps ls cs S sky st turn w hF _ _ _ _ _ i1 i2 i3 i4=>IQ side pb lb cb B pw lw cw W pt lt ct T ps ls cs S sky st turn w hF i1 i2 i3 i4
end Ss
end
section
open Go.ChangeShapes Go.WideShapes Go.ChangeAt Go.WideMaps Go.WideElems Go.RowKit Go.Deep
namespace Sh
theorem trod_int{H:Type}{enc:TypeId × Value->H}{P:Program}{w:World}{base:Nat}{spare:Nat->Bool}{held:Bool}{t:TypeId}{fuel:Nat}{v:Value}{x:DataW H × List MemPlace}(ht:P.underlying t=some (.int .i64))(h:DataW.trod enc P w base spare held fuel t [v]=some x):
  ∃b,v=.int .i64 b/\(-9223372036854775808<=b/\b<=9223372036854775807):=by
 obtain⟨k,e,_,wf⟩:=DataW.trod_int ht h
 simp at e
 simp only[Lit.wf,Bool.and_eq_true,decide_eq_true_eq]at wf
 have q1:IntKind.i64.min= -9223372036854775808:=by decide
 have q2:IntKind.i64.max=9223372036854775807:=by decide
 rw[q1,q2]at wf
 exact⟨k,e,wf⟩
theorem uM{w:World}{a:Addr}{v:Value}(h:w.cell? a=some v):a.block<w.heap.size:=by
 by_cases c:a.block<w.heap.size
 ·exact c
 ·exfalso
  have:w.heap[a.block]? =none:=by simp;omega
  simp[World.cell?,this]at h
theorem rR{α:Type}{n:Nat}{R:Nat->α->Prop}(d:α)(h: ∀i,i<n-> ∃x,R i x): ∃f:Nat->α,∀i,i<n->R i (f i):=by
 have: ∀i,∃x,i<n->R i x:=fun i=>by
  by_cases c:i<n
  ·obtain⟨x,h1⟩:=h i c
   exact⟨x,fun _=>h1⟩
  ·exact⟨d,fun h=>absurd h c⟩
 exact⟨fun i=>(this i).choose,fun i hi=>(this i).choose_spec hi⟩
theorem xJ{H:Type}{enc:TypeId × Value->H}{W:World}{cs:List Value}{fuel:Nat}{x:DataW H × List MemPlace}
  (hf:DataW.trod enc prog W 0 (fun _=>true) true fuel 27 cs=some x): ∃a0 len cap xs,cs=[.slice a0 len cap]/\IsI W a0 len xs/\len<=cap/\cap<=maxLen:=by
 rcases open_slice1 underlying27 (by kernel_rfl) hf with⟨hcs,_⟩ | ⟨a,l,c,m,n,V,D,Pl,hcs,_,hl,hm,hmm,_,hx⟩
 ·exact⟨none,0,0,fun _=>0,hcs,fun k hk=>by omega,Nat.le_refl _,Nat.zero_le _⟩
 ·simp only[if_true]at hmm
  have each: ∀i,i<l-> ∃x:Int,W.cell? (a.add i)=some (.int .i64 x)/\(-9223372036854775808<=x/\x<=9223372036854775807):=by
   intro i hi
   obtain⟨h1,h2⟩:=hx i (by omega)
   obtain⟨x,e,wx⟩:=trod_int underlying2 h2
   rw[e]at h1
   exact⟨x,h1,wx⟩
  obtain⟨f,hf⟩:=rR 0 each
  refine⟨some a,l,c,f,hcs,fun k hk=>⟨(hf k hk).2,?_⟩,hl,hm⟩
  have h0:=(hf k hk).1
  have z:=(hf 0 (by omega)).1
  obtain⟨b,off,spot⟩:=a
  have hspot:spot=none:=by simpa [Addr.add]using World.cell?_spot z
  subst hspot
  rw[kK]at h0
  exact⟨b,off,rfl,uM h0,h0⟩
end Sh
end
end Go.Proofs.YtaphajlpbgcfjaaGreatDoor
