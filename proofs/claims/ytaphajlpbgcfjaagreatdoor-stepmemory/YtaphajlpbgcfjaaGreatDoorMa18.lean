/-
  Some of the texts of this proof, one behind the other.
-/
import Derived.Deep.QuietTactic
import Derived.Test.YtaphajlpbgcfjaaGreatDoorMa17
set_option maxRecDepth 100000
set_option maxHeartbeats 400000000
namespace Go.Proofs.YtaphajlpbgcfjaaGreatDoor
open _root_.Go.Proofs.Tryz
section
open Go.RowKit
namespace Rl
def updV(x:Nat->Value)(i:Nat)(v:Value):Nat->Value:=fun j=>if j=i then v else x j
def putAll:List Oper->Nat->(Nat->Value)->Act->Act
 | [],_,_,a=>a
 | o :: r,i,x,a=>putAll r (i+1) x (a.put o.dst (x i))
def depB(o:Oper)(j:Nat):Bool:=o.after.any fun e=>e.on==j&&Region.binds .any e
def relAll(P:Program)(l:List Oper)(a:Act)(R:Nat->Value->Prop)(C:World->Prop)(Q:Exit->Act->World->Prop):Nat->List Oper->Prop
 | _,[]=>True
 | i,o :: rest=>(∀(x:Nat->Value) (w:World),C w->(∀j,depB o j=true->R j (x j))-> ∀K:Act->World->Prop,Hid (∀v w',R i v->C w'->K ((putAll l 0 x a).put o.dst v) w')->o.wp P (putAll l 0 x a) w K Q)/\relAll P l a R C Q (i+1) rest
theorem aY{P:Program}{l:List Oper}{a:Act}{R:Nat->Value->Prop}{C:World->Prop}{Q:Exit->Act->World->Prop}{i:Nat}{o:Oper}{rest:List Oper}(j:Nat)(Ri:Value->Prop)(hRi:R i=Ri)(hj:i+1=j)
  (h: ∀(x:Nat->Value) (w:World),C w->(∀k,depB o k=true->R k (x k))-> ∀K:Act->World->Prop,Hid (∀v w',Ri v->C w'->K ((putAll l 0 x a).put o.dst v) w')->o.wp P (putAll l 0 x a) w K Q)
  (t:relAll P l a R C Q j rest):relAll P l a R C Q i (o :: rest):=by
 subst hRi
 subst hj
 exact⟨h,t⟩
theorem xL{P:Program}{l:List Oper}{a:Act}{R:Nat->Value->Prop}{C:World->Prop}{Q:Exit->Act->World->Prop}{i:Nat}:relAll P l a R C Q i []:=trivial
def plainB:List Oper->Bool
 | []=>true
 | o :: r=>o.guard.isNone&&(match o.dst with | some d=>r.all (fun p=>p.dst != some d) | none=>true)&&plainB r
theorem put_put(a:Act)(d:Option Tmp)(u v:Value):(a.put d u).put d v=a.put d v:=by
 cases d with
 | none=>rfl
 | some d=>simp[Act.put]
theorem jO: ∀(l:List Oper) (i:Nat) (x:Nat->Value) (k:Nat) (v:Value) (a:Act),k<i->putAll l i (updV x k v) a=putAll l i x a
 | [],_,_,_,_,_,_=>rfl
 | o :: r,i,x,k,v,a,h=>by
  show putAll r (i+1) (updV x k v) (a.put o.dst (updV x k v i))=putAll r (i+1) x (a.put o.dst (x i))
  have e:updV x k v i=x i:=by unfold updV;rw[if_neg (by omega)]
  rw[e,jO r (i+1) x k v _ (by omega)]
theorem sW: ∀(l:List Oper) (i:Nat) (x:Nat->Value) (a:Act) (d:Option Tmp) (v:Value),(∀t,d=some t->l.all (fun p=>p.dst != some t)=true)->putAll l i x (a.put d v)=(putAll l i x a).put d v
 | [],_,_,_,_,_,_=>rfl
 | o :: r,i,x,a,d,v,h=>by
  show putAll r (i+1) x ((a.put d v).put o.dst (x i))=(putAll r (i+1) x (a.put o.dst (x i))).put d v
  rw[Act.put_comm a v (x i) (fun t ht=>by have:=h t ht;simp at this;exact this.1)]
  exact sW r (i+1) x _ d v (fun t ht=>by have:=h t ht;simp at this ⊢;exact this.2)
theorem sX: ∀(l:List Oper) (i:Nat) (x:Nat->Value) (a:Act) (k:Nat) (o:Oper) (v:Value),plainB l=true->l[k]? =some o->putAll l i (updV x (i+k) v) a=(putAll l i x a).put o.dst v
 | [],_,_,_,_,_,_,_,h=>by simp at h
 | p :: r,i,x,a,0,o,v,hp,h=>by
  simp at h
  subst h
  show putAll r (i+1) (updV x i v) (a.put p.dst (updV x i v i))=(putAll r (i+1) x (a.put p.dst (x i))).put p.dst v
  have e:updV x i v i=v:=by unfold updV;rw[if_pos rfl]
  simp only[plainB,Bool.and_eq_true]at hp
  rw[e,jO r (i+1) x i v _ (by omega),<- sW r (i+1) x _ p.dst v (fun t ht=>by have:=hp.1.2;rw[ht]at this;exact this),put_put]
 | p :: r,i,x,a,k+1,o,v,hp,h=>by
  simp at h
  simp only[plainB,Bool.and_eq_true]at hp
  show putAll r (i+1) (updV x (i+(k+1)) v) (a.put p.dst (updV x (i+(k+1)) v i))=(putAll r (i+1) x (a.put p.dst (x i))).put o.dst v
  have e:updV x (i+(k+1)) v i=x i:=by unfold updV;rw[if_neg (by omega)]
  rw[e,show i+(k+1)=i+1+k by omega]
  exact sX r (i+1) x _ k o v hp.2 h
theorem put_own(a:Act)(d:Option Tmp):a.put d (match d with | some t=>a.tmps.getD t undef | none=>undef)=a:=by
 cases d with
 | none=>rfl
 | some t=>
  show{a with tmps:=a.tmps.setIfInBounds t (a.tmps.getD t undef)}=a
  have:a.tmps.setIfInBounds t (a.tmps.getD t undef)=a.tmps:=by
   by_cases h:t<a.tmps.size
   ·refine Array.ext (by simp) fun i h1 h2=> ?_
    rw[Array.getElem_setIfInBounds (by simpa using h2)]
    split
    ·rename_i e;subst e;simp
    ·rfl
   ·exact Array.setIfInBounds_eq_of_size_le (Nat.le_of_not_lt h)
  rw[this]
theorem sY: ∀(l:List Oper) (i:Nat) (a:Act),∃x,putAll l i x a=a
 | [],_,_=>⟨fun _=>undef,rfl⟩
 | o :: r,i,a=>by
  obtain⟨x,hx⟩:=sY r (i+1) a
  refine⟨updV x i (match o.dst with | some t=>a.tmps.getD t undef | none=>undef),?_⟩
  show putAll r (i+1) _ (a.put o.dst (updV x i _ i))=a
  have e: ∀v,updV x i v i=v:=fun v=>by unfold updV;rw[if_pos rfl]
  rw[e,put_own,jO r (i+1) x i _ _ (by omega),hx]
theorem vC{P:Program}{l:List Oper}{a:Act}{R:Nat->Value->Prop}{C:World->Prop}{Q:Exit->Act->World->Prop}: ∀(r:List Oper) (i k:Nat) (o:Oper),relAll P l a R C Q i r->r[k]? =some o->
  ∀(x:Nat->Value) (w:World),C w->(∀j,depB o j=true->R j (x j))-> ∀K:Act->World->Prop,(∀v w',R (i+k) v->C w'->K ((putAll l 0 x a).put o.dst v) w')->o.wp P (putAll l 0 x a) w K Q
 | [],_,_,_,_,h=>by simp at h
 | p :: r,i,0,o,h,he=>by
  simp at he
  subst he
  exact fun x w hC hR K hK=>h.1 x w hC hR K hK
 | p :: r,i,k+1,o,h,he=>by
  simp at he
  have:=vC r (i+1) k o h.2 he
  rw[show i+1+k=i+(k+1)by omega]at this
  exact this
def Inv(l:List Oper)(a:Act)(R:Nat->Value->Prop)(C:World->Prop)(listed:Array Bool)(b:Act)(w:World):Prop:=
 ∃x,b=putAll l 0 x a/\C w/\ ∀i,listed.getD i false=true->R i (x i)
theorem Gv{P:Program}{l:List Oper}{a:Act}{R:Nat->Value->Prop}{C:World->Prop}{Q:Exit->Act->World->Prop}(hp:plainB l=true)(hb:backB .any l.toArray l.length=true)
  (H:relAll P l a R C Q 0 l) (fin: ∀(x:Nat->Value) (w:World),C w->(∀i,i<l.length->R i (x i))->Q .normal (putAll l 0 x a) w):
  ∀(fuel:Nat) (listed:Array Bool) (b:Act) (w:World),listed.size=l.length->l.length<=fuel+(listed.toList.filter id).length->Inv l a R C listed b w->wpAny P .any l.toArray Q fuel listed b w:=by
 have guard: ∀{i:Nat} {o:Oper},l[i]? =some o->o.guard=none:=by
  intro i o h
  have aux: ∀(r:List Oper) (i:Nat),plainB r=true->r[i]? =some o->o.guard=none:=by
   intro r
   induction r with
   | nil=>intro i _ h;simp at h
   | cons p r ih=>
    intro i hp h
    simp only[plainB,Bool.and_eq_true]at hp
    cases i with
    | zero=>simp at h;subst h;simpa using hp.1.1
    | succ i=>simp at h;exact ih i hp.2 h
  exact aux l i hp h
 have allr: ∀{listed:Array Bool},listed.size=l.length->Region.ready .any l.toArray listed=[]-> ∀i,i<l.length->listed.getD i false=true:=by
  intro listed hs h0 i hi
  rcases eD (md:=.any) (ops:=l.toArray) (n:=l.length) (by simp) hb (listed:=listed) (by omega)with all | ⟨j,_,hj⟩
  ·rw[nG (d':=true) (by omega)];exact all i hi
  ·rw[h0]at hj;cases hj
 intro fuel
 induction fuel with
 | zero=>
  intro listed b w hs hc inv
  have full: ∀i,i<l.length->listed.getD i true=true:=by
   intro i hi
   have e:(listed.toList.filter id).length=listed.toList.length:=by
    have:=List.length_filter_le id listed.toList
    simp at hc this ⊢
    omega
   have e2:=List.length_filter_eq_length_iff.1 e
   have hm:listed.getD i true=listed[i]'(by omega):=by simp[show i<listed.size by omega]
   rw[hm]
   exact e2 _ (by simp)
  have h0:Region.ready .any l.toArray listed=[]:=by
   rw[List.eq_nil_iff_forall_not_mem]
   intro i hi
   obtain⟨u,o,ho,_⟩:=mem_ready.1 hi
   have lt:i<l.length:=by have:=(Array.getElem?_eq_some_iff.1 ho).1;simpa using this
   rw[full i lt]at u
   cases u
  obtain⟨x,rfl,hC,hR⟩:=inv
  exact⟨h0,fin x w hC (fun i hi=>hR i (by rw[nG (d':=true) (by omega)];exact full i hi))⟩
 | succ fuel ih=>
  intro listed b w hs hc inv
  obtain⟨x,rfl,hC,hR⟩:=inv
  refine⟨fun h0=>fin x w hC (fun i hi=>hR i (allr hs h0 i hi)),fun i hi=> ?_⟩
  obtain⟨u,o,ho,hd⟩:=mem_ready.1 hi
  have lt:i<l.length:=by have:=(Array.getElem?_eq_some_iff.1 ho).1;simpa using this
  have ho':l[i]? =some o:=by simpa using ho
  have cnt:l.length<=fuel+((listed.setIfInBounds i true).toList.filter id).length:=by
   have hf:listed.toList[i]? =some false:=by
    have:listed.getD i true=listed[i]'(by omega):=by simp[show i<listed.size by omega]
    rw[this]at u
    simp[show i<listed.size by omega,u]
   have aux: ∀(t:List Bool) (i:Nat),t[i]? =some false->((t.set i true).filter id).length=(t.filter id).length+1:=by
    intro t
    induction t with
    | nil=>intro i h;simp at h
    | cons b t ih=>
     intro i h
     cases i with
     | zero=>simp at h;subst h;simp
     | succ i=>
      simp at h
      have:=ih i h
      cases b<;>simp[this]
   have:=aux listed.toList i hf
   simp only[Array.toList_setIfInBounds]
   rw[this]
   omega
  unfold wpOp
  rw[ho]
  have hg:o.guard=none:=guard ho'
  have hw:Region.wanted o (yielded l.toArray (putAll l 0 x a).tmps)=true:=by simp[Region.wanted,hg]
  simp only[hw,if_true]
  left
  have step:=vC l 0 i o H ho' x w hC (fun j hj=>by
   unfold depB at hj
   rw[<- Array.any_toList]at hj
   obtain⟨e,he',h2⟩:=List.any_eq_true.1 hj
   have he:e ∈ o.after:=Array.mem_toList_iff.1 he'
   simp at h2
   have:=hd e he h2.2
   rw[h2.1]at this
   exact hR j this)
  rw[Nat.zero_add]at step
  refine step _ (fun v w' hv hC'=>ih _ _ w' (by simpa using hs) cnt ⟨updV x i v,?_,hC',fun j hj=> ?_⟩)
  ·have:=sX l 0 x a i o v hp ho'
   rw[Nat.zero_add]at this
   exact this.symm
  ·by_cases e:j=i
   ·subst e;unfold updV;rw[if_pos rfl];exact hv
   ·have:listed.getD j false=true:=by rw[getD_set_ne false (Ne.symm e)]at hj;exact hj
    unfold updV;rw[if_neg e];exact hR j this
theorem lY{P:Program}{id:Nat}{Q:Exit->Act->World->Prop}{a:Act}{w:World}{l:List Oper}(R:Nat->Value->Prop)(C:World->Prop)(hm:P.follows .mixedOrders=true)(hp:plainB l=true)(hb:backB .any l.toArray l.length=true)(hC:C w.drew)
  (H:relAll P l a R C Q 0 l) (fin: ∀(x:Nat->Value) (w:World),C w->(∀i,i<l.length->R i (x i))->Q .normal (putAll l 0 x a) w):(Code.region id l.toArray true).wp P Q a w:=by
 refine wp_region_any hm ?_
 obtain⟨x,hx⟩:=sY l 0 a
 exact Gv hp hb H fin _ _ a w.drew (by simp) (by simp) ⟨x,hx.symm,hC,fun i hi=>by rw[getD_replicate_false]at hi;cases hi⟩
end Rl
end
section
open Go.RowKit Tf
attribute [local go_sem] aK aL aP aQ aR aV aW
theorem isC_eq{r c:Nat}(h:IsC r c)(c0:0<c)(c1:c<=9218868437227405312):r=c:=by
 have e:=h.2
 unfold canonB at e
 split at e
 ·unfold quiet at e;omega
 ·split at e
  ·omega
  ·exact e
theorem add_can{P:Program}(w:World)(s x:Nat)(hs:s<18446744073709551616)(hx:x<18446744073709551616):
  ∃r n,(∀t,(binOp .add t (.float .f64 s) (.float .f64 x)).run P w=.ok (.float .f64 r) (w.drewN n))/\IsC r (addB s x):=by
 cases e:Ieee.double.add s x with
 | none=>exact⟨nanOf w s x,1,fun t=>kC w t s x e,fO _ _ _,by rw[bC e];unfold canonB;rw[if_pos (eA _ _ _)]⟩
 | some r=>exact⟨r,0,fun t=>run_float_arith w .add t .f64 s x r e,by
   have q:=IsQ.add (IsQ.self hs) (IsQ.self hx) e
   exact q.1,by rw[bN e]⟩
theorem depth_no(n a:Int)(w:World)(h:n<1\/a<1):
  Calls prog 135 #[.int .i64 n,.int .i64 a] w fun e w'=>e=.returned (.float .f64 0)/\w'=w:=by
 by_cases c:n<1
 ·go_enter func135,ntmps135
  go_wp2
  go_ret
  exact⟨rfl,rfl⟩
 ·have d:a<1:=by omega
  clear h
  go_enter func135,ntmps135
  go_wp2
  go_ret
  exact⟨rfl,rfl⟩
theorem Gw(n a:Int)(w:World)(h1:1<=n)(h2:1<=a)(n2:n<=9223372036854775807)(a2:a<=9223372036854775807):
  Calls prog 135 #[.int .i64 n,.int .i64 a] w fun e w'=>e=.returned (.float .f64 (dpB n a))/\ ∃k,w'=w.drewN k:=by
 obtain⟨r,k,hr,hc⟩:=gB (P:=prog) w (fw n) (fw a)
 have e:=isC_eq hc (by rw[<- pQ h1 h2];have:=dp_in h1 h2 n2 a2;omega) (by rw[<- pQ h1 h2];have:=dp_in h1 h2 n2 a2;omega)
 rw[pQ h1 h2,<- e]
 clear e hc
 have F1:=hid (kE n w)
 have F2:=hid (kE a w)
 rw[show rn false (n*one)=fw n from rfl]at F1
 rw[show rn false (a*one)=fw a from rfl]at F2
 generalize fw n=x at*
 generalize fw a=y at*
 go_enter func135,ntmps135
 go_wp2_with fail
 refine F1.out.mono ?_
 rintro e w' ⟨rfl,rfl⟩
 go_wp2_with fail
 refine F2.out.mono ?_
 rintro e w' ⟨rfl,rfl⟩
 go_wp2
 go_ret
 exact⟨rfl,k,rfl⟩
theorem iT(n a:Int)(w:World)(n2:n<=9223372036854775807)(a2:a<=9223372036854775807):
  Calls prog 135 #[.int .i64 n,.int .i64 a] w fun e w'=>e=.returned (.float .f64 (dpB n a))/\ ∃k,w'=w.drewN k:=by
 by_cases c:n<1\/a<1
 ·rw[lB c]
  exact(depth_no n a w c).mono fun _ _ h=>⟨h.1,0,h.2⟩
 ·exact Gw n a w (by omega) (by omega) n2 a2
theorem sZ(b:Nat)(n a:Int)(w:World)(hb:b<18446744073709551616)(n2:n<=9223372036854775807)(a2:a<=9223372036854775807):
  Calls prog 90 #[.float .f64 b,.int .i64 n,.int .i64 a] w fun e w'=>e=.returned (.float .f64 (lvl b n a))/\ ∃k,w'=w.drewN k:=by
 have D:=hid (iT n a w n2 a2)
 have e0:lvl b n a=addB b (dpB n a):=rfl
 rw[e0]
 have hd:dpB n a<18446744073709551616:=by have:=nF n2 a2;omega
 clear e0
 generalize dpB n a=d at*
 have AD:Hid (∀k:Nat,∃r m,(∀t,(binOp .add t (.float .f64 b) (.float .f64 d)).run prog (w.drewN k)=.ok (.float .f64 r) ((w.drewN k).drewN m))/\IsC r (addB b d)):=fun k=>add_can _ b d hb hd
 generalize addB b d=y at*
 go_enter func90,ntmps90
 go_wp2_with fail
 refine D.out.mono ?_
 rintro e w' ⟨rfl,k,rfl⟩
 obtain⟨r,m,hr,hc⟩:=AD.out k
 have C:=hid (bO r (w.drewN (k+m)) hc.1)
 rw[hc.2]at C
 go_wp2_with fail
 refine C.out.mono ?_
 rintro e w' ⟨rfl,rfl⟩
 go_wp2
 go_ret
 exact⟨rfl,k+m,rfl⟩
end
section
open Go.RowKit Tf Cu Go.Deep
attribute [local go_sem] aK aL aP aQ aR aV aW aF
namespace Fc
def shB(w1:Int)(b1 l2:Nat):Bool:= !decide (0<w1)&&(flt l2 b1||feq l2 b1)
theorem Cv(b:Nat)(wt ar:Int)(w:World):Calls prog 164 #[.agg #[.float .f64 b,.int .i64 wt,.int .i64 ar]] w fun e w'=>e=.returned (.bool (decide (0<wt)))/\Below w.heap.size w w':=by
 have A0:=iU (bl1 w (.cells #[.float .f64 b,.int .i64 wt,.int .i64 ar] 149))
 go_enter func164,ntmps164
 go_wp2
 go_ret
 exact⟨rfl,A0.out⟩
theorem pD(b:Nat)(wt ar:Int)(w:World)(hb:b<18446744073709551616)(h1:wt<=9223372036854775807)(h2:ar<=9223372036854775807):Calls prog 168 #[.agg #[.float .f64 b,.int .i64 wt,.int .i64 ar]] w fun e w'=>e=.returned (.float .f64 (lvl b wt ar))/\Below w.heap.size w w':=by
 have L:=hid (fun v=>sZ b wt ar v hb h1 h2)
 have A0:=iU (bl1 w (.cells #[.float .f64 b,.int .i64 wt,.int .i64 ar] 149))
 clear hb h1 h2
 generalize lvl b wt ar=y at*
 go_enter func168,ntmps168
 go_wp2_with fail
 refine(L.out _).mono ?_
 rintro e w' ⟨rfl,k,rfl⟩
 go_wp2
 go_ret
 exact⟨rfl,Ab.drewN A0.out k⟩
theorem vD(b:Nat)(wt ar:Int)(w:World)(h1:wt<=9223372036854775807)(h2:ar<=9223372036854775807):Calls prog 169 #[.agg #[.float .f64 b,.int .i64 wt,.int .i64 ar]] w fun e w'=>e=.returned (.float .f64 (dpB wt ar))/\Below w.heap.size w w':=by
 have L:=hid (fun v=>iT wt ar v h1 h2)
 have A0:=iU (bl1 w (.cells #[.float .f64 b,.int .i64 wt,.int .i64 ar] 149))
 clear h1 h2
 generalize dpB wt ar=y at*
 go_enter func169,ntmps169
 go_wp2_with fail
 refine(L.out _).mono ?_
 rintro e w' ⟨rfl,k,rfl⟩
 go_wp2
 go_ret
 exact⟨rfl,Ab.drewN A0.out k⟩
theorem shut_go(b1 b2:Nat)(w1 a1 w2 a2:Int)(l:Nat)(d q:Bool)(w:World)(hq:(d=true/\q=false)\/(d=false/\(flt l b1||feq l b1)=q))
  (WT:Hid (∀v,Calls prog 164 #[.agg #[.float .f64 b1,.int .i64 w1,.int .i64 a1]] v fun e w'=>e=.returned (.bool d)/\Below v.heap.size v w'))
  (LV:Hid (∀v,Calls prog 168 #[.agg #[.float .f64 b2,.int .i64 w2,.int .i64 a2]] v fun e w'=>e=.returned (.float .f64 l)/\Below v.heap.size v w')):
  Calls prog 165 #[.agg #[.float .f64 b1,.int .i64 w1,.int .i64 a1],.agg #[.float .f64 b2,.int .i64 w2,.int .i64 a2]] w fun e w'=>e=.returned (.bool q)/\Below w.heap.size w w':=by
 obtain⟨W_W0,R1,R2⟩:=bJ w (.cells #[.float .f64 b1,.int .i64 w1,.int .i64 a1] 149) (.cells #[.float .f64 b2,.int .i64 w2,.int .i64 a2] 149)
 go_enter func165,ntmps165
 go_upto_region 1 with fail
 generalize hW:World.alloc (World.alloc w _) _=W0 at*
 obtain⟨g1,hg1⟩:=aD w.heap.size
 obtain⟨g2,hg2⟩:=aD (w.heap.size+1)
 rw[hg2]at R2 ⊢
 rw[hg1]at R1 ⊢
 clear hg1 hg2 hW
 rcases hq with⟨rfl,rfl⟩ | ⟨rfl,hq⟩
 ·obtain⟨UU,E,hF1,hF2⟩:=cls W0
  have HU:=hid hF2
  have HU1:=hid hF1
  have HX:Hid (∀u,Ab w (E u)):=fun u=>W_W0.out.trans (hF1 u)
  have x0: ∀u,(E u).cell? ⟨g1,0,none⟩=some (.float .f64 b1):=fun u=>aA 0 ((hF1 u).heap R1.out)
  have x1: ∀u,(E u).cell? ⟨g1,1,none⟩=some (.int .i64 w1):=fun u=>aA 1 ((hF1 u).heap R1.out)
  have x2: ∀u,(E u).cell? ⟨g1,2,none⟩=some (.int .i64 a1):=fun u=>aA 2 ((hF1 u).heap R1.out)
  have y0: ∀u,(E u).cell? ⟨g2,0,none⟩=some (.float .f64 b2):=fun u=>aA 0 ((hF1 u).heap R2.out)
  have y1: ∀u,(E u).cell? ⟨g2,1,none⟩=some (.int .i64 w2):=fun u=>aA 1 ((hF1 u).heap R2.out)
  have y2: ∀u,(E u).cell? ⟨g2,2,none⟩=some (.int .i64 a2):=fun u=>aA 2 ((hF1 u).heap R2.out)
  have DD0:=HU.out _ (Ab.refl W0).drew
  clear hF1 hF2
  refine aJ E (by kernel_rfl) (by kernel_rfl) DD0 ?_
  repeat(go_big_quiet_step (first
   | (with_reducible rfl)
   | (go_at_call 164;exact aH HU HU1 (WT.out _))
   | (go_at_call 168;exact aH HU HU1 (LV.out _))))
  refine wpQuiet_nil ?_
  intro z hwz
  obtain⟨u0,hu⟩:=hwz
  have AZ:Hid (Ab W0 z):=by rw[hu];exact HU1.out u0
  clear hu u0
  clear HU HU1 DD0 HX x0 x1 x2 y0 y1 y2
  clear E UU
  have W_z:Hid (Ab w z):=W_W0.out.trans AZ.out
  go_wp2
  go_ret
  exact⟨rfl,W_z.out⟩
 ·obtain⟨UU,E,hF1,hF2⟩:=cls W0
  have HU:=hid hF2
  have HU1:=hid hF1
  have HX:Hid (∀u,Ab w (E u)):=fun u=>W_W0.out.trans (hF1 u)
  have x0: ∀u,(E u).cell? ⟨g1,0,none⟩=some (.float .f64 b1):=fun u=>aA 0 ((hF1 u).heap R1.out)
  have x1: ∀u,(E u).cell? ⟨g1,1,none⟩=some (.int .i64 w1):=fun u=>aA 1 ((hF1 u).heap R1.out)
  have x2: ∀u,(E u).cell? ⟨g1,2,none⟩=some (.int .i64 a1):=fun u=>aA 2 ((hF1 u).heap R1.out)
  have y0: ∀u,(E u).cell? ⟨g2,0,none⟩=some (.float .f64 b2):=fun u=>aA 0 ((hF1 u).heap R2.out)
  have y1: ∀u,(E u).cell? ⟨g2,1,none⟩=some (.int .i64 w2):=fun u=>aA 1 ((hF1 u).heap R2.out)
  have y2: ∀u,(E u).cell? ⟨g2,2,none⟩=some (.int .i64 a2):=fun u=>aA 2 ((hF1 u).heap R2.out)
  have DD0:=HU.out _ (Ab.refl W0).drew
  clear hF1 hF2
  refine aJ E (by kernel_rfl) (by kernel_rfl) DD0 ?_
  repeat(go_big_quiet_step (first
   | (with_reducible rfl)
   | (go_at_call 164;exact aH HU HU1 (WT.out _))
   | (go_at_call 168;exact aH HU HU1 (LV.out _))))
  refine wpQuiet_nil ?_
  intro z hwz
  obtain⟨u0,hu⟩:=hwz
  have AZ:Hid (Ab W0 z):=by rw[hu];exact HU1.out u0
  clear hu u0
  clear HU HU1 DD0 HX x0 x1 x2 y0 y1 y2
  clear E UU
  have W_z:Hid (Ab w z):=W_W0.out.trans AZ.out
  go_wp2
  go_ret
  exact⟨rfl,W_z.out⟩
theorem EL(b1 b2:Nat)(w1 a1 w2 a2:Int)(w:World)(h1:b2<18446744073709551616)(h2:w2<=9223372036854775807)(h3:a2<=9223372036854775807):Calls prog 165 #[.agg #[.float .f64 b1,.int .i64 w1,.int .i64 a1],.agg #[.float .f64 b2,.int .i64 w2,.int .i64 a2]] w fun e w'=>e=.returned (.bool (shB w1 b1 (lvl b2 w2 a2)))/\Below w.heap.size w w':=by
 refine shut_go b1 b2 w1 a1 w2 a2 (lvl b2 w2 a2) (decide (0<w1)) _ w ?_ (fun v=>Cv b1 w1 a1 v) (fun v=>pD b2 w2 a2 v h1 h2 h3)
 unfold shB
 cases decide (0<w1)
 ·right;exact⟨rfl,by simp⟩
 ·left;exact⟨rfl,by simp⟩
theorem eopen_go(bl br gap vu:Nat)(wl al wr ar:Int)(dl dr s1 s2 q:Bool)(w:World)(hq:(dl=false/\dr=false/\q=false)\/(dl=false/\dr=true/\s1=true/\q=false)\/(dl=false/\dr=true/\s1=false/\q= !s2)\/(dl=true/\s1=true/\q=false)\/(dl=true/\s1=false/\q= !s2))
  (WL:Hid (∀v,Calls prog 164 #[.agg #[.float .f64 bl,.int .i64 wl,.int .i64 al]] v fun e w'=>e=.returned (.bool dl)/\Below v.heap.size v w'))
  (WR:Hid (∀v,Calls prog 164 #[.agg #[.float .f64 br,.int .i64 wr,.int .i64 ar]] v fun e w'=>e=.returned (.bool dr)/\Below v.heap.size v w'))
  (SL:Hid (∀v,Calls prog 165 #[.agg #[.float .f64 bl,.int .i64 wl,.int .i64 al],.agg #[.float .f64 br,.int .i64 wr,.int .i64 ar]] v fun e w'=>e=.returned (.bool s1)/\Below v.heap.size v w'))
  (SR:Hid (∀v,Calls prog 165 #[.agg #[.float .f64 br,.int .i64 wr,.int .i64 ar],.agg #[.float .f64 bl,.int .i64 wl,.int .i64 al]] v fun e w'=>e=.returned (.bool s2)/\Below v.heap.size v w')):
  Calls prog 111 #[.agg #[.float .f64 bl,.int .i64 wl,.int .i64 al,.float .f64 br,.int .i64 wr,.int .i64 ar,.float .f64 gap,.float .f64 vu]] w fun e w'=>e=.returned (.bool q)/\Below w.heap.size w w':=by
 obtain⟨W_W0,R0⟩:=aO w (.cells #[.float .f64 bl,.int .i64 wl,.int .i64 al,.float .f64 br,.int .i64 wr,.int .i64 ar,.float .f64 gap,.float .f64 vu] 151)
 go_enter func111,ntmps111
 go_upto_region 1 with fail
 generalize hW:World.alloc w _=W0 at*
 obtain⟨g1,hg1⟩:=aD w.heap.size
 rw[hg1]at R0 ⊢
 clear hg1 hW
 have R_W0:=R0
 clear R0
 rcases hq with⟨rfl,rfl,rfl⟩ | ⟨rfl,rfl,rfl,rfl⟩ | ⟨rfl,rfl,rfl,rfl⟩ | ⟨rfl,rfl,rfl⟩ | ⟨rfl,rfl,rfl⟩
 ·have c0:=aA 0 R_W0.out
  have c1:=aA 1 R_W0.out
  have c2:=aA 2 R_W0.out
  have c3:=aA 3 R_W0.out
  have c4:=aA 4 R_W0.out
  have c5:=aA 5 R_W0.out
  go_wp2_with fail
  refine(WL.out _).mono ?_
  rintro e9 v0 ⟨rfl,k1⟩
  have W_v0:Hid (Ab w v0):=W_W0.out.call k1
  have R_v0:=hid (Ab.heap k1 R_W0.out)
  clear k1 c0 c1 c2 c3 c4 c5 W_W0 R_W0
  have c0:=aA 0 R_v0.out
  have c1:=aA 1 R_v0.out
  have c2:=aA 2 R_v0.out
  have c3:=aA 3 R_v0.out
  have c4:=aA 4 R_v0.out
  have c5:=aA 5 R_v0.out
  go_wp2_with fail
  refine(WR.out _).mono ?_
  rintro e9 v1 ⟨rfl,k1⟩
  have W_v1:Hid (Ab w v1):=W_v0.out.call k1
  have R_v1:=hid (Ab.heap k1 R_v0.out)
  clear k1 c0 c1 c2 c3 c4 c5 W_v0 R_v0
  go_wp2
  go_ret
  exact⟨rfl,W_v1.out⟩
 ·have c0:=aA 0 R_W0.out
  have c1:=aA 1 R_W0.out
  have c2:=aA 2 R_W0.out
  have c3:=aA 3 R_W0.out
  have c4:=aA 4 R_W0.out
  have c5:=aA 5 R_W0.out
  go_wp2_with fail
  refine(WL.out _).mono ?_
  rintro e9 v0 ⟨rfl,k1⟩
  have W_v0:Hid (Ab w v0):=W_W0.out.call k1
  have R_v0:=hid (Ab.heap k1 R_W0.out)
  clear k1 c0 c1 c2 c3 c4 c5 W_W0 R_W0
  have c0:=aA 0 R_v0.out
  have c1:=aA 1 R_v0.out
  have c2:=aA 2 R_v0.out
  have c3:=aA 3 R_v0.out
  have c4:=aA 4 R_v0.out
  have c5:=aA 5 R_v0.out
  go_wp2_with fail
  refine(WR.out _).mono ?_
  rintro e9 v1 ⟨rfl,k1⟩
  have W_v1:Hid (Ab w v1):=W_v0.out.call k1
  have R_v1:=hid (Ab.heap k1 R_v0.out)
  clear k1 c0 c1 c2 c3 c4 c5 W_v0 R_v0
  have c0:=aA 0 R_v1.out
  have c1:=aA 1 R_v1.out
  have c2:=aA 2 R_v1.out
  have c3:=aA 3 R_v1.out
  have c4:=aA 4 R_v1.out
  have c5:=aA 5 R_v1.out
  go_wp2_with fail
  refine(SL.out _).mono ?_
  rintro e9 v2 ⟨rfl,k1⟩
  have W_v2:Hid (Ab w v2):=W_v1.out.call k1
  have R_v2:=hid (Ab.heap k1 R_v1.out)
  clear k1 c0 c1 c2 c3 c4 c5 W_v1 R_v1
  go_wp2
  go_ret
  exact⟨rfl,W_v2.out⟩
 ·have c0:=aA 0 R_W0.out
  have c1:=aA 1 R_W0.out
  have c2:=aA 2 R_W0.out
  have c3:=aA 3 R_W0.out
  have c4:=aA 4 R_W0.out
  have c5:=aA 5 R_W0.out
  go_wp2_with fail
  refine(WL.out _).mono ?_
  rintro e9 v0 ⟨rfl,k1⟩
  have W_v0:Hid (Ab w v0):=W_W0.out.call k1
  have R_v0:=hid (Ab.heap k1 R_W0.out)
  clear k1 c0 c1 c2 c3 c4 c5 W_W0 R_W0
  have c0:=aA 0 R_v0.out
  have c1:=aA 1 R_v0.out
  have c2:=aA 2 R_v0.out
  have c3:=aA 3 R_v0.out
  have c4:=aA 4 R_v0.out
  have c5:=aA 5 R_v0.out
  go_wp2_with fail
  refine(WR.out _).mono ?_
  rintro e9 v1 ⟨rfl,k1⟩
  have W_v1:Hid (Ab w v1):=W_v0.out.call k1
  have R_v1:=hid (Ab.heap k1 R_v0.out)
  clear k1 c0 c1 c2 c3 c4 c5 W_v0 R_v0
  have c0:=aA 0 R_v1.out
  have c1:=aA 1 R_v1.out
  have c2:=aA 2 R_v1.out
  have c3:=aA 3 R_v1.out
  have c4:=aA 4 R_v1.out
  have c5:=aA 5 R_v1.out
  go_wp2_with fail
  refine(SL.out _).mono ?_
  rintro e9 v2 ⟨rfl,k1⟩
  have W_v2:Hid (Ab w v2):=W_v1.out.call k1
  have R_v2:=hid (Ab.heap k1 R_v1.out)
  clear k1 c0 c1 c2 c3 c4 c5 W_v1 R_v1
  have c0:=aA 0 R_v2.out
  have c1:=aA 1 R_v2.out
  have c2:=aA 2 R_v2.out
  have c3:=aA 3 R_v2.out
  have c4:=aA 4 R_v2.out
  have c5:=aA 5 R_v2.out
  go_wp2_with fail
  refine(SR.out _).mono ?_
  rintro e9 v3 ⟨rfl,k1⟩
  have W_v3:Hid (Ab w v3):=W_v2.out.call k1
  have R_v3:=hid (Ab.heap k1 R_v2.out)
  clear k1 c0 c1 c2 c3 c4 c5 W_v2 R_v2
  go_wp2
  go_ret
  exact⟨rfl,W_v3.out⟩
 ·have c0:=aA 0 R_W0.out
  have c1:=aA 1 R_W0.out
  have c2:=aA 2 R_W0.out
  have c3:=aA 3 R_W0.out
  have c4:=aA 4 R_W0.out
  have c5:=aA 5 R_W0.out
  go_wp2_with fail
  refine(WL.out _).mono ?_
  rintro e9 v0 ⟨rfl,k1⟩
  have W_v0:Hid (Ab w v0):=W_W0.out.call k1
  have R_v0:=hid (Ab.heap k1 R_W0.out)
  clear k1 c0 c1 c2 c3 c4 c5 W_W0 R_W0
  have c0:=aA 0 R_v0.out
  have c1:=aA 1 R_v0.out
  have c2:=aA 2 R_v0.out
  have c3:=aA 3 R_v0.out
  have c4:=aA 4 R_v0.out
  have c5:=aA 5 R_v0.out
  go_wp2_with fail
  refine(SL.out _).mono ?_
  rintro e9 v1 ⟨rfl,k1⟩
  have W_v1:Hid (Ab w v1):=W_v0.out.call k1
  have R_v1:=hid (Ab.heap k1 R_v0.out)
  clear k1 c0 c1 c2 c3 c4 c5 W_v0 R_v0
  go_wp2
  go_ret
  exact⟨rfl,W_v1.out⟩
 ·have c0:=aA 0 R_W0.out
  have c1:=aA 1 R_W0.out
  have c2:=aA 2 R_W0.out
  have c3:=aA 3 R_W0.out
  have c4:=aA 4 R_W0.out
  have c5:=aA 5 R_W0.out
  go_wp2_with fail
  refine(WL.out _).mono ?_
  rintro e9 v0 ⟨rfl,k1⟩
  have W_v0:Hid (Ab w v0):=W_W0.out.call k1
  have R_v0:=hid (Ab.heap k1 R_W0.out)
  clear k1 c0 c1 c2 c3 c4 c5 W_W0 R_W0
  have c0:=aA 0 R_v0.out
  have c1:=aA 1 R_v0.out
  have c2:=aA 2 R_v0.out
  have c3:=aA 3 R_v0.out
  have c4:=aA 4 R_v0.out
  have c5:=aA 5 R_v0.out
  go_wp2_with fail
  refine(SL.out _).mono ?_
  rintro e9 v1 ⟨rfl,k1⟩
  have W_v1:Hid (Ab w v1):=W_v0.out.call k1
  have R_v1:=hid (Ab.heap k1 R_v0.out)
  clear k1 c0 c1 c2 c3 c4 c5 W_v0 R_v0
  have c0:=aA 0 R_v1.out
  have c1:=aA 1 R_v1.out
  have c2:=aA 2 R_v1.out
  have c3:=aA 3 R_v1.out
  have c4:=aA 4 R_v1.out
  have c5:=aA 5 R_v1.out
  go_wp2_with fail
  refine(SR.out _).mono ?_
  rintro e9 v2 ⟨rfl,k1⟩
  have W_v2:Hid (Ab w v2):=W_v1.out.call k1
  have R_v2:=hid (Ab.heap k1 R_v1.out)
  clear k1 c0 c1 c2 c3 c4 c5 W_v1 R_v1
  go_wp2
  go_ret
  exact⟨rfl,W_v2.out⟩
theorem eopen_at(bl br gap vu:Nat)(wl al wr ar:Int)(w:World)(h1:bl<18446744073709551616)(h2:br<18446744073709551616)(h3:wl<=9223372036854775807)(h4:wr<=9223372036854775807)(h5:al<=9223372036854775807)(h6:ar<=9223372036854775807):
  Calls prog 111 #[.agg #[.float .f64 bl,.int .i64 wl,.int .i64 al,.float .f64 br,.int .i64 wr,.int .i64 ar,.float .f64 gap,.float .f64 vu]] w fun e w'=>e=.returned (.bool (opB wl wr (lvl bl wl al) (lvl br wr ar) bl br))/\Below w.heap.size w w':=by
 refine eopen_go bl br gap vu wl al wr ar (decide (0<wl)) (decide (0<wr)) (shB wl bl (lvl br wr ar)) (shB wr br (lvl bl wl al)) _ w ?_ (fun v=>Cv bl wl al v) (fun v=>Cv br wr ar v) (fun v=>EL bl br wl al wr ar v h2 h4 h6) (fun v=>EL br bl wr ar wl al v h1 h3 h5)
 unfold opB shB
 generalize(flt (lvl br wr ar) bl||feq (lvl br wr ar) bl)=p
 generalize(flt (lvl bl wl al) br||feq (lvl bl wl al) br)=q
 cases decide (0<wl)<;>cases decide (0<wr)<;>cases p<;>cases q<;>decide
end Fc
end
section
open Go.RowKit Tf
theorem mlB_qq(a b:Nat):mlB (qB a) (qB b)=mlB a b:=by unfold mlB;rw[oE,oG]
theorem Cw(a b:Nat):mlB a (qB b)=mlB a b:=by unfold mlB;rw[oG]
theorem clampB_q{r q:Nat}(h:IsQ r q)(most:Int):clampB r most=clampB q most:=by
 have e:=h.2
 unfold qB at e
 split at e
 ·rename_i n
  have nq:isN q=true:=by rw[<- e];decide
  unfold clampB
  rw[if_pos n,if_pos nq]
 ·rw[e]
end
section
open Go.RowKit Tf Cu Go.Deep
namespace Fc
theorem canon_qB{x:Nat}:canonB (qB x)=canonB x:=by
 cases h:isN x
 ·rw[fM h]
 ·rw[qB_N h]
  have e:canonB x=quiet:=by unfold canonB;rw[if_pos h]
  rw[e]
  decide
theorem Ak{P:Program}(w:World)(a b:Nat)(ha:a<18446744073709551616)(hb:b<18446744073709551616): ∃r n,(∀t,(binOp .mul t (.float .f64 a) (.float .f64 b)).run P w=.ok (.float .f64 r) (w.drewN n))/\IsQ r (mlB a b):=by
 obtain⟨r,n,h1,h2⟩:=fG (P:=P) w a (qB a) b (qB b) (IsQ.self ha) (IsQ.self hb)
 rw[mlB_qq]at h2
 exact⟨r,n,h1,h2⟩
theorem sub_o{P:Program}(w:World)(a b:Nat)(ha:a<18446744073709551616)(hb:b<18446744073709551616): ∃r n,(∀t,(binOp .sub t (.float .f64 a) (.float .f64 b)).run P w=.ok (.float .f64 r) (w.drewN n))/\IsC r (sbB a b):=by
 obtain⟨r,n,h1,h2⟩:=mW (P:=P) w a (qB a) b (qB b) (IsQ.self ha) (IsQ.self hb)
 rw[sbB_q hb]at h2
 exact⟨r,n,h1,h2⟩
theorem Cx{a b c d:Nat}(ha:a<18446744073709551616)(hb:b<18446744073709551616)(hc:c<18446744073709551616)(hd:d<18446744073709551616)(h:canonB a=canonB c)(k:canonB b=canonB d):canonB (mlB a b)=canonB (mlB c d):=by
 rw[<- kW ha hb,h,kW hc hb,rK,<- kW hb hc,k,kW hd hc,rK]
theorem nQ{r q:Nat}(h:IsQ r q):canonB r=canonB q:=by rw[<- h.2,canon_qB]
theorem pu_o{G dt ll lr gap r1 rd r2:Nat}(hG:G<18446744073709551616)(ht:dt<18446744073709551616)(h1:ll<18446744073709551616)(h2:lr<18446744073709551616)(hg:gap<18446744073709551616)(i1:IsQ r1 (mlB G dt))(i2:IsC rd (sbB lr ll))(i3:IsQ r2 (mlB r1 rd)):dvB r2 gap=puB G dt ll lr gap:=by
 have hd:=cH h2 h1
 unfold puB
 rw[<- oO i3.1 hg,<- oO (dL (dL hG ht) hd) hg,nQ i3,Cx i1.1 i2.1 (dL hG ht) hd (nQ i1) (i2.2.trans (Fq h2 h1).symm)]
theorem u1_o{G dt u ll lr gap r3:Nat}(hu:u<18446744073709551616)(i:IsC r3 (puB G dt ll lr gap)):sbB u r3=u1B G dt u ll lr gap:=by
 unfold u1B
 rw[<- iM hu i.1,<- iM hu (puB_lt _ _ _ _ _),i.2]
 congr 1
 unfold puB
 exact(oC _ _).symm
theorem fgt_can{x y:Nat}(hx:x<18446744073709551616)(hy:y<18446744073709551616)(h:canonB x=canonB y):fgt x 0=fgt y 0/\(fgt x 0=true->x=y):=by
 have r0:rk 0=0:=by decide
 have n0:isN 0=false:=by decide
 rw[fT x 0 hx (by decide),fT y 0 hy (by decide),r0,n0]
 rcases bM hx with⟨a,e⟩ | ⟨a,e⟩ | ⟨a,k,e⟩
 ·rcases bM hy with⟨b,f⟩ | ⟨b,f⟩ | ⟨b,l,f⟩
  ·rw[a,b];simp
  ·rw[e,f]at h;exact absurd h (by decide)
  ·rw[e,f]at h;rw[<- h]at b;exact absurd b (by decide)
 ·have rx:rk x=0:=by unfold rk;rw[a];split<;>rfl
  rcases bM hy with⟨b,f⟩ | ⟨b,f⟩ | ⟨b,l,f⟩
  ·rw[e,f]at h;exact absurd h (by decide)
  ·have ry:rk y=0:=by unfold rk;rw[b];split<;>rfl
   rw[rx,ry];simp
  ·rw[e,f]at h;rw[<- h]at l;exact absurd rfl l
 ·rcases bM hy with⟨b,f⟩ | ⟨b,f⟩ | ⟨b,l,f⟩
  ·rw[e,f]at h;rw[h]at a;exact absurd a (by decide)
  ·rw[e,f]at h;rw[h]at k;exact absurd rfl k
  ·rw[e,f]at h;subst h;simp
theorem h_o{dl dr rs rh:Nat}(h1:dl<18446744073709551616)(h2:dr<18446744073709551616)(i1:IsC rs (addB dl dr))(i2:IsQ rh (mlB 4602678819172646912 rs)):fgt rh 0=fgt (hB dl dr) 0/\(fgt rh 0=true->rh=hB dl dr):=by
 refine fgt_can i2.1 (hB_lt h1 h2) ?_
 unfold hB
 rw[nQ i2]
 refine Cx (by decide) i1.1 (by decide) (iZ _ _ h1 h2) rfl ?_
 rw[i1.2]
 exact(Bs _ _ h1 h2).symm
theorem mag_o{r x:Nat}(i:IsC r x):canonB (mg r)=canonB (mg x):=by
 have hx:x<18446744073709551616:=by rw[<- i.2];exact Fk i.1
 rcases bM i.1 with⟨a,e⟩ | ⟨a,e⟩ | ⟨a,k,e⟩
 ·have ex:x=quiet:=by rw[<- i.2,e]
  subst ex
  have n:isN (mg r)=true:=by
   rw[bT]at a ⊢
   have:mg (mg r)=mg r:=by unfold mg;omega
   rw[this];exact a
  have c:canonB (mg r)=quiet:=by unfold canonB;rw[if_pos n]
  rw[c]
  decide
 ·have ex:x=0:=by rw[<- i.2,e]
  subst ex
  rw[a]
  rfl
 ·have ex:x=r:=by rw[<- i.2,e]
  rw[ex]
theorem dg_o{D dt u1 h r6 m r7:Nat}(hD:D<18446744073709551616)(ht:dt<18446744073709551616)(hh:h<18446744073709551616)(i6:IsQ r6 (mlB D dt))(hm:m<18446744073709551616)(im:canonB m=canonB (mg u1))(i7:IsQ r7 (mlB r6 m)):dvB r7 h=dvB (mlB (mlB D dt) (mg u1)) h:=by
 have hu:=wT u1
 rw[<- oO i7.1 hh,<- oO (dL (dL hD ht) hu) hh,nQ i7,Cx i6.1 hm (dL hD ht) hu (nQ i6) im]
theorem add_can2{a x y:Nat}(ha:a<18446744073709551616)(hx:x<18446744073709551616)(hy:y<18446744073709551616)(h:canonB x=canonB y):addB a x=addB a y:=by
 have e: ∀z,z<18446744073709551616->addB a z=sbB a (negB z):=fun z hz=>by unfold sbB;rw[Bp hz]
 have c:canonB (negB x)=canonB (negB y):=by
  have hx2:IsC x (canonB x):=⟨hx,rfl⟩
  have hy2:IsC y (canonB x):=⟨hy,h.symm⟩
  rw[cn_of hx2,cn_of hy2]
 rw[e x hx,e y hy,<- iM ha (cG hx),<- iM ha (cG hy),c]
theorem one_nz{y z:Nat}(hy:y<18446744073709551616)(e:Ieee.double.add 4607182418800017408 y=some z):z≠9223372036854775808:=by
 rcases three y with c | c | c
 ·rw[yA 4607182418800017408 y (by decide) hy (by decide) c]at e
  injection e with e
  rw[show(ng 4607182418800017408&&ng y)=false by rw[show ng 4607182418800017408=false by decide];rfl]at e
  rw[<- e]
  generalize sv 4607182418800017408+sv y=v
  by_cases z:v=0
  ·subst z;rw[qC];decide
  ·intro q
   have h1:mg (rn false v)=0:=by rw[q];decide
   rw[yE]at h1
   have h2:1<=rung 52 0 v.natAbs:=by
    have e1:mag 52 1=1:=by decide
    exact mG (by omega) (by rw[Nat.pow_zero,Nat.mul_one,e1];omega)
   generalize rung 52 0 v.natAbs=r at*
   omega
 ·rw[jW 4607182418800017408 y hy (by decide) c]at e
  injection e with e
  rw[<- e]
  cases ng y<;>decide
 ·rw[bZ 4607182418800017408 y (.inr c)]at e
  cases e
theorem dv_o{x y r9:Nat}(hy:y<18446744073709551616)(hr:r9<18446744073709551616)(e:Ieee.double.add 4607182418800017408 y=some r9\/(Ieee.double.add 4607182418800017408 y=none/\isN r9=true)):dvB x r9=dvB x (addB 4607182418800017408 y):=by
 rcases e with e | ⟨e,n⟩
 ·rw[bN e]
  rcases bM hr with⟨a,c⟩ | ⟨a,c⟩ | ⟨a,k,c⟩
  ·rw[c,kH a,kH (by decide)]
  ·rcases eF hr a with q | q
   ·rw[q];rfl
   ·exact absurd q (one_nz hy e)
  ·rw[c]
 ·rw[bC e,kH n,kH (by decide)]
theorem cu_canon{x:Nat}(hx:x<18446744073709551616):cuB (canonB x)=cuB x:=by
 rcases bM hx with⟨a,e⟩ | ⟨a,e⟩ | ⟨_,_,e⟩
 ·rw[e]
  rcases uU hx with⟨_,c⟩ | ⟨n,_⟩ | ⟨n,_⟩ | ⟨n,_⟩
  ·rw[c];decide
  ·rw[a]at n;cases n
  ·rw[a]at n;cases n
  ·rw[a]at n;cases n
 ·rw[e]
  rcases eF hx a with rfl | rfl
  ·rfl
  ·decide
 ·rw[e]
theorem add_o{P:Program}(w:World)(a b:Nat)(ha:a<18446744073709551616)(hb:b<18446744073709551616): ∃r n,(∀t,(binOp .add t (.float .f64 a) (.float .f64 b)).run P w=.ok (.float .f64 r) (w.drewN n))/\IsC r (addB a b)/\(Ieee.double.add a b=some r\/(Ieee.double.add a b=none/\isN r=true)):=by
 cases e:Ieee.double.add a b with
 | none=>exact⟨nanOf w a b,1,fun t=>kC w t a b e,⟨fO _ _ _,by rw[bC e];unfold canonB;rw[if_pos (eA _ _ _)]⟩,.inr ⟨rfl,eA _ _ _⟩⟩
 | some r=>exact⟨r,0,fun t=>run_float_arith w .add t .f64 a b r e,⟨(IsQ.add (IsQ.self ha) (IsQ.self hb) e).1,by rw[bN e]⟩,.inl rfl⟩
theorem sp_o{G dt D u ll lr dl dr gap r4 r8 r9 r10 h:Nat}(i4:IsC r4 (u1B G dt u ll lr gap))(hh:h=hB dl dr)(q:fgt h 0=true)(i8:IsC r8 (dvB (mlB (mlB D dt) (mg (u1B G dt u ll lr gap))) h))(h9:r9<18446744073709551616)(e9:Ieee.double.add 4607182418800017408 r8=some r9\/(Ieee.double.add 4607182418800017408 r8=none/\isN r9=true))(i10:IsC r10 (dvB r4 r9)):cuB r10=spB G dt D u ll lr dl dr gap:=by
 have e1:dvB r4 r9=dvB (u1B G dt u ll lr gap) (drB D dt (u1B G dt u ll lr gap) h):=by
  rw[dv_o i8.1 h9 e9,<- oO i4.1 (iZ _ _ (by decide) i8.1),i4.2]
  unfold drB
  rw[add_can2 (by decide) i8.1 (rO _ _) (by rw[i8.2,oC])]
 have e2:cuB r10=cuB (dvB r4 r9):=by
  rw[<- i10.2]
  exact(cu_canon i10.1).symm
 unfold spB
 rw[<- hh,if_pos q,e2,e1]
end Fc
end
end Go.Proofs.YtaphajlpbgcfjaaGreatDoor
