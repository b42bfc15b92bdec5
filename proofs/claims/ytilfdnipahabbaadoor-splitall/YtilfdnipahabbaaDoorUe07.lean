/-
  Some of the texts of this proof, one behind the other.
-/
import Derived.Test.YtilfdnipahabbaaDoorUe06
set_option maxRecDepth 100000
set_option maxHeartbeats 400000000
namespace Go.Proofs.YtilfdnipahabbaaDoor
open _root_.Go.Proofs.Tryd
section
open Cu
def mm(e:P3)(f s:Nat):P3:=pl e (sc (-1) (wy f s))
def gI(n:Nat)(e:P3)(f s:Nat):Int:=dt (mm e f s) (cR f)+n - 1
def gJ(n:Nat)(e:P3)(f s:Nat):Int:=dt (mm e f s) (cU f)+n - 1
def eg(n f t a b:Nat):P3:=pl (ms n f t a b) (wy f t)
theorem eg_on{n f t a b:Nat}(hf:f<6)(ht:t<4):dt (eg n f t a b) (cC f)=n:=by
 rcases six hf with rfl | rfl | rfl | rfl | rfl | rfl<;>rcases four ht with rfl | rfl | rfl | rfl<;>simp only[eg,ms,pl,sc,dt,cC,cR,cU,wy,Nat.reduceAdd,Nat.reduceMod]<;>omega
theorem eg_only{n f t a b k:Nat}(hf:f<6)(ht:t<4)(hk:k<6)(_ha:a<n)(hb:b<n): ¬dt (eg n f t a b) (cC k)=n\/k=f\/(a+1=n/\k=nf f t):=by
 rcases six hf with rfl | rfl | rfl | rfl | rfl | rfl<;>rcases four ht with rfl | rfl | rfl | rfl<;>rcases six hk with rfl | rfl | rfl | rfl | rfl | rfl<;>simp only[eg,ms,pl,sc,dt,cC,cR,cU,wy,nf,List.getD,List.getElem?_cons_zero,List.getElem?_cons_succ,Option.getD_some,Nat.reduceAdd,Nat.reduceMod,true_or,or_true,and_true]<;>omega
theorem g_same{n f t a b:Nat}(hf:f<6)(ht:t<4)(ha:a<n)(hb:b<n):gI n (eg n f t a b) f t=2*(atI n t a b:Nat)/\gJ n (eg n f t a b) f t=2*(atJ n t a b:Nat):=by
 rcases six hf with rfl | rfl | rfl | rfl | rfl | rfl<;>rcases four ht with rfl | rfl | rfl | rfl<;>simp only[gI,gJ,mm,eg,ms,pl,sc,dt,cC,cR,cU,wy,atI,atJ,Nat.reduceAdd,Nat.reduceMod]<;>omega
def upI(n t a b:Nat):Int:=match t with | 0=>a+1 | 1=>n - 1 - b | 2=>n - 2 - a | _=>b
def upJ(n t a b:Nat):Int:=match t with | 0=>b | 1=>a+1 | 2=>n - 1 - b | _=>n - 2 - a
theorem g_next{n f t a b:Nat}(hf:f<6)(ht:t<4):gI n (eg n f t a b) f ((t+2)%4)=2*upI n t a b/\gJ n (eg n f t a b) f ((t+2)%4)=2*upJ n t a b:=by
 rcases six hf with rfl | rfl | rfl | rfl | rfl | rfl<;>rcases four ht with rfl | rfl | rfl | rfl<;>simp only[gI,gJ,mm,eg,ms,pl,sc,dt,cC,cR,cU,wy,upI,upJ,Nat.reduceAdd,Nat.reduceMod]<;>omega
theorem g_odd{n f t a b s:Nat}(hf:f<6)(ht:t<4)(hs:s<4)(h1:s≠t)(h2:s≠(t+2)%4):gI n (eg n f t a b) f s%2=1/\gJ n (eg n f t a b) f s%2=1:=by
 rcases six hf with rfl | rfl | rfl | rfl | rfl | rfl<;>rcases four ht with rfl | rfl | rfl | rfl<;>rcases four hs with rfl | rfl | rfl | rfl<;>first
  | exact absurd rfl h1
  | exact absurd rfl h2
  | (simp only[gI,gJ,mm,eg,ms,pl,sc,dt,cC,cR,cU,wy,Nat.reduceAdd,Nat.reduceMod];omega)
theorem ms_rev{n f s a b:Nat}(hf:f<6)(hs:s<4)(ha:a<n)(hb:b<n):ms n f ((s+2)%4) (n - 1 - a) (n - 1 - b)=ms n f s a b:=by
 rcases six hf with rfl | rfl | rfl | rfl | rfl | rfl<;>rcases four hs with rfl | rfl | rfl | rfl<;>simp only[ms,pl,sc,cC,cR,cU,wy,Nat.reduceAdd,Nat.reduceMod,Prod.mk.injEq]<;>omega
theorem tdm(k:Int):(2*k).tdiv 2=k/\(2*k).tmod 2=0:=⟨Int.mul_tdiv_cancel_left k (by omega),Int.mul_tmod_right 2 k⟩
theorem tdo{x:Int}(h:x%2=1):x.tmod 2≠0:=by
 intro h2
 have:=Int.dvd_of_tmod_eq_zero h2
 omega
def gd(n:Nat)(e:P3)(f s:Nat):Int:=cN n f ((gI n e f s).tdiv 2) ((gJ n e f s).tdiv 2)
theorem cN_nm{n f i j:Nat}(hn:1<=n/\n<=32)(hf:f<6)(hi:i<n)(hj:j<n):cN n f i j=(nm n f i j:Nat):=by
 unfold cN
 rw[if_pos ⟨by omega,by rw[aN];omega,by rw[aN];omega,by rw[aN];omega⟩]
 simp[nm]
theorem cN_out{n f:Nat}{i j:Int}(h: ¬((0<=i/\i<n)/\0<=j/\j<n)):cN n f i j= -1:=by
 unfold cN
 rw[if_neg]
 rintro⟨_,_,h1,h2⟩
 rw[aN]at h1 h2
 exact h ⟨h1,h2⟩
theorem up_in{n t a b:Nat}(ht:t<4)(ha:a+1<n)(hb:b<n):upI n t a b=(atI n t (a+1) b:Nat)/\upJ n t a b=(atJ n t (a+1) b:Nat):=by
 rcases four ht with rfl | rfl | rfl | rfl<;>simp only[upI,upJ,atI,atJ,true_and,and_true]<;>omega
theorem up_out{n t a b:Nat}(ht:t<4)(ha:a+1=n): ¬((0<=upI n t a b/\upI n t a b<n)/\0<=upJ n t a b/\upJ n t a b<n):=by
 rcases four ht with rfl | rfl | rfl | rfl<;>simp only[upI,upJ]<;>omega
theorem jX{n f t a b:Nat}(hn:1<=n/\n<=32)(hf:f<6)(ht:t<4)(ha:a<n)(hb:b<n):
  (gI n (eg n f t a b) f t).tmod 2=0/\(gJ n (eg n f t a b) f t).tmod 2=0/\gd n (eg n f t a b) f t=(Pn n f t a b:Nat):=by
 obtain⟨h1,h2⟩:=g_same hf ht ha hb
 unfold gd
 rw[h1,h2,(tdm _).1,(tdm _).1,(tdm _).2,(tdm _).2]
 exact⟨rfl,rfl,cN_nm hn hf (eJ ha hb).1 (eJ ha hb).2⟩
theorem jY{n f t a b:Nat}(hn:1<=n/\n<=32)(hf:f<6)(ht:t<4)(ha:a<n)(hb:b<n):
  (gI n (eg n f t a b) f ((t+2)%4)).tmod 2=0/\(gJ n (eg n f t a b) f ((t+2)%4)).tmod 2=0/\gd n (eg n f t a b) f ((t+2)%4)=if a+1<n then((Pn n f t (a+1) b:Nat):Int)else -1:=by
 obtain⟨h1,h2⟩:=g_next (n:=n) (a:=a) (b:=b) hf ht
 unfold gd
 rw[h1,h2,(tdm _).1,(tdm _).1,(tdm _).2,(tdm _).2]
 refine⟨rfl,rfl,?_⟩
 by_cases h:a+1<n
 ·rw[if_pos h,(up_in ht h hb).1,(up_in ht h hb).2]
  exact cN_nm hn hf (eJ h hb).1 (eJ h hb).2
 ·rw[if_neg h]
  exact cN_out (up_out ht (by omega))
theorem rD{n f t a b:Nat}(hf:f<6)(ht:t<4)(ha:a+1=n)(hb:b<n):eg n f t a b=eg n (nf f t) ((ns f t+2)%4) a (n - 1 - b):=by
 obtain⟨h1,h2⟩:=iY f hf t ht
 have h:=qC (b:=b) hf ht ha
 have hr:=ms_rev (a:=0) (b:=b) h1 h2 (show 0<n by omega) hb
 rw[show n - 1 - 0=a by omega]at hr
 have hb:=(qA f hf t ht).2
 unfold eg
 rw[hr,<- h,<- hb]
 simp only[pl,sc,Prod.mk.injEq]
 omega
theorem scan{n f t a b k s:Nat}(hn:1<=n/\n<=32)(hf:f<6)(ht:t<4)(ha:a<n)(hb:b<n)(hk:k<6)(hs:s<4)(hd:dt (eg n f t a b) (cC k)=n):
  (gI n (eg n f t a b) k s).tmod 2≠0\/((gI n (eg n f t a b) k s).tmod 2=0/\(gJ n (eg n f t a b) k s).tmod 2=0/\
   (gd n (eg n f t a b) k s= -1\/gd n (eg n f t a b) k s=(Pn n f t a b:Nat)\/(gd n (eg n f t a b) k s=(bsC n (Pn n f t a b) t:Nat)/\s=bsS n (Pn n f t a b) t))):=by
 obtain⟨b1,b2⟩:=kG (f:=f) ht ha hb
 rcases(eg_only hf ht hk ha hb).resolve_left (fun h=>h hd)with rfl | ⟨he,rfl⟩
 ·by_cases h1:s=t
  ·subst h1
   obtain⟨x,y,z⟩:=jX hn hf ht ha hb
   exact .inr ⟨x,y,.inr (.inl z)⟩
  ·by_cases h2:s=(t+2)%4
   ·subst h2
    obtain⟨x,y,z⟩:=jY hn hf ht ha hb
    refine .inr ⟨x,y,?_⟩
    rw[z,b1,b2]
    by_cases h:a+1<n
    ·rw[if_pos h,if_pos h,if_pos h];exact .inr (.inr ⟨rfl,rfl⟩)
    ·rw[if_neg h];exact .inl rfl
   ·exact .inl (tdo (g_odd hf ht hs h1 h2).1)
 ·obtain⟨l1,l2⟩:=iY f hf t ht
  have l3:(ns f t+2)%4<4:=Nat.mod_lt _ (by omega)
  have hb':n - 1 - b<n:=by omega
  rw[rD hf ht he hb,b1,b2,if_neg (by omega),if_neg (by omega)]
  have hP:Pn n (nf f t) (ns f t) 0 b=Pn n (nf f t) ((ns f t+2)%4) a (n - 1 - b):=by
   rw[fA l2 (show 0<n by omega) hb,show n - 1 - 0=a by omega]
  by_cases h1:s=(ns f t+2)%4
  ·subst h1
   obtain⟨x,y,z⟩:=jX hn l1 l3 ha hb'
   exact .inr ⟨x,y,.inr (.inr ⟨by rw[z,hP],rfl⟩)⟩
  ·by_cases h2:s=((ns f t+2)%4+2)%4
   ·subst h2
    obtain⟨x,y,z⟩:=jY hn l1 l3 ha hb'
    rw[if_neg (by omega)]at z
    exact .inr ⟨x,y,.inl z⟩
   ·exact .inl (tdo (g_odd l1 l3 hs h1 h2).1)
theorem scan_hit{n f t a b:Nat}(hn:1<=n/\n<=32)(hf:f<6)(ht:t<4)(ha:a<n)(hb:b<n):
  ∃k s,k<6/\s<4/\dt (eg n f t a b) (cC k)=n/\(gI n (eg n f t a b) k s).tmod 2=0/\(gJ n (eg n f t a b) k s).tmod 2=0/\
   gd n (eg n f t a b) k s=(bsC n (Pn n f t a b) t:Nat)/\s=bsS n (Pn n f t a b) t:=by
 obtain⟨b1,b2⟩:=kG (f:=f) ht ha hb
 by_cases h:a+1<n
 ·obtain⟨x,y,z⟩:=jY hn hf ht ha hb
  refine⟨f,(t+2)%4,hf,Nat.mod_lt _ (by omega),eg_on hf ht,x,y,?_,?_⟩
  ·rw[z,b1,if_pos h,if_pos h]
  ·rw[b2,if_pos h]
 ·obtain⟨l1,l2⟩:=iY f hf t ht
  have l3:(ns f t+2)%4<4:=Nat.mod_lt _ (by omega)
  have hb':n - 1 - b<n:=by omega
  obtain⟨x,y,z⟩:=jX hn l1 l3 ha hb'
  rw[b1,b2,if_neg h,if_neg h,rD hf ht (by omega) hb]
  refine⟨nf f t,(ns f t+2)%4,l1,l3,eg_on l1 l3,x,y,?_,rfl⟩
  rw[z,fA (s:=ns f t) l2 (show 0<n by omega) hb,show n - 1 - 0=a by omega]
end
section
open Go.RowKit Cu
theorem mm_two(e:P3)(k:Nat):pl e (sc 1 (cR k))=mm e k 2:=by simp only[mm,wy,pl,sc,Prod.mk.injEq];omega
theorem mm_three(e:P3)(k:Nat):pl e (sc 1 (cU k))=mm e k 3:=by simp only[mm,wy,pl,sc,Prod.mk.injEq];omega
theorem dt_le{p q:P3}(hp:(-200<=p.1/\p.1<=200)/\(-200<=p.2.1/\p.2.1<=200)/\(-200<=p.2.2/\p.2.2<=200))(hq:Un q): -600<=dt p q/\dt p q<=600:=by
 have h1:=(aZ hq.1 200 hp.1).1
 have h2:=(aZ hq.2.1 200 hp.2.1).1
 have h3:=(aZ hq.2.2 200 hp.2.2).1
 unfold dt
 omega
theorem Sm.of_le{p:P3}(hp:(-200<=p.1/\p.1<=200)/\(-200<=p.2.1/\p.2.1<=200)/\(-200<=p.2.2/\p.2.2<=200)):Sm p:=by unfold Sm;omega
theorem mm_le{e:P3}{k s:Nat}(he:(-150<=e.1/\e.1<=150)/\(-150<=e.2.1/\e.2.1<=150)/\(-150<=e.2.2/\e.2.2<=150))(hw:Un (wy k s)):(-200<=(mm e k s).1/\(mm e k s).1<=200)/\(-200<=(mm e k s).2.1/\(mm e k s).2.1<=200)/\(-200<=(mm e k s).2.2/\(mm e k s).2.2<=200):=by
 unfold Un at hw
 simp only[mm,pl,sc]
 omega
theorem scan_all{n c B S:Nat}(d:P3){j s:Nat}(_hs:s<4)(he:(-150<=d.1/\d.1<=150)/\(-150<=d.2.1/\d.2.1<=150)/\(-150<=d.2.2/\d.2.2<=150))
  (h:(gI n d j s).tmod 2≠0\/((gI n d j s).tmod 2=0/\(gJ n d j s).tmod 2=0/\(gd n d j s= -1\/gd n d j s=(c:Nat)\/(gd n d j s=(B:Nat)/\s=S)))) (uR:Un (cR j)) (uU:Un (cU j)) (uw:Un (wy j s)):
  ∃x y:Int,Hid (dt (mm d j s) (cR j)=x/\Sm (mm d j s)/\Un (cR j))/\Hid (dt (mm d j s) (cU j)=y/\Sm (mm d j s)/\Un (cU j))/\(-600<=x/\x<=600)/\(-600<=y/\y<=600)/\
   Hid ((gI n d j s).tmod 2≠0/\(x+n - 1).tmod 2≠0\/((x+n - 1).tmod 2=0/\(y+n - 1).tmod 2=0/\gd n d j s=cN n j ((x+n - 1).tdiv 2) ((y+n - 1).tdiv 2)/\(gd n d j s= -1\/gd n d j s=(c:Nat)\/(gd n d j s=(B:Nat)/\s=S)))):=by
 have hm:=mm_le he uw
 refine⟨_,_,⟨rfl,Sm.of_le hm,uR⟩,⟨rfl,Sm.of_le hm,uU⟩,dt_le hm uR,dt_le hm uU,?_⟩
 rcases h with h | ⟨h1,h2,h3⟩
 ·exact .inl ⟨h,h⟩
 ·exact .inr ⟨h1,h2,rfl,h3⟩
theorem pT(n c t B S k0 s0:Nat)(d p q:P3)(w:World)(hn:1<=n/\n<=32)(hc:c<6*n*n)(ht:t<4)
  (MI:Hid (∀u,Calls prog 45 #[.int .i64 n,.int .i64 c] u fun e w'=>e=.returned (.agg #[.int .i64 p.1,.int .i64 p.2.1,.int .i64 p.2.2])/\Below u.heap.size u w'))
  (WA:Hid (∀u,Calls prog 46 #[.int .i64 n,.int .i64 c,.int .i64 t] u fun e w'=>e=.returned (.agg #[.int .i64 q.1,.int .i64 q.2.1,.int .i64 q.2.2])/\Below u.heap.size u w'))
  (PE:Hid (∀u,Calls prog 44 #[.agg #[.int .i64 p.1,.int .i64 p.2.1,.int .i64 p.2.2],.int .i64 1,.agg #[.int .i64 q.1,.int .i64 q.2.1,.int .i64 q.2.2]] u fun e w'=>e=.returned (.agg #[.int .i64 d.1,.int .i64 d.2.1,.int .i64 d.2.2])/\Below u.heap.size u w'))
  (he:(-150<=d.1/\d.1<=150)/\(-150<=d.2.1/\d.2.1<=150)/\(-150<=d.2.2/\d.2.2<=150))
  (hS: ∀k<6,∀s<4,dt d (cC k)=n->(gI n d k s).tmod 2≠0\/((gI n d k s).tmod 2=0/\(gJ n d k s).tmod 2=0/\(gd n d k s= -1\/gd n d k s=(c:Nat)\/(gd n d k s=(B:Nat)/\s=S))))
  (hH:k0<6/\s0<4/\dt d (cC k0)=n/\(gI n d k0 s0).tmod 2=0/\(gJ n d k0 s0).tmod 2=0/\gd n d k0 s0=(B:Nat)) (hB:B≠c):
  Calls prog 28 #[.int .i64 n,.int .i64 c,.int .i64 t] w fun e w'=>e=.returned (.tuple #[.int .i64 B,.int .i64 S])/\Below w.heap.size w w':=by
 obtain⟨m,hm⟩:=aC (clN n)
 have C:Hid (∀u,Calls prog 27 #[.int .i64 n] u fun e w'=>e=.returned (.int .i64 m)/\w'=u):=fun u=>by rw[<- hm];exact cV n u
 have hcm:(c:Int)<m:=by rw[<- hm,fC hn];omega
 have ht':(t:Int)<4:=by omega
 have hn1:(1:Int)<=n:=by omega
 have hn2:(n:Int)<=32:=by omega
 have HE:=hid he
 have HS:=hid hS
 have HH:=hid hH
 have HB:=hid hB
 have FR:=hid (fun(f:Nat) (hf:f<6) u=>hU f u hf)
 have RC:=hid rcell_at
 clear hm he hB hn hc ht hS hH
 go_enter func28,ntmps28
 go_wp2_with (first
  | (go_at_call 27;refine(C.out _).mono ?_;rintro e w ⟨rfl,rfl⟩)
  | (go_at_call 45;refine(MI.out _).mono ?_;rintro e w1 ⟨rfl,b1⟩)
  | (go_at_call 46;refine(WA.out _).mono ?_;rintro e w2 ⟨rfl,b2⟩)
  | (go_at_call 44;refine(PE.out _).mono ?_;rintro e w3 ⟨rfl,b3⟩))
 have A3:=(Ab.call b1 b2).call b3
 generalize hW:World.alloc _ _=W
 obtain⟨g8,hg8⟩:=aC w3.heap.size
 have r8:W.heap[g8]? =some (.cells #[.int .i64 d.1,.int .i64 d.2.1,.int .i64 d.2.2] 92):=by rw[<- hW,<- hg8];exact heap_alloc_new _ _
 have AW:Hid (Ab w W):=by rw[<- hW];exact A3.alloc _
 have R8:=hid r8
 rw[hg8]
 clear hW hg8 r8 A3 b1 b2 b3 MI WA PE C hcm ht'
 go_loopw [9] (fun iv wr=> ∃j:Nat,j<=k0/\iv=.int .i64 (j:Nat)/\Ab W wr) (fun iv _=>6 - (intOf iv).toNat)
 case atStart=>exact⟨0,by omega,rfl,Ab.refl _⟩
 case round=>
  obtain⟨j,hj,rfl,A⟩:=hrel
  have hj6:j<6:=by have:=HH.out.1;omega
  have hj':(j:Int)<6:=by omega
  have F1:=hid (FR.out j hj6 wr)
  have AA:=hid A
  have HJ:=hid hj6
  have HJK:=hid hj
  have DO:=hid (fun u=>cT d (cC j) u (Sm.of_le (by have:=HE.out;omega)) (un_C hj6))
  obtain⟨wo,rfl⟩: ∃wo:World,wo=wr:=⟨_,rfl⟩
  clear A hj hj6
  go_wp2_with fail
  refine F1.out.mono ?_
  rintro e w2 ⟨rfl,b2⟩
  have A2:=hid (AA.out.call b2)
  obtain⟨-,x0,x1,x2⟩:=rowfacts (A2.out.heap R8.out)
  have hlt:=lt_of_block (A2.out.heap R8.out)
  have hlt1:g8<w2.heap.size+1:=by omega
  have hlt2:g8<w2.heap.size+1+1:=by omega
  clear b2 F1 FR
  by_cases hd:dt d (cC j)=n
  ·have hd':(dt d (cC j) != (n:Int))=false:=by simpa using hd
   have HD:=hid hd
   clear hd
   go_wp2_with (go_at_call 48;refine(DO.out _).mono ?_;rintro e w3 ⟨rfl,b3⟩)
   have A3w:Ab W w3:=(((A2.out.alloc _).alloc _).alloc _).call b3
   obtain⟨g,hg⟩:=aC w2.heap.size
   have r11:w3.heap[g+1]? =some (.cells #[.int .i64 (cR j).1,.int .i64 (cR j).2.1,.int .i64 (cR j).2.2] 92):=by
    refine(b3.block _ (by simp;omega)).trans ?_
    rw[<- hg,Below.heap_alloc _ _ _ (by simp)];exact heap_alloc2_new _ _ _
   have r12:w3.heap[g+1+1]? =some (.cells #[.int .i64 (cU j).1,.int .i64 (cU j).2.1,.int .i64 (cU j).2.2] 92):=by
    refine(b3.block _ (by simp;omega)).trans ?_
    rw[<- hg];exact aV _ _ _ _
   have R11:=hid r11
   have R12:=hid r12
   have R8w:=hid (A3w.heap R8.out)
   have AW3:=hid A3w
   rw[hg]
   have sd:Sm d:=Sm.of_le (by have:=HE.out;omega)
   have uR:=gS HJ.out
   have uU:=un_U HJ.out
   have P0:Hid (∀u,Calls prog 44 #[.agg #[.int .i64 d.1,.int .i64 d.2.1,.int .i64 d.2.2],.int .i64 (-1),.agg #[.int .i64 (cR j).1,.int .i64 (cR j).2.1,.int .i64 (cR j).2.2]] u fun e w'=>e=.returned (.agg #[.int .i64 (mm d j 0).1,.int .i64 (mm d j 0).2.1,.int .i64 (mm d j 0).2.2])/\Below u.heap.size u w'):=fun u=>aY d (-1) (cR j) u sd (cF uR (by omega))
   have P1:Hid (∀u,Calls prog 44 #[.agg #[.int .i64 d.1,.int .i64 d.2.1,.int .i64 d.2.2],.int .i64 (-1),.agg #[.int .i64 (cU j).1,.int .i64 (cU j).2.1,.int .i64 (cU j).2.2]] u fun e w'=>e=.returned (.agg #[.int .i64 (mm d j 1).1,.int .i64 (mm d j 1).2.1,.int .i64 (mm d j 1).2.2])/\Below u.heap.size u w'):=fun u=>aY d (-1) (cU j) u sd (cF uU (by omega))
   have P2:Hid (∀u,Calls prog 44 #[.agg #[.int .i64 d.1,.int .i64 d.2.1,.int .i64 d.2.2],.int .i64 1,.agg #[.int .i64 (cR j).1,.int .i64 (cR j).2.1,.int .i64 (cR j).2.2]] u fun e w'=>e=.returned (.agg #[.int .i64 (mm d j 2).1,.int .i64 (mm d j 2).2.1,.int .i64 (mm d j 2).2.2])/\Below u.heap.size u w'):=fun u=>by rw[<- mm_two];exact aY d 1 (cR j) u sd (cF uR (by omega))
   have P3:Hid (∀u,Calls prog 44 #[.agg #[.int .i64 d.1,.int .i64 d.2.1,.int .i64 d.2.2],.int .i64 1,.agg #[.int .i64 (cU j).1,.int .i64 (cU j).2.1,.int .i64 (cU j).2.2]] u fun e w'=>e=.returned (.agg #[.int .i64 (mm d j 3).1,.int .i64 (mm d j 3).2.1,.int .i64 (mm d j 3).2.2])/\Below u.heap.size u w'):=fun u=>by rw[<- mm_three];exact aY d 1 (cU j) u sd (cF uU (by omega))
   have GN:=hid (fun s (hs:s<4)=>scan_all d hs HE.out (HS.out j HJ.out s hs HD.out) uR uU (iA (s:=s) HJ.out))
   have HK:Hid (∀s,(gI n d j s).tmod 2≠0-> ¬(j=k0/\s=s0)):=fun s h e=>h (by rw[e.1,e.2];exact HH.out.2.2.2.1)
   have HK2:Hid (∀s,gd n d j s≠(B:Nat)-> ¬(j=k0/\s=s0)):=fun s h e=>h (by rw[e.1,e.2];exact HH.out.2.2.2.2.2)
   have HH1:=hid HH.out.2.1
   clear b3 A3w r11 r12 hg x0 x1 x2 hlt hlt1 hlt2 hd' DO A2 sd uR uU HS HH R8
   go_loopw [13] (fun sv wr=> ∃s:Nat,s<=4/\(j=k0->s<=s0)/\sv=.int .i64 (s:Nat)/\Ab w3 wr) (fun sv _=>4 - (intOf sv).toNat)
   case atStart=>exact⟨0,by omega,fun _=>by omega,rfl,Ab.refl _⟩
   case round=>
    obtain⟨s,hs4,hsk,rfl,A⟩:=hrel
    have AA2:=hid A
    have HSK:=hid hsk
    clear A hsk
    rcases(show s=0\/s=1\/s=2\/s=3\/s=4 by omega)with rfl | rfl | rfl | rfl | rfl<;>clear hs4
    ·obtain⟨-,e0,e1,e2⟩:=rowfacts (AA2.out.heap R8w.out)
     obtain⟨-,r0,r1,r2⟩:=rowfacts (AA2.out.heap R11.out)
     go_wp2_with fail
     refine(P0.out _).mono ?_
     rintro e w4 ⟨rfl,b4⟩
     have A4:=AA2.out.call b4
     clear e0 e1 e2 r0 r1 r2 b4
     go_upto_region 19 with fail
     generalize hV:World.alloc _ _=V
     obtain⟨gm,hgm⟩:=aC w4.heap.size
     have rm:V.heap[gm]? =some (.cells #[.int .i64 (mm d j 0).1,.int .i64 (mm d j 0).2.1,.int .i64 (mm d j 0).2.2] 92):=by rw[<- hV,<- hgm];exact heap_alloc_new _ _
     have AV:Ab w3 V:=by rw[<- hV];exact A4.alloc _
     rw[hgm]
     clear A4 hV hgm
     have RM:=hid rm
     have AVh:=hid AV
     obtain⟨-,q0,q1,q2⟩:=rowfacts rm
     obtain⟨-,r0,r1,r2⟩:=rowfacts (AV.heap R11.out)
     clear rm AV
     obtain⟨x,y,hx,hy,xb,yb,hsc⟩:=GN.out 0 (by omega)
     have DR:Hid (∀u,Calls prog 48 #[.agg #[.int .i64 (mm d j 0).1,.int .i64 (mm d j 0).2.1,.int .i64 (mm d j 0).2.2],.agg #[.int .i64 (cR j).1,.int .i64 (cR j).2.1,.int .i64 (cR j).2.2]] u fun e w'=>e=.returned (.int .i64 x)/\Below u.heap.size u w'):=fun u=>by rw[<- hx.out.1];exact cT _ _ u hx.out.2.1 hx.out.2.2
     have DU:Hid (∀u,Calls prog 48 #[.agg #[.int .i64 (mm d j 0).1,.int .i64 (mm d j 0).2.1,.int .i64 (mm d j 0).2.2],.agg #[.int .i64 (cU j).1,.int .i64 (cU j).2.1,.int .i64 (cU j).2.2]] u fun e w'=>e=.returned (.int .i64 y)/\Below u.heap.size u w'):=fun u=>by rw[<- hy.out.1];exact cT _ _ u hy.out.2.1 hy.out.2.2
     go_wp2_with fail
     refine(DR.out _).mono ?_
     rintro e w6 ⟨rfl,b6⟩
     obtain⟨-,q0,q1,q2⟩:=rowfacts (Ab.heap b6 RM.out)
     obtain⟨-,r0,r1,r2⟩:=rowfacts (Ab.heap b6 (AVh.out.heap R12.out))
     go_wp2_with fail
     refine(DU.out _).mono ?_
     rintro e w7 ⟨rfl,b7⟩
     have A7:=hid ((AVh.out.call b6).call b7)
     clear b6 b7 RM AVh DR DU q0 q1 q2 r0 r1 r2 P0 P1 P2 P3 R11 R12 R8w
     rcases hsc.out with⟨h0,h1⟩ | ⟨h1,h2,h3,h4⟩
     ·have NK:=hid (HK.out 0 h0)
      have hi:((x+(n:Int) - 1).tmod 2 != 0)=true:=by simpa using h1
      clear hx hy hsc h0 h1
      go_wp2
      have h5:=HSK.out
      have h6:=NK.out
      have h7:=A7.out
      go_roundw
      case rel=>exact⟨0+1,by omega,fun e=>by have:=h5 e;have:=fun h=>h6 ⟨e,h⟩;omega,rfl,h7⟩
      case measure=>simp[intOf]
     ·rcases h4 with h4 | h4 | ⟨h4,h5⟩
      ·have NK:=hid (HK2.out 0 (by rw[h4];omega))
       rw[h4]at h3
       have RCx:Hid (∀u,Calls prog 49 #[.int .i64 n,.int .i64 j,.int .i64 ((x+(n:Int) - 1).tdiv 2),.int .i64 ((y+(n:Int) - 1).tdiv 2)] u fun e w'=>e=.returned (.int .i64 (-1))/\w'=u):=fun u=>by rw[h3];exact RC.out _ _ _ _ _
       clear hx hy hsc h3 h4 RC
       go_wp2_with (go_at_call 49;refine(RCx.out _).mono ?_;rintro e w7 ⟨rfl,rfl⟩)
       have h5:=HSK.out
       have h6:=NK.out
       have h7:=A7.out
       go_roundw
       case rel=>exact⟨0+1,by omega,fun e=>by have:=h5 e;have:=fun h=>h6 ⟨e,h⟩;omega,rfl,h7⟩
       case measure=>simp[intOf]
      ·have NK:=hid (HK2.out 0 (by rw[h4];have:=HB.out;omega))
       rw[h4]at h3
       have RCx:Hid (∀u,Calls prog 49 #[.int .i64 n,.int .i64 j,.int .i64 ((x+(n:Int) - 1).tdiv 2),.int .i64 ((y+(n:Int) - 1).tdiv 2)] u fun e w'=>e=.returned (.int .i64 c)/\w'=u):=fun u=>by rw[h3];exact RC.out _ _ _ _ _
       have hcc:(((c:Nat):Int) != ((c:Nat):Int))=false:=by simp
       clear hx hy hsc h3 h4 RC
       go_wp2_with (go_at_call 49;refine(RCx.out _).mono ?_;rintro e w7 ⟨rfl,rfl⟩)
       have h5:=HSK.out
       have h6:=NK.out
       have h7:=A7.out
       go_roundw
       case rel=>exact⟨0+1,by omega,fun e=>by have:=h5 e;have:=fun h=>h6 ⟨e,h⟩;omega,rfl,h7⟩
       case measure=>simp[intOf]
      ·rw[h4]at h3
       have RCx:Hid (∀u,Calls prog 49 #[.int .i64 n,.int .i64 j,.int .i64 ((x+(n:Int) - 1).tdiv 2),.int .i64 ((y+(n:Int) - 1).tdiv 2)] u fun e w'=>e=.returned (.int .i64 B)/\w'=u):=fun u=>by rw[h3];exact RC.out _ _ _ _ _
       have hcc:(((B:Nat):Int) != ((c:Nat):Int))=true:=by have:=HB.out;simp;omega
       have HSS:=hid h5
       clear hx hy hsc h3 h4 h5 RC
       go_wp2_with (go_at_call 49;refine(RCx.out _).mono ?_;rintro e w7 ⟨rfl,rfl⟩)
       go_ret2
       exact⟨by rw[<- HSS.out];rfl,(AW.out.trans AW3.out).trans A7.out⟩
    ·obtain⟨-,e0,e1,e2⟩:=rowfacts (AA2.out.heap R8w.out)
     obtain⟨-,r0,r1,r2⟩:=rowfacts (AA2.out.heap R11.out)
     go_wp2_with fail
     refine(P0.out _).mono ?_
     rintro e w4 ⟨rfl,b4⟩
     have A4:=AA2.out.call b4
     clear e0 e1 e2 r0 r1 r2 b4
     have k8:=lt_of_block (A4.heap R8w.out)
     have k9:=lt_of_block (A4.heap R12.out)
     obtain⟨-,e0,e1,e2⟩:=rowfacts (A4.heap R8w.out)
     obtain⟨-,r0,r1,r2⟩:=rowfacts (A4.heap R12.out)
     go_wp2_with fail
     refine(P1.out _).mono ?_
     rintro e w5 ⟨rfl,b5⟩
     obtain⟨gm,hgm⟩:=aC w4.heap.size
     have m0:w5.heap[gm]? =some (.cells #[.int .i64 (mm d j 0).1,.int .i64 (mm d j 0).2.1,.int .i64 (mm d j 0).2.2] 92):=(b5.block _ (by simp[hgm])).trans (by rw[<- hgm];exact heap_alloc_new _ _)
     have A5:=(A4.alloc _).call b5
     have hgm3:=A4.size
     rw[hgm]at hgm3 ⊢
     obtain⟨⟨f0,f1,f2⟩,c0,c1,c2⟩:=rowfacts m0
     clear e0 e1 e2 r0 r1 r2 k8 k9 b5 A4 hgm
     have M0:=hid m0
     have G3:=hid hgm3
     have A5h:=hid A5
     clear m0 hgm3 A5
     go_upto_region 19 with fail
     generalize hV:World.setCell _ _ _=V
     have rm:V.heap[gm]? =some (.cells #[.int .i64 (mm d j 1).1,.int .i64 (mm d j 1).2.1,.int .i64 (mm d j 1).2.2] 92):=by rw[<- hV];exact dJ M0.out
     have AV:Ab w3 V:=by rw[<- hV];exact((A5h.out.setk G3.out _).setk G3.out _).setk G3.out _
     clear hV f0 f1 f2 c0 c1 c2 M0 A5h G3
     have RM:=hid rm
     have AVh:=hid AV
     obtain⟨-,q0,q1,q2⟩:=rowfacts rm
     obtain⟨-,r0,r1,r2⟩:=rowfacts (AV.heap R11.out)
     clear rm AV
     obtain⟨x,y,hx,hy,xb,yb,hsc⟩:=GN.out 1 (by omega)
     have DR:Hid (∀u,Calls prog 48 #[.agg #[.int .i64 (mm d j 1).1,.int .i64 (mm d j 1).2.1,.int .i64 (mm d j 1).2.2],.agg #[.int .i64 (cR j).1,.int .i64 (cR j).2.1,.int .i64 (cR j).2.2]] u fun e w'=>e=.returned (.int .i64 x)/\Below u.heap.size u w'):=fun u=>by rw[<- hx.out.1];exact cT _ _ u hx.out.2.1 hx.out.2.2
     have DU:Hid (∀u,Calls prog 48 #[.agg #[.int .i64 (mm d j 1).1,.int .i64 (mm d j 1).2.1,.int .i64 (mm d j 1).2.2],.agg #[.int .i64 (cU j).1,.int .i64 (cU j).2.1,.int .i64 (cU j).2.2]] u fun e w'=>e=.returned (.int .i64 y)/\Below u.heap.size u w'):=fun u=>by rw[<- hy.out.1];exact cT _ _ u hy.out.2.1 hy.out.2.2
     go_wp2_with fail
     refine(DR.out _).mono ?_
     rintro e w6 ⟨rfl,b6⟩
     obtain⟨-,q0,q1,q2⟩:=rowfacts (Ab.heap b6 RM.out)
     obtain⟨-,r0,r1,r2⟩:=rowfacts (Ab.heap b6 (AVh.out.heap R12.out))
     go_wp2_with fail
     refine(DU.out _).mono ?_
     rintro e w7 ⟨rfl,b7⟩
     have A7:=hid ((AVh.out.call b6).call b7)
     clear b6 b7 RM AVh DR DU q0 q1 q2 r0 r1 r2 P0 P1 P2 P3 R11 R12 R8w
     rcases hsc.out with⟨h0,h1⟩ | ⟨h1,h2,h3,h4⟩
     ·have NK:=hid (HK.out 1 h0)
      have hi:((x+(n:Int) - 1).tmod 2 != 0)=true:=by simpa using h1
      clear hx hy hsc h0 h1
      go_wp2
      have h5:=HSK.out
      have h6:=NK.out
      have h7:=A7.out
      go_roundw
      case rel=>exact⟨1+1,by omega,fun e=>by have:=h5 e;have:=fun h=>h6 ⟨e,h⟩;omega,rfl,h7⟩
      case measure=>simp[intOf]
     ·rcases h4 with h4 | h4 | ⟨h4,h5⟩
      ·have NK:=hid (HK2.out 1 (by rw[h4];omega))
       rw[h4]at h3
       have RCx:Hid (∀u,Calls prog 49 #[.int .i64 n,.int .i64 j,.int .i64 ((x+(n:Int) - 1).tdiv 2),.int .i64 ((y+(n:Int) - 1).tdiv 2)] u fun e w'=>e=.returned (.int .i64 (-1))/\w'=u):=fun u=>by rw[h3];exact RC.out _ _ _ _ _
       clear hx hy hsc h3 h4 RC
       go_wp2_with (go_at_call 49;refine(RCx.out _).mono ?_;rintro e w7 ⟨rfl,rfl⟩)
       have h5:=HSK.out
       have h6:=NK.out
       have h7:=A7.out
       go_roundw
       case rel=>exact⟨1+1,by omega,fun e=>by have:=h5 e;have:=fun h=>h6 ⟨e,h⟩;omega,rfl,h7⟩
       case measure=>simp[intOf]
      ·have NK:=hid (HK2.out 1 (by rw[h4];have:=HB.out;omega))
       rw[h4]at h3
       have RCx:Hid (∀u,Calls prog 49 #[.int .i64 n,.int .i64 j,.int .i64 ((x+(n:Int) - 1).tdiv 2),.int .i64 ((y+(n:Int) - 1).tdiv 2)] u fun e w'=>e=.returned (.int .i64 c)/\w'=u):=fun u=>by rw[h3];exact RC.out _ _ _ _ _
       have hcc:(((c:Nat):Int) != ((c:Nat):Int))=false:=by simp
       clear hx hy hsc h3 h4 RC
       go_wp2_with (go_at_call 49;refine(RCx.out _).mono ?_;rintro e w7 ⟨rfl,rfl⟩)
       have h5:=HSK.out
       have h6:=NK.out
       have h7:=A7.out
       go_roundw
       case rel=>exact⟨1+1,by omega,fun e=>by have:=h5 e;have:=fun h=>h6 ⟨e,h⟩;omega,rfl,h7⟩
       case measure=>simp[intOf]
      ·rw[h4]at h3
       have RCx:Hid (∀u,Calls prog 49 #[.int .i64 n,.int .i64 j,.int .i64 ((x+(n:Int) - 1).tdiv 2),.int .i64 ((y+(n:Int) - 1).tdiv 2)] u fun e w'=>e=.returned (.int .i64 B)/\w'=u):=fun u=>by rw[h3];exact RC.out _ _ _ _ _
       have hcc:(((B:Nat):Int) != ((c:Nat):Int))=true:=by have:=HB.out;simp;omega
       have HSS:=hid h5
       clear hx hy hsc h3 h4 h5 RC
       go_wp2_with (go_at_call 49;refine(RCx.out _).mono ?_;rintro e w7 ⟨rfl,rfl⟩)
       go_ret2
       exact⟨by rw[<- HSS.out];rfl,(AW.out.trans AW3.out).trans A7.out⟩
    ·obtain⟨-,e0,e1,e2⟩:=rowfacts (AA2.out.heap R8w.out)
     obtain⟨-,r0,r1,r2⟩:=rowfacts (AA2.out.heap R11.out)
     go_wp2_with fail
     refine(P0.out _).mono ?_
     rintro e w4 ⟨rfl,b4⟩
     have A4:=AA2.out.call b4
     clear e0 e1 e2 r0 r1 r2 b4
     have k8:=lt_of_block (A4.heap R8w.out)
     have k9:=lt_of_block (A4.heap R11.out)
     obtain⟨-,e0,e1,e2⟩:=rowfacts (A4.heap R8w.out)
     obtain⟨-,r0,r1,r2⟩:=rowfacts (A4.heap R11.out)
     go_wp2_with fail
     refine(P2.out _).mono ?_
     rintro e w5 ⟨rfl,b5⟩
     obtain⟨gm,hgm⟩:=aC w4.heap.size
     have m0:w5.heap[gm]? =some (.cells #[.int .i64 (mm d j 0).1,.int .i64 (mm d j 0).2.1,.int .i64 (mm d j 0).2.2] 92):=(b5.block _ (by simp[hgm])).trans (by rw[<- hgm];exact heap_alloc_new _ _)
     have A5:=(A4.alloc _).call b5
     have hgm3:=A4.size
     rw[hgm]at hgm3 ⊢
     obtain⟨⟨f0,f1,f2⟩,c0,c1,c2⟩:=rowfacts m0
     clear e0 e1 e2 r0 r1 r2 k8 k9 b5 A4 hgm
     have M0:=hid m0
     have G3:=hid hgm3
     have A5h:=hid A5
     clear m0 hgm3 A5
     go_upto_region 19 with fail
     generalize hV:World.setCell _ _ _=V
     have rm:V.heap[gm]? =some (.cells #[.int .i64 (mm d j 2).1,.int .i64 (mm d j 2).2.1,.int .i64 (mm d j 2).2.2] 92):=by rw[<- hV];exact dJ M0.out
     have AV:Ab w3 V:=by rw[<- hV];exact((A5h.out.setk G3.out _).setk G3.out _).setk G3.out _
     clear hV f0 f1 f2 c0 c1 c2 M0 A5h G3
     have RM:=hid rm
     have AVh:=hid AV
     obtain⟨-,q0,q1,q2⟩:=rowfacts rm
     obtain⟨-,r0,r1,r2⟩:=rowfacts (AV.heap R11.out)
     clear rm AV
     obtain⟨x,y,hx,hy,xb,yb,hsc⟩:=GN.out 2 (by omega)
     have DR:Hid (∀u,Calls prog 48 #[.agg #[.int .i64 (mm d j 2).1,.int .i64 (mm d j 2).2.1,.int .i64 (mm d j 2).2.2],.agg #[.int .i64 (cR j).1,.int .i64 (cR j).2.1,.int .i64 (cR j).2.2]] u fun e w'=>e=.returned (.int .i64 x)/\Below u.heap.size u w'):=fun u=>by rw[<- hx.out.1];exact cT _ _ u hx.out.2.1 hx.out.2.2
     have DU:Hid (∀u,Calls prog 48 #[.agg #[.int .i64 (mm d j 2).1,.int .i64 (mm d j 2).2.1,.int .i64 (mm d j 2).2.2],.agg #[.int .i64 (cU j).1,.int .i64 (cU j).2.1,.int .i64 (cU j).2.2]] u fun e w'=>e=.returned (.int .i64 y)/\Below u.heap.size u w'):=fun u=>by rw[<- hy.out.1];exact cT _ _ u hy.out.2.1 hy.out.2.2
     go_wp2_with fail
     refine(DR.out _).mono ?_
     rintro e w6 ⟨rfl,b6⟩
     obtain⟨-,q0,q1,q2⟩:=rowfacts (Ab.heap b6 RM.out)
     obtain⟨-,r0,r1,r2⟩:=rowfacts (Ab.heap b6 (AVh.out.heap R12.out))
     go_wp2_with fail
     refine(DU.out _).mono ?_
     rintro e w7 ⟨rfl,b7⟩
     have A7:=hid ((AVh.out.call b6).call b7)
     clear b6 b7 RM AVh DR DU q0 q1 q2 r0 r1 r2 P0 P1 P2 P3 R11 R12 R8w
     rcases hsc.out with⟨h0,h1⟩ | ⟨h1,h2,h3,h4⟩
     ·have NK:=hid (HK.out 2 h0)
      have hi:((x+(n:Int) - 1).tmod 2 != 0)=true:=by simpa using h1
      clear hx hy hsc h0 h1
      go_wp2
      have h5:=HSK.out
      have h6:=NK.out
      have h7:=A7.out
      go_roundw
      case rel=>exact⟨2+1,by omega,fun e=>by have:=h5 e;have:=fun h=>h6 ⟨e,h⟩;omega,rfl,h7⟩
      case measure=>simp[intOf]
     ·rcases h4 with h4 | h4 | ⟨h4,h5⟩
      ·have NK:=hid (HK2.out 2 (by rw[h4];omega))
       rw[h4]at h3
       have RCx:Hid (∀u,Calls prog 49 #[.int .i64 n,.int .i64 j,.int .i64 ((x+(n:Int) - 1).tdiv 2),.int .i64 ((y+(n:Int) - 1).tdiv 2)] u fun e w'=>e=.returned (.int .i64 (-1))/\w'=u):=fun u=>by rw[h3];exact RC.out _ _ _ _ _
       clear hx hy hsc h3 h4 RC
       go_wp2_with (go_at_call 49;refine(RCx.out _).mono ?_;rintro e w7 ⟨rfl,rfl⟩)
       have h5:=HSK.out
       have h6:=NK.out
       have h7:=A7.out
       go_roundw
       case rel=>exact⟨2+1,by omega,fun e=>by have:=h5 e;have:=fun h=>h6 ⟨e,h⟩;omega,rfl,h7⟩
       case measure=>simp[intOf]
      ·have NK:=hid (HK2.out 2 (by rw[h4];have:=HB.out;omega))
       rw[h4]at h3
       have RCx:Hid (∀u,Calls prog 49 #[.int .i64 n,.int .i64 j,.int .i64 ((x+(n:Int) - 1).tdiv 2),.int .i64 ((y+(n:Int) - 1).tdiv 2)] u fun e w'=>e=.returned (.int .i64 c)/\w'=u):=fun u=>by rw[h3];exact RC.out _ _ _ _ _
       have hcc:(((c:Nat):Int) != ((c:Nat):Int))=false:=by simp
       clear hx hy hsc h3 h4 RC
       go_wp2_with (go_at_call 49;refine(RCx.out _).mono ?_;rintro e w7 ⟨rfl,rfl⟩)
       have h5:=HSK.out
       have h6:=NK.out
       have h7:=A7.out
       go_roundw
       case rel=>exact⟨2+1,by omega,fun e=>by have:=h5 e;have:=fun h=>h6 ⟨e,h⟩;omega,rfl,h7⟩
       case measure=>simp[intOf]
      ·rw[h4]at h3
       have RCx:Hid (∀u,Calls prog 49 #[.int .i64 n,.int .i64 j,.int .i64 ((x+(n:Int) - 1).tdiv 2),.int .i64 ((y+(n:Int) - 1).tdiv 2)] u fun e w'=>e=.returned (.int .i64 B)/\w'=u):=fun u=>by rw[h3];exact RC.out _ _ _ _ _
       have hcc:(((B:Nat):Int) != ((c:Nat):Int))=true:=by have:=HB.out;simp;omega
       have HSS:=hid h5
       clear hx hy hsc h3 h4 h5 RC
       go_wp2_with (go_at_call 49;refine(RCx.out _).mono ?_;rintro e w7 ⟨rfl,rfl⟩)
       go_ret2
       exact⟨by rw[<- HSS.out];rfl,(AW.out.trans AW3.out).trans A7.out⟩
    ·obtain⟨-,e0,e1,e2⟩:=rowfacts (AA2.out.heap R8w.out)
     obtain⟨-,r0,r1,r2⟩:=rowfacts (AA2.out.heap R11.out)
     go_wp2_with fail
     refine(P0.out _).mono ?_
     rintro e w4 ⟨rfl,b4⟩
     have A4:=AA2.out.call b4
     clear e0 e1 e2 r0 r1 r2 b4
     have k8:=lt_of_block (A4.heap R8w.out)
     have k9:=lt_of_block (A4.heap R12.out)
     obtain⟨-,e0,e1,e2⟩:=rowfacts (A4.heap R8w.out)
     obtain⟨-,r0,r1,r2⟩:=rowfacts (A4.heap R12.out)
     go_wp2_with fail
     refine(P3.out _).mono ?_
     rintro e w5 ⟨rfl,b5⟩
     obtain⟨gm,hgm⟩:=aC w4.heap.size
     have m0:w5.heap[gm]? =some (.cells #[.int .i64 (mm d j 0).1,.int .i64 (mm d j 0).2.1,.int .i64 (mm d j 0).2.2] 92):=(b5.block _ (by simp[hgm])).trans (by rw[<- hgm];exact heap_alloc_new _ _)
     have A5:=(A4.alloc _).call b5
     have hgm3:=A4.size
     rw[hgm]at hgm3 ⊢
     obtain⟨⟨f0,f1,f2⟩,c0,c1,c2⟩:=rowfacts m0
     clear e0 e1 e2 r0 r1 r2 k8 k9 b5 A4 hgm
     have M0:=hid m0
     have G3:=hid hgm3
     have A5h:=hid A5
     clear m0 hgm3 A5
     go_upto_region 19 with fail
     generalize hV:World.setCell _ _ _=V
     have rm:V.heap[gm]? =some (.cells #[.int .i64 (mm d j 3).1,.int .i64 (mm d j 3).2.1,.int .i64 (mm d j 3).2.2] 92):=by rw[<- hV];exact dJ M0.out
     have AV:Ab w3 V:=by rw[<- hV];exact((A5h.out.setk G3.out _).setk G3.out _).setk G3.out _
     clear hV f0 f1 f2 c0 c1 c2 M0 A5h G3
     have RM:=hid rm
     have AVh:=hid AV
     obtain⟨-,q0,q1,q2⟩:=rowfacts rm
     obtain⟨-,r0,r1,r2⟩:=rowfacts (AV.heap R11.out)
     clear rm AV
     obtain⟨x,y,hx,hy,xb,yb,hsc⟩:=GN.out 3 (by omega)
     have DR:Hid (∀u,Calls prog 48 #[.agg #[.int .i64 (mm d j 3).1,.int .i64 (mm d j 3).2.1,.int .i64 (mm d j 3).2.2],.agg #[.int .i64 (cR j).1,.int .i64 (cR j).2.1,.int .i64 (cR j).2.2]] u fun e w'=>e=.returned (.int .i64 x)/\Below u.heap.size u w'):=fun u=>by rw[<- hx.out.1];exact cT _ _ u hx.out.2.1 hx.out.2.2
     have DU:Hid (∀u,Calls prog 48 #[.agg #[.int .i64 (mm d j 3).1,.int .i64 (mm d j 3).2.1,.int .i64 (mm d j 3).2.2],.agg #[.int .i64 (cU j).1,.int .i64 (cU j).2.1,.int .i64 (cU j).2.2]] u fun e w'=>e=.returned (.int .i64 y)/\Below u.heap.size u w'):=fun u=>by rw[<- hy.out.1];exact cT _ _ u hy.out.2.1 hy.out.2.2
     go_wp2_with fail
     refine(DR.out _).mono ?_
     rintro e w6 ⟨rfl,b6⟩
     obtain⟨-,q0,q1,q2⟩:=rowfacts (Ab.heap b6 RM.out)
     obtain⟨-,r0,r1,r2⟩:=rowfacts (Ab.heap b6 (AVh.out.heap R12.out))
     go_wp2_with fail
     refine(DU.out _).mono ?_
     rintro e w7 ⟨rfl,b7⟩
     have A7:=hid ((AVh.out.call b6).call b7)
     clear b6 b7 RM AVh DR DU q0 q1 q2 r0 r1 r2 P0 P1 P2 P3 R11 R12 R8w
     rcases hsc.out with⟨h0,h1⟩ | ⟨h1,h2,h3,h4⟩
     ·have NK:=hid (HK.out 3 h0)
      have hi:((x+(n:Int) - 1).tmod 2 != 0)=true:=by simpa using h1
      clear hx hy hsc h0 h1
      go_wp2
      have h5:=HSK.out
      have h6:=NK.out
      have h7:=A7.out
      go_roundw
      case rel=>exact⟨3+1,by omega,fun e=>by have:=h5 e;have:=fun h=>h6 ⟨e,h⟩;omega,rfl,h7⟩
      case measure=>simp[intOf]
     ·rcases h4 with h4 | h4 | ⟨h4,h5⟩
      ·have NK:=hid (HK2.out 3 (by rw[h4];omega))
       rw[h4]at h3
       have RCx:Hid (∀u,Calls prog 49 #[.int .i64 n,.int .i64 j,.int .i64 ((x+(n:Int) - 1).tdiv 2),.int .i64 ((y+(n:Int) - 1).tdiv 2)] u fun e w'=>e=.returned (.int .i64 (-1))/\w'=u):=fun u=>by rw[h3];exact RC.out _ _ _ _ _
       clear hx hy hsc h3 h4 RC
       go_wp2_with (go_at_call 49;refine(RCx.out _).mono ?_;rintro e w7 ⟨rfl,rfl⟩)
       have h5:=HSK.out
       have h6:=NK.out
       have h7:=A7.out
       go_roundw
       case rel=>exact⟨3+1,by omega,fun e=>by have:=h5 e;have:=fun h=>h6 ⟨e,h⟩;omega,rfl,h7⟩
       case measure=>simp[intOf]
      ·have NK:=hid (HK2.out 3 (by rw[h4];have:=HB.out;omega))
       rw[h4]at h3
       have RCx:Hid (∀u,Calls prog 49 #[.int .i64 n,.int .i64 j,.int .i64 ((x+(n:Int) - 1).tdiv 2),.int .i64 ((y+(n:Int) - 1).tdiv 2)] u fun e w'=>e=.returned (.int .i64 c)/\w'=u):=fun u=>by rw[h3];exact RC.out _ _ _ _ _
       have hcc:(((c:Nat):Int) != ((c:Nat):Int))=false:=by simp
       clear hx hy hsc h3 h4 RC
       go_wp2_with (go_at_call 49;refine(RCx.out _).mono ?_;rintro e w7 ⟨rfl,rfl⟩)
       have h5:=HSK.out
       have h6:=NK.out
       have h7:=A7.out
       go_roundw
       case rel=>exact⟨3+1,by omega,fun e=>by have:=h5 e;have:=fun h=>h6 ⟨e,h⟩;omega,rfl,h7⟩
       case measure=>simp[intOf]
      ·rw[h4]at h3
       have RCx:Hid (∀u,Calls prog 49 #[.int .i64 n,.int .i64 j,.int .i64 ((x+(n:Int) - 1).tdiv 2),.int .i64 ((y+(n:Int) - 1).tdiv 2)] u fun e w'=>e=.returned (.int .i64 B)/\w'=u):=fun u=>by rw[h3];exact RC.out _ _ _ _ _
       have hcc:(((B:Nat):Int) != ((c:Nat):Int))=true:=by have:=HB.out;simp;omega
       have HSS:=hid h5
       clear hx hy hsc h3 h4 h5 RC
       go_wp2_with (go_at_call 49;refine(RCx.out _).mono ?_;rintro e w7 ⟨rfl,rfl⟩)
       go_ret2
       exact⟨by rw[<- HSS.out];rfl,(AW.out.trans AW3.out).trans A7.out⟩
    ·go_wp2
     have h1:=HSK.out
     have h2:=HJK.out
     have h3:=HJ.out
     have h4:=AA2.out
     have h5:=HH1.out
     go_roundw
     case rel=>exact⟨j+1,by omega,by simp,AW3.out.trans h4⟩
     case measure=>simp[intOf];omega
  ·have hd':(dt d (cC j) != (n:Int))=true:=by simpa using hd
   have HNE:Hid (j≠k0):=fun h=>hd (by rw[h];exact HH.out.2.2.1)
   go_wp2_with (go_at_call 48;refine(DO.out _).mono ?_;rintro e w3 ⟨rfl,b3⟩)
   have A3w:Ab W w3:=(((A2.out.alloc _).alloc _).alloc _).call b3
   have h1:=HJK.out
   have h2:=HNE.out
   have h3:=HJ.out
   go_roundw
   case rel=>exact⟨j+1,by omega,by simp,A3w⟩
   case measure=>simp[intOf];omega
theorem sc_one(q:P3):sc 1 q=q:=by simp[sc]
theorem fP(n c t:Nat)(w:World)(hn:1<=n/\n<=32)(hc:c<6*n*n)(ht:t<4):
  Calls prog 28 #[.int .i64 n,.int .i64 c,.int .i64 t] w fun e w'=>e=.returned (.tuple #[.int .i64 (bsC n c t),.int .i64 (bsS n c t)])/\Below w.heap.size w w':=by
 obtain⟨f,a,b,hf,ha,hb,hP⟩:=Pn_ex hn.1 hc ht
 obtain⟨k0,s0,h1,h2,h3,h4,h5,h6,h7⟩:=scan_hit hn hf ht ha hb
 obtain⟨l1,l2⟩:=eJ (s:=t) ha hb
 have d1:=oO (f:=f) l1 l2
 have hm:=md_ms hf ht ha hb
 have e1:md n (cf n c) (ci n c) (cj n c)=ms n f t a b:=by rw[hP,<- hm];unfold Pn;rw[d1.1,d1.2.1,d1.2.2]
 have e2:cf n c=f:=by rw[hP];exact d1.1
 have MI:=fun u=>pS n c u hn hc
 have WA:=fun u=>rway_at n c t u hn hc ht
 have bm:=md_le hf l1 l2 hn.2
 rw[hm]at bm
 have bw:=iA (s:=t) hf
 rw[e1]at MI
 rw[e2]at WA
 rw[<- hP]at h6 h7
 refine pT n c t (bsC n c t) (bsS n c t) k0 s0 (eg n f t a b) (ms n f t a b) (wy f t) w hn hc ht MI WA (fun u=> ?_) ?_ (fun k hk s hs hd=> ?_) ⟨h1,h2,h3,h4,h5,h6⟩ (qE hn.1 hc ht)
 ·have:=aY (ms n f t a b) 1 (wy f t) u (by unfold Sm;omega) (by rw[sc_one];exact bw.sm)
  rw[sc_one]at this
  exact this
 ·unfold Un at bw
  simp only[eg,pl]
  omega
 ·have:=scan hn hf ht ha hb hk hs hd
  rw[<- hP]at this
  exact this
end
section
open Go.RowKit Cu Tf
def rA(n T t:Nat):Int:=(gN n T t).1
theorem rA_zero(n t:Nat):rA n 0 t=0:=by unfold rA gN;split<;>simp
theorem rA_stay{n T:Nat}(hn:1<=n)(h:isL n T=false){t:Nat}(ht:t<24*n*n):rA n T t=rA n (T+1) t:=by
 have hc:=bM ht
 have k:=qH hn h ((t/4:Nat):Int) ((t%4:Nat):Int)
 rw[dK,dK,if_pos ⟨hc,by omega⟩,if_pos ⟨hc,by omega⟩,show 4*(t/4)+t%4=t by omega]at k
 unfold rA
 rw[k]
theorem rA_step{n T:Nat}(hn:1<=n)(hT:T<24*n*n)(h:isL n T=true){t:Nat}(ht:t<24*n*n):(if t=mt n T then((eN n T:Nat):Int)else if t=T then((eN n T:Nat):Int)else rA n T t)=rA n (T+1) t:=by
 have hc:=bM ht
 have k:=qI hn hT h ((t/4:Nat):Int) ((t%4:Nat):Int)
 have e1:(((t/4:Nat):Int)=(bsC n (T/4) (T%4):Nat)/\((t%4:Nat):Int)=(bsS n (T/4) (T%4):Nat)) ↔ t=mt n T:=by
  obtain⟨b1,b2⟩:=eG hn (bM hT) (s:=T%4) (by omega)
  unfold mt;omega
 have e2:(((t/4:Nat):Int)=(T/4:Nat)/\((t%4:Nat):Int)=(T%4:Nat)) ↔ t=T:=by omega
 have g1:gT n T ((t/4:Nat):Int) ((t%4:Nat):Int)=gN n T t:=by rw[dK,if_pos ⟨hc,by omega⟩,show 4*(t/4)+t%4=t by omega]
 have g2:gT n (T+1) ((t/4:Nat):Int) ((t%4:Nat):Int)=gN n (T+1) t:=by rw[dK,if_pos ⟨hc,by omega⟩,show 4*(t/4)+t%4=t by omega]
 rw[g1,g2]at k
 simp only[e1,e2]at k
 unfold rA
 rw[<- k]
 split
 ·rfl
 ·split<;>rfl
theorem rA_end{n t:Nat}(hn:1<=n)(ht:t<24*n*n):rA n (24*n*n) t=(eE n t:Nat):=by
 have k:=gT_end hn (bM ht) (s:=t%4) (by omega)
 rw[dK,if_pos ⟨bM ht,by omega⟩,show 4*(t/4)+t%4=t by omega]at k
 unfold rA
 rw[k]
def RE(B n T N4 rb ab:Nat)(es:Value)(w:World):Prop:=
 w.heap[rb]? =some (.cells #[.int .i64 n,es,.slice (some ⟨ab,0,none⟩) N4 N4] 69)/\w.ownsRow B 73 4 es (eN n T) (edL n T)/\w.rowIs ab 3 N4 (fun t=>.int .i64 (rA n T t))/\(B<=rb/\B<=ab/\rb≠ab)/\es.ownBlock≠some rb/\es.ownBlock≠some ab
theorem RE.to{B n T N4 rb ab:Nat}{es:Value}{w w':World}(h:RE B n T N4 rb ab es w)(a:Ab w w'):RE B n T N4 rb ab es w':=by
 obtain⟨h1,h2,h3,h4,h5⟩:=h
 refine⟨a.heap h1,?_,rowIs.ab h3 a,h4,h5⟩
 exact h2.kept (row:=none) ⟨Below.os a,Below.tape a,Below.output a,Below.size a,fun k hk _=>Below.block a k hk⟩ (by cases es.ownBlock<;>simp)
theorem RE.cells{B n T N4 rb ab:Nat}{es:Value}{w:World}(h:RE B n T N4 rb ab es w):
  w.cell? ⟨rb,0,none⟩=some (.int .i64 n)/\w.cell? ⟨rb,1,none⟩=some es/\w.cell? ⟨rb,2,none⟩=some (.slice (some ⟨ab,0,none⟩) N4 N4)/\w.frozen? ⟨rb,1,none⟩=false:=
 ⟨aA 0 h.1,aA 1 h.1,aA 2 h.1,aE h.1 1⟩
theorem hX(w:World)(g k:Nat)(v:Value):w.grownBy (w.setCell ⟨g,k,none⟩ v) (some g):=⟨rfl,rfl,rfl,by simp[World.setCell],fun i _ hi=>Below.heap_setCell _ _ _ _ (by simpa using hi)⟩
theorem jZ(w:World)(g k:Nat)(v:Value):w.grownBy (w.setCell ⟨g,k,none⟩ v).drew (some g):=⟨rfl,rfl,rfl,(hX w g k v).size,(hX w g k v).block⟩
theorem RE.next{B n T N4 rb ab:Nat}{es v:Value}{o':Obj}{w1 w3 w5:World}(hn:1<=n)(hN4:N4=24*n*n)(hT:T<24*n*n)(hl:isL n T=true)(G:RE B n T N4 rb ab es w1)(hm:w1.grownBy w3 (some ab))(hg:(w3.alloc o').grownBy w5 es.ownBlock)
  (R5:w5.heap[rb]? =some (.cells #[.int .i64 n,es,.slice (some ⟨ab,0,none⟩) N4 N4] 69)) (ho:w5.ownsRow B 73 4 v (eN n T+1) (edL n T++edV n T)) (hat:v.ownBlock=es.ownBlock\/v.ownBlock=some (w3.alloc o').heap.size)
  (M:w3.rowIs ab 3 N4 (fun t=>if t=mt n T then .int .i64 (eN n T:Nat)else if t=T then .int .i64 (eN n T:Nat)else .int .i64 (rA n T t))):
  RE B n (T+1) N4 rb ab v (w5.setCell ⟨rb,1,none⟩ v):=by
 obtain⟨g1,g2,g3,g4,g5,g6⟩:=G
 have l1:=lt_of_block g1
 have l3:=hm.size
 have lm:=M.lt
 have ne1:v.ownBlock≠some rb:=by
  rcases hat with h | h
  ·rw[h];exact g5
  ·rw[h];simp;omega
 have ne2:v.ownBlock≠some ab:=by
  rcases hat with h | h
  ·rw[h];exact g6
  ·rw[h];simp;omega
 have gs:=hX w5 rb 1 v
 refine⟨?_,?_,?_,g4,ne1,ne2⟩
 ·have:=aI (v:=v) (k:=1) R5
  simpa using this
 ·have h:=ho.kept gs (.inr ne1)
  rw[<- fQ hl,<- eL hl]at h
  exact h
 ·have e:(w5.setCell ⟨rb,1,none⟩ v).heap[ab]? =w3.heap[ab]? :=
   (gs.block ab (by have:=hg.size;simp at this;omega) (by simp;omega)).trans ((hg.block ab (by simp;omega) (fun e=>g6 e.symm)).trans (Below.heap_alloc _ _ _ lm))
  refine(M.of_block e).congr (fun t ht=> ?_)
  rw[<- rA_step hn hT hl (t:=t) (by omega)]
  split
  ·rfl
  ·split<;>rfl
theorem infoInt:(Tryd.prog.info? 3).map (fun i=>(i.zero,i.size,i.bytes))=some (some (.int .i64 0),1,8):=by kernel_rfl
theorem re_start(n N4:Nat)(w:World):RE w.heap.size n 0 N4 (w.heap.size+1) w.heap.size (.slice none 0 0) ((w.alloc (.cells (madeCells #[.int .i64 0] N4) 3)).alloc (.cells #[.int .i64 n,.slice none 0 0,.slice (some ⟨w.heap.size,0,none⟩) N4 N4] 69)):=by
 refine⟨heap_alloc2_new _ _ _,World.ownsRow_nil _ _ _ _,?_,⟨by omega,by omega,by omega⟩,by simp[Value.ownBlock],by simp[Value.ownBlock]⟩
 exact((World.rowIs_made w (.int .i64 0) N4 3).alloc _).congr (fun t _=>by rw[rA_zero])
theorem RE.rows{B n T N4 rb ab:Nat}{es:Value}{w1 w3:World}(h:RE B n T N4 rb ab es w1)(g:w1.grownBy w3 (some ab)):
  w3.heap[rb]? =some (.cells #[.int .i64 n,es,.slice (some ⟨ab,0,none⟩) N4 N4] 69)/\w3.ownsRow B 73 4 es (eN n T) (edL n T):=by
 obtain⟨h1,h2,h3,h4,h5⟩:=h
 exact⟨(g.block rb (lt_of_block h1) (by simp;omega)).trans h1,h2.kept g (.inr h5.2)⟩
theorem rnew_at(n:Nat)(w:World)(hn:1<=n/\n<=32):
  Calls prog 7 #[.int .i64 n] w fun e w'=> ∃rb ab es,e=.returned (.tuple #[.pointer (some ⟨rb,0,none⟩),.int .i64 0])/\Ab w w'/\RE w.heap.size n (24*n*n) (24*n*n) rb ab es w':=by
 have CE:Hid (∀u,Calls prog 27 #[.int .i64 n] u fun e w'=>e=.returned (.int .i64 (6*n*n:Nat))/\w'=u):=fun u=>by
  have h:=cV n u
  rw[fC hn]at h
  exact h
 have h12:=n12 hn
 obtain⟨N,hN⟩:=aC (6*n*n)
 obtain⟨N4,hN4⟩:=aC (24*n*n)
 rw[hN]at CE
 have hN1:(N:Int)<=6144:=by omega
 have hN0:((N:Int)==0)=false:=by simp;omega
 have HL:Hid (N<=6144):=by show _<=_;omega
 have Hn:=hid hn
 have HN:=hid hN
 have HN4:=hid hN4
 have HE:Hid (N4=4*N):=by show _=_;omega
 have MK:=run_make_row' (P:=prog) 37 3 (.int .i64 0) 8 underlying37 infoInt rfl .i64 .i64 N4 (by omega) (by omega) w
 have e44:(N4:Int)=4*(N:Int):=by omega
 rw[e44]at MK
 have RS:=hid (re_start n N4 w)
 have AS:=gQ (bl2 w (.cells (madeCells #[.int .i64 0] N4) 3) (.cells #[.int .i64 n,.slice none 0 0,.slice (some ⟨w.heap.size,0,none⟩) N4 N4] 69))
 obtain⟨i0,hi,hz0,hz1,hz2⟩:=info_parts infoEdge
 have HI:=hid (And.intro hi (And.intro hz0 (And.intro hz1 hz2)))
 clear hn hN hN4 h12 hi hz0 hz1 hz2 e44
 rw[HN4.out]
 go_enter func7,ntmps7
 go_wp2_with (go_at_call 27;refine(CE.out _).mono ?_;rintro e w' ⟨rfl,hw⟩;have hw2:=hw.symm;subst hw2)
 clear MK hN0
 go_loopw [6] (fun iv wr=> ∃c:Nat,c<=N/\iv=.int .i64 (c:Nat)/\Ab w wr/\ ∃es,RE w.heap.size n (4*c) N4 (w.heap.size+1) w.heap.size es wr) (fun iv _=>N - (intOf iv).toNat)
 case atStart=>exact⟨0,by omega,rfl,AS.out,_,RS.out⟩
 case round=>
  obtain⟨c,hc,rfl,A,es,G⟩:=hrel
  have A1:=hid A
  have G1:=hid G
  clear A G RS AS
  by_cases hcN:c<N
  ·have hcN':(c:Int)<N:=by omega
   go_wp2
   go_loopw [7] (fun iv wr=> ∃s:Nat,s<=4/\iv=.int .i64 (s:Nat)/\Ab w wr/\ ∃es,RE w.heap.size n (4*c+s) N4 (w.heap.size+1) w.heap.size es wr) (fun iv _=>4 - (intOf iv).toNat)
   case atStart=>exact⟨0,by omega,rfl,A1.out,es,G1.out⟩
   case round=>
    clear A1 G1
    obtain⟨s,hs,rfl,A,es',G⟩:=hrel
    by_cases hs4:s<4
    ·have hs4':(s:Int)<4:=by omega
     obtain⟨a0,cap,rfl⟩:=gU G.2.1
     have hc6:c<6*n*n:=by rw[HN.out];exact hcN
     have BE:=hid (fP n c s wr Hn.out hc6 hs4)
     have AA:=hid A
     have GG:=hid G
     have HT:=hid (t_lt hc6 hs4)
     obtain⟨d6,b4⟩:=eG Hn.out.1 hc6 hs4
     have hd6:bsC n c s<6144:=by have:=HL.out;rw[<- HN.out]at this;omega
     have hT4:=hid (t_dec (c:=c) hs4)
     have hmt:Hid (mt n (4*c+s)=4*bsC n c s+bsS n c s):=by show mt n (4*c+s)=_;unfold mt;rw[hT4.out.1,hT4.out.2]
     have hML:=hid (kH Hn.out.1 HT.out)
     have hlis:Hid (isL n (4*c+s)=decide (c<bsC n c s)):=by show isL n (4*c+s)=_;unfold isL;rw[hT4.out.1,hT4.out.2]
     have hKle:Hid (eN n (4*c+s)<=12*n*n):=by
      have:=fR (n:=n) (Nat.le_of_lt HT.out);rw[fN Hn.out.1]at this;exact this
     have hKb:eN n (4*c+s)<=12288:=by
      have h1:=hKle.out;have:=(n12 Hn.out).1;omega
     obtain⟨d,hd⟩:=aC (bsC n c s)
     obtain⟨b,hb⟩:=aC (bsS n c s)
     obtain⟨K,hK⟩:=aC (eN n (4*c+s))
     rw[hd,hb]at BE hmt
     rw[hmt.out,HN4.out]at hML
     rw[hd]at hlis d6 hd6
     rw[hb]at b4
     rw[hK]at hKb
     have GG':Hid (RE w.heap.size n (4*c+s) N4 (w.heap.size+1) w.heap.size (.slice a0 K cap) wr):=by rw[<- hK];exact GG.out
     have HD:=hid (And.intro hd (And.intro hb hK))
     clear A G GG hd hb hK hKle hc6
     go_wp2_with fail
     refine BE.out.mono ?_
     rintro e w1 ⟨rfl,b1⟩
     have A2:Hid (Ab w w1):=AA.out.call b1
     have G2:Hid (RE w.heap.size n (4*c+s) N4 (w.heap.size+1) w.heap.size (.slice a0 K cap) w1):=GG'.out.to b1
     clear AA GG' b1 BE
     by_cases hl:c<d
     ·have hl':(c:Int)<d:=by omega
      have hisL:Hid (isL n (4*c+s)=true):=by show _=_;rw[hlis.out];simp[hl]
      have hi1:4*(c:Int)+s<N4:=by have:=HE.out;omega
      have hi2:4*(d:Int)+b<N4:=by have:=hML.out;omega
      have HT':Hid (4*c+s<N4):=by show _<_;omega
      obtain⟨c0,c1,c2,c3⟩:=G2.out.cells
      have y0:=G2.out.2.2.1.cell HT'.out
      have y1:=G2.out.2.2.1.frozen (4*c+s)
      go_upto_region 13 with fail
      go_region
      clear c0 c1 c2 c3 y0 y1
      obtain⟨w2,hw2⟩:=aC ((w1.setCell ⟨w.heap.size,4*c+s,none⟩ (.int .i64 K)).drew)
      have gr1:Hid (w1.grownBy w2 (some w.heap.size)):=by show World.grownBy _ _ _;rw[<- hw2];exact jZ w1 w.heap.size (4*c+s) (.int .i64 K)
      have R2:Hid (w2.rowIs w.heap.size 3 N4 (fun t=>if t=4*c+s then .int .i64 K else .int .i64 (rA n (4*c+s) t))):=by show World.rowIs _ _ _ _ _;rw[<- hw2];exact(G2.out.2.2.1.set (4*c+s) (.int .i64 K)).drew
      rw[hw2]
      clear hw2
      have GM:=hid (G2.out.rows gr1.out)
      have c1:w2.cell? ⟨w.heap.size+1,1,none⟩=some (.slice a0 K cap):=aA 1 GM.out.1
      have c2:w2.cell? ⟨w.heap.size+1,2,none⟩=some (.slice (some ⟨w.heap.size,0,none⟩) N4 N4):=aA 2 GM.out.1
      have y0:=R2.out.cell hML.out
      have y1:=R2.out.frozen (4*d+b)
      go_upto_region 14 with fail
      go_region
      clear c1 c2 y0 y1
      obtain⟨w3,hw3⟩:=aC ((w2.setCell ⟨w.heap.size,4*d+b,none⟩ (.int .i64 K)).drew)
      have gr2:Hid (w2.grownBy w3 (some w.heap.size)):=by show World.grownBy _ _ _;rw[<- hw3];exact jZ w2 w.heap.size (4*d+b) (.int .i64 K)
      have R3:Hid (w3.rowIs w.heap.size 3 N4 (fun t=>if t=4*d+b then .int .i64 K else if t=4*c+s then .int .i64 K else .int .i64 (rA n (4*c+s) t))):=by show World.rowIs _ _ _ _ _;rw[<- hw3];exact(R2.out.set (4*d+b) (.int .i64 K)).drew
      rw[hw3]
      clear hw3 GM R2
      have g12:=hid (gr1.out.trans gr2.out)
      have GM:=hid (G2.out.rows g12.out)
      have c1:w3.cell? ⟨w.heap.size+1,1,none⟩=some (.slice a0 K cap):=aA 1 GM.out.1
      have OW:Hid (w3.ownsRow w.heap.size 73 4 (.slice a0 K cap) K (edL n (4*c+s))):=by have h:=GM.out.2;rw[HD.out.2.2]at h;exact h
      have A3:Hid (Ab w w3):=(A2.out.grown g12.out (Ab.size A2.out) (fun k hk=>by cases hk;exact Nat.le_refl _))
      obtain⟨hi,hz0,hz1,hz2⟩:=HI.out
      go_upto_region 15 with fail
      go_wp2_with (first
       | (at_builtin;refine wpList_append_own_at _ rfl _ _ 56 rfl w.heap.size 73 i0 (.agg #[.int .i64 0,.int .i64 0,.int .i64 0,.int .i64 0]) 4 32 underlying56 hi hz0 hz1 hz2 rfl (by decide) _ _ _ rfl (OW.out.alloc _) ⟨w3.heap.size,0,none⟩ 1 1 [.int .i64 c,.int .i64 s,.int .i64 d,.int .i64 b] rfl rfl (fL _ _ _ _ _ _) (by simp[Value.oneCell']) (by unfold maxLen;omega) (by omega) (by have:=Ab.size A3.out;simp;omega) ?_;intro v' w5 ho hg _ hat;obtain⟨a1,cap1,rfl⟩:=gU ho;have R5:=hid (kO GM.out.1 G2.out.2.2.2.2.1 hg);have f1:=aE R5.out 1;have x1:=aA 1 R5.out;have HO:=hid (And.intro ho (And.intro hg hat));clear ho hg hat))
      go_roundw
      case rel=>
       have hT:=HT.out
       refine⟨s+1,by omega,by simp,?_,(.slice a1 (K+1) cap1),?_⟩
       ·exact Ab.setk (Below.grown (A3.out.alloc (.cells #[.int .i64 c,.int .i64 s,.int .i64 d,.int .i64 b] 73)) HO.out.2.1 (Ab.size (A3.out.alloc _)) (fun k hk=>(OW.out.lt k hk).1)) G2.out.2.2.2.1.1 _
       ·have e1:=hT4.out.1
        have e2:=hT4.out.2
        have e3:=HD.out
        have hed:edV n (4*c+s)=[.int .i64 c,.int .i64 s,.int .i64 d,.int .i64 b]:=by unfold edV;rw[e1,e2,e3.1,e3.2.1]
        refine RE.next (T:=4*c+s) Hn.out.1 HN4.out.symm hT hisL.out G2.out g12.out HO.out.2.1 R5.out ?_ HO.out.2.2 ?_
        ·rw[hed,e3.2.2];exact HO.out.1
        ·rw[hmt.out,e3.2.2];exact R3.out
      case measure=>simp[intOf];omega
     ·have hl': ¬(c:Int)<d:=by omega
      have hisL:Hid (isL n (4*c+s)=false):=by show _=_;rw[hlis.out];simp[hl]
      go_wp2
      go_roundw
      case rel=>
       refine⟨s+1,by omega,by simp,A2.out,(.slice a0 K cap),?_⟩
       have g:=G2.out
       have hh:=hisL.out
       show RE w.heap.size n (4*c+s+1) N4 (w.heap.size+1) w.heap.size (.slice a0 K cap) w1
       exact⟨g.1,by rw[iM hh,fS hh];exact g.2.1,g.2.2.1.congr (fun t ht=>by rw[rA_stay Hn.out.1 hh (t:=t) (by rw[HN4.out];exact ht)]),g.2.2.2⟩
      case measure=>simp[intOf];omega
    ·obtain rfl:s=4:=by omega
     have AA:=hid A
     have GG:=hid G
     clear A G
     go_wp2
     go_roundw
     case rel=>exact⟨c+1,by omega,by simp,AA.out,_,GG.out⟩
     case measure=>simp[intOf];omega
  ·obtain rfl:c=N:=by omega
   go_wp2
   go_ret2
   have h4:=HE.out
   subst h4
   exact⟨w.heap.size+1,w.heap.size,es,rfl,A1.out,G1.out⟩
end
section
open Tf
def K2:Nat:=925
end
namespace Ref2
open Go.RowKit Tf
attribute [local go_sem] aL aM aP aQ aR aU aX
def pe(x:Nat):Int:=if mg x/4503599627370496=0 then -1074 else((mg x/4503599627370496:Nat):Int) - 1075
def rc(m k:Nat):Int:=if m%2 ^ k=0 then 0 else if 2*(m%2 ^ k)<2 ^ k then 1 else if 2*(m%2 ^ k)=2 ^ k then 2 else 3
end Ref2
namespace Ref2
open Go.RowKit Tf
attribute [local go_sem] aL aM aP aQ aR aU aX
def wk(neg:Bool)(m:Nat):Bool:=if neg then decide (m<=9223372036854775808)else decide (m<9223372036854775808)
def wi(neg:Bool)(m:Nat):Int:=if wk neg m then(if neg then -(m:Int)else(m:Int))else 0
def gr(m e:Nat):Bool:=decide (m≠0)&&(decide (11<e)||decide (9223372036854775808/2 ^ e<m))
end Ref2
namespace Ref2
open Go.RowKit Tf
attribute [local go_sem] aL aM aP aQ aR aU aX
def bl(m:Nat):Nat:=if m=0 then 0 else m.log2+1
end Ref2
section
open Go.RowKit Cu Tf
attribute [local go_sem] aG
def RefOf(n rb:Nat)(w:World):Prop:= ∃ab eb cap,w.heap[rb]? =some (.cells #[.int .i64 n,.slice (some ⟨eb,0,none⟩) (12*n*n) cap,.slice (some ⟨ab,0,none⟩) (24*n*n) (24*n*n)] 69)/\EG w n eb/\w.rowIs ab 3 (24*n*n) (fun t=>.int .i64 (eE n t:Nat))
theorem RefOf.to{n rb:Nat}{w w':World}(h:RefOf n rb w)(a:Ab w w'):RefOf n rb w':=by
 obtain⟨ab,eb,cap,h1,h2,h3⟩:=h
 exact⟨ab,eb,cap,a.heap h1,h2.to a,rowIs.ab h3 a⟩
theorem RE.all{B n rb ab:Nat}{es:Value}{w:World}(hn:1<=n)(h:RE B n (24*n*n) (24*n*n) rb ab es w):RefOf n rb w:=by
 obtain⟨h1,h2,h3,h4,h5,h6⟩:=h
 have hh:=h2
 have hpos:0<12*n*n:=Nat.mul_pos (by omega) (by omega)
 rw[fN hn]at hh
 rcases hh.2 with⟨rfl,h0⟩ | ⟨g,cap,cur,rfl,hb,hg,k1,k2,k3,k4⟩
 ·omega
 ·refine⟨ab,g,cap,h1,⟨lt_of_block hg,fun t ht hl=> ?_⟩,h3.congr (fun t ht=>by rw[rA_end hn ht])⟩
  have hc: ∀j<4,∀u,(edV n t)[j]? =some u->w.cell? ⟨g,eN n t*4+j,none⟩=some u:=by
   intro j hj u hu
   have:=hh.cells (g:=g) rfl (eN n t*4+j) u (by rw[edL_at ht hl hj];exact hu)
   have ha:(⟨g,0,none⟩:Addr).add (eN n t*4+j)=⟨g,eN n t*4+j,none⟩:=by unfold Addr.add;split<;>simp_all
   rwa [ha]at this
  exact⟨hc 0 (by omega) _ rfl,hc 1 (by omega) _ rfl,hc 2 (by omega) _ rfl,hc 3 (by omega) _ rfl⟩
theorem rnew_no(n:Int)(w:World)(h: ¬(1<=n/\n<=32)):
  Calls prog 7 #[.int .i64 n] w fun e w'=>e=.returned (.tuple #[.pointer none,.int .i64 10])/\w'=w:=by
 have CE:=hid (fun u=>cV n u)
 have hz:clN n=0:=by unfold clN;rw[if_neg h]
 rw[hz]at CE
 clear h hz
 go_enter func7,ntmps7
 go_wp2_with (go_at_call 27;refine(CE.out _).mono ?_;rintro e w' ⟨rfl,hw⟩;have hw2:=hw.symm;subst hw2)
 go_ret2
 exact⟨rfl,rfl⟩
theorem rSide_at{n rb:Nat}{w:World}(g:RefOf n rb w):Calls prog 50 #[.pointer (some ⟨rb,0,none⟩)] w fun e w'=>e=.returned (.int .i64 n)/\w'=w:=by
 obtain⟨ab,eb,cap,h1,-⟩:=g
 have c0:=aA 0 h1
 clear h1
 go_enter func50,ntmps50
 go_wp2
 go_ret
 exact⟨rfl,rfl⟩
theorem kW{n rb:Nat}{w:World}(hn:1<=n/\n<=32)(g:RefOf n rb w):Calls prog 29 #[.pointer (some ⟨rb,0,none⟩)] w fun e w'=>e=.returned (.int .i64 (6*n*n:Nat))/\w'=w:=by
 have SI:=hid (rSide_at g)
 have CE:=hid (fun u=>cV n u)
 rw[fC hn]at CE
 generalize 6*n*n=N at*
 clear g hn
 go_enter func29,ntmps29
 go_wp2_with (first
  | (go_at_call 50;refine SI.out.mono ?_;rintro e w' ⟨rfl,hw⟩;have hw2:=hw.symm;subst hw2)
  | (go_at_call 27;refine(CE.out _).mono ?_;rintro e w' ⟨rfl,hw⟩;have hw2:=hw.symm;subst hw2))
 go_ret
 exact⟨rfl,rfl⟩
theorem kX{n rb:Nat}{w:World}(g:RefOf n rb w):Calls prog 51 #[.pointer (some ⟨rb,0,none⟩)] w fun e w'=>e=.returned (.int .i64 (12*n*n:Nat))/\w'=w:=by
 obtain⟨ab,eb,cap,h1,-⟩:=g
 have c1:=aA 1 h1
 simp at c1
 clear h1
 generalize 12*n*n=M at*
 go_enter func51,ntmps51
 go_wp2
 go_ret
 exact⟨rfl,rfl⟩
theorem oA{n rb t:Nat}{w:World}(hn:1<=n/\n<=32)(ht:t<24*n*n)(hl:isL n t=true)(g:RefOf n rb w):
  Calls prog 52 #[.pointer (some ⟨rb,0,none⟩),.int .i64 (eN n t:Nat)] w fun e w'=>e=.returned (.tuple #[.agg #[.int .i64 (t/4:Nat),.int .i64 (t%4:Nat),.int .i64 (bsC n (t/4) (t%4):Nat),.int .i64 (bsS n (t/4) (t%4):Nat)],.bool true])/\Below w.heap.size w w':=by
 have E1:=hid (kX (g.to (bl1 w (.cells #[.int .i64 0,.int .i64 0,.int .i64 0,.int .i64 0] 73))))
 obtain⟨ab,eb,cap,h1,h2,-⟩:=g
 have c1:=aA 1 h1
 simp at c1
 obtain⟨y0,y1,y2,y3⟩:=h2.2 t ht hl
 have lg:=lt_of_block h1
 have le:=h2.1
 have kN:=fK hn.1 ht hl
 generalize bsC n (t/4) (t%4)=d at*
 generalize bsS n (t/4) (t%4)=b at*
 generalize t/4=c at*
 generalize t%4=s at*
 generalize eN n t=k at*
 generalize 12*n*n=M at*
 have hk1:(k:Int)<M:=by omega
 clear h1 h2 hn ht hl
 go_enter func52,ntmps52
 go_wp2_with (go_at_call 51;refine(E1.out).mono ?_;rintro e w' ⟨rfl,hw⟩;have hw2:=hw.symm;subst hw2)
 refine bodyPost_ret ?_ rfl ⟨rfl,?_⟩
 ·exact cA results52 _ _ w.heap.size _ _ (0,0) _ _ rfl rfl (heap_alloc_new w _) underlying73 rfl (by kernel_rfl)
 ·exact bl1 w _
end
end Go.Proofs.YtilfdnipahabbaaDoor
