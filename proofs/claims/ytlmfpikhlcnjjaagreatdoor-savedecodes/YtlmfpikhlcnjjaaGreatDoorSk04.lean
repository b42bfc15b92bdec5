/-
  Some of the texts of this proof, one behind the other.
-/
import Derived.Deep.RegionHeld3
import Derived.Deep.OwnRows
import Derived.Laws.OwnMore
import Derived.Test.YtlmfpikhlcnjjaaGreatDoorSk03
set_option maxRecDepth 100000
set_option maxHeartbeats 400000000
namespace Go.Proofs.YtlmfpikhlcnjjaaGreatDoor
open _root_.Go.Proofs.Tryz
section
open Go.RowKit Tf Cu
attribute [local go_sem] aF aG aI aJ aK aL aM aD
theorem mN{P:Program}{fn:Func}{p q:Tmp}{ty:TypeId}(h:fn.results= #[.cell p ty,.tmp q])(tmps:Array Value)(w:World)(g:Nat)(t:TypeId)(cs:Array Value)(fr:Nat × Nat)(d:TypeDesc)(v:Value)
  (hp:tmps.getD p undef=.pointer (some ⟨g,0,none⟩)) (hq:tmps.getD q undef=v) (hg:w.heap[g]? =some (.cells cs t fr))
  (hu:P.underlying ty=some d) (hd:(match d with | .struct _ | .array _ _=>true | _=>false)=true) (hi:(P.info? ty).map (·.size)=some cs.size):
  (results fn tmps).run P w=.ok (.tuple #[.agg cs,v]) w:=by
 have hp':tmps[p]?.getD undef=.pointer (some ⟨g,0,none⟩):=by simpa using hp
 have hq':tmps[q]?.getD undef=v:=by simpa using hq
 simp[results,h,hp',hq',asAddr,run_loadVar_row w g t ty cs fr d hg hu hd hi]
theorem rK(k n:Int)(w:World):
  Calls prog 106 #[.int .i64 k,.int .i64 n] w fun e w'=> ∃r m,e=.returned (.float .f64 r)/\w'=w.drewN m/\Hid (IsC r (dvB (fB k) (fB n))):=by
 have F:Hid (∀(k:Int) w,Calls prog 115 #[.int .i64 k] w fun e w'=>e=.returned (.float .f64 (fB k))/\w'=w):=fun k w=>oM k w
 obtain⟨r,m,hr,hc⟩:=iT (P:=prog) w (fB k) (fB n)
 have HC:=hid hc
 generalize dvB (fB k) (fB n)=d at*
 clear hc
 go_enter func106,ntmps106
 go_wp2_with (first
  | (go_at_call 115;refine(F.out _ _).mono ?_;rintro e w' ⟨rfl,rfl⟩))
 go_ret
 exact⟨r,m,rfl,rfl,HC⟩
theorem rL(k n:Int)(w:World):
  Calls prog 109 #[.int .i64 k,.int .i64 n] w fun e w'=>e=.returned (.bool (decide (0<=k)&&decide (k<=n)))/\w'=w:=by
 by_cases h1:0<=k
 ·by_cases h2:k<=n
  ·rw[decide_eq_true h1,decide_eq_true h2]
   go_enter func109,ntmps109
   go_wp2
   go_ret
   exact⟨rfl,rfl⟩
  ·rw[decide_eq_true h1,decide_eq_false h2]
   go_enter func109,ntmps109
   go_wp2
   go_ret
   exact⟨rfl,rfl⟩
 ·rw[decide_eq_false h1,Bool.false_and]
  go_enter func109,ntmps109
  go_wp2
  go_ret
  exact⟨rfl,rfl⟩
def oc(f p q:Nat):Nat × Nat × Nat:=match f with
 | 0=>(4607182418800017408,p,q) | 1=>(negB p,4607182418800017408,q) | 2=>(13830554455654793216,negB p,q) | 3=>(p,13830554455654793216,q) | 4=>(negB q,p,4607182418800017408) | _=>(q,p,13830554455654793216)
theorem oc_lt{f p q:Nat}(hp:p<18446744073709551616)(hq:q<18446744073709551616):(oc f p q).1<18446744073709551616/\(oc f p q).2.1<18446744073709551616/\(oc f p q).2.2<18446744073709551616:=by
 have a:=dI hp
 have b:=dI hq
 unfold oc
 split<;>refine⟨?_,?_,?_⟩<;>dsimp only<;>first | assumption | omega
def fp(n f:Nat)(k h:Int):P3:=pl (sc n (cC f)) (pl (sc k (cR f)) (sc h (cU f)))
theorem cn_of{p d:Nat}(hp:IsC p d):canonB (negB p)=cn d:=by
 have h:=oI hp.1
 rw[hp.2]at h
 exact h.symm
theorem oc_fp{n f p q:Nat}{k h:Int}(n1:1<=n)(n2:n<=32)(hf:f<6)(hp:IsC p (qo n k))(hq:IsC q (qo n h)):
  canonB (oc f p q).1=qo n (fp n f k h).1/\canonB (oc f p q).2.1=qo n (fp n f k h).2.1/\canonB (oc f p q).2.2=qo n (fp n f k h).2.2:=by
 have e1:canonB 4607182418800017408=qo n n:=by rw[qo_one n (by omega) n1];decide
 have e2:canonB 13830554455654793216=qo n (-n):=by rw[qD n1 n2,qo_one n (by omega) n1];decide
 have e3:canonB (negB p)=qo n (-k):=by rw[qD n1 n2];exact cn_of hp
 have e4:canonB (negB q)=qo n (-h):=by rw[qD n1 n2];exact cn_of hq
 have e5:=hp.2
 have e6:=hq.2
 rcases six hf with rfl | rfl | rfl | rfl | rfl | rfl<;>simp only[oc,fp,pl,sc,cC,cR,cU,e1,e2,e3,e4,e5,e6]<;>refine⟨?_,?_,?_⟩<;>congr 1<;>omega
theorem sW(f p q:Nat)(w:World)(hf:f<6)(hp:p<18446744073709551616)(hq:q<18446744073709551616):
  Calls prog 113 #[.int .i64 f,.float .f64 p,.float .f64 q] w fun e w'=>e=.returned (.agg #[.float .f64 (oc f p q).1,.float .f64 (oc f p q).2.1,.float .f64 (oc f p q).2.2])/\Below w.heap.size w w':=by
 have n0:=iC p hp
 have n1:=iC q hq
 clear hp hq
 rcases six hf with rfl | rfl | rfl | rfl | rfl | rfl
 all_goals
  go_enter func113,ntmps113
  go_wp2
  refine bodyPost_ret ?_ rfl ⟨rfl,?_⟩
  ·exact results_cell_row results113 _ _ w.heap.size _ _ (0,0) _ rfl (heap_alloc_new w _) underlying123 rfl (by kernel_rfl)
  ·exact bl1 w _
theorem oO(n f p q:Nat)(k h:Int)(w:World)(n1:1<=n)(n2:n<=32)(hf:f<6)(hp:IsC p (qo n k))(hq:IsC q (qo n h)):
  Calls prog 105 #[.int .i64 f,.float .f64 p,.float .f64 q] w fun e w'=>e=.returned (.agg #[.float .f64 (px n (fp n f k h)),.float .f64 (py n (fp n f k h)),.float .f64 (pz n (fp n f k h))])/\Below w.heap.size w w':=by
 obtain⟨c1,c2,c3⟩:=oc_fp n1 n2 hf hp hq
 obtain⟨l1,l2,l3⟩:=oc_lt (f:=f) hp.1 hq.1
 have OC:=hid (fun w=>sW f p q w hf hp.1 hq.1)
 have UN:=hid (fun w=>unit_at _ _ _ w (qo_lt n (fp n f k h).1) (qo_lt n (fp n f k h).2.1) (qo_lt n (fp n f k h).2.2))
 have T0:=hid (fun u0=>bW _ u0 l1)
 have T1:=hid (fun u0=>bW _ u0 l2)
 have T2:=hid (fun u0=>bW _ u0 l3)
 rw[c1]at T0
 rw[c2]at T1
 rw[c3]at T2
 have hux:unB (lnB (qo n (fp n f k h).1) (qo n (fp n f k h).2.1) (qo n (fp n f k h).2.2)) (qo n (fp n f k h).1)=px n (fp n f k h):=rfl
 have huy:unB (lnB (qo n (fp n f k h).1) (qo n (fp n f k h).2.1) (qo n (fp n f k h).2.2)) (qo n (fp n f k h).2.1)=py n (fp n f k h):=rfl
 have huz:unB (lnB (qo n (fp n f k h).1) (qo n (fp n f k h).2.1) (qo n (fp n f k h).2.2)) (qo n (fp n f k h).2.2)=pz n (fp n f k h):=rfl
 rw[hux,huy,huz]at UN
 clear hux huy huz c1 c2 c3 l1 l2 l3 hp hq n1 n2 hf
 generalize px n (fp n f k h)=a at*
 generalize py n (fp n f k h)=b at*
 generalize pz n (fp n f k h)=c at*
 generalize qo n (fp n f k h).1=d0 at*
 generalize qo n (fp n f k h).2.1=d1 at*
 generalize qo n (fp n f k h).2.2=d2 at*
 generalize(oc f p q).1=x at*
 generalize(oc f p q).2.1=y at*
 generalize(oc f p q).2.2=z at*
 have A0:=hid (bl1 w (.cells #[.float .f64 0,.float .f64 0,.float .f64 0] 123))
 have R0:=hid (heap_alloc_new w (.cells #[.float .f64 0,.float .f64 0,.float .f64 0] 123))
 go_enter func105,ntmps105
 go_wp2_with fail
 refine(OC.out _).mono ?_
 rintro e v ⟨rfl,b1⟩
 have A1:Hid (Ab w v):=Ab.call A0.out b1
 have R1:Hid (v.heap[w.heap.size]? =some (.cells #[.float .f64 0,.float .f64 0,.float .f64 0] 123)):=Ab.heap b1 R0.out
 have hlt:w.heap.size<v.heap.size:=by have:=b1.size;simp at this;omega
 clear b1 A0 R0 OC
 go_upto_region 2 with fail
 generalize hW:World.alloc _ _=W
 have AW:Hid (Ab w W):=by rw[<- hW];exact A1.out.call (bl1 _ _)
 have ra:W.heap[v.heap.size]? =some (.cells #[.float .f64 x,.float .f64 y,.float .f64 z] 123):=by rw[<- hW];exact heap_alloc_new _ _
 have rc:W.heap[w.heap.size]? =some (.cells #[.float .f64 0,.float .f64 0,.float .f64 0] 123):=by rw[<- hW,Below.heap_alloc _ _ _ hlt];exact R1.out
 have KS:Hid (∀w',Abx W w.heap.size 3 123 w'->Abx W w.heap.size 3 123 w'/\w'.cell? ⟨v.heap.size,0,none⟩=some (.float .f64 x)/\w'.cell? ⟨v.heap.size,1,none⟩=some (.float .f64 y)/\w'.cell? ⟨v.heap.size,2,none⟩=some (.float .f64 z)/\w'.frozen? ⟨w.heap.size,0,none⟩=false/\w'.frozen? ⟨w.heap.size,1,none⟩=false/\w'.frozen? ⟨w.heap.size,2,none⟩=false/\w'.cell? ⟨w.heap.size,0,none⟩=some (rv w' (w.heap.size) 0)/\w'.cell? ⟨w.heap.size,1,none⟩=some (rv w' (w.heap.size) 1)/\w'.cell? ⟨w.heap.size,2,none⟩=some (rv w' (w.heap.size) 2)):=by
  intro w' hw
  obtain⟨-,p3,p4,p5⟩:=rowfacts (hw.heap (by omega) ra)
  exact⟨hw,p3,p4,p5,hw.free 0,hw.free 1,hw.free 2,hw.some (by omega),hw.some (by omega),hw.some (by omega)⟩
 have A3:Abx W w.heap.size 3 123 W:=(Ab.refl W).x rfl rc
 clear ra rc hW A1 R1
 go_region_held3 (fun w'=>Abx W w.heap.size 3 123 w'/\w'.cell? ⟨v.heap.size,0,none⟩=some (.float .f64 x)/\w'.cell? ⟨v.heap.size,1,none⟩=some (.float .f64 y)/\w'.cell? ⟨v.heap.size,2,none⟩=some (.float .f64 z)/\w'.frozen? ⟨w.heap.size,0,none⟩=false/\w'.frozen? ⟨w.heap.size,1,none⟩=false/\w'.frozen? ⟨w.heap.size,2,none⟩=false/\w'.cell? ⟨w.heap.size,0,none⟩=some (rv w' (w.heap.size) 0)/\w'.cell? ⟨w.heap.size,1,none⟩=some (rv w' (w.heap.size) 1)/\w'.cell? ⟨w.heap.size,2,none⟩=some (rv w' (w.heap.size) 2)) ((refine KS.out _ ?_;(with_reducible (repeat(first | assumption | apply Abx.drew | apply Abx.drewN | apply Abx.set | (refine Abx.call ?_ (by assumption)))));done)) (first
  | (go_at_call_of 93 x;refine(T0.out _).mono ?_;rintro e w1 ⟨rfl,rfl⟩)
  | (go_at_call_of 93 y;refine(T1.out _).mono ?_;rintro e w2 ⟨rfl,rfl⟩)
  | (go_at_call_of 93 z;refine(T2.out _).mono ?_;rintro e w3 ⟨rfl,rfl⟩)
  | (go_at_call 114;refine(UN.out _).mono ?_;rintro e w4 ⟨rfl,b4⟩))
 have A2:Abx W w.heap.size 3 123 w4:=Abx.call (A3.drew) b4
 clear KS A3 b4
 go_wp2
 refine bodyPost_ret ?_ rfl ⟨rfl,?_⟩
 ·exact results_cell_row results105 _ _ (w.heap.size) _ _ (0,0) _ rfl (set3 A2) underlying123 rfl (by kernel_rfl)
 ·exact(((A2.set 0 _).set 1 _).set 2 _).ab AW.out (by omega)
theorem eR(n f i j:Nat)(w:World)(hn:1<=n/\n<=32)(hf:f<6)(hi:i<=n)(hj:j<=n):
  Calls prog 97 #[.int .i64 n,.int .i64 f,.int .i64 i,.int .i64 j] w fun e w'=>e=.returned (.tuple #[.agg #[.float .f64 (px n (cr n f i j)),.float .f64 (py n (cr n f i j)),.float .f64 (pz n (cr n f i j))],.bool true])/\Below w.heap.size w w':=by
 have CE:Hid (∀u,Calls prog 82 #[.int .i64 n,.int .i64 f,.int .i64 0,.int .i64 0] u fun e w'=>e=.returned (.int .i64 (nm n f 0 0:Nat))/\w'=u):=fun u=>by
  have h:=qZ n f 0 0 u
  rw[show(0:Int)=((0:Nat):Int)from rfl,pS hn hf (by omega) (by omega)]at h
  exact h
 have U1:Hid (∀u,Calls prog 109 #[.int .i64 i,.int .i64 n] u fun e w'=>e=.returned (.bool true)/\w'=u):=fun u=>by
  have h:=rL i n u
  rw[decide_eq_true (show(0:Int)<=i by omega),decide_eq_true (show(i:Int)<=n by omega)]at h
  exact h
 have U2:Hid (∀u,Calls prog 109 #[.int .i64 j,.int .i64 n] u fun e w'=>e=.returned (.bool true)/\w'=u):=fun u=>by
  have h:=rL j n u
  rw[decide_eq_true (show(0:Int)<=j by omega),decide_eq_true (show(j:Int)<=n by omega)]at h
  exact h
 have PA:Hid (∀(k:Int) u,Calls prog 106 #[.int .i64 k,.int .i64 n] u fun e w'=> ∃r m,e=.returned (.float .f64 r)/\w'=u.drewN m/\Hid (IsC r (qo n k))):=fun k u=>rK k n u
 have PO:Hid (∀p q u,Hid (IsC p (qo n (2*i - n)))->Hid (IsC q (qo n (2*j - n)))->Calls prog 105 #[.int .i64 f,.float .f64 p,.float .f64 q] u fun e w'=>e=.returned (.agg #[.float .f64 (px n (cr n f i j)),.float .f64 (py n (cr n f i j)),.float .f64 (pz n (cr n f i j))])/\Below u.heap.size u w'):=fun p q u hp hq=>oO n f p q _ _ u hn.1 hn.2 hf hp hq
 generalize px n (cr n f i j)=a at*
 generalize py n (cr n f i j)=b at*
 generalize pz n (cr n f i j)=c at*
 have A0:=hid (bl1 w (.cells #[.float .f64 0,.float .f64 0,.float .f64 0] 123))
 have R0:=hid (heap_alloc_new w (.cells #[.float .f64 0,.float .f64 0,.float .f64 0] 123))
 have hnm:nm n f 0 0<6*n*n:=nm_lt hf (by omega) (by omega)
 have hpos:(0:Int)<=(nm n f 0 0:Nat):=by omega
 generalize((nm n f 0 0:Nat):Int)=nn at*
 have hi2:(i:Int)<=32:=by omega
 have hj2:(j:Int)<=32:=by omega
 have hn2:(n:Int)<=32:=by omega
 clear hnm hn hf hi hj
 go_enter func97,ntmps97
 go_wp2_with (first
  | (go_at_call 82;refine(CE.out _).mono ?_;rintro e w' ⟨rfl,rfl⟩)
  | (go_at_call_of 109 (i:Int);refine(U1.out _).mono ?_;rintro e w' ⟨rfl,rfl⟩)
  | (go_at_call_of 109 (j:Int);refine(U2.out _).mono ?_;rintro e w' ⟨rfl,rfl⟩))
 refine(PA.out _ _).mono ?_
 rintro e w1 ⟨p,m1,rfl,rfl,hp⟩
 go_wp2_with fail
 refine(PA.out _ _).mono ?_
 rintro e w1 ⟨q,m2,rfl,rfl,hq⟩
 go_wp2_with fail
 refine(PO.out _ _ _ hp hq).mono ?_
 rintro e w3 ⟨rfl,b3⟩
 have A3:Hid (Ab w w3):=Ab.call (Ab.drewN A0.out _) b3
 have r0:w3.heap[w.heap.size]? =some (.cells #[.float .f64 0,.float .f64 0,.float .f64 0] 123):=Ab.heap b3 R0.out
 obtain⟨⟨o0,o1,o2⟩,o3,o4,o5⟩:=rowfacts r0
 have R3:=hid r0
 clear r0 b3 A0 R0
 go_wp2
 refine bodyPost_ret ?_ rfl ⟨rfl,?_⟩
 ·exact mN results97 _ _ w.heap.size _ _ (0,0) _ _ rfl rfl (jA R3.out) underlying123 rfl (by kernel_rfl)
 ·exact((Ab.setk A3.out (by omega) _).setk (by omega) _).setk (by omega) _
theorem lB(n c:Nat)(w:World)(hn:1<=n/\n<=32)(hc:c<6*n*n):
  Calls prog 90 #[.int .i64 n,.int .i64 c] w fun e w'=>e=.returned (.tuple #[.agg #[.float .f64 (px n (MD n c)),.float .f64 (py n (MD n c)),.float .f64 (pz n (MD n c))],.bool true])/\Below w.heap.size w w':=by
 obtain⟨h1,h2,h3,-⟩:=fE hn.1 hc
 have PL:=hid (fun u=>jE n c hn hc u)
 have PA:Hid (∀(k:Int) u,Calls prog 106 #[.int .i64 k,.int .i64 n] u fun e w'=> ∃r m,e=.returned (.float .f64 r)/\w'=u.drewN m/\Hid (IsC r (qo n k))):=fun k u=>rK k n u
 have PO:Hid (∀p q u,Hid (IsC p (qo n (2*(ci n c:Nat)+1 - n)))->Hid (IsC q (qo n (2*(cj n c:Nat)+1 - n)))->Calls prog 105 #[.int .i64 (cf n c:Nat),.float .f64 p,.float .f64 q] u fun e w'=>e=.returned (.agg #[.float .f64 (px n (MD n c)),.float .f64 (py n (MD n c)),.float .f64 (pz n (MD n c))])/\Below u.heap.size u w'):=fun p q u hp hq=>oO n _ p q _ _ u hn.1 hn.2 h1 hp hq
 generalize px n (MD n c)=a at*
 generalize py n (MD n c)=b at*
 generalize pz n (MD n c)=d at*
 generalize cf n c=f at*
 have hi:((ci n c:Nat):Int)<=32:=by omega
 have hj:((cj n c:Nat):Int)<=32:=by omega
 have hn2:(n:Int)<=32:=by omega
 generalize ci n c=i at*
 generalize cj n c=j at*
 clear hn hc h1 h2 h3
 have A0:=hid (bl1 w (.cells #[.float .f64 0,.float .f64 0,.float .f64 0] 123))
 have R0:=hid (heap_alloc_new w (.cells #[.float .f64 0,.float .f64 0,.float .f64 0] 123))
 go_enter func90,ntmps90
 go_wp2_with fail
 refine(PL.out _).mono ?_
 rintro e w1 ⟨rfl,m0,rfl⟩
 go_wp2_with fail
 refine(PA.out _ _).mono ?_
 rintro e w1 ⟨p,m1,rfl,rfl,hp⟩
 go_wp2_with fail
 refine(PA.out _ _).mono ?_
 rintro e w1 ⟨q,m2,rfl,rfl,hq⟩
 go_wp2_with fail
 refine(PO.out _ _ _ hp hq).mono ?_
 rintro e w3 ⟨rfl,b3⟩
 have A3:Hid (Ab w w3):=Ab.call (Ab.drewN A0.out _) b3
 have r0:w3.heap[w.heap.size]? =some (.cells #[.float .f64 0,.float .f64 0,.float .f64 0] 123):=Ab.heap b3 R0.out
 obtain⟨⟨o0,o1,o2⟩,o3,o4,o5⟩:=rowfacts r0
 have R3:=hid r0
 clear r0 b3 A0 R0
 go_wp2
 refine bodyPost_ret ?_ rfl ⟨rfl,?_⟩
 ·exact mN results90 _ _ w.heap.size _ _ (0,0) _ _ rfl rfl (jA R3.out) underlying123 rfl (by kernel_rfl)
 ·exact((Ab.setk A3.out (by omega) _).setk (by omega) _).setk (by omega) _
end
section
open Go.RowKit Tf Cu
attribute [local go_sem] aF aG aI aJ aK aL aM aD
theorem eU{w:World}{g:Nat}{v0 v1 v2 v3 v4 v5 v6 v7 v8 v9 v10 v11:Value}{T:TypeId}(r:w.heap[g]? =some (.cells #[v0,v1,v2,v3,v4,v5,v6,v7,v8,v9,v10,v11] T)):
  w.cell? ⟨g,0,none⟩=some v0/\w.cell? ⟨g,1,none⟩=some v1/\w.cell? ⟨g,2,none⟩=some v2/\w.cell? ⟨g,3,none⟩=some v3/\w.cell? ⟨g,4,none⟩=some v4/\w.cell? ⟨g,5,none⟩=some v5/\w.cell? ⟨g,6,none⟩=some v6/\w.cell? ⟨g,7,none⟩=some v7/\w.cell? ⟨g,8,none⟩=some v8/\w.cell? ⟨g,9,none⟩=some v9/\w.cell? ⟨g,10,none⟩=some v10/\w.cell? ⟨g,11,none⟩=some v11:=
 ⟨aA 0 r,aA 1 r,aA 2 r,aA 3 r,aA 4 r,aA 5 r,aA 6 r,aA 7 r,aA 8 r,aA 9 r,aA 10 r,aA 11 r⟩
theorem jV{w:World}{g:Nat}{v0 v1 v2 v3 v4 v5 v6 v7 v8 v9 v10 v11:Value}{T:TypeId}(r:w.heap[g]? =some (.cells #[v0,v1,v2,v3,v4,v5,v6,v7,v8,v9,v10,v11] T)):
  w.frozen? ⟨g,0,none⟩=false/\w.frozen? ⟨g,1,none⟩=false/\w.frozen? ⟨g,2,none⟩=false/\w.frozen? ⟨g,3,none⟩=false/\w.frozen? ⟨g,4,none⟩=false/\w.frozen? ⟨g,5,none⟩=false/\w.frozen? ⟨g,6,none⟩=false/\w.frozen? ⟨g,7,none⟩=false/\w.frozen? ⟨g,8,none⟩=false/\w.frozen? ⟨g,9,none⟩=false/\w.frozen? ⟨g,10,none⟩=false/\w.frozen? ⟨g,11,none⟩=false:=
 ⟨aC r 0,aC r 1,aC r 2,aC r 3,aC r 4,aC r 5,aC r 6,aC r 7,aC r 8,aC r 9,aC r 10,aC r 11⟩
theorem rM{w:World}{g:Nat}{v0 v1 v2 v3 v4 v5 v6 v7 v8 v9 v10 v11 x y z:Value}{T:TypeId}(h:w.heap[g]? =some (.cells #[v0,v1,v2,v3,v4,v5,v6,v7,v8,v9,v10,v11] T)):
  (((w.setCell ⟨g,0,none⟩ x).setCell ⟨g,1,none⟩ y).setCell ⟨g,2,none⟩ z).heap[g]? =some (.cells #[x,y,z,v3,v4,v5,v6,v7,v8,v9,v10,v11] T):=by
 have h1:=aN (v:=x) (k:=0) h
 have h2:=aN (v:=y) (k:=1) h1
 have h3:=aN (v:=z) (k:=2) h2
 simpa using h3
theorem rN{w:World}{g:Nat}{v0 v1 v2 v3 v4 v5 v6 v7 v8 v9 v10 v11 x y z:Value}{T:TypeId}(h:w.heap[g]? =some (.cells #[v0,v1,v2,v3,v4,v5,v6,v7,v8,v9,v10,v11] T)):
  (((w.setCell ⟨g,3,none⟩ x).setCell ⟨g,4,none⟩ y).setCell ⟨g,5,none⟩ z).heap[g]? =some (.cells #[v0,v1,v2,x,y,z,v6,v7,v8,v9,v10,v11] T):=by
 have h1:=aN (v:=x) (k:=3) h
 have h2:=aN (v:=y) (k:=4) h1
 have h3:=aN (v:=z) (k:=5) h2
 simpa using h3
theorem rO{w:World}{g:Nat}{v0 v1 v2 v3 v4 v5 v6 v7 v8 v9 v10 v11 x y z:Value}{T:TypeId}(h:w.heap[g]? =some (.cells #[v0,v1,v2,v3,v4,v5,v6,v7,v8,v9,v10,v11] T)):
  (((w.setCell ⟨g,6,none⟩ x).setCell ⟨g,7,none⟩ y).setCell ⟨g,8,none⟩ z).heap[g]? =some (.cells #[v0,v1,v2,v3,v4,v5,x,y,z,v9,v10,v11] T):=by
 have h1:=aN (v:=x) (k:=6) h
 have h2:=aN (v:=y) (k:=7) h1
 have h3:=aN (v:=z) (k:=8) h2
 simpa using h3
theorem rP{w:World}{g:Nat}{v0 v1 v2 v3 v4 v5 v6 v7 v8 v9 v10 v11 x y z:Value}{T:TypeId}(h:w.heap[g]? =some (.cells #[v0,v1,v2,v3,v4,v5,v6,v7,v8,v9,v10,v11] T)):
  (((w.setCell ⟨g,9,none⟩ x).setCell ⟨g,10,none⟩ y).setCell ⟨g,11,none⟩ z).heap[g]? =some (.cells #[v0,v1,v2,v3,v4,v5,v6,v7,v8,x,y,z] T):=by
 have h1:=aN (v:=x) (k:=9) h
 have h2:=aN (v:=y) (k:=10) h1
 have h3:=aN (v:=z) (k:=11) h2
 simpa using h3
theorem mO{w:World}{g h a b c:Nat}{x y z:Value}{o:Obj}(hne:h≠g)(hh:w.heap[h]? =some o):(((w.setCell ⟨g,a,none⟩ x).setCell ⟨g,b,none⟩ y).setCell ⟨g,c,none⟩ z).heap[h]? =some o:=by
 rw[Below.heap_setCell _ _ _ _ hne,Below.heap_setCell _ _ _ _ hne,Below.heap_setCell _ _ _ _ hne];exact hh
theorem jW(n c:Nat)(w:World)(hn:1<=n/\n<=32)(hc:c<6*n*n):
  Calls prog 84 #[.int .i64 n,.int .i64 c] w fun e w'=>e=.returned (.tuple #[.agg #[.float .f64 (px n (cr n (cf n c) (ci n c) (cj n c))),.float .f64 (py n (cr n (cf n c) (ci n c) (cj n c))),.float .f64 (pz n (cr n (cf n c) (ci n c) (cj n c))),.float .f64 (px n (cr n (cf n c) (ci n c+1) (cj n c))),.float .f64 (py n (cr n (cf n c) (ci n c+1) (cj n c))),.float .f64 (pz n (cr n (cf n c) (ci n c+1) (cj n c))),.float .f64 (px n (cr n (cf n c) (ci n c+1) (cj n c+1))),.float .f64 (py n (cr n (cf n c) (ci n c+1) (cj n c+1))),.float .f64 (pz n (cr n (cf n c) (ci n c+1) (cj n c+1))),.float .f64 (px n (cr n (cf n c) (ci n c) (cj n c+1))),.float .f64 (py n (cr n (cf n c) (ci n c) (cj n c+1))),.float .f64 (pz n (cr n (cf n c) (ci n c) (cj n c+1)))],.bool true])/\Below w.heap.size w w':=by
 obtain⟨h1,h2,h3,-⟩:=fE hn.1 hc
 have PL:=hid (fun u=>jE n c hn hc u)
 have K0:Hid (∀u,Calls prog 97 #[.int .i64 n,.int .i64 (cf n c:Nat),.int .i64 (ci n c:Nat),.int .i64 (cj n c:Nat)] u fun e w'=>e=.returned (.tuple #[.agg #[.float .f64 (px n (cr n (cf n c) (ci n c) (cj n c))),.float .f64 (py n (cr n (cf n c) (ci n c) (cj n c))),.float .f64 (pz n (cr n (cf n c) (ci n c) (cj n c)))],.bool true])/\Below u.heap.size u w'):=fun u=>eR n (cf n c) (ci n c) (cj n c) u hn h1 (by omega) (by omega)
 have K1:Hid (∀u,Calls prog 97 #[.int .i64 n,.int .i64 (cf n c:Nat),.int .i64 ((ci n c:Nat)+1),.int .i64 (cj n c:Nat)] u fun e w'=>e=.returned (.tuple #[.agg #[.float .f64 (px n (cr n (cf n c) (ci n c+1) (cj n c))),.float .f64 (py n (cr n (cf n c) (ci n c+1) (cj n c))),.float .f64 (pz n (cr n (cf n c) (ci n c+1) (cj n c)))],.bool true])/\Below u.heap.size u w'):=fun u=>eR n (cf n c) (ci n c+1) (cj n c) u hn h1 (by omega) (by omega)
 have K2:Hid (∀u,Calls prog 97 #[.int .i64 n,.int .i64 (cf n c:Nat),.int .i64 ((ci n c:Nat)+1),.int .i64 ((cj n c:Nat)+1)] u fun e w'=>e=.returned (.tuple #[.agg #[.float .f64 (px n (cr n (cf n c) (ci n c+1) (cj n c+1))),.float .f64 (py n (cr n (cf n c) (ci n c+1) (cj n c+1))),.float .f64 (pz n (cr n (cf n c) (ci n c+1) (cj n c+1)))],.bool true])/\Below u.heap.size u w'):=fun u=>eR n (cf n c) (ci n c+1) (cj n c+1) u hn h1 (by omega) (by omega)
 have K3:Hid (∀u,Calls prog 97 #[.int .i64 n,.int .i64 (cf n c:Nat),.int .i64 (ci n c:Nat),.int .i64 ((cj n c:Nat)+1)] u fun e w'=>e=.returned (.tuple #[.agg #[.float .f64 (px n (cr n (cf n c) (ci n c) (cj n c+1))),.float .f64 (py n (cr n (cf n c) (ci n c) (cj n c+1))),.float .f64 (pz n (cr n (cf n c) (ci n c) (cj n c+1)))],.bool true])/\Below u.heap.size u w'):=fun u=>eR n (cf n c) (ci n c) (cj n c+1) u hn h1 (by omega) (by omega)
 generalize px n (cr n (cf n c) (ci n c) (cj n c))=a0 at*
 generalize py n (cr n (cf n c) (ci n c) (cj n c))=b0 at*
 generalize pz n (cr n (cf n c) (ci n c) (cj n c))=d0 at*
 generalize px n (cr n (cf n c) (ci n c+1) (cj n c))=a1 at*
 generalize py n (cr n (cf n c) (ci n c+1) (cj n c))=b1 at*
 generalize pz n (cr n (cf n c) (ci n c+1) (cj n c))=d1 at*
 generalize px n (cr n (cf n c) (ci n c+1) (cj n c+1))=a2 at*
 generalize py n (cr n (cf n c) (ci n c+1) (cj n c+1))=b2 at*
 generalize pz n (cr n (cf n c) (ci n c+1) (cj n c+1))=d2 at*
 generalize px n (cr n (cf n c) (ci n c) (cj n c+1))=a3 at*
 generalize py n (cr n (cf n c) (ci n c) (cj n c+1))=b3 at*
 generalize pz n (cr n (cf n c) (ci n c) (cj n c+1))=d3 at*
 have hi:((ci n c:Nat):Int)<=32:=by omega
 have hj:((cj n c:Nat):Int)<=32:=by omega
 generalize cf n c=f at*
 generalize ci n c=i at*
 generalize cj n c=j at*
 clear hn hc h1 h2 h3
 have A0:=hid (bl2 w (.cells #[.float .f64 0,.float .f64 0,.float .f64 0,.float .f64 0,.float .f64 0,.float .f64 0,.float .f64 0,.float .f64 0,.float .f64 0,.float .f64 0,.float .f64 0,.float .f64 0] 124) (.cells #[.float .f64 0,.float .f64 0,.float .f64 0,.float .f64 0,.float .f64 0,.float .f64 0,.float .f64 0,.float .f64 0,.float .f64 0,.float .f64 0,.float .f64 0,.float .f64 0] 124))
 have R0:=hid (And.intro (heap_alloc2_old w (.cells #[.float .f64 0,.float .f64 0,.float .f64 0,.float .f64 0,.float .f64 0,.float .f64 0,.float .f64 0,.float .f64 0,.float .f64 0,.float .f64 0,.float .f64 0,.float .f64 0] 124) (.cells #[.float .f64 0,.float .f64 0,.float .f64 0,.float .f64 0,.float .f64 0,.float .f64 0,.float .f64 0,.float .f64 0,.float .f64 0,.float .f64 0,.float .f64 0,.float .f64 0] 124)) (heap_alloc2_new w (.cells #[.float .f64 0,.float .f64 0,.float .f64 0,.float .f64 0,.float .f64 0,.float .f64 0,.float .f64 0,.float .f64 0,.float .f64 0,.float .f64 0,.float .f64 0,.float .f64 0] 124) (.cells #[.float .f64 0,.float .f64 0,.float .f64 0,.float .f64 0,.float .f64 0,.float .f64 0,.float .f64 0,.float .f64 0,.float .f64 0,.float .f64 0,.float .f64 0,.float .f64 0] 124)))
 go_enter func84,ntmps84
 go_wp2_with fail
 refine(PL.out _).mono ?_
 rintro e w1 ⟨rfl,m0,rfl⟩
 go_wp2_with fail
 refine(K0.out _).mono ?_
 rintro e u0 ⟨rfl,b0⟩
 have B0:Hid (Ab w u0):=Ab.call (Ab.drewN A0.out _) b0
 have G0:Hid (u0.heap[w.heap.size]? =some (.cells #[.float .f64 0,.float .f64 0,.float .f64 0,.float .f64 0,.float .f64 0,.float .f64 0,.float .f64 0,.float .f64 0,.float .f64 0,.float .f64 0,.float .f64 0,.float .f64 0] 124)):=Ab.heap b0 R0.out.1
 have H0:Hid (u0.heap[w.heap.size+1]? =some (.cells #[.float .f64 0,.float .f64 0,.float .f64 0,.float .f64 0,.float .f64 0,.float .f64 0,.float .f64 0,.float .f64 0,.float .f64 0,.float .f64 0,.float .f64 0,.float .f64 0] 124)):=Ab.heap b0 R0.out.2
 clear A0 R0 b0
 obtain⟨q0,q1,q2,q3,q4,q5,q6,q7,q8,q9,q10,q11⟩:=eU H0.out
 obtain⟨o0,o1,o2,o3,o4,o5,o6,o7,o8,o9,o10,o11⟩:=jV H0.out
 clear q3 o3 q4 o4 q5 o5 q6 o6 q7 o7 q8 o8 q9 o9 q10 o10 q11 o11
 go_wp2_with fail
 refine(K1.out _).mono ?_
 rintro e u1 ⟨rfl,b1⟩
 have B1:Hid (Ab w u1):=Ab.call (((Ab.setk B0.out (by omega) _).setk (by omega) _).setk (by omega) _) b1
 have G1:Hid (u1.heap[w.heap.size]? =some (.cells #[.float .f64 0,.float .f64 0,.float .f64 0,.float .f64 0,.float .f64 0,.float .f64 0,.float .f64 0,.float .f64 0,.float .f64 0,.float .f64 0,.float .f64 0,.float .f64 0] 124)):=Ab.heap b1 (mO (by omega) G0.out)
 have H1:Hid (u1.heap[w.heap.size+1]? =some (.cells #[.float .f64 a0,.float .f64 b0,.float .f64 d0,.float .f64 0,.float .f64 0,.float .f64 0,.float .f64 0,.float .f64 0,.float .f64 0,.float .f64 0,.float .f64 0,.float .f64 0] 124)):=Ab.heap b1 (rM H0.out)
 clear b1 B0 G0 H0 q0 o0 q1 o1 q2 o2
 obtain⟨q0,q1,q2,q3,q4,q5,q6,q7,q8,q9,q10,q11⟩:=eU H1.out
 obtain⟨o0,o1,o2,o3,o4,o5,o6,o7,o8,o9,o10,o11⟩:=jV H1.out
 clear q0 o0 q1 o1 q2 o2 q6 o6 q7 o7 q8 o8 q9 o9 q10 o10 q11 o11
 go_wp2_with fail
 refine(K2.out _).mono ?_
 rintro e u2 ⟨rfl,b2⟩
 have B2:Hid (Ab w u2):=Ab.call (((Ab.setk B1.out (by omega) _).setk (by omega) _).setk (by omega) _) b2
 have G2:Hid (u2.heap[w.heap.size]? =some (.cells #[.float .f64 0,.float .f64 0,.float .f64 0,.float .f64 0,.float .f64 0,.float .f64 0,.float .f64 0,.float .f64 0,.float .f64 0,.float .f64 0,.float .f64 0,.float .f64 0] 124)):=Ab.heap b2 (mO (by omega) G1.out)
 have H2:Hid (u2.heap[w.heap.size+1]? =some (.cells #[.float .f64 a0,.float .f64 b0,.float .f64 d0,.float .f64 a1,.float .f64 b1,.float .f64 d1,.float .f64 0,.float .f64 0,.float .f64 0,.float .f64 0,.float .f64 0,.float .f64 0] 124)):=Ab.heap b2 (rN H1.out)
 clear b2 B1 G1 H1 q3 o3 q4 o4 q5 o5
 obtain⟨q0,q1,q2,q3,q4,q5,q6,q7,q8,q9,q10,q11⟩:=eU H2.out
 obtain⟨o0,o1,o2,o3,o4,o5,o6,o7,o8,o9,o10,o11⟩:=jV H2.out
 clear q0 o0 q1 o1 q2 o2 q3 o3 q4 o4 q5 o5 q9 o9 q10 o10 q11 o11
 go_wp2_with fail
 refine(K3.out _).mono ?_
 rintro e u3 ⟨rfl,b3⟩
 have B3:Hid (Ab w u3):=Ab.call (((Ab.setk B2.out (by omega) _).setk (by omega) _).setk (by omega) _) b3
 have G3:Hid (u3.heap[w.heap.size]? =some (.cells #[.float .f64 0,.float .f64 0,.float .f64 0,.float .f64 0,.float .f64 0,.float .f64 0,.float .f64 0,.float .f64 0,.float .f64 0,.float .f64 0,.float .f64 0,.float .f64 0] 124)):=Ab.heap b3 (mO (by omega) G2.out)
 have H3:Hid (u3.heap[w.heap.size+1]? =some (.cells #[.float .f64 a0,.float .f64 b0,.float .f64 d0,.float .f64 a1,.float .f64 b1,.float .f64 d1,.float .f64 a2,.float .f64 b2,.float .f64 d2,.float .f64 0,.float .f64 0,.float .f64 0] 124)):=Ab.heap b3 (rO H2.out)
 clear b3 B2 G2 H2 q6 o6 q7 o7 q8 o8
 obtain⟨q0,q1,q2,q3,q4,q5,q6,q7,q8,q9,q10,q11⟩:=eU H3.out
 obtain⟨o0,o1,o2,o3,o4,o5,o6,o7,o8,o9,o10,o11⟩:=jV H3.out
 clear q0 o0 q1 o1 q2 o2 q3 o3 q4 o4 q5 o5 q6 o6 q7 o7 q8 o8
 go_upto_region 9 with fail
 generalize hW:World.setCell _ _ _=W
 have BW:Hid (Ab w W):=by rw[<- hW];exact((Ab.setk B3.out (by omega) _).setk (by omega) _).setk (by omega) _
 have GW:Hid (W.heap[w.heap.size]? =some (.cells #[.float .f64 0,.float .f64 0,.float .f64 0,.float .f64 0,.float .f64 0,.float .f64 0,.float .f64 0,.float .f64 0,.float .f64 0,.float .f64 0,.float .f64 0,.float .f64 0] 124)):=by rw[<- hW];exact mO (by omega) G3.out
 have HW:Hid (W.heap[w.heap.size+1]? =some (.cells #[.float .f64 a0,.float .f64 b0,.float .f64 d0,.float .f64 a1,.float .f64 b1,.float .f64 d1,.float .f64 a2,.float .f64 b2,.float .f64 d2,.float .f64 a3,.float .f64 b3,.float .f64 d3] 124)):=by rw[<- hW];exact rP H3.out
 clear hW B3 G3 H3 q9 o9 q10 o10 q11 o11
 obtain⟨q0,q1,q2,q3,q4,q5,q6,q7,q8,q9,q10,q11⟩:=eU HW.out
 obtain⟨o0,o1,o2,o3,o4,o5,o6,o7,o8,o9,o10,o11⟩:=jV GW.out
 obtain⟨z0,z1,z2,z3,z4,z5,z6,z7,z8,z9,z10,z11⟩:=eU GW.out
 go_wp2
 refine bodyPost_ret ?_ rfl ⟨rfl,?_⟩
 ·exact mN results84 _ _ w.heap.size _ _ (0,0) _ _ rfl rfl (rP (rO (rN (rM GW.out)))) underlying124 rfl (by kernel_rfl)
 ·exact(((((((((((Ab.setk BW.out (by omega) _).setk (by omega) _).setk (by omega) _).setk (by omega) _).setk (by omega) _).setk (by omega) _).setk (by omega) _).setk (by omega) _).setk (by omega) _).setk (by omega) _).setk (by omega) _).setk (by omega) _
theorem sX(n c:Nat):LnC n c 0=gp n (cr n (cf n c) (ci n c+1) (cj n c)) (cr n (cf n c) (ci n c+1) (cj n c+1))/\LnC n c 1=gp n (cr n (cf n c) (ci n c) (cj n c+1)) (cr n (cf n c) (ci n c+1) (cj n c+1))/\LnC n c 2=gp n (cr n (cf n c) (ci n c) (cj n c)) (cr n (cf n c) (ci n c) (cj n c+1))/\LnC n c 3=gp n (cr n (cf n c) (ci n c) (cj n c)) (cr n (cf n c) (ci n c+1) (cj n c)):=⟨rfl,rfl,rfl,rfl⟩
theorem len_ok(n c s:Nat)(w:World)(hn:1<=n/\n<=32)(hc:c<6*n*n)(hs:s<4):
  Calls prog 67 #[.int .i64 n,.int .i64 c,.int .i64 s] w fun e w'=>e=.returned (.float .f64 (LnC n c s))/\Below w.heap.size w w':=by
 have CO:=hid (fun u=>jW n c u hn hc)
 obtain⟨l0,l1,l2,l3⟩:=sX n c
 have GA0:Hid (∀u,Calls prog 89 #[.agg #[.float .f64 (px n (cr n (cf n c) (ci n c+1) (cj n c))),.float .f64 (py n (cr n (cf n c) (ci n c+1) (cj n c))),.float .f64 (pz n (cr n (cf n c) (ci n c+1) (cj n c)))],.agg #[.float .f64 (px n (cr n (cf n c) (ci n c+1) (cj n c+1))),.float .f64 (py n (cr n (cf n c) (ci n c+1) (cj n c+1))),.float .f64 (pz n (cr n (cf n c) (ci n c+1) (cj n c+1)))]] u fun e w'=>e=.returned (.float .f64 (LnC n c 0))/\Below u.heap.size u w'):=fun u=>by
  rw[l0];exact jT _ _ _ _ _ _ u (cZ _ _) (dA _ _) (dC _ _) (cZ _ _) (dA _ _) (dC _ _)
 have GA1:Hid (∀u,Calls prog 89 #[.agg #[.float .f64 (px n (cr n (cf n c) (ci n c) (cj n c+1))),.float .f64 (py n (cr n (cf n c) (ci n c) (cj n c+1))),.float .f64 (pz n (cr n (cf n c) (ci n c) (cj n c+1)))],.agg #[.float .f64 (px n (cr n (cf n c) (ci n c+1) (cj n c+1))),.float .f64 (py n (cr n (cf n c) (ci n c+1) (cj n c+1))),.float .f64 (pz n (cr n (cf n c) (ci n c+1) (cj n c+1)))]] u fun e w'=>e=.returned (.float .f64 (LnC n c 1))/\Below u.heap.size u w'):=fun u=>by
  rw[l1];exact jT _ _ _ _ _ _ u (cZ _ _) (dA _ _) (dC _ _) (cZ _ _) (dA _ _) (dC _ _)
 have GA2:Hid (∀u,Calls prog 89 #[.agg #[.float .f64 (px n (cr n (cf n c) (ci n c) (cj n c))),.float .f64 (py n (cr n (cf n c) (ci n c) (cj n c))),.float .f64 (pz n (cr n (cf n c) (ci n c) (cj n c)))],.agg #[.float .f64 (px n (cr n (cf n c) (ci n c) (cj n c+1))),.float .f64 (py n (cr n (cf n c) (ci n c) (cj n c+1))),.float .f64 (pz n (cr n (cf n c) (ci n c) (cj n c+1)))]] u fun e w'=>e=.returned (.float .f64 (LnC n c 2))/\Below u.heap.size u w'):=fun u=>by
  rw[l2];exact jT _ _ _ _ _ _ u (cZ _ _) (dA _ _) (dC _ _) (cZ _ _) (dA _ _) (dC _ _)
 have GA3:Hid (∀u,Calls prog 89 #[.agg #[.float .f64 (px n (cr n (cf n c) (ci n c) (cj n c))),.float .f64 (py n (cr n (cf n c) (ci n c) (cj n c))),.float .f64 (pz n (cr n (cf n c) (ci n c) (cj n c)))],.agg #[.float .f64 (px n (cr n (cf n c) (ci n c+1) (cj n c))),.float .f64 (py n (cr n (cf n c) (ci n c+1) (cj n c))),.float .f64 (pz n (cr n (cf n c) (ci n c+1) (cj n c)))]] u fun e w'=>e=.returned (.float .f64 (LnC n c 3))/\Below u.heap.size u w'):=fun u=>by
  rw[l3];exact jT _ _ _ _ _ _ u (cZ _ _) (dA _ _) (dC _ _) (cZ _ _) (dA _ _) (dC _ _)
 clear l0 l1 l2 l3
 generalize px n (cr n (cf n c) (ci n c) (cj n c))=a0 at*
 generalize py n (cr n (cf n c) (ci n c) (cj n c))=b0 at*
 generalize pz n (cr n (cf n c) (ci n c) (cj n c))=d0 at*
 generalize px n (cr n (cf n c) (ci n c+1) (cj n c))=a1 at*
 generalize py n (cr n (cf n c) (ci n c+1) (cj n c))=b1 at*
 generalize pz n (cr n (cf n c) (ci n c+1) (cj n c))=d1 at*
 generalize px n (cr n (cf n c) (ci n c+1) (cj n c+1))=a2 at*
 generalize py n (cr n (cf n c) (ci n c+1) (cj n c+1))=b2 at*
 generalize pz n (cr n (cf n c) (ci n c+1) (cj n c+1))=d2 at*
 generalize px n (cr n (cf n c) (ci n c) (cj n c+1))=a3 at*
 generalize py n (cr n (cf n c) (ci n c) (cj n c+1))=b3 at*
 generalize pz n (cr n (cf n c) (ci n c) (cj n c+1))=d3 at*
 rcases Cu.four hs with rfl | rfl | rfl | rfl
 ·generalize LnC n c 0=L at*
  clear hn hc hs GA1 GA2 GA3
  go_enter func67,ntmps67
  go_wp2_with fail
  refine(CO.out _).mono ?_
  rintro e v ⟨rfl,b1⟩
  go_wp2_with fail
  refine(GA0.out _).mono ?_
  rintro e v2 ⟨rfl,b2⟩
  go_wp2
  go_ret
  exact⟨rfl,Ab.call ((Ab.refl w).call b1 |>.alloc _) b2⟩
 ·generalize LnC n c 1=L at*
  clear hn hc hs GA0 GA2 GA3
  go_enter func67,ntmps67
  go_wp2_with fail
  refine(CO.out _).mono ?_
  rintro e v ⟨rfl,b1⟩
  go_wp2_with fail
  refine(GA1.out _).mono ?_
  rintro e v2 ⟨rfl,b2⟩
  go_wp2
  go_ret
  exact⟨rfl,Ab.call ((Ab.refl w).call b1 |>.alloc _) b2⟩
 ·generalize LnC n c 2=L at*
  clear hn hc hs GA0 GA1 GA3
  go_enter func67,ntmps67
  go_wp2_with fail
  refine(CO.out _).mono ?_
  rintro e v ⟨rfl,b1⟩
  go_wp2_with fail
  refine(GA2.out _).mono ?_
  rintro e v2 ⟨rfl,b2⟩
  go_wp2
  go_ret
  exact⟨rfl,Ab.call ((Ab.refl w).call b1 |>.alloc _) b2⟩
 ·generalize LnC n c 3=L at*
  clear hn hc hs GA0 GA1 GA2
  go_enter func67,ntmps67
  go_wp2_with fail
  refine(CO.out _).mono ?_
  rintro e v ⟨rfl,b1⟩
  go_wp2_with fail
  refine(GA3.out _).mono ?_
  rintro e v2 ⟨rfl,b2⟩
  go_wp2
  go_ret
  exact⟨rfl,Ab.call ((Ab.refl w).call b1 |>.alloc _) b2⟩
theorem gap_ok(n c s:Nat)(w:World)(hn:1<=n/\n<=32)(hc:c<6*n*n)(hs:s<4)(hF:Fr w):
  Calls prog 68 #[.int .i64 n,.int .i64 c,.int .i64 s] w fun e w'=>e=.returned (.float .f64 (GpC n c s))/\Below w.heap.size w w':=by
 obtain⟨hb,-⟩:=kR hn.1 hc hs
 have BE:=hid (kV n c s w hn hc hs hF)
 have M1:=hid (fun u=>lB n c u hn hc)
 have M2:=hid (fun u=>lB n (bsC n c s) u hn hb)
 have GA:Hid (∀u,Calls prog 89 #[.agg #[.float .f64 (px n (MD n c)),.float .f64 (py n (MD n c)),.float .f64 (pz n (MD n c))],.agg #[.float .f64 (px n (MD n (bsC n c s))),.float .f64 (py n (MD n (bsC n c s))),.float .f64 (pz n (MD n (bsC n c s)))]] u fun e w'=>e=.returned (.float .f64 (GpC n c s))/\Below u.heap.size u w'):=fun u=>jT _ _ _ _ _ _ u (cZ _ _) (dA _ _) (dC _ _) (cZ _ _) (dA _ _) (dC _ _)
 generalize px n (MD n c)=x at*
 generalize py n (MD n c)=y at*
 generalize pz n (MD n c)=z at*
 generalize px n (MD n (bsC n c s))=x' at*
 generalize py n (MD n (bsC n c s))=y' at*
 generalize pz n (MD n (bsC n c s))=z' at*
 generalize GpC n c s=G at*
 generalize bsC n c s=c' at*
 generalize bsS n c s=s' at*
 clear hn hc hs hF hb
 go_enter func68,ntmps68
 go_wp2_with fail
 refine(BE.out).mono ?_
 rintro e v ⟨rfl,b1⟩
 go_wp2_with fail
 refine(M1.out _).mono ?_
 rintro e v2 ⟨rfl,b2⟩
 go_wp2_with fail
 refine(M2.out _).mono ?_
 rintro e v3 ⟨rfl,b3⟩
 have B2:Hid (Ab w v2):=(Ab.call b1 b2)
 have B3:Hid (Ab w v3):=Ab.call (B2.out.alloc _) b3
 have r2:v3.heap[v2.heap.size]? =some (.cells #[.float .f64 x,.float .f64 y,.float .f64 z] 123):=newrow' b3
 have r2':(v3.alloc (.cells #[.float .f64 x',.float .f64 y',.float .f64 z'] 123)).heap[v2.heap.size]? =some (.cells #[.float .f64 x,.float .f64 y,.float .f64 z] 123):=by
  rw[Below.heap_alloc _ _ _ (by have:=b3.size;simp at this;omega)];exact r2
 obtain⟨-,q0,q1,q2⟩:=rowfacts r2'
 clear r2 r2' b1 b2 b3
 go_wp2_with fail
 refine(GA.out _).mono ?_
 rintro e v4 ⟨rfl,b4⟩
 go_wp2
 go_ret
 exact⟨rfl,Ab.call (B3.out.alloc _) b4⟩
end
section
open Go.RowKit Tf Cu
attribute [local go_sem] aF aG aI aJ aK aL aM aD
def arQ(L:Nat):Nat:=mlB (mlB (qB L) (qB 4602678819172646912)) (qB 4742290407621132288)
def arI(L:Nat):Int:=max (cI .even (arQ L)) 1
theorem cI_q(x:Nat):cI .even x=cI .even (qB x)/\cOk .even x=cOk .even (qB x):=by
 unfold qB
 cases h:isN x
 ·rw[if_neg (by decide)];exact⟨rfl,rfl⟩
 ·rw[if_pos rfl]
  have e:cOk .even x=false:=by
   unfold cOk fin
   have: ¬mg x<9218868437227405312:=by rw[aW]at h;omega
   simp[this]
  have e2:cOk .even quiet=false:=by decide+kernel
  unfold cI
  rw[e,e2];simp only[Bool.false_eq_true,if_false,and_self]
theorem sY(n c:Nat)(a0 b0 d0 a1 b1 d1 a2 b2 d2 a3 b3 d3:Nat)(w:World)(ha0:Hid (a0<18446744073709551616))(hb0:Hid (b0<18446744073709551616))(hd0:Hid (d0<18446744073709551616))(ha1:Hid (a1<18446744073709551616))(hb1:Hid (b1<18446744073709551616))(hd1:Hid (d1<18446744073709551616))(ha2:Hid (a2<18446744073709551616))(hb2:Hid (b2<18446744073709551616))(hd2:Hid (d2<18446744073709551616))(ha3:Hid (a3<18446744073709551616))(hb3:Hid (b3<18446744073709551616))(hd3:Hid (d3<18446744073709551616))
  (CO:Hid (∀u,Calls prog 84 #[.int .i64 n,.int .i64 c] u fun e w'=>e=.returned (.tuple #[.agg #[.float .f64 a0,.float .f64 b0,.float .f64 d0,.float .f64 a1,.float .f64 b1,.float .f64 d1,.float .f64 a2,.float .f64 b2,.float .f64 d2,.float .f64 a3,.float .f64 b3,.float .f64 d3],.bool true])/\Below u.heap.size u w')):
  Calls prog 64 #[.int .i64 n,.int .i64 c] w fun e w'=>e=.returned (.int .i64 (arI (cl (sbB a2 a0) (sbB b2 b0) (sbB d2 d0) (sbB a3 a1) (sbB b3 b1) (sbB d3 d1))))/\Below w.heap.size w w':=by
 have MI:=hid (fun x y z u v t w (hx:Hid (x<18446744073709551616)) (hy:Hid (y<18446744073709551616)) (hz:Hid (z<18446744073709551616)) (hu:Hid (u<18446744073709551616)) (hv:Hid (v<18446744073709551616)) (ht:Hid (t<18446744073709551616))=>oH x y z u v t w hx hy hz hu hv ht)
 have CR:=hid (fun w=>cross_at (sbB a2 a0) (sbB b2 b0) (sbB d2 d0) (sbB a3 a1) (sbB b3 b1) (sbB d3 d1) w (aV ha2 ha0) (aV hb2 hb0) (aV hd2 hd0) (aV ha3 ha1) (aV hb3 hb1) (aV hd3 hd1))
 have LN:Hid (∀w,Calls prog 85 #[.agg #[.float .f64 (sbB (mlB (sbB b2 b0) (sbB d3 d1)) (mlB (sbB d2 d0) (sbB b3 b1))),.float .f64 (sbB (mlB (sbB d2 d0) (sbB a3 a1)) (mlB (sbB a2 a0) (sbB d3 d1))),.float .f64 (sbB (mlB (sbB a2 a0) (sbB b3 b1)) (mlB (sbB b2 b0) (sbB a3 a1)))]] w fun e w'=>e=.returned (.float .f64 (cl (sbB a2 a0) (sbB b2 b0) (sbB d2 d0) (sbB a3 a1) (sbB b3 b1) (sbB d3 d1)))/\Below w.heap.size w w'):=fun w=>gY (sbB (mlB (sbB b2 b0) (sbB d3 d1)) (mlB (sbB d2 d0) (sbB b3 b1))) (sbB (mlB (sbB d2 d0) (sbB a3 a1)) (mlB (sbB a2 a0) (sbB d3 d1))) (sbB (mlB (sbB a2 a0) (sbB b3 b1)) (mlB (sbB b2 b0) (sbB a3 a1))) w (aV (gS (aV hb2 hb0) (aV hd3 hd1)) (gS (aV hd2 hd0) (aV hb3 hb1))) (aV (gS (aV hd2 hd0) (aV ha3 ha1)) (gS (aV ha2 ha0) (aV hd3 hd1))) (aV (gS (aV ha2 ha0) (aV hb3 hb1)) (gS (aV hb2 hb0) (aV ha3 ha1)))
 have lL:cl (sbB a2 a0) (sbB b2 b0) (sbB d2 d0) (sbB a3 a1) (sbB b3 b1) (sbB d3 d1)<18446744073709551616:=by unfold cl lnB;exact rtB_lt _
 generalize cl (sbB a2 a0) (sbB b2 b0) (sbB d2 d0) (sbB a3 a1) (sbB b3 b1) (sbB d3 d1)=L at*
 generalize sbB (mlB (sbB b2 b0) (sbB d3 d1)) (mlB (sbB d2 d0) (sbB b3 b1))=c1 at*
 generalize sbB (mlB (sbB d2 d0) (sbB a3 a1)) (mlB (sbB a2 a0) (sbB d3 d1))=c2 at*
 generalize sbB (mlB (sbB a2 a0) (sbB b3 b1)) (mlB (sbB b2 b0) (sbB a3 a1))=c3 at*
 have hmx:arI L=max (cI .even (arQ L)) 1:=by unfold arI;with_reducible rfl
 obtain⟨A,hA⟩:=aB (cI .even (arQ L))
 obtain⟨ok,hok⟩:=aB (cOk .even (arQ L))
 rw[hmx,hA]
 have HA:=hid hA
 have HO:=hid hok
 clear hmx hA hok
 go_enter func64,ntmps64
 go_wp2_with fail
 refine(CO.out _).mono ?_
 rintro e v ⟨rfl,bq⟩
 go_upto_region 4 with fail
 generalize hW:World.alloc _ _=W
 have AW:Hid (Ab w W):=by rw[<- hW];exact Ab.alloc bq _
 have RW:Hid (W.heap[v.heap.size]? =some (.cells #[.float .f64 a0,.float .f64 b0,.float .f64 d0,.float .f64 a1,.float .f64 b1,.float .f64 d1,.float .f64 a2,.float .f64 b2,.float .f64 d2,.float .f64 a3,.float .f64 b3,.float .f64 d3] 124)):=by rw[<- hW];exact heap_alloc_new _ _
 clear hW bq CO
 obtain⟨UU,F,hF1,hF2⟩:=cls W
 have HF:=hid hF2
 have HF1:=hid hF1
 have x0: ∀vv,(F vv).cell? ⟨v.heap.size,0,none⟩=some (.float .f64 a0):=fun vv=>aA 0 ((hF1 vv).heap RW.out)
 have x1: ∀vv,(F vv).cell? ⟨v.heap.size,1,none⟩=some (.float .f64 b0):=fun vv=>aA 1 ((hF1 vv).heap RW.out)
 have x2: ∀vv,(F vv).cell? ⟨v.heap.size,2,none⟩=some (.float .f64 d0):=fun vv=>aA 2 ((hF1 vv).heap RW.out)
 have x3: ∀vv,(F vv).cell? ⟨v.heap.size,3,none⟩=some (.float .f64 a1):=fun vv=>aA 3 ((hF1 vv).heap RW.out)
 have x4: ∀vv,(F vv).cell? ⟨v.heap.size,4,none⟩=some (.float .f64 b1):=fun vv=>aA 4 ((hF1 vv).heap RW.out)
 have x5: ∀vv,(F vv).cell? ⟨v.heap.size,5,none⟩=some (.float .f64 d1):=fun vv=>aA 5 ((hF1 vv).heap RW.out)
 have x6: ∀vv,(F vv).cell? ⟨v.heap.size,6,none⟩=some (.float .f64 a2):=fun vv=>aA 6 ((hF1 vv).heap RW.out)
 have x7: ∀vv,(F vv).cell? ⟨v.heap.size,7,none⟩=some (.float .f64 b2):=fun vv=>aA 7 ((hF1 vv).heap RW.out)
 have x8: ∀vv,(F vv).cell? ⟨v.heap.size,8,none⟩=some (.float .f64 d2):=fun vv=>aA 8 ((hF1 vv).heap RW.out)
 have x9: ∀vv,(F vv).cell? ⟨v.heap.size,9,none⟩=some (.float .f64 a3):=fun vv=>aA 9 ((hF1 vv).heap RW.out)
 have x10: ∀vv,(F vv).cell? ⟨v.heap.size,10,none⟩=some (.float .f64 b3):=fun vv=>aA 10 ((hF1 vv).heap RW.out)
 have x11: ∀vv,(F vv).cell? ⟨v.heap.size,11,none⟩=some (.float .f64 d3):=fun vv=>aA 11 ((hF1 vv).heap RW.out)
 have D:=HF.out _ (Ab.refl W).drew
 clear hF1 hF2
 refine aR F (by kernel_rfl) (by kernel_rfl) D ?_
 repeat(go_big_quiet_step (first
  | (with_reducible rfl)
  | (go_at_call 87;exact aP HF HF1 (MI.out _ _ _ _ _ _ _ (by assumption) (by assumption) (by assumption) (by assumption) (by assumption) (by assumption)))
  | (go_at_call 86;exact aP HF HF1 (CR.out _))
  | (go_at_call 85;exact aP HF HF1 (LN.out _))))
 refine wpQuiet_nil ?_
 intro wz hwz
 obtain⟨vv,hv⟩:=hwz
 have bz:Below W.heap.size W wz:=by rw[hv];exact HF1.out vv
 clear hv vv
 clear HF HF1 D x0 x1 x2 x3 x4 x5 x6 x7 x8 x9 x10 x11
 clear F UU
 have AZ:Hid (Ab w wz):=AW.out.call bz
 clear bz AW RW
 obtain⟨r1,n1,k1,q1⟩:=fY (P:=prog) wz L _ 4602678819172646912 _ (IsQ.self lL) (IsQ.self (by decide))
 obtain⟨r2,n2,k2,q2⟩:=fY (P:=prog) (wz.drewN n1) r1 _ 4742290407621132288 _ q1 (IsQ.self (by decide))
 have RO:Hid (∀u,Calls prog 88 #[.float .f64 r2] u fun e w'=>e=.returned (.tuple #[.int .i64 A,.bool ok])/\ ∃n,w'=u.drewN n):=fun u=>
  round_at r2 A ok u q2.1 (by rw[(cI_q r2).1,q2.2];exact HA.out) (by rw[(cI_q r2).2,q2.2];exact HO.out)
 rw[World.drewN_drewN]at k2
 clear q1 q2 HA HO
 go_wp2_with fail
 refine(RO.out _).mono ?_
 rintro e w5 ⟨rfl,n3,rfl⟩
 go_wp2
 all_goals go_ret
 all_goals exact⟨congrArg (fun z=>Ending.returned (.int .i64 z)) (by omega),Ab.drewN AZ.out _⟩
theorem area_ok(n c:Nat)(w:World)(hn:1<=n/\n<=32)(hc:c<6*n*n):
  Calls prog 64 #[.int .i64 n,.int .i64 c] w fun e w'=>e=.returned (.int .i64 (arI (ArC n c)))/\Below w.heap.size w w':=by
 have h:=sY n c _ _ _ _ _ _ _ _ _ _ _ _ w (cZ n _) (dA n _) (dC n _) (cZ n _) (dA n _) (dC n _) (cZ n _) (dA n _) (dC n _) (cZ n _) (dA n _) (dC n _) (fun u=>jW n c u hn hc)
 unfold ArC ar
 exact h
end
section
open Go.RowKit Cu Tf
attribute [local go_sem] aD
theorem mP:(Tryz.prog.info? 2).map (fun i=>(i.zero,i.size,i.bytes))=some (some (.int .i64 0),1,8):=by kernel_rfl
theorem fZ:(Tryz.prog.info? 47).map (fun i=>(i.zero,i.size,i.bytes))=some (some (.float .f64 0),1,8):=by kernel_rfl
theorem infoTwo:(Tryz.prog.info? 70).map (fun i=>(i.zero,i.size,i.bytes))=some (some (.agg #[.int .i64 0,.int .i64 0]),2,16):=by kernel_rfl
theorem rowIs.ab{w w':World}{b:Nat}{t:TypeId}{n:Nat}{f:Nat->Value}(h:w.rowIs b t n f)(a:Ab w w'):w'.rowIs b t n f:=h.of_block (Below.block a _ h.lt)
theorem oP(N gb:Nat)(f:Nat->Int)(w:World)(hN:(N:Int)<=12288)
  (H:Hid (∀k:Nat,k<N-> ∀w',Ab w w'->Calls prog 37 #[.pointer (some ⟨gb,0,none⟩),.int .i64 k] w' fun e w''=>e=.returned (.int .i64 (f k))/\Below w'.heap.size w' w'')):
  Calls prog 36 #[.int .i64 N,.func (.func 37) #[.pointer (some ⟨gb,0,none⟩)] #[]] w fun e w'=>e=.returned (.slice (some ⟨w.heap.size,0,none⟩) N N)/\Below w.heap.size w w'/\w'.rowIs w.heap.size 2 N (fun k=>.int .i64 (f k)):=by
 have MK:=run_make_row' (P:=prog) 23 2 (.int .i64 (0)) 8 underlying23 mP rfl .i64 .i64 N (by omega) (by omega) w
 obtain⟨ob,hob⟩:=aB w.heap.size
 have RW:Hid ((w.alloc (.cells (madeCells #[.int .i64 (0)] N) 2)).rowIs ob 2 N (fun _=>.int .i64 (0))):=by rw[<- hob];exact World.rowIs_made _ _ _ _
 have A0:Hid (Ab w (w.alloc (.cells (madeCells #[.int .i64 (0)] N) 2))):=bl1 w _
 have HO:Hid (w.heap.size<=ob):=Nat.le_of_eq hob
 generalize w.alloc (.cells (madeCells #[.int .i64 (0)] N) 2)=wm at*
 go_enter func36,ntmps36
 go_wp2
 have HB:=hid hob
 clear MK hob
 go_loopw [11] (fun iv wr=> ∃k:Nat,k<=N/\iv=.int .i64 (k:Nat)/\Ab w wr/\wr.rowIs ob 2 N (fun j=>if j<k then .int .i64 (f j)else .int .i64 (0))) (fun iv _=>N - (intOf iv).toNat)
 case atStart=>exact⟨0,by omega,rfl,A0.out,RW.out.congr (fun i _=>by simp)⟩
 case round=>
  obtain⟨k,hk,rfl,A,R⟩:=hrel
  have A1:=hid A
  have R1:=hid R
  clear A R A0 RW
  by_cases hkN:k<N
  ·have hkN':(k:Int)<N:=by omega
   have C:=hid (H.out k hkN wr A1.out)
   have HK:=hid hkN
   go_wp2_with fail
   refine C.out.mono ?_
   rintro e w1 ⟨rfl,b1⟩
   have A2:Hid (Ab w w1):=A1.out.call b1
   have R2:=hid (rowIs.ab R1.out b1)
   have x1:=R2.out.cell hkN
   have x2:=R2.out.frozen k
   clear b1 C A1 R1 hkN
   go_wp2
   go_roundw
   case rel=>
    refine⟨k+1,by omega,by simp,Ab.setk A2.out HO.out _,(R2.out.set k (.int .i64 (f k))).congr (fun i _=> ?_)⟩
    by_cases e:i=k
    ·subst e;simp
    ·have e2:(i<k+1) ↔ i<k:=by omega
     simp[e,e2]
   case measure=>have:=HK.out;simp[intOf];omega
  ·obtain rfl:k=N:=by omega
   go_wp2
   go_ret
   rw[HB.out]
   exact⟨rfl,by have h:=A1.out;unfold Ab at h;rw[HB.out]at h;exact h,R1.out.congr (fun i hi=>by simp[hi])⟩
theorem qE(N gb:Nat)(f:Nat->Nat)(w:World)(hN:(N:Int)<=12288)
  (H:Hid (∀k:Nat,k<N-> ∀w',Ab w w'->Calls prog 41 #[.pointer (some ⟨gb,0,none⟩),.int .i64 k] w' fun e w''=>e=.returned (.float .f64 (f k))/\Below w'.heap.size w' w'')):
  Calls prog 40 #[.int .i64 N,.func (.func 41) #[.pointer (some ⟨gb,0,none⟩)] #[]] w fun e w'=>e=.returned (.slice (some ⟨w.heap.size,0,none⟩) N N)/\Below w.heap.size w w'/\w'.rowIs w.heap.size 47 N (fun k=>.float .f64 (f k)):=by
 have MK:=run_make_row' (P:=prog) 22 47 (.float .f64 (0)) 8 underlying22 fZ rfl .i64 .i64 N (by omega) (by omega) w
 obtain⟨ob,hob⟩:=aB w.heap.size
 have RW:Hid ((w.alloc (.cells (madeCells #[.float .f64 (0)] N) 47)).rowIs ob 47 N (fun _=>.float .f64 (0))):=by rw[<- hob];exact World.rowIs_made _ _ _ _
 have A0:Hid (Ab w (w.alloc (.cells (madeCells #[.float .f64 (0)] N) 47))):=bl1 w _
 have HO:Hid (w.heap.size<=ob):=Nat.le_of_eq hob
 generalize w.alloc (.cells (madeCells #[.float .f64 (0)] N) 47)=wm at*
 go_enter func40,ntmps40
 go_wp2
 have HB:=hid hob
 clear MK hob
 go_loopw [11] (fun iv wr=> ∃k:Nat,k<=N/\iv=.int .i64 (k:Nat)/\Ab w wr/\wr.rowIs ob 47 N (fun j=>if j<k then .float .f64 (f j)else .float .f64 (0))) (fun iv _=>N - (intOf iv).toNat)
 case atStart=>exact⟨0,by omega,rfl,A0.out,RW.out.congr (fun i _=>by simp)⟩
 case round=>
  obtain⟨k,hk,rfl,A,R⟩:=hrel
  have A1:=hid A
  have R1:=hid R
  clear A R A0 RW
  by_cases hkN:k<N
  ·have hkN':(k:Int)<N:=by omega
   have C:=hid (H.out k hkN wr A1.out)
   have HK:=hid hkN
   go_wp2_with fail
   refine C.out.mono ?_
   rintro e w1 ⟨rfl,b1⟩
   have A2:Hid (Ab w w1):=A1.out.call b1
   have R2:=hid (rowIs.ab R1.out b1)
   have x1:=R2.out.cell hkN
   have x2:=R2.out.frozen k
   clear b1 C A1 R1 hkN
   go_wp2
   go_roundw
   case rel=>
    refine⟨k+1,by omega,by simp,Ab.setk A2.out HO.out _,(R2.out.set k (.float .f64 (f k))).congr (fun i _=> ?_)⟩
    by_cases e:i=k
    ·subst e;simp
    ·have e2:(i<k+1) ↔ i<k:=by omega
     simp[e,e2]
   case measure=>have:=HK.out;simp[intOf];omega
  ·obtain rfl:k=N:=by omega
   go_wp2
   go_ret
   rw[HB.out]
   exact⟨rfl,by have h:=A1.out;unfold Ab at h;rw[HB.out]at h;exact h,R1.out.congr (fun i hi=>by simp[hi])⟩
theorem qF(N gb:Nat)(f:Nat->Nat)(w:World)(hN:(N:Int)<=12288)
  (H:Hid (∀k:Nat,k<N-> ∀w',Ab w w'->Calls prog 42 #[.pointer (some ⟨gb,0,none⟩),.int .i64 k] w' fun e w''=>e=.returned (.float .f64 (f k))/\Below w'.heap.size w' w'')):
  Calls prog 40 #[.int .i64 N,.func (.func 42) #[.pointer (some ⟨gb,0,none⟩)] #[]] w fun e w'=>e=.returned (.slice (some ⟨w.heap.size,0,none⟩) N N)/\Below w.heap.size w w'/\w'.rowIs w.heap.size 47 N (fun k=>.float .f64 (f k)):=by
 have MK:=run_make_row' (P:=prog) 22 47 (.float .f64 (0)) 8 underlying22 fZ rfl .i64 .i64 N (by omega) (by omega) w
 obtain⟨ob,hob⟩:=aB w.heap.size
 have RW:Hid ((w.alloc (.cells (madeCells #[.float .f64 (0)] N) 47)).rowIs ob 47 N (fun _=>.float .f64 (0))):=by rw[<- hob];exact World.rowIs_made _ _ _ _
 have A0:Hid (Ab w (w.alloc (.cells (madeCells #[.float .f64 (0)] N) 47))):=bl1 w _
 have HO:Hid (w.heap.size<=ob):=Nat.le_of_eq hob
 generalize w.alloc (.cells (madeCells #[.float .f64 (0)] N) 47)=wm at*
 go_enter func40,ntmps40
 go_wp2
 have HB:=hid hob
 clear MK hob
 go_loopw [11] (fun iv wr=> ∃k:Nat,k<=N/\iv=.int .i64 (k:Nat)/\Ab w wr/\wr.rowIs ob 47 N (fun j=>if j<k then .float .f64 (f j)else .float .f64 (0))) (fun iv _=>N - (intOf iv).toNat)
 case atStart=>exact⟨0,by omega,rfl,A0.out,RW.out.congr (fun i _=>by simp)⟩
 case round=>
  obtain⟨k,hk,rfl,A,R⟩:=hrel
  have A1:=hid A
  have R1:=hid R
  clear A R A0 RW
  by_cases hkN:k<N
  ·have hkN':(k:Int)<N:=by omega
   have C:=hid (H.out k hkN wr A1.out)
   have HK:=hid hkN
   go_wp2_with fail
   refine C.out.mono ?_
   rintro e w1 ⟨rfl,b1⟩
   have A2:Hid (Ab w w1):=A1.out.call b1
   have R2:=hid (rowIs.ab R1.out b1)
   have x1:=R2.out.cell hkN
   have x2:=R2.out.frozen k
   clear b1 C A1 R1 hkN
   go_wp2
   go_roundw
   case rel=>
    refine⟨k+1,by omega,by simp,Ab.setk A2.out HO.out _,(R2.out.set k (.float .f64 (f k))).congr (fun i _=> ?_)⟩
    by_cases e:i=k
    ·subst e;simp
    ·have e2:(i<k+1) ↔ i<k:=by omega
     simp[e,e2]
   case measure=>have:=HK.out;simp[intOf];omega
  ·obtain rfl:k=N:=by omega
   go_wp2
   go_ret
   rw[HB.out]
   exact⟨rfl,by have h:=A1.out;unfold Ab at h;rw[HB.out]at h;exact h,R1.out.congr (fun i hi=>by simp[hi])⟩
end
section
open Go.RowKit Cu Tf
attribute [local go_sem] aD
def EG(w:World)(n eb:Nat):Prop:=eb<w.heap.size/\ ∀t,t<24*n*n->isL n t=true->
 w.cell? ⟨eb,eN n t*4,none⟩=some (.int .i64 (t/4:Nat))/\w.cell? ⟨eb,eN n t*4+1,none⟩=some (.int .i64 (t%4:Nat))/\w.cell? ⟨eb,eN n t*4+2,none⟩=some (.int .i64 (bsC n (t/4) (t%4):Nat))/\w.cell? ⟨eb,eN n t*4+3,none⟩=some (.int .i64 (bsS n (t/4) (t%4):Nat))
theorem EG.to{w w':World}{n eb:Nat}(h:EG w n eb)(a:Ab w w'):EG w' n eb:=by
 refine⟨Nat.lt_of_lt_of_le h.1 (Ab.size a),fun t ht hl=> ?_⟩
 have hc: ∀k,w'.cell? ⟨eb,k,none⟩=w.cell? ⟨eb,k,none⟩:=fun k=>Below.cell a (by exact h.1)
 simp only[hc]
 exact h.2 t ht hl
def GX(n gb mb eb cap m:Nat)(v3 v4 v5 v6:Value)(w:World):Prop:=
 w.heap[gb]? =some (.cells #[.int .i64 n,.slice (some ⟨eb,0,none⟩) (12*n*n) cap,.map (some mb),v3,v4,v5,v6] 65)/\EG w n eb/\MapIs w mb m (gT n (24*n*n))/\12*n*n<=cap/\cap<=maxLen/\gb≠mb/\gb≠eb
theorem GX.to{n gb mb eb cap m:Nat}{v3 v4 v5 v6:Value}{w w':World}(h:GX n gb mb eb cap m v3 v4 v5 v6 w)(a:Ab w w'):GX n gb mb eb cap m v3 v4 v5 v6 w':=
 ⟨a.heap h.1,h.2.1.to a,h.2.2.1.block (Below.block a _ h.2.2.1.lt),h.2.2.2⟩
theorem GX.cells{n gb mb eb cap m:Nat}{v3 v4 v5 v6:Value}{w:World}(h:GX n gb mb eb cap m v3 v4 v5 v6 w):
  w.cell? ⟨gb,0,none⟩=some (.int .i64 n)/\w.cell? ⟨gb,1,none⟩=some (.slice (some ⟨eb,0,none⟩) (12*n*n) cap)/\w.cell? ⟨gb,2,none⟩=some (.map (some mb))/\w.cell? ⟨gb,3,none⟩=some v3/\w.cell? ⟨gb,4,none⟩=some v4/\w.cell? ⟨gb,5,none⟩=some v5/\w.cell? ⟨gb,6,none⟩=some v6:=
 ⟨aA 0 h.1,aA 1 h.1,aA 2 h.1,aA 3 h.1,aA 4 h.1,aA 5 h.1,aA 6 h.1⟩
theorem GE.all{B n gb mb:Nat}{es v3 v4 v5 v6:Value}{w:World}(hn:1<=n)(h:GE B n (24*n*n) gb mb es v3 v4 v5 v6 w): ∃eb cap,(B<=eb/\eb≠gb)/\es=.slice (some ⟨eb,0,none⟩) (12*n*n) cap/\GX n gb mb eb cap (2*(24*n*n)) v3 v4 v5 v6 w:=by
 obtain⟨h1,h2,h3,h4,h5,h6⟩:=h
 have hh:=h2
 have hpos:0<12*n*n:=Nat.mul_pos (by omega) (by omega)
 rw[lR hn]at hh
 rcases hh.2 with⟨rfl,h0⟩ | ⟨g,cap,cur,rfl,hb,hg,k1,k2,k3,k4⟩
 ·omega
 ·refine⟨g,cap,⟨hb,fun e=>h5 (by rw[e];rfl)⟩,rfl,h1,⟨lt_of_block hg,fun t ht hl=> ?_⟩,h3,k1,k2,h4.2.2,fun e=>h5 (by rw[e];rfl)⟩
  have hc: ∀j<4,∀u,(edV n t)[j]? =some u->w.cell? ⟨g,eN n t*4+j,none⟩=some u:=by
   intro j hj u hu
   have:=hh.cells (g:=g) rfl (eN n t*4+j) u (by rw[edL_at ht hl hj];exact hu)
   have ha:(⟨g,0,none⟩:Addr).add (eN n t*4+j)=⟨g,eN n t*4+j,none⟩:=by unfold Addr.add;split<;>simp_all
   rwa [ha]at this
  exact⟨hc 0 (by omega) _ rfl,hc 1 (by omega) _ rfl,hc 2 (by omega) _ rfl,hc 3 (by omega) _ rfl⟩
theorem n12{n:Nat}(hn:1<=n/\n<=32):12*n*n<=12288/\24*n*n=2*(12*n*n)/\24*n*n=4*(6*n*n)/\0<6*n*n:=by
 refine⟨?_,by rw[show 24=2*12 from rfl,Nat.mul_assoc 2 12 n,Nat.mul_assoc 2 (12*n) n],by rw[show 24=4*6 from rfl,Nat.mul_assoc 4 6 n,Nat.mul_assoc 4 (6*n) n],Nat.mul_pos (by omega) (by omega)⟩
 rw[Nat.mul_assoc]
 have:=Nat.mul_le_mul hn.2 hn.2
 omega
theorem sZ(n gb k:Nat)(w:World)(hn:1<=n/\n<=32)(hk:k<6*n*n)(c0:w.cell? ⟨gb,0,none⟩=some (.int .i64 n)):
  Calls prog 37 #[.pointer (some ⟨gb,0,none⟩),.int .i64 k] w fun e w'=>e=.returned (.int .i64 (arI (ArC n k)))/\Below w.heap.size w w':=by
 have AR:=hid (fun u=>area_ok n k u hn hk)
 generalize arI (ArC n k)=V at*
 clear hn hk
 go_enter func37,ntmps37
 go_wp2_with (go_at_call 64;refine(AR.out _).mono ?_;rintro e w1 ⟨rfl,b1⟩)
 go_ret
 exact⟨rfl,b1⟩
theorem iE(s:Nat)(w:World)(hs:s<4):Calls prog 66 #[.int .i64 s] w fun e w'=>e=.returned (.int .i64 ((s+2)%4:Nat))/\w'=w:=by
 have hs':(s:Int)<4:=by omega
 have e:((s:Int)+2).tmod 4=(((s+2)%4:Nat):Int):=by rw[Int.tmod_eq_emod_of_nonneg (by omega)];omega
 go_enter func66,ntmps66
 go_wp2
 go_ret
 exact⟨by rfl,rfl⟩
theorem oQ(n gb mb eb cap m t:Nat)(v3 v4 v5 v6:Value)(w:World)(hn:1<=n/\n<=32)(ht:t<24*n*n)(hl:isL n t=true)(_h:Fr w)(G:GX n gb mb eb cap m v3 v4 v5 v6 w):
  Calls prog 41 #[.pointer (some ⟨gb,0,none⟩),.int .i64 (eN n t:Nat)] w fun e w'=>e=.returned (.float .f64 (LnC n (t/4) (t%4)))/\Below w.heap.size w w':=by
 obtain⟨U,F,hF1,hF2⟩:=cls w
 have HF:=hid hF2
 have HF1:=hid hF1
 have x0: ∀u,(F u).cell? ⟨gb,0,none⟩=some (.int .i64 n):=fun u=>(G.to (hF1 u)).cells.1
 have x1: ∀u,(F u).cell? ⟨gb,1,none⟩=some (.slice (some ⟨eb,0,none⟩) (12*n*n) cap):=fun u=>(G.to (hF1 u)).cells.2.1
 have y0: ∀u,(F u).cell? ⟨eb,eN n t*4,none⟩=some (.int .i64 (t/4:Nat)):=fun u=>((G.to (hF1 u)).2.1.2 t ht hl).1
 have y1: ∀u,(F u).cell? ⟨eb,eN n t*4+1,none⟩=some (.int .i64 (t%4:Nat)):=fun u=>((G.to (hF1 u)).2.1.2 t ht hl).2.1
 have LE:=hid (fun u=>len_ok n (t/4) (t%4) (F u) hn (cT ht) (by omega))
 have D:=HF.out _ (Ab.refl w).drew
 have kN:=nD hn.1 ht hl
 have kM:=(n12 hn).1
 have hcap:=G.2.2.2.1
 generalize LnC n (t/4) (t%4)=L at*
 generalize t/4=c at*
 generalize t%4=s at*
 generalize 12*n*n=M at*
 generalize eN n t=k at*
 have hk1:(k:Int)<M:=by omega
 have hk2:(M:Int)<=12288:=by omega
 clear hF1 hF2 _h hn ht hl G kN kM
 go_enter func41,ntmps41
 go_wp2_with fail
 refine aR F (by kernel_rfl) (by kernel_rfl) D ?_
 repeat(go_big_quiet_step (first | (with_reducible rfl) | (go_at_call 67;exact aP HF HF1 (LE.out _))))
 refine wpQuiet_nil ?_
 intro wz hwz
 obtain⟨u,rfl⟩:=hwz
 go_wp2
 go_ret
 exact⟨rfl,HF1.out u⟩
theorem gapOf_at(n gb mb eb cap m t:Nat)(v3 v4 v5 v6:Value)(w:World)(hn:1<=n/\n<=32)(ht:t<24*n*n)(hl:isL n t=true)(h:Fr w)(G:GX n gb mb eb cap m v3 v4 v5 v6 w):
  Calls prog 42 #[.pointer (some ⟨gb,0,none⟩),.int .i64 (eN n t:Nat)] w fun e w'=>e=.returned (.float .f64 (GpC n (t/4) (t%4)))/\Below w.heap.size w w':=by
 obtain⟨U,F,hF1,hF2⟩:=cls w
 have HF:=hid hF2
 have HF1:=hid hF1
 have x0: ∀u,(F u).cell? ⟨gb,0,none⟩=some (.int .i64 n):=fun u=>(G.to (hF1 u)).cells.1
 have x1: ∀u,(F u).cell? ⟨gb,1,none⟩=some (.slice (some ⟨eb,0,none⟩) (12*n*n) cap):=fun u=>(G.to (hF1 u)).cells.2.1
 have y0: ∀u,(F u).cell? ⟨eb,eN n t*4,none⟩=some (.int .i64 (t/4:Nat)):=fun u=>((G.to (hF1 u)).2.1.2 t ht hl).1
 have y1: ∀u,(F u).cell? ⟨eb,eN n t*4+1,none⟩=some (.int .i64 (t%4:Nat)):=fun u=>((G.to (hF1 u)).2.1.2 t ht hl).2.1
 have LE:=hid (fun u=>gap_ok n (t/4) (t%4) (F u) hn (cT ht) (by omega) (h.to (hF1 u)))
 have D:=HF.out _ (Ab.refl w).drew
 have kN:=nD hn.1 ht hl
 have kM:=(n12 hn).1
 have hcap:=G.2.2.2.1
 generalize GpC n (t/4) (t%4)=L at*
 generalize t/4=c at*
 generalize t%4=s at*
 generalize 12*n*n=M at*
 generalize eN n t=k at*
 have hk1:(k:Int)<M:=by omega
 have hk2:(M:Int)<=12288:=by omega
 clear hF1 hF2 h hn ht hl G kN kM
 go_enter func42,ntmps42
 go_wp2_with fail
 refine aR F (by kernel_rfl) (by kernel_rfl) D ?_
 repeat(go_big_quiet_step (first | (with_reducible rfl) | (go_at_call 68;exact aP HF HF1 (LE.out _))))
 refine wpQuiet_nil ?_
 intro wz hwz
 obtain⟨u,rfl⟩:=hwz
 go_wp2
 go_ret
 exact⟨rfl,HF1.out u⟩
end
end Go.Proofs.YtlmfpikhlcnjjaaGreatDoor
