/-
  Some of the texts of this proof, one behind the other.
-/
import Derived.Deep.QuietTactic
import Derived.Test.YtilfdnipahabbaaDoorUe11
set_option maxRecDepth 100000
set_option maxHeartbeats 400000000
namespace Go.Proofs.YtilfdnipahabbaaDoor
open _root_.Go.Proofs.Tryd
section
open Go.RowKit Tf Cu Go.Deep
attribute [local go_sem] aL aM aP aQ aR aU aX aG
namespace Spl
theorem hZ{v:World}{b g k n:Nat}{t:TypeId}{f:Nat->Value}{x:Value}(h:v.rowIs b t n f)(hb:b≠g):(v.setCell ⟨g,k,none⟩ x).rowIs b t n f:=h.of_block (aH hb)
def On(B gr gp gk N:Nat)(s1 s2 s3:Value)(l1 l2 l3:List Nat)(kf:Nat->Bool)(w:World):Prop:=
 w.heap[gp]? =some (.cells #[s1,s2,s3] 40)/\(OT 3 B s1 (cst l1) w/\OT 3 B s2 (cst l2) w/\OT 3 B s3 (cst l3) w)/\w.rowIs gk 4 N (fun j=>.bool (kf j))/\
  ((s1.ownBlock≠some gp/\s1.ownBlock≠some gk)/\(s2.ownBlock≠some gp/\s2.ownBlock≠some gk)/\s3.ownBlock≠some gp/\s3.ownBlock≠some gk)/\(Dj s1 s2/\Dj s1 s3/\Dj s2 s3)/\gp≠gk/\(w.heap[gr]? =some (.cells #[.slice none 0 0,.slice none 0 0,.slice none 0 0] 40)/\gr≠gp/\gr≠gk/\s1.ownBlock≠some gr/\s2.ownBlock≠some gr/\s3.ownBlock≠some gr)
theorem On.to{B gr gp gk N:Nat}{s1 s2 s3:Value}{l1 l2 l3:List Nat}{kf:Nat->Bool}{w w':World}(h:On B gr gp gk N s1 s2 s3 l1 l2 l3 kf w)(a:Ab w w'):On B gr gp gk N s1 s2 s3 l1 l2 l3 kf w':=by
 obtain⟨h1,⟨o1,o2,o3⟩,h3,h4,h5,h6,h7,h8⟩:=h
 exact⟨a.heap h1,⟨o1.to a,o2.to a,o3.to a⟩,rowIs.ab h3 a,h4,h5,h6,a.heap h7,h8⟩
theorem row3_22{w:World}{g:Nat}{cs:Array Value}{x y z:Value}{T:TypeId}(h:w.heap[g]? =some (.cells cs T))(hc:cs.size=3:=by rfl):(((w.setCell ⟨g,0,none⟩ x).setCell ⟨g,1,none⟩ y).setCell ⟨g,2,none⟩ z).heap[g]? =some (.cells #[x,y,z] T):=by
 rw[aI (aI (aI h))]
 rcases cs with⟨l⟩
 match l,hc with
 | [a,b,c],_=>rfl
theorem res_one{P:Program}{fn:Func}{p:Tmp}{ty:TypeId}(h:fn.results= #[.cell p ty])(tmps:Array Value)(w:World)(g:Nat)(t:TypeId)(cs:Array Value)(fr:Nat × Nat)(d:TypeDesc)
  (hp:tmps.getD p undef=.pointer (some ⟨g,0,none⟩)) (hg:w.heap[g]? =some (.cells cs t fr))
  (hu:P.underlying ty=some d) (hd:(match d with | .struct _ | .array _ _=>true | _=>false)=true) (hi:(P.info? ty).map (·.size)=some cs.size):
  (results fn tmps).run P w=.ok (.agg cs) w:=by
 have hp':tmps[p]?.getD undef=.pointer (some ⟨g,0,none⟩):=by simpa using hp
 simp[results,h,hp',asAddr,run_loadVar_row w g t ty cs fr d hg hu hd hi]
theorem Dj.symm'{v u:Value}(h:Dj v u):Dj u v:=fun k hu hv=>h k hv hu
theorem On.mark{B gr gp gk N c:Nat}{s1 s2 s3:Value}{l1 l2 l3:List Nat}{kf:Nat->Bool}{w:World}(h:On B gr gp gk N s1 s2 s3 l1 l2 l3 kf w):On B gr gp gk N s1 s2 s3 l1 l2 l3 (fun j=>kf j||j==c) (w.setCell ⟨gk,c,none⟩ (.bool true)):=by
 obtain⟨h1,⟨o1,o2,o3⟩,h3,⟨⟨-,n1⟩,⟨-,n2⟩,-,n3⟩,h5,h6,r1,r2,r3,r4⟩:=id h
 refine⟨(aH h6).trans h1,⟨o1.other _ n1,o2.other _ n2,o3.other _ n3⟩,(h3.set c _).congr (fun j _=> ?_),h.2.2.2.1,h5,h6,(aH r3).trans r1,r2,r3,r4⟩
 by_cases q:j=c
 ·simp[q]
 ·simp[q]
theorem On.app1{B gr gp gk N g x:Nat}{s1 s2 s3 sn:Value}{l1 l2 l3:List Nat}{kf:Nat->Bool}{w wa w7:World}(h:On B gr gp gk N s1 s2 s3 l1 l2 l3 kf w)(a:Ab w wa)(o7:OT 3 B sn (cst l1++[(x:Int)]) w7)(a7:wa.grownBy w7 s1.ownBlock)(e7:s1.ownBlock=some g\/g=wa.heap.size)(hg:sn.ownBlock=some g):
  w7.heap[gp]? =some (.cells #[s1,s2,s3] 40)/\On B gr gp gk N sn s2 s3 (l1++[x]) l2 l3 kf (w7.setCell ⟨gp,0,none⟩ sn):=by
 obtain⟨h1,⟨o1,o2,o3⟩,h3,⟨⟨m1,n1⟩,⟨m2,n2⟩,m3,n3⟩,⟨d12,d13,d23⟩,h6,r1,r2,r3,t1,t2,t3⟩:=h
 have lr:=Nat.lt_of_lt_of_le (lt_of_block r1) a.size
 have lp:=Nat.lt_of_lt_of_le (lt_of_block h1) a.size
 have lk:=Nat.lt_of_lt_of_le h3.lt a.size
 have gne: ∀b,b<wa.heap.size->s1.ownBlock≠some b->sn.ownBlock≠some b:=fun b hb hn e=>by
  rw[hg]at e
  injection e with e
  subst e
  rcases e7 with e | e
  ·exact hn e
  ·omega
 have e1:w7.heap[gp]? =some (.cells #[s1,s2,s3] 40):=(a7.block gp lp (fun e=>m1 e.symm)).trans (a.heap h1)
 have dn: ∀u:Value,Dj s1 u->(∀b,u.ownBlock=some b->b<wa.heap.size)->Dj sn u:=fun u hd hu b hb hv=>gne b (hu b hv) (fun e=>hd b e hv) hb
 have b2: ∀b,s2.ownBlock=some b->b<wa.heap.size:=fun b hb=>Nat.lt_of_lt_of_le (o2.blk hb).2 a.size
 have q2:Dj sn s2:=dn _ d12 b2
 have b3: ∀b,s3.ownBlock=some b->b<wa.heap.size:=fun b hb=>Nat.lt_of_lt_of_le (o3.blk hb).2 a.size
 have q3:Dj sn s3:=dn _ d13 b3
 refine⟨e1,?_,⟨by rw[<- iX];exact o7.other _ (gne gp lp m1),((o2.to a).grown a7 (fun b hb e=>d12 b e hb)).other _ m2,((o3.to a).grown a7 (fun b hb e=>d13 b e hb)).other _ m3⟩,hZ (((rowIs.ab h3 a).of_block (a7.block gk lk (fun e=>n1 e.symm)))) h6.symm,⟨⟨gne gp lp m1,gne gk lk n1⟩,⟨m2,n2⟩,⟨m3,n3⟩⟩,⟨q2,q3,d23⟩,h6,(aH r2).trans ((a7.block gr lr (fun e=>t1 e.symm)).trans (a.heap r1)),r2,r3,gne gr lr t1,t2,t3⟩
 rw[aI e1]
 rfl
theorem On.app2{B gr gp gk N g x:Nat}{s1 s2 s3 sn:Value}{l1 l2 l3:List Nat}{kf:Nat->Bool}{w wa w7:World}(h:On B gr gp gk N s1 s2 s3 l1 l2 l3 kf w)(a:Ab w wa)(o7:OT 3 B sn (cst l2++[(x:Int)]) w7)(a7:wa.grownBy w7 s2.ownBlock)(e7:s2.ownBlock=some g\/g=wa.heap.size)(hg:sn.ownBlock=some g):
  w7.heap[gp]? =some (.cells #[s1,s2,s3] 40)/\On B gr gp gk N s1 sn s3 l1 (l2++[x]) l3 kf (w7.setCell ⟨gp,1,none⟩ sn):=by
 obtain⟨h1,⟨o1,o2,o3⟩,h3,⟨⟨m1,n1⟩,⟨m2,n2⟩,m3,n3⟩,⟨d12,d13,d23⟩,h6,r1,r2,r3,t1,t2,t3⟩:=h
 have lr:=Nat.lt_of_lt_of_le (lt_of_block r1) a.size
 have lp:=Nat.lt_of_lt_of_le (lt_of_block h1) a.size
 have lk:=Nat.lt_of_lt_of_le h3.lt a.size
 have gne: ∀b,b<wa.heap.size->s2.ownBlock≠some b->sn.ownBlock≠some b:=fun b hb hn e=>by
  rw[hg]at e
  injection e with e
  subst e
  rcases e7 with e | e
  ·exact hn e
  ·omega
 have e1:w7.heap[gp]? =some (.cells #[s1,s2,s3] 40):=(a7.block gp lp (fun e=>m2 e.symm)).trans (a.heap h1)
 have dn: ∀u:Value,Dj s2 u->(∀b,u.ownBlock=some b->b<wa.heap.size)->Dj sn u:=fun u hd hu b hb hv=>gne b (hu b hv) (fun e=>hd b e hv) hb
 have b1: ∀b,s1.ownBlock=some b->b<wa.heap.size:=fun b hb=>Nat.lt_of_lt_of_le (o1.blk hb).2 a.size
 have q1:Dj sn s1:=dn _ d12.symm' b1
 have b3: ∀b,s3.ownBlock=some b->b<wa.heap.size:=fun b hb=>Nat.lt_of_lt_of_le (o3.blk hb).2 a.size
 have q3:Dj sn s3:=dn _ d23 b3
 refine⟨e1,?_,⟨((o1.to a).grown a7 (fun b hb e=>d12.symm' b e hb)).other _ m1,by rw[<- iX];exact o7.other _ (gne gp lp m2),((o3.to a).grown a7 (fun b hb e=>d23 b e hb)).other _ m3⟩,hZ (((rowIs.ab h3 a).of_block (a7.block gk lk (fun e=>n2 e.symm)))) h6.symm,⟨⟨m1,n1⟩,⟨gne gp lp m2,gne gk lk n2⟩,⟨m3,n3⟩⟩,⟨q1.symm',d13,q3⟩,h6,(aH r2).trans ((a7.block gr lr (fun e=>t2 e.symm)).trans (a.heap r1)),r2,r3,t1,gne gr lr t2,t3⟩
 rw[aI e1]
 rfl
theorem On.app3{B gr gp gk N g x:Nat}{s1 s2 s3 sn:Value}{l1 l2 l3:List Nat}{kf:Nat->Bool}{w wa w7:World}(h:On B gr gp gk N s1 s2 s3 l1 l2 l3 kf w)(a:Ab w wa)(o7:OT 3 B sn (cst l3++[(x:Int)]) w7)(a7:wa.grownBy w7 s3.ownBlock)(e7:s3.ownBlock=some g\/g=wa.heap.size)(hg:sn.ownBlock=some g):
  w7.heap[gp]? =some (.cells #[s1,s2,s3] 40)/\On B gr gp gk N s1 s2 sn l1 l2 (l3++[x]) kf (w7.setCell ⟨gp,2,none⟩ sn):=by
 obtain⟨h1,⟨o1,o2,o3⟩,h3,⟨⟨m1,n1⟩,⟨m2,n2⟩,m3,n3⟩,⟨d12,d13,d23⟩,h6,r1,r2,r3,t1,t2,t3⟩:=h
 have lr:=Nat.lt_of_lt_of_le (lt_of_block r1) a.size
 have lp:=Nat.lt_of_lt_of_le (lt_of_block h1) a.size
 have lk:=Nat.lt_of_lt_of_le h3.lt a.size
 have gne: ∀b,b<wa.heap.size->s3.ownBlock≠some b->sn.ownBlock≠some b:=fun b hb hn e=>by
  rw[hg]at e
  injection e with e
  subst e
  rcases e7 with e | e
  ·exact hn e
  ·omega
 have e1:w7.heap[gp]? =some (.cells #[s1,s2,s3] 40):=(a7.block gp lp (fun e=>m3 e.symm)).trans (a.heap h1)
 have dn: ∀u:Value,Dj s3 u->(∀b,u.ownBlock=some b->b<wa.heap.size)->Dj sn u:=fun u hd hu b hb hv=>gne b (hu b hv) (fun e=>hd b e hv) hb
 have b1: ∀b,s1.ownBlock=some b->b<wa.heap.size:=fun b hb=>Nat.lt_of_lt_of_le (o1.blk hb).2 a.size
 have q1:Dj sn s1:=dn _ d13.symm' b1
 have b2: ∀b,s2.ownBlock=some b->b<wa.heap.size:=fun b hb=>Nat.lt_of_lt_of_le (o2.blk hb).2 a.size
 have q2:Dj sn s2:=dn _ d23.symm' b2
 refine⟨e1,?_,⟨((o1.to a).grown a7 (fun b hb e=>d13.symm' b e hb)).other _ m1,((o2.to a).grown a7 (fun b hb e=>d23.symm' b e hb)).other _ m2,by rw[<- iX];exact o7.other _ (gne gp lp m3)⟩,hZ (((rowIs.ab h3 a).of_block (a7.block gk lk (fun e=>n3 e.symm)))) h6.symm,⟨⟨m1,n1⟩,⟨m2,n2⟩,⟨gne gp lp m3,gne gk lk n3⟩⟩,⟨d12,q1.symm',q2.symm'⟩,h6,(aH r2).trans ((a7.block gr lr (fun e=>t3 e.symm)).trans (a.heap r1)),r2,r3,t1,t2,gne gr lr t3⟩
 rw[aI e1]
 rfl
theorem rone_go(rb N M a b:Nat)(lfF s1F rtF s2F bl br:Nat->Nat)(w:World)(hN:0<N/\N<=6144)(hM:M<=12288)(hab:a<=b/\b<=N)
  (HB:Hid (∀k,k<M->lfF k<N/\rtF k<N/\bl k<N/\br k<N))
  (CC:Hid (∀v,Ab w v->Calls prog 29 #[.pointer (some ⟨rb,0,none⟩)] v fun e w'=>e=.returned (.int .i64 (N:Nat))/\w'=v))
  (CE:Hid (∀v,Ab w v->Calls prog 51 #[.pointer (some ⟨rb,0,none⟩)] v fun e w'=>e=.returned (.int .i64 (M:Nat))/\w'=v))
  (CG:Hid (∀v (k:Nat),Ab w v->k<M->Calls prog 52 #[.pointer (some ⟨rb,0,none⟩),.int .i64 (k:Nat)] v fun e w'=>e=.returned (.tuple #[.agg #[.int .i64 (lfF k:Nat),.int .i64 (s1F k:Nat),.int .i64 (rtF k:Nat),.int .i64 (s2F k:Nat)],.bool true])/\Below v.heap.size v w'))
  (CB:Hid (∀v (k:Nat),Ab w v->k<M->Calls prog 53 #[.pointer (some ⟨rb,0,none⟩),.int .i64 (k:Nat)] v fun e w'=>e=.returned (.tuple #[.int .i64 (bl k:Nat),.int .i64 (br k:Nat),.bool true])/\Below v.heap.size v w')):
  Calls prog 30 #[.pointer (some ⟨rb,0,none⟩),.int .i64 (a:Nat),.int .i64 (b:Nat)] w fun e w'=> ∃s1 s2 s3,e=.returned (.agg #[s1,s2,s3])/\Ab w w'/\OwnN w.heap.size s1 (List.range' a (b - a)) w'/\OwnN w.heap.size s2 ((List.range M).filter fun e=>decide (a<=lfF e)&&decide (lfF e<b)) w'/\OwnN w.heap.size s3 ((List.range N).filter fun c=>((List.range M).any fun e=>(decide (a<=lfF e)&&decide (lfF e<b))&&(c==lfF e||c==rtF e||c==bl e||c==br e))&& !(decide (a<=c)&&decide (c<b))) w':=by
 have M2: ∀v:World,(Instr.makeSlice 81 (.int .i64 (N:Nat)) (.int .i64 (N:Nat))).run prog v=.ok (.slice (some ⟨v.heap.size,0,none⟩) N N) (v.alloc (Obj.cells (madeCells #[.bool false] N) 4)):=fun v=>run_make_row' (P:=prog) 81 4 (.bool false) 1 underlying81 infoB rfl .i64 .i64 N (by omega) (by omega) v
 have HN:=hid (And.intro hN (And.intro hM hab))
 have News:Hid (∀(v:World) (i:Nat) j u,(([(i:Int)].map (Value.int .i64)))[j]? =some u->(v.alloc (.cells #[.int .i64 (i:Nat)] 3)).cell? ((⟨v.heap.size,0,none⟩:Addr).add j)=some u):=fun v i j u hu=>World.news_of_block (heap_alloc_new v _) j u (by simpa using hu)
 have nB:(N:Int)<=6144:=by omega
 have mB:(M:Int)<=12288:=by omega
 have aB:(a:Int)<=6144:=by omega
 have bB:(b:Int)<=6144:=by omega
 clear hN hM hab
 obtain⟨A0,Q0,P0⟩:=box_two w (.cells #[.slice none 0 0,.slice none 0 0,.slice none 0 0] 40) (.cells #[.slice none 0 0,.slice none 0 0,.slice none 0 0] 40)
 go_enter func30,ntmps30
 go_upto_region 2 with fail
 generalize hW:World.alloc (World.alloc w _) _=V0 at*
 obtain⟨gr,hgr⟩:=aC w.heap.size
 obtain⟨gp,hgp⟩:=aC (w.heap.size+1)
 have GG:Hid (w.heap.size<=gr/\w.heap.size<=gp/\gr≠gp):=by show _/\_;omega
 rw[hgp]at P0 ⊢
 rw[hgr]at Q0 ⊢
 have HGR:=hid hgr
 clear hgr hgp hW
 go_wp2_with fail
 refine(CC.out V0 A0.out).mono ?_
 rintro e9 v1 ⟨rfl,hw⟩
 have hw2:=hw.symm
 subst hw2
 have A1:=gQ (bl1 V0 (Obj.cells (madeCells #[.bool false] N) 4))
 have N1:Hid ((V0.alloc (Obj.cells (madeCells #[.bool false] N) 4)).rowIs V0.heap.size 4 N (fun _=>.bool false)):=bV (heap_alloc_new _ _)
 go_upto_region 3 with fail
 generalize hW:World.alloc V0 _=V1 at*
 obtain⟨gk,hgk⟩:=aC V0.heap.size
 have GK:Hid (gr<gk/\gp<gk):=⟨by rw[<- hgk];exact lt_of_block Q0.out,by rw[<- hgk];exact lt_of_block P0.out⟩
 rw[hgk]at N1 ⊢
 have W1:Hid (Ab w V1):=A0.out.trans A1.out
 have P1:=hid (Ab.heap A1.out P0.out)
 have Q1:=hid (Ab.heap A1.out Q0.out)
 have NL: ∀v:World,OT 3 w.heap.size (.slice none 0 0) (cst []) v:=fun v=>⟨rfl,.inl ⟨rfl,rfl⟩⟩
 have O1:Hid (On w.heap.size gr gp gk N (.slice none 0 0) (.slice none 0 0) (.slice none 0 0) [] [] [] (fun _=>false) V1):=⟨P1.out,⟨NL _,NL _,NL _⟩,N1.out,⟨⟨by simp[Value.ownBlock],by simp[Value.ownBlock]⟩,⟨by simp[Value.ownBlock],by simp[Value.ownBlock]⟩,by simp[Value.ownBlock],by simp[Value.ownBlock]⟩,⟨fun k h=>by simp[Value.ownBlock]at h,fun k h=>by simp[Value.ownBlock]at h,fun k h=>by simp[Value.ownBlock]at h⟩,by have:=GK.out;omega,Q1.out,by have:=GG.out;omega,by have:=GK.out;omega,by simp[Value.ownBlock],by simp[Value.ownBlock],by simp[Value.ownBlock]⟩
 clear hgk hW M2 A0 Q0 P0 A1 N1 P1 CC NL hw
 go_wp2
 go_loopw [9] (fun iv wr=> ∃(i:Nat) (s1:Value),a<=i/\i<=b/\iv=.int .i64 (i:Nat)/\Ab w wr/\On w.heap.size gr gp gk N s1 (.slice none 0 0) (.slice none 0 0) (List.range' a (i - a)) [] [] (fun _=>false) wr) (fun iv _=>b - (intOf iv).toNat)
 case atStart=>exact⟨a,_,Nat.le_refl _,HN.out.2.2.1,rfl,W1.out,by rw[Nat.sub_self];exact O1.out⟩
 case round=>
  obtain⟨i,s1,hi,hib,rfl,ar,on⟩:=hrel
  have AR:=hid ar
  have ON:=hid on
  have HI:=hid (And.intro hi hib)
  have iB:(i:Int)<=6144:=by have:=HN.out;omega
  clear ar on hi hib O1 W1 Q1
  by_cases hin:i<b
  ·have HK:=hid hin
   have iI:(i:Int)<b:=by omega
   obtain⟨l1,hl1⟩:=aC (List.range' a (i - a))
   have LS:Hid (List.range' a (i+1 - a)=l1++[i]):=by
    have h:=HI.out
    show _=_
    rw[<- hl1,show i+1 - a=(i - a)+1 by omega,List.range'_concat]
    congr 2
    omega
   have HL:Hid ((cst l1).length+1<=1048576):=by
    have h:=HN.out
    show _<=_
    rw[iW,<- hl1,List.length_range']
    omega
   rw[hl1]at ON
   clear hl1 hin
   obtain⟨p1,c1,e1⟩:=ON.out.2.1.1.val
   subst e1
   have SZ:Hid ((wr.alloc (.cells #[.int .i64 (i:Nat)] 3)).heap.size=wr.heap.size+1):=cH _ _
   have y0:wr.cell? ⟨gp,0,none⟩=some (.slice p1 (cst l1).length c1):=aA 0 ON.out.1
   go_wp2_with (at_builtin;refine cJ rfl (.tmp 27) (.tmp 29) rfl w.heap.size _ (cst l1) rfl (ON.out.2.1.1.to (bl1 wr (.cells #[.int .i64 (i:Nat)] 3))) ⟨wr.heap.size,0,none⟩ 1 1 [(i:Int)] rfl rfl (News.out wr i) (by decide) HL.out (by have h1:=AR.out.size;have h2:=SZ.out;omega) ((cst l1).length+1) rfl ?_;intro g7 c7 w7 o7 a7 e7 _;have FI:=hid (ON.out.app1 (bl1 wr (.cells #[.int .i64 (i:Nat)] 3)) o7 a7 e7 rfl);have A7:Hid (Ab w w7):=(AR.out.trans (bl1 wr (.cells #[.int .i64 (i:Nat)] 3)):Below _ _ _).grown a7 (by have h1:=AR.out.size;have h2:=SZ.out;omega) (fun b hb=>(ON.out.2.1.1.blk hb).1);have z0:=aA 0 FI.out.1;have z1:=aA 1 FI.out.1;have z2:=aA 2 FI.out.1;have f0:=aE FI.out.1 0;clear o7 a7 e7)
   refine⟨⟨i+1,.slice (some ⟨g7,0,none⟩) ((cst l1).length+1) c7,by have:=HI.out;omega,by have:=HK.out;omega,by simp,A7.out.setk GG.out.2.1 _,?_⟩,by have:=HK.out;simp[intOf];omega⟩
   rw[LS.out]
   exact FI.out.2
  ·have e6:b=i:=by have:=HI.out;omega
   subst e6
   obtain⟨L1,hL1⟩:=aC (List.range' a (b - a))
   rw[hL1]at ON
   have HL1:=hid hL1
   clear hL1 hin
   go_wp2
   go_loopw [10] (fun kv wq=> ∃(k:Nat) (s1 s2:Value),k<=M/\kv=.int .i64 (k:Nat)/\Ab w wq/\On w.heap.size gr gp gk N s1 s2 (.slice none 0 0) L1 ((List.range k).filter (fun e=>decide (a<=lfF e)&&decide (lfF e<b))) [] (fun c=>(List.range k).any fun e=>(decide (a<=lfF e)&&decide (lfF e<b))&&(c==lfF e||c==rtF e||c==bl e||c==br e)) wq) (fun kv _=>M - (intOf kv).toNat)
   case atStart=>exact⟨0,_,_,by omega,rfl,AR.out,ON.out⟩
   case round=>
    obtain⟨k,s1,s2,hk,rfl,ar2,on2⟩:=hrel
    rename World=>wq
    have AR2:=hid ar2
    have ON2:=hid on2
    have HKL:=hid hk
    have kB:(k:Int)<=12288:=by omega
    have CEq:=hid (CE.out wq AR2.out)
    clear ar2 on2 hk
    by_cases hkn:k<M
    ·have HK:=hid hkn
     have kI:(k:Int)<M:=by omega
     have CGk:=hid (fun v (h:Ab w v)=>CG.out v k h hkn)
     have CBk:=hid (fun v (h:Ab w v)=>CB.out v k h hkn)
     obtain⟨b1,b2,b3,b4⟩:=HB.out k hkn
     have SF:Hid ((List.range (k+1)).filter (fun e=>decide (a<=lfF e)&&decide (lfF e<b))=(List.range k).filter (fun e=>decide (a<=lfF e)&&decide (lfF e<b))++(if(decide (a<=lfF k)&&decide (lfF k<b))=true then [k]else [])):=hY _ k
     have SK:Hid ((fun c=>(List.range (k+1)).any fun e=>(decide (a<=lfF e)&&decide (lfF e<b))&&(c==lfF e||c==rtF e||c==bl e||c==br e))=fun c=>(fun c=>(List.range k).any fun e=>(decide (a<=lfF e)&&decide (lfF e<b))&&(c==lfF e||c==rtF e||c==bl e||c==br e)) c||((decide (a<=lfF k)&&decide (lfF k<b))&&(c==lfF k||c==rtF k||c==bl k||c==br k))):=by funext c;rw[List.range_succ,List.any_append];simp
     have HLQ:Hid (((List.range k).filter (fun e=>decide (a<=lfF e)&&decide (lfF e<b))).length+1<=1048576):=by
      have h1:=List.length_filter_le (fun e=>decide (a<=lfF e)&&decide (lfF e<b)) (List.range k)
      rw[List.length_range]at h1
      have h2:=HN.out
      show _<=_
      omega
     obtain⟨l2,hl2⟩:=aC ((List.range k).filter (fun e=>decide (a<=lfF e)&&decide (lfF e<b)))
     obtain⟨kf,hkf⟩:=aC ((fun c=>(List.range k).any fun e=>(decide (a<=lfF e)&&decide (lfF e<b))&&(c==lfF e||c==rtF e||c==bl e||c==br e)))
     rw[hl2]at ON2 SF HLQ
     rw[hkf]at ON2 SK
     have HL:Hid ((cst l2).length+1<=1048576):=by rw[iW];exact HLQ.out
     clear hl2 hkf
     obtain⟨x,hx⟩:=aC (lfF k)
     obtain⟨y,hy⟩:=aC (rtF k)
     obtain⟨y1,hy1⟩:=aC (s1F k)
     obtain⟨y2,hy2⟩:=aC (s2F k)
     obtain⟨bx,hbx⟩:=aC (bl k)
     obtain⟨by_,hby⟩:=aC (br k)
     rw[hx,hy,hy1,hy2]at CGk
     rw[hbx,hby]at CBk
     rw[hx]at b1 SF
     rw[hx,hy,hbx,hby]at SK
     rw[hy]at b2
     rw[hbx]at b3
     rw[hby]at b4
     have xI:(x:Int)<N:=by omega
     have yI:(y:Int)<N:=by omega
     have bxI:(bx:Int)<N:=by omega
     have byI:(by_:Int)<N:=by omega
     have XN:=hid (And.intro b1 (And.intro b2 (And.intro b3 b4)))
     have qax:decide ((x:Int)<(a:Int))=decide (x<a):=by simp
     have qbx:decide ((x:Int)≥(b:Int))=decide (b<=x):=by simp
     clear hx hy hy1 hy2 hbx hby b1 b2 b3 b4 hkn
     go_wp2_with fail
     refine CEq.out.mono ?_
     rintro e9 z1 ⟨rfl,hw⟩
     have hw2:=hw.symm
     subst hw2
     clear CEq hw
     go_wp2_with fail
     refine(CGk.out wq AR2.out).mono ?_
     rintro e9 z2 ⟨rfl,k9⟩
     have B2:Hid (Ab wq (z2.alloc (.cells #[.int .i64 (x:Nat),.int .i64 (y1:Nat),.int .i64 (y:Nat),.int .i64 (y2:Nat)] 73))):=Ab.alloc (show Ab wq z2 from k9) _
     have E2:=hid (heap_alloc_new z2 (.cells #[.int .i64 (x:Nat),.int .i64 (y1:Nat),.int .i64 (y:Nat),.int .i64 (y2:Nat)] 73))
     have K9:Hid (Ab wq z2):=k9
     clear k9 CGk
     go_upto_region 11 with fail
     generalize hW:World.alloc z2 _=z3 at*
     obtain⟨ge,hge⟩:=aC z2.heap.size
     have hgeK:=hid hge
     rw[hge]at E2 ⊢
     clear hge hW
     have AR:=hid (AR2.out.trans B2.out)
     have ON:=hid (ON2.out.to B2.out)
     have m0:=aA 0 E2.out
     have GE:Hid (wq.heap.size<=ge):=by rw[<- hgeK.out];exact Ab.size (show Ab wq z2 from K9.out)
     by_cases q1:x<a
     ·have d1:decide ((x:Int)<(a:Int))=true:=decide_eq_true (by omega)
      have d1n:decide (x<a)=true:=decide_eq_true q1
      have d1I:(x:Int)<(a:Int):=by omega
      have QQ:Hid ((decide (a<=x)&&decide (x<b))=false):=by show _=_;rw[decide_eq_false (show¬a<=x by omega)];rfl
      rw[QQ.out]at SF SK
      clear qax qbx q1
      go_wp2_with fail
      exact⟨⟨k+1,_,_,by have:=HK.out;omega,by simp,AR.out,by rw[SF.out,SK.out];simpa using ON.out⟩,by have:=HK.out;simp[intOf];omega⟩
     ·have d1:decide ((x:Int)<(a:Int))=false:=decide_eq_false (by omega)
      have d1n:decide (x<a)=false:=decide_eq_false q1
      have d1I: ¬(x:Int)<(a:Int):=by omega
      by_cases q2:b<=x
      ·have d2:decide ((x:Int)≥(b:Int))=true:=decide_eq_true (by omega)
       have d2n:decide (b<=x)=true:=decide_eq_true q2
       have d2I:(b:Int)<=(x:Int):=by omega
       have QQ:Hid ((decide (a<=x)&&decide (x<b))=false):=by show _=_;rw[decide_eq_false (show¬x<b by omega),Bool.and_false]
       rw[QQ.out]at SF SK
       clear qax qbx q1 q2
       go_wp2_with fail
       exact⟨⟨k+1,_,_,by have:=HK.out;omega,by simp,AR.out,by rw[SF.out,SK.out];simpa using ON.out⟩,by have:=HK.out;simp[intOf];omega⟩
      ·have d2:decide ((x:Int)≥(b:Int))=false:=decide_eq_false (by omega)
       have d2n:decide (b<=x)=false:=decide_eq_false q2
       have d2I: ¬(b:Int)<=(x:Int):=by omega
       have QQ:Hid ((decide (a<=x)&&decide (x<b))=true):=by show _=_;rw[decide_eq_true (show a<=x by omega),decide_eq_true (show x<b by omega)];rfl
       rw[QQ.out]at SF SK
       clear qax qbx q1 q2
       obtain⟨p2,c2,e2⟩:=ON.out.2.1.2.1.val
       subst e2
       have SZ:Hid ((z3.alloc (.cells #[.int .i64 (k:Nat)] 3)).heap.size=z3.heap.size+1):=cH _ _
       have y0:z3.cell? ⟨gp,1,none⟩=some (.slice p2 (cst l2).length c2):=aA 1 ON.out.1
       have E3:Hid (some ge≠(Value.slice p2 (cst l2).length c2).ownBlock):=fun e=>by
        have h:=(ON2.out.2.1.2.1.blk e.symm).2
        have h2:=GE.out
        omega
       go_wp2_with (at_builtin;refine cJ rfl (.tmp 55) (.tmp 57) rfl w.heap.size _ (cst l2) rfl (ON.out.2.1.2.1.to (bl1 z3 (.cells #[.int .i64 (k:Nat)] 3))) ⟨z3.heap.size,0,none⟩ 1 1 [(k:Int)] rfl rfl (News.out z3 k) (by decide) HL.out (by have h1:=AR.out.size;have h2:=SZ.out;omega) ((cst l2).length+1) rfl ?_;intro g7 c7 w7 o7 a7 e7 _;have FI:=hid (ON.out.app2 (bl1 z3 (.cells #[.int .i64 (k:Nat)] 3)) o7 a7 e7 rfl);have A7:Hid (Ab w w7):=(AR.out.trans (bl1 z3 (.cells #[.int .i64 (k:Nat)] 3)):Below _ _ _).grown a7 (by have h1:=AR.out.size;have h2:=SZ.out;omega) (fun b hb=>(ON.out.2.1.2.1.blk hb).1);have z0:=aA 0 FI.out.1;have z1:=aA 1 FI.out.1;have z2:=aA 2 FI.out.1;have f1:=aE FI.out.1 1;have E7:Hid (w7.heap[ge]? =some (.cells #[.int .i64 (x:Nat),.int .i64 (y1:Nat),.int .i64 (y:Nat),.int .i64 (y2:Nat)] 73)):=(a7.block ge (by have h1:=lt_of_block E2.out;have h2:=SZ.out;omega) E3.out).trans (Ab.heap (bl1 _ _) E2.out);clear o7 a7 e7)
       have A8:Hid (Ab w (w7.setCell ⟨gp,1,none⟩ (.slice (some ⟨g7,0,none⟩) ((cst l2).length+1) c7))):=A7.out.setk GG.out.2.1 _
       have GEP:Hid (ge≠gp/\ge≠gk):=by
        have h1:=lt_of_block ON2.out.1
        have h2:=ON2.out.2.2.1.lt
        have h3:=GE.out
        exact⟨by omega,by omega⟩
       have E8:Hid ((w7.setCell ⟨gp,1,none⟩ (.slice (some ⟨g7,0,none⟩) ((cst l2).length+1) c7)).heap[ge]? =some (.cells #[.int .i64 (x:Nat),.int .i64 (y1:Nat),.int .i64 (y:Nat),.int .i64 (y2:Nat)] 73)):=(aH GEP.out.1).trans E7.out
       have ON8:=hid FI.out.2
       generalize hW:World.setCell w7 _ _=z4 at*
       generalize hsn:(Value.slice (some ⟨g7,0,none⟩) ((cst l2).length+1) c7)=sn at*
       clear hW hsn A7 FI E7 z0 z1 z2 f1 y0 m0
       go_wp2_with fail
       refine(CBk.out z4 A8.out).mono ?_
       rintro e9 z5 ⟨rfl,k9⟩
       have A9:=hid (A8.out.call k9)
       have O9:=hid (ON8.out.to k9)
       have E9:=hid (Ab.heap k9 E8.out)
       clear k9 CBk A8 ON8 E8
       have m0:=aA 0 E9.out
       have r1:=O9.out.2.2.1.cell XN.out.1
       have fr1:=O9.out.2.2.1.frozen x
       have On_0:=hid (O9.out.mark (c:=x))
       have An_0:Hid (Ab w (z5.setCell ⟨gk,x,none⟩ (.bool true))):=A9.out.setk (by have h:=GG.out;have h2:=GK.out;omega) _
       have En_0:Hid ((z5.setCell ⟨gk,x,none⟩ (.bool true)).heap[ge]? =some (.cells #[.int .i64 (x:Nat),.int .i64 (y1:Nat),.int .i64 (y:Nat),.int .i64 (y2:Nat)] 73)):=(aH GEP.out.2).trans E9.out
       go_upto_region 15 with fail
       generalize hW:World.setCell z5 _ _=zz0 at*
       clear hW r1 fr1 m0 O9 A9 E9
       have m2:=aA 2 En_0.out
       have r1:=On_0.out.2.2.1.cell XN.out.2.1
       have fr1:=On_0.out.2.2.1.frozen y
       have On_1:=hid (On_0.out.mark (c:=y))
       have An_1:Hid (Ab w (zz0.setCell ⟨gk,y,none⟩ (.bool true))):=An_0.out.setk (by have h:=GG.out;have h2:=GK.out;omega) _
       have En_1:Hid ((zz0.setCell ⟨gk,y,none⟩ (.bool true)).heap[ge]? =some (.cells #[.int .i64 (x:Nat),.int .i64 (y1:Nat),.int .i64 (y:Nat),.int .i64 (y2:Nat)] 73)):=(aH GEP.out.2).trans En_0.out
       go_upto_region 16 with fail
       generalize hW:World.setCell zz0 _ _=zz1 at*
       clear hW r1 fr1 m2 On_0 An_0 En_0
       have r1:=On_1.out.2.2.1.cell XN.out.2.2.1
       have fr1:=On_1.out.2.2.1.frozen bx
       have On_2:=hid (On_1.out.mark (c:=bx))
       have An_2:Hid (Ab w (zz1.setCell ⟨gk,bx,none⟩ (.bool true))):=An_1.out.setk (by have h:=GG.out;have h2:=GK.out;omega) _
       have En_2:Hid ((zz1.setCell ⟨gk,bx,none⟩ (.bool true)).heap[ge]? =some (.cells #[.int .i64 (x:Nat),.int .i64 (y1:Nat),.int .i64 (y:Nat),.int .i64 (y2:Nat)] 73)):=(aH GEP.out.2).trans En_1.out
       go_upto_region 17 with fail
       generalize hW:World.setCell zz1 _ _=zz2 at*
       clear hW r1 fr1 On_1 An_1 En_1
       have r1:=On_2.out.2.2.1.cell XN.out.2.2.2
       have fr1:=On_2.out.2.2.1.frozen by_
       have On_3:=hid (On_2.out.mark (c:=by_))
       have An_3:Hid (Ab w (zz2.setCell ⟨gk,by_,none⟩ (.bool true))):=An_2.out.setk (by have h:=GG.out;have h2:=GK.out;omega) _
       have En_3:Hid ((zz2.setCell ⟨gk,by_,none⟩ (.bool true)).heap[ge]? =some (.cells #[.int .i64 (x:Nat),.int .i64 (y1:Nat),.int .i64 (y:Nat),.int .i64 (y2:Nat)] 73)):=(aH GEP.out.2).trans En_2.out
       go_wp2
       refine⟨⟨k+1,s1,sn,by have:=HK.out;omega,by simp,An_3.out,?_⟩,by have:=HK.out;simp[intOf];omega⟩
       rw[SF.out,SK.out]
       have e:(fun c=>kf c||(true&&(c==x||c==y||c==bx||c==by_)))=fun j=>(((kf j||j==x)||j==y)||j==bx)||j==by_:=by funext c;simp[Bool.or_assoc]
       rw[e]
       exact On_3.out
    ·have e6:M=k:=by have:=HKL.out;omega
     subst e6
     obtain⟨L2,hL2⟩:=aC ((List.range M).filter (fun e=>decide (a<=lfF e)&&decide (lfF e<b)))
     obtain⟨kf,hkf⟩:=aC ((fun c=>(List.range M).any fun e=>(decide (a<=lfF e)&&decide (lfF e<b))&&(c==lfF e||c==rtF e||c==bl e||c==br e)))
     rw[hL2,hkf]at ON2
     have HL2:=hid hL2
     have HKF:=hid hkf
     clear hL2 hkf hkn
     have CEr:=hid (CE.out wq AR2.out)
     go_wp2_with fail
     refine CEr.out.mono ?_
     rintro e9 z1 ⟨rfl,hw⟩
     have hw2:=hw.symm
     subst hw2
     clear CEr hw CEq
     go_wp2_with fail
     go_loopw [16] (fun mv wp=> ∃(m:Nat) (s3:Value),m<=N/\mv=.int .i64 (m:Nat)/\Ab w wp/\On w.heap.size gr gp gk N s1 s2 s3 L1 L2 ((List.range m).filter fun c=>kf c&& !(decide (a<=c)&&decide (c<b))) (kf) wp) (fun mv _=>N - (intOf mv).toNat)
     case atStart=>exact⟨0,_,by omega,rfl,AR2.out,ON2.out⟩
     case round=>
      obtain⟨m,s3,hm,rfl,ar3,on3⟩:=hrel
      rename World=>wp
      have AR:=hid ar3
      have ON:=hid on3
      have HML:=hid hm
      have mBd:(m:Int)<=6144:=by have:=HN.out;omega
      clear ar3 on3 hm
      by_cases hmn:m<N
      ·have HM:=hid hmn
       have mI:(m:Int)<N:=by omega
       have z1:=ON.out.2.2.1.cell hmn
       have SB:=hid (hY (fun c=>kf c&& !(decide (a<=c)&&decide (c<b))) m)
       have HLQ:Hid (((List.range m).filter fun c=>kf c&& !(decide (a<=c)&&decide (c<b))).length+1<=1048576):=by
        have h1:=List.length_filter_le (fun c=>kf c&& !(decide (a<=c)&&decide (c<b))) (List.range m)
        rw[List.length_range]at h1
        have h2:=HN.out
        show _<=_
        omega
       obtain⟨l3,hl3⟩:=aC (((List.range m).filter fun c=>kf c&& !(decide (a<=c)&&decide (c<b))))
       rw[hl3]at ON SB HLQ
       have HL:Hid ((cst l3).length+1<=1048576):=by rw[iW];exact HLQ.out
       (try dsimp only at z1)
       obtain⟨qv,hqv⟩:=aC (kf m)
       rw[hqv]at z1 SB
       clear hl3 hqv hmn HLQ
       cases qv with
       | false=>
        go_wp2_with fail
        exact⟨⟨m+1,_,by have:=HM.out;omega,by simp,AR.out,by rw[SB.out];simpa using ON.out⟩,by have:=HM.out;simp[intOf];omega⟩
       | true=>
        by_cases q1:m<a
        ·have d1:decide ((m:Int)<(a:Int))=true:=decide_eq_true (by omega)
         have d1n:decide (m<a)=true:=decide_eq_true q1
         have d1I:(m:Int)<(a:Int):=by omega
         have QQ:Hid ((decide (a<=m)&&decide (m<b))=false):=by show _=_;rw[decide_eq_false (show¬a<=m by omega)];rfl
         rw[QQ.out]at SB
         clear q1
         obtain⟨p3,c3,e3⟩:=ON.out.2.1.2.2.val
         subst e3
         have SZ:Hid ((wp.alloc (.cells #[.int .i64 (m:Nat)] 3)).heap.size=wp.heap.size+1):=cH _ _
         have y0:wp.cell? ⟨gp,2,none⟩=some (.slice p3 (cst l3).length c3):=aA 2 ON.out.1
         go_wp2_with (at_builtin;refine cJ rfl (.tmp 102) (.tmp 104) rfl w.heap.size _ (cst l3) rfl (ON.out.2.1.2.2.to (bl1 wp (.cells #[.int .i64 (m:Nat)] 3))) ⟨wp.heap.size,0,none⟩ 1 1 [(m:Int)] rfl rfl (News.out wp m) (by decide) HL.out (by have h1:=AR.out.size;have h2:=SZ.out;omega) ((cst l3).length+1) rfl ?_;intro g7 c7 w7 o7 a7 e7 _;have FI:=hid (ON.out.app3 (bl1 wp (.cells #[.int .i64 (m:Nat)] 3)) o7 a7 e7 rfl);have A7:Hid (Ab w w7):=(AR.out.trans (bl1 wp (.cells #[.int .i64 (m:Nat)] 3)):Below _ _ _).grown a7 (by have h1:=AR.out.size;have h2:=SZ.out;omega) (fun b hb=>(ON.out.2.1.2.2.blk hb).1);have z0:=aA 0 FI.out.1;have z1:=aA 1 FI.out.1;have z2:=aA 2 FI.out.1;have f2:=aE FI.out.1 2;clear o7 a7 e7)
         exact⟨⟨m+1,_,by have:=HM.out;omega,by simp,A7.out.setk GG.out.2.1 _,by rw[SB.out];exact FI.out.2⟩,by have:=HM.out;simp[intOf];omega⟩
        ·have d1:decide ((m:Int)<(a:Int))=false:=decide_eq_false (by omega)
         have d1n:decide (m<a)=false:=decide_eq_false q1
         have d1I: ¬(m:Int)<(a:Int):=by omega
         by_cases q2:b<=m
         ·have d2:decide ((m:Int)≥(b:Int))=true:=decide_eq_true (by omega)
          have d2n:decide (b<=m)=true:=decide_eq_true q2
          have d2I:(b:Int)<=(m:Int):=by omega
          have QQ:Hid ((decide (a<=m)&&decide (m<b))=false):=by show _=_;rw[decide_eq_false (show¬m<b by omega),Bool.and_false]
          rw[QQ.out]at SB
          clear q1 q2
          obtain⟨p3,c3,e3⟩:=ON.out.2.1.2.2.val
          subst e3
          have SZ:Hid ((wp.alloc (.cells #[.int .i64 (m:Nat)] 3)).heap.size=wp.heap.size+1):=cH _ _
          have y0:wp.cell? ⟨gp,2,none⟩=some (.slice p3 (cst l3).length c3):=aA 2 ON.out.1
          go_wp2_with (at_builtin;refine cJ rfl (.tmp 102) (.tmp 104) rfl w.heap.size _ (cst l3) rfl (ON.out.2.1.2.2.to (bl1 wp (.cells #[.int .i64 (m:Nat)] 3))) ⟨wp.heap.size,0,none⟩ 1 1 [(m:Int)] rfl rfl (News.out wp m) (by decide) HL.out (by have h1:=AR.out.size;have h2:=SZ.out;omega) ((cst l3).length+1) rfl ?_;intro g7 c7 w7 o7 a7 e7 _;have FI:=hid (ON.out.app3 (bl1 wp (.cells #[.int .i64 (m:Nat)] 3)) o7 a7 e7 rfl);have A7:Hid (Ab w w7):=(AR.out.trans (bl1 wp (.cells #[.int .i64 (m:Nat)] 3)):Below _ _ _).grown a7 (by have h1:=AR.out.size;have h2:=SZ.out;omega) (fun b hb=>(ON.out.2.1.2.2.blk hb).1);have z0:=aA 0 FI.out.1;have z1:=aA 1 FI.out.1;have z2:=aA 2 FI.out.1;have f2:=aE FI.out.1 2;clear o7 a7 e7)
          exact⟨⟨m+1,_,by have:=HM.out;omega,by simp,A7.out.setk GG.out.2.1 _,by rw[SB.out];exact FI.out.2⟩,by have:=HM.out;simp[intOf];omega⟩
         ·have d2:decide ((m:Int)≥(b:Int))=false:=decide_eq_false (by omega)
          have d2n:decide (b<=m)=false:=decide_eq_false q2
          have d2I: ¬(b:Int)<=(m:Int):=by omega
          have QQ:Hid ((decide (a<=m)&&decide (m<b))=true):=by show _=_;rw[decide_eq_true (show a<=m by omega),decide_eq_true (show m<b by omega)];rfl
          rw[QQ.out]at SB
          clear q1 q2
          go_wp2_with fail
          exact⟨⟨m+1,_,by have:=HM.out;omega,by simp,AR.out,by rw[SB.out];simpa using ON.out⟩,by have:=HM.out;simp[intOf];omega⟩
      ·have e6:N=m:=by have:=HML.out;omega
       subst e6
       have QR:=hid ON.out.2.2.2.2.2.2.1
       obtain⟨L3,hL3⟩:=aC (((List.range N).filter fun c=>kf c&& !(decide (a<=c)&&decide (c<b))))
       rw[hL3]at ON
       have HL3:=hid hL3
       clear hL3
       obtain⟨p1,c1,e1⟩:=ON.out.2.1.1.val
       obtain⟨p2,c2,e2⟩:=ON.out.2.1.2.1.val
       obtain⟨p3,c3,e3⟩:=ON.out.2.1.2.2.val
       subst e1 e2 e3
       have o0:=aA 0 ON.out.1
       have o1:=aA 1 ON.out.1
       have o2:=aA 2 ON.out.1
       have t0:=aA 0 QR.out
       have t1:=aA 1 QR.out
       have t2:=aA 2 QR.out
       have f0:=aE QR.out 0
       have f1:=aE QR.out 1
       have f2:=aE QR.out 2
       go_wp2_with fail
       (try simp only[Exit.inBlock,Exit.then])
       have RY:=hid (row3_22 (x:=.slice p1 (cst L1).length c1) (y:=.slice p2 (cst L2).length c2) (z:=.slice p3 (cst L3).length c3) QR.out)
       refine bodyPost_ret (v:=.agg #[.slice p1 (cst L1).length c1,.slice p2 (cst L2).length c2,.slice p3 (cst L3).length c3]) ?_ rfl ?_
       ·exact res_one results30 _ _ gr _ _ (0,0) _ rfl RY.out underlying40 rfl (by kernel_rfl)
       have g1:=GG.out.1
       have nn:=ON.out.2.2.2.2.2.2.2.2.2
       refine⟨_,_,_,rfl,((AR.out.setk g1 _).setk g1 _).setk g1 _,?_,?_,?_⟩
       ·rw[HL1.out]
        exact OT.toN (((ON.out.2.1.1.other _ nn.1).other _ nn.1).other _ nn.1)
       ·rw[HL2.out]
        exact OT.toN (((ON.out.2.1.2.1.other _ nn.2.1).other _ nn.2.1).other _ nn.2.1)
       ·have e:=HKF.out
        have e': ∀c,((List.range M).any fun e=>(decide (a<=lfF e)&&decide (lfF e<b))&&(c==lfF e||c==rtF e||c==bl e||c==br e))=kf c:=fun c=>congrFun e c
        simp only[e']
        rw[HL3.out]
        exact OT.toN (((ON.out.2.1.2.2.other _ nn.2.2).other _ nn.2.2).other _ nn.2.2)
end Spl
end
section
open Go.RowKit Tf Cu Go.Deep
namespace Spl
theorem cD{w:World}{p:Option Addr}{n g k:Nat}{f:Nat->Nat}(v:Value)(h:IsFl w p n f)(hp: ∀b o,p=some ⟨b,o,none⟩->b≠g):IsFl (w.setCell ⟨g,k,none⟩ v) p n f:=fun i hi=>by
 obtain⟨h1,b,o,h2,h3,h4⟩:=h i hi
 exact⟨h1,b,o,h2,by simpa [World.setCell]using h3,(World.cell?_of_block (Below.heap_setCell _ _ _ _ (hp b o h2))).trans h4⟩
theorem dM{w:World}{p:Option Addr}{n g k:Nat}{f:Nat->Int}(v:Value)(h:Sh.IsI w p n f)(hp: ∀b o,p=some ⟨b,o,none⟩->b≠g):Sh.IsI (w.setCell ⟨g,k,none⟩ v) p n f:=fun i hi=>by
 obtain⟨h1,b,o,h2,h3,h4⟩:=h i hi
 exact⟨h1,b,o,h2,by simpa [World.setCell]using h3,(World.cell?_of_block (Below.heap_setCell _ _ _ _ (hp b o h2))).trans h4⟩
theorem rI{M n:Nat}{v:Value}{f:Nat->Nat}{w:World}(h:OwnG M v ((List.range n).map f) w)(hf: ∀i,i<n->f i<18446744073709551616): ∃p c,v=.slice p n c/\IsFl w p n f/\ ∀b o,p=some ⟨b,o,none⟩->M<=b/\b<w.heap.size:=by
 obtain⟨p,c,e,i⟩:=h.fl (fun x hx=>by obtain⟨j,hj,rfl⟩:=List.mem_map.1 hx;exact hf j (List.mem_range.1 hj))
 rw[List.length_map,List.length_range]at e i
 refine⟨p,c,e,fun k hk=> ?_,fun b o q=>World.ownsRow.lt h b (by rw[e,q];rfl)⟩
 have q:=i k hk
 simpa [List.getD,hk]using q
theorem rJ{M n:Nat}{v:Value}{f:Nat->Int}{w:World}(h:Sh.Own M v ((List.range n).map f) w)(hf: ∀i,i<n->W64 (f i)): ∃p c,v=.slice p n c/\Sh.IsI w p n f/\ ∀b o,p=some ⟨b,o,none⟩->M<=b/\b<w.heap.size:=by
 obtain⟨p,c,e,i⟩:=Sh.Own.in h (fun x hx=>by obtain⟨j,hj,rfl⟩:=List.mem_map.1 hx;exact hf j (List.mem_range.1 hj))
 rw[List.length_map,List.length_range]at e i
 refine⟨p,c,e,fun k hk=> ?_,fun b o q=>World.ownsRow.lt h b (by rw[e,q];rfl)⟩
 have q:=i k hk
 simpa [List.getD,hk]using q
def Bnd(n1 n2 n3 n4:Nat)(A:Nat->Nat)(B C:Nat->Int)(D:Nat->Nat):Prop:=(∀i,i<n1->A i<18446744073709551616)/\(∀i,i<n2->W64 (B i))/\(∀i,i<n3->W64 (C i))/\(∀i,i<n4->D i<18446744073709551616)
def SeaP(g:Nat)(p1:Option Addr)(c1:Nat)(p2:Option Addr)(c2:Nat)(p3:Option Addr)(c3:Nat)(p4:Option Addr)(c4:Nat)(n1 n2 n3 n4:Nat)(A:Nat->Nat)(B C:Nat->Int)(D:Nat->Nat)(sk st:Int)(v:World):Prop:=v.heap[g]? =some (.cells #[.slice p1 n1 c1,.slice p2 n2 c2,.slice p3 n3 c3,.slice p4 n4 c4,.int .i64 sk,.int .i64 st] 45)/\IsFl v p1 n1 A/\Sh.IsI v p2 n2 B/\Sh.IsI v p3 n3 C/\IsFl v p4 n4 D
theorem rK{M:Nat}{vv:Value}{n1 n2 n3 n4:Nat}{A:Nat->Nat}{B C:Nat->Int}{D:Nat->Nat}{sk st:Int}{u:World}(h:OwnS M vv n1 n2 n3 n4 A B C D sk st u)(hb:Bnd n1 n2 n3 n4 A B C D):
  ∃p1 c1 p2 c2 p3 c3 p4 c4,vv=.agg #[.slice p1 n1 c1,.slice p2 n2 c2,.slice p3 n3 c3,.slice p4 n4 c4,.int .i64 sk,.int .i64 st]/\(IsFl u p1 n1 A/\Sh.IsI u p2 n2 B/\Sh.IsI u p3 n3 C/\IsFl u p4 n4 D)/\((∀b o,p1=some ⟨b,o,none⟩->M<=b)/\(∀b o,p2=some ⟨b,o,none⟩->M<=b)/\(∀b o,p3=some ⟨b,o,none⟩->M<=b)/\ ∀b o,p4=some ⟨b,o,none⟩->M<=b):=by
 obtain⟨v1,v2,v3,v4,rfl,h1,h2,h3,h4,-,-⟩:=h
 obtain⟨p1,c1,rfl,i1,m1⟩:=rI h1 hb.1
 obtain⟨p2,c2,rfl,i2,m2⟩:=rJ h2 hb.2.1
 obtain⟨p3,c3,rfl,i3,m3⟩:=rJ h3 hb.2.2.1
 obtain⟨p4,c4,rfl,i4,m4⟩:=rI h4 hb.2.2.2
 exact⟨p1,c1,p2,c2,p3,c3,p4,c4,rfl,⟨i1,i2,i3,i4⟩,fun b o q=>(m1 b o q).1,fun b o q=>(m2 b o q).1,fun b o q=>(m3 b o q).1,fun b o q=>(m4 b o q).1⟩
end Spl
end
section
open Go.RowKit Tf Cu Go.Deep
namespace Spl
def bl4:Value->List Nat
 | .agg a=>(a.toList.take 4).filterMap Value.ownBlock
 | _=>[]
theorem OwnS.blk{M:Nat}{v:Value}{nb nw nt ns:Nat}{A:Nat->Nat}{B C:Nat->Int}{D:Nat->Nat}{sk st:Int}{w:World}(h:OwnS M v nb nw nt ns A B C D sk st w){b:Nat}(hb:b ∈ bl4 v):M<=b/\b<w.heap.size:=by
 obtain⟨v1,v2,v3,v4,rfl,h1,h2,h3,h4,d1,d2⟩:=h
 simp only[bl4,List.take_succ_cons,List.take_zero,List.mem_filterMap,List.mem_cons,List.not_mem_nil,or_false]at hb
 obtain⟨u,hu,hv⟩:=hb
 rcases hu with rfl | rfl | rfl | rfl
 ·exact World.ownsRow.lt h1 b hv
 ·exact World.ownsRow.lt h2 b hv
 ·exact World.ownsRow.lt h3 b hv
 ·exact World.ownsRow.lt h4 b hv
theorem sea_box{M g:Nat}{vv:Value}{n1 n2 n3 n4:Nat}{A:Nat->Nat}{B C:Nat->Int}{D:Nat->Nat}{sk st:Int}{z:World}(q:z.heap[g]? =some (.cells #[.slice none 0 0,.slice none 0 0,.slice none 0 0,.slice none 0 0,.int .i64 0,.int .i64 0] 45))(os:OwnS M vv n1 n2 n3 n4 A B C D sk st z)(hb:Bnd n1 n2 n3 n4 A B C D)(ng: ∀b,b ∈ bl4 vv->b≠g):
  ∃p1 c1 p2 c2 p3 c3 p4 c4,vv=.agg #[.slice p1 n1 c1,.slice p2 n2 c2,.slice p3 n3 c3,.slice p4 n4 c4,.int .i64 sk,.int .i64 st]/\SeaP g p1 c1 p2 c2 p3 c3 p4 c4 n1 n2 n3 n4 A B C D sk st ((((((z.setCell ⟨g,0,none⟩ (.slice p1 n1 c1)).setCell ⟨g,1,none⟩ (.slice p2 n2 c2)).setCell ⟨g,2,none⟩ (.slice p3 n3 c3)).setCell ⟨g,3,none⟩ (.slice p4 n4 c4)).setCell ⟨g,4,none⟩ (.int .i64 sk)).setCell ⟨g,5,none⟩ (.int .i64 st))/\
   ((∀b o,p1=some ⟨b,o,none⟩->M<=b)/\(∀b o,p2=some ⟨b,o,none⟩->M<=b)/\(∀b o,p3=some ⟨b,o,none⟩->M<=b)/\ ∀b o,p4=some ⟨b,o,none⟩->M<=b):=by
 obtain⟨p1,c1,p2,c2,p3,c3,p4,c4,e,⟨i1,i2,i3,i4⟩,m1,m2,m3,m4⟩:=rK os hb
 subst e
 have mem: ∀(p:Option Addr) (n c:Nat) (b o:Nat),p=some ⟨b,o,none⟩->(Value.slice p n c).ownBlock=some b:=fun p n c b o e=>by subst e;rfl
 have ne: ∀b,(∃u:Value,(u=.slice p1 n1 c1\/u=.slice p2 n2 c2\/u=.slice p3 n3 c3\/u=.slice p4 n4 c4)/\u.ownBlock=some b)->b≠g:=fun b h=>ng b (by
  obtain⟨u,hu,hv⟩:=h
  simp only[bl4,List.take_succ_cons,List.take_zero,List.mem_filterMap,List.mem_cons,List.not_mem_nil,or_false]
  exact⟨u,hu,hv⟩)
 have o1: ∀b o,p1=some ⟨b,o,none⟩->b≠g:=fun b o k=>ne b ⟨_,.inl rfl,mem p1 n1 c1 b o k⟩
 have o2: ∀b o,p2=some ⟨b,o,none⟩->b≠g:=fun b o k=>ne b ⟨_,.inr (.inl rfl),mem p2 n2 c2 b o k⟩
 have o3: ∀b o,p3=some ⟨b,o,none⟩->b≠g:=fun b o k=>ne b ⟨_,.inr (.inr (.inl rfl)),mem p3 n3 c3 b o k⟩
 have o4: ∀b o,p4=some ⟨b,o,none⟩->b≠g:=fun b o k=>ne b ⟨_,.inr (.inr (.inr rfl)),mem p4 n4 c4 b o k⟩
 have fl: ∀(p:Option Addr) (n:Nat) (f:Nat->Nat),(∀b o,p=some ⟨b,o,none⟩->b≠g)->IsFl z p n f->IsFl ((((((z.setCell ⟨g,0,none⟩ (.slice p1 n1 c1)).setCell ⟨g,1,none⟩ (.slice p2 n2 c2)).setCell ⟨g,2,none⟩ (.slice p3 n3 c3)).setCell ⟨g,3,none⟩ (.slice p4 n4 c4)).setCell ⟨g,4,none⟩ (.int .i64 sk)).setCell ⟨g,5,none⟩ (.int .i64 st)) p n f:=fun p n f o i=>cD _ (cD _ (cD _ (cD _ (cD _ (cD _ i o) o) o) o) o) o
 have ii: ∀(p:Option Addr) (n:Nat) (f:Nat->Int),(∀b o,p=some ⟨b,o,none⟩->b≠g)->Sh.IsI z p n f->Sh.IsI ((((((z.setCell ⟨g,0,none⟩ (.slice p1 n1 c1)).setCell ⟨g,1,none⟩ (.slice p2 n2 c2)).setCell ⟨g,2,none⟩ (.slice p3 n3 c3)).setCell ⟨g,3,none⟩ (.slice p4 n4 c4)).setCell ⟨g,4,none⟩ (.int .i64 sk)).setCell ⟨g,5,none⟩ (.int .i64 st)) p n f:=fun p n f o i=>dM _ (dM _ (dM _ (dM _ (dM _ (dM _ i o) o) o) o) o) o
 exact⟨p1,c1,p2,c2,p3,c3,p4,c4,rfl,⟨row6 q,fl _ _ _ o1 i1,ii _ _ _ o2 i2,ii _ _ _ o3 i3,fl _ _ _ o4 i4⟩,m1,m2,m3,m4⟩
theorem fM(w:World)(o:Obj):(w.alloc o).drew.heap[w.heap.size]? =some o:=heap_alloc_new w o
theorem lit22{x:Int}(h:(Lit.int .i64 x).wf=true):W64 x:=by
 unfold W64
 simp only[Lit.wf,Bool.and_eq_true,decide_eq_true_eq]at h
 have q1:IntKind.i64.min= -9223372036854775808:=by decide
 have q2:IntKind.i64.max=9223372036854775807:=by decide
 omega
def Mb(M:Nat)(p1 p2 p3 p4:Option Addr):Prop:=(∀b o,p1=some ⟨b,o,none⟩->M<=b)/\(∀b o,p2=some ⟨b,o,none⟩->M<=b)/\(∀b o,p3=some ⟨b,o,none⟩->M<=b)/\ ∀b o,p4=some ⟨b,o,none⟩->M<=b
theorem Mb.up{M N:Nat}{p1 p2 p3 p4:Option Addr}(h:Mb N p1 p2 p3 p4)(hm:M<=N):Mb M p1 p2 p3 p4:=⟨fun b o e=>Nat.le_trans hm (h.1 b o e),fun b o e=>Nat.le_trans hm (h.2.1 b o e),fun b o e=>Nat.le_trans hm (h.2.2.1 b o e),fun b o e=>Nat.le_trans hm (h.2.2.2 b o e)⟩
theorem sea_nw2{M:Nat}{vv:Value}{n1 n2 n3 n4:Nat}{A:Nat->Nat}{B C:Nat->Int}{D:Nat->Nat}{sk st:Int}{u:World}(h:OwnS M vv n1 n2 n3 n4 A B C D sk st u)(hb:Bnd n1 n2 n3 n4 A B C D):
  ∃p1 c1 p2 c2 p3 c3 p4 c4,vv=.agg #[.slice p1 n1 c1,.slice p2 n2 c2,.slice p3 n3 c3,.slice p4 n4 c4,.int .i64 sk,.int .i64 st]/\SeaP u.heap.size p1 c1 p2 c2 p3 c3 p4 c4 n1 n2 n3 n4 A B C D sk st (u.alloc (.cells #[.slice p1 n1 c1,.slice p2 n2 c2,.slice p3 n3 c3,.slice p4 n4 c4,.int .i64 sk,.int .i64 st] 45))/\Mb M p1 p2 p3 p4:=by
 obtain⟨p1,c1,p2,c2,p3,c3,p4,c4,e,⟨i1,i2,i3,i4⟩,mm⟩:=rK h hb
 have a: ∀o,Ab u (u.alloc o):=fun o=>bl1 _ _
 exact⟨p1,c1,p2,c2,p3,c3,p4,c4,e,⟨heap_alloc_new _ _,i1.below (a _),i2.below (a _),i3.below (a _),i4.below (a _)⟩,mm⟩
theorem rL{U z:World}{g:Nat}{vv:Value}{n1 n2 n3 n4:Nat}{A:Nat->Nat}{B C:Nat->Int}{D:Nat->Nat}{sk st:Int}(q:U.heap[g]? =some (.cells #[.slice none 0 0,.slice none 0 0,.slice none 0 0,.slice none 0 0,.int .i64 0,.int .i64 0] 45))(b:Ab U z)(os:OwnS U.heap.size vv n1 n2 n3 n4 A B C D sk st z)(hb:Bnd n1 n2 n3 n4 A B C D):
  ∃p1 c1 p2 c2 p3 c3 p4 c4,vv=.agg #[.slice p1 n1 c1,.slice p2 n2 c2,.slice p3 n3 c3,.slice p4 n4 c4,.int .i64 sk,.int .i64 st]/\z.heap[g]? =some (.cells #[.slice none 0 0,.slice none 0 0,.slice none 0 0,.slice none 0 0,.int .i64 0,.int .i64 0] 45)/\SeaP g p1 c1 p2 c2 p3 c3 p4 c4 n1 n2 n3 n4 A B C D sk st ((((((z.setCell ⟨g,0,none⟩ (.slice p1 n1 c1)).setCell ⟨g,1,none⟩ (.slice p2 n2 c2)).setCell ⟨g,2,none⟩ (.slice p3 n3 c3)).setCell ⟨g,3,none⟩ (.slice p4 n4 c4)).setCell ⟨g,4,none⟩ (.int .i64 sk)).setCell ⟨g,5,none⟩ (.int .i64 st))/\Mb U.heap.size p1 p2 p3 p4:=by
 obtain⟨p1,c1,p2,c2,p3,c3,p4,c4,e,s,m⟩:=sea_box (b.heap q) os hb (fun d hd e=>by have h1:=(os.blk hd).1;have h2:=lt_of_block q;omega)
 exact⟨p1,c1,p2,c2,p3,c3,p4,c4,e,b.heap q,s,m⟩
end Spl
end
section
open Go.RowKit Tf Cu Go.Deep
attribute [local go_sem] aL aM aP aQ aR aU aX aG
def lkW(i:Nat):Int:=if i=1 then 2863311530 else 1431655765
theorem ar13: ∀c,c<6->arI (ArC 1 c)=1431655765:=by decide+kernel
def LkR(w:World)(gd g4 b1 b2 b3 b4:Nat)(f:Nat->Int)(v:World):Prop:=
 Ab w v/\v.heap[g4]? =some (.cells #[.slice (some ⟨b1,0,none⟩) 6 6,.slice (some ⟨b2,0,none⟩) 6 6,.slice (some ⟨b3,0,none⟩) 6 6,.slice (some ⟨b4,0,none⟩) 12 12,.int .i64 0,.int .i64 0] 45)/\v.heap[gd]? =some (.cells #[.slice none 0 0,.slice none 0 0,.slice none 0 0,.slice none 0 0,.int .i64 0,.int .i64 0] 45)/\v.rowIs b1 66 6 (fun _=>.float .f64 0)/\v.rowIs b2 2 6 (fun i=>.int .i64 (f i))/\v.rowIs b3 2 6 (fun _=>.int .i64 0)/\v.rowIs b4 66 12 (fun _=>.float .f64 0)
def LkI(w:World)(gd g4 b1 b2 b3 b4 c:Nat)(v:World):Prop:=LkR w gd g4 b1 b2 b3 b4 (fun i=>if i<c then lkW i else 0) v
theorem LkR.to2{w:World}{gd g4 b1 b2 b3 b4:Nat}{f:Nat->Int}{v v':World}(h:LkR w gd g4 b1 b2 b3 b4 f v)(a:Ab v v'):LkR w gd g4 b1 b2 b3 b4 f v':=by
 obtain⟨h1,h2,h3,h4,h5,h6,h7⟩:=h
 exact⟨h1.trans a,a.heap h2,a.heap h3,rowIs.ab h4 a,rowIs.ab h5 a,rowIs.ab h6 a,rowIs.ab h7 a⟩
theorem LkI.to{w:World}{gd g4 b1 b2 b3 b4 c:Nat}{v v':World}(h:LkI w gd g4 b1 b2 b3 b4 c v)(a:Ab v v'):LkR w gd g4 b1 b2 b3 b4 (fun i=>if i<c then lkW i else 0) v':=LkR.to2 h a
theorem LkR.fin{w:World}{gd g4 b1 b2 b3 b4 c:Nat}{f:Nat->Int}{v:World}(h:LkR w gd g4 b1 b2 b3 b4 f v)(e: ∀i,f i=if i<c then lkW i else 0):LkI w gd g4 b1 b2 b3 b4 c v:=by
 obtain⟨h1,h2,h3,h4,h5,h6,h7⟩:=h
 exact⟨h1,h2,h3,h4,h5.congr (fun i _=>by dsimp only;rw[e i]),h6,h7⟩
theorem LkR.set{w:World}{gd g4 b1 b2 b3 b4:Nat}{f:Nat->Int}{v:World}(h:LkR w gd g4 b1 b2 b3 b4 f v)(nn:g4≠b2/\b1≠b2/\b3≠b2/\b4≠b2/\b1≠b4/\b3≠b4)(hl:gd+1<=b1/\gd+1<=b2/\gd+1<=b3/\gd+1<=b4/\gd+1<=g4)(c:Nat)(x:Int)(hw:w.heap.size<=gd):LkR w gd g4 b1 b2 b3 b4 (fun i=>if i=c then x else f i) (v.setCell ⟨b2,c,none⟩ (.int .i64 x)):=by
 obtain⟨h1,h2,h3,h4,h5,h6,h7⟩:=h
 refine⟨h1.setk (by omega) _,by rw[aH nn.1];exact h2,by rw[aH (by omega)];exact h3,h4.setOther nn.2.1 _,(h5.set c _).congr (fun i _=> ?_),h6.setOther nn.2.2.1 _,h7.setOther nn.2.2.2.1 _⟩
 by_cases e:i=c
 ·simp[e]
 ·simp[e]
end
end Go.Proofs.YtilfdnipahabbaaDoor
