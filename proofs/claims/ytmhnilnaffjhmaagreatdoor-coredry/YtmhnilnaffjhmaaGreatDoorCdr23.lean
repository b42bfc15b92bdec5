/-
  Some of the texts of this proof, one behind the other.
-/
import Derived.BigQuiet
import Derived.Deep.QuietTactic
import Derived.BigRegion
import Derived.Lib.SliceRun
import Derived.Laws.Small
import Derived.Test.YtmhnilnaffjhmaaGreatDoorCdr22
set_option maxRecDepth 100000
set_option maxHeartbeats 400000000
namespace Go.Proofs.YtmhnilnaffjhmaaGreatDoor
open _root_.Go.Proofs.Tryz
section
open Go.RowKit Go.Deep Cu
namespace Ms
open Sh
def loW(x:Int):Int:=x%18446744073709551616
def hiW(x:Int):Int:=x/18446744073709551616%18446744073709551616
def wd(n:Int):Int:=if n<0 then n+18446744073709551616 else n
def sgW(n:Int):Int:=if n<0 then 18446744073709551615 else 0
theorem dX(x:Int):0<=loW x/\loW x<18446744073709551616:=by unfold loW;omega
theorem fF(x:Int):0<=hiW x/\hiW x<18446744073709551616:=by unfold hiW;omega
theorem vP{n:Int}(h:W64 n):0<=wd n/\wd n<18446744073709551616:=by
 unfold W64 at h;unfold wd;split<;>omega
theorem tK(n:Int):0<=sgW n/\sgW n<18446744073709551616:=by unfold sgW;split<;>omega
theorem Ey{n:Int}(h:W64 n):IntKind.u64.wrap n=wd n:=by
 unfold W64 at h;unfold wd
 simp[IntKind.wrap,IntKind.bits,IntKind.signed]
 split<;>omega
theorem plus_low{x n:Int}(_h:W64 n):(loW x+wd n+0)%18446744073709551616=loW (x+n):=by
 unfold loW wd;split<;>omega
theorem GO{x n:Int}(_h:W64 n):(hiW x+sgW n+(loW x+wd n+0)/18446744073709551616)%18446744073709551616=hiW (x+n):=by
 unfold hiW loW wd sgW;split<;>omega
theorem C8{x n:Int}(h:W64 n):0<=(loW x+wd n+0)/18446744073709551616/\(loW x+wd n+0)/18446744073709551616<=1:=by
 have:=dX x
 have:=vP h
 omega
def bo(a b:Int):Int:=if a<b then 1 else 0
theorem bo_in(a b:Int):0<=bo a b/\bo a b<=1:=by unfold bo;split<;>omega
theorem GP{x n:Int}(_h:W64 n):(loW x+18446744073709551616 - wd n - 0)%18446744073709551616=loW (x - n):=by
 unfold loW wd;split<;>omega
theorem C9{x n:Int}(h:W64 n):(hiW x+18446744073709551616 - sgW n - bo (loW x) (wd n+0))%18446744073709551616=hiW (x - n):=by
 unfold W64 at h;unfold hiW loW wd sgW bo
 by_cases c:n<0
 ·rw[if_pos c,if_pos c];split<;>omega
 ·rw[if_neg c,if_neg c];split<;>omega
def sh(x:Int):Int:=if loW x<9223372036854775808 then loW x else loW x - 18446744073709551616
theorem sh_in(x:Int):W64 (sh x):=by
 have:=dX x
 unfold W64 sh;split<;>omega
theorem Ez(x:Int):IntKind.i64.wrap (loW x)=sh x:=by
 have:=dX x
 unfold sh
 generalize loW x=y at*
 simp[IntKind.wrap,IntKind.bits,IntKind.signed]
 split<;>omega
theorem sh_of{x:Int}(h:W64 x):sh x=x/\hiW x=sgW (sh x):=by
 unfold W64 at h
 have e:sh x=x:=by unfold sh loW;split<;>omega
 refine⟨e,?_⟩
 rw[e]
 unfold hiW sgW;split<;>omega
theorem sh_no{x:Int}(h: ¬W64 x)(a: -170141183460469231731687303715884105728<=x)(b:x<170141183460469231731687303715884105728):hiW x≠sgW (sh x):=by
 unfold W64 at h
 unfold hiW sgW sh loW
 intro e
 by_cases c:x%18446744073709551616<9223372036854775808
 ·rw[if_pos c,if_neg (by omega)]at e;omega
 ·rw[if_neg c,if_pos (by omega)]at e;omega
theorem EA(s:String)(x y c:Nat)(hc1:c<=1)(w:World):(Extern.MathBitsCarry.three s #[.int .u64 x,.int .u64 y,.int .u64 c]).run prog w=.ok (x,y,c) w:=by
 have h:c=0\/c=1:=by omega
 rcases h with rfl | rfl<;>rfl
theorem EC(x y c s o:Int)(hx:0<=x)(hy:0<=y)(hc:0<=c)(hc1:c<=1)(hs:(x+y+c)%18446744073709551616=s)(ho:(x+y+c)/18446744073709551616=o)(w:World):
  (callFunc 122 #[.int .u64 x,.int .u64 y,.int .u64 c]).run prog w=.ok (.value (.tuple #[.int .u64 s,.int .u64 o])) w:=by
 rw[run_callFunc_extern (e:=fun args=>do
  let(x,y,c) <- Extern.MathBitsCarry.three "Add64" args
  pure (Extern.MathBitsCarry.pair ((x+y+c)%Extern.MathBitsCarry.m64) ((x+y+c)/Extern.MathBitsCarry.m64))) func122 (by kernel_rfl) (by kernel_rfl) (by kernel_rfl) (by kernel_rfl)]
 obtain⟨x,rfl⟩: ∃n:Nat,x=n:=⟨x.toNat,by omega⟩
 obtain⟨y,rfl⟩: ∃n:Nat,y=n:=⟨y.toNat,by omega⟩
 obtain⟨c,rfl⟩: ∃n:Nat,c=n:=⟨c.toNat,by omega⟩
 have e:Extern.MathBitsCarry.m64=18446744073709551616:=by decide
 have hp:Extern.MathBitsCarry.pair ((x+y+c)%Extern.MathBitsCarry.m64) ((x+y+c)/Extern.MathBitsCarry.m64)=.tuple #[.int .u64 s,.int .u64 o]:=by
  unfold Extern.MathBitsCarry.pair
  rw[e,Int.ofNat_eq_natCast,Int.ofNat_eq_natCast]
  have h1:(((x+y+c)%18446744073709551616:Nat):Int)=s:=by omega
  have h2:(((x+y+c)/18446744073709551616:Nat):Int)=o:=by omega
  rw[h1,h2]
 have h4:=EA "Add64" x y c (by omega) w
 rw[Sem.run_bind,h4,Result.andThen_ok]
 show Result.andThen (Sem.run prog (pure (Extern.MathBitsCarry.pair ((x+y+c)%Extern.MathBitsCarry.m64) ((x+y+c)/Extern.MathBitsCarry.m64))) w) _=_
 rw[hp];rfl
theorem EF(x y c s o:Int)(hx:0<=x)(hy:0<=y)(hy1:y<18446744073709551616)(hc:0<=c)(hc1:c<=1)(hs:(x+18446744073709551616 - y - c)%18446744073709551616=s)(ho:bo x (y+c)=o)(w:World):
  (callFunc 124 #[.int .u64 x,.int .u64 y,.int .u64 c]).run prog w=.ok (.value (.tuple #[.int .u64 s,.int .u64 o])) w:=by
 rw[run_callFunc_extern (e:=fun args=>do
  let(x,y,b) <- Extern.MathBitsCarry.three "Sub64" args
  pure (Extern.MathBitsCarry.pair ((x+Extern.MathBitsCarry.m64 - y - b)%Extern.MathBitsCarry.m64) (if x<y+b then 1 else 0))) func124 (by kernel_rfl) (by kernel_rfl) (by kernel_rfl) (by kernel_rfl)]
 obtain⟨x,rfl⟩: ∃n:Nat,x=n:=⟨x.toNat,by omega⟩
 obtain⟨y,rfl⟩: ∃n:Nat,y=n:=⟨y.toNat,by omega⟩
 obtain⟨c,rfl⟩: ∃n:Nat,c=n:=⟨c.toNat,by omega⟩
 have e:Extern.MathBitsCarry.m64=18446744073709551616:=by decide
 have hp:Extern.MathBitsCarry.pair ((x+Extern.MathBitsCarry.m64 - y - c)%Extern.MathBitsCarry.m64) (if x<y+c then 1 else 0)=.tuple #[.int .u64 s,.int .u64 o]:=by
  unfold Extern.MathBitsCarry.pair
  rw[e,Int.ofNat_eq_natCast,Int.ofNat_eq_natCast]
  have h1:(((x+18446744073709551616 - y - c)%18446744073709551616:Nat):Int)=s:=by omega
  have h2:(((if x<y+c then 1 else 0):Nat):Int)=o:=by
   unfold bo at ho
   by_cases d:x<y+c
   ·rw[if_pos d];rw[if_pos (by omega)]at ho;exact ho
   ·rw[if_neg d];rw[if_neg (by omega)]at ho;exact ho
  rw[h1,h2]
 have h4:=EA "Sub64" x y c (by omega) w
 rw[Sem.run_bind,h4,Result.andThen_ok]
 show Result.andThen (Sem.run prog (pure (Extern.MathBitsCarry.pair ((x+Extern.MathBitsCarry.m64 - y - c)%Extern.MathBitsCarry.m64) (if x<y+c then 1 else 0))) w) _=_
 rw[hp];rfl
def upF(k:Nat)(F:Nat->Int)(i:Nat):Int:=if i<k then F i else 0
theorem mv_nil{n c:Nat}(W F:Nat->Int)(hn:1<=n)(hc:c<6*n*n):mv n W (upF 0 F) c=W c:=by
 have h:=mv_back n W (fun _=>0) c
 have g:=mv_two n W (fun _=>0) (fun i=> -(fun _=>(0:Int)) i) c
 rw[h]at g
 rw[g]
 exact nX hn hc rfl (fun i _=>by simp[upF])
theorem mv_up{n k c:Nat}(W F:Nat->Int)(hn:1<=n)(hk:k<12*n*n)(hc:c<6*n*n):mv n W (upF (k+1) F) c=if c=edT n k/4 then mv n W (upF k F) c - F k else if c=mt n (edT n k)/4 then mv n W (upF k F) c+F k else mv n W (upF k F) c:=by
 rw[<- mv_one (q:=F k) (mv n W (upF k F)) hn hk hc,mv_two]
 refine nX hn hc rfl (fun i _=> ?_)
 unfold upF oneF
 by_cases a:i<k
 ·rw[if_pos (by omega),if_pos a,if_neg (by omega)];omega
 ·by_cases b:i=k
  ·subst b;rw[if_pos (by omega),if_neg (by omega),if_pos rfl];omega
  ·rw[if_neg (by omega),if_neg a,if_neg b];omega
theorem xS{n c:Nat}(W F:Nat->Int)(hn:1<=n)(hc:c<6*n*n):mv n W (upF (12*n*n) F) c=mv n W F c:=
 nX hn hc rfl (fun i hi=>by unfold upF;rw[if_pos hi])
end Ms
end
section
open Go.RowKit Go.Deep Cu
namespace Ms
open Sh
theorem nZ(n:Int)(w:World)(h:W64 n):Calls prog 123 #[.int .i64 n] w fun e w'=>e=.returned (.int .u64 (sgW n))/\w'=w:=by
 unfold W64 at h
 obtain⟨h1,h2⟩:=h
 by_cases c:n<0
 ·have e:n/9223372036854775808= -1:=by omega
  have e2:sgW n=18446744073709551615:=if_pos c
  rw[e2]
  go_enter func123,ntmps123
  go_wp2
  go_ret
  exact⟨rfl,rfl⟩
 ·have e:n/9223372036854775808=0:=by omega
  have e2:sgW n=0:=if_neg c
  rw[e2]
  go_enter func123,ntmps123
  go_wp2
  go_ret
  exact⟨rfl,rfl⟩
def PlW(w wr:World)(y:Int):Prop:=wr.heap[w.heap.size]? =some (.cells #[.int .u64 (hiW y),.int .u64 (loW y)] 135)/\wr.heap[w.heap.size+1]? =some (.cells #[.int .u64 0,.int .u64 0] 135)/\Below w.heap.size w wr
theorem frz2{w:World}{b:Nat}{v1 v2:Value}{T:TypeId}(h:w.heap[b]? =some (.cells #[v1,v2] T))(k:Nat):w.frozen? ⟨b,k,none⟩=false:=by
 have r:w.rowIs b T 2 (fun k=>(#[v1,v2]:Array Value).getD k (.bool false)):=⟨_,h,rfl,fun i hi=>by
  match i,hi with
  | 0,_=>rfl
  | 1,_=>rfl⟩
 exact r.frozen k
theorem EI{w:World}{b:Nat}{v1 v2:Value}{T:TypeId}(h:w.heap[b]? =some (.cells #[v1,v2] T))(a c:Value):((w.setCell ⟨b,0,none⟩ a).setCell ⟨b,1,none⟩ c).heap[b]? =some (.cells #[a,c] T):=aI (aI h)
theorem PlW.drewN{w wr:World}{y:Int}(h:PlW w wr y)(q:Nat):PlW w (wr.drewN q) y:=⟨by simpa using h.1,by simpa using h.2.1,Ab.drewN h.2.2 q⟩
theorem PlW.put{w wr:World}{y:Int}(h:PlW w wr y)(z:Int):PlW w ((wr.setCell ⟨w.heap.size,0,none⟩ (.int .u64 (hiW z))).setCell ⟨w.heap.size,1,none⟩ (.int .u64 (loW z))) z:=
 ⟨aI (aI h.1),by rw[Below.heap_setCell _ _ _ _ (by simp),Below.heap_setCell _ _ _ _ (by simp)];exact h.2.1,Ab.setk (Ab.setk h.2.2 (Nat.le_refl _) _) (Nat.le_refl _) _⟩
theorem mW(p:Option Addr)(n c:Nat)(f:Nat->Int)(x:Int)(w:World)(hn:n<=9223372036854775807)(hf:Hid (IsI w p n f)):
  Calls prog 77 #[.agg #[.int .u64 (hiW x),.int .u64 (loW x)],.slice p n c] w fun e w'=>e=.returned (.agg #[.int .u64 (hiW (x+sumN f n)),.int .u64 (loW (x+sumN f n))])/\Below w.heap.size w w':=by
 have P0:Hid (PlW w ((w.alloc (.cells #[.int .u64 (hiW x),.int .u64 (loW x)] 135)).alloc (.cells #[.int .u64 0,.int .u64 0] 135)) x):=⟨heap_alloc2_old _ _ _,heap_alloc2_new _ _ _,bl2 _ _ _⟩
 go_enter func77,ntmps77
 go_wp2
 go_loopw [13] (fun kv wr=> ∃k:Nat,k<=n/\kv=.int .i64 (k:Nat)/\PlW w wr (x+sumN f k)) (fun kv _=>n - (intOf kv).toNat)
 case atStart=>
  refine⟨0,by omega,rfl,?_⟩
  rw[show x+sumN f 0=x from Int.add_zero x]
  exact P0.out
 case round=>
  obtain⟨k,hk,rfl,r1⟩:=hrel
  have R1:=hid r1
  clear r1 P0
  by_cases hlt:k<n
  ·have hI:=hf.out k hlt
   obtain⟨hI1,b,o,rfl,hb,hc⟩:=hI
   have hw:W64 (f k):=hI1
   have c0:wr.cell? ⟨b,o+k,none⟩=some (.int .i64 (f k)):=by rw[<- hc];exact World.cell?_of_block (Below.block R1.out.2.2 b hb)
   have x0:=aA 0 R1.out.1
   have x1:=aA 1 R1.out.1
   have z0:=frz2 R1.out.1 0
   have z1:=frz2 R1.out.1 1
   have E1:Hid (x+sumN f (k+1)=x+sumN f k+f k):=by
    show x+(sumN f k+f k)=_
    omega
   have HL:=hid hlt
   have kI:(k:Int)<n:=by omega
   have nI:(n:Int)<=9223372036854775807:=by omega
   generalize x+sumN f k=y at*
   generalize f k=q at*
   obtain⟨cy,hcy⟩:=aB ((loW y+wd q+0)/18446744073709551616)
   have pc:=C8 (x:=y) hw
   have ph:=GO (x:=y) hw
   rw[hcy]at pc ph
   have A1:=EC (loW y) (wd q) 0 (loW (y+q)) cy (dX y).1 (vP hw).1 (by omega) (by omega) (plus_low hw) hcy
   have A2:=EC (hiW y) (sgW q) cy (hiW (y+q)) _ (fF y).1 (tK q).1 pc.1 pc.2 ph rfl
   have SG:=hid (fun u=>nZ q u hw)
   have hwr:=Ey hw
   have y1:=dX y
   have y2:=fF y
   have y3:=dX (y+q)
   have y4:=fF (y+q)
   have y5:=vP hw
   have y6:=tK q
   generalize(hiW y+sgW q+cy)/18446744073709551616=o2 at*
   clear hcy ph hI1 hc hf hw
   generalize hiW y=hy at*
   generalize loW y=ly at*
   generalize sgW q=sq at*
   generalize wd q=wq at*
   go_wp2_with fail
   go_quiet (first | (go_at_call 123;refine Calls.quiet_of_same (SG.out _)))
   go_wp2
   refine⟨⟨k+1,by have:=HL.out;omega,by simp,?_⟩,by have:=HL.out;simp[intOf];omega⟩
   rw[E1.out]
   exact(R1.out.drewN nq).put _
  ·obtain rfl:k=n:=by omega
   have x0:=aA 0 R1.out.1
   have x1:=aA 1 R1.out.1
   have z0:=frz2 R1.out.2.1 0
   have z1:=frz2 R1.out.2.1 1
   have v0:=aA 0 R1.out.2.1
   have v1:=aA 1 R1.out.2.1
   have y3:=dX (x+sumN f k)
   have y4:=fF (x+sumN f k)
   obtain⟨y,hy⟩:=aB (x+sumN f k)
   rw[hy]at x0 x1 y3 y4
   have HY:=hid hy
   clear hy
   go_wp2
   rw[HY.out]
   refine bodyPost_ret ?_ rfl ⟨rfl,?_⟩
   ·exact results_cell_row results77 _ _ (w.heap.size+1) _ _ (0,0) _ rfl (EI R1.out.2.1 _ _) underlying135 rfl (by kernel_rfl)
   ·exact Ab.setk (Ab.setk R1.out.2.2 (Nat.le_succ _) _) (Nat.le_succ _) _
theorem nL(x q:Int)(w:World)(hw:W64 q):
  Calls prog 78 #[.agg #[.int .u64 (hiW x),.int .u64 (loW x)],.int .i64 q] w fun e w'=>e=.returned (.agg #[.int .u64 (hiW (x - q)),.int .u64 (loW (x - q))])/\Below w.heap.size w w':=by
 have P0:Hid (PlW w ((w.alloc (.cells #[.int .u64 (hiW x),.int .u64 (loW x)] 135)).alloc (.cells #[.int .u64 0,.int .u64 0] 135)) x):=⟨heap_alloc2_old _ _ _,heap_alloc2_new _ _ _,bl2 _ _ _⟩
 obtain⟨cy,hcy⟩:=aB (bo (loW x) (wd q+0))
 have pc:=bo_in (loW x) (wd q+0)
 have ph:=C9 (x:=x) hw
 rw[hcy]at pc ph
 have A1:=EF (loW x) (wd q) 0 (loW (x - q)) cy (dX x).1 (vP hw).1 (vP hw).2 (by omega) (by omega) (GP hw) hcy
 have A2:=EF (hiW x) (sgW q) cy (hiW (x - q)) _ (fF x).1 (tK q).1 (tK q).2 pc.1 pc.2 ph rfl
 have SG:=hid (fun u=>nZ q u hw)
 have hwr:=Ey hw
 have y1:=dX x
 have y2:=fF x
 have y3:=dX (x - q)
 have y4:=fF (x - q)
 have y5:=vP hw
 have y6:=tK q
 generalize bo (hiW x) (sgW q+cy)=o2 at*
 clear hcy ph hw
 generalize loW (x - q)=lz at*
 generalize hiW (x - q)=hz at*
 generalize sgW q=sq at*
 generalize wd q=wq at*
 go_enter func78,ntmps78
 go_upto_region 1 with fail
 generalize World.alloc _ _=W at*
 have x0:=aA 0 P0.out.1
 have x1:=aA 1 P0.out.1
 have v0:=aA 0 P0.out.2.1
 have v1:=aA 1 P0.out.2.1
 have z0:=frz2 P0.out.2.1 0
 have z1:=frz2 P0.out.2.1 1
 go_wp2_with fail
 go_quiet (first | (go_at_call 123;refine Calls.quiet_of_same (SG.out _)))
 go_wp2
 refine bodyPost_ret ?_ rfl ⟨rfl,?_⟩
 ·exact results_cell_row results78 _ _ (w.heap.size+1) _ _ (0,0) _ rfl (EI (P0.out.drewN nq).2.1 _ _) underlying135 rfl (by kernel_rfl)
 ·exact Ab.setk (Ab.setk (P0.out.drewN nq).2.2 (Nat.le_succ _) _) (Nat.le_succ _) _
theorem Ax(x s:Int)(sg:Int)(ok:Bool)(w:World)(hs:IntKind.i64.wrap (loW x)=s)(hok:(hiW x==sg)=ok)(SG:Hid (∀u,Calls prog 123 #[.int .i64 s] u fun e w'=>e=.returned (.int .u64 sg)/\w'=u)):
  Calls prog 125 #[.agg #[.int .u64 (hiW x),.int .u64 (loW x)]] w fun e w'=>e=.returned (.tuple #[.int .i64 s,.bool ok])/\Below w.heap.size w w':=by
 obtain⟨B0,P0⟩:=aO w (.cells #[.int .u64 (hiW x),.int .u64 (loW x)] 135)
 have y1:=dX x
 have y2:=fF x
 generalize hiW x=hx at*
 generalize loW x=lx at*
 go_enter func125,ntmps125
 go_upto_region 1 with fail
 generalize World.alloc _ _=W at*
 have x0:=aA 0 P0.out
 have x1:=aA 1 P0.out
 go_wp2_with fail
 go_quiet (first | (go_at_call 123;refine Calls.quiet_of_same (SG.out _)))
 go_wp2
 go_ret2
 exact⟨rfl,Ab.drewN B0.out nq⟩
theorem GQ(x:Int)(w:World)(h:W64 x):Calls prog 125 #[.agg #[.int .u64 (hiW x),.int .u64 (loW x)]] w fun e w'=>e=.returned (.tuple #[.int .i64 x,.bool true])/\Below w.heap.size w w':=by
 obtain⟨e1,e2⟩:=sh_of h
 have e3:=Ez x
 rw[e1]at e2 e3
 exact Ax x x (sgW x) true w e3 (by rw[e2];simp) (fun u=>nZ x u h)
theorem short_no(x:Int)(w:World)(h: ¬W64 x)(a: -170141183460469231731687303715884105728<=x)(b:x<170141183460469231731687303715884105728):Calls prog 125 #[.agg #[.int .u64 (hiW x),.int .u64 (loW x)]] w fun e w'=>e=.returned (.tuple #[.int .i64 (sh x),.bool false])/\Below w.heap.size w w':=
 Ax x (sh x) (sgW (sh x)) false w (Ez x) (beq_eq_false_iff_ne.2 (sh_no h a b)) (fun u=>nZ _ u (sh_in x))
end Ms
end
section
open Go.RowKit Go.Deep Cu
namespace Ms
open Sh
def SumsAt(w:World)(g m:Nat)(X:Nat->Int):Prop:=w.rowIs g 135 (m*2) (fun i=>.int .u64 (if i%2=0 then hiW (X (i/2))else loW (X (i/2))))
theorem SumsAt.c0{w:World}{g m k:Nat}{X:Nat->Int}(h:SumsAt w g m X)(hk:k<m):w.cell? ⟨g,k*2,none⟩=some (.int .u64 (hiW (X k))):=by
 have e:=h.cell (i:=k*2) (by omega)
 rw[e]
 have h1:k*2%2=0:=by omega
 have h2:k*2/2=k:=by omega
 simp[h1,h2]
theorem SumsAt.c1{w:World}{g m k:Nat}{X:Nat->Int}(h:SumsAt w g m X)(hk:k<m):w.cell? ⟨g,k*2+1,none⟩=some (.int .u64 (loW (X k))):=by
 have e:=h.cell (i:=k*2+1) (by omega)
 rw[e]
 have h1:(k*2+1)%2=1:=by omega
 have h2:(k*2+1)/2=k:=by omega
 simp[h1,h2]
theorem SumsAt.to{w w':World}{g m:Nat}{X:Nat->Int}(h:SumsAt w g m X)(a:Ab w w'):SumsAt w' g m X:=rowIs.ab h a
theorem SumsAt.frz{w:World}{g m:Nat}{X:Nat->Int}(h:SumsAt w g m X)(k:Nat):w.frozen? ⟨g,k,none⟩=false:=World.rowIs.frozen h k
def updX(X:Nat->Int)(c:Nat)(x:Int)(i:Nat):Int:=if i=c then x else X i
theorem SumsAt.put{w:World}{g m c:Nat}{X:Nat->Int}(h:SumsAt w g m X)(x:Int):SumsAt ((w.setCell ⟨g,c*2,none⟩ (.int .u64 (hiW x))).setCell ⟨g,c*2+1,none⟩ (.int .u64 (loW x))) g m (updX X c x):=by
 refine((World.rowIs.set h (c*2) (.int .u64 (hiW x))).set (c*2+1) (.int .u64 (loW x))).congr (fun i _=> ?_)
 have q1:(c*2)/2=c:=by omega
 have q2:(c*2+1)/2=c:=by omega
 have q3:(c*2+1)%2=1:=by omega
 have q4:(c*2)%2=0:=by omega
 unfold updX
 by_cases e1:i=c*2+1
 ·subst e1
  simp[q2,q3]
 ·by_cases e2:i=c*2
  ·subst e2;simp[q1,q4]
  ·have e3:i/2≠c:=by omega
   simp[e1,e2,e3]
theorem SumsAt.congr{w:World}{g m:Nat}{X Y:Nat->Int}(h:SumsAt w g m X)(e: ∀c,c<m->X c=Y c):SumsAt w g m Y:=
 World.rowIs.congr h (fun i hi=>by rw[e (i/2) (by omega)])
theorem row_ownW{B g cap n:Nat}{F:Nat->Value}{x:Nat->Int}{w:World}(h:w.rowIs g 2 cap F)(hB:B<=g)(hn:n<=cap)(hc:cap<=maxLen)(hF: ∀i,i<n->F i=.int .i64 (x i)):Own B (.slice (some ⟨g,0,none⟩) n cap) ((List.range n).map x) w:=by
 obtain⟨c,hb,hs,hf⟩:=h
 refine⟨by simp,.inr ⟨g,cap,c,by simp,hB,hb,by simpa using hn,hc,by omega,?_⟩⟩
 apply List.ext_getElem?
 intro i
 rw[List.getElem?_take,List.length_map,List.length_range]
 by_cases hi:i<n
 ·have e:=hf i (by omega)
  rw[hF i hi]at e
  rw[if_pos (by omega)]
  rw[<- Array.getElem?_toList]at e
  rw[e]
  simp[hi]
 ·rw[if_neg (by omega),List.getElem?_eq_none (by simp;omega)]
def gd(x:Int):Prop:=0<=x/\x<=9223372036854775807
theorem held_at(g m:Nat)(X:Nat->Int)(w:World)(hm:m<=65536)(S:Hid (SumsAt w g m X))(hX:Hid (∀k,k<m-> -170141183460469231731687303715884105728<=X k/\X k<170141183460469231731687303715884105728)):
  Calls prog 79 #[.slice (some ⟨g,0,none⟩) m m] w fun e w'=>Below w.heap.size w w'/\(((∀k,k<m->gd (X k))/\ ∃v,e=.returned (.tuple #[v,.int .i64 0])/\Own w.heap.size v ((List.range m).map X) w')\/((¬ ∀k,k<m->gd (X k))/\e=.returned (.tuple #[.slice none 0 0,.int .i64 20]))):=by
 have MK:=run_make_row' (P:=prog) 46 2 (.int .i64 0) 8 underlying46 fA rfl .i64 .i64 m (by omega) (by omega) w
 have MB:=hid hm
 clear hm
 obtain⟨ob,hob⟩:=aB w.heap.size
 have RW:Hid ((w.alloc (.cells (madeCells #[.int .i64 0] m) 2)).rowIs ob 2 m (fun _=>.int .i64 0)):=by
  have h:=World.rowIs_made w (.int .i64 0) m 2
  rw[hob]at h
  exact h
 have A0:Hid (Ab w (w.alloc (.cells (madeCells #[.int .i64 0] m) 2))):=bl1 w _
 have HO:Hid (w.heap.size<=ob):=Nat.le_of_eq hob
 generalize w.alloc (.cells (madeCells #[.int .i64 0] m) 2)=wm at*
 go_enter func79,ntmps79
 go_wp2
 clear MK hob
 go_loopw [14] (fun iv wr=> ∃k:Nat,k<=m/\iv=.int .i64 (k:Nat)/\Ab w wr/\wr.rowIs ob 2 m (fun i=>.int .i64 (if i<k then X i else 0))/\ ∀j,j<k->gd (X j)) (fun iv _=>m - (intOf iv).toNat)
 case atStart=>exact⟨0,by omega,rfl,A0.out,RW.out.congr (fun i _=>by simp),fun j hj=>absurd hj (by omega)⟩
 case round=>
  obtain⟨k,hk,rfl,a1,r1,g1⟩:=hrel
  have AR:=hid a1
  have RR:=hid r1
  have GR:=hid g1
  clear a1 r1 g1 A0 RW
  by_cases hkm:k<m
  ·have HK:=hid hkm
   have kI:(k:Int)<m:=by omega
   have kB:(k:Int)<=65536:=by have:=MB.out;omega
   have s1:=S.out.to AR.out
   have x0:=s1.c0 hkm
   have x1:=s1.c1 hkm
   have y1:=dX (X k)
   have y2:=fF (X k)
   have HR:=hX.out k hkm
   obtain⟨x,hx⟩:=aB (X k)
   rw[hx]at x0 x1 y1 y2 HR
   have HX:=hid hx
   clear hx s1 hkm hk
   by_cases w1:W64 x
   ·have C:=hid (fun u=>GQ x u w1)
    have wI:=w1
    unfold W64 at wI
    go_wp2_with fail
    refine(C.out _).mono ?_
    rintro e9 v1 ⟨rfl,b1⟩
    have A1:Hid (Ab w v1):=((AR.out:Ab w wr).trans (bl1 wr _)).call b1
    have R1:=hid (rowIs.ab (rowIs.ab RR.out (bl1 wr _)) b1)
    have f1:=R1.out.cell (i:=k) HK.out
    have f2:=R1.out.frozen k
    clear b1 C x0 x1 AR RR
    by_cases p:0<=x
    ·have d:decide (x<0)=false:=decide_eq_false (by omega)
     have G1:Hid (gd (X k)):=by rw[HX.out];exact⟨p,wI.2⟩
     clear p
     go_wp2
     refine⟨⟨k+1,by have:=HK.out;omega,by simp,Ab.setk A1.out HO.out _,(R1.out.set k (.int .i64 x)).congr (fun i _=> ?_),fun j hj=> ?_⟩,by have:=HK.out;simp[intOf];omega⟩
     ·by_cases e:i=k
      ·subst e;simp[HX.out]
      ·have e3:(i<k+1) ↔ i<k:=by omega
       simp[e,e3]
     ·by_cases e:j=k
      ·subst e;exact G1.out
      ·exact GR.out j (by omega)
    ·have d:decide (x<0)=true:=decide_eq_true (by omega)
     have G1:Hid (¬gd (X k)):=by rw[HX.out];exact fun h=>p h.1
     clear p
     go_wp2
     go_ret2
     exact⟨A1.out,.inr ⟨fun h=>G1.out (h k HK.out),rfl⟩⟩
   ·have C:=hid (fun u=>short_no x u w1 HR.1 HR.2)
    have G1:Hid (¬gd (X k)):=by rw[HX.out];exact fun h=>w1 ⟨by have:=h.1;omega,h.2⟩
    clear w1 HR
    go_wp2_with fail
    refine(C.out _).mono ?_
    rintro e9 v1 ⟨rfl,b1⟩
    have A1:Hid (Ab w v1):=((AR.out:Ab w wr).trans (bl1 wr _)).call b1
    have R1:=hid (rowIs.ab (rowIs.ab RR.out (bl1 wr _)) b1)
    clear b1 C x0 x1 AR RR
    go_wp2
    go_ret2
    exact⟨A1.out,.inr ⟨fun h=>G1.out (h k HK.out),rfl⟩⟩
  ·obtain rfl:k=m:=by omega
   go_wp2
   go_ret2
   exact⟨AR.out,.inl ⟨GR.out,_,rfl,row_ownW RR.out HO.out (Nat.le_refl _) (by unfold maxLen;have:=MB.out;omega) (fun i hi=>by simp[hi])⟩⟩
end Ms
end
section
open Go.RowKit Go.Deep Cu
namespace Ms
open Sh
theorem infoW:(Tryz.prog.info? 135).map (fun i=>(i.zero,i.size,i.bytes))=some (some (.agg #[.int .u64 0,.int .u64 0]),2,16):=by kernel_rfl
theorem made_w(w:World)(N:Nat):SumsAt (w.alloc (.cells (madeCells #[.int .u64 0,.int .u64 0] (N*2)) 135)) w.heap.size N (fun _=>0):=by
 refine⟨_,heap_alloc_new _ _,size_madeCells _ _,fun i hi=> ?_⟩
 have h2:i%2=0\/i%2=1:=by omega
 have e1:hiW 0=0:=rfl
 have e2:loW 0=0:=rfl
 rcases h2 with h2 | h2<;>simp[madeCells,hi,h2,e1,e2]
theorem Az(b:Nat)(y q:Int)(u:World)(hq:W64 q)(h:u.heap[b]? =some (.cells #[.int .i64 q] 2)):
  Calls prog 77 #[.agg #[.int .u64 (hiW y),.int .u64 (loW y)],.slice (some ⟨b,0,none⟩) 1 1] u fun e w'=>e=.returned (.agg #[.int .u64 (hiW (y+q)),.int .u64 (loW (y+q))])/\Below u.heap.size u w':=by
 have i:IsI u (some ⟨b,0,none⟩) 1 (fun _=>q):=fun k hk=>by
  obtain rfl:k=0:=by omega
  exact⟨hq,b,0,rfl,lt_of_block h,aA 0 h⟩
 have:=mW (some ⟨b,0,none⟩) 1 1 (fun _=>q) y u (by omega) i
 rw[show sumN (fun _=>q) 1=q by show(0:Int)+q=q;omega]at this
 exact this
theorem own_low{B C:Nat}{v:Value}{l:List Int}{w:World}(h:Own B v l w)(hc:C<=B):Own C v l w:=by
 refine⟨h.1,?_⟩
 rcases h.2 with h0 | ⟨g,cap,cur,e,hb',hg,h1,h2,h3,h4⟩
 ·exact .inl h0
 ·exact .inr ⟨g,cap,cur,e,Nat.le_trans hc hb',hg,h1,h2,h3,h4⟩
theorem move_go(gb wb wo M cw fb fo N cf:Nat)(W F:Nat->Int)(L R sL sR:Nat->Nat)(Z:Nat->Nat->Int)(w:World)(hM:M<=65536)(hN:N<=65536)
  (CE:Hid (∀v,Ab w v->Calls prog 7 #[.pointer (some ⟨gb,0,none⟩)] v fun e w'=>e=.returned (.int .i64 (M:Nat))/\w'=v))
  (ED:Hid (∀v,Ab w v->Calls prog 8 #[.pointer (some ⟨gb,0,none⟩)] v fun e w'=>e=.returned (.int .i64 (N:Nat))/\w'=v))
  (EG:Hid (∀k:Nat,k<N-> ∀v,Ab w v->Calls prog 10 #[.pointer (some ⟨gb,0,none⟩),.int .i64 (k:Nat)] v fun e w'=>e=.returned (.tuple #[.agg #[.int .i64 (L k:Nat),.int .i64 (sL k:Nat),.int .i64 (R k:Nat),.int .i64 (sR k:Nat)],.bool true])/\Below v.heap.size v w'))
  (IW:Hid (IsI w (some ⟨wb,wo,none⟩) M W)) (IF:Hid (IsI w (some ⟨fb,fo,none⟩) N F))
  (LR:Hid (∀k,k<N->L k<M/\R k<M/\L k≠R k))
  (Z0:Hid (∀c,c<M->Z 0 c=W c))
  (ZS:Hid (∀k,k<N-> ∀c,c<M->Z (k+1) c=if c=L k then Z k c - F k else if c=R k then Z k c+F k else Z k c))
  (ZB:Hid (∀c,c<M-> -170141183460469231731687303715884105728<=Z N c/\Z N c<170141183460469231731687303715884105728)):
  Calls prog 45 #[.pointer (some ⟨gb,0,none⟩),.slice (some ⟨wb,wo,none⟩) M cw,.slice (some ⟨fb,fo,none⟩) N cf] w fun e w'=>Below w.heap.size w w'/\(((∀k,k<M->gd (Z N k))/\ ∃v,e=.returned (.tuple #[v,.int .i64 0])/\Own w.heap.size v ((List.range M).map (Z N)) w')\/((¬ ∀k,k<M->gd (Z N k))/\e=.returned (.tuple #[.slice none 0 0,.int .i64 20]))):=by
 obtain⟨i0,hi,hz0,hz1,hz2⟩:=info_parts infoW
 have MK:=run_make (P:=prog) w 133 135 i0 (.agg #[.int .u64 0,.int .u64 0]) underlying133 hi hz0 .i64 .i64 M M (by omega) (Int.le_refl _) (by rw[hz2];omega) (by omega)
 rw[hz1]at MK
 simp only[Int.toNat_natCast]at MK
 have e0:(Value.agg #[.int .u64 0,.int .u64 0]).cells= #[.int .u64 0,.int .u64 0]:=rfl
 rw[e0]at MK
 clear hi hz0 hz1 hz2 e0
 have MB:=hid hM
 have NB:=hid hN
 clear hM hN
 obtain⟨ob,hob⟩:=aB w.heap.size
 have RW:Hid (SumsAt (w.alloc (.cells (madeCells #[.int .u64 0,.int .u64 0] (M*2)) 135)) ob M (fun _=>0)):=by rw[<- hob];exact made_w _ _
 have A0:Hid (Ab w (w.alloc (.cells (madeCells #[.int .u64 0,.int .u64 0] (M*2)) 135))):=bl1 w _
 have HO:Hid (w.heap.size<=ob):=Nat.le_of_eq hob
 generalize w.alloc (.cells (madeCells #[.int .u64 0,.int .u64 0] (M*2)) 135)=wm at*
 go_enter func45,ntmps45
 go_wp2_with fail
 refine(CE.out _ (Ab.refl _)).mono ?_
 rintro e9 v9 ⟨rfl,hv9⟩
 have hv8:=hv9.symm
 subst hv8
 go_wp2_with fail
 refine(ED.out _ (Ab.refl _)).mono ?_
 rintro e9 v9 ⟨rfl,hv9⟩
 have hv8:=hv9.symm
 subst hv8
 go_wp2
 clear MK hob CE ED
 go_loopw [34] (fun iv wr=> ∃k:Nat,k<=M/\iv=.int .i64 (k:Nat)/\Ab w wr/\SumsAt wr ob M (fun c=>if c<k then W c else 0)) (fun iv _=>M - (intOf iv).toNat)
 case atStart=>exact⟨0,by omega,rfl,A0.out,RW.out.congr (fun i _=>by simp)⟩
 case round=>
  obtain⟨k,hk,rfl,a1,r1⟩:=hrel
  have AR:=hid a1
  have RR:=hid r1
  clear a1 r1 A0 RW
  by_cases hkm:k<M
  ·have HK:=hid hkm
   have kI:(k:Int)<M:=by omega
   have kB:(k:Int)<=65536:=by have:=MB.out;omega
   obtain⟨hq,-,hc⟩:=(IW.out.below AR.out).at0 hkm
   have x0:=RR.out.c0 hkm
   have x1:=RR.out.c1 hkm
   rw[if_neg (by omega)]at x0 x1
   obtain⟨q,hx⟩:=aB (W k)
   rw[hx]at hq hc
   have C:=hid (Az wr.heap.size 0 q (wr.alloc (.cells #[.int .i64 q] 2)) hq (heap_alloc_new _ _))
   rw[Int.zero_add]at C
   have HX:=hid hx
   clear hx hkm hk
   have y1:=dX q
   have y2:=fF q
   have e1:hiW 0=0:=rfl
   have e2:loW 0=0:=rfl
   rw[e1]at x0 C
   rw[e2]at x1 C
   go_wp2_with fail
   refine C.out.mono ?_
   rintro e9 v1 ⟨rfl,b1⟩
   have A1:Hid (Ab w v1):=((AR.out:Ab w wr).trans (bl1 wr _)).call b1
   have R1:=hid ((RR.out.to (bl1 wr _)).to b1)
   have f0:=R1.out.c0 HK.out
   have f1:=R1.out.c1 HK.out
   have z0:=R1.out.frz (k*2)
   have z1:=R1.out.frz (k*2+1)
   clear b1 C x0 x1 AR RR e1 e2
   go_wp2
   refine⟨⟨k+1,by have:=HK.out;omega,by simp,Ab.setk (Ab.setk A1.out HO.out _) HO.out _,(R1.out.put (c:=k) q).congr (fun i _=> ?_)⟩,by have:=HK.out;simp[intOf];omega⟩
   unfold updX
   by_cases e:i=k
   ·subst e;simp[HX.out]
   ·have e3:(i<k+1) ↔ i<k:=by omega
    simp[e,e3]
  ·obtain rfl:k=M:=by omega
   have RZ:Hid (SumsAt wr ob k (Z 0)):=RR.out.congr (fun c hc=>by rw[if_pos hc,Z0.out c hc])
   clear RR
   go_wp2
   go_loopw [52] (fun iv wr=> ∃j:Nat,j<=N/\iv=.int .i64 (j:Nat)/\Ab w wr/\SumsAt wr ob k (Z j)) (fun iv _=>N - (intOf iv).toNat)
   case atStart=>exact⟨0,by omega,rfl,AR.out,RZ.out⟩
   case round=>
    obtain⟨j,hj,rfl,a1,r1⟩:=hrel
    have AS:=hid a1
    have RS:=hid r1
    clear a1 r1 RZ AR
    by_cases hjn:j<N
    ·have HJ:=hid hjn
     have jI:(j:Int)<N:=by omega
     have jB:(j:Int)<=65536:=by have:=NB.out;omega
     obtain⟨hq,-,hc⟩:=(IF.out.below AS.out).at0 hjn
     obtain⟨l1,l2,l3⟩:=LR.out j hjn
     have CG:=hid (EG.out j hjn wr AS.out)
     have ZN:=hid (ZS.out j hjn)
     obtain⟨q,hx⟩:=aB (F j)
     rw[hx]at hq hc ZN
     generalize L j=lc at*
     generalize R j=rc at*
     generalize sL j=sl at*
     generalize sR j=sr at*
     have LC:=hid l1
     have RC:=hid l2
     have NE:=hid l3
     have lI:(lc:Int)<k:=by omega
     have rI:(rc:Int)<k:=by omega
     have kB:(k:Int)<=65536:=by have:=MB.out;omega
     have HQ:Hid (W64 q):=hq
     clear hx hjn hj l1 l2 l3
     go_wp2_with fail
     refine CG.out.mono ?_
     rintro e9 v1 ⟨rfl,b1⟩
     have A1:Hid (Ab w v1):=(AS.out:Ab w wr).call b1
     have R1:=hid (RS.out.to b1)
     clear b1 CG AS RS hc
     go_wp2_with fail
     obtain⟨V,hV⟩:=aB (v1.alloc (.cells #[.int .i64 (lc:Nat),.int .i64 (sl:Nat),.int .i64 (rc:Nat),.int .i64 (sr:Nat)] 30))
     rw[hV]
     obtain⟨eb,heb⟩:=aB v1.heap.size
     have EB:Hid (V.heap[eb]? =some (.cells #[.int .i64 (lc:Nat),.int .i64 (sl:Nat),.int .i64 (rc:Nat),.int .i64 (sr:Nat)] 30)):=by rw[<- hV,<- heb];exact heap_alloc_new _ _
     have AV:Hid (Ab w V):=by rw[<- hV];exact(A1.out:Ab w v1).trans (bl1 v1 _)
     have RV:Hid (SumsAt V ob k (Z j)):=by rw[<- hV];exact R1.out.to (bl1 v1 _)
     have NEB:Hid (ob≠eb):=by have:=World.rowIs.lt R1.out;show _≠_;omega
     rw[heb]
     clear hV heb A1 R1
     obtain⟨y,hy⟩:=aB (Z j lc)
     have HY:=hid hy
     have CM:=hid (fun u=>nL y q u HQ.out)
     obtain⟨UU,E,hF1,hF2⟩:=cls V
     have HU:=hid hF2
     have HU1:=hid hF1
     have x0: ∀u,(E u).cell? ⟨eb,0,none⟩=some (.int .i64 (lc:Nat)):=fun u=>aA 0 ((hF1 u).heap EB.out)
     have x1: ∀u,(E u).cell? ⟨ob,lc*2,none⟩=some (.int .u64 (hiW y)):=fun u=>by rw[<- hy];exact(RV.out.to (hF1 u)).c0 LC.out
     have x2: ∀u,(E u).cell? ⟨ob,lc*2+1,none⟩=some (.int .u64 (loW y)):=fun u=>by rw[<- hy];exact(RV.out.to (hF1 u)).c1 LC.out
     have DD0:=HU.out _ (Ab.refl V).drew
     have y1:=dX y
     have y2:=fF y
     have y3:=dX (y - q)
     have y4:=fF (y - q)
     clear hF1 hF2 hy
     refine cS 11 E (by kernel_rfl) (by kernel_rfl) (by kernel_rfl) DD0 ?_
     simp only[List.take_succ_cons,List.take_zero,List.drop_succ_cons,List.drop_zero]
     repeat(go_big_quiet_step (first
      | (with_reducible rfl)
      | (go_at_call 78;exact aH HU HU1 (CM.out _))))
     refine wpQuiet_nil ?_
     intro vz hwz
     obtain⟨u0,hu⟩:=hwz
     have AZ:Hid (Ab V vz):=by rw[hu];exact HU1.out u0
     clear hu u0
     clear HU HU1 DD0 x0 x1 x2
     clear E UU
     have RZ:=hid (RV.out.to AZ.out)
     have EZ:=hid (Ab.heap AZ.out EB.out)
     have AW:Hid (Ab w vz):=(AV.out:Ab w V).trans AZ.out
     have f0:=RZ.out.c0 LC.out
     have f1:=RZ.out.c1 LC.out
     have z0:=RZ.out.frz (lc*2)
     have z1:=RZ.out.frz (lc*2+1)
     clear RV EB AV AZ
     go_wp2_with fail
     have R2:Hid (SumsAt ((vz.setCell ⟨ob,lc*2,none⟩ (.int .u64 (hiW (y - q)))).setCell ⟨ob,lc*2+1,none⟩ (.int .u64 (loW (y - q)))) ob k (updX (Z j) lc (y - q))):=RZ.out.put (y - q)
     have A2:Hid (Ab w ((vz.setCell ⟨ob,lc*2,none⟩ (.int .u64 (hiW (y - q)))).setCell ⟨ob,lc*2+1,none⟩ (.int .u64 (loW (y - q))))):=Ab.setk (Ab.setk AW.out HO.out _) HO.out _
     have E2:Hid (((vz.setCell ⟨ob,lc*2,none⟩ (.int .u64 (hiW (y - q)))).setCell ⟨ob,lc*2+1,none⟩ (.int .u64 (loW (y - q)))).heap[eb]? =some (.cells #[.int .i64 (lc:Nat),.int .i64 (sl:Nat),.int .i64 (rc:Nat),.int .i64 (sr:Nat)] 30)):=by
      show _=_
      rw[Below.heap_setCell _ _ _ _ (fun e=>NEB.out e.symm),Below.heap_setCell _ _ _ _ (fun e=>NEB.out e.symm)]
      exact EZ.out
     generalize(vz.setCell ⟨ob,lc*2,none⟩ (.int .u64 (hiW (y - q)))).setCell ⟨ob,lc*2+1,none⟩ (.int .u64 (loW (y - q)))=V2 at*
     clear RZ EZ AW f0 f1 z0 z1 CM
     have e3:updX (Z j) lc (y - q) rc=Z j rc:=by unfold updX;rw[if_neg (fun e=>NE.out e.symm)]
     obtain⟨p,hp⟩:=aB (Z j rc)
     rw[hp]at e3
     have CP:Hid (Calls prog 77 #[.agg #[.int .u64 (hiW p),.int .u64 (loW p)],.slice (some ⟨V2.heap.size,0,none⟩) 1 1] (V2.alloc (.cells #[.int .i64 q] 2)).drew fun e w'=>e=.returned (.agg #[.int .u64 (hiW (p+q)),.int .u64 (loW (p+q))])/\Ab V2 w'):=
      (Az V2.heap.size p q (V2.alloc (.cells #[.int .i64 q] 2)).drew HQ.out (heap_alloc_new V2 _)).mono (fun _ _ h=>⟨h.1,Ab.call (Ab.drew (bl1 V2 _)) h.2⟩)
     have x0:=aA 2 E2.out
     have x1:=R2.out.c0 RC.out
     have x2:=R2.out.c1 RC.out
     rw[e3]at x1 x2
     have HP:=hid hp
     have y1:=dX p
     have y2:=fF p
     have y3:=dX (p+q)
     have y4:=fF (p+q)
     have XE:Hid (∀u,Ab V2 u->u.cell? ⟨eb,2,none⟩=some (.int .i64 (rc:Nat))):=fun u hu=>aA 2 (hu.heap E2.out)
     have XS:Hid (∀u,Ab V2 u->SumsAt u ob k (updX (Z j) lc (y - q))):=fun u hu=>R2.out.to hu
     have XC:Hid (∀u,Ab V2 u->u.cell? ⟨ob,rc*2,none⟩=some (.int .u64 (hiW p))/\u.cell? ⟨ob,rc*2+1,none⟩=some (.int .u64 (loW p))/\u.frozen? ⟨ob,rc*2,none⟩=false/\u.frozen? ⟨ob,rc*2+1,none⟩=false):=fun u hu=>by
      have h:=XS.out u hu
      have h0:=h.c0 RC.out
      have h1:=h.c1 RC.out
      rw[e3]at h0 h1
      exact⟨h0,h1,h.frz _,h.frz _⟩
     have ol:ob<V2.heap.size:=World.rowIs.lt R2.out
     have el:eb<V2.heap.size:=lt_of_block E2.out
     have xa:=XC.out _ (bl1 V2 (.cells #[.int .i64 q] 2))
     have xb:=XE.out _ (bl1 V2 (.cells #[.int .i64 q] 2))
     have xa0:=xa.1
     have xa1:=xa.2.1
     have FIN:Hid (∀u1,Ab V2 u1->Ab w ((u1.setCell ⟨ob,rc*2,none⟩ (.int .u64 (hiW (p+q)))).setCell ⟨ob,rc*2+1,none⟩ (.int .u64 (loW (p+q))))/\SumsAt ((u1.setCell ⟨ob,rc*2,none⟩ (.int .u64 (hiW (p+q)))).setCell ⟨ob,rc*2+1,none⟩ (.int .u64 (loW (p+q)))) ob k (Z (j+1))):=fun u1 hu=>⟨Ab.setk (Ab.setk (Ab.trans A2.out hu) HO.out _) HO.out _,((XS.out u1 hu).put (c:=rc) (p+q)).congr (fun c hc=>by
      rw[ZN.out c hc]
      unfold updX
      by_cases c1:c=rc
      ·subst c1
       rw[if_pos rfl,if_neg (fun e=>NE.out e.symm),if_pos rfl,HP.out]
      ·rw[if_neg c1]
       by_cases c2:c=lc
       ·subst c2
        rw[if_pos rfl,if_pos rfl,HY.out]
       ·rw[if_neg c2,if_neg c2,if_neg c1])⟩
     clear hp xa e3 y1 y2
     go_region_with (go_at_call 77;refine CP.out.mono ?_;rintro e9 u1 ⟨rfl,b1⟩;have AU:Hid (Ab V2 u1):=b1;clear b1;have xe:=XE.out _ AU.out;have xc:=XC.out _ AU.out)
     all_goals
      go_wp2
      exact⟨⟨j+1,by have:=HJ.out;omega,by simp,(FIN.out _ AU.out).1,(FIN.out _ AU.out).2⟩,by have:=HJ.out;simp[intOf];omega⟩
    ·obtain rfl:j=N:=by omega
     have C:=hid (held_at ob k (Z j) wr MB.out RS.out ZB.out)
     go_wp2_with fail
     refine C.out.mono ?_
     rintro e9 v1 ⟨b1,⟨g1,v,rfl,o1⟩ | ⟨g1,rfl⟩⟩
     ·have A1:Hid (Ab w v1):=(AS.out:Ab w wr).call b1
      have G1:=hid g1
      have O1:=hid o1
      clear g1 o1 b1 C
      go_wp2
      go_ret2
      exact⟨A1.out,.inl ⟨G1.out,v,rfl,own_low O1.out (Below.size AS.out)⟩⟩
     ·have A1:Hid (Ab w v1):=(AS.out:Ab w wr).call b1
      have G1:=hid g1
      clear g1 b1 C
      go_wp2
      go_ret2
      exact⟨A1.out,.inr ⟨G1.out,rfl⟩⟩
end Ms
end
section
open Go.RowKit Go.Deep Cu
namespace Ms
open Sh
theorem move_bad(gb M N:Nat)(pw:Option Addr)(lw cw:Nat)(pf:Option Addr)(lf cf:Nat)(w:World)(h: ¬(lw=M/\lf=N))
  (CE:Hid (Calls prog 7 #[.pointer (some ⟨gb,0,none⟩)] w fun e w'=>e=.returned (.int .i64 (M:Nat))/\w'=w))
  (ED:Hid (Calls prog 8 #[.pointer (some ⟨gb,0,none⟩)] w fun e w'=>e=.returned (.int .i64 (N:Nat))/\w'=w)):
  Calls prog 45 #[.pointer (some ⟨gb,0,none⟩),.slice pw lw cw,.slice pf lf cf] w fun e w'=>e=.returned (.tuple #[.slice none 0 0,.int .i64 1])/\Below w.heap.size w w':=by
 by_cases c1:lw=M
 ·have d2:((lf:Int) != (N:Int))=true:=by simp;omega
  subst c1
  clear h
  go_enter func45,ntmps45
  go_wp2_with fail
  refine CE.out.mono ?_
  rintro e9 v9 ⟨rfl,hv9⟩
  have hv8:=hv9.symm
  subst hv8
  go_wp2_with fail
  refine ED.out.mono ?_
  rintro e9 v9 ⟨rfl,hv9⟩
  have hv8:=hv9.symm
  subst hv8
  go_wp2
  go_ret2
  exact⟨rfl,Below.refl _ _⟩
 ·have d1:((lw:Int) != (M:Int))=true:=by simp;omega
  clear h c1
  go_enter func45,ntmps45
  go_wp2_with fail
  refine CE.out.mono ?_
  rintro e9 v9 ⟨rfl,hv9⟩
  have hv8:=hv9.symm
  subst hv8
  go_wp2
  go_ret2
  exact⟨rfl,Below.refl _ _⟩
theorem mv_in{n c:Nat}{W F:Nat->Int}(hn:1<=n)(hc:c<6*n*n)(hW: ∀k,k<6*n*n->W64 (W k))(hF: ∀k,k<12*n*n->W64 (F k)): -170141183460469231731687303715884105728<=mv n W F c/\mv n W F c<170141183460469231731687303715884105728:=by
 have hw:=hW c hc
 have ht: ∀s,s<4-> -9223372036854775808<=tk n F (4*c+s)/\tk n F (4*c+s)<=9223372036854775808:=fun s hs=>by
  have h:=hF _ (eD hn (eK hc hs))
  unfold W64 at h
  unfold tk eS
  split<;>omega
 have t0:=ht 0 (by omega)
 have t1:=ht 1 (by omega)
 have t2:=ht 2 (by omega)
 have t3:=ht 3 (by omega)
 unfold W64 at hw
 show _<=W c - (0+tk n F (4*c+0)+tk n F (4*c+1)+tk n F (4*c+2)+tk n F (4*c+3))/\W c - (0+tk n F (4*c+0)+tk n F (4*c+1)+tk n F (4*c+2)+tk n F (4*c+3))<_
 omega
theorem n6_pos{n:Nat}(hn:1<=n):0<6*n*n:=Nat.mul_pos (Nat.mul_pos (by omega) hn) hn
theorem n12_pos{n:Nat}(hn:1<=n):0<12*n*n:=Nat.mul_pos (Nat.mul_pos (by omega) hn) hn
theorem AF(n gb:Nat)(pw:Option Addr)(cw:Nat)(W:Nat->Int)(pf:Option Addr)(cf:Nat)(F:Nat->Int)(w:World)(hn:1<=n/\n<=32)(g:GridOf n gb w)(iW:IsI w pw (6*n*n) W)(iF:IsI w pf (12*n*n) F):
  Calls prog 45 #[.pointer (some ⟨gb,0,none⟩),.slice pw (6*n*n) cw,.slice pf (12*n*n) cf] w fun e w'=>Below w.heap.size w w'/\((can n W F/\ ∃v,e=.returned (.tuple #[v,.int .i64 0])/\Own w.heap.size v ((List.range (6*n*n)).map (mv n W F)) w')\/((¬can n W F)/\e=.returned (.tuple #[.slice none 0 0,.int .i64 20]))):=by
 obtain⟨h1,h2⟩:=n12 hn
 obtain⟨wb,wo,rfl⟩:=iW.some0 (n6_pos hn.1)
 obtain⟨fb,fo,rfl⟩:=iF.some0 (n12_pos hn.1)
 have hM:6*n*n<=65536:=by
    have:12*n*n=2*(6*n*n):=by rw[show 12=2*6 from rfl,Nat.mul_assoc 2 6 n,Nat.mul_assoc 2 (6*n) n]
    omega
 have LR: ∀k,k<12*n*n->edT n k/4<6*n*n/\mt n (edT n k)/4<6*n*n/\edT n k/4≠mt n (edT n k)/4:=fun k hk=>by
  obtain⟨t1,t2,t3⟩:=bI hn.1 hk
  have:=Eh hn.1 hk
  exact⟨aN t1,aN (cQ hn.1 t1),by omega⟩
 refine(move_go gb wb wo (6*n*n) cw fb fo (12*n*n) cf W F (fun k=>edT n k/4) (fun k=>mt n (edT n k)/4) (fun k=>edT n k%4) (fun k=>mt n (edT n k)%4) (fun k c=>mv n W (upF k F) c) w hM (by omega)
  (fun v hv=>eU (g.to hv)) (fun v hv=>cG (g.to hv)) (fun k hk v hv=> ?_) iW iF LR (fun c hc=>mv_nil W F hn.1 hc) (fun k hk c hc=>mv_up W F hn.1 hk hc) (fun c hc=> ?_)).mono ?_
 ·obtain⟨t1,t2,t3⟩:=bI hn.1 hk
  have e:=jH hn t1 t2 (g.to hv)
  rw[t3,<- (gF hn.1 t1).1,<- (gF hn.1 t1).2]at e
  exact e
 ·rw[xS W F hn.1 hc]
  exact mv_in hn.1 hc (fun k hk=>(iW k hk).1) (fun k hk=>(iF k hk).1)
 ·have el:(List.range (6*n*n)).map (fun c=>mv n W (upF (12*n*n) F) c)=(List.range (6*n*n)).map (mv n W F):=List.map_congr_left fun c hc=>xS W F hn.1 (List.mem_range.1 hc)
  have ec:(∀k,k<6*n*n->gd (mv n W (upF (12*n*n) F) k)) ↔ can n W F:=
   ⟨fun h c hc=>by have:=h c hc;rw[xS W F hn.1 hc]at this;exact this,fun h c hc=>by rw[xS W F hn.1 hc];exact h c hc⟩
  rintro e w' ⟨b1,⟨h3,v,rfl,o⟩ | ⟨h3,rfl⟩⟩
  ·exact⟨b1,.inl ⟨ec.1 h3,v,rfl,by rw[<- el];exact o⟩⟩
  ·exact⟨b1,.inr ⟨fun h=>h3 (ec.2 h),rfl⟩⟩
theorem moveC:MoveC:=by
 intro n gb pw lw cw W pf lf cf F w hn g _ _ iW iF
 refine⟨?_,?_,?_⟩
 ·rintro⟨rfl,rfl⟩ hc
  refine(AF n gb pw cw W pf cf F w hn g iW iF).mono ?_
  rintro e w' ⟨b1,⟨_,v,rfl,o⟩ | ⟨h3,_⟩⟩
  ·exact⟨v,rfl,b1,o⟩
  ·exact absurd hc h3
 ·rintro⟨rfl,rfl⟩ hc
  refine(AF n gb pw cw W pf cf F w hn g iW iF).mono ?_
  rintro e w' ⟨b1,⟨h3,_⟩ | ⟨_,rfl⟩⟩
  ·exact absurd h3 hc
  ·exact⟨rfl,b1⟩
 ·intro h
  exact move_bad gb (6*n*n) (12*n*n) pw lw cw pf lf cf w h (eU g) (cG g)
end Ms
end
section
open Go.RowKit Go.Deep
namespace Rn
open Sh
theorem GS(w:World)(a:Option Addr)(n c:Nat):(binOp .eql 46 (.slice a n c) (.slice none 0 0)).run prog w=.ok (.bool a.isNone) w:=Lib.run_eql_slice_nil w _ _ a n c 0 0 underlying46
attribute [local go_sem] GS
theorem tV{ops:Array Oper}{rest:List Oper}{o:Oper}{a:Act}{w:World}{Q:Exit->Act->World->Prop}(hgd:o.guard=none)(s x:Operand)
  (ho:o.op=.call {callee:=.builtin .append,args:= #[s,x],argTypes:= #[46,46]})
  (g:Nat) (hs:a.eval s=.slice (some ⟨g,0,none⟩) 0 0) (src:Value) (hx:a.eval x=src) (hsrc:Src prog 1 46 src 0 [] w)
  (h:wpList prog ops Q rest (a.put o.dst (.slice (some ⟨g,0,none⟩) 0 0)) w):wpList prog ops Q (o :: rest) a w:=by
 obtain⟨i0,hi,hz0,hz1,hz2⟩:=xH
 refine wpList_plain hgd fun _ hK=> ?_
 have hr:=run_append_room_src (P:=prog) w 46 46 o.type 2 i0 underlying46 hi g 0 0 0 src 0 [] (by rw[hz1];exact hsrc) (Nat.le_refl _) (fun j hj=>absurd hj (Nat.not_lt_zero j)) (fun j hj=>absurd hj (Nat.not_lt_zero j))
 unfold Oper.wp execOp
 simp only[ho,resolve,invoke,builtin,Sem.run_bind,Sem.run_pure,Result.andThen_ok,List.map_toArray,List.map_cons,List.map_nil,hs,hx,hr]
 exact hK _ _ h
theorem GU{w:World}{b o N:Nat}{D:Nat->Int}(h:IsI w (some ⟨b,o,none⟩) N D): ∀j u,(((List.range N).map D).map (Value.int .i64))[j]? =some u->w.cell? ((⟨b,o,none⟩:Addr).add j)=some u:=fun j u hu=>by
 have hj:j<N:=by
  rcases Nat.lt_or_ge j N with h1 | h1
  ·exact h1
  ·rw[List.getElem?_eq_none (by simpa using h1)]at hu;cases hu
 simp[hj]at hu
 rw[lU,<- hu]
 exact(h.at0 hj).2.2
theorem xT(n c:Nat)(w:World):Calls prog 83 #[.slice none n c] w fun e w'=>e=.returned (.slice none 0 0)/\w'=w:=by
 go_enter func83,ntmps83
 go_wp2
 go_ret
 exact⟨rfl,rfl⟩
theorem xU(p:Addr)(c:Nat)(f:Nat->Int)(w:World):Calls prog 83 #[.slice (some p) 0 c] w fun e w'=>e=.returned (.slice (some ⟨w.heap.size,0,none⟩) 0 0)/\w'=w.alloc (.cells #[] 2):=by
 have SR:=hid (src_in (IsI.nil (w.alloc (.cells #[] 2)) (some p) f) c)
 go_enter func83,ntmps83
 go_wp2_with (first
  | (at_builtin;refine tV rfl (.tmp 5) (.tmp 6) rfl w.heap.size rfl (.slice (some p) 0 c) rfl SR.out ?_))
 go_ret
 exact⟨rfl,rfl⟩
theorem Da(b o n c:Nat)(f:Nat->Int)(w:World)(h0:0<n)(hn:n<=17592186044416)(hf:IsI w (some ⟨b,o,none⟩) n f):Calls prog 83 #[.slice (some ⟨b,o,none⟩) n c] w fun e w'=> ∃v,e=.returned v/\Below w.heap.size w w'/\Own w.heap.size v ((List.range n).map f) w':=by
 have O2:=hid (qQ w w.heap.size (Nat.le_refl _))
 have N1:=hid (GU (hf.below (bl1 w (.cells #[] 2))))
 have LS:Hid (w.heap.size<=(w.alloc (.cells #[] 2)).heap.size):=by show _<=_;simp
 have H0:=hid h0
 have HN:=hid hn
 clear hf h0 hn
 go_enter func83,ntmps83
 go_wp2_with (first
  | (at_builtin;refine xL rfl (.tmp 5) (.tmp 6) rfl w.heap.size (.slice (some ⟨w.heap.size,0,none⟩) 0 0) [] rfl O2.out ⟨b,o,none⟩ n c ((List.range n).map f) rfl (by simp) N1.out H0.out (by have:=HN.out;simp;omega) LS.out n (by simp) ?_;intro g1 c1 w1 o1 x1 y1 _;have O1:=hid o1;have X1:=hid x1;clear o1 x1 y1))
 go_ret
 refine⟨_,rfl,Below.grown (bl1 w _:Below _ _ _) X1.out LS.out (fun k hk=>(World.ownsRow.lt O2.out k hk).1),?_⟩
 have h:=O1.out
 rw[List.nil_append]at h
 exact h
theorem tL(p:Option Addr)(n c:Nat)(f:Nat->Int)(w:World)(hn:n<=17592186044416)(hf:IsI w p n f):Calls prog 83 #[.slice p n c] w fun e w'=> ∃v,e=.returned v/\Below w.heap.size w w'/\Own w.heap.size v ((List.range n).map f) w':=by
 rcases Nat.eq_zero_or_pos n with h0 | h0
 ·subst h0
  cases p with
  | none=>
   refine(xT 0 c w).mono ?_
   rintro e w' ⟨rfl,rfl⟩
   exact⟨_,rfl,Below.refl _ _,Own.new _ _⟩
  | some a=>
   refine(xU a c f w).mono ?_
   rintro e w' ⟨rfl,rfl⟩
   exact⟨_,rfl,bl1 _ _,qQ w w.heap.size (Nat.le_refl _)⟩
 ·obtain⟨b,o,rfl⟩:=hf.some0 h0
  exact Da b o n c f w h0 hn hf
end Rn
end
section
open Go.RowKit Go.Deep
namespace Rn
open Sh
def jW(gs gh gm og oc lw:Nat)(Tm:TypeId)(sk:Int)(X:Nat->Int)(v:World):Prop:=
 v.heap[gs]? =some (.cells #[.int .i64 sk] 2)/\v.heap[gh]? =some (.cells #[.slice (some ⟨og,0,none⟩) lw oc] 46)/\
 v.heap[gm]? =some (.cells #[.func (.func 84) #[] #[.pointer (some ⟨gh,0,none⟩),.pointer (some ⟨gs,0,none⟩)]] Tm)/\ ∃F,v.rowIs og 2 oc F/\ ∀i,i<lw->F i=.int .i64 (X i)
def AG(gs gh gm og:Nat):Prop:=gs≠gh/\gs≠gm/\gs≠og/\gh≠og/\gm≠og
def oB(gs og k:Nat)(y z:Int)(v:World):World:=(v.setCell ⟨og,k,none⟩ (.int .i64 y)).setCell ⟨gs,0,none⟩ (.int .i64 z)
theorem jW.to{gs gh gm og oc lw:Nat}{Tm:TypeId}{sk:Int}{X:Nat->Int}{v v':World}(h:jW gs gh gm og oc lw Tm sk X v)(a:Ab v v'):jW gs gh gm og oc lw Tm sk X v':=by
 obtain⟨h1,h2,h3,F,h4,h5⟩:=h
 exact⟨a.heap h1,a.heap h2,a.heap h3,F,cX h4 a,h5⟩
theorem jW.cell{gs gh gm og oc lw:Nat}{Tm:TypeId}{sk:Int}{X:Nat->Int}{v:World}(h:jW gs gh gm og oc lw Tm sk X v)(hc:lw<=oc){k:Nat}(hk:k<lw):v.cell? ⟨og,k,none⟩=some (.int .i64 (X k))/\v.frozen? ⟨og,k,none⟩=false:=by
 obtain⟨-,-,-,F,h4,h5⟩:=h
 exact⟨by rw[<- h5 k hk];exact h4.cell (by omega),h4.frozen k⟩
theorem jW.mov{gs gh gm og oc lw:Nat}{Tm:TypeId}{sk:Int}{X:Nat->Int}{v:World}(h:jW gs gh gm og oc lw Tm sk X v)(d:AG gs gh gm og)(k:Nat)(y z:Int):jW gs gh gm og oc lw Tm z (fun i=>if i=k then y else X i) (oB gs og k y z v):=by
 obtain⟨h1,h2,h3,F,h4,h5⟩:=h
 obtain⟨d1,d2,d3,d4,d5⟩:=d
 unfold oB
 refine⟨?_,?_,?_,_,(h4.set k (.int .i64 y)).setOther (a:=⟨gs,0,none⟩) (fun e=>d3 e.symm) _,fun i hi=> ?_⟩
 ·have:=aI (k:=0) (v:=.int .i64 z) ((Below.heap_setCell v ⟨og,k,none⟩ (.int .i64 y) gs d3).trans h1)
  simpa using this
 ·exact(Below.heap_setCell _ ⟨gs,0,none⟩ _ gh (fun e=>d1 e.symm)).trans ((Below.heap_setCell v ⟨og,k,none⟩ _ gh d4).trans h2)
 ·exact(Below.heap_setCell _ ⟨gs,0,none⟩ _ gm (fun e=>d2 e.symm)).trans ((Below.heap_setCell v ⟨og,k,none⟩ _ gm d5).trans h3)
 ·dsimp only
  by_cases e:i=k
  ·rw[if_pos e,if_pos e]
  ·rw[if_neg e,if_neg e,h5 i hi]
theorem jW.congr{gs gh gm og oc lw:Nat}{Tm:TypeId}{sk:Int}{X Y:Nat->Int}{v:World}(h:jW gs gh gm og oc lw Tm sk X v)(e: ∀i,i<lw->X i=Y i):jW gs gh gm og oc lw Tm sk Y v:=by
 obtain⟨h1,h2,h3,F,h4,h5⟩:=h
 exact⟨h1,h2,h3,F,h4,fun i hi=>by rw[h5 i hi,e i hi]⟩
theorem mov_ab{w v:World}{gs og k:Nat}{y z:Int}(a:Ab w v)(h1:w.heap.size<=gs)(h2:w.heap.size<=og):Ab w (oB gs og k y z v):=(a.setk h2 _).setk h1 _
theorem move18(gs gh gm og oc lw k:Nat)(Tm:TypeId)(sk x d:Int)(X:Nat->Int)(v:World)(h:jW gs gh gm og oc lw Tm sk X v)(di:AG gs gh gm og)(hc:lw<=oc)(hl:lw<=17592186044416)(hk:k<lw)(hx:X k=x)
  (y1: -9223372036854775808<=x+d) (y2:x+d<=9223372036854775807) (z1: -9223372036854775808<=sk - d) (z2:sk - d<=9223372036854775807):
  Calls prog 84 #[.int .i64 (k:Nat),.int .i64 d,.pointer (some ⟨gh,0,none⟩),.pointer (some ⟨gs,0,none⟩)] v fun e v'=>e=.returned (.tuple #[])/\v'=oB gs og k (x+d) (sk - d) v:=by
 have kI:(k:Int)<lw:=by omega
 have kB:(k:Int)<=17592186044416:=by omega
 obtain⟨c1,f1⟩:=h.cell hc hk
 rw[hx]at c1
 have c2:=aA 0 h.2.1
 have h2:(v.setCell ⟨og,k,none⟩ (.int .i64 (x+d))).heap[gs]? =some (.cells #[.int .i64 sk] 2):=(Below.heap_setCell v ⟨og,k,none⟩ _ gs di.2.2.1).trans h.1
 have c3:=aA 0 h2
 have f3:=aE h2 0
 clear h2 h di hc hl hk hx
 unfold oB
 go_enter func84,ntmps84
 go_wp2
 go_end0
 exact⟨rfl,rfl⟩
theorem fall18(gs gh gm og oc lw k:Nat)(Tm:TypeId)(sk x d r2 r3 r4:Int)(X:Nat->Int)(v:World)(h:jW gs gh gm og oc lw Tm sk X v)(di:AG gs gh gm og)(hc:lw<=oc)(hl:lw<=17592186044416)(hk:k<lw)(hx:X k=x)(hd:(if sk<r2 then sk else r2)=d)
  (y1: -9223372036854775808<=x+d) (y2:x+d<=9223372036854775807) (z1: -9223372036854775808<=sk - d) (z2:sk - d<=9223372036854775807):
  Calls prog 85 #[.agg #[.int .i64 (k:Nat),.int .i64 r2,.int .i64 r3,.int .i64 r4],.pointer (some ⟨gm,0,none⟩),.pointer (some ⟨gs,0,none⟩)] v fun e v'=>e=.returned (.tuple #[])/\ ∃u,Ab v u/\v'=oB gs og k (x+d) (sk - d) u:=by
 obtain⟨A0,R0⟩:=aO v (.cells #[.int .i64 (k:Nat),.int .i64 r2,.int .i64 r3,.int .i64 r4] 145)
 have HM: ∀(ts:Array TypeId) (t:TypeId) (w:World),(Builtin.min_ ts t #[.int .i64 r2,.int .i64 sk]).run prog w=.ok (.int .i64 d) w:=fun ts t w=>by rw[<- hd];exact run_min_int2 w ts t _ _ r2 sk
 have HA:=hid (h.to A0.out)
 have CM:Hid (∀u,jW gs gh gm og oc lw Tm sk X u->Calls prog 84 #[.int .i64 (k:Nat),.int .i64 d,.pointer (some ⟨gh,0,none⟩),.pointer (some ⟨gs,0,none⟩)] u fun e v'=>e=.returned (.tuple #[])/\v'=oB gs og k (x+d) (sk - d) u):=fun u hu=>move18 gs gh gm og oc lw k Tm sk x d X u hu di hc hl hk hx y1 y2 z1 z2
 clear h di hc hl hk hx hd y1 y2 z1 z2
 go_enter func85,ntmps85
 go_upto_region 1 with fail
 generalize hW:World.alloc v _=V0 at*
 obtain⟨gw,hgw⟩:=aB v.heap.size
 rw[hgw]at R0 ⊢
 clear hgw hW
 have x0:=aA 0 R0.out
 have x1:=aA 1 R0.out
 have x2:=aA 0 HA.out.1
 have x3:=aA 0 HA.out.2.2.1
 have CV:=hid (CM.out V0 HA.out)
 go_wp2_with fail
 refine CV.out.mono ?_
 rintro e9 v9 ⟨rfl,hv9⟩
 have H9:=hid hv9
 clear hv9
 go_wp2
 go_end0
 exact⟨rfl,V0,A0.out,H9.out⟩
theorem up18(gs gh gm og oc lw k:Nat)(Tm:TypeId)(sk x d r2 r3 r4:Int)(X:Nat->Int)(v:World)(h:jW gs gh gm og oc lw Tm sk X v)(di:AG gs gh gm og)(hc:lw<=oc)(hl:lw<=17592186044416)(hk:k<lw)(hx:X k=x)(hd:(if x< -r2 then x else -r2)=d)(n1: -9223372036854775808<= -r2)(n2: -r2<=9223372036854775807)(d1: -9223372036854775808<= -d)(d2: -d<=9223372036854775807)
  (y1: -9223372036854775808<=x+ -d) (y2:x+ -d<=9223372036854775807) (z1: -9223372036854775808<=sk - -d) (z2:sk - -d<=9223372036854775807):
  Calls prog 86 #[.agg #[.int .i64 (k:Nat),.int .i64 r2,.int .i64 r3,.int .i64 r4],.pointer (some ⟨gm,0,none⟩),.pointer (some ⟨gh,0,none⟩)] v fun e v'=>e=.returned (.tuple #[])/\ ∃u,Ab v u/\v'=oB gs og k (x+ -d) (sk - -d) u:=by
 have kI:(k:Int)<lw:=by omega
 have kB:(k:Int)<=17592186044416:=by omega
 obtain⟨A0,R0⟩:=aO v (.cells #[.int .i64 (k:Nat),.int .i64 r2,.int .i64 r3,.int .i64 r4] 145)
 have HM: ∀(ts:Array TypeId) (t:TypeId) (w:World),(Builtin.min_ ts t #[.int .i64 (-r2),.int .i64 x]).run prog w=.ok (.int .i64 d) w:=fun ts t w=>by rw[<- hd];exact run_min_int2 w ts t _ _ (-r2) x
 have HA:=hid (h.to A0.out)
 have XC:Hid (∀u,jW gs gh gm og oc lw Tm sk X u->u.cell? ⟨og,k,none⟩=some (.int .i64 x)):=fun u hu=>by rw[<- hx];exact(hu.cell hc hk).1
 have CM:Hid (∀u,jW gs gh gm og oc lw Tm sk X u->Calls prog 84 #[.int .i64 (k:Nat),.int .i64 (-d),.pointer (some ⟨gh,0,none⟩),.pointer (some ⟨gs,0,none⟩)] u fun e v'=>e=.returned (.tuple #[])/\v'=oB gs og k (x+ -d) (sk - -d) u):=fun u hu=>move18 gs gh gm og oc lw k Tm sk x (-d) X u hu di hc hl hk hx y1 y2 z1 z2
 clear h di hc hl hk hx hd y1 y2 z1 z2
 go_enter func86,ntmps86
 go_upto_region 1 with fail
 generalize hW:World.alloc v _=V0 at*
 obtain⟨gw,hgw⟩:=aB v.heap.size
 rw[hgw]at R0 ⊢
 clear hgw hW
 obtain⟨UU,E,hF1,hF2⟩:=cls V0
 have HU:=hid hF2
 have HU1:=hid hF1
 have x0: ∀u,(E u).cell? ⟨gw,0,none⟩=some (.int .i64 (k:Nat)):=fun u=>aA 0 ((hF1 u).heap R0.out)
 have x1: ∀u,(E u).cell? ⟨gw,1,none⟩=some (.int .i64 r2):=fun u=>aA 1 ((hF1 u).heap R0.out)
 have x2: ∀u,(E u).cell? ⟨gh,0,none⟩=some (.slice (some ⟨og,0,none⟩) lw oc):=fun u=>aA 0 ((hF1 u).heap HA.out.2.1)
 have x3: ∀u,(E u).cell? ⟨gm,0,none⟩=some (.func (.func 84) #[] #[.pointer (some ⟨gh,0,none⟩),.pointer (some ⟨gs,0,none⟩)]):=fun u=>aA 0 ((hF1 u).heap HA.out.2.2.1)
 have x4: ∀u,(E u).cell? ⟨og,k,none⟩=some (.int .i64 x):=fun u=>XC.out _ (HA.out.to (hF1 u))
 have DD0:=HU.out _ (Ab.refl V0).drew
 clear hF1 hF2
 refine cS 13 E (by kernel_rfl) (by kernel_rfl) (by kernel_rfl) DD0 ?_
 simp only[List.take_succ_cons,List.take_zero,List.drop_succ_cons,List.drop_zero]
 repeat(go_big_quiet_step (with_reducible rfl))
 refine wpQuiet_nil ?_
 intro vz hwz
 obtain⟨u0,hu⟩:=hwz
 have AZ:Hid (Ab V0 vz):=by rw[hu];exact HU1.out u0
 clear hu u0
 clear HU HU1 DD0 x0 x1 x2 x3 x4
 clear E UU
 have CV:=hid (CM.out vz (HA.out.to AZ.out))
 go_wp2_with fail
 refine CV.out.mono ?_
 rintro e9 v9 ⟨rfl,hv9⟩
 have H9:=hid hv9
 clear hv9
 go_wp2
 go_end0
 exact⟨rfl,vz,A0.out.trans AZ.out,H9.out⟩
end Rn
end
section
open Go.RowKit Go.Deep
namespace Rn
open Sh
theorem fall_no1(pw:Option Addr)(lw cw:Nat)(s:Int)(pr:Option Addr)(lr cr:Nat)(st:Int)(w:World)(h1:decide (st<0)=true):
  Calls prog 46 #[.slice pw lw cw,.int .i64 s,.slice pr lr cr,.int .i64 st] w fun e w'=>e=.returned (.tuple #[.slice none 0 0,.int .i64 0,.int .i64 1])/\Below w.heap.size w w':=by
 obtain⟨A0,R0⟩:=aO w (.cells #[.int .i64 s] 2)
 go_enter func46,ntmps46
 go_upto_region 1 with fail
 generalize hW:World.alloc w _=V0 at*
 obtain⟨gs,hgs⟩:=aB w.heap.size
 have HG:=hid hgs
 rw[hgs]at R0 ⊢
 clear hgs hW
 have x0:=aA 0 R0.out
 go_wp2
 go_ret3
 exact⟨rfl,by exact A0.out⟩
theorem fall_no2(pw:Option Addr)(lw cw:Nat)(s:Int)(pr:Option Addr)(lr cr:Nat)(st:Int)(w:World)(h1:decide (st<0)=false)(h2:dK s=true):
  Calls prog 46 #[.slice pw lw cw,.int .i64 s,.slice pr lr cr,.int .i64 st] w fun e w'=>e=.returned (.tuple #[.slice none 0 0,.int .i64 0,.int .i64 1])/\Below w.heap.size w w':=by
 have H2:=hid h2
 clear h2
 obtain⟨A0,R0⟩:=aO w (.cells #[.int .i64 s] 2)
 go_enter func46,ntmps46
 go_upto_region 1 with fail
 generalize hW:World.alloc w _=V0 at*
 obtain⟨gs,hgs⟩:=aB w.heap.size
 have HG:=hid hgs
 rw[hgs]at R0 ⊢
 clear hgs hW
 have x0:=aA 0 R0.out
 have CC:=hid (mS s V0)
 rw[H2.out]at CC
 go_wp2_with fail
 refine CC.out.mono ?_
 rintro e9 v9 ⟨rfl,hv9⟩
 have hv8:=hv9.symm
 subst hv8
 clear CC
 go_wp2
 go_ret3
 exact⟨rfl,by exact A0.out⟩
theorem fall_no3(pw:Option Addr)(lw cw:Nat)(W:Nat->Int)(s:Int)(pr:Option Addr)(lr cr:Nat)(st:Int)(w:World)(h1:decide (st<0)=false)(h2:dK s=false)(hlw:lw<=17592186044416)(IW:Hid (IsI w pw lw W))(HB:Hid (¬ ∀i,i<lw->dK (W i)=false)):
  Calls prog 46 #[.slice pw lw cw,.int .i64 s,.slice pr lr cr,.int .i64 st] w fun e w'=>e=.returned (.tuple #[.slice none 0 0,.int .i64 0,.int .i64 1])/\Below w.heap.size w w':=by
 have H2:=hid h2
 have HLW:=hid hlw
 clear h2 hlw
 obtain⟨A0,R0⟩:=aO w (.cells #[.int .i64 s] 2)
 go_enter func46,ntmps46
 go_upto_region 1 with fail
 generalize hW:World.alloc w _=V0 at*
 obtain⟨gs,hgs⟩:=aB w.heap.size
 have HG:=hid hgs
 rw[hgs]at R0 ⊢
 clear hgs hW
 have x0:=aA 0 R0.out
 have CO:=hid (mS s V0)
 rw[H2.out]at CO
 have CC:=hid (CO.out)
 go_wp2_with fail
 refine CC.out.mono ?_
 rintro e9 v9 ⟨rfl,hv9⟩
 have hv8:=hv9.symm
 subst hv8
 clear CC
 have CC:=hid (Ch pw lw cw W V0 HLW.out (IW.out.below A0.out) HB.out)
 go_wp2_with fail
 refine CC.out.mono ?_
 rintro e9 v9 ⟨rfl,hv9⟩
 have hv8:=hv9.symm
 subst hv8
 clear CC
 go_wp2
 go_ret3
 exact⟨rfl,by exact A0.out⟩
theorem fall_no4(pw:Option Addr)(lw cw:Nat)(W:Nat->Int)(s:Int)(pr:Option Addr)(lr cr:Nat)(R:Nat->Int × Int × Int × Int)(st:Int)(w:World)(h1:decide (st<0)=false)(h2:dK s=false)(hlw:lw<=17592186044416)(IW:Hid (IsI w pw lw W))(IR:Hid (IsRn w pr lr R))(HW:Hid (∀i,i<lw->dK (W i)=false))(HB:Hid (1024<lr\/ ¬ ∀k,k<lr->vB (lw:Nat) (R k)=true)):
  Calls prog 46 #[.slice pw lw cw,.int .i64 s,.slice pr lr cr,.int .i64 st] w fun e w'=>e=.returned (.tuple #[.slice none 0 0,.int .i64 0,.int .i64 1])/\Below w.heap.size w w':=by
 have H2:=hid h2
 have HLW:=hid hlw
 clear h2 hlw
 obtain⟨A0,R0⟩:=aO w (.cells #[.int .i64 s] 2)
 have CA:Hid (∀v,Ab w v->Calls prog 82 #[.int .i64 (lw:Nat),.slice pr lr cr] v fun e w'=>e=.returned (.bool false)/\Below v.heap.size v w'):=fun v a=>by
  by_cases h:1024<lr
  ·exact Gc lw pr lr cr v (decide_eq_true (by omega))
  ·exact allv_no lw pr lr cr R v (by omega) (IR.out.below a) (HB.out.resolve_left h)
 go_enter func46,ntmps46
 go_upto_region 1 with fail
 generalize hW:World.alloc w _=V0 at*
 obtain⟨gs,hgs⟩:=aB w.heap.size
 have HG:=hid hgs
 rw[hgs]at R0 ⊢
 clear hgs hW
 have x0:=aA 0 R0.out
 have CO:=hid (mS s V0)
 rw[H2.out]at CO
 have CC:=hid (CO.out)
 go_wp2_with fail
 refine CC.out.mono ?_
 rintro e9 v9 ⟨rfl,hv9⟩
 have hv8:=hv9.symm
 subst hv8
 clear CC
 have CC:=hid (pG pw lw cw W V0 HLW.out (IW.out.below A0.out) HW.out)
 go_wp2_with fail
 refine CC.out.mono ?_
 rintro e9 v9 ⟨rfl,hv9⟩
 have hv8:=hv9.symm
 subst hv8
 clear CC
 have CC:=hid (CA.out V0 A0.out)
 go_wp2_with fail
 refine CC.out.mono ?_
 rintro e9 V1 ⟨rfl,b1⟩
 have A1:Hid (Ab V0 V1):=b1
 clear CC b1
 go_wp2
 go_ret3
 exact⟨rfl,by exact A0.out.trans A1.out⟩
end Rn
end
end Go.Proofs.YtmhnilnaffjhmaaGreatDoor
