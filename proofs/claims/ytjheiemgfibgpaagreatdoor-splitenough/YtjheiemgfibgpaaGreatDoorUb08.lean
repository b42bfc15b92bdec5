/-
  Some of the texts of this proof, one behind the other.
-/
import Derived.Deep.QuietTactic
import Derived.Test.YtjheiemgfibgpaaGreatDoorUb07
set_option maxRecDepth 100000
set_option maxHeartbeats 400000000
namespace Go.Proofs.YtjheiemgfibgpaaGreatDoor
open _root_.Go.Proofs.Tryz
section
open Tf Ieee
def Qn(x l:Nat):Prop:=(4503599627370496<=x/\x<9218868437227405312)/\(4503599627370496<=l/\l<9218868437227405312)/\l/4503599627370496<=x/4503599627370496+1010/\x/4503599627370496<=l/4503599627370496+1006
theorem dq_in{x l:Nat}(q:Qn x l):4503599627370496<=dvB x l/\dvB x l<=9146810843189477376:=by
 obtain⟨⟨x1,x2⟩,⟨l1,l2⟩,h1,h2⟩:=q
 obtain⟨N,n,d,g,hg,hn,hW,e,e1,e2,e3⟩:=dv_core x1 x2 l1 l2 h1 h2
 exact e3
end
section
open Tf
def K2:Nat:=925
end
section
open Tf
theorem wZ(v:Int)(r:Nat)(h:mv r=v.natAbs)(hr:r<=9218868437227405312):R v=if v<0 then -(r:Int)else(r:Int):=by
 unfold R
 rw[<- h,lP,Nat.min_eq_left hr]
theorem R_mv(r:Nat)(hr:r<=9218868437227405312):R (mv r:Int)=r/\R (-(mv r:Int))= -(r:Int):=by
 refine⟨?_,?_⟩
 ·rw[wZ _ r (by rw[Int.natAbs_natCast]) hr,if_neg (by omega)]
 ·rw[wZ _ r (by rw[Int.natAbs_neg,Int.natAbs_natCast]) hr]
  by_cases c:r=0
  ·subst c;rw[lO];simp
  ·have:=(@mv_lt 0 r).2 (by omega)
   rw[lO]at this
   rw[if_pos (by omega)]
end
section
open Go.RowKit Tf
attribute [local go_sem] aI aJ aN aO aP aQ aV
def clampM(most:Int):Int:=if most<0 then 0 else most
def clampB(x:Nat)(most:Int):Int:=
 if isN x then 0 else if cOk .even x then min (max (cI .even x) (-clampM most)) (clampM most)else if fgt x 0 then clampM most else -clampM most
theorem yW(x:Nat)(most:Int)(n:isN x=true)(w:World)(hx:x<18446744073709551616):
  Calls prog 61 #[.float .f64 x,.int .i64 most] w fun e w'=>e=.returned (.int .i64 (0))/\ ∃n,w'=w.drewN n:=by
 go_enter func61,ntmps61
 go_wp2_with fail
 refine(dK x _ hx).mono ?_
 rintro e w' ⟨rfl,rfl⟩
 go_wp2
 go_ret
 exact⟨rfl,0,rfl⟩
theorem yX(x:Nat)(most:Int)(m:Int)(n:isN x=false)(hm:(if most<0 then 0 else most)=m)(_m0:0<=m)(_m1:m<=9223372036854775807)(hi:cI .even x=0)(ho:cOk .even x=false)(g:fgt x 0=true)(w:World)(hx:x<18446744073709551616):
  Calls prog 61 #[.float .f64 x,.int .i64 most] w fun e w'=>e=.returned (.int .i64 (m))/\ ∃n,w'=w.drewN n:=by
 go_enter func61,ntmps61
 go_wp2_with fail
 refine(dK x _ hx).mono ?_
 rintro e w' ⟨rfl,rfl⟩
 go_wp2_with fail
 refine(fW x 0 false _ hx hi ho).mono ?_
 rintro e w' ⟨rfl,k,rfl⟩
 go_wp2
 go_ret
 exact⟨rfl,k,rfl⟩
theorem yY(x:Nat)(most:Int)(m:Int)(n:isN x=false)(hm:(if most<0 then 0 else most)=m)(m0:0<=m)(m1:m<=9223372036854775807)(hi:cI .even x=0)(ho:cOk .even x=false)(g:fgt x 0=false)(w:World)(hx:x<18446744073709551616):
  Calls prog 61 #[.float .f64 x,.int .i64 most] w fun e w'=>e=.returned (.int .i64 (-m))/\ ∃n,w'=w.drewN n:=by
 go_enter func61,ntmps61
 go_wp2_with fail
 refine(dK x _ hx).mono ?_
 rintro e w' ⟨rfl,rfl⟩
 go_wp2_with fail
 refine(fW x 0 false _ hx hi ho).mono ?_
 rintro e w' ⟨rfl,k,rfl⟩
 go_wp2
 go_ret
 exact⟨rfl,k,rfl⟩
theorem clamp_lo(x:Nat)(most:Int)(m:Int)(n:isN x=false)(hm:(if most<0 then 0 else most)=m)(m0:0<=m)(m1:m<=9223372036854775807)(i:Int)(hi:cI .even x=i)(ho:cOk .even x=true)(c:i< -m)(w:World)(hx:x<18446744073709551616):
  Calls prog 61 #[.float .f64 x,.int .i64 most] w fun e w'=>e=.returned (.int .i64 (-m))/\ ∃n,w'=w.drewN n:=by
 go_enter func61,ntmps61
 go_wp2_with fail
 refine(dK x _ hx).mono ?_
 rintro e w' ⟨rfl,rfl⟩
 go_wp2_with fail
 refine(fW x i true _ hx hi ho).mono ?_
 rintro e w' ⟨rfl,k,rfl⟩
 go_wp2
 go_ret
 exact⟨rfl,k,rfl⟩
theorem clamp_hi(x:Nat)(most:Int)(m:Int)(n:isN x=false)(hm:(if most<0 then 0 else most)=m)(m0:0<=m)(m1:m<=9223372036854775807)(i:Int)(hi:cI .even x=i)(ho:cOk .even x=true)(c:m<i)(w:World)(hx:x<18446744073709551616):
  Calls prog 61 #[.float .f64 x,.int .i64 most] w fun e w'=>e=.returned (.int .i64 (m))/\ ∃n,w'=w.drewN n:=by
 go_enter func61,ntmps61
 go_wp2_with fail
 refine(dK x _ hx).mono ?_
 rintro e w' ⟨rfl,rfl⟩
 go_wp2_with fail
 refine(fW x i true _ hx hi ho).mono ?_
 rintro e w' ⟨rfl,k,rfl⟩
 go_wp2
 go_ret
 exact⟨rfl,k,rfl⟩
theorem clamp_in(x:Nat)(most:Int)(m:Int)(n:isN x=false)(hm:(if most<0 then 0 else most)=m)(m0:0<=m)(m1:m<=9223372036854775807)(i:Int)(hi:cI .even x=i)(ho:cOk .even x=true)(c: -m<=i)(c':i<=m)(w:World)(hx:x<18446744073709551616):
  Calls prog 61 #[.float .f64 x,.int .i64 most] w fun e w'=>e=.returned (.int .i64 (i))/\ ∃n,w'=w.drewN n:=by
 go_enter func61,ntmps61
 go_wp2_with fail
 refine(dK x _ hx).mono ?_
 rintro e w' ⟨rfl,rfl⟩
 go_wp2_with fail
 refine(fW x i true _ hx hi ho).mono ?_
 rintro e w' ⟨rfl,k,rfl⟩
 go_wp2
 go_ret
 exact⟨rfl,k,rfl⟩
theorem clamp_at(x:Nat)(most r:Int)(w:World)(hx:x<18446744073709551616)(hm:most<=9223372036854775807)(hr:clampB x most=r):
  Calls prog 61 #[.float .f64 x,.int .i64 most] w fun e w'=>e=.returned (.int .i64 r)/\ ∃n,w'=w.drewN n:=by
 subst hr
 unfold clampB
 have hm':(if most<0 then 0 else most)=clampM most:=rfl
 have m0:0<=clampM most:=by unfold clampM;split<;>omega
 have m1:clampM most<=9223372036854775807:=by unfold clampM;split<;>omega
 generalize clampM most=m at*
 cases n:isN x
 ·rw[if_neg (by decide)]
  cases ho:cOk .even x
  ·have hi:cI .even x=0:=by unfold cI;rw[ho];rfl
   rw[if_neg (by decide)]
   cases g:fgt x 0
   ·rw[if_neg (by decide)];exact yY x most m n hm' m0 m1 hi ho g w hx
   ·rw[if_pos rfl];exact yX x most m n hm' m0 m1 hi ho g w hx
  ·rw[if_pos rfl]
   by_cases c:cI .even x< -m
   ·rw[show min (max (cI .even x) (-m)) m= -m by omega]
    exact clamp_lo x most m n hm' m0 m1 _ rfl ho c w hx
   ·by_cases c2:m<cI .even x
    ·rw[show min (max (cI .even x) (-m)) m=m by omega]
     exact clamp_hi x most m n hm' m0 m1 _ rfl ho c2 w hx
    ·rw[show min (max (cI .even x) (-m)) m=cI .even x by omega]
     exact clamp_in x most m n hm' m0 m1 _ rfl ho (by omega) (by omega) w hx
 ·rw[if_pos rfl];exact yW x most n w hx
end
section
open Tf Ieee
def fw(n:Int):Nat:=rn false (n*one)
theorem R_one:R one=4607182418800017408:=(R_mv 4607182418800017408 (by decide)).1
theorem mv_2_63:mv 4890909195324358656=9223372036854775808*one:=by
 have h:=fE 63 4890909195324358656 (by decide)
 have e:(2:Nat) ^ 63=9223372036854775808:=by decide
 rw[e]at h
 exact h
theorem R_max:R (9223372036854775808*one)=4890909195324358656:=by
 have h:=(R_mv 4890909195324358656 (by decide)).1
 rw[mv_2_63,Int.natCast_mul]at h
 exact h
theorem rn_nn{v:Int}(h:0<=v):rn false v=(R v).toNat:=by
 unfold rn R
 generalize min (rung 52 0 v.natAbs) 9218868437227405312=m
 by_cases z:v=0
 ·rw[if_pos z,if_neg (by decide),if_neg (by omega),Int.toNat_natCast]
 ·rw[if_neg z,decide_eq_false (by omega),if_neg (by decide),if_neg (by omega),Int.toNat_natCast]
theorem fw_R{n:Int}(h:0<=n):fw n=(R (n*one)).toNat:=rn_nn (Int.mul_nonneg h (Int.le_of_lt onep))
theorem fw_in{n:Int}(h1:1<=n)(h2:n<=9223372036854775807):4607182418800017408<=fw n/\fw n<=4890909195324358656:=by
 have a:=R_mono (Int.mul_le_mul_of_nonneg_right h1 (Int.le_of_lt onep))
 have b:=R_mono (Int.mul_le_mul_of_nonneg_right (show n<=9223372036854775808 by omega) (Int.le_of_lt onep))
 rw[Int.one_mul,R_one]at a
 rw[R_max]at b
 rw[fw_R (by omega)]
 omega
theorem fw_Qn{n m:Int}(n1:1<=n)(n2:n<=9223372036854775807)(m1:1<=m)(m2:m<=9223372036854775807):Qn (fw n) (fw m):=by
 have a:=fw_in n1 n2
 have b:=fw_in m1 m2
 unfold Qn
 omega
def dpB(w a:Int):Nat:=if w<1\/a<1 then 0 else dvB (fw w) (fw a)
theorem xA{w a:Int}(h:w<1\/a<1):dpB w a=0:=by unfold dpB;rw[if_pos h]
theorem dp_of{w a:Int}(h1:1<=w)(h2:1<=a):dpB w a=dvB (fw w) (fw a):=by unfold dpB;rw[if_neg (by omega)]
theorem dp_in{w a:Int}(h1:1<=w)(h2:1<=a)(w2:w<=9223372036854775807)(a2:a<=9223372036854775807):4503599627370496<=dpB w a/\dpB w a<=9146810843189477376:=by
 rw[dp_of h1 h2]
 exact dq_in (fw_Qn h1 w2 h2 a2)
theorem lG{w a:Int}(w2:w<=9223372036854775807)(a2:a<=9223372036854775807):dpB w a<=9146810843189477376:=by
 by_cases h:w<1\/a<1
 ·rw[xA h];omega
 ·exact(dp_in (by omega) (by omega) w2 a2).2
end
section
open Tf Ieee
theorem sv_nn{d:Nat}(h:d<9223372036854775808):sv d=(mv d:Nat):=by
 unfold sv
 rw[bI h,aY h];rfl
def lvl(b:Nat)(w a:Int):Nat:=addB b (dpB w a)
theorem qU{b:Nat}{w a:Int}(hb:b<18446744073709551616)(w2:w<=9223372036854775807)(a2:a<=9223372036854775807):lvl b w a<18446744073709551616:=hY b _ hb (by have:=lG w2 a2;omega)
end
section
open Tf Ieee
def leer(a b:Nat):Nat:=dvB (mlB (mlB 4611686018427387904 a) b) (plB a b)
end
section
open Tf Ieee
theorem xB(W:Nat)(p:Int): ∃r,r<=9218868437227405312/\double.nearest false W p=r:=by
 have hlp:=d_lp
 by_cases h:double.leastPlace<=p
 ·obtain⟨d,hd⟩: ∃d:Nat,p=double.leastPlace+(d:Int):=⟨(p - double.leastPlace).toNat,by omega⟩
  rw[gA double false W d _ hd,eA,bO]
  simp only[Bool.false_eq_true,if_false]
  exact⟨_,Nat.min_le_right _ _,rfl⟩
 ·obtain⟨d,hd⟩: ∃d:Nat,p=double.leastPlace - (d:Int):=⟨(double.leastPlace - p).toNat,by omega⟩
  rw[hd,eG double false W d,eA,bO]
  simp only[Bool.false_eq_true,if_false]
  exact⟨_,Nat.min_le_right _ _,rfl⟩
theorem sM{r:Nat}(h:r<=9218868437227405312):canonB r=r:=by
 have mr:mg r=r:=aY (by omega)
 unfold canonB
 rw[mr,if_neg (by unfold isN;rw[mr];simp;omega)]
 split<;>omega
theorem xC{x:Nat}(h:x<=9218868437227405312):double.read x=.infinity false\/ ∃m p,double.read x=.number false m p:=by
 have mx:mg x=x:=aY (by omega)
 by_cases c:x=9218868437227405312
 ·subst c
  exact .inl (by decide+kernel)
 ·right
  obtain⟨m,a,h1,-⟩:=bS double x (by show mg x<9218868437227405312;omega)
  have hs:sg double x=false:=by
   rw[dS x (by omega)]
   exact bI (by omega)
  rw[hs]at h1
  exact⟨m,_,h1⟩
theorem dv_nn{x y:Nat}(hx:x<=9218868437227405312)(hy:y<=9218868437227405312):dvB x y=quiet\/dvB x y<=9218868437227405312:=by
 have key:double.div x y=none\/ ∃r,r<=9218868437227405312/\double.div x y=some r:=by
  show((double.read x).quotient 54 (double.read y)).map double.write=none\/ ∃r,r<=9218868437227405312/\((double.read x).quotient 54 (double.read y)).map double.write=some r
  rcases xC hx with e1 | ⟨m,p,e1⟩<;>rcases xC hy with e2 | ⟨n,q,e2⟩<;>rw[e1,e2]<;>unfold Datum.quotient<;>dsimp only
  ·exact .inl rfl
  ·exact .inr ⟨9218868437227405312,Nat.le_refl _,by decide+kernel⟩
  ·obtain⟨r,r1,r2⟩:=xB 0 0
   exact .inr ⟨r,r1,by show some (double.nearest false 0 0)=_;rw[r2]⟩
  ·by_cases hn:n=0
   ·rw[if_pos hn]
    by_cases hm:m=0
    ·rw[if_pos hm];exact .inl rfl
    ·rw[if_neg hm];exact .inr ⟨9218868437227405312,Nat.le_refl _,by decide+kernel⟩
   ·rw[if_neg hn]
    obtain⟨r,r1,r2⟩:=xB (2*(m <<< (54+n.log2 - m.log2)/n)+(m <<< (54+n.log2 - m.log2)%n != 0).toNat) (p - q - ((54+n.log2 - m.log2:Nat):Int) - 1)
    exact .inr ⟨r,r1,by show some (double.nearest false _ _)=_;rw[<- r2]⟩
 rcases key with h | ⟨r,r1,h⟩
 ·exact .inl (eW h)
 ·rw[dW h,sM r1]
  exact .inr r1
theorem ml_nn{x y:Nat}(hx:x<=9218868437227405312)(hy:y<=9218868437227405312)(x0:0<x)(y0:0<y):mlB x y<=9218868437227405312:=by
 have mx:mg x=x:=aY (by omega)
 have my:mg y=y:=aY (by omega)
 have nx:ng x=false:=bI (by omega)
 have ny:ng y=false:=bI (by omega)
 have hi:infW (false ^^ false)=9218868437227405312:=by decide
 by_cases cx:x=9218868437227405312
 ·by_cases cy:y=9218868437227405312
  ·have e:=mul_ii x y (by omega) (by omega) (by omega) (by omega)
   rw[cV e,nx,ny,hi]
   exact Nat.le_refl _
  ·have e:=mul_if x y (by omega) (by omega) (by omega) (by omega)
   rw[if_neg (by omega)]at e
   rw[cV e,nx,ny,hi]
   exact Nat.le_refl _
 ·by_cases cy:y=9218868437227405312
  ·have e:=qG x y (by omega) (by omega) (by omega) (by omega)
   rw[if_neg (by omega)]at e
   rw[cV e,nx,ny,hi]
   exact Nat.le_refl _
  ·rw[wY (by omega) (by omega)]
   exact Nat.min_le_right _ _
theorem leer_nn{a b:Nat}(ha:a<=9218868437227405312)(hb:b<=9218868437227405312)(a0:0<a)(b0:0<b):leer a b=quiet\/leer a b<=9218868437227405312:=by
 have d:=eZ ha
 exact dv_nn (ml_nn d.1 hb (by omega) b0) (plB_nn ha hb).1
end
section
open Tf Ieee
theorem xD{l b:Nat}(hl:l<18446744073709551616)(hb:b<18446744073709551616):fgt l b=true ↔ isN l=false/\isN b=false/\rk b<rk l:=by
 rw[iV l b hl hb]
 cases isN l<;>cases isN b<;>simp
end
section
open Tf Ieee
def ps(a:Nat):Bool:=decide (0<a/\a<=9218868437227405312)
def ns(a:Nat):Bool:=decide (9223372036854775808<a/\a<=18442240474082181120)
theorem bN{a:Nat}:ps a=true ↔ 0<a/\a<=9218868437227405312:=by unfold ps;rw[decide_eq_true_iff]
theorem eD{a:Nat}:ns a=true ↔ 9223372036854775808<a/\a<=18442240474082181120:=by unfold ns;rw[decide_eq_true_iff]
theorem ps_no{a:Nat}:ps a=false ↔ a=0\/9218868437227405312<a:=by unfold ps;rw[decide_eq_false_iff_not];omega
theorem lZ:rk 0=0:=by decide
theorem cJ{a:Nat}(ha:a<18446744073709551616):fgt a 0=ps a:=by
 rw[iV a 0 ha (by decide),lZ,show isN 0=false by decide]
 unfold ps isN rk ng mg
 by_cases c:9223372036854775808<=a
 ·rw[decide_eq_true c,if_pos rfl,decide_eq_false (p:=0<a/\_) (by omega),decide_eq_false (p:=(0:Int)<_) (by omega),Bool.and_false]
 ·rw[decide_eq_false c,if_neg (by decide),Nat.mod_eq_of_lt (by omega)]
  by_cases d:9218868437227405312<a
  ·rw[decide_eq_true d,decide_eq_false (p:=0<a/\_) (by omega)];rfl
  ·rw[decide_eq_false d]
   by_cases e:0<a
   ·rw[decide_eq_true (p:=0<a/\_) (by omega),decide_eq_true (p:=(0:Int)<_) (by omega)];rfl
   ·rw[decide_eq_false (p:=0<a/\_) (by omega),decide_eq_false (p:=(0:Int)<_) (by omega)];rfl
theorem cY{a:Nat}(ha:a<18446744073709551616):flt a 0=ns a:=by
 rw[kH a 0 ha (by decide),lZ,show isN 0=false by decide]
 unfold ns isN rk ng mg
 by_cases c:9223372036854775808<=a
 ·rw[decide_eq_true c,if_pos rfl]
  have e:a%9223372036854775808=a - 9223372036854775808:=by omega
  rw[e]
  by_cases d:9218868437227405312<a - 9223372036854775808
  ·rw[decide_eq_true d,decide_eq_false (p:=9223372036854775808<a/\_) (by omega)];rfl
  ·rw[decide_eq_false d]
   by_cases e:9223372036854775808<a
   ·rw[decide_eq_true (p:=9223372036854775808<a/\_) (by omega),decide_eq_true (p:= -_<(0:Int)) (by omega)];rfl
   ·rw[decide_eq_false (p:=9223372036854775808<a/\_) (by omega),decide_eq_false (p:= -_<(0:Int)) (by omega)];rfl
 ·rw[decide_eq_false c,if_neg (by decide),decide_eq_false (p:=9223372036854775808<a/\_) (by omega),decide_eq_false (p:=_<(0:Int)) (by omega),Bool.and_false]
theorem nn_N{a:Nat}(h:a<=9218868437227405312):isN a=false:=cB.2 (by rw[aY (by omega)];exact h)
theorem flt_nn{a b:Nat}(ha:a<=9218868437227405312)(hb:b<=9218868437227405312):flt a b=decide (a<b):=by
 rw[kH a b (by omega) (by omega),gS a (by omega),gS b (by omega),nn_N ha,nn_N hb]
 by_cases c:a<b
 ·rw[decide_eq_true c,decide_eq_true (by omega)];rfl
 ·rw[decide_eq_false c,decide_eq_false (by omega)];rfl
theorem fgt_nn{a b:Nat}(ha:a<=9218868437227405312)(hb:b<=9218868437227405312):fgt a b=decide (b<a):=by
 rw[iV a b (by omega) (by omega),gS a (by omega),gS b (by omega),nn_N ha,nn_N hb]
 by_cases c:b<a
 ·rw[decide_eq_true c,decide_eq_true (by omega)];rfl
 ·rw[decide_eq_false c,decide_eq_false (by omega)];rfl
theorem feq_nn{a b:Nat}(ha:a<=9218868437227405312)(hb:b<=9218868437227405312):feq a b=decide (a=b):=by
 rw[kG a b (by omega) (by omega),gS a (by omega),gS b (by omega),nn_N ha,nn_N hb]
 by_cases c:a=b
 ·rw[decide_eq_true c,decide_eq_true (by omega)];rfl
 ·rw[decide_eq_false c,decide_eq_false (by omega)];rfl
def lr(a b:Nat):Nat:=if leer a b<9218868437227405312 then leer a b else 0
def lm(k:Int)(a b:Nat):Nat:=if k=1 then min a b else if k=2 then sbee a b else if k=3 then lr a b else 0
def op(x:Nat):Nat:=if x=0 then 0 else x+9223372036854775808
def slp(k:Int)(a b:Nat):Nat:=if(ps a&&ps b)=true then lm k a b else if(ns a&&ns b)=true then op (lm k (a - 9223372036854775808) (b - 9223372036854775808))else 0
theorem lr_le(a b:Nat):lr a b<9218868437227405312:=by unfold lr;split<;>omega
theorem iT(k:Int){a b:Nat}(ha:a<=9218868437227405312)(hb:b<=9218868437227405312):lm k a b<=9218868437227405312:=by
 have s:=uW ha hb
 have l:=lr_le a b
 unfold lm
 split
 ·omega
 ·split
  ·omega
  ·split<;>omega
theorem op_lt{x:Nat}(h:x<=9218868437227405312):op x<=18442240474082181120:=by unfold op;split<;>omega
theorem slp_lt(k:Int)(a b:Nat):slp k a b<18446744073709551616:=by
 unfold slp
 split
 ·rename_i h
  rw[Bool.and_eq_true,bN,bN]at h
  have:=iT k h.1.2 h.2.2
  omega
 ·split
  ·rename_i h
   rw[Bool.and_eq_true,eD,eD]at h
   have:=op_lt (iT k (a:=a - 9223372036854775808) (b:=b - 9223372036854775808) (by omega) (by omega))
   omega
  ·omega
theorem canon_op{x:Nat}(h:x<=9218868437227405312):canonB (negB x)=op x:=by
 unfold negB op canonB
 rw[bI (by omega)]
 simp only[Bool.false_eq_true,if_false]
 by_cases c:x=0
 ·subst c;decide
 ·have m:mg (x+9223372036854775808)=x:=by unfold mg;omega
  unfold isN
  rw[m,if_neg c,if_neg (by simp;omega)]
theorem hH{a:Nat}(h:9223372036854775808<a):negB a=a - 9223372036854775808:=by
 unfold negB
 rw[if_pos]
 unfold ng;exact decide_eq_true (by omega)
theorem qV{x y:Nat}(hx:x<=9218868437227405312)(hy:y<=9218868437227405312)(x0:0<x)(y0:0<y):Ieee.double.mul x y=some (mlB x y):=by
 have h:=ml_nn hx hy x0 y0
 cases e:Ieee.double.mul x y with
 | none=>rw[dV e]at h;unfold quiet at h;omega
 | some r=>rw[cV e]
theorem add_pp{x y:Nat}(hx:x<=9218868437227405312)(hy:y<=9218868437227405312):Ieee.double.add x y=some (plB x y):=by
 have h:=(plB_nn hx hy).1
 cases e:Ieee.double.add x y with
 | none=>rw[nC e]at h;unfold quiet at h;omega
 | some r=>rw[fT e]
theorem sO{a b:Nat}(ha:a<=9218868437227405312)(hb:b<=9218868437227405312):Ieee.double.order a b=some (if a<b then .lt else if b<a then .gt else .eq):=by
 have h1:=flt_nn ha hb
 have h2:=fgt_nn ha hb
 have h3:=feq_nn ha hb
 unfold flt at h1
 unfold fgt at h2
 unfold feq at h3
 by_cases c:a<b
 ·rw[if_pos c];rw[decide_eq_true c]at h1;simpa using h1
 ·rw[if_neg c]
  by_cases d:b<a
  ·rw[if_pos d];rw[decide_eq_true d]at h2;simpa using h2
  ·rw[if_neg d];rw[decide_eq_true (by omega)]at h3;simpa using h3
theorem lr_le_of{r:Nat}{a b:Nat}(h:IsC r (leer a b))(hn:leer a b=quiet\/leer a b<=9218868437227405312):
  (flt r 9218868437227405311||feq r 9218868437227405311)=decide (leer a b<9218868437227405312)/\(leer a b<9218868437227405312->canonB r=leer a b):=by
 obtain⟨h1,h2⟩:=h
 refine⟨?_,fun _=>h2⟩
 rcases hn with e | e
 ·rw[e]at h2 ⊢
  have nr:isN r=true:=by
   cases k:isN r
   ·unfold canonB at h2
    rw[k]at h2
    have:=cB.1 k
    simp only[Bool.false_eq_true,if_false]at h2
    split at h2
    ·exact absurd h2 (by decide)
    ·rw[h2]at k;exact absurd k (by decide)
   ·rfl
  rw[kH r _ h1 (by decide),kG r _ h1 (by decide),nr]
  rfl
 ·have nr:isN r=false:=by
   cases k:isN r
   ·rfl
   ·unfold canonB at h2
    rw[k,if_pos rfl]at h2
    rw[<- h2]at e
    unfold quiet at e
    omega
  have rr:rk r=leer a b:=by
   unfold canonB at h2
   rw[nr,if_neg (by decide)]at h2
   split at h2
   ·rename_i m
    rw[<- h2]
    unfold rk
    rw[m];split<;>rfl
   ·rw[h2];exact gS _ (by omega)
  rw[kH r _ h1 (by decide),kG r _ h1 (by decide),nr,rr,show isN 9218868437227405311=false by decide,gS 9218868437227405311 (by decide)]
  by_cases c:leer a b<9218868437227405312
  ·rw[decide_eq_true c]
   by_cases d:leer a b=9218868437227405311
   ·rw[d];decide
   ·rw[decide_eq_true (p:=(_:Int)<_) (by omega)];rfl
  ·rw[decide_eq_false c,decide_eq_false (p:=(_:Int)<_) (by omega),decide_eq_false (p:=(_:Int)=_) (by omega)];rfl
end
section
open Tf Ieee
def pos0(r:Nat):Nat:=if fgt r 0=true then r else 0
def rcV(k:Int)(h hb hd:Nat):Nat:=plB h (mlB 4602678819172646912 (slp k (sbB h hb) (sbB hd h)))
def rcG(l bu bd:Nat):Nat:=sbB l (maxB bu bd)
def rcR(k:Int)(h hb hd l bu bd:Nat):Nat:=pos0 (minB (rcV k h hb hd) (rcG l bu bd))
theorem pos0_lt{r:Nat}(h:r<18446744073709551616):pos0 r<18446744073709551616:=by unfold pos0;split<;>omega
theorem isC_N{r c:Nat}(h:IsC r c):isN r=isN c:=by
 have e:=h.2
 unfold canonB at e
 split at e
 ·rename_i k;rw[k,<- e];decide
 ·rename_i k
  split at e
  ·have n:isN r=false:=by simpa using k
   rw[<- e,n];decide
  ·rw[e]
theorem isC_or{r c:Nat}(h:IsC r c)(n:isN r=false):(mg r=0/\c=0)\/r=c:=by
 have e:=h.2
 unfold canonB at e
 rw[n]at e
 by_cases z:mg r=0
 ·exact .inl ⟨z,by simpa [z]using e.symm⟩
 ·exact .inr (by simpa [z]using e)
theorem slp_N(k:Int)(a b:Nat):isN (slp k a b)=false:=by
 unfold slp
 split
 ·rename_i c
  have q:=(Bool.and_eq_true _ _).mp c
  exact nn_N (iT k (bN.1 q.1).2 (bN.1 q.2).2)
 ·split
  ·rename_i c
   have q:=(Bool.and_eq_true _ _).mp c
   have a1:=eD.1 q.1
   have b1:=eD.1 q.2
   have l:=iT k (a:=a - 9223372036854775808) (b:=b - 9223372036854775808) (by omega) (by omega)
   refine cB.2 ?_
   unfold op
   split
   ·unfold mg;omega
   ·unfold mg;omega
  ·decide
theorem qW{a b:Nat}(ha:a<18446744073709551616)(hb:b<18446744073709551616):minB a b<18446744073709551616:=by
 unfold minB
 split
 ·decide
 ·split<;>assumption
theorem sP{a b:Nat}(ha:a<18446744073709551616)(hb:b<18446744073709551616)(na:isN a=false)(nb:isN b=false):
  (minB a b=a\/minB a b=b)/\rk (minB a b)<=rk a/\rk (minB a b)<=rk b:=by
 unfold minB
 rw[na,nb,if_neg (by decide)]
 have key: ∀x y:Nat,x<18446744073709551616->y<18446744073709551616->placeB x<=placeB y->rk x<=rk y:=by
  intro x y hx hy h
  unfold placeB at h
  unfold rk
  cases gx:ng x<;>cases gy:ng y<;>simp only[gx,gy,if_true,if_false,Bool.false_eq_true]at h ⊢ <;>unfold ng at gx gy<;>simp only[decide_eq_true_eq,decide_eq_false_iff_not]at gx gy<;>unfold mg<;>omega
 split
 ·rename_i c
  exact⟨.inr rfl,key _ _ hb ha (by omega),Int.le_refl _⟩
 ·rename_i c
  exact⟨.inl rfl,Int.le_refl _,key _ _ ha hb (by omega)⟩
theorem fY{a b:Nat}(h:isN a=true\/isN b=true):minB a b=quiet:=by
 unfold minB
 rw[if_pos (by rcases h with h | h<;>simp[h])]
theorem pos0_c{v r g:Nat}(hv:v<18446744073709551616)(h:IsC r g):pos0 (minB v r)=pos0 (minB v g):=by
 cases nv:isN v
 ·cases nr:isN r
  ·rcases isC_or h nr with⟨z,rfl⟩ | rfl
   ·have m1:=sP hv h.1 nv nr
    have m2:=sP hv (b:=0) (by decide) nv (by decide)
    have r0:rk r=0:=by unfold rk;rw[z];simp
    have l1:=qW hv h.1
    have l2:=qW hv (b:=0) (by decide)
    have z1:pos0 (minB v r)=0:=by
     unfold pos0
     rw[if_neg]
     intro q
     have:=((xD l1 (by decide)).1 q).2.2
     rw[lZ]at this
     omega
    have z2:pos0 (minB v 0)=0:=by
     unfold pos0
     rw[if_neg]
     intro q
     have:=((xD l2 (by decide)).1 q).2.2
     rw[lZ]at this m2
     omega
    rw[z1,z2]
   ·rfl
  ·rw[fY (.inr nr),fY (.inr (by rw[<- isC_N h];exact nr))]
 ·rw[fY (.inl nv),fY (.inl nv)]
end
section
open Tf Ieee Cu
def ovC(k:Int)(A:Nat->Int)(B:Nat->Nat)(W:Nat->Int)(up down back:Nat):Nat:=
 rcR k (dpB (W up) (A up)) (dpB (W back) (A back)) (dpB (W down) (A down)) (lvl (B up) (W up) (A up)) (B up) (B down)
def bkC(n t:Nat):Nat:=bsC n (t/4) ((t%4+2)%4)
def sdD(n:Nat)(k:Int)(A:Nat->Int)(B:Nat->Nat)(W:Nat->Int)(t:Nat):Nat:=ovC k A B W (t/4) (mt n t/4) (bkC n t)
def rdT(n:Nat)(k:Int)(A:Nat->Int)(B:Nat->Nat)(W:Nat->Int)(t u:Nat):Nat:=
 if fgt u 0=true then sdD n k A B W t else if flt u 0=true then sdD n k A B W (mt n t)else 0
theorem rdT_p{n:Nat}{k:Int}{A:Nat->Int}{B:Nat->Nat}{W:Nat->Int}{t u:Nat}(h:fgt u 0=true):rdT n k A B W t u=sdD n k A B W t:=by unfold rdT;rw[if_pos h]
theorem rdT_n{n:Nat}{k:Int}{A:Nat->Int}{B:Nat->Nat}{W:Nat->Int}{t u:Nat}(h:fgt u 0=false)(g:flt u 0=true):rdT n k A B W t u=sdD n k A B W (mt n t):=by unfold rdT;rw[if_neg (by rw[h];decide),if_pos g]
theorem rdT_0{n:Nat}{k:Int}{A:Nat->Int}{B:Nat->Nat}{W:Nat->Int}{t u:Nat}(h:fgt u 0=false)(g:flt u 0=false):rdT n k A B W t u=0:=by unfold rdT;rw[if_neg (by rw[h];decide),if_neg (by rw[g];decide)]
theorem pH{n t:Nat}(hn:1<=n)(ht:t<24*n*n):bkC n t<6*n*n:=by
 have g:=uK (s:=(t%4+2)%4) (t:=0) (k:=t/4) hn rfl (bR ht) (by omega) (by decide) (bR ht)
 exact g.1.2.2.1
theorem jV{n t:Nat}{k:Int}{A:Nat->Int}{B B':Nat->Nat}{W W':Nat->Int}(b1:B (t/4)=B' (t/4))(b2:B (mt n t/4)=B' (mt n t/4))(w1:W (t/4)=W' (t/4))(w2:W (mt n t/4)=W' (mt n t/4))(w3:W (bkC n t)=W' (bkC n t)):sdD n k A B W t=sdD n k A B' W' t:=by
 unfold sdD ovC
 rw[b1,b2,w1,w2,w3]
end
section
open Tf Ieee
theorem sb_nn{x y:Nat}(hx:x<9218868437227405312)(hy:y<9218868437227405312):sbB x y=rn false ((mv x:Int) - mv y):=by
 have mx:mg x=x:=aY (by omega)
 have my:mg y=y:=aY (by omega)
 have e:=sub_d x y (by omega) (by omega) (by omega) (by omega)
 rw[lU x y (by omega)]at e
 unfold sbB
 rw[bE e,gQ,sv_nn (d:=x) (by omega),sv_nn (d:=y) (by omega)]
end
section
open Go.RowKit Tf Cu
theorem arI_top(L:Nat):1<=arI L/\arI L<=9223372036854775807:=by
 have h:cI .even (arQ L)<=9223372036854775807:=by
  unfold cI
  split
  ·rename_i c
   unfold cOk at c
   simp only[Bool.and_eq_true,decide_eq_true_eq]at c
   omega
  ·decide
 unfold arI
 omega
def arC(n c:Nat):Int:=arI (ArC n c)
theorem cM(n c:Nat):1<=arC n c/\arC n c<=9223372036854775807:=arI_top _
def rdAll(n:Nat)(k:Int)(lb lw:Nat)(B:Nat->Nat)(W:Nat->Int)(e:Int)(u:Nat):Nat:=
 if inR e (12*n*n:Nat)=true/\lb=6*n*n/\lw=6*n*n then rdT n k (arC n) B W (edT n e.toNat) u else 0
theorem pK{s:Nat}(hs:s<18446744073709551616)(h:isN s=false):Ieee.double.mul 4602678819172646912 s=some (mlB 4602678819172646912 s):=by
 have k:Ieee.double.mul 4602678819172646912 s≠none:=by
  rcases three s with c | c | c
  ·rw[mul_d 4602678819172646912 s (by decide) hs (by decide) c];exact Option.some_ne_none _
  ·rw[qG 4602678819172646912 s (by decide) hs (by decide) c,if_neg (by decide)];exact Option.some_ne_none _
  ·rw[h]at c;cases c
 cases e:Ieee.double.mul 4602678819172646912 s with
 | none=>exact absurd e k
 | some r=>rw[cV e]
theorem half_N{s:Nat}(hs:s<18446744073709551616)(h:isN s=false):isN (mlB 4602678819172646912 s)=false/\mlB 4602678819172646912 s<18446744073709551616:=by
 have e:=pK hs h
 exact⟨(fV e (by decide) hs).2,(fV e (by decide) hs).1⟩
theorem pM{h f:Nat}(hh:h<9218868437227405312)(hf:f<18446744073709551616)(nf:isN f=false):Ieee.double.add h f=some (plB h f):=by
 have mh:mg h<9218868437227405312:=by rw[aY (by omega)];exact hh
 have k:Ieee.double.add h f≠none:=by
  rcases three f with c | c | c
  ·rw[rP h f (by omega) hf mh c];exact Option.some_ne_none _
  ·rw[gP h f hf mh c];exact Option.some_ne_none _
  ·rw[nf]at c;cases c
 cases e:Ieee.double.add h f with
 | none=>exact absurd e k
 | some r=>rw[fT e]
theorem nS{x y:Nat}(hx:x<9218868437227405312)(hy:y<9218868437227405312):Ieee.double.sub x y=some (sbB x y):=by
 have mx:mg x<9218868437227405312:=by rw[aY (by omega)];exact hx
 have my:mg y<9218868437227405312:=by rw[aY (by omega)];exact hy
 rw[sub_d x y (by omega) (by omega) mx my,sb_nn hx hy,sv_nn (d:=x) (by omega),sv_nn (d:=y) (by omega),bI (x:=x) (by omega)]
 rfl
theorem rcV_lt{k:Int}{h hb hd:Nat}(hh:h<9218868437227405312):rcV k h hb hd<18446744073709551616:=by
 have s:=half_N (slp_lt k (sbB h hb) (sbB hd h)) (slp_N k _ _)
 have e:=pM hh s.2 s.1
 unfold rcV
 exact(IsQ.add (IsQ.self (by omega)) (IsQ.self s.2) e).1
theorem qX{l m g:Nat}(hm:m<18446744073709551616)(e:Ieee.double.sub l m=some g)(hl:l<18446744073709551616):IsC g (sbB l m):=by
 have ea:Ieee.double.add l (negB m)=some g:=by rw[<- lU l m hm];exact e
 exact⟨(hZ hl (bT hm) ea).1,by unfold sbB;rw[bE ea]⟩
theorem IsFl.at0{w:World}{b o len:Nat}{xs:Nat->Nat}(h:IsFl w (some ⟨b,o,none⟩) len xs){k:Nat}(hk:k<len):xs k<18446744073709551616/\b<w.heap.size/\w.cell? ⟨b,o+k,none⟩=some (.float .f64 (xs k)):=by
 obtain⟨h1,b',o',e,h2,h3⟩:=h k hk
 injection e with e1
 injection e1 with e2 e3
 subst e2 e3
 exact⟨h1,h2,h3⟩
theorem IsIn.at0{w:World}{b o len:Nat}{xs:Nat->Int}(h:IsIn w (some ⟨b,o,none⟩) len xs){k:Nat}(hk:k<len):xs k<=9223372036854775807/\b<w.heap.size/\w.cell? ⟨b,o+k,none⟩=some (.int .i64 (xs k)):=by
 obtain⟨h1,b',o',e,h2,h3⟩:=h k hk
 injection e with e1
 injection e1 with e2 e3
 subst e2 e3
 exact⟨h1.2,h2,h3⟩
theorem xE{a b:Nat}(ha:a<18446744073709551616)(hb:b<18446744073709551616):maxB a b<18446744073709551616:=by
 unfold maxB
 split
 ·decide
 ·split<;>assumption
theorem jW{e:Int}{N:Nat}(h:inR e (N:Nat)=true): ∃E:Nat,e=(E:Int)/\E<N:=by
 obtain⟨h1,h2⟩:=bX.1 h
 obtain⟨E,rfl⟩:=Int.eq_ofNat_of_zero_le h1
 exact⟨E,rfl,by omega⟩
theorem sQ{n:Nat}{k:Int}{lb lw:Nat}{B:Nat->Nat}{W:Nat->Int}{e:Int}{u:Nat}(h: ¬(inR e (12*n*n:Nat)=true/\lb=6*n*n/\lw=6*n*n)):rdAll n k lb lw B W e u=0:=by unfold rdAll;rw[if_neg h]
theorem rdAll_eN{n:Nat}{k:Int}{B:Nat->Nat}{W:Nat->Int}{t u:Nat}(hn:1<=n)(ht:t<24*n*n)(hl:isL n t=true):rdAll n k (6*n*n) (6*n*n) B W (eN n t:Nat) u=rdT n k (arC n) B W t u:=by
 unfold rdAll
 rw[if_pos ⟨bX.2 (by have:=iR hn ht hl;omega),rfl,rfl⟩,Int.toNat_natCast,uQ hn ht hl]
theorem IsFl.some0{w:World}{a0:Option Addr}{len:Nat}{xs:Nat->Nat}(h:IsFl w a0 len xs)(h0:0<len): ∃b o,a0=some ⟨b,o,none⟩:=by
 obtain⟨_,b,o,e,_⟩:=h 0 h0
 exact⟨b,o,e⟩
theorem IsIn.some0{w:World}{a0:Option Addr}{len:Nat}{xs:Nat->Int}(h:IsIn w a0 len xs)(h0:0<len): ∃b o,a0=some ⟨b,o,none⟩:=by
 obtain⟨_,b,o,e,_⟩:=h 0 h0
 exact⟨b,o,e⟩
theorem xF{n:Nat}(hn:1<=n):0<6*n*n:=Nat.mul_pos (Nat.mul_pos (by decide) hn) hn
end
section
open Go.RowKit Tf Cu Go.Deep
attribute [local go_sem] aI aJ aN aO aP aQ aV aF
namespace Spl
theorem jX(pa pb:Option Addr)(len ca cb:Nat)(xs:Nat->Int)(w:World)(hl:len<=281474976710656)(hA:Sh.IsI w pa len xs)(hB:Sh.IsI w pb len xs):
  Calls prog 15 #[.slice pa len ca,.slice pb len cb] w fun e w'=>e=.returned (.bool true)/\Below w.heap.size w w':=by
 have HA:=hid hA
 have HB:=hid hB
 have HL:=hid hl
 clear hA hB hl
 go_enter func15,ntmps15
 go_wp2
 go_loopw [5] (fun iv wr=> ∃c:Nat,c<=len/\iv=.int .i64 (c:Nat)/\Ab w wr) (fun iv _=>len - (intOf iv).toNat)
 case atStart=>exact⟨0,by omega,rfl,Ab.refl w⟩
 case round=>
  obtain⟨c,hc,rfl,ar⟩:=hrel
  have AR:=hid ar
  clear ar
  by_cases h:c<len
  ·have HC:=hid h
   obtain⟨x,hx⟩:=aB (xs c)
   obtain⟨-,b1,o1,e1,l1,c1⟩:=HA.out c h
   obtain⟨-,b2,o2,e2,l2,c2⟩:=HB.out c h
   rw[hx]at c1 c2
   have C1:=hid c1
   have C2:=hid c2
   have L1:=hid l1
   have L2:=hid l2
   have hcI:(c:Int)<len:=by omega
   have hcB:(c:Int)<=281474976710656:=by have:=HL.out;omega
   clear c1 c2 l1 l2 hx h
   subst e1 e2
   go_upto_region 6 with fail
   obtain⟨UU,E,hF1,hF2⟩:=cls wr
   have HU:=hid hF2
   have HU1:=hid hF1
   have x1: ∀u,(E u).cell? ⟨b1,o1+c,none⟩=some (.int .i64 x):=fun u=>(Below.cell (AR.out.trans (hF1 u)) L1.out).trans C1.out
   have x2: ∀u,(E u).cell? ⟨b2,o2+c,none⟩=some (.int .i64 x):=fun u=>(Below.cell (AR.out.trans (hF1 u)) L2.out).trans C2.out
   have DD0:=HU.out _ (Ab.refl wr).drew
   clear hF1 hF2
   refine aG E (by kernel_rfl) (by kernel_rfl) DD0 ?_
   repeat(go_big_quiet_step (with_reducible rfl))
   refine wpQuiet_nil ?_
   intro z hwz
   obtain⟨u0,hu⟩:=hwz
   have AZ:Hid (Ab w z):=by rw[hu];exact AR.out.trans (HU1.out u0)
   clear hu u0
   clear HU HU1 DD0 x1 x2
   clear E UU
   go_wp2
   go_roundw
   case rel=>exact⟨c+1,by have:=HC.out;omega,by simp,AZ.out⟩
   case measure=>simp[intOf];have:=HC.out;omega
  ·have e:len=c:=by omega
   subst e
   go_wp2
   go_ret
   exact⟨rfl,AR.out⟩
end Spl
end
section
open Go.RowKit Tf Cu Go.Deep
attribute [local go_sem] aI aJ aN aO aP aQ aV aF
namespace Spl
theorem lv_0:lsP 1 6 0=[0]:=by decide+kernel
theorem lv_1:lsP 1 6 1=[0,1,2,3]:=by decide+kernel
theorem lv_15:lsP 1 6 15=[5]:=by decide+kernel
theorem lv_16:lsP 1 6 16=[]:=by decide+kernel
theorem lv_17:lsP 1 6 17=[]:=by decide+kernel
theorem one_in22(v:World):Sh.IsI (v.alloc (.cells #[.int .i64 0] 3)) (some ⟨v.heap.size,0,none⟩) 1 (rd [0]):=by
 have h:=heap_alloc_new v (.cells #[.int .i64 0] 3)
 intro k hk
 match k,hk with
 | 0,_=>exact⟨by decide,_,0,rfl,lt_of_block h,aA 0 h⟩
theorem yZ(v:World):Sh.IsI (v.alloc (.cells #[.int .i64 0,.int .i64 1,.int .i64 2,.int .i64 3] 3)) (some ⟨v.heap.size,0,none⟩) 4 (rd [0,1,2,3]):=by
 have h:=heap_alloc_new v (.cells #[.int .i64 0,.int .i64 1,.int .i64 2,.int .i64 3] 3)
 intro k hk
 match k,hk with
 | 0,_=>exact⟨by decide,_,0,rfl,lt_of_block h,aA 0 h⟩
 | 1,_=>exact⟨by decide,_,0,rfl,lt_of_block h,aA 1 h⟩
 | 2,_=>exact⟨by decide,_,0,rfl,lt_of_block h,aA 2 h⟩
 | 3,_=>exact⟨by decide,_,0,rfl,lt_of_block h,aA 3 h⟩
theorem lk_in: ∀k,k<6-> -9223372036854775808<=lkW k/\lkW k<=9223372036854775807:=by decide+kernel
theorem lv_w0:shW (mk2 1 0 (rd [5]) (rd [])) lkW 0=0:=by decide+kernel
theorem lv_w5:shW (mk2 1 0 (rd [5]) (rd [])) lkW 5=1431655765:=by decide+kernel
theorem lv_fit:fit22 1 1 0 0 (rd [5]) (rd []) (rd []) 6 6 6 12:=by
 refine⟨⟨rfl,rfl,rfl,rfl⟩,fun i hi=> ?_,fun i hi=>absurd hi (by omega),fun i hi=>absurd hi (by omega)⟩
 match i,hi with
 | 0,_=>exact⟨by decide,by decide⟩
theorem lv_bnd:Bnd 6 6 6 12 (shB (mk2 1 0 (rd [5]) (rd [])) (fun _=>0)) (shW (mk2 1 0 (rd [5]) (rd [])) lkW) (shW (mk2 1 0 (rd [5]) (rd [])) (fun _=>0)) (shB (hs 0 (rd [])) (fun _=>0)):=by
 refine⟨fun i _=> ?_,fun i hi=> ?_,fun i _=> ?_,fun i _=> ?_⟩
 ·unfold shB;split<;>exact(by decide:0<18446744073709551616)
 ·unfold shW;split
  ·exact lk_in i hi
  ·unfold W64;decide
 ·unfold shW;split<;>exact(by unfold W64;decide:W64 0)
 ·unfold shB;split<;>exact(by decide:0<18446744073709551616)
theorem uX(SC:SplitC)(LC:LocalC)(w:World)(hF:Fr w):Calls prog 4 #[] w fun e w'=>e=.returned (.bool true)/\Below w.heap.size w w':=by
 have NW:=hid (new_at 1 w (by omega) hF)
 have HS:=hid SC
 have HL:=hid LC
 clear hF SC LC
 go_enter func4,ntmps4
 go_wp2_with fail
 refine NW.out.mono ?_
 rintro e v1 ⟨gb,rfl,a1,-,g1⟩
 have A1:Hid (Ab w v1):=a1
 have G1:Hid (GridOf 1 gb v1):=g1
 clear a1 g1 NW
 go_wp2_with fail
 refine((HS.out 1 gb 6 v1 (by omega) G1.out (by unfold W64;omega)).1 (by omega)).mono ?_
 rintro e v2 ⟨gl,gc,ge,X,rfl,b2,os⟩
 obtain⟨p,c,-,ps⟩:=pE (P:=6) (by omega) os
 have P2:Hid (PsAt 1 6 gl p c v2):=ps
 have A2:Hid (Ab w v2):=A1.out.trans b2
 have G2:=hid (G1.out.to b2)
 clear os ps b2 A1 G1
 have e6:(6:Int).toNat=6:=rfl
 rw[e6]
 have c0:v2.cell? ⟨gl,0,none⟩=some (.slice (p 0) 1 (c 0)):=by have h:=(P2.out.2 0 (by decide)).1;rw[lv_0]at h;exact h
 go_wp2_with fail
 have N1:=hid (jX (p 0) (some ⟨v2.heap.size,0,none⟩) 1 (c 0) 1 (rd [0]) (v2.alloc (.cells #[.int .i64 0] 3)) (by omega) (by have h:=(P2.out.2 0 (by decide)).2;rw[lv_0]at h;exact h.below (bl1 _ _)) (one_in22 v2))
 refine N1.out.mono ?_
 rintro e v3 ⟨rfl,b3⟩
 have B3:Hid (Ab v2 v3):=Ab.trans (bl1 v2 (.cells #[.int .i64 0] 3)) b3
 have A3:Hid (Ab w v3):=A2.out.trans B3.out
 have P3:=hid (P2.out.to B3.out)
 have G3:=hid (G2.out.to B3.out)
 clear N1 b3 A2 P2 G2 B3 c0
 have c1:v3.cell? ⟨gl,1,none⟩=some (.slice (p 1) 4 (c 1)):=by have h:=(P3.out.2 1 (by decide)).1;rw[lv_1]at h;exact h
 go_wp2_with fail
 have N1:=hid (jX (p 1) (some ⟨v3.heap.size,0,none⟩) 4 (c 1) 4 (rd [0,1,2,3]) (v3.alloc (.cells #[.int .i64 0,.int .i64 1,.int .i64 2,.int .i64 3] 3)) (by omega) (by have h:=(P3.out.2 1 (by decide)).2;rw[lv_1]at h;exact h.below (bl1 _ _)) (yZ v3))
 refine N1.out.mono ?_
 rintro e v4 ⟨rfl,b4⟩
 have B4:Hid (Ab v3 v4):=Ab.trans (bl1 v3 (.cells #[.int .i64 0,.int .i64 1,.int .i64 2,.int .i64 3] 3)) b4
 have A4:Hid (Ab w v4):=A3.out.trans B4.out
 have P4:=hid (P3.out.to B4.out)
 have G4:=hid (G3.out.to B4.out)
 clear N1 b4 A3 P3 G3 B4 c1
 have c16:v4.cell? ⟨gl,16,none⟩=some (.slice (p 16) 0 (c 16)):=by have h:=(P4.out.2 16 (by decide)).1;rw[lv_16]at h;exact h
 go_wp2_with fail
 have LK:=hid (yV v4 G4.out)
 refine LK.out.mono ?_
 rintro e v5 ⟨b1,b2,b3,b4,rfl,k5,r1,r2,r3,r4,nb⟩
 have AV:Hid (Ab v4 (v5.alloc (.cells #[.slice (some ⟨b1,0,none⟩) 6 6,.slice (some ⟨b2,0,none⟩) 6 6,.slice (some ⟨b3,0,none⟩) 6 6,.slice (some ⟨b4,0,none⟩) 12 12,.int .i64 0,.int .i64 0] 29))):=Ab.alloc (show Ab v4 v5 from k5) _
 have SR:=hid (heap_alloc_new v5 (.cells #[.slice (some ⟨b1,0,none⟩) 6 6,.slice (some ⟨b2,0,none⟩) 6 6,.slice (some ⟨b3,0,none⟩) 6 6,.slice (some ⟨b4,0,none⟩) 12 12,.int .i64 0,.int .i64 0] 29))
 have I1:Hid (IsFl (v5.alloc (.cells #[.slice (some ⟨b1,0,none⟩) 6 6,.slice (some ⟨b2,0,none⟩) 6 6,.slice (some ⟨b3,0,none⟩) 6 6,.slice (some ⟨b4,0,none⟩) 12 12,.int .i64 0,.int .i64 0] 29)) (some ⟨b1,0,none⟩) 6 (fun _=>0)):=rowIs.fl (r1.alloc _) (fun _ _=>by decide)
 have I2:Hid (Sh.IsI (v5.alloc (.cells #[.slice (some ⟨b1,0,none⟩) 6 6,.slice (some ⟨b2,0,none⟩) 6 6,.slice (some ⟨b3,0,none⟩) 6 6,.slice (some ⟨b4,0,none⟩) 12 12,.int .i64 0,.int .i64 0] 29)) (some ⟨b2,0,none⟩) 6 lkW):=Sh.row_in (r2.alloc _) lk_in
 have I3:Hid (Sh.IsI (v5.alloc (.cells #[.slice (some ⟨b1,0,none⟩) 6 6,.slice (some ⟨b2,0,none⟩) 6 6,.slice (some ⟨b3,0,none⟩) 6 6,.slice (some ⟨b4,0,none⟩) 12 12,.int .i64 0,.int .i64 0] 29)) (some ⟨b3,0,none⟩) 6 (fun _=>0)):=Sh.row_in (r3.alloc _) (fun _ _=>by decide)
 have I4:Hid (IsFl (v5.alloc (.cells #[.slice (some ⟨b1,0,none⟩) 6 6,.slice (some ⟨b2,0,none⟩) 6 6,.slice (some ⟨b3,0,none⟩) 6 6,.slice (some ⟨b4,0,none⟩) 12 12,.int .i64 0,.int .i64 0] 29)) (some ⟨b4,0,none⟩) 12 (fun _=>0)):=rowIs.fl (r4.alloc _) (fun _ _=>by decide)
 have NB:Hid (v5.heap.size≠b1/\v5.heap.size≠b2/\v5.heap.size≠b3/\v5.heap.size≠b4/\v4.heap.size<=v5.heap.size):=⟨by have:=r1.lt;omega,by have:=r2.lt;omega,by have:=r3.lt;omega,by have:=r4.lt;omega,Ab.size (show Ab v4 v5 from k5)⟩
 clear k5 r1 r2 r3 r4 nb LK c16
 go_upto_region 8 with fail
 generalize hW:World.alloc v5 _=V6 at*
 obtain⟨gs,hgs⟩:=aB v5.heap.size
 rw[hgs]at SR NB ⊢
 clear hW hgs
 have x4:=aA 4 SR.out
 have x5:=aA 5 SR.out
 have f4:=aE SR.out 4
 have SR2:Hid ((V6.setCell ⟨gs,4,none⟩ (.int .i64 9)).heap[gs]? =some (.cells #[.slice (some ⟨b1,0,none⟩) 6 6,.slice (some ⟨b2,0,none⟩) 6 6,.slice (some ⟨b3,0,none⟩) 6 6,.slice (some ⟨b4,0,none⟩) 12 12,.int .i64 9,.int .i64 0] 29)):=aM SR.out
 have y5:=aA 5 SR2.out
 have f5:=aE SR2.out 5
 have SR3:Hid (((V6.setCell ⟨gs,4,none⟩ (.int .i64 9)).setCell ⟨gs,5,none⟩ (.int .i64 8)).heap[gs]? =some (.cells #[.slice (some ⟨b1,0,none⟩) 6 6,.slice (some ⟨b2,0,none⟩) 6 6,.slice (some ⟨b3,0,none⟩) 6 6,.slice (some ⟨b4,0,none⟩) 12 12,.int .i64 9,.int .i64 8] 29)):=aM SR2.out
 have ne: ∀b:Nat,gs≠b-> ∀c o,(some ⟨b,0,none⟩:Option Addr)=some ⟨c,o,none⟩->c≠gs:=fun b h c o e=>by injection e with e;injection e with e1 e2;subst e1;exact fun q=>h q.symm
 have J1:=hid (dQ (g:=gs) (k:=5) (.int .i64 8) (dQ (g:=gs) (k:=4) (.int .i64 9) I1.out (ne _ NB.out.1)) (ne _ NB.out.1))
 have J2:=hid (fQ (g:=gs) (k:=5) (.int .i64 8) (fQ (g:=gs) (k:=4) (.int .i64 9) I2.out (ne _ NB.out.2.1)) (ne _ NB.out.2.1))
 have J3:=hid (fQ (g:=gs) (k:=5) (.int .i64 8) (fQ (g:=gs) (k:=4) (.int .i64 9) I3.out (ne _ NB.out.2.2.1)) (ne _ NB.out.2.2.1))
 have J4:=hid (dQ (g:=gs) (k:=5) (.int .i64 8) (dQ (g:=gs) (k:=4) (.int .i64 9) I4.out (ne _ NB.out.2.2.2.1)) (ne _ NB.out.2.2.2.1))
 have A7:Hid (Ab v4 ((V6.setCell ⟨gs,4,none⟩ (.int .i64 9)).setCell ⟨gs,5,none⟩ (.int .i64 8))):=(AV.out.setk NB.out.2.2.2.2 _).setk NB.out.2.2.2.2 _
 go_upto_region 10 with fail
 generalize hW:(V6.setCell ⟨gs,4,none⟩ (.int .i64 9)).setCell ⟨gs,5,none⟩ (.int .i64 8)=v7 at*
 clear hW x4 x5 f4 f5 y5 SR SR2 I1 I2 I3 I4 AV ne
 have P7:=hid (P4.out.to A7.out)
 have G7:=hid (G4.out.to A7.out)
 have B7:Hid (Ab w v7):=A4.out.trans A7.out
 clear P4 G4 A4 A7
 have K15:Hid (v7.cell? ⟨gl,15,none⟩=some (.slice (p 15) 1 (c 15))/\Sh.IsI v7 (p 15) 1 (rd [5])):=by have h:=P7.out.2 15 (by decide);rw[lv_15]at h;exact h
 have K16:Hid (v7.cell? ⟨gl,16,none⟩=some (.slice (p 16) 0 (c 16))/\Sh.IsI v7 (p 16) 0 (rd [])):=by have h:=P7.out.2 16 (by decide);rw[lv_16]at h;exact h
 have K17:Hid (v7.cell? ⟨gl,17,none⟩=some (.slice (p 17) 0 (c 17))/\Sh.IsI v7 (p 17) 0 (rd [])):=by have h:=P7.out.2 17 (by decide);rw[lv_17]at h;exact h
 have CL:Hid (∀v,Ab v7 v->Calls prog 9 #[.pointer (some ⟨gb,0,none⟩),.agg #[.slice (p 15) 1 (c 15),.slice (p 16) 0 (c 16),.slice (p 17) 0 (c 17)],.agg #[.slice (some ⟨b1,0,none⟩) 6 6,.slice (some ⟨b2,0,none⟩) 6 6,.slice (some ⟨b3,0,none⟩) 6 6,.slice (some ⟨b4,0,none⟩) 12 12,.int .i64 9,.int .i64 8]] v fun e w'=> ∃s,e=.returned (.tuple #[s,.int .i64 0])/\Below v.heap.size v w'/\OwnS v.heap.size s 6 6 6 12 (shB (mk2 1 0 (rd [5]) (rd [])) (fun _=>0)) (shW (mk2 1 0 (rd [5]) (rd [])) lkW) (shW (mk2 1 0 (rd [5]) (rd [])) (fun _=>0)) (shB (hs 0 (rd [])) (fun _=>0)) 0 8 w'/\Ab v7 v):=fun v a=>
  ((HL.out 1 gb (p 15) 1 (c 15) (rd [5]) (p 16) 0 (c 16) (rd []) (p 17) 0 (c 17) (rd []) (some ⟨b1,0,none⟩) 6 6 (fun _=>0) (some ⟨b2,0,none⟩) 6 6 lkW (some ⟨b3,0,none⟩) 6 6 (fun _=>0) (some ⟨b4,0,none⟩) 12 12 (fun _=>0) 9 8 v (by omega) (G7.out.to a) (by unfold W64;omega) (by omega) (by omega) (K15.out.2.below a) (K16.out.2.below a) (K17.out.2.below a) (J1.out.below a) (J2.out.below a) (J3.out.below a) (J4.out.below a)).1 lv_fit).mono (fun e w' ⟨s,h1,h2,h3⟩=>⟨s,h1,h2,h3,a⟩)
 have HG:Hid (gl<v7.heap.size):=P7.out.1
 have BF:=hid lv_bnd
 go_cut [2,5]from 54 to 62 (fun s2 s5 wx=> ∃gm mp1 mc1 mp2 mc2 mp3 mc3 mp4 mc4,s2=.int .i64 0/\s5=.pointer (some ⟨gm,0,none⟩)/\Ab v7 wx/\v7.heap.size<=gm/\SeaP gm mp1 mc1 mp2 mc2 mp3 mc3 mp4 mc4 6 6 6 12 (shB (mk2 1 0 (rd [5]) (rd [])) (fun _=>0)) (shW (mk2 1 0 (rd [5]) (rd [])) lkW) (shW (mk2 1 0 (rd [5]) (rd [])) (fun _=>0)) (shB (hs 0 (rd [])) (fun _=>0)) 0 8 wx/\((∀b o,mp1=some ⟨b,o,none⟩->v7.heap.size<=b)/\(∀b o,mp2=some ⟨b,o,none⟩->v7.heap.size<=b)/\(∀b o,mp3=some ⟨b,o,none⟩->v7.heap.size<=b)/\ ∀b o,mp4=some ⟨b,o,none⟩->v7.heap.size<=b))
 case first=>
  have av:Ab v7 v7:=Ab.refl _
  have KS:Hid (∀w',Ab v7 w'->Ab v7 w'/\w'.cell? ⟨gl,15,none⟩=some (.slice (p 15) 1 (c 15))/\w'.cell? ⟨gl,16,none⟩=some (.slice (p 16) 0 (c 16))/\w'.cell? ⟨gl,17,none⟩=some (.slice (p 17) 0 (c 17))/\w'.cell? ⟨gs,0,none⟩=some (.slice (some ⟨b1,0,none⟩) 6 6)/\w'.cell? ⟨gs,1,none⟩=some (.slice (some ⟨b2,0,none⟩) 6 6)/\w'.cell? ⟨gs,2,none⟩=some (.slice (some ⟨b3,0,none⟩) 6 6)/\w'.cell? ⟨gs,3,none⟩=some (.slice (some ⟨b4,0,none⟩) 12 12)/\w'.cell? ⟨gs,4,none⟩=some (.int .i64 9)/\w'.cell? ⟨gs,5,none⟩=some (.int .i64 8)):=fun w' h=>⟨h,(Below.cell h HG.out).trans K15.out.1,(Below.cell h HG.out).trans K16.out.1,(Below.cell h HG.out).trans K17.out.1,aA 0 (h.heap SR3.out),aA 1 (h.heap SR3.out),aA 2 (h.heap SR3.out),aA 3 (h.heap SR3.out),aA 4 (h.heap SR3.out),aA 5 (h.heap SR3.out)⟩
  go_region_held3 (fun w'=>Ab v7 w'/\w'.cell? ⟨gl,15,none⟩=some (.slice (p 15) 1 (c 15))/\w'.cell? ⟨gl,16,none⟩=some (.slice (p 16) 0 (c 16))/\w'.cell? ⟨gl,17,none⟩=some (.slice (p 17) 0 (c 17))/\w'.cell? ⟨gs,0,none⟩=some (.slice (some ⟨b1,0,none⟩) 6 6)/\w'.cell? ⟨gs,1,none⟩=some (.slice (some ⟨b2,0,none⟩) 6 6)/\w'.cell? ⟨gs,2,none⟩=some (.slice (some ⟨b3,0,none⟩) 6 6)/\w'.cell? ⟨gs,3,none⟩=some (.slice (some ⟨b4,0,none⟩) 12 12)/\w'.cell? ⟨gs,4,none⟩=some (.int .i64 9)/\w'.cell? ⟨gs,5,none⟩=some (.int .i64 8)) ((refine KS.out _ ?_;(with_reducible (repeat(first | assumption | apply Ab.drew | apply Ab.alloc | (refine Ab.setk ?_ (by first | assumption | exact Nat.le_refl _) _))));done)) (first
   | (go_at_call 9;refine(CL.out _ (show Ab v7 _ by with_reducible (repeat(first | assumption | apply Ab.drew | apply Ab.alloc)))).mono ?_;rintro e9 z2 ⟨vv,rfl,c2,os,lo⟩;have az2:Ab v7 z2:=Ab.trans lo c2;have LO:=hid (Ab.size lo);clear lo;first
    | (have q0:=Ab.heap c2 (dA _ _);obtain⟨mp1,mc1,mp2,mc2,mp3,mc3,mp4,mc4,rfl,q2,FIN,MM⟩:=lY (dA _ _) c2 os BF.out;have t0:=aA 0 q2;have f0:=aE q2 0;have t1:=aA 1 q2;have f1:=aE q2 1;have t2:=aA 2 q2;have f2:=aE q2 2;have t3:=aA 3 q2;have f3:=aE q2 3;have t4:=aA 4 q2;have f4:=aE q2 4;have t5:=aA 5 q2;have f5:=aE q2 5;skip)
    | (have q0:=Ab.heap c2 (heap_alloc_new _ _);obtain⟨mp1,mc1,mp2,mc2,mp3,mc3,mp4,mc4,rfl,q2,FIN,MM⟩:=lY (heap_alloc_new _ _) c2 os BF.out;have t0:=aA 0 q2;have f0:=aE q2 0;have t1:=aA 1 q2;have f1:=aE q2 1;have t2:=aA 2 q2;have f2:=aE q2 2;have t3:=aA 3 q2;have f3:=aE q2 3;have t4:=aA 4 q2;have f4:=aE q2 4;have t5:=aA 5 q2;have f5:=aE q2 5;skip)
    | (obtain⟨mp1,mc1,mp2,mc2,mp3,mc3,mp4,mc4,rfl,FIN,MM⟩:=wX os BF.out)))
  all_goals(try go_wp2_with fail)
  all_goals(try go_meet)
  all_goals first
   | (have q9:=q2;exact⟨_,_,_,_,_,_,_,_,_,rfl,rfl,(((((az2.setk (Nat.le_refl _) _).setk (Nat.le_refl _) _).setk (Nat.le_refl _) _).setk (Nat.le_refl _) _).setk (Nat.le_refl _) _).setk (Nat.le_refl _) _,Nat.le_refl _,FIN,MM.up LO.out⟩)
   | exact⟨_,_,_,_,_,_,_,_,_,rfl,rfl,az2.alloc _,az2.size,FIN,MM.up LO.out⟩
 case rest=>
  obtain⟨gm,mp1,mc1,mp2,mc2,mp3,mc3,mp4,mc4,rfl,rfl,ac,ltm,spm,mmm⟩:=hcut
  rename World=>v8
  have A8:Hid (Ab v7 v8):=ac
  have S9:=hid spm
  clear ac ltm spm mmm CL K15 K16 K17 J1 J2 J3 J4 SR3 P7 HL HG BF
  go_upto_region 11 with fail
  have G8:=hid (G7.out.to A8.out)
  have B8:Hid (Ab w v8):=B7.out.trans A8.out
  have AR:=hid (fun v (a:Ab v8 v)=>dI (n:=1) (k:=5) (by omega) (by decide) (G8.out.to a))
  have ea:arI (ArC 1 5)=1431655765:=by decide+kernel
  rw[ea]at AR
  obtain⟨q2,o2,e2⟩:=S9.out.2.2.1.some0 (by omega)
  have w0:=(S9.out.2.2.1 0 (by omega)).2
  have w5:=(S9.out.2.2.1 5 (by omega)).2
  subst e2
  obtain⟨_,_,e0,l0,w0⟩:=w0
  cases e0
  obtain⟨_,_,e5,-,w5⟩:=w5
  cases e5
  rw[lv_w0]at w0
  rw[lv_w5]at w5
  have W0:=hid w0
  have W5:=hid w5
  have L0:=hid l0
  clear w0 w5 ea l0
  obtain⟨UU,E,hF1,hF2⟩:=cls v8
  have HU:=hid hF2
  have HU1:=hid hF1
  have s1: ∀u,(E u).cell? ⟨gm,1,none⟩=some (.slice (some ⟨q2,o2,none⟩) 6 mc2):=fun u=>aA 1 ((hF1 u).heap S9.out.1)
  have s3: ∀u,(E u).cell? ⟨gm,3,none⟩=some (.slice mp4 12 mc4):=fun u=>aA 3 ((hF1 u).heap S9.out.1)
  have s4: ∀u,(E u).cell? ⟨gm,4,none⟩=some (.int .i64 0):=fun u=>aA 4 ((hF1 u).heap S9.out.1)
  have s5: ∀u,(E u).cell? ⟨gm,5,none⟩=some (.int .i64 8):=fun u=>aA 5 ((hF1 u).heap S9.out.1)
  have k0: ∀u,(E u).cell? ⟨q2,o2,none⟩=some (.int .i64 0):=fun u=>(Below.cell (hF1 u) L0.out).trans W0.out
  have k5: ∀u,(E u).cell? ⟨q2,o2+5,none⟩=some (.int .i64 1431655765):=fun u=>(Below.cell (hF1 u) L0.out).trans W5.out
  have DD0:=HU.out _ (Ab.refl v8).drew
  clear hF1 hF2
  refine aG E (by kernel_rfl) (by kernel_rfl) DD0 ?_
  repeat(go_big_quiet_step (first
   | (with_reducible rfl)
   | (go_at_call 17;exact aD HU HU1 (AR.out _ (HU1.out _)))))
  refine wpQuiet_nil ?_
  intro z hwz
  obtain⟨u0,hu⟩:=hwz
  have AZ:Hid (Ab v8 z):=by rw[hu];exact HU1.out u0
  clear hu u0
  clear HU HU1 DD0 s1 s3 s4 s5 k0 k5
  clear E UU
  go_wp2_with fail
  refine((HS.out 1 gb 65 z (by omega) (G8.out.to AZ.out) (by unfold W64;omega)).2 (by omega)).mono ?_
  rintro e v9 ⟨rfl,b9⟩
  go_wp2
  go_ret
  exact⟨rfl,B8.out.trans (AZ.out.trans b9)⟩
end Spl
end
section
open Go.RowKit Tf Cu Go.Deep
theorem pN(pa pb:Option Addr)(len ca cb:Nat)(xs:Nat->Int)(w:World)(hl:len<=281474976710656)(hA:IsIn w pa len xs)(hB:IsIn w pb len xs):
  Calls prog 40 #[.slice pa len ca,.slice pb len cb] w fun e w'=>e=.returned (.bool true)/\Below w.heap.size w w':=by
 have HA:=hid hA
 have HB:=hid hB
 have HL:=hid hl
 clear hA hB hl
 go_enter func40,ntmps40
 go_wp2
 go_loopw [5] (fun iv wr=> ∃c:Nat,c<=len/\iv=.int .i64 (c:Nat)/\Ab w wr) (fun iv _=>len - (intOf iv).toNat)
 case atStart=>exact⟨0,by omega,rfl,Ab.refl w⟩
 case round=>
  obtain⟨c,hc,rfl,ar⟩:=hrel
  have AR:=hid ar
  clear ar
  by_cases h:c<len
  ·have HC:=hid h
   obtain⟨x,hx⟩:=aB (xs c)
   obtain⟨-,b1,o1,e1,l1,c1⟩:=HA.out c h
   obtain⟨-,b2,o2,e2,l2,c2⟩:=HB.out c h
   rw[hx]at c1 c2
   have C1:=hid c1
   have C2:=hid c2
   have L1:=hid l1
   have L2:=hid l2
   have hcI:(c:Int)<len:=by omega
   have hcB:(c:Int)<=281474976710656:=by have:=HL.out;omega
   clear c1 c2 l1 l2 hx h
   subst e1 e2
   go_upto_region 6 with fail
   obtain⟨UU,E,hF1,hF2⟩:=cls wr
   have HU:=hid hF2
   have HU1:=hid hF1
   have x1: ∀u,(E u).cell? ⟨b1,o1+c,none⟩=some (.int .i64 x):=fun u=>(Below.cell (AR.out.trans (hF1 u)) L1.out).trans C1.out
   have x2: ∀u,(E u).cell? ⟨b2,o2+c,none⟩=some (.int .i64 x):=fun u=>(Below.cell (AR.out.trans (hF1 u)) L2.out).trans C2.out
   have DD0:=HU.out _ (Ab.refl wr).drew
   clear hF1 hF2
   refine aG E (by kernel_rfl) (by kernel_rfl) DD0 ?_
   repeat(go_big_quiet_step (with_reducible rfl))
   refine wpQuiet_nil ?_
   intro z hwz
   obtain⟨u0,hu⟩:=hwz
   have AZ:Hid (Ab w z):=by rw[hu];exact AR.out.trans (HU1.out u0)
   clear hu u0
   clear HU HU1 DD0 x1 x2
   clear E UU
   go_wp2
   go_roundw
   case rel=>exact⟨c+1,by have:=HC.out;omega,by simp,AZ.out⟩
   case measure=>simp[intOf];have:=HC.out;omega
  ·have e:len=c:=by omega
   subst e
   go_wp2
   go_ret
   exact⟨rfl,AR.out⟩
end
section
open Tf Ieee
def qt4(u d l t:Nat):Nat:=mlB (mlB (mlB (mlB u d) l) t) 4742290407621132288
def qnB(u d l t:Nat):Int:=clampB (qt4 u d l t) 4503599627370496
section
variable {u d l t:Nat} (hu:u<18446744073709551616) (hd:d<18446744073709551616) (hl:l<18446744073709551616) (ht:t<18446744073709551616)
end
end
section
open Go.RowKit Tf Cu Go.Deep
attribute [local go_sem] aI aJ aN aO aP aQ aV aF
def lnE(n i:Nat):Nat:=LnC n (edT n i/4) (edT n i%4)
def flB(n:Nat)(lim:Int)(B:Nat->Nat)(W:Nat->Int)(Sp:Nat->Nat)(dt i:Nat):Int:=qnB (Sp i) (rdAll n lim (6*n*n) (6*n*n) B W (i:Nat) (Sp i)) (lnE n i) dt
def QuantaC:Prop:= ∀(u d l t:Nat) (w:World),u<18446744073709551616->d<18446744073709551616->l<18446744073709551616->t<18446744073709551616->
 Calls prog 33 #[.float .f64 u,.float .f64 d,.float .f64 l,.float .f64 t] w fun e w'=>e=.returned (.int .i64 (qnB u d l t))/\Below w.heap.size w w'
def AllC:Prop:= ∀(n gb:Nat) (sd:Int) (dt gr dr:Nat) (lim:Int) (rv:Bool) (pr:Option Addr) (lr cr:Nat) (pb:Option Addr) (lb cb:Nat) (B:Nat->Nat) (pw:Option Addr) (lw cw:Nat) (Wt:Nat->Int) (pt:Option Addr) (lt ct:Nat) (ps:Option Addr) (ls cs:Nat) (Sp:Nat->Nat) (sky st:Int) (w:World),(1<=n/\n<=32)->GridOf n gb w->IsFl w pb lb B->IsIn w pw lw Wt->IsFl w ps ls Sp->dt<18446744073709551616->
 ((lb=6*n*n/\lw=6*n*n/\lt=6*n*n/\ls=12*n*n)->Calls prog 8 #[.pointer (some ⟨gb,0,none⟩),.agg #[.int .i64 sd,.float .f64 dt,.float .f64 gr,.float .f64 dr,.int .i64 lim,.bool rv,.slice pr lr cr],.agg #[.slice pb lb cb,.slice pw lw cw,.slice pt lt ct,.slice ps ls cs,.int .i64 sky,.int .i64 st]] w fun e w'=> ∃b,e=.returned (.tuple #[.slice (some ⟨b,0,none⟩) (12*n*n) (12*n*n),.int .i64 0])/\Below w.heap.size w w'/\w'.rowIs b 2 (12*n*n) (fun i=>.int .i64 (flB n lim B Wt Sp dt i))/\w.heap.size<=b)/\
 (¬(lb=6*n*n/\lw=6*n*n/\lt=6*n*n/\ls=12*n*n)->Calls prog 8 #[.pointer (some ⟨gb,0,none⟩),.agg #[.int .i64 sd,.float .f64 dt,.float .f64 gr,.float .f64 dr,.int .i64 lim,.bool rv,.slice pr lr cr],.agg #[.slice pb lb cb,.slice pw lw cw,.slice pt lt ct,.slice ps ls cs,.int .i64 sky,.int .i64 st]] w fun e w'=>e=.returned (.tuple #[.slice none 0 0,.int .i64 1])/\Below w.heap.size w w')
theorem uY{n:Nat}{k:Int}{lb lw:Nat}{B:Nat->Nat}{W:Nat->Int}(hn:1<=n)(hB: ∀i,i<lb->B i<18446744073709551616)(hW: ∀i,i<lw->W i<=9223372036854775807)(e:Int)(u:Nat):rdAll n k lb lw B W e u<18446744073709551616/\ng (rdAll n k lb lw B W e u)=false:=by
 have z:(0:Nat)<18446744073709551616/\ng 0=false:=by decide
 unfold rdAll
 split
 ·rename_i c
  obtain⟨c1,rfl,rfl⟩:=c
  obtain⟨E,rfl,hE⟩:=jW c1
  rw[Int.toNat_natCast]
  obtain⟨t1,t2,t3⟩:=bQ hn hE
  generalize edT n E=t at*
  have key: ∀t,t<24*n*n->sdD n k (arC n) B W t<18446744073709551616/\ng (sdD n k (arC n) B W t)=false:=fun t ht=>by
   have cU:=bR ht
   have cD:=bR (fA hn ht)
   have wU:=hW _ cU
   have bU:=hB _ cU
   have bD:=hB _ cD
   unfold sdD ovC rcR
   have ml:=qW (rcV_lt (k:=k) (hb:=dpB (W (bkC n t)) (arC n (bkC n t))) (hd:=dpB (W (mt n t/4)) (arC n (mt n t/4))) (show dpB (W (t/4)) (arC n (t/4))<9218868437227405312 by have:=lG wU (cM n (t/4)).2;omega)) (show rcG (lvl (B (t/4)) (W (t/4)) (arC n (t/4))) (B (t/4)) (B (mt n t/4))<18446744073709551616 by
    unfold rcG sbB
    exact hY _ _ (qU bU wU (cM n _).2) (bT (xE bU bD)))
   refine⟨pos0_lt ml,?_⟩
   unfold pos0
   split
   ·rename_i q
    rw[cJ ml]at q
    exact bI (by have:=(bN.1 q).2;omega)
   ·decide
  unfold rdT
  split
  ·exact key _ t1
  ·split
   ·exact key _ (fA hn t1)
   ·exact z
 ·exact z
theorem rt_lt64(x:Nat):rtB x<18446744073709551616:=by
 cases h:Ieee.double.sqrt x with
 | none=>rw[jQ h];decide
 | some r=>rw[jP h];exact dG (sqrt_lt h)
theorem lnE_lt64(n i:Nat):lnE n i<18446744073709551616:=by unfold lnE LnC gp lnB;exact rt_lt64 _
end
section
open Go.RowKit Tf Cu Go.Deep
attribute [local go_sem] aI aJ aN aO aP aQ aV aF
theorem sR(pa pb:Option Addr)(len ca cb:Nat)(xs:Nat->Nat)(w:World)(hl:len<=281474976710656)(hA:IsFl w pa len xs)(hB:IsFl w pb len xs):
  Calls prog 39 #[.slice pa len ca,.slice pb len cb] w fun e w'=>e=.returned (.bool true)/\Below w.heap.size w w':=by
 have SS:Hid (∀(x:Nat) (v:World),Calls prog 12 #[.float .f64 x,.float .f64 x] v fun e w'=>e=.returned (.bool true)/\Below v.heap.size v w'):=fun x v=>by
  have h:=kY x x v
  rw[show sameB x x=true by unfold sameB;exact decide_eq_true rfl]at h
  exact h.mono fun _ _ ⟨he,hw⟩=>⟨he,by rw[hw];exact Below.refl _ _⟩
 have HA:=hid hA
 have HB:=hid hB
 have HL:=hid hl
 clear hA hB hl
 go_enter func39,ntmps39
 go_wp2
 go_loopw [5] (fun iv wr=> ∃c:Nat,c<=len/\iv=.int .i64 (c:Nat)/\Ab w wr) (fun iv _=>len - (intOf iv).toNat)
 case atStart=>exact⟨0,by omega,rfl,Ab.refl w⟩
 case round=>
  obtain⟨c,hc,rfl,ar⟩:=hrel
  have AR:=hid ar
  clear ar
  by_cases h:c<len
  ·have HC:=hid h
   obtain⟨x,hx⟩:=aB (xs c)
   obtain⟨-,b1,o1,e1,l1,c1⟩:=HA.out c h
   obtain⟨-,b2,o2,e2,l2,c2⟩:=HB.out c h
   rw[hx]at c1 c2
   have C1:=hid c1
   have C2:=hid c2
   have L1:=hid l1
   have L2:=hid l2
   have hcI:(c:Int)<len:=by omega
   have hcB:(c:Int)<=281474976710656:=by have:=HL.out;omega
   clear c1 c2 l1 l2 hx h
   subst e1 e2
   go_upto_region 6 with fail
   obtain⟨UU,E,hF1,hF2⟩:=cls wr
   have HU:=hid hF2
   have HU1:=hid hF1
   have x1: ∀u,(E u).cell? ⟨b1,o1+c,none⟩=some (.float .f64 x):=fun u=>(Below.cell (AR.out.trans (hF1 u)) L1.out).trans C1.out
   have x2: ∀u,(E u).cell? ⟨b2,o2+c,none⟩=some (.float .f64 x):=fun u=>(Below.cell (AR.out.trans (hF1 u)) L2.out).trans C2.out
   have DD0:=HU.out _ (Ab.refl wr).drew
   clear hF1 hF2
   refine aG E (by kernel_rfl) (by kernel_rfl) DD0 ?_
   repeat(go_big_quiet_step (first
    | (with_reducible rfl)
    | (go_at_call 12;exact aD HU HU1 (SS.out _ _))))
   refine wpQuiet_nil ?_
   intro z hwz
   obtain⟨u0,hu⟩:=hwz
   have AZ:Hid (Ab w z):=by rw[hu];exact AR.out.trans (HU1.out u0)
   clear hu u0
   clear HU HU1 DD0 x1 x2
   clear E UU
   go_wp2
   go_roundw
   case rel=>exact⟨c+1,by have:=HC.out;omega,by simp,AZ.out⟩
   case measure=>simp[intOf];have:=HC.out;omega
  ·have e:len=c:=by omega
   subst e
   go_wp2
   go_ret
   exact⟨rfl,AR.out⟩
end
end Go.Proofs.YtjheiemgfibgpaaGreatDoor
