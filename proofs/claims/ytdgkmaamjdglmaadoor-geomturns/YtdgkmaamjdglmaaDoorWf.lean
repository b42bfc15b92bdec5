/-
  What Round, Floor, Clamp and FromInt of package conv return: walks over the program.
-/
import Derived.Test.YtdgkmaamjdglmaaDoorWc
import Derived.Test.YtdgkmaamjdglmaaDoorPv
import Derived.Deep.Draws
namespace Go.Proofs.YtdgkmaamjdglmaaDoor
open Go.RowKit Tf
attribute [local go_sem] run_bits run_from raw_feq raw_fne raw_flt raw_fgt run_neg

/-- a signalling NaN made whole: a NaN that is drawn -/
def snan (w : World) (x : Nat) : Nat :=
  if (Question.extern "math.Floor,Ceil,Trunc,RoundToEven.signallingNaN kept" 2).cut (w.tape w.drawn (Question.extern "math.Floor,Ceil,Trunc,RoundToEven.signallingNaN kept" 2)) == 1 then x
  else FloatKind.f64.encode (.nan (sg Ieee.double x) (FloatKind.f64.format.quiet (rg Ieee.double x - Ieee.double.infRung)))
theorem or_bit (t : Nat) (h : t < 4503599627370496) : Ieee.double.quiet t % 4503599627370496 = Ieee.double.quiet t ∧ 0 < Ieee.double.quiet t := by
  have e : Ieee.double.quiet t = t ||| 2 ^ 51 := rfl
  rw [e]
  have h1 : t ||| 2 ^ 51 < 2 ^ 52 := Nat.or_lt_two_pow (by omega) (by omega)
  have h2 : 2 ^ 51 ≤ t ||| 2 ^ 51 := Nat.right_le_or
  omega
theorem snan_nan (w : World) (x : Nat) (hx : x < 18446744073709551616) (n : isN x = true) : snan w x < 18446744073709551616 ∧ isN (snan w x) = true := by
  have ei := d_inf
  have hm := mg_lt x
  have hn := isN_true.1 n
  unfold snan
  split
  · exact ⟨hx, n⟩
  · rw [rg_d, sg_d x hx, ei]
    obtain ⟨q1, q2⟩ := or_bit (mg x - 9218868437227405312) (by omega)
    have e : ∀ (b : Bool) (t : Nat), FloatKind.f64.encode (.nan b t) = if b then 9223372036854775808 + (9218868437227405312 + t % 4503599627370496) else 9218868437227405312 + t % 4503599627370496 := by
      intro b t
      show Ieee.double.word b (Ieee.double.infRung + t % Ieee.double.binade) = _
      rw [d_word, d_inf, d_bin]
    rw [e]
    change (if ng x = true then 9223372036854775808 + (9218868437227405312 + Ieee.double.quiet (mg x - 9218868437227405312) % 4503599627370496) else 9218868437227405312 + Ieee.double.quiet (mg x - 9218868437227405312) % 4503599627370496) < _ ∧ isN (if ng x = true then 9223372036854775808 + (9218868437227405312 + Ieee.double.quiet (mg x - 9218868437227405312) % 4503599627370496) else 9218868437227405312 + Ieee.double.quiet (mg x - 9218868437227405312) % 4503599627370496) = true
    generalize Ieee.double.quiet (mg x - 9218868437227405312) = t at *
    have ht : t % 4503599627370496 < 4503599627370496 := Nat.mod_lt _ (by decide)
    rw [isN_true]
    cases ng x
    · simp only [Bool.false_eq_true, if_false]
      refine ⟨by omega, ?_⟩
      rw [mg_of_lt (by omega)]; omega
    · simp only [if_true]
      refine ⟨by omega, ?_⟩
      rw [mg_of_ge (by omega) (by omega)]; omega

/-- is it a NaN that is quiet? -/
def qNaN (x : Nat) : Bool := FloatKind.f64.format.quiet (rg Ieee.double x - Ieee.double.infRung) == rg Ieee.double x - Ieee.double.infRung
theorem ext_num (nm : String) (way : Ieee.Toward) (x : Nat) (n : isN x = false) : Extern.MathFloor.toIntegral nm way #[.float .f64 x] = pure (.float .f64 (itV way x)) := by
  have ei := d_inf
  have h := isN_false.1 n
  unfold itV
  by_cases c : mg x < 9218868437227405312
  · obtain ⟨m, a, e, _⟩ := read_fin Ieee.double x (by rw [rg_d]; omega)
    show (match Ieee.double.read x with | .nan _ _ => _ | _ => _) = _
    rw [e]; rfl
  · show (match Ieee.double.read x with | .nan _ _ => _ | _ => _) = _
    rw [read_inf Ieee.double x d_he (by rw [rg_d]; omega)]; rfl
theorem ext_nan (nm : String) (way : Ieee.Toward) (x : Nat) (n : isN x = true) (q : qNaN x = true) : Extern.MathFloor.toIntegral nm way #[.float .f64 x] = pure (.float .f64 x) := by
  have ei := d_inf
  have h := isN_true.1 n
  unfold qNaN at q
  show (match Ieee.double.read x with | .nan _ _ => _ | _ => _) = _
  rw [read_nan Ieee.double x d_he (by rw [rg_d]; omega)]
  dsimp only
  rw [if_pos (by simpa using q)]
theorem ext_snan (nm : String) (way : Ieee.Toward) (x : Nat) (n : isN x = true) (q : qNaN x = false) (P : Program) (w : World) : (Extern.MathFloor.toIntegral nm way #[.float .f64 x]).run P w = .ok (.float .f64 (snan w x)) w.drew := by
  have ei := d_inf
  have h := isN_true.1 n
  unfold qNaN at q
  show Sem.run P (match Ieee.double.read x with | .nan _ _ => _ | _ => _) w = _
  rw [read_nan Ieee.double x d_he (by rw [rg_d]; omega)]
  dsimp only
  rw [if_neg (by simpa using q)]
  simp [Question.forced, snan]

theorem run_even (x : Nat) (w : World) (n : isN x = false) : (callFunc 58 #[.float .f64 x]).run Tryd.prog w = .ok (.value (.float .f64 (itV .even x))) w := by
  rw [run_callFunc_extern (e := Extern.MathFloor.toIntegral "math.RoundToEven" .even) Tryd.func58 (by kernel_rfl) (by kernel_rfl) (by kernel_rfl) (by kernel_rfl), ext_num _ _ x n]
  rfl
theorem run_even_nan (x : Nat) (w : World) (n : isN x = true) (q : qNaN x = true) : (callFunc 58 #[.float .f64 x]).run Tryd.prog w = .ok (.value (.float .f64 x)) w := by
  rw [run_callFunc_extern (e := Extern.MathFloor.toIntegral "math.RoundToEven" .even) Tryd.func58 (by kernel_rfl) (by kernel_rfl) (by kernel_rfl) (by kernel_rfl), ext_nan _ _ x n q]
  rfl
theorem run_even_snan (x : Nat) (w : World) (n : isN x = true) (q : qNaN x = false) : (callFunc 58 #[.float .f64 x]).run Tryd.prog w = .ok (.value (.float .f64 (snan w x))) w.drew := by
  rw [run_callFunc_extern (e := Extern.MathFloor.toIntegral "math.RoundToEven" .even) Tryd.func58 (by kernel_rfl) (by kernel_rfl) (by kernel_rfl) (by kernel_rfl), ext_snan _ _ x n q]
  rfl
set_option maxHeartbeats 1000000 in
theorem whole_at (y : Nat) (i : Int) (ok : Bool) (w : World) (hy : y < 18446744073709551616) (hi : wI y = i) (ho : wOk y = ok) :
    Calls Tryd.prog 57 #[.float .f64 y] w fun e w' => e = .returned (.tuple #[.int .i64 i, .bool ok]) ∧ w' = w := by
  have hc : wOk y = true → floatToIntVal .f64 y .i64 = some i := by intro h; rw [wI_conv hy h, hi]
  have h0 : wOk y = false → i = 0 := by intro h; rw [← hi]; unfold wI; rw [h]; rfl
  have hw : wOk y = ((fgt y 14114281232179134464 || feq y 14114281232179134464) && flt y 4890909195324358656) := rfl
  clear hi
  cases hg : (fgt y 14114281232179134464 || feq y 14114281232179134464)
  · rw [hg] at hw
    have hw' : wOk y = false := hw
    obtain rfl := h0 hw'
    obtain rfl : ok = false := by rw [← ho, hw']
    clear hw hw' h0 hc ho
    go_enter Tryd.func57, Tryd.ntmps57
    go_wp2
    go_ret2
    exact ⟨rfl, rfl⟩
  · cases hl : flt y 4890909195324358656
    · rw [hg, hl] at hw
      have hw' : wOk y = false := hw
      obtain rfl := h0 hw'
      obtain rfl : ok = false := by rw [← ho, hw']
      clear hw hw' h0 hc ho
      go_enter Tryd.func57, Tryd.ntmps57
      go_wp2
      go_ret2
      exact ⟨rfl, rfl⟩
    · rw [hg, hl] at hw
      have hw' : wOk y = true := hw
      obtain rfl : ok = true := by rw [← ho, hw']
      have hcv := fun (w : World) => run_convert_float_int (P := Tryd.prog) w 27 2 .f64 .i64 y i (by kernel_rfl) (by kernel_rfl) (hc hw')
      clear hw hw' h0 hc ho
      go_enter Tryd.func57, Tryd.ntmps57
      go_wp2
      go_ret2
      exact ⟨rfl, rfl⟩

set_option maxHeartbeats 1000000 in
theorem round_at (x : Nat) (i : Int) (ok : Bool) (w : World) (hx : x < 18446744073709551616) (hi : cI .even x = i) (ho : cOk .even x = ok) :
    Calls Tryd.prog 42 #[.float .f64 x] w fun e w' => e = .returned (.tuple #[.int .i64 i, .bool ok]) ∧ ∃ n, w' = w.drewN n := by
  cases n : isN x
  · have r := fun (w : World) => run_even x w n
    have l := itV_lt .even x
    have a := wI_itV .even x hx n
    have b := wOk_itV .even x hx n
    rw [hi] at a
    rw [ho] at b
    generalize itV .even x = y at *
    clear hi ho n
    go_enter Tryd.func42, Tryd.ntmps42
    go_wp2_with fail
    refine (whole_at y i ok _ l a b).mono ?_
    rintro e w' ⟨rfl, rfl⟩
    go_wp2
    go_ret2
    exact ⟨rfl, 0, rfl⟩
  · obtain ⟨h1, h2⟩ := cOk_nan .even n
    rw [hi] at h2
    rw [ho] at h1
    subst h1 h2
    cases q : qNaN x
    · have r := fun (w : World) => run_even_snan x w n q
      have l := fun (w : World) => (snan_nan w x hx n).1
      have l2 := fun (w : World) => wOk_nan (l w) (snan_nan w x hx n).2
      clear hi ho n q
      go_enter Tryd.func42, Tryd.ntmps42
      go_wp2_with fail
      refine (whole_at _ 0 false _ (l _) (l2 _).2 (l2 _).1).mono ?_
      rintro e w' ⟨rfl, rfl⟩
      go_wp2
      go_ret2
      exact ⟨rfl, 1, rfl⟩
    · have r := fun (w : World) => run_even_nan x w n q
      have l2 := wOk_nan hx n
      clear hi ho n q
      go_enter Tryd.func42, Tryd.ntmps42
      go_wp2_with fail
      refine (whole_at x 0 false _ hx l2.2 l2.1).mono ?_
      rintro e w' ⟨rfl, rfl⟩
      go_wp2
      go_ret2
      exact ⟨rfl, 0, rfl⟩

set_option maxHeartbeats 1000000 in
theorem fromInt_any (n : Int) (w : World) :
    Calls Tryd.prog 50 #[.int .i64 n] w fun e w' => e = .returned (.float .f64 (rn false (n * one))) ∧ w' = w := by
  have hc := fun (w : World) => run_convert_int_float (P := Tryd.prog) w 2 27 .i64 .f64 n (by kernel_rfl) (by kernel_rfl)
  have e : floatOfInt .f64 n = rn false (n * one) := ofInt_d n
  rw [e] at hc
  generalize rn false (n * one) = y at *
  clear e
  go_enter Tryd.func50, Tryd.ntmps50
  go_wp2
  go_ret
  exact ⟨rfl, rfl⟩
end Go.Proofs.YtdgkmaamjdglmaaDoor
