/-
  Whether two exact sums are equal: walks over the program.
-/
import Derived.Test.YtcamlhpehnfnlaaVd
namespace Go.Proofs.Ytcamlhpehnfnlaa
open Go.RowKit Tf
attribute [local go_sem] run_bits run_from raw_feq raw_fne raw_flt raw_fgt run_neg

theorem valN_zero (n : Nat) : valN (fun _ => 0) n = 0 := by
  induction n with
  | zero => rfl
  | succ n ih => show valN (fun _ => 0) n + 0 * _ = 0; rw [ih]; simp
/-- two new arrays of noughts -/
theorem sides_new (w : World) : Sides w.heap.size (w.heap.size + 1) 0 0 ((w.alloc (.cells (enc fun _ => 0) 50)).alloc (.cells (enc fun _ => 0) 50)) :=
  ⟨by omega, fun _ => 0, fun _ => 0, heap_alloc2_old _ _ _, heap_alloc2_new _ _ _, by rw [valN_zero]; rfl, fun _ => ⟨Int.le_refl 0, Int.le_refl 0⟩, fun _ => ⟨Int.le_refl 0, Int.le_refl 0⟩⟩
theorem below_new (w : World) (o o' : Obj) : Below w.heap.size w ((w.alloc o).alloc o') := ((Below.refl _ _).alloc (by omega) _).alloc (by simp) _
theorem Two.below {g h : Nat} {a w w' : World} {B : Nat} (b : Below B a w) (t : Two g h w w') (hg : B ≤ g) (hh : B ≤ h) : Below B a w' :=
  ⟨t.os.trans b.os, t.tape.trans b.tape, t.output.trans b.output, by rw [t.size]; exact b.size, fun k hk => (t.block k (by omega) (by omega)).trans (b.block k hk)⟩
theorem Sides.below {g h : Nat} {D B : Int} {w w' : World} (s : Sides g h D B w) (b : Below w.heap.size w w') : Sides g h D B w' := by
  obtain ⟨f, f', x1, x2, x3⟩ := s.ex
  exact ⟨s.ne, f, f', by rw [b.block g (row_lt _ _ _ x1)]; exact x1, by rw [b.block h (row_lt _ _ _ x2)]; exact x2, x3⟩

set_option maxHeartbeats 2000000 in
theorem equal_go (a b s e : Nat) (w : World) (ha : a < 18446744073709551616) (hb : b < 18446744073709551616) (hs : s < 18446744073709551616) (he : e < 18446744073709551616)
    (fa : mg a < 9218868437227405312) (fb : mg b < 9218868437227405312) (fs : mg s < 9218868437227405312) (fe : mg e < 9218868437227405312) (sum : sv a + sv b = sv s + sv e) :
    Calls Try.prog 24 #[.float .f64 a, .float .f64 b, .float .f64 s, .float .f64 e] w fun r w' => r = .returned (.bool true) ∧ Below w.heap.size w w' := by
  have hz := fun (w : World) => zero_words w
  have P1 := hid (fun g h D B w x y => put_at a g h D B w ha fa x y)
  have P2 := hid (fun g h D B w x y => put_at b g h D B w hb fb x y)
  have P3 := hid (fun g h D B w x y => put_at s g h D B w hs fs x y)
  have P4 := hid (fun g h D B w x y => put_at e g h D B w he fe x y)
  have S0 := hid (sides_new w)
  have B0 := hid (below_new w (.cells (enc fun _ => 0) 50) (.cells (enc fun _ => 0) 50))
  have hsum := hid sum
  have hgd := words_guard
  clear ha hb hs he fa fb fs fe sum
  go_enter Try.func24, Try.ntmps24
  go_wp2_with fail
  refine (P1.out w.heap.size (w.heap.size + 1) _ _ _ S0.out (by omega)).mono ?_
  rintro r w1 ⟨rfl, s1, t1⟩
  have S1 := hid s1
  have B1 := hid (t1.below B0.out (by omega) (by omega))
  clear s1 t1 S0 B0 hz
  go_wp2_with fail
  refine (P2.out w.heap.size (w.heap.size + 1) _ _ _ S1.out (by omega)).mono ?_
  rintro r w2 ⟨rfl, s2, t2⟩
  have S2 := hid s2.swap
  have B2 := hid (t2.below B1.out (by omega) (by omega))
  clear s2 t2 S1 B1
  go_wp2_with fail
  refine (P3.out (w.heap.size + 1) w.heap.size _ _ _ S2.out (by omega)).mono ?_
  rintro r w3 ⟨rfl, s3, t3⟩
  have S3 := hid s3
  have B3 := hid (t3.below B2.out (by omega) (by omega))
  clear s3 t3 S2 B2
  go_wp2_with fail
  refine (P4.out (w.heap.size + 1) w.heap.size _ _ _ S3.out (by omega)).mono ?_
  rintro r w4 ⟨rfl, s4, t4⟩
  have B4 := hid (t4.below B3.out (by omega) (by omega))
  clear t4 S3 B3 P1 P2 P3 P4
  obtain ⟨f, f', x1, x2, x3, x4, x5⟩ := s4.ex
  have hv : valN f' 150 = valN f 150 := by
    have h1 := hsum.out
    have h2 : sv a = sv s + sv e - sv b := by omega
    rw [h2, Int.sub_mul, Int.add_mul] at x3
    generalize ((2 ^ K : Nat) : Int) = k at *
    generalize sv s * k = p at *
    generalize sv e * k = q at *
    generalize sv b * k = o at *
    omega
  have eqw := words_eq (dig (valN f 150))
  have C1 : Hid (Calls Try.prog 43 #[.pointer (some ⟨w.heap.size, 0, none⟩)] w4 fun r w' => r = .returned (.agg (enc (dig (valN f 150)))) ∧ Below w4.heap.size w4 w') :=
    carried_at _ f' _ w4 _ x2 x5 (by omega) hv
  have C2 : Hid (∀ w5, Below w4.heap.size w4 w5 → Calls Try.prog 43 #[.pointer (some ⟨w.heap.size + 1, 0, none⟩)] w5 fun r w' => r = .returned (.agg (enc (dig (valN f 150)))) ∧ Below w5.heap.size w5 w') := by
    intro w5 b5
    exact carried_at _ f _ w5 _ (by rw [b5.block _ (row_lt _ _ _ x1)]; exact x1) x4 (by omega) rfl
  clear x1 x2 x3 x4 x5 hv s4 hsum
  generalize dig (valN f 150) = d at *
  go_wp2_with fail
  refine C1.out.mono ?_
  rintro r w5 ⟨rfl, b5⟩
  have B5 := hid b5
  clear b5
  go_wp2_with fail
  refine (C2.out w5 B5.out).mono ?_
  rintro r w6 ⟨rfl, b6⟩
  have B6 := hid b6
  clear b6 C1 C2
  go_wp2
  go_ret
  refine ⟨rfl, B4.out.trans ((B5.out.mono B4.out.size).trans (B6.out.mono (Nat.le_trans B4.out.size B5.out.size)))⟩
end Go.Proofs.Ytcamlhpehnfnlaa
