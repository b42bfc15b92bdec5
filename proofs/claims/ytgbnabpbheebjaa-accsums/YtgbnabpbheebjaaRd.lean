/-
  The reference: a product more: walks over the program; what becomes of the sum.
-/
import Derived.Test.YtgbnabpbheebjaaRc
namespace Go.Proofs.Ytgbnabpbheebjaa
open Go.RowKit Tf
attribute [local go_sem] run_bits run_from raw_feq raw_fne raw_flt raw_fgt run_neg

/-- ONE FLOAT MORE -/
theorem pow28 : (2 : Nat) ^ 28 = 268435456 := by decide
theorem sv_wm (x : Nat) : sv x = (if ng x then -1 else 1) * ((wm (mg x) * 2 ^ wk (mg x) : Nat) : Int) := by
  unfold sv
  rw [wm_wk]
  cases ng x
  · rw [if_neg (by decide), if_neg (by decide), Int.one_mul]
  · rw [if_pos rfl, if_pos rfl, Int.neg_mul, Int.one_mul]
theorem dec_congr {a b : Prop} [Decidable a] [Decidable b] (h : a ↔ b) : decide a = decide b := by
  by_cases c : a
  · rw [decide_eq_true c, decide_eq_true (h.1 c)]
  · rw [decide_eq_false c, decide_eq_false (fun x => c (h.2 x))]
theorem radd_at (g x : Nat) (S : AS) (w : World) (hx : x < 18446744073709551616) (h : IsRef g S w) (hS : Good S) (c1 : S.c < 1048576) :
    Calls Try.prog 13 #[.pointer (some ⟨g, 0, none⟩), .float .f64 x] w fun e w' => e = .returned (.int .i64 0) ∧ (Hid (IsRef g (stepA S x) w') ∧ Hid (Only g w w')) := by
  obtain ⟨f, hR, hv, hl⟩ := h
  have c0 := hS.c0
  have hn1 := hS.n1
  have hR1 := hR.sc (S.c + 1)
  have o1 : Only g w (w.setCell ⟨g, 136, none⟩ (.int .i64 (S.c + 1))) := only_set _ _ _ _
  have hlim : Lim f ((S.c + 1) * 34359738368) := hl.more (by omega)
  rw [stepA_plus]
  rcases class_facts x with ⟨k1, _, k3, k4⟩ | ⟨k0, k1, _, k3, k4⟩ | hfin
  · rw [unitA_eq, k1, if_pos rfl]
    refine radd_odd g x S.c 2 (ng x) true w _ hR.cc (hR.fr _) c0 c1 (fun w => rparts_nan x w hx k1) (by decide) rfl ?_
    refine (odd_at g f (S.c + 1) S.p S.q S.r _ (ng x) true _ hR1).mono ?_
    rintro r w' ⟨e1, e2, e3⟩
    refine ⟨e1, ⟨f, ?_, ?_, ?_⟩, o1.trans e3.out⟩
    · have := e2.out
      simp only [Bool.not_true, Bool.false_and, Bool.or_false, Bool.or_true] at this
      simp only [plusS, Bool.or_false, Bool.or_true, Int.add_zero]
      rw [decide_eq_true (by omega : S.n ≠ S.c + 1)]
      exact this
    · simp only [plusS, Int.add_zero]; exact hv
    · exact hlim
  · rw [unitA_eq, k1, k3, if_neg (by decide), if_pos rfl]
    refine radd_odd g x S.c 1 (ng x) false w _ hR.cc (hR.fr _) c0 c1 (fun w => rparts_inf x w hx k0) (by decide) rfl ?_
    refine (odd_at g f (S.c + 1) S.p S.q S.r _ (ng x) false _ hR1).mono ?_
    rintro r w' ⟨e1, e2, e3⟩
    refine ⟨e1, ⟨f, ?_, ?_, ?_⟩, o1.trans e3.out⟩
    · have := e2.out
      revert this
      cases ng x
      · intro this
        simp only [Bool.not_false, Bool.and_self, Bool.or_true, Bool.and_false, Bool.or_false] at this
        simp only [plusS, Bool.or_false, Bool.or_true, Int.add_zero, Bool.false_eq_true, if_false]
        rw [decide_eq_true (by omega : S.n ≠ S.c + 1)]
        exact this
      · intro this
        simp only [Bool.not_false, Bool.not_true, Bool.and_self, Bool.or_true, Bool.and_false, Bool.or_false] at this
        simp only [plusS, Bool.or_false, Bool.or_true, Int.add_zero, if_true]
        rw [decide_eq_true (by omega : S.n ≠ S.c + 1)]
        exact this
    · cases ng x <;> (simp only [plusS, Int.add_zero, Bool.false_eq_true, if_false, if_true]; exact hv)
    · cases ng x <;> exact hlim
  · have fx : mg x < 9218868437227405312 := by rcases hfin with h | h <;> omega
    rw [unitA_fin x fx]
    have hk := wk_top _ fx
    have hm := wm_lt (mg x)
    have hP := hid (fun w => rparts_fin x w hx fx)
    have hzb : zeroB x = decide (wm (mg x) = 0) := by
      unfold zeroB
      refine dec_congr ?_
      unfold wm
      by_cases c : mg x < 4503599627370496
      · rw [if_pos c]
      · rw [if_neg c]; omega
    have hpow : ((wm (mg x) * 2 ^ (((wk (mg x) : Nat) : Int) - 1074 + 2176).toNat : Nat) : Int) = ((wm (mg x) * 2 ^ wk (mg x) : Nat) : Int) * ((2 ^ K : Nat) : Int) * 268435456 := by
      have e : (((wk (mg x) : Nat) : Int) - 1074 + 2176).toNat = wk (mg x) + K + 28 := by rw [K_eq]; omega
      rw [e, Nat.pow_add, Nat.pow_add, pow28, ← Nat.mul_assoc, ← Nat.mul_assoc, Int.natCast_mul, Int.natCast_mul]; rfl
    -- what is put, and what comes of it
    have fin : ∀ (b' : Bool), b' = decide (S.n + (if zeroB x && ng x then 1 else 0) ≠ S.c + 1) → ∀ W, IsR g f (S.c + 1) S.p S.q S.r b' W → Only g w W →
        Calls Try.prog 29 #[.pointer (some ⟨g, 0, none⟩), .bool (ng x), .int .u64 ((wm (mg x) : Nat) : Int), .int .i64 (((wk (mg x) : Nat) : Int) - 1074)] W fun r w' => r = .returned (.tuple #[]) ∧ (Hid (IsRef g (plusS S ⟨1, if zeroB x && ng x then 1 else 0, sv x * ((2 ^ K : Nat) : Int), false, false, false⟩) w') ∧ Hid (Only g w w')) := by
      intro b' hb' W hW hO
      refine (put_at g f (S.c + 1) S.p S.q S.r b' (ng x) (wm (mg x)) _ (S.c * 34359738368) W hW hl (by omega) (by omega) (by omega) (by omega)).mono ?_
      rintro r w' ⟨e1, f', e2, e3, e4, e5⟩
      refine ⟨e1, ⟨f', ?_, ?_, ?_⟩, hO.trans e3.out⟩
      · simp only [plusS, Bool.or_false]
        rw [← hb']; exact e2.out
      · rw [e4.out, hv, hpow]
        simp only [plusS]
        rw [sv_wm, Int.add_mul]
        generalize ((wm (mg x) * 2 ^ wk (mg x) : Nat) : Int) = A
        generalize ((2 ^ K : Nat) : Int) = P
        rw [Int.mul_assoc _ A P, Int.mul_assoc _ (A * P)]
      · show Lim f' ((S.c + 1) * 34359738368)
        exact e5.out.more (by omega)
    by_cases hnc : S.n ≠ S.c
    · have hb : decide (S.n ≠ S.c) = true := decide_eq_true hnc
      have hco := hR.co
      rw [hb] at hco
      exact radd_fin1 g x S.c _ _ (ng x) w _ hR.cc (hR.fr _) c0 c1 hco (hR.fr _) hP (fin true (by rw [decide_eq_true]; split <;> omega) _ (by rw [hb] at hR1; exact hR1.so true) (o1.trans (only_set _ _ _ _)))
    · have hb : decide (S.n ≠ S.c) = false := decide_eq_false hnc
      have hco := hR.co
      rw [hb] at hco
      by_cases hw : wm (mg x) = 0
      · have hz2 : zeroB x = true := by rw [hzb]; exact decide_eq_true hw
        cases hng : ng x
        · rw [hw, hng] at hP
          have fin' := fin true (by rw [hng, Bool.and_false]; rw [decide_eq_true]; simp; omega)
          rw [hw, hng] at fin'
          exact radd_fin3 g x S.c _ w _ hR.cc (hR.fr _) c0 c1 hco (hR.fr _) hP (fin' _ (by rw [hb] at hR1; exact hR1.so true) (o1.trans (only_set _ _ _ _)))
        · rw [hw, hng] at hP
          have fin' := fin false (by rw [hng, hz2]; rw [decide_eq_false]; simp; omega)
          rw [hw, hng] at fin'
          exact radd_fin4 g x S.c _ w _ hR.cc (hR.fr _) c0 c1 hco (hR.fr _) hP (fin' _ (by rw [hb] at hR1; exact hR1.so false) (o1.trans (only_set _ _ _ _)))
      · have hz2 : zeroB x = false := by rw [hzb]; exact decide_eq_false hw
        exact radd_fin2 g x S.c _ _ (ng x) w _ hR.cc (hR.fr _) c0 c1 hco (hR.fr _) (by omega) hP (fin true (by rw [hz2, Bool.false_and]; rw [decide_eq_true]; simp; omega) _ (by rw [hb] at hR1; exact hR1.so true) (o1.trans (only_set _ _ _ _)))
end Go.Proofs.Ytgbnabpbheebjaa
