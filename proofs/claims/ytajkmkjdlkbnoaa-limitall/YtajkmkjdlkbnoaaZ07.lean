/-
  Some of the texts of this proof, one behind the other.
-/
import Derived.Test.YtajkmkjdlkbnoaaZ06
import Derived.Test.YtajkmkjdlkbnoaaZ04
import Derived.Deep.QuietTactic
/-
  What the document's answer gives of slopes: walks over the reference.
-/
namespace Go.Proofs.Ytajkmkjdlkbnoaa
open Go.RowKit Tf
attribute [local go_sem] run_bits run_from raw_feq raw_fne raw_flt raw_fgt run_neg
theorem lesser_at (a b : Nat) (w : World) (ha : a ≤ 9218868437227405312) (hb : b ≤ 9218868437227405312) : Calls Try.prog 33 #[.float .f64 a, .float .f64 b] w fun e w' => e = .returned (.float .f64 (min a b)) ∧ w' = w := by
  have h := flt_nn hb ha
  by_cases c : b < a
  · rw [show min a b = b by omega]
    rw [decide_eq_true c] at h
    clear c ha hb
    go_enter Try.func33, Try.ntmps33
    go_wp2
    go_ret
    exact ⟨rfl, rfl⟩
  · rw [show min a b = a by omega]
    rw [decide_eq_false c] at h
    clear c ha hb
    go_enter Try.func33, Try.ntmps33
    go_wp2
    go_ret
    exact ⟨rfl, rfl⟩
theorem greater_at (a b : Nat) (w : World) (ha : a ≤ 9218868437227405312) (hb : b ≤ 9218868437227405312) : Calls Try.prog 34 #[.float .f64 a, .float .f64 b] w fun e w' => e = .returned (.float .f64 (max a b)) ∧ w' = w := by
  have h := fgt_nn hb ha
  by_cases c : a < b
  · rw [show max a b = b by omega]
    rw [decide_eq_true c] at h
    clear c ha hb
    go_enter Try.func34, Try.ntmps34
    go_wp2
    go_ret
    exact ⟨rfl, rfl⟩
  · rw [show max a b = a by omega]
    rw [decide_eq_false c] at h
    clear c ha hb
    go_enter Try.func34, Try.ntmps34
    go_wp2
    go_ret
    exact ⟨rfl, rfl⟩
set_option maxHeartbeats 1000000 in
theorem rabove1 (a b : Nat) (w : World) (ha : ps a = true) (hb : ps b = true) : Calls Try.prog 20 #[.int .i64 1, .float .f64 a, .float .f64 b] w fun e w' => ∃ r, e = .returned (.float .f64 r) ∧ (∃ n, w' = w.drewN n) ∧ IsC r (lm 1 a b) := by
  obtain ⟨a0, a1⟩ := ps_iff.1 ha
  obtain ⟨b0, b1⟩ := ps_iff.1 hb
  have C := hid (lesser_at a b w a1 b1)
  have L := hid (IsC.refl (lm_le 1 a1 b1))
  have e : lm 1 a b = min a b := by unfold lm; simp
  rw [e] at L ⊢
  generalize min a b = m at *
  clear a0 a1 b0 b1 ha hb e
  go_enter Try.func20, Try.ntmps20
  go_wp2_with fail
  refine C.out.mono ?_
  rintro e w' ⟨rfl, rfl⟩
  go_wp2
  go_ret
  exact ⟨m, rfl, ⟨0, rfl⟩, L.out⟩
set_option maxHeartbeats 1000000 in
theorem rabove2 (a b : Nat) (w : World) (ha : ps a = true) (hb : ps b = true) : Calls Try.prog 20 #[.int .i64 2, .float .f64 a, .float .f64 b] w fun e w' => ∃ r, e = .returned (.float .f64 r) ∧ (∃ n, w' = w.drewN n) ∧ IsC r (lm 2 a b) := by
  obtain ⟨a0, a1⟩ := ps_iff.1 ha
  obtain ⟨b0, b1⟩ := ps_iff.1 hb
  have fa := (d2_facts a1).1
  have fb := (d2_facts b1).1
  have h1 : ∀ w t, (binOp .mul t (.float .f64 4611686018427387904) (.float .f64 a)).run Try.prog w = .ok (.float .f64 (mlB 4611686018427387904 a)) w := fun w t => run_float_arith w .mul t .f64 _ _ _ (mul_pp (by decide) a1 (by decide) a0)
  have h2 : ∀ w t, (binOp .mul t (.float .f64 4611686018427387904) (.float .f64 b)).run Try.prog w = .ok (.float .f64 (mlB 4611686018427387904 b)) w := fun w t => run_float_arith w .mul t .f64 _ _ _ (mul_pp (by decide) b1 (by decide) b0)
  have C1 := hid (fun w => lesser_at (mlB 4611686018427387904 a) b w fa b1)
  have C2 := hid (fun w => lesser_at a (mlB 4611686018427387904 b) w a1 fb)
  have C3 := hid (fun w => greater_at (min (mlB 4611686018427387904 a) b) (min a (mlB 4611686018427387904 b)) w (by omega) (by omega))
  have L := hid (IsC.refl (lm_le 2 a1 b1))
  have e : lm 2 a b = max (min (mlB 4611686018427387904 a) b) (min a (mlB 4611686018427387904 b)) := by unfold lm sbee; simp
  rw [e] at L ⊢
  clear e fa fb a0 a1 b0 b1 ha hb
  generalize mlB 4611686018427387904 a = p at *
  generalize mlB 4611686018427387904 b = q at *
  generalize min p b = u at *
  generalize min a q = v at *
  generalize max u v = s at *
  go_enter Try.func20, Try.ntmps20
  go_wp2_with fail
  refine (C1.out _).mono ?_
  rintro e w' ⟨rfl, hw⟩
  have hw2 := hw.symm
  subst hw2
  go_wp2_with fail
  refine (C2.out _).mono ?_
  rintro e w' ⟨rfl, hw⟩
  have hw2 := hw.symm
  subst hw2
  go_wp2_with fail
  refine (C3.out _).mono ?_
  rintro e w' ⟨rfl, hw⟩
  have hw2 := hw.symm
  subst hw2
  go_wp2
  go_ret
  exact ⟨s, rfl, ⟨0, rfl⟩, L.out⟩
theorem class_lr {r a b : Nat} (h : IsC r (leer a b)) (hn : leer a b = quiet ∨ leer a b ≤ 9218868437227405312) : 3 ≤ classB r ↔ ¬ leer a b < 9218868437227405312 := by
  obtain ⟨h1, h2⟩ := h
  have cl : 3 ≤ classB r ↔ 9218868437227405312 ≤ mg r := by
    unfold classB
    constructor
    · intro h
      by_cases c : mg r < 9218868437227405312
      · split at h
        · omega
        · split at h
          · omega
          · omega
      · omega
    · intro h
      rw [if_neg (by omega), if_neg (by omega), if_neg (by omega)]
      split <;> omega
  rw [cl]
  by_cases n : isN r = true
  · have e : leer a b = quiet := by rw [← h2]; unfold canonB; rw [if_pos n]
    have := isN_true.1 n
    rw [e]
    unfold quiet
    omega
  · have n := Bool.eq_false_iff.2 n
    have hm := isN_false.1 n
    have hw := word_eq r h1
    by_cases z : mg r = 0
    · have e : leer a b = 0 := by rw [← h2]; unfold canonB; rw [n, z]; rfl
      rw [e, z]
      omega
    · have e : leer a b = r := by rw [← h2]; unfold canonB; rw [n, if_neg (by decide), if_neg z]
      rcases hn with q | q
      · rw [← e, q] at n
        exact absurd n (by decide)
      · rw [e] at q ⊢
        rw [mg_of_lt (by omega)]
        omega
set_option maxHeartbeats 1000000 in
theorem rabove3 (a b : Nat) (w : World) (ha : ps a = true) (hb : ps b = true) : Calls Try.prog 20 #[.int .i64 3, .float .f64 a, .float .f64 b] w fun e w' => ∃ r, e = .returned (.float .f64 r) ∧ (∃ n, w' = w.drewN n) ∧ IsC r (lm 3 a b) := by
  obtain ⟨a0, a1⟩ := ps_iff.1 ha
  obtain ⟨b0, b1⟩ := ps_iff.1 hb
  have fa := d2_facts a1
  have L := leer_nn a1 b1 a0 b0
  have h1 : ∀ t, (binOp .mul t (.float .f64 4611686018427387904) (.float .f64 a)).run Try.prog w = .ok (.float .f64 (mlB 4611686018427387904 a)) w := fun t => run_float_arith w .mul t .f64 _ _ _ (mul_pp (by decide) a1 (by decide) a0)
  have h2 : ∀ t, (binOp .mul t (.float .f64 (mlB 4611686018427387904 a)) (.float .f64 b)).run Try.prog w = .ok (.float .f64 (mlB (mlB 4611686018427387904 a) b)) w := fun t => run_float_arith w .mul t .f64 _ _ _ (mul_pp fa.1 b1 (by omega) b0)
  have h3 : ∀ t, (binOp .add t (.float .f64 a) (.float .f64 b)).run Try.prog w = .ok (.float .f64 (plB a b)) w := fun t => run_float_arith w .add t .f64 _ _ _ (add_pp a1 b1)
  obtain ⟨r, n, h4, hc⟩ := div_any (P := Try.prog) w (mlB (mlB 4611686018427387904 a) b) (plB a b)
  have hc : IsC r (leer a b) := hc
  have k1 := class_lr hc L
  have CL := hid (refClass_any r (w.drewN n))
  have e : lm 3 a b = lr a b := by unfold lm; simp
  rw [e]
  by_cases c : leer a b < 9218868437227405312
  · have e : lr a b = leer a b := by unfold lr; rw [if_pos c]
    have k2 : ¬ 3 ≤ classB r := fun h => k1.1 h c
    have HC : Hid (IsC r (lr a b)) := by rw [e]; exact hc
    clear k1
    generalize classB r = cc at *
    generalize mlB (mlB 4611686018427387904 a) b = q at *
    generalize mlB 4611686018427387904 a = p at *
    generalize plB a b = s at *
    clear e c L fa a0 a1 b0 b1 ha hb
    clear hc
    go_enter Try.func20, Try.ntmps20
    go_wp2_with fail
    refine CL.out.mono ?_
    rintro e w' ⟨rfl, rfl⟩
    go_wp2
    go_ret
    exact ⟨r, rfl, ⟨n, rfl⟩, HC.out⟩
  · have e : lr a b = 0 := by unfold lr; rw [if_neg c]
    have k2 : 3 ≤ classB r := k1.2 c
    have HC : Hid (IsC 0 (lr a b)) := by rw [e]; exact ⟨by decide, by decide⟩
    clear k1
    generalize classB r = cc at *
    generalize mlB (mlB 4611686018427387904 a) b = q at *
    generalize mlB 4611686018427387904 a = p at *
    generalize plB a b = s at *
    clear e c L fa a0 a1 b0 b1 ha hb
    clear hc
    go_enter Try.func20, Try.ntmps20
    go_wp2_with fail
    refine CL.out.mono ?_
    rintro e w' ⟨rfl, rfl⟩
    go_wp2
    go_ret
    exact ⟨0, rfl, ⟨n, rfl⟩, HC.out⟩
set_option maxHeartbeats 1000000 in
theorem rabove0 (k : Int) (a b : Nat) (w : World) (h1 : ¬ k = 1) (h2 : ¬ k = 2) (h3 : ¬ k = 3) : Calls Try.prog 20 #[.int .i64 k, .float .f64 a, .float .f64 b] w fun e w' => ∃ r, e = .returned (.float .f64 r) ∧ (∃ n, w' = w.drewN n) ∧ IsC r (lm k a b) := by
  have L : Hid (IsC 0 (lm k a b)) := by
    unfold lm
    rw [if_neg h1, if_neg h2, if_neg h3]
    exact IsC.refl (by decide)
  have g1 : (k == 1) = false := by simp; exact h1
  have g2 : (k == 2) = false := by simp; exact h2
  have g3 : (k == 3) = false := by simp; exact h3
  go_enter Try.func20, Try.ntmps20
  go_wp2
  go_ret
  exact ⟨0, rfl, ⟨0, rfl⟩, L.out⟩
theorem rabove_at (k : Int) (a b : Nat) (w : World) (ha : ps a = true) (hb : ps b = true) : Calls Try.prog 20 #[.int .i64 k, .float .f64 a, .float .f64 b] w fun e w' => ∃ r, e = .returned (.float .f64 r) ∧ (∃ n, w' = w.drewN n) ∧ IsC r (lm k a b) := by
  by_cases h1 : k = 1
  · subst h1; exact rabove1 a b w ha hb
  by_cases h2 : k = 2
  · subst h2; exact rabove2 a b w ha hb
  by_cases h3 : k = 3
  · subst h3; exact rabove3 a b w ha hb
  exact rabove0 k a b w h1 h2 h3
set_option maxHeartbeats 1000000 in
theorem rslope_p (k : Int) (a b : Nat) (w : World) (ga : fgt a 0 = true) (gb : fgt b 0 = true) (PA : Hid (ps a = true)) (PB : Hid (ps b = true)) : Calls Try.prog 10 #[.int .i64 k, .float .f64 a, .float .f64 b] w fun e w' => e = .returned (.float .f64 (lm k a b)) ∧ Below w.heap.size w w' := by
  have G := hid (rabove_at k a b w PA.out PB.out)
  go_enter Try.func10, Try.ntmps10
  go_wp2_with fail
  refine G.out.mono ?_
  rintro e w3 ⟨r, rfl, ⟨n, rfl⟩, hr⟩
  have C := hid (refCanon_any r (w.drewN n))
  have HR := hid hr.2
  clear hr
  go_wp2_with fail
  refine C.out.mono ?_
  rintro e w4 ⟨rfl, rfl⟩
  go_wp2
  go_ret
  exact ⟨ret_flt HR.out, Ab.drewN (Ab.refl _) n⟩
set_option maxHeartbeats 1000000 in
theorem rslope_n (k : Int) (a b p q : Nat) (w : World) (ga : flt a 0 = true) (gb : flt b 0 = true) (ga2 : fgt a 0 = false) (na : Op.negFloat .f64 a = p) (nb : Op.negFloat .f64 b = q) (P : Hid (ps p = true)) (Q : Hid (ps q = true)) : Calls Try.prog 10 #[.int .i64 k, .float .f64 a, .float .f64 b] w fun e w' => e = .returned (.float .f64 (op (lm k p q))) ∧ Below w.heap.size w w' := by
  have G := hid (rabove_at k p q w P.out Q.out)
  go_enter Try.func10, Try.ntmps10
  go_wp2_with fail
  refine G.out.mono ?_
  rintro e w3 ⟨r, rfl, ⟨n, rfl⟩, hr⟩
  have E : canonB (Op.negFloat .f64 r) = op (lm k p q) := by rw [negFloat_eq r hr.1]; exact canon_op2 hr (lm_le k (ps_iff.1 P.out).2 (ps_iff.1 Q.out).2)
  have C := refCanon_any (Op.negFloat .f64 r) (w.drewN n)
  rw [E] at C
  have C := hid C
  clear hr E
  go_wp2_with fail
  refine C.out.mono ?_
  rintro e w4 ⟨rfl, rfl⟩
  go_wp2
  go_ret
  exact ⟨rfl, Ab.drewN (Ab.refl _) n⟩
set_option maxHeartbeats 1000000 in
theorem rslope_z (k : Int) (a b : Nat) (w : World) (pa : (fgt a 0 && fgt b 0) = false) (pb : (flt a 0 && flt b 0) = false) : Calls Try.prog 10 #[.int .i64 k, .float .f64 a, .float .f64 b] w fun e w' => e = .returned (.float .f64 0) ∧ Below w.heap.size w w' := by
  cases g1 : fgt a 0 <;> cases g2 : flt a 0 <;> rw [g1] at pa <;> rw [g2] at pb <;> (try rw [Bool.true_and] at pa) <;> (try rw [Bool.true_and] at pb) <;> (
    go_enter Try.func10, Try.ntmps10
    go_wp2
    go_ret
    exact ⟨rfl, Below.refl _ _⟩)
theorem rslope_at (k : Int) (a b : Nat) (w : World) (ha : a < 18446744073709551616) (hb : b < 18446744073709551616) : Calls Try.prog 10 #[.int .i64 k, .float .f64 a, .float .f64 b] w fun e w' => e = .returned (.float .f64 (slp k a b)) ∧ Below w.heap.size w w' := by
  cases pp : (ps a && ps b)
  · cases n : (ns a && ns b)
    · rw [slp_z pp n]
      exact rslope_z k a b w (by rw [fgt_ps ha, fgt_ps hb]; exact pp) (by rw [flt_ns ha, flt_ns hb]; exact n)
    · rw [Bool.and_eq_true] at n
      have a1 := ns_iff.1 n.1
      have b1 := ns_iff.1 n.2
      rw [slp_n n.1 n.2]
      exact rslope_n k a b _ _ w (by rw [flt_ns ha]; exact n.1) (by rw [flt_ns hb]; exact n.2) (by rw [fgt_ps ha]; exact ps_no.2 (by omega)) (by rw [negFloat_eq a ha, neg_ns a1.1]) (by rw [negFloat_eq b hb, neg_ns b1.1]) (ps_iff.2 ⟨by omega, by omega⟩) (ps_iff.2 ⟨by omega, by omega⟩)
  · rw [Bool.and_eq_true] at pp
    rw [slp_p pp.1 pp.2]
    exact rslope_p k a b w (by rw [fgt_ps ha]; exact pp.1) (by rw [fgt_ps hb]; exact pp.2) pp.1 pp.2
set_option maxHeartbeats 1000000 in
theorem rvalid_at (k : Int) (w : World) : Calls Try.prog 12 #[.int .i64 k] w fun e w' => e = .returned (.bool (decide (0 ≤ k ∧ k ≤ 3))) ∧ Below w.heap.size w w' := by
  by_cases c : 0 ≤ k
  · have e : decide (0 ≤ k ∧ k ≤ 3) = decide (k ≤ 3) := by simp [c]
    rw [e]
    clear e
    go_enter Try.func12, Try.ntmps12
    go_wp2
    go_ret
    exact ⟨rfl, Below.refl _ _⟩
  · have e : decide (0 ≤ k ∧ k ≤ 3) = false := decide_eq_false (by omega)
    rw [e]
    clear e
    go_enter Try.func12, Try.ntmps12
    go_wp2
    go_ret
    exact ⟨rfl, Below.refl _ _⟩
end Go.Proofs.Ytajkmkjdlkbnoaa

/-
  Valid and Slope against the document's answer, of a list of differences: the walk.
-/
namespace Go.Proofs.Ytajkmkjdlkbnoaa
open Go.RowKit Tf
attribute [local go_sem] run_bits run_from raw_feq raw_fne raw_flt raw_fgt run_neg
/-- a kind and two floats from there on -/
def TwoAt (w : World) (b o : Nat) : Prop := ∃ (K : Int) (x y : Nat), w.cell? ⟨b, o, none⟩ = some (.int .i64 K) ∧ w.cell? ⟨b, o + 1, none⟩ = some (.float .f64 x) ∧ w.cell? ⟨b, o + 2, none⟩ = some (.float .f64 y) ∧ x < 18446744073709551616 ∧ y < 18446744073709551616
theorem same_below (x : Nat) (v : World) : Calls Try.prog 8 #[.float .f64 x, .float .f64 x] v fun e w' => e = .returned (.bool true) ∧ Below v.heap.size v w' :=
  (same10_yes x x v rfl).mono fun _ _ ⟨he, hw⟩ => ⟨he, by rw [hw]; exact Below.refl _ _⟩
set_option maxRecDepth 100000 in
set_option maxHeartbeats 16000000 in
theorem all_go (b off len cap : Nat) (w : World) (hcap : len ≤ cap) (hl : (cap : Int) ≤ 9223372036854775807) (hb : b < w.heap.size) (hc : ∀ i, i < len → TwoAt w b (off + i * 3)) :
    Calls Try.prog 3 #[.slice (some ⟨b, off, none⟩) len cap] w fun e w' => e = .returned (.bool true) ∧ Below w.heap.size w w' := by
  have LV := hid (lives10_at w)
  have HC := hid hc
  have HB := hid hb
  clear hc hb
  go_enter Try.func3, Try.ntmps3
  go_wp2_with fail
  refine LV.out.mono ?_
  rintro e w1 ⟨rfl, b1⟩
  have A1 : Hid (Ab w w1) := b1
  clear b1
  go_wp2
  go_loopw [3] (fun iv wr => ∃ i : Nat, i ≤ len ∧ iv = .int .i64 (i : Nat) ∧ Ab w wr) (fun iv _ => len - (intOf iv).toNat)
  case atStart => exact ⟨0, by omega, rfl, A1.out⟩
  case round =>
    obtain ⟨i, hi, rfl, A⟩ := hrel
    have AA := hid A
    clear A A1
    by_cases hil : i < len
    · have hi' : (i : Int) < len := by omega
      obtain ⟨K, x, y, c0, c1, c2, hx, hy⟩ := HC.out i hil
      have CC := hid (fun (v : World) (h : Ab w v) => (⟨(Below.cell h HB.out).trans c0, (Below.cell h HB.out).trans c1, (Below.cell h HB.out).trans c2⟩ : v.cell? ⟨b, off + i * 3, none⟩ = some (.int .i64 K) ∧ v.cell? ⟨b, off + i * 3 + 1, none⟩ = some (.float .f64 x) ∧ v.cell? ⟨b, off + i * 3 + 2, none⟩ = some (.float .f64 y)))
      have SB := hid (fun (k : Int) => (⟨slp k x y, fun v => slope_at k x y v hx hy, fun v => rslope_at k x y v hx hy⟩ : ∃ s, (∀ v, Calls Try.prog 9 #[.int .i64 k, .float .f64 x, .float .f64 y] v fun e w' => e = .returned (.float .f64 s) ∧ Below v.heap.size v w') ∧ ∀ v, Calls Try.prog 10 #[.int .i64 k, .float .f64 x, .float .f64 y] v fun e w' => e = .returned (.float .f64 s) ∧ Below v.heap.size v w'))
      have VB := hid (fun (k : Int) => (⟨_, fun v => valid_at k v, fun v => rvalid_at k v⟩ : ∃ s, (∀ v, Calls Try.prog 11 #[.int .i64 k] v fun e w' => e = .returned (.bool s) ∧ Below v.heap.size v w') ∧ ∀ v, Calls Try.prog 12 #[.int .i64 k] v fun e w' => e = .returned (.bool s) ∧ Below v.heap.size v w'))
      have SS := hid same_below
      have HI := hid hil
      clear c0 c1 c2 hx hy HC hil
      go_wp2
      go_loopw [4] (fun kv wr => ∃ k : Int, -1 ≤ k ∧ k ≤ 6 ∧ kv = .int .i64 k ∧ Ab w wr) (fun kv _ => (6 - intOf kv).toNat)
      case atStart => exact ⟨-1, by omega, by omega, rfl, AA.out⟩
      case round =>
        obtain ⟨k, hk1, hk2, rfl, B⟩ := hrel
        have BB := hid B
        clear B AA
        by_cases hk6 : k < 6
        · obtain ⟨s, T1, T2⟩ := SB.out k
          obtain ⟨q, T3, T4⟩ := VB.out k
          have T1 := hid T1
          have T2 := hid T2
          have T3 := hid T3
          have T4 := hid T4
          cases q <;> (
            go_upto_region 9 with fail
            obtain ⟨UU, F, hF1, hF2⟩ := cls wr
            have HU := hid hF2
            have HU1 := hid hF1
            have x1 : ∀ u, (F u).cell? ⟨b, off + i * 3 + 1, none⟩ = some (.float .f64 x) := fun u => (CC.out _ (BB.out.trans (hF1 u))).2.1
            have x2 : ∀ u, (F u).cell? ⟨b, off + i * 3 + 2, none⟩ = some (.float .f64 y) := fun u => (CC.out _ (BB.out.trans (hF1 u))).2.2
            have D := HU.out _ (Ab.refl wr).drew
            clear hF1 hF2
            refine region_cls F (by kernel_rfl) (by kernel_rfl) D ?_
            repeat (go_big_quiet_step (first
              | (with_reducible rfl)
              | (go_at_call 9; exact calls_cls HU HU1 (T1.out _))
              | (go_at_call 10; exact calls_cls HU HU1 (T2.out _))
              | (go_at_call 11; exact calls_cls HU HU1 (T3.out _))
              | (go_at_call 12; exact calls_cls HU HU1 (T4.out _))
              | (go_at_call 8; exact calls_cls HU HU1 (SS.out _ _))))
            refine wpQuiet_nil ?_
            intro wz hwz
            obtain ⟨u, hu⟩ := hwz
            have bz : Ab wr wz := by rw [hu]; exact HU1.out u
            have AZ : Hid (Ab w wz) := BB.out.trans bz
            clear hu u bz
            clear HU HU1 D x1 x2
            clear F UU
            go_wp2
            go_roundw
            case rel => exact ⟨k + 1, by omega, by omega, by simp, AZ.out⟩
            case measure => simp [intOf]; omega)
        · have e6 : k = 6 := by omega
          subst e6
          clear hk1 hk2 hk6
          obtain ⟨s, T1, T2⟩ := SB.out K
          obtain ⟨q, T3, T4⟩ := VB.out K
          have T1 := hid T1
          have T2 := hid T2
          have T3 := hid T3
          have T4 := hid T4
          have x0 := (CC.out wr BB.out).1
          have HI2 := HI.out
          go_upto_region 12 with fail
          obtain ⟨UU, F, hF1, hF2⟩ := cls wr
          have HU := hid hF2
          have HU1 := hid hF1
          have x1 : ∀ u, (F u).cell? ⟨b, off + i * 3 + 1, none⟩ = some (.float .f64 x) := fun u => (CC.out _ (BB.out.trans (hF1 u))).2.1
          have x2 : ∀ u, (F u).cell? ⟨b, off + i * 3 + 2, none⟩ = some (.float .f64 y) := fun u => (CC.out _ (BB.out.trans (hF1 u))).2.2
          have D := HU.out _ (Ab.refl wr).drew
          clear hF1 hF2
          refine region_cls F (by kernel_rfl) (by kernel_rfl) D ?_
          repeat (go_big_quiet_step (first
            | (with_reducible rfl)
            | (go_at_call 9; exact calls_cls HU HU1 (T1.out _))
            | (go_at_call 10; exact calls_cls HU HU1 (T2.out _))
            | (go_at_call 11; exact calls_cls HU HU1 (T3.out _))
            | (go_at_call 12; exact calls_cls HU HU1 (T4.out _))
            | (go_at_call 8; exact calls_cls HU HU1 (SS.out _ _))))
          refine wpQuiet_nil ?_
          intro wz hwz
          obtain ⟨u, hu⟩ := hwz
          have bz : Ab wr wz := by rw [hu]; exact HU1.out u
          have AZ : Hid (Ab w wz) := BB.out.trans bz
          clear hu u bz
          clear HU HU1 D x1 x2
          clear F UU
          go_wp2
          go_roundw
          case rel => exact ⟨i + 1, by omega, by simp, AZ.out⟩
          case measure => simp [intOf]; omega
    · have e : i = len := by omega
      subst e
      go_wp2
      go_ret
      exact ⟨rfl, AA.out⟩
end Go.Proofs.Ytajkmkjdlkbnoaa
