/-
  The statement on noughts and opposites: by plain numbers, and walks over the program.
-/
import Derived.Test.YtflkbjcaajchjaaSk
import Derived.Test.YtflkbjcaajchjaaSi
namespace Go.Proofs.Ytflkbjcaajchjaa
open Go.RowKit Tf
attribute [local go_sem] run_bits run_from raw_feq raw_fne raw_flt raw_fgt run_neg

theorem mg0 : mg 0 = 0 := by decide
theorem sv0 : sv 0 = 0 := by decide
theorem pl_zero {s : Nat} (hs : s < 18446744073709551616) (hq : qB s = s) (h0 : ¬ (mg s = 0 ∧ ng s = true)) : plB s 0 = s := by
  rcases three s with f | f | f
  · rw [plB_some (add_d s 0 hs (by decide) f (by rw [mg0]; decide)), sv0, Int.add_zero, show ng 0 = false by decide, Bool.and_false]
    by_cases c : mg s = 0
    · have hn : ng s = false := by cases hn : ng s; rfl; exact absurd ⟨c, hn⟩ h0
      have hw := word_eq s hs
      rw [hn, c] at hw
      have : s = 0 := hw
      subst this
      decide
    · exact rn_sv false s hs (by omega) (by omega)
  · rw [plB_some (add_if s 0 hs f (by rw [mg0]; decide))]
    exact (infW_of s hs f).symm
  · rw [plB_none (add_nan s 0 (.inl f)), ← hq, qB_N f]
/-- not -0, and no other NaN -/
def Can (x : Nat) : Prop := x < 18446744073709551616 ∧ qB x = x ∧ ¬ (mg x = 0 ∧ ng x = true)
theorem can0 : Can 0 := ⟨by decide, by decide, by decide⟩
theorem mg_rn_ne {z : Bool} {v : Int} (h : v ≠ 0) : mg (rn z v) ≠ 0 := by
  rw [rn_mg]
  have h1 : 1 ≤ rung 52 0 v.natAbs := by
    have e1 : mag 52 1 = 1 := by decide
    exact rung_ge (by omega) (by rw [Nat.pow_zero, Nat.mul_one, e1]; omega)
  generalize rung 52 0 v.natAbs = r at *
  omega
theorem can_rn {z : Bool} {v : Int} (h : v = 0 → z = false) : Can (rn z v) := by
  refine ⟨rn_lt _ _, qB_of (isN_rn _ _), ?_⟩
  by_cases c : v = 0
  · rw [c, h c, rn_zero]; decide
  · exact fun x => mg_rn_ne c x.1
theorem can_inf (s : Bool) : Can (infW s) := by cases s <;> exact ⟨by decide, by decide, by decide⟩
theorem can_pl {a b : Nat} (ha : Can a) (hb : Can b) : Can (plB a b) := by
  rcases add_cases a b ha.1 hb.1 with ⟨fa, fb⟩ | h | ⟨s, h⟩
  · rw [plB_some (add_d a b ha.1 hb.1 fa fb)]
    refine can_rn (fun hv => ?_)
    cases na : ng a
    · rfl
    · cases nb : ng b
      · rfl
      · have e1 : sv a = -(mv (mg a) : Int) := by unfold sv; rw [na, if_pos rfl]
        have e2 : sv b = -(mv (mg b) : Int) := by unfold sv; rw [nb, if_pos rfl]
        have h0 : mv (mg a) = 0 := by omega
        have : mg a = 0 := mv_inj.1 (by rw [h0, mv_zero])
        exact absurd ⟨this, na⟩ ha.2.2
  · rw [plB_none h]; exact ⟨by decide, by decide, by decide⟩
  · rw [plB_some h]; exact can_inf s
theorem can_addB {a b : Nat} (ha : a < 18446744073709551616) (hb : b < 18446744073709551616) : Can (addB a b) := by
  rcases add_cases a b ha hb with ⟨fa, fb⟩ | h | ⟨s, h⟩
  · rw [addB_fin a b ha hb fa fb]; exact can_rn (fun _ => rfl)
  · rw [addB_none h]; exact ⟨by decide, by decide, by decide⟩
  · rw [addB_some h, infW_canon]; exact can_inf s
theorem can_sumE (a b : Nat) : Can (sumE a b) := by
  unfold sumE; split
  · exact can_rn (fun _ => rfl)
  · exact can0
theorem can_caS (xs : Nat → Nat) (k : Nat) (h : ∀ j, j < k → xs j < 18446744073709551616) : Can (caS xs k) := by
  cases k with
  | zero => exact can0
  | succ k => exact can_addB (caS_lt xs k (fun j hj => h j (by omega))) (h k (by omega))
theorem can_caC (xs : Nat → Nat) (k : Nat) : Can (caC xs k) := by
  induction k with
  | zero => exact can0
  | succ k ih => exact can_pl ih (can_sumE _ _)
theorem addB_zero {s : Nat} (hs : Can s) : addB s 0 = s := by
  have h := pl_zero hs.1 hs.2.1 hs.2.2
  rcases add_cases s 0 hs.1 (by decide) with ⟨fa, fb⟩ | h' | ⟨z, h'⟩
  · rw [plB_some (add_d s 0 hs.1 (by decide) fa fb)] at h
    rw [addB_some (add_d s 0 hs.1 (by decide) fa fb), h]
    unfold canonB
    have hN : isN s = false := by rw [← h]; exact isN_rn _ _
    rw [hN, if_neg (by decide)]
    by_cases c : mg s = 0
    · rw [if_pos c]
      have hn : ng s = false := by cases hn : ng s; rfl; exact absurd ⟨c, hn⟩ hs.2.2
      have hw := word_eq s hs.1
      rw [hn, c] at hw
      exact hw.symm
    · rw [if_neg c]
  · rw [plB_none h'] at h
    rw [addB_none h', h]
  · rw [plB_some h'] at h
    rw [addB_some h', infW_canon, h]
theorem sumE_zero {s : Nat} (hs : Can s) : sumE s 0 = 0 := by
  unfold sumE
  rw [addB_zero hs, sv0]
  split
  · rw [show sv s + 0 - sv s = 0 by omega, rn_zero]; rfl
  · rfl
/-- a nought more -/
def more (xs : Nat → Nat) (n : Nat) : Nat → Nat := fun k => if k < n then xs k else 0
theorem more_left (xs : Nat → Nat) (n : Nat) (h : ∀ j, j < n → xs j < 18446744073709551616) (h0 : feq (leftB xs n) 0 = false) : leftB (more xs n) (n + 1) = leftB xs n := by
  have hl := leftB_lt xs n h
  have hq := leftB_q xs n h
  rw [feq_zero _ hl, decide_eq_false_iff_not] at h0
  by_cases c : n = 0
  · subst c; exact absurd rfl h0
  · have e : leftB (more xs n) (n + 1) = plB (leftB (more xs n) n) (more xs n n) := by
      unfold leftB
      rw [if_neg (by omega), if_neg c, show n + 1 - 1 = (n - 1) + 1 by omega]
      show plB _ (more xs n (n - 1 + 1)) = _
      rw [show n - 1 + 1 = n by omega]
    have e2 : leftB (more xs n) n = leftB xs n := leftB_congr _ _ n (fun j hj => by unfold more; rw [if_pos hj])
    have e3 : more xs n n = 0 := by unfold more; rw [if_neg (by omega)]
    rw [e, e2, e3]
    exact pl_zero hl hq (fun x => h0 x.1)
theorem more_care (xs : Nat → Nat) (n : Nat) (h : ∀ j, j < n → xs j < 18446744073709551616) : careB (more xs n) (n + 1) = careB xs n := by
  have e2 : caS (more xs n) n = caS xs n := caS_congr _ _ n (fun j hj => by unfold more; rw [if_pos hj])
  have e3 : caC (more xs n) n = caC xs n := caC_congr _ _ n (fun j hj => by unfold more; rw [if_pos hj])
  have e4 : more xs n n = 0 := by unfold more; rw [if_neg (by omega)]
  have hS := can_caS xs n h
  have hC := can_caC xs n
  unfold careB
  show plB (addB (caS (more xs n) n) (more xs n n)) (plB (caC (more xs n) n) (sumE (caS (more xs n) n) (more xs n n))) = _
  rw [e2, e3, e4, addB_zero hS, sumE_zero hS, pl_zero hC.1 hC.2.1 hC.2.2]
/-- where nothing is lost -/
theorem pl_exact {u v : Nat} (hu : u < 18446744073709551616) (hv : v < 18446744073709551616) (fu : mg u < 9218868437227405312) (fv : mg v < 9218868437227405312) (hd : isD (sv u + sv v)) (ht : (sv u + sv v).natAbs < top) :
    plB u v < 18446744073709551616 ∧ mg (plB u v) < 9218868437227405312 ∧ sv (plB u v) = sv u + sv v := by
  rw [plB_some (add_d u v hu hv fu fv)]
  obtain ⟨h1, h2⟩ := rn_exact (ng u && ng v) _ hd ht
  exact ⟨rn_lt _ _, h1, h2⟩
theorem isN_fin {x : Nat} (h : mg x < 9218868437227405312) : isN x = false := isN_false.2 (by omega)
theorem feq_of_sv {a b : Nat} (ha : a < 18446744073709551616) (hb : b < 18446744073709551616) (fa : mg a < 9218868437227405312) (fb : mg b < 9218868437227405312) (h : sv a = sv b) : feq a b = true := by
  rw [feq_rk a b ha hb, isN_fin fa, isN_fin fb, (sv_eq_iff a b).1 h]
  simp
theorem top_pos : 0 < top := by decide +kernel
theorem th_exact (u v z : Nat) (hu : u < 18446744073709551616) (hv : v < 18446744073709551616) (hz : z < 18446744073709551616) (fu : mg u < 9218868437227405312) (fv : mg v < 9218868437227405312) (fz : mg z < 9218868437227405312)
    (d1 : isD (sv u + sv v)) (t1 : (sv u + sv v).natAbs < top) (d2 : isD (sv u + sv v + sv z)) (t2 : (sv u + sv v + sv z).natAbs < top) :
    plB (plB u v) z < 18446744073709551616 ∧ mg (plB (plB u v) z) < 9218868437227405312 ∧ sv (plB (plB u v) z) = sv u + sv v + sv z := by
  obtain ⟨p1, p2, p3⟩ := pl_exact hu hv fu fv d1 t1
  have := pl_exact p1 hz p2 fz (by rw [p3]; exact d2) (by rw [p3]; exact t2)
  rw [p3] at this
  exact this
theorem th_opp (x : Nat) (hx : x < 18446744073709551616) (fx : mg x < 9218868437227405312) : feq (thB x 0 (negB x)) 0 = true := by
  have hn : negB x < 18446744073709551616 := negB_lt hx
  have fn : mg (negB x) < 9218868437227405312 := by rw [mg_negB]; exact fx
  have f0 : mg 0 < 9218868437227405312 := by rw [mg0]; decide
  have sn := sv_negB x hx
  have tx := sv_top x fx
  have tp := top_pos
  have dx := isD_sv x
  have dn := isD_neg dx
  have d0 := isD_zero
  have l0 : (0 : Nat) < 18446744073709551616 := by decide
  have fin : ∀ r, r < 18446744073709551616 ∧ mg r < 9218868437227405312 ∧ sv r = 0 → feq r 0 = true := fun r h => feq_of_sv h.1 l0 h.2.1 f0 (by rw [h.2.2, sv0])
  obtain ⟨u, v, z, e, hp⟩ := th_perm x 0 (negB x)
  rw [e]
  have key : ∀ u v z, u < 18446744073709551616 → v < 18446744073709551616 → z < 18446744073709551616 → mg u < 9218868437227405312 → mg v < 9218868437227405312 → mg z < 9218868437227405312 → (sv u + sv v = 0 ∨ sv u + sv v = sv x ∨ sv u + sv v = -sv x) → sv u + sv v + sv z = 0 → feq (plB (plB u v) z) 0 = true := by
    intro u v z hu hv hz fu fv fz h1 h2
    refine fin _ ?_
    have hd : isD (sv u + sv v) ∧ (sv u + sv v).natAbs < top := by
      rcases h1 with h | h | h <;> rw [h]
      · exact ⟨d0, tp⟩
      · exact ⟨dx, tx⟩
      · exact ⟨dn, by rw [Int.natAbs_neg]; exact tx⟩
    have := th_exact u v z hu hv hz fu fv fz hd.1 hd.2 (by rw [h2]; exact d0) (by rw [h2]; exact tp)
    rwa [h2] at this
  clear tp tx
  rcases hp with ⟨rfl, rfl, rfl⟩ | ⟨rfl, rfl, rfl⟩ | ⟨rfl, rfl, rfl⟩ | ⟨rfl, rfl, rfl⟩ | ⟨rfl, rfl, rfl⟩ | ⟨rfl, rfl, rfl⟩
  all_goals (refine key _ _ _ ?_ ?_ ?_ ?_ ?_ ?_ ?_ ?_ <;> first | assumption | (rw [sn, sv0]; omega) | (rw [sv0, sn]; omega) | (rw [sv0]; omega) | (rw [sn]; omega))
theorem th_alone (x : Nat) (hx : x < 18446744073709551616) (fx : mg x < 9218868437227405312) : feq (thB x 0 0) x = true := by
  have f0 : mg 0 < 9218868437227405312 := by rw [mg0]; decide
  have tx := sv_top x fx
  have tp := top_pos
  have dx := isD_sv x
  have d0 := isD_zero
  have l0 : (0 : Nat) < 18446744073709551616 := by decide
  obtain ⟨u, v, z, e, hp⟩ := th_perm x 0 0
  rw [e]
  have key : ∀ u v z, u < 18446744073709551616 → v < 18446744073709551616 → z < 18446744073709551616 → mg u < 9218868437227405312 → mg v < 9218868437227405312 → mg z < 9218868437227405312 → (sv u + sv v = 0 ∨ sv u + sv v = sv x) → sv u + sv v + sv z = sv x → feq (plB (plB u v) z) x = true := by
    intro u v z hu hv hz fu fv fz h1 h2
    have hd : isD (sv u + sv v) ∧ (sv u + sv v).natAbs < top := by
      rcases h1 with h | h <;> rw [h]
      · exact ⟨d0, tp⟩
      · exact ⟨dx, tx⟩
    have := th_exact u v z hu hv hz fu fv fz hd.1 hd.2 (by rw [h2]; exact dx) (by rw [h2]; exact tx)
    exact feq_of_sv this.1 hx this.2.1 fx (by rw [this.2.2, h2])
  clear tp tx
  rcases hp with ⟨rfl, rfl, rfl⟩ | ⟨rfl, rfl, rfl⟩ | ⟨rfl, rfl, rfl⟩ | ⟨rfl, rfl, rfl⟩ | ⟨rfl, rfl, rfl⟩ | ⟨rfl, rfl, rfl⟩
  all_goals (refine key _ _ _ ?_ ?_ ?_ ?_ ?_ ?_ ?_ ?_ <;> first | assumption | (rw [sv0]; omega))
theorem care_one (x : Nat) (hx : x < 18446744073709551616) (fx : mg x < 9218868437227405312) : feq (careB (fun _ => x) 1) x = true := by
  have f0 : mg 0 < 9218868437227405312 := by rw [mg0]; decide
  have l0 : (0 : Nat) < 18446744073709551616 := by decide
  have e1 : addB 0 x = rn false (sv x) := by rw [addB_fin 0 x l0 hx f0 fx, sv0, Int.zero_add]
  obtain ⟨h1, h2⟩ := rn_exact false (sv x) (isD_sv x) (sv_top x fx)
  have e2 : sumE 0 x = 0 := by
    unfold sumE
    rw [e1, if_pos h1, h2, sv0, show 0 + sv x - sv x = 0 by omega, rn_zero]; rfl
  have hC : Can (rn false (sv x)) := can_rn (fun _ => rfl)
  have e3 : careB (fun _ => x) 1 = rn false (sv x) := by
    show plB (addB 0 x) (plB 0 (sumE 0 x)) = _
    rw [e1, e2, show plB 0 0 = 0 by decide, pl_zero hC.1 hC.2.1 hC.2.2]
  rw [e3]
  exact feq_of_sv hC.1 hx h1 fx h2
theorem more_list (xs : Nat → Nat) (len j : Nat) : ([] ++ (List.range len).map xs ++ (List.range 1).map (fun _ => 0)).getD j 0 = if j < len then xs j else 0 := by
  rw [List.nil_append]
  by_cases c : j < len
  · rw [if_pos c]
    simp [List.getElem?_append, c]
  · rw [if_neg c]
    simp [List.getElem?_append, c]
    by_cases c2 : j - len = 0
    · simp [c2]
    · have : ¬ j - len < 1 := by omega
      simp [this]
theorem more_own {B : Nat} {v : Value} {w : World} {xs : Nat → Nat} {len : Nat} (h : OwnF B v ([] ++ (List.range len).map xs ++ (List.range 1).map (fun _ => 0)) w) (hx : ∀ j, j < len → xs j < 18446744073709551616) :
    ∃ a0 cap, v = .slice a0 (len + 1) cap ∧ len + 1 ≤ cap ∧ (cap : Int) ≤ 9223372036854775807 ∧ IsFl w a0 (len + 1) (more xs len) := by
  obtain ⟨a0, cap, h1, h2, h3, _, h5⟩ := own_fl h (by
    intro x hm
    simp at hm
    rcases hm with ⟨j, hj, rfl⟩ | rfl
    · exact hx j hj
    · decide)
  have e : ([] ++ (List.range len).map xs ++ (List.range 1).map (fun _ => 0)).length = len + 1 := by simp
  rw [e] at h1 h2 h5
  refine ⟨a0, cap, h1, h2, h3, fun k hk => ?_⟩
  have := h5 k hk
  simp only [more_list] at this
  exact this
set_option maxHeartbeats 4000000 in
set_option maxRecDepth 100000 in
theorem no_FalseFalsen (a0 : Option Addr) (len cap x s c : Nat) (xs : Nat → Nat) (w : World) (hlen : (len : Int) ≤ 1048576) (HF : Hid (IsFl w a0 len xs ∧ len ≤ cap ∧ (a0 = none → cap = 0))) (fx : feq x x = false)
    (gs : feq s 0 = false) (gc : feq c 0 = false)
    (L1 : Hid (∀ wr, Below w.heap.size w wr → Calls Try.prog 11 #[.slice a0 len cap] wr fun e w' => e = .returned (.float .f64 s) ∧ Hid (Below wr.heap.size wr w')))
    (C1 : Hid (∀ wr, Below w.heap.size w wr → Calls Try.prog 15 #[.slice a0 len cap] wr fun e w' => e = .returned (.float .f64 c) ∧ Hid (Below wr.heap.size wr w')))
    (L2 : Hid (∀ a2 cap2 wr, len + 1 ≤ cap2 → (cap2 : Int) ≤ 9223372036854775807 → IsFl wr a2 (len + 1) (more xs len) → Calls Try.prog 11 #[.slice a2 (len + 1) cap2] wr fun e w' => e = .returned (.float .f64 s) ∧ Hid (Below wr.heap.size wr w')))
    (C2 : Hid (∀ a2 cap2 wr, len + 1 ≤ cap2 → (cap2 : Int) ≤ 9223372036854775807 → IsFl wr a2 (len + 1) (more xs len) → Calls Try.prog 15 #[.slice a2 (len + 1) cap2] wr fun e w' => e = .returned (.float .f64 c) ∧ Hid (Below wr.heap.size wr w'))) :
    Calls Try.prog 7 #[.slice a0 len cap, .float .f64 x] w fun e w' => e = .returned (.bool true) ∧ Hid (Below w.heap.size w w') := by
  have S := hid same5_self
  have ONE1 : ∀ k, k < 1 → (0 : Nat) < 18446744073709551616 ∧ #[Value.float .f64 0][k]? = some (.float .f64 0) := by
    intro k hk; obtain rfl : k = 0 := by omega
    exact ⟨by decide, rfl⟩
  go_enter Try.func7, Try.ntmps7
  go_wp2_with fail
  refine (lives_any _).mono ?_
  rintro e w0 ⟨rfl, b0⟩
  go_wp2_with (first
    | (at_builtin; refine wpList_app rfl (.tmp 13) (.tmp 14) rfl w _ [] rfl (own_nil _ _) b0.out a0 len cap xs rfl HF.out.2.2 HF.out.2.1 (HF.out.1.below b0.out) (by simp; omega) ?_; intro v1 w1 o1 b1; have O1 := hid o1; have B1 := hid b1; clear o1 b1)
    | (at_builtin; refine wpList_app rfl (.tmp 16) (.tmp 17) rfl w v1 _ rfl (O1.out.alloc _) (B1.out.alloc B1.out.size _) (some ⟨w1.heap.size, 0, none⟩) 1 1 (fun _ => 0) rfl (fun h => by cases h) (Nat.le_refl _) (fl_new w1 _ _ _ 1 ONE1) (by simp; omega) ?_; intro v2 w2 o2 b2; obtain ⟨a2, cap2, rfl, m1, m2, m3⟩ := more_own o2 (fun j hj => (HF.out.1 j hj).1); have M := hid (⟨m1, m2, m3⟩ : _ ∧ _ ∧ _); have B2 := hid b2; clear o2 b2 m1 m2 m3 O1 B1))
  go_wp2_with fail
  refine (L1.out _ B2.out).mono ?_
  rintro e w3 ⟨rfl, c3⟩
  have B3 : Hid (Below w.heap.size w w3) := bthen B2.out c3.out
  have F3 := hid (M.out.2.2.below c3.out)
  clear c3 B2
  go_wp2_with fail
  refine (L2.out a2 cap2 _ M.out.1 M.out.2.1 F3.out).mono ?_
  rintro e w4 ⟨rfl, c4⟩
  have B4 : Hid (Below w.heap.size w w4) := bthen B3.out c4.out
  have F4 := hid (F3.out.below c4.out)
  clear c4 B3
  go_wp2_with fail
  refine (S.out _ _).mono ?_
  rintro e w' ⟨rfl, rfl⟩
  go_wp2_with fail
  refine (C1.out _ B4.out).mono ?_
  rintro e w5 ⟨rfl, c5⟩
  have B5 : Hid (Below w.heap.size w w5) := bthen B4.out c5.out
  have F5 := hid (F4.out.below c5.out)
  clear c5 B4
  go_wp2_with fail
  refine (C2.out a2 cap2 _ M.out.1 M.out.2.1 F5.out).mono ?_
  rintro e w6 ⟨rfl, c6⟩
  have B6 : Hid (Below w.heap.size w w6) := bthen B5.out c6.out
  have F6 := hid (F5.out.below c6.out)
  clear c6 B5
  go_wp2_with fail
  refine (S.out _ _).mono ?_
  rintro e w' ⟨rfl, rfl⟩
  go_wp2
  go_ret
  exact ⟨rfl,  B6⟩
set_option maxHeartbeats 4000000 in
set_option maxRecDepth 100000 in
theorem no_FalseFalsei (a0 : Option Addr) (len cap x s c : Nat) (xs : Nat → Nat) (w : World) (hlen : (len : Int) ≤ 1048576) (HF : Hid (IsFl w a0 len xs ∧ len ≤ cap ∧ (a0 = none → cap = 0))) (fx : feq x x = true) (hi : Ieee.double.sub x x = none)
    (gs : feq s 0 = false) (gc : feq c 0 = false)
    (L1 : Hid (∀ wr, Below w.heap.size w wr → Calls Try.prog 11 #[.slice a0 len cap] wr fun e w' => e = .returned (.float .f64 s) ∧ Hid (Below wr.heap.size wr w')))
    (C1 : Hid (∀ wr, Below w.heap.size w wr → Calls Try.prog 15 #[.slice a0 len cap] wr fun e w' => e = .returned (.float .f64 c) ∧ Hid (Below wr.heap.size wr w')))
    (L2 : Hid (∀ a2 cap2 wr, len + 1 ≤ cap2 → (cap2 : Int) ≤ 9223372036854775807 → IsFl wr a2 (len + 1) (more xs len) → Calls Try.prog 11 #[.slice a2 (len + 1) cap2] wr fun e w' => e = .returned (.float .f64 s) ∧ Hid (Below wr.heap.size wr w')))
    (C2 : Hid (∀ a2 cap2 wr, len + 1 ≤ cap2 → (cap2 : Int) ≤ 9223372036854775807 → IsFl wr a2 (len + 1) (more xs len) → Calls Try.prog 15 #[.slice a2 (len + 1) cap2] wr fun e w' => e = .returned (.float .f64 c) ∧ Hid (Below wr.heap.size wr w'))) :
    Calls Try.prog 7 #[.slice a0 len cap, .float .f64 x] w fun e w' => e = .returned (.bool true) ∧ Hid (Below w.heap.size w w') := by
  have S := hid same5_self
  have ONE1 : ∀ k, k < 1 → (0 : Nat) < 18446744073709551616 ∧ #[Value.float .f64 0][k]? = some (.float .f64 0) := by
    intro k hk; obtain rfl : k = 0 := by omega
    exact ⟨by decide, rfl⟩
  have hc := fun (ty : TypeId) (w : World) => run_nan_sub (P := Try.prog) w ty x x hi
  have hnf : ∀ w, feq (nanOf w x x) 0 = false := fun w => feq_nan _ _ (.inl (isN_nanOf _ _ _))
  go_enter Try.func7, Try.ntmps7
  go_wp2_with fail
  refine (lives_any _).mono ?_
  rintro e w0 ⟨rfl, b0⟩
  go_wp2_with (first
    | (at_builtin; refine wpList_app rfl (.tmp 13) (.tmp 14) rfl w _ [] rfl (own_nil _ _) b0.out a0 len cap xs rfl HF.out.2.2 HF.out.2.1 (HF.out.1.below b0.out) (by simp; omega) ?_; intro v1 w1 o1 b1; have O1 := hid o1; have B1 := hid b1; clear o1 b1)
    | (at_builtin; refine wpList_app rfl (.tmp 16) (.tmp 17) rfl w v1 _ rfl (O1.out.alloc _) (B1.out.alloc B1.out.size _) (some ⟨w1.heap.size, 0, none⟩) 1 1 (fun _ => 0) rfl (fun h => by cases h) (Nat.le_refl _) (fl_new w1 _ _ _ 1 ONE1) (by simp; omega) ?_; intro v2 w2 o2 b2; obtain ⟨a2, cap2, rfl, m1, m2, m3⟩ := more_own o2 (fun j hj => (HF.out.1 j hj).1); have M := hid (⟨m1, m2, m3⟩ : _ ∧ _ ∧ _); have B2 := hid b2; clear o2 b2 m1 m2 m3 O1 B1))
  go_wp2_with fail
  refine (L1.out _ B2.out).mono ?_
  rintro e w3 ⟨rfl, c3⟩
  have B3 : Hid (Below w.heap.size w w3) := bthen B2.out c3.out
  have F3 := hid (M.out.2.2.below c3.out)
  clear c3 B2
  go_wp2_with fail
  refine (L2.out a2 cap2 _ M.out.1 M.out.2.1 F3.out).mono ?_
  rintro e w4 ⟨rfl, c4⟩
  have B4 : Hid (Below w.heap.size w w4) := bthen B3.out c4.out
  have F4 := hid (F3.out.below c4.out)
  clear c4 B3
  go_wp2_with fail
  refine (S.out _ _).mono ?_
  rintro e w' ⟨rfl, rfl⟩
  go_wp2_with fail
  refine (C1.out _ B4.out).mono ?_
  rintro e w5 ⟨rfl, c5⟩
  have B5 : Hid (Below w.heap.size w w5) := bthen B4.out c5.out
  have F5 := hid (F4.out.below c5.out)
  clear c5 B4
  go_wp2_with fail
  refine (C2.out a2 cap2 _ M.out.1 M.out.2.1 F5.out).mono ?_
  rintro e w6 ⟨rfl, c6⟩
  have B6 : Hid (Below w.heap.size w w6) := bthen B5.out c6.out
  have F6 := hid (F5.out.below c6.out)
  clear c6 B5
  go_wp2_with fail
  refine (S.out _ _).mono ?_
  rintro e w' ⟨rfl, rfl⟩
  go_wp2
  go_ret
  exact ⟨rfl, below_drewN B6.out 1⟩
set_option maxHeartbeats 4000000 in
set_option maxRecDepth 100000 in
theorem no_FalseFalsef (a0 : Option Addr) (len cap x y s c t1 t2 t3 : Nat) (xs : Nat → Nat) (w : World) (hlen : (len : Int) ≤ 1048576) (HF : Hid (IsFl w a0 len xs ∧ len ≤ cap ∧ (a0 = none → cap = 0))) (fx : feq x x = true) (hs0 : Ieee.double.sub x x = some 0) (HN : Op.negFloat .f64 x = y) (g1 : feq t1 0 = true) (g2 : feq t2 x = true) (g3 : feq t3 x = true)
    (gs : feq s 0 = false) (gc : feq c 0 = false)
    (L1 : Hid (∀ wr, Below w.heap.size w wr → Calls Try.prog 11 #[.slice a0 len cap] wr fun e w' => e = .returned (.float .f64 s) ∧ Hid (Below wr.heap.size wr w')))
    (C1 : Hid (∀ wr, Below w.heap.size w wr → Calls Try.prog 15 #[.slice a0 len cap] wr fun e w' => e = .returned (.float .f64 c) ∧ Hid (Below wr.heap.size wr w')))
    (L2 : Hid (∀ a2 cap2 wr, len + 1 ≤ cap2 → (cap2 : Int) ≤ 9223372036854775807 → IsFl wr a2 (len + 1) (more xs len) → Calls Try.prog 11 #[.slice a2 (len + 1) cap2] wr fun e w' => e = .returned (.float .f64 s) ∧ Hid (Below wr.heap.size wr w')))
    (C2 : Hid (∀ a2 cap2 wr, len + 1 ≤ cap2 → (cap2 : Int) ≤ 9223372036854775807 → IsFl wr a2 (len + 1) (more xs len) → Calls Try.prog 15 #[.slice a2 (len + 1) cap2] wr fun e w' => e = .returned (.float .f64 c) ∧ Hid (Below wr.heap.size wr w'))) (T1 : Hid (∀ w, Calls Try.prog 17 #[.float .f64 x, .float .f64 0, .float .f64 y] w fun e w' => e = .returned (.float .f64 t1) ∧ Hid (Below w.heap.size w w')))
    (T2 : Hid (∀ w, Calls Try.prog 17 #[.float .f64 x, .float .f64 0, .float .f64 0] w fun e w' => e = .returned (.float .f64 t2) ∧ Hid (Below w.heap.size w w')))
    (T3 : Hid (∀ w, Calls Try.prog 15 #[.slice (some ⟨w.heap.size, 0, none⟩) 1 1] (w.alloc (.cells #[.float .f64 x] 25)) fun e w' => e = .returned (.float .f64 t3) ∧ Hid (Below w.heap.size w w'))) :
    Calls Try.prog 7 #[.slice a0 len cap, .float .f64 x] w fun e w' => e = .returned (.bool true) ∧ Hid (Below w.heap.size w w') := by
  have S := hid same5_self
  have ONE1 : ∀ k, k < 1 → (0 : Nat) < 18446744073709551616 ∧ #[Value.float .f64 0][k]? = some (.float .f64 0) := by
    intro k hk; obtain rfl : k = 0 := by omega
    exact ⟨by decide, rfl⟩
  have hc := fun (ty : TypeId) (w : World) => run_float_arith (P := Try.prog) w .sub ty .f64 x x 0 hs0
  have h00 : feq 0 0 = true := by decide
  clear hs0
  go_enter Try.func7, Try.ntmps7
  go_wp2_with fail
  refine (lives_any _).mono ?_
  rintro e w0 ⟨rfl, b0⟩
  go_wp2_with (first
    | (at_builtin; refine wpList_app rfl (.tmp 13) (.tmp 14) rfl w _ [] rfl (own_nil _ _) b0.out a0 len cap xs rfl HF.out.2.2 HF.out.2.1 (HF.out.1.below b0.out) (by simp; omega) ?_; intro v1 w1 o1 b1; have O1 := hid o1; have B1 := hid b1; clear o1 b1)
    | (at_builtin; refine wpList_app rfl (.tmp 16) (.tmp 17) rfl w v1 _ rfl (O1.out.alloc _) (B1.out.alloc B1.out.size _) (some ⟨w1.heap.size, 0, none⟩) 1 1 (fun _ => 0) rfl (fun h => by cases h) (Nat.le_refl _) (fl_new w1 _ _ _ 1 ONE1) (by simp; omega) ?_; intro v2 w2 o2 b2; obtain ⟨a2, cap2, rfl, m1, m2, m3⟩ := more_own o2 (fun j hj => (HF.out.1 j hj).1); have M := hid (⟨m1, m2, m3⟩ : _ ∧ _ ∧ _); have B2 := hid b2; clear o2 b2 m1 m2 m3 O1 B1))
  go_wp2_with fail
  refine (L1.out _ B2.out).mono ?_
  rintro e w3 ⟨rfl, c3⟩
  have B3 : Hid (Below w.heap.size w w3) := bthen B2.out c3.out
  have F3 := hid (M.out.2.2.below c3.out)
  clear c3 B2
  go_wp2_with fail
  refine (L2.out a2 cap2 _ M.out.1 M.out.2.1 F3.out).mono ?_
  rintro e w4 ⟨rfl, c4⟩
  have B4 : Hid (Below w.heap.size w w4) := bthen B3.out c4.out
  have F4 := hid (F3.out.below c4.out)
  clear c4 B3
  go_wp2_with fail
  refine (S.out _ _).mono ?_
  rintro e w' ⟨rfl, rfl⟩
  go_wp2_with fail
  refine (C1.out _ B4.out).mono ?_
  rintro e w5 ⟨rfl, c5⟩
  have B5 : Hid (Below w.heap.size w w5) := bthen B4.out c5.out
  have F5 := hid (F4.out.below c5.out)
  clear c5 B4
  go_wp2_with fail
  refine (C2.out a2 cap2 _ M.out.1 M.out.2.1 F5.out).mono ?_
  rintro e w6 ⟨rfl, c6⟩
  have B6 : Hid (Below w.heap.size w w6) := bthen B5.out c6.out
  have F6 := hid (F5.out.below c6.out)
  clear c6 B5
  go_wp2_with fail
  refine (S.out _ _).mono ?_
  rintro e w' ⟨rfl, rfl⟩
  go_wp2_with fail
  refine (T1.out _).mono ?_
  rintro e w7 ⟨rfl, c7⟩
  have B7 : Hid (Below w.heap.size w w7) := bthen B6.out c7.out
  go_wp2_with fail
  refine (T2.out _).mono ?_
  rintro e w8 ⟨rfl, c8⟩
  have B8 : Hid (Below w.heap.size w w8) := bthen B7.out c8.out
  go_wp2_with fail
  refine (T3.out _).mono ?_
  rintro e w9 ⟨rfl, c9⟩
  have B9 : Hid (Below w.heap.size w w9) := bthen B8.out c9.out
  go_wp2
  go_ret
  exact ⟨rfl,  B9⟩
set_option maxHeartbeats 4000000 in
set_option maxRecDepth 100000 in
theorem no_FalseTruen (a0 : Option Addr) (len cap x s c : Nat) (xs : Nat → Nat) (w : World) (hlen : (len : Int) ≤ 1048576) (HF : Hid (IsFl w a0 len xs ∧ len ≤ cap ∧ (a0 = none → cap = 0))) (fx : feq x x = false)
    (gs : feq s 0 = false) (gc : feq c 0 = true)
    (L1 : Hid (∀ wr, Below w.heap.size w wr → Calls Try.prog 11 #[.slice a0 len cap] wr fun e w' => e = .returned (.float .f64 s) ∧ Hid (Below wr.heap.size wr w')))
    (C1 : Hid (∀ wr, Below w.heap.size w wr → Calls Try.prog 15 #[.slice a0 len cap] wr fun e w' => e = .returned (.float .f64 c) ∧ Hid (Below wr.heap.size wr w')))
    (L2 : Hid (∀ a2 cap2 wr, len + 1 ≤ cap2 → (cap2 : Int) ≤ 9223372036854775807 → IsFl wr a2 (len + 1) (more xs len) → Calls Try.prog 11 #[.slice a2 (len + 1) cap2] wr fun e w' => e = .returned (.float .f64 s) ∧ Hid (Below wr.heap.size wr w'))) :
    Calls Try.prog 7 #[.slice a0 len cap, .float .f64 x] w fun e w' => e = .returned (.bool true) ∧ Hid (Below w.heap.size w w') := by
  have S := hid same5_self
  have ONE1 : ∀ k, k < 1 → (0 : Nat) < 18446744073709551616 ∧ #[Value.float .f64 0][k]? = some (.float .f64 0) := by
    intro k hk; obtain rfl : k = 0 := by omega
    exact ⟨by decide, rfl⟩
  go_enter Try.func7, Try.ntmps7
  go_wp2_with fail
  refine (lives_any _).mono ?_
  rintro e w0 ⟨rfl, b0⟩
  go_wp2_with (first
    | (at_builtin; refine wpList_app rfl (.tmp 13) (.tmp 14) rfl w _ [] rfl (own_nil _ _) b0.out a0 len cap xs rfl HF.out.2.2 HF.out.2.1 (HF.out.1.below b0.out) (by simp; omega) ?_; intro v1 w1 o1 b1; have O1 := hid o1; have B1 := hid b1; clear o1 b1)
    | (at_builtin; refine wpList_app rfl (.tmp 16) (.tmp 17) rfl w v1 _ rfl (O1.out.alloc _) (B1.out.alloc B1.out.size _) (some ⟨w1.heap.size, 0, none⟩) 1 1 (fun _ => 0) rfl (fun h => by cases h) (Nat.le_refl _) (fl_new w1 _ _ _ 1 ONE1) (by simp; omega) ?_; intro v2 w2 o2 b2; obtain ⟨a2, cap2, rfl, m1, m2, m3⟩ := more_own o2 (fun j hj => (HF.out.1 j hj).1); have M := hid (⟨m1, m2, m3⟩ : _ ∧ _ ∧ _); have B2 := hid b2; clear o2 b2 m1 m2 m3 O1 B1))
  go_wp2_with fail
  refine (L1.out _ B2.out).mono ?_
  rintro e w3 ⟨rfl, c3⟩
  have B3 : Hid (Below w.heap.size w w3) := bthen B2.out c3.out
  have F3 := hid (M.out.2.2.below c3.out)
  clear c3 B2
  go_wp2_with fail
  refine (L2.out a2 cap2 _ M.out.1 M.out.2.1 F3.out).mono ?_
  rintro e w4 ⟨rfl, c4⟩
  have B4 : Hid (Below w.heap.size w w4) := bthen B3.out c4.out
  have F4 := hid (F3.out.below c4.out)
  clear c4 B3
  go_wp2_with fail
  refine (S.out _ _).mono ?_
  rintro e w' ⟨rfl, rfl⟩
  go_wp2_with fail
  refine (C1.out _ B4.out).mono ?_
  rintro e w5 ⟨rfl, c5⟩
  have B5 : Hid (Below w.heap.size w w5) := bthen B4.out c5.out
  have F5 := hid (F4.out.below c5.out)
  clear c5 B4
  go_wp2
  go_ret
  exact ⟨rfl,  B5⟩
set_option maxHeartbeats 4000000 in
set_option maxRecDepth 100000 in
theorem no_FalseTruei (a0 : Option Addr) (len cap x s c : Nat) (xs : Nat → Nat) (w : World) (hlen : (len : Int) ≤ 1048576) (HF : Hid (IsFl w a0 len xs ∧ len ≤ cap ∧ (a0 = none → cap = 0))) (fx : feq x x = true) (hi : Ieee.double.sub x x = none)
    (gs : feq s 0 = false) (gc : feq c 0 = true)
    (L1 : Hid (∀ wr, Below w.heap.size w wr → Calls Try.prog 11 #[.slice a0 len cap] wr fun e w' => e = .returned (.float .f64 s) ∧ Hid (Below wr.heap.size wr w')))
    (C1 : Hid (∀ wr, Below w.heap.size w wr → Calls Try.prog 15 #[.slice a0 len cap] wr fun e w' => e = .returned (.float .f64 c) ∧ Hid (Below wr.heap.size wr w')))
    (L2 : Hid (∀ a2 cap2 wr, len + 1 ≤ cap2 → (cap2 : Int) ≤ 9223372036854775807 → IsFl wr a2 (len + 1) (more xs len) → Calls Try.prog 11 #[.slice a2 (len + 1) cap2] wr fun e w' => e = .returned (.float .f64 s) ∧ Hid (Below wr.heap.size wr w'))) :
    Calls Try.prog 7 #[.slice a0 len cap, .float .f64 x] w fun e w' => e = .returned (.bool true) ∧ Hid (Below w.heap.size w w') := by
  have S := hid same5_self
  have ONE1 : ∀ k, k < 1 → (0 : Nat) < 18446744073709551616 ∧ #[Value.float .f64 0][k]? = some (.float .f64 0) := by
    intro k hk; obtain rfl : k = 0 := by omega
    exact ⟨by decide, rfl⟩
  have hc := fun (ty : TypeId) (w : World) => run_nan_sub (P := Try.prog) w ty x x hi
  have hnf : ∀ w, feq (nanOf w x x) 0 = false := fun w => feq_nan _ _ (.inl (isN_nanOf _ _ _))
  go_enter Try.func7, Try.ntmps7
  go_wp2_with fail
  refine (lives_any _).mono ?_
  rintro e w0 ⟨rfl, b0⟩
  go_wp2_with (first
    | (at_builtin; refine wpList_app rfl (.tmp 13) (.tmp 14) rfl w _ [] rfl (own_nil _ _) b0.out a0 len cap xs rfl HF.out.2.2 HF.out.2.1 (HF.out.1.below b0.out) (by simp; omega) ?_; intro v1 w1 o1 b1; have O1 := hid o1; have B1 := hid b1; clear o1 b1)
    | (at_builtin; refine wpList_app rfl (.tmp 16) (.tmp 17) rfl w v1 _ rfl (O1.out.alloc _) (B1.out.alloc B1.out.size _) (some ⟨w1.heap.size, 0, none⟩) 1 1 (fun _ => 0) rfl (fun h => by cases h) (Nat.le_refl _) (fl_new w1 _ _ _ 1 ONE1) (by simp; omega) ?_; intro v2 w2 o2 b2; obtain ⟨a2, cap2, rfl, m1, m2, m3⟩ := more_own o2 (fun j hj => (HF.out.1 j hj).1); have M := hid (⟨m1, m2, m3⟩ : _ ∧ _ ∧ _); have B2 := hid b2; clear o2 b2 m1 m2 m3 O1 B1))
  go_wp2_with fail
  refine (L1.out _ B2.out).mono ?_
  rintro e w3 ⟨rfl, c3⟩
  have B3 : Hid (Below w.heap.size w w3) := bthen B2.out c3.out
  have F3 := hid (M.out.2.2.below c3.out)
  clear c3 B2
  go_wp2_with fail
  refine (L2.out a2 cap2 _ M.out.1 M.out.2.1 F3.out).mono ?_
  rintro e w4 ⟨rfl, c4⟩
  have B4 : Hid (Below w.heap.size w w4) := bthen B3.out c4.out
  have F4 := hid (F3.out.below c4.out)
  clear c4 B3
  go_wp2_with fail
  refine (S.out _ _).mono ?_
  rintro e w' ⟨rfl, rfl⟩
  go_wp2_with fail
  refine (C1.out _ B4.out).mono ?_
  rintro e w5 ⟨rfl, c5⟩
  have B5 : Hid (Below w.heap.size w w5) := bthen B4.out c5.out
  have F5 := hid (F4.out.below c5.out)
  clear c5 B4
  go_wp2
  go_ret
  exact ⟨rfl, below_drewN B5.out 1⟩
set_option maxHeartbeats 4000000 in
set_option maxRecDepth 100000 in
theorem no_FalseTruef (a0 : Option Addr) (len cap x y s c t1 t2 t3 : Nat) (xs : Nat → Nat) (w : World) (hlen : (len : Int) ≤ 1048576) (HF : Hid (IsFl w a0 len xs ∧ len ≤ cap ∧ (a0 = none → cap = 0))) (fx : feq x x = true) (hs0 : Ieee.double.sub x x = some 0) (HN : Op.negFloat .f64 x = y) (g1 : feq t1 0 = true) (g2 : feq t2 x = true) (g3 : feq t3 x = true)
    (gs : feq s 0 = false) (gc : feq c 0 = true)
    (L1 : Hid (∀ wr, Below w.heap.size w wr → Calls Try.prog 11 #[.slice a0 len cap] wr fun e w' => e = .returned (.float .f64 s) ∧ Hid (Below wr.heap.size wr w')))
    (C1 : Hid (∀ wr, Below w.heap.size w wr → Calls Try.prog 15 #[.slice a0 len cap] wr fun e w' => e = .returned (.float .f64 c) ∧ Hid (Below wr.heap.size wr w')))
    (L2 : Hid (∀ a2 cap2 wr, len + 1 ≤ cap2 → (cap2 : Int) ≤ 9223372036854775807 → IsFl wr a2 (len + 1) (more xs len) → Calls Try.prog 11 #[.slice a2 (len + 1) cap2] wr fun e w' => e = .returned (.float .f64 s) ∧ Hid (Below wr.heap.size wr w'))) (T1 : Hid (∀ w, Calls Try.prog 17 #[.float .f64 x, .float .f64 0, .float .f64 y] w fun e w' => e = .returned (.float .f64 t1) ∧ Hid (Below w.heap.size w w')))
    (T2 : Hid (∀ w, Calls Try.prog 17 #[.float .f64 x, .float .f64 0, .float .f64 0] w fun e w' => e = .returned (.float .f64 t2) ∧ Hid (Below w.heap.size w w')))
    (T3 : Hid (∀ w, Calls Try.prog 15 #[.slice (some ⟨w.heap.size, 0, none⟩) 1 1] (w.alloc (.cells #[.float .f64 x] 25)) fun e w' => e = .returned (.float .f64 t3) ∧ Hid (Below w.heap.size w w'))) :
    Calls Try.prog 7 #[.slice a0 len cap, .float .f64 x] w fun e w' => e = .returned (.bool true) ∧ Hid (Below w.heap.size w w') := by
  have S := hid same5_self
  have ONE1 : ∀ k, k < 1 → (0 : Nat) < 18446744073709551616 ∧ #[Value.float .f64 0][k]? = some (.float .f64 0) := by
    intro k hk; obtain rfl : k = 0 := by omega
    exact ⟨by decide, rfl⟩
  have hc := fun (ty : TypeId) (w : World) => run_float_arith (P := Try.prog) w .sub ty .f64 x x 0 hs0
  have h00 : feq 0 0 = true := by decide
  clear hs0
  go_enter Try.func7, Try.ntmps7
  go_wp2_with fail
  refine (lives_any _).mono ?_
  rintro e w0 ⟨rfl, b0⟩
  go_wp2_with (first
    | (at_builtin; refine wpList_app rfl (.tmp 13) (.tmp 14) rfl w _ [] rfl (own_nil _ _) b0.out a0 len cap xs rfl HF.out.2.2 HF.out.2.1 (HF.out.1.below b0.out) (by simp; omega) ?_; intro v1 w1 o1 b1; have O1 := hid o1; have B1 := hid b1; clear o1 b1)
    | (at_builtin; refine wpList_app rfl (.tmp 16) (.tmp 17) rfl w v1 _ rfl (O1.out.alloc _) (B1.out.alloc B1.out.size _) (some ⟨w1.heap.size, 0, none⟩) 1 1 (fun _ => 0) rfl (fun h => by cases h) (Nat.le_refl _) (fl_new w1 _ _ _ 1 ONE1) (by simp; omega) ?_; intro v2 w2 o2 b2; obtain ⟨a2, cap2, rfl, m1, m2, m3⟩ := more_own o2 (fun j hj => (HF.out.1 j hj).1); have M := hid (⟨m1, m2, m3⟩ : _ ∧ _ ∧ _); have B2 := hid b2; clear o2 b2 m1 m2 m3 O1 B1))
  go_wp2_with fail
  refine (L1.out _ B2.out).mono ?_
  rintro e w3 ⟨rfl, c3⟩
  have B3 : Hid (Below w.heap.size w w3) := bthen B2.out c3.out
  have F3 := hid (M.out.2.2.below c3.out)
  clear c3 B2
  go_wp2_with fail
  refine (L2.out a2 cap2 _ M.out.1 M.out.2.1 F3.out).mono ?_
  rintro e w4 ⟨rfl, c4⟩
  have B4 : Hid (Below w.heap.size w w4) := bthen B3.out c4.out
  have F4 := hid (F3.out.below c4.out)
  clear c4 B3
  go_wp2_with fail
  refine (S.out _ _).mono ?_
  rintro e w' ⟨rfl, rfl⟩
  go_wp2_with fail
  refine (C1.out _ B4.out).mono ?_
  rintro e w5 ⟨rfl, c5⟩
  have B5 : Hid (Below w.heap.size w w5) := bthen B4.out c5.out
  have F5 := hid (F4.out.below c5.out)
  clear c5 B4
  go_wp2_with fail
  refine (T1.out _).mono ?_
  rintro e w6 ⟨rfl, c6⟩
  have B6 : Hid (Below w.heap.size w w6) := bthen B5.out c6.out
  go_wp2_with fail
  refine (T2.out _).mono ?_
  rintro e w7 ⟨rfl, c7⟩
  have B7 : Hid (Below w.heap.size w w7) := bthen B6.out c7.out
  go_wp2_with fail
  refine (T3.out _).mono ?_
  rintro e w8 ⟨rfl, c8⟩
  have B8 : Hid (Below w.heap.size w w8) := bthen B7.out c8.out
  go_wp2
  go_ret
  exact ⟨rfl,  B8⟩
set_option maxHeartbeats 4000000 in
set_option maxRecDepth 100000 in
theorem no_TrueFalsen (a0 : Option Addr) (len cap x s c : Nat) (xs : Nat → Nat) (w : World) (hlen : (len : Int) ≤ 1048576) (HF : Hid (IsFl w a0 len xs ∧ len ≤ cap ∧ (a0 = none → cap = 0))) (fx : feq x x = false)
    (gs : feq s 0 = true) (gc : feq c 0 = false)
    (L1 : Hid (∀ wr, Below w.heap.size w wr → Calls Try.prog 11 #[.slice a0 len cap] wr fun e w' => e = .returned (.float .f64 s) ∧ Hid (Below wr.heap.size wr w')))
    (C1 : Hid (∀ wr, Below w.heap.size w wr → Calls Try.prog 15 #[.slice a0 len cap] wr fun e w' => e = .returned (.float .f64 c) ∧ Hid (Below wr.heap.size wr w')))
    (C2 : Hid (∀ a2 cap2 wr, len + 1 ≤ cap2 → (cap2 : Int) ≤ 9223372036854775807 → IsFl wr a2 (len + 1) (more xs len) → Calls Try.prog 15 #[.slice a2 (len + 1) cap2] wr fun e w' => e = .returned (.float .f64 c) ∧ Hid (Below wr.heap.size wr w'))) :
    Calls Try.prog 7 #[.slice a0 len cap, .float .f64 x] w fun e w' => e = .returned (.bool true) ∧ Hid (Below w.heap.size w w') := by
  have S := hid same5_self
  have ONE1 : ∀ k, k < 1 → (0 : Nat) < 18446744073709551616 ∧ #[Value.float .f64 0][k]? = some (.float .f64 0) := by
    intro k hk; obtain rfl : k = 0 := by omega
    exact ⟨by decide, rfl⟩
  go_enter Try.func7, Try.ntmps7
  go_wp2_with fail
  refine (lives_any _).mono ?_
  rintro e w0 ⟨rfl, b0⟩
  go_wp2_with (first
    | (at_builtin; refine wpList_app rfl (.tmp 13) (.tmp 14) rfl w _ [] rfl (own_nil _ _) b0.out a0 len cap xs rfl HF.out.2.2 HF.out.2.1 (HF.out.1.below b0.out) (by simp; omega) ?_; intro v1 w1 o1 b1; have O1 := hid o1; have B1 := hid b1; clear o1 b1)
    | (at_builtin; refine wpList_app rfl (.tmp 16) (.tmp 17) rfl w v1 _ rfl (O1.out.alloc _) (B1.out.alloc B1.out.size _) (some ⟨w1.heap.size, 0, none⟩) 1 1 (fun _ => 0) rfl (fun h => by cases h) (Nat.le_refl _) (fl_new w1 _ _ _ 1 ONE1) (by simp; omega) ?_; intro v2 w2 o2 b2; obtain ⟨a2, cap2, rfl, m1, m2, m3⟩ := more_own o2 (fun j hj => (HF.out.1 j hj).1); have M := hid (⟨m1, m2, m3⟩ : _ ∧ _ ∧ _); have B2 := hid b2; clear o2 b2 m1 m2 m3 O1 B1))
  go_wp2_with fail
  refine (L1.out _ B2.out).mono ?_
  rintro e w3 ⟨rfl, c3⟩
  have B3 : Hid (Below w.heap.size w w3) := bthen B2.out c3.out
  have F3 := hid (M.out.2.2.below c3.out)
  clear c3 B2
  go_wp2_with fail
  refine (C1.out _ B3.out).mono ?_
  rintro e w4 ⟨rfl, c4⟩
  have B4 : Hid (Below w.heap.size w w4) := bthen B3.out c4.out
  have F4 := hid (F3.out.below c4.out)
  clear c4 B3
  go_wp2_with fail
  refine (C2.out a2 cap2 _ M.out.1 M.out.2.1 F4.out).mono ?_
  rintro e w5 ⟨rfl, c5⟩
  have B5 : Hid (Below w.heap.size w w5) := bthen B4.out c5.out
  have F5 := hid (F4.out.below c5.out)
  clear c5 B4
  go_wp2_with fail
  refine (S.out _ _).mono ?_
  rintro e w' ⟨rfl, rfl⟩
  go_wp2
  go_ret
  exact ⟨rfl,  B5⟩
set_option maxHeartbeats 4000000 in
set_option maxRecDepth 100000 in
theorem no_TrueFalsei (a0 : Option Addr) (len cap x s c : Nat) (xs : Nat → Nat) (w : World) (hlen : (len : Int) ≤ 1048576) (HF : Hid (IsFl w a0 len xs ∧ len ≤ cap ∧ (a0 = none → cap = 0))) (fx : feq x x = true) (hi : Ieee.double.sub x x = none)
    (gs : feq s 0 = true) (gc : feq c 0 = false)
    (L1 : Hid (∀ wr, Below w.heap.size w wr → Calls Try.prog 11 #[.slice a0 len cap] wr fun e w' => e = .returned (.float .f64 s) ∧ Hid (Below wr.heap.size wr w')))
    (C1 : Hid (∀ wr, Below w.heap.size w wr → Calls Try.prog 15 #[.slice a0 len cap] wr fun e w' => e = .returned (.float .f64 c) ∧ Hid (Below wr.heap.size wr w')))
    (C2 : Hid (∀ a2 cap2 wr, len + 1 ≤ cap2 → (cap2 : Int) ≤ 9223372036854775807 → IsFl wr a2 (len + 1) (more xs len) → Calls Try.prog 15 #[.slice a2 (len + 1) cap2] wr fun e w' => e = .returned (.float .f64 c) ∧ Hid (Below wr.heap.size wr w'))) :
    Calls Try.prog 7 #[.slice a0 len cap, .float .f64 x] w fun e w' => e = .returned (.bool true) ∧ Hid (Below w.heap.size w w') := by
  have S := hid same5_self
  have ONE1 : ∀ k, k < 1 → (0 : Nat) < 18446744073709551616 ∧ #[Value.float .f64 0][k]? = some (.float .f64 0) := by
    intro k hk; obtain rfl : k = 0 := by omega
    exact ⟨by decide, rfl⟩
  have hc := fun (ty : TypeId) (w : World) => run_nan_sub (P := Try.prog) w ty x x hi
  have hnf : ∀ w, feq (nanOf w x x) 0 = false := fun w => feq_nan _ _ (.inl (isN_nanOf _ _ _))
  go_enter Try.func7, Try.ntmps7
  go_wp2_with fail
  refine (lives_any _).mono ?_
  rintro e w0 ⟨rfl, b0⟩
  go_wp2_with (first
    | (at_builtin; refine wpList_app rfl (.tmp 13) (.tmp 14) rfl w _ [] rfl (own_nil _ _) b0.out a0 len cap xs rfl HF.out.2.2 HF.out.2.1 (HF.out.1.below b0.out) (by simp; omega) ?_; intro v1 w1 o1 b1; have O1 := hid o1; have B1 := hid b1; clear o1 b1)
    | (at_builtin; refine wpList_app rfl (.tmp 16) (.tmp 17) rfl w v1 _ rfl (O1.out.alloc _) (B1.out.alloc B1.out.size _) (some ⟨w1.heap.size, 0, none⟩) 1 1 (fun _ => 0) rfl (fun h => by cases h) (Nat.le_refl _) (fl_new w1 _ _ _ 1 ONE1) (by simp; omega) ?_; intro v2 w2 o2 b2; obtain ⟨a2, cap2, rfl, m1, m2, m3⟩ := more_own o2 (fun j hj => (HF.out.1 j hj).1); have M := hid (⟨m1, m2, m3⟩ : _ ∧ _ ∧ _); have B2 := hid b2; clear o2 b2 m1 m2 m3 O1 B1))
  go_wp2_with fail
  refine (L1.out _ B2.out).mono ?_
  rintro e w3 ⟨rfl, c3⟩
  have B3 : Hid (Below w.heap.size w w3) := bthen B2.out c3.out
  have F3 := hid (M.out.2.2.below c3.out)
  clear c3 B2
  go_wp2_with fail
  refine (C1.out _ B3.out).mono ?_
  rintro e w4 ⟨rfl, c4⟩
  have B4 : Hid (Below w.heap.size w w4) := bthen B3.out c4.out
  have F4 := hid (F3.out.below c4.out)
  clear c4 B3
  go_wp2_with fail
  refine (C2.out a2 cap2 _ M.out.1 M.out.2.1 F4.out).mono ?_
  rintro e w5 ⟨rfl, c5⟩
  have B5 : Hid (Below w.heap.size w w5) := bthen B4.out c5.out
  have F5 := hid (F4.out.below c5.out)
  clear c5 B4
  go_wp2_with fail
  refine (S.out _ _).mono ?_
  rintro e w' ⟨rfl, rfl⟩
  go_wp2
  go_ret
  exact ⟨rfl, below_drewN B5.out 1⟩
set_option maxHeartbeats 4000000 in
set_option maxRecDepth 100000 in
theorem no_TrueFalsef (a0 : Option Addr) (len cap x y s c t1 t2 t3 : Nat) (xs : Nat → Nat) (w : World) (hlen : (len : Int) ≤ 1048576) (HF : Hid (IsFl w a0 len xs ∧ len ≤ cap ∧ (a0 = none → cap = 0))) (fx : feq x x = true) (hs0 : Ieee.double.sub x x = some 0) (HN : Op.negFloat .f64 x = y) (g1 : feq t1 0 = true) (g2 : feq t2 x = true) (g3 : feq t3 x = true)
    (gs : feq s 0 = true) (gc : feq c 0 = false)
    (L1 : Hid (∀ wr, Below w.heap.size w wr → Calls Try.prog 11 #[.slice a0 len cap] wr fun e w' => e = .returned (.float .f64 s) ∧ Hid (Below wr.heap.size wr w')))
    (C1 : Hid (∀ wr, Below w.heap.size w wr → Calls Try.prog 15 #[.slice a0 len cap] wr fun e w' => e = .returned (.float .f64 c) ∧ Hid (Below wr.heap.size wr w')))
    (C2 : Hid (∀ a2 cap2 wr, len + 1 ≤ cap2 → (cap2 : Int) ≤ 9223372036854775807 → IsFl wr a2 (len + 1) (more xs len) → Calls Try.prog 15 #[.slice a2 (len + 1) cap2] wr fun e w' => e = .returned (.float .f64 c) ∧ Hid (Below wr.heap.size wr w'))) (T1 : Hid (∀ w, Calls Try.prog 17 #[.float .f64 x, .float .f64 0, .float .f64 y] w fun e w' => e = .returned (.float .f64 t1) ∧ Hid (Below w.heap.size w w')))
    (T2 : Hid (∀ w, Calls Try.prog 17 #[.float .f64 x, .float .f64 0, .float .f64 0] w fun e w' => e = .returned (.float .f64 t2) ∧ Hid (Below w.heap.size w w')))
    (T3 : Hid (∀ w, Calls Try.prog 15 #[.slice (some ⟨w.heap.size, 0, none⟩) 1 1] (w.alloc (.cells #[.float .f64 x] 25)) fun e w' => e = .returned (.float .f64 t3) ∧ Hid (Below w.heap.size w w'))) :
    Calls Try.prog 7 #[.slice a0 len cap, .float .f64 x] w fun e w' => e = .returned (.bool true) ∧ Hid (Below w.heap.size w w') := by
  have S := hid same5_self
  have ONE1 : ∀ k, k < 1 → (0 : Nat) < 18446744073709551616 ∧ #[Value.float .f64 0][k]? = some (.float .f64 0) := by
    intro k hk; obtain rfl : k = 0 := by omega
    exact ⟨by decide, rfl⟩
  have hc := fun (ty : TypeId) (w : World) => run_float_arith (P := Try.prog) w .sub ty .f64 x x 0 hs0
  have h00 : feq 0 0 = true := by decide
  clear hs0
  go_enter Try.func7, Try.ntmps7
  go_wp2_with fail
  refine (lives_any _).mono ?_
  rintro e w0 ⟨rfl, b0⟩
  go_wp2_with (first
    | (at_builtin; refine wpList_app rfl (.tmp 13) (.tmp 14) rfl w _ [] rfl (own_nil _ _) b0.out a0 len cap xs rfl HF.out.2.2 HF.out.2.1 (HF.out.1.below b0.out) (by simp; omega) ?_; intro v1 w1 o1 b1; have O1 := hid o1; have B1 := hid b1; clear o1 b1)
    | (at_builtin; refine wpList_app rfl (.tmp 16) (.tmp 17) rfl w v1 _ rfl (O1.out.alloc _) (B1.out.alloc B1.out.size _) (some ⟨w1.heap.size, 0, none⟩) 1 1 (fun _ => 0) rfl (fun h => by cases h) (Nat.le_refl _) (fl_new w1 _ _ _ 1 ONE1) (by simp; omega) ?_; intro v2 w2 o2 b2; obtain ⟨a2, cap2, rfl, m1, m2, m3⟩ := more_own o2 (fun j hj => (HF.out.1 j hj).1); have M := hid (⟨m1, m2, m3⟩ : _ ∧ _ ∧ _); have B2 := hid b2; clear o2 b2 m1 m2 m3 O1 B1))
  go_wp2_with fail
  refine (L1.out _ B2.out).mono ?_
  rintro e w3 ⟨rfl, c3⟩
  have B3 : Hid (Below w.heap.size w w3) := bthen B2.out c3.out
  have F3 := hid (M.out.2.2.below c3.out)
  clear c3 B2
  go_wp2_with fail
  refine (C1.out _ B3.out).mono ?_
  rintro e w4 ⟨rfl, c4⟩
  have B4 : Hid (Below w.heap.size w w4) := bthen B3.out c4.out
  have F4 := hid (F3.out.below c4.out)
  clear c4 B3
  go_wp2_with fail
  refine (C2.out a2 cap2 _ M.out.1 M.out.2.1 F4.out).mono ?_
  rintro e w5 ⟨rfl, c5⟩
  have B5 : Hid (Below w.heap.size w w5) := bthen B4.out c5.out
  have F5 := hid (F4.out.below c5.out)
  clear c5 B4
  go_wp2_with fail
  refine (S.out _ _).mono ?_
  rintro e w' ⟨rfl, rfl⟩
  go_wp2_with fail
  refine (T1.out _).mono ?_
  rintro e w6 ⟨rfl, c6⟩
  have B6 : Hid (Below w.heap.size w w6) := bthen B5.out c6.out
  go_wp2_with fail
  refine (T2.out _).mono ?_
  rintro e w7 ⟨rfl, c7⟩
  have B7 : Hid (Below w.heap.size w w7) := bthen B6.out c7.out
  go_wp2_with fail
  refine (T3.out _).mono ?_
  rintro e w8 ⟨rfl, c8⟩
  have B8 : Hid (Below w.heap.size w w8) := bthen B7.out c8.out
  go_wp2
  go_ret
  exact ⟨rfl,  B8⟩
set_option maxHeartbeats 4000000 in
set_option maxRecDepth 100000 in
theorem no_TrueTruen (a0 : Option Addr) (len cap x s c : Nat) (xs : Nat → Nat) (w : World) (hlen : (len : Int) ≤ 1048576) (HF : Hid (IsFl w a0 len xs ∧ len ≤ cap ∧ (a0 = none → cap = 0))) (fx : feq x x = false)
    (gs : feq s 0 = true) (gc : feq c 0 = true)
    (L1 : Hid (∀ wr, Below w.heap.size w wr → Calls Try.prog 11 #[.slice a0 len cap] wr fun e w' => e = .returned (.float .f64 s) ∧ Hid (Below wr.heap.size wr w')))
    (C1 : Hid (∀ wr, Below w.heap.size w wr → Calls Try.prog 15 #[.slice a0 len cap] wr fun e w' => e = .returned (.float .f64 c) ∧ Hid (Below wr.heap.size wr w'))) :
    Calls Try.prog 7 #[.slice a0 len cap, .float .f64 x] w fun e w' => e = .returned (.bool true) ∧ Hid (Below w.heap.size w w') := by
  have S := hid same5_self
  have ONE1 : ∀ k, k < 1 → (0 : Nat) < 18446744073709551616 ∧ #[Value.float .f64 0][k]? = some (.float .f64 0) := by
    intro k hk; obtain rfl : k = 0 := by omega
    exact ⟨by decide, rfl⟩
  go_enter Try.func7, Try.ntmps7
  go_wp2_with fail
  refine (lives_any _).mono ?_
  rintro e w0 ⟨rfl, b0⟩
  go_wp2_with (first
    | (at_builtin; refine wpList_app rfl (.tmp 13) (.tmp 14) rfl w _ [] rfl (own_nil _ _) b0.out a0 len cap xs rfl HF.out.2.2 HF.out.2.1 (HF.out.1.below b0.out) (by simp; omega) ?_; intro v1 w1 o1 b1; have O1 := hid o1; have B1 := hid b1; clear o1 b1)
    | (at_builtin; refine wpList_app rfl (.tmp 16) (.tmp 17) rfl w v1 _ rfl (O1.out.alloc _) (B1.out.alloc B1.out.size _) (some ⟨w1.heap.size, 0, none⟩) 1 1 (fun _ => 0) rfl (fun h => by cases h) (Nat.le_refl _) (fl_new w1 _ _ _ 1 ONE1) (by simp; omega) ?_; intro v2 w2 o2 b2; obtain ⟨a2, cap2, rfl, m1, m2, m3⟩ := more_own o2 (fun j hj => (HF.out.1 j hj).1); have M := hid (⟨m1, m2, m3⟩ : _ ∧ _ ∧ _); have B2 := hid b2; clear o2 b2 m1 m2 m3 O1 B1))
  go_wp2_with fail
  refine (L1.out _ B2.out).mono ?_
  rintro e w3 ⟨rfl, c3⟩
  have B3 : Hid (Below w.heap.size w w3) := bthen B2.out c3.out
  have F3 := hid (M.out.2.2.below c3.out)
  clear c3 B2
  go_wp2_with fail
  refine (C1.out _ B3.out).mono ?_
  rintro e w4 ⟨rfl, c4⟩
  have B4 : Hid (Below w.heap.size w w4) := bthen B3.out c4.out
  have F4 := hid (F3.out.below c4.out)
  clear c4 B3
  go_wp2
  go_ret
  exact ⟨rfl,  B4⟩
set_option maxHeartbeats 4000000 in
set_option maxRecDepth 100000 in
theorem no_TrueTruei (a0 : Option Addr) (len cap x s c : Nat) (xs : Nat → Nat) (w : World) (hlen : (len : Int) ≤ 1048576) (HF : Hid (IsFl w a0 len xs ∧ len ≤ cap ∧ (a0 = none → cap = 0))) (fx : feq x x = true) (hi : Ieee.double.sub x x = none)
    (gs : feq s 0 = true) (gc : feq c 0 = true)
    (L1 : Hid (∀ wr, Below w.heap.size w wr → Calls Try.prog 11 #[.slice a0 len cap] wr fun e w' => e = .returned (.float .f64 s) ∧ Hid (Below wr.heap.size wr w')))
    (C1 : Hid (∀ wr, Below w.heap.size w wr → Calls Try.prog 15 #[.slice a0 len cap] wr fun e w' => e = .returned (.float .f64 c) ∧ Hid (Below wr.heap.size wr w'))) :
    Calls Try.prog 7 #[.slice a0 len cap, .float .f64 x] w fun e w' => e = .returned (.bool true) ∧ Hid (Below w.heap.size w w') := by
  have S := hid same5_self
  have ONE1 : ∀ k, k < 1 → (0 : Nat) < 18446744073709551616 ∧ #[Value.float .f64 0][k]? = some (.float .f64 0) := by
    intro k hk; obtain rfl : k = 0 := by omega
    exact ⟨by decide, rfl⟩
  have hc := fun (ty : TypeId) (w : World) => run_nan_sub (P := Try.prog) w ty x x hi
  have hnf : ∀ w, feq (nanOf w x x) 0 = false := fun w => feq_nan _ _ (.inl (isN_nanOf _ _ _))
  go_enter Try.func7, Try.ntmps7
  go_wp2_with fail
  refine (lives_any _).mono ?_
  rintro e w0 ⟨rfl, b0⟩
  go_wp2_with (first
    | (at_builtin; refine wpList_app rfl (.tmp 13) (.tmp 14) rfl w _ [] rfl (own_nil _ _) b0.out a0 len cap xs rfl HF.out.2.2 HF.out.2.1 (HF.out.1.below b0.out) (by simp; omega) ?_; intro v1 w1 o1 b1; have O1 := hid o1; have B1 := hid b1; clear o1 b1)
    | (at_builtin; refine wpList_app rfl (.tmp 16) (.tmp 17) rfl w v1 _ rfl (O1.out.alloc _) (B1.out.alloc B1.out.size _) (some ⟨w1.heap.size, 0, none⟩) 1 1 (fun _ => 0) rfl (fun h => by cases h) (Nat.le_refl _) (fl_new w1 _ _ _ 1 ONE1) (by simp; omega) ?_; intro v2 w2 o2 b2; obtain ⟨a2, cap2, rfl, m1, m2, m3⟩ := more_own o2 (fun j hj => (HF.out.1 j hj).1); have M := hid (⟨m1, m2, m3⟩ : _ ∧ _ ∧ _); have B2 := hid b2; clear o2 b2 m1 m2 m3 O1 B1))
  go_wp2_with fail
  refine (L1.out _ B2.out).mono ?_
  rintro e w3 ⟨rfl, c3⟩
  have B3 : Hid (Below w.heap.size w w3) := bthen B2.out c3.out
  have F3 := hid (M.out.2.2.below c3.out)
  clear c3 B2
  go_wp2_with fail
  refine (C1.out _ B3.out).mono ?_
  rintro e w4 ⟨rfl, c4⟩
  have B4 : Hid (Below w.heap.size w w4) := bthen B3.out c4.out
  have F4 := hid (F3.out.below c4.out)
  clear c4 B3
  go_wp2
  go_ret
  exact ⟨rfl, below_drewN B4.out 1⟩
set_option maxHeartbeats 4000000 in
set_option maxRecDepth 100000 in
theorem no_TrueTruef (a0 : Option Addr) (len cap x y s c t1 t2 t3 : Nat) (xs : Nat → Nat) (w : World) (hlen : (len : Int) ≤ 1048576) (HF : Hid (IsFl w a0 len xs ∧ len ≤ cap ∧ (a0 = none → cap = 0))) (fx : feq x x = true) (hs0 : Ieee.double.sub x x = some 0) (HN : Op.negFloat .f64 x = y) (g1 : feq t1 0 = true) (g2 : feq t2 x = true) (g3 : feq t3 x = true)
    (gs : feq s 0 = true) (gc : feq c 0 = true)
    (L1 : Hid (∀ wr, Below w.heap.size w wr → Calls Try.prog 11 #[.slice a0 len cap] wr fun e w' => e = .returned (.float .f64 s) ∧ Hid (Below wr.heap.size wr w')))
    (C1 : Hid (∀ wr, Below w.heap.size w wr → Calls Try.prog 15 #[.slice a0 len cap] wr fun e w' => e = .returned (.float .f64 c) ∧ Hid (Below wr.heap.size wr w'))) (T1 : Hid (∀ w, Calls Try.prog 17 #[.float .f64 x, .float .f64 0, .float .f64 y] w fun e w' => e = .returned (.float .f64 t1) ∧ Hid (Below w.heap.size w w')))
    (T2 : Hid (∀ w, Calls Try.prog 17 #[.float .f64 x, .float .f64 0, .float .f64 0] w fun e w' => e = .returned (.float .f64 t2) ∧ Hid (Below w.heap.size w w')))
    (T3 : Hid (∀ w, Calls Try.prog 15 #[.slice (some ⟨w.heap.size, 0, none⟩) 1 1] (w.alloc (.cells #[.float .f64 x] 25)) fun e w' => e = .returned (.float .f64 t3) ∧ Hid (Below w.heap.size w w'))) :
    Calls Try.prog 7 #[.slice a0 len cap, .float .f64 x] w fun e w' => e = .returned (.bool true) ∧ Hid (Below w.heap.size w w') := by
  have S := hid same5_self
  have ONE1 : ∀ k, k < 1 → (0 : Nat) < 18446744073709551616 ∧ #[Value.float .f64 0][k]? = some (.float .f64 0) := by
    intro k hk; obtain rfl : k = 0 := by omega
    exact ⟨by decide, rfl⟩
  have hc := fun (ty : TypeId) (w : World) => run_float_arith (P := Try.prog) w .sub ty .f64 x x 0 hs0
  have h00 : feq 0 0 = true := by decide
  clear hs0
  go_enter Try.func7, Try.ntmps7
  go_wp2_with fail
  refine (lives_any _).mono ?_
  rintro e w0 ⟨rfl, b0⟩
  go_wp2_with (first
    | (at_builtin; refine wpList_app rfl (.tmp 13) (.tmp 14) rfl w _ [] rfl (own_nil _ _) b0.out a0 len cap xs rfl HF.out.2.2 HF.out.2.1 (HF.out.1.below b0.out) (by simp; omega) ?_; intro v1 w1 o1 b1; have O1 := hid o1; have B1 := hid b1; clear o1 b1)
    | (at_builtin; refine wpList_app rfl (.tmp 16) (.tmp 17) rfl w v1 _ rfl (O1.out.alloc _) (B1.out.alloc B1.out.size _) (some ⟨w1.heap.size, 0, none⟩) 1 1 (fun _ => 0) rfl (fun h => by cases h) (Nat.le_refl _) (fl_new w1 _ _ _ 1 ONE1) (by simp; omega) ?_; intro v2 w2 o2 b2; obtain ⟨a2, cap2, rfl, m1, m2, m3⟩ := more_own o2 (fun j hj => (HF.out.1 j hj).1); have M := hid (⟨m1, m2, m3⟩ : _ ∧ _ ∧ _); have B2 := hid b2; clear o2 b2 m1 m2 m3 O1 B1))
  go_wp2_with fail
  refine (L1.out _ B2.out).mono ?_
  rintro e w3 ⟨rfl, c3⟩
  have B3 : Hid (Below w.heap.size w w3) := bthen B2.out c3.out
  have F3 := hid (M.out.2.2.below c3.out)
  clear c3 B2
  go_wp2_with fail
  refine (C1.out _ B3.out).mono ?_
  rintro e w4 ⟨rfl, c4⟩
  have B4 : Hid (Below w.heap.size w w4) := bthen B3.out c4.out
  have F4 := hid (F3.out.below c4.out)
  clear c4 B3
  go_wp2_with fail
  refine (T1.out _).mono ?_
  rintro e w5 ⟨rfl, c5⟩
  have B5 : Hid (Below w.heap.size w w5) := bthen B4.out c5.out
  go_wp2_with fail
  refine (T2.out _).mono ?_
  rintro e w6 ⟨rfl, c6⟩
  have B6 : Hid (Below w.heap.size w w6) := bthen B5.out c6.out
  go_wp2_with fail
  refine (T3.out _).mono ?_
  rintro e w7 ⟨rfl, c7⟩
  have B7 : Hid (Below w.heap.size w w7) := bthen B6.out c7.out
  go_wp2
  go_ret
  exact ⟨rfl,  B7⟩
set_option maxHeartbeats 1000000 in
theorem no_long (a0 : Option Addr) (len cap x : Nat) (w : World) (hl : 1048576 < (len : Int)) :
    Calls Try.prog 7 #[.slice a0 len cap, .float .f64 x] w fun e w' => e = .returned (.bool true) ∧ Hid (Below w.heap.size w w') := by
  go_enter Try.func7, Try.ntmps7
  go_wp2_with fail
  refine (lives_any _).mono ?_
  rintro e w0 ⟨rfl, b0⟩
  go_wp2
  go_ret
  exact ⟨rfl, b0⟩
theorem sub_inf (x : Nat) (hx : x < 18446744073709551616) (fx : mg x = 9218868437227405312) : Ieee.double.sub x x = none := by
  have ei := d_inf
  unfold Ieee.Format.sub
  rcases hn : ng x with _ | _
  · have e : x = infW false := by rw [infW_of x hx fx, hn]
    rw [e]; decide
  · have e : x = infW true := by rw [infW_of x hx fx, hn]
    rw [e]; decide
/-- NOUGHTS AND OPPOSITES -/
theorem no_walk (a0 : Option Addr) (len cap x : Nat) (xs : Nat → Nat) (w : World) (hcap : len ≤ cap) (hmax : (cap : Int) ≤ 17592186044416) (hnil : a0 = none → cap = 0) (h : IsFl w a0 len xs) (hx : x < 18446744073709551616) :
    Calls Try.prog 7 #[.slice a0 len cap, .float .f64 x] w fun e w' => e = .returned (.bool true) ∧ Hid (Below w.heap.size w w') := by
  by_cases hl : len ≤ 1048576
  · have hx64 : ∀ k, k < len → xs k < 18446744073709551616 := fun k hk => (h k hk).1
    have dn : ∀ (wr w' : World), (∃ k, w' = wr.drewN k) → Hid (Below wr.heap.size wr w') := by
      rintro wr w' ⟨k, rfl⟩; exact below_drewN (Below.refl _ _) k
    have L1 : ∀ wr, Below w.heap.size w wr → Calls Try.prog 11 #[.slice a0 len cap] wr fun e w' => e = .returned (.float .f64 (leftB xs len)) ∧ Hid (Below wr.heap.size wr w') :=
      fun wr hb => (left_at a0 len cap xs wr hcap (by omega) (h.below hb)).mono fun e w' ⟨he, hw⟩ => ⟨he, dn _ _ hw⟩
    have C1 : ∀ wr, Below w.heap.size w wr → Calls Try.prog 15 #[.slice a0 len cap] wr fun e w' => e = .returned (.float .f64 (careB xs len)) ∧ Hid (Below wr.heap.size wr w') :=
      fun wr hb => (careful_at a0 len cap xs wr hcap (by omega) (h.below hb)).mono fun e w' ⟨he, hw⟩ => ⟨he, dn _ _ hw⟩
    have L2 : feq (leftB xs len) 0 = false → ∀ (a2 : Option Addr) (cap2 : Nat) (wr : World), len + 1 ≤ cap2 → (cap2 : Int) ≤ 9223372036854775807 → IsFl wr a2 (len + 1) (more xs len) → Calls Try.prog 11 #[.slice a2 (len + 1) cap2] wr fun e w' => e = .returned (.float .f64 (leftB xs len)) ∧ Hid (Below wr.heap.size wr w') :=
      fun h0 a2 cap2 wr h1 h2 h3 => (left_at a2 (len + 1) cap2 (more xs len) wr h1 h2 h3).mono fun e w' ⟨he, hw⟩ => ⟨by rw [he, more_left xs len hx64 h0], dn _ _ hw⟩
    have C2 : ∀ (a2 : Option Addr) (cap2 : Nat) (wr : World), len + 1 ≤ cap2 → (cap2 : Int) ≤ 9223372036854775807 → IsFl wr a2 (len + 1) (more xs len) → Calls Try.prog 15 #[.slice a2 (len + 1) cap2] wr fun e w' => e = .returned (.float .f64 (careB xs len)) ∧ Hid (Below wr.heap.size wr w') :=
      fun a2 cap2 wr h1 h2 h3 => (careful_at a2 (len + 1) cap2 (more xs len) wr h1 h2 h3).mono fun e w' ⟨he, hw⟩ => ⟨by rw [he, more_care xs len hx64], dn _ _ hw⟩
    have L2' : feq (leftB xs len) 0 = true → Hid (∀ (a2 : Option Addr) (cap2 : Nat) (wr : World), len + 1 ≤ cap2 → (cap2 : Int) ≤ 9223372036854775807 → IsFl wr a2 (len + 1) (more xs len) → True) := fun _ _ _ _ _ _ _ => trivial
    have HF : Hid (IsFl w a0 len xs ∧ len ≤ cap ∧ (a0 = none → cap = 0)) := ⟨h, hcap, hnil⟩
    have fx := feq_selfq x hx
    have tailN : isN x = true → feq x x = false := fun hN => by rw [fx, hN]; rfl
    have ok : isN x = false → feq x x = true := fun hN => by rw [fx, hN]; rfl
    have y1 : Op.negFloat .f64 x = negB x := negFloat_eq x hx
    have hy : negB x < 18446744073709551616 := negB_lt hx
    have T1 : ∀ w, Calls Try.prog 17 #[.float .f64 x, .float .f64 0, .float .f64 (negB x)] w fun e w' => e = .returned (.float .f64 (thB x 0 (negB x))) ∧ Hid (Below w.heap.size w w') := fun w => three_at x 0 (negB x) w hx (by decide) hy
    have T2 : ∀ w, Calls Try.prog 17 #[.float .f64 x, .float .f64 0, .float .f64 0] w fun e w' => e = .returned (.float .f64 (thB x 0 0)) ∧ Hid (Below w.heap.size w w') := fun w => three_at x 0 0 w hx (by decide) (by decide)
    have one1 : ∀ k, k < 1 → x < 18446744073709551616 ∧ #[Value.float .f64 x][k]? = some (.float .f64 x) := by
      intro k hk; obtain rfl : k = 0 := by omega
      exact ⟨hx, rfl⟩
    have T3 : ∀ w, Calls Try.prog 15 #[.slice (some ⟨w.heap.size, 0, none⟩) 1 1] (w.alloc (.cells #[.float .f64 x] 25)) fun e w' => e = .returned (.float .f64 (careB (fun _ => x) 1)) ∧ Hid (Below w.heap.size w w') := by
      intro w
      refine (careful_at _ 1 1 (fun _ => x) _ (Nat.le_refl _) (by decide) (fl_new w _ _ _ 1 one1)).mono ?_
      rintro e w' ⟨he, k, rfl⟩
      exact ⟨he, below_drewN ((Below.refl _ _).alloc (Nat.le_refl _) _) k⟩
    clear L2'
    cases gs : feq (leftB xs len) 0
    · cases gc : feq (careB xs len) 0
      · skip
        rcases three x with f | f | f
        · exact no_FalseFalsef a0 len cap x (negB x) _ _ _ _ _ xs w (by omega) HF (ok (isN_fin f)) (sub_self x hx f) y1 (th_opp x hx f) (th_alone x hx f) (care_one x hx f) gs gc L1 C1 (L2 gs) C2 T1 T2 T3
        · exact no_FalseFalsei a0 len cap x _ _ xs w (by omega) HF (ok (isN_false.2 (by omega))) (sub_inf x hx f) gs gc L1 C1 (L2 gs) C2
        · exact no_FalseFalsen a0 len cap x _ _ xs w (by omega) HF (tailN f) gs gc L1 C1 (L2 gs) C2
      · skip
        rcases three x with f | f | f
        · exact no_FalseTruef a0 len cap x (negB x) _ _ _ _ _ xs w (by omega) HF (ok (isN_fin f)) (sub_self x hx f) y1 (th_opp x hx f) (th_alone x hx f) (care_one x hx f) gs gc L1 C1 (L2 gs) T1 T2 T3
        · exact no_FalseTruei a0 len cap x _ _ xs w (by omega) HF (ok (isN_false.2 (by omega))) (sub_inf x hx f) gs gc L1 C1 (L2 gs)
        · exact no_FalseTruen a0 len cap x _ _ xs w (by omega) HF (tailN f) gs gc L1 C1 (L2 gs)
    · cases gc : feq (careB xs len) 0
      · skip
        rcases three x with f | f | f
        · exact no_TrueFalsef a0 len cap x (negB x) _ _ _ _ _ xs w (by omega) HF (ok (isN_fin f)) (sub_self x hx f) y1 (th_opp x hx f) (th_alone x hx f) (care_one x hx f) gs gc L1 C1 C2 T1 T2 T3
        · exact no_TrueFalsei a0 len cap x _ _ xs w (by omega) HF (ok (isN_false.2 (by omega))) (sub_inf x hx f) gs gc L1 C1 C2
        · exact no_TrueFalsen a0 len cap x _ _ xs w (by omega) HF (tailN f) gs gc L1 C1 C2
      · skip
        rcases three x with f | f | f
        · exact no_TrueTruef a0 len cap x (negB x) _ _ _ _ _ xs w (by omega) HF (ok (isN_fin f)) (sub_self x hx f) y1 (th_opp x hx f) (th_alone x hx f) (care_one x hx f) gs gc L1 C1 T1 T2 T3
        · exact no_TrueTruei a0 len cap x _ _ xs w (by omega) HF (ok (isN_false.2 (by omega))) (sub_inf x hx f) gs gc L1 C1
        · exact no_TrueTruen a0 len cap x _ _ xs w (by omega) HF (tailN f) gs gc L1 C1
  · exact no_long a0 len cap x w (by omega)
end Go.Proofs.Ytflkbjcaajchjaa
