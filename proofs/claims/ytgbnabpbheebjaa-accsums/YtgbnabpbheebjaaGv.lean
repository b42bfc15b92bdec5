/-
  Value: walks over the program.
-/
import Derived.Test.YtgbnabpbheebjaaGu
namespace Go.Proofs.Ytgbnabpbheebjaa
open Go.RowKit Tf
attribute [local go_sem] run_bits run_from raw_feq raw_fne raw_flt raw_fgt run_neg

set_option maxHeartbeats 4000000 in
theorem value_nil (w : World) : Calls Try.prog 21 #[.pointer none] w fun e w' => e = .returned (.float .f64 0) ∧ w' = w := by
  go_enter Try.func21, Try.ntmps21
  go_wp2
  go_ret
  exact ⟨rfl, rfl⟩
set_option maxHeartbeats 4000000 in
theorem value_nan (g : Nat) (w : World) (h5 : w.cell? ⟨g, 70, none⟩ = some (.bool true)) :
    Calls Try.prog 21 #[.pointer (some ⟨g, 0, none⟩)] w fun e w' => e = .returned (.float .f64 quiet) ∧ w' = w := by
  go_enter Try.func21, Try.ntmps21
  go_wp2
  go_ret
  exact ⟨rfl, rfl⟩
set_option maxHeartbeats 4000000 in
theorem value_both (g : Nat) (w : World) (h5 : w.cell? ⟨g, 70, none⟩ = some (.bool false)) (h3 : w.cell? ⟨g, 68, none⟩ = some (.bool true)) (h4 : w.cell? ⟨g, 69, none⟩ = some (.bool true)) :
    Calls Try.prog 21 #[.pointer (some ⟨g, 0, none⟩)] w fun e w' => e = .returned (.float .f64 quiet) ∧ w' = w := by
  go_enter Try.func21, Try.ntmps21
  go_wp2
  go_ret
  exact ⟨rfl, rfl⟩
set_option maxHeartbeats 4000000 in
theorem value_above (g : Nat) (w : World) (h5 : w.cell? ⟨g, 70, none⟩ = some (.bool false)) (h3 : w.cell? ⟨g, 68, none⟩ = some (.bool true)) (h4 : w.cell? ⟨g, 69, none⟩ = some (.bool false)) :
    Calls Try.prog 21 #[.pointer (some ⟨g, 0, none⟩)] w fun e w' => e = .returned (.float .f64 9218868437227405312) ∧ w' = w := by
  go_enter Try.func21, Try.ntmps21
  go_wp2_with fail
  refine (mInf_any _).mono ?_
  rintro e w' ⟨rfl, rfl⟩
  go_wp2
  go_ret
  exact ⟨rfl, rfl⟩
set_option maxHeartbeats 4000000 in
theorem value_below (g : Nat) (w : World) (h5 : w.cell? ⟨g, 70, none⟩ = some (.bool false)) (h3 : w.cell? ⟨g, 68, none⟩ = some (.bool false)) (h4 : w.cell? ⟨g, 69, none⟩ = some (.bool true)) :
    Calls Try.prog 21 #[.pointer (some ⟨g, 0, none⟩)] w fun e w' => e = .returned (.float .f64 18442240474082181120) ∧ w' = w := by
  go_enter Try.func21, Try.ntmps21
  go_wp2_with fail
  refine (mInf_neg _).mono ?_
  rintro e w' ⟨rfl, rfl⟩
  go_wp2
  go_ret
  exact ⟨rfl, rfl⟩
set_option maxHeartbeats 4000000 in
theorem value_nought (g : Nat) (c : Int) (w : World) (h5 : w.cell? ⟨g, 70, none⟩ = some (.bool false)) (h3 : w.cell? ⟨g, 68, none⟩ = some (.bool false)) (h4 : w.cell? ⟨g, 69, none⟩ = some (.bool false))
    (h0 : w.cell? ⟨g, 0, none⟩ = some (.int .i64 c)) (h1 : w.cell? ⟨g, 1, none⟩ = some (.int .i64 c)) (hc : 0 < c) :
    Calls Try.prog 21 #[.pointer (some ⟨g, 0, none⟩)] w fun e w' => e = .returned (.float .f64 9223372036854775808) ∧ w' = w.drew := by
  go_enter Try.func21, Try.ntmps21
  go_wp2
  go_region
  go_wp2_with fail
  refine (copysign_any _).mono ?_
  rintro e w' ⟨rfl, rfl⟩
  go_wp2
  go_ret
  exact ⟨rfl, rfl⟩
set_option maxHeartbeats 4000000 in
theorem value_sum (g : Nat) (c n : Int) (C : Array Value) (x y : Nat) (z : Bool) (w : World) (h5 : w.cell? ⟨g, 70, none⟩ = some (.bool false)) (h3 : w.cell? ⟨g, 68, none⟩ = some (.bool false)) (h4 : w.cell? ⟨g, 69, none⟩ = some (.bool false))
    (h0 : w.cell? ⟨g, 0, none⟩ = some (.int .i64 c)) (h1 : w.cell? ⟨g, 1, none⟩ = some (.int .i64 n)) (hc : 0 ≤ c) (hz : (z = false ∧ c = 0) ∨ (z = true ∧ 0 < c ∧ ¬ (n = c)))
    (hr : Hid (w.rangeAt g 2 C.toList)) (hC : Hid (C.size = 66))
    (N : Hid (∀ w, Calls Try.prog 39 #[.agg C] w fun e w' => e = .returned (.float .f64 x) ∧ Below w.heap.size w w'))
    (X : Hid (∀ w, Calls Try.prog 38 #[.float .f64 x] w fun e w' => e = .returned (.float .f64 y) ∧ w' = w)) :
    Calls Try.prog 21 #[.pointer (some ⟨g, 0, none⟩)] w fun e w' => e = .returned (.float .f64 y) ∧ Below w.heap.size w w' := by
  rcases hz with ⟨rfl, rfl⟩ | ⟨rfl, hc1, hcn⟩
  all_goals
    go_enter Try.func21, Try.ntmps21
    go_wp2
    go_region
    go_upto_region 11 with fail
    rename_i K hK
    apply wp_region_lit
    refine wpList_plain rfl (fun K2 hK2 => ?_)
    have HK := hid hK2
    clear hK2
    go_wp2
    refine HK.out _ _ ?_
    clear HK K2
    refine wpList_plain rfl (fun K2 hK2 => ?_)
    have HK := hid hK2
    clear hK2
    go_wp2
    refine HK.out _ _ ?_
    clear HK K2
    refine wpList_plain rfl (fun K2 hK2 => ?_)
    have HK := hid hK2
    clear hK2
    go_wp2
    refine HK.out _ _ ?_
    clear HK K2
    refine wpList_load_mid rfl 54 _ rfl g 2 rfl C.toList _ ((World.rangeAt_drew _ _ _ _).2 hr.out) Try.underlying54 rfl (by rw [Array.length_toList, hC.out]; exact size_fixed) ?_
    rw [Array.toArray_toList]
    go_wp2_with fail
    refine (N.out _).mono ?_
    rintro e w1 ⟨rfl, b1⟩
    have B1 : Hid (Below w.heap.size w w1) := (Below.refl _ _).drew.trans b1
    clear b1 hr
    go_wp2_with fail
    refine (X.out _).mono ?_
    rintro e w2 ⟨rfl, rfl⟩
    go_wp2
    go_ret
    exact ⟨rfl, B1.out⟩

/-- what Value says of a sum -/
def valB (S : AS) : Nat := if S.r || (S.p && S.q) then quiet else if S.p then 9218868437227405312 else if S.q then 18442240474082181120 else if 0 < S.c ∧ S.n = S.c then 9223372036854775808 else canonB (rv S.V)
theorem valB_lt (S : AS) : valB S < 18446744073709551616 := by
  have h := rv_lt S.V
  unfold valB canonB quiet
  repeat' split
  all_goals omega
theorem IsAcc.range {g : Nat} {S : AS} {w : World} (h : IsAcc g S w) : w.rangeAt g 2 (encF (dg S.V)).toList := by
  intro j v hv
  have hj : (encF (dg S.V))[j]? = some v := by simpa using hv
  rw [encF_get] at hj
  by_cases c : j < 66
  · rw [if_pos c] at hj
    rw [h.word j c]; exact hj
  · rw [if_neg c] at hj; cases hj
/-- VALUE -/
theorem value_at (g : Nat) (S : AS) (w : World) (h : IsAcc g S w) (c0 : 0 ≤ S.c) (h0 : -HW ≤ S.V) (h1 : S.V < HW) :
    Calls Try.prog 21 #[.pointer (some ⟨g, 0, none⟩)] w fun e w' => e = .returned (.float .f64 (valB S)) ∧ Below w.heap.size w w' := by
  have k3 := h.c68
  have k4 := h.c69
  have k5 := h.c70
  have k0 := h.c0
  have k1 := h.c1
  have hr := h.range
  have same : ∀ (x : Nat), (Calls Try.prog 21 #[.pointer (some ⟨g, 0, none⟩)] w fun e w' => e = .returned (.float .f64 x) ∧ w' = w) → valB S = x → Calls Try.prog 21 #[.pointer (some ⟨g, 0, none⟩)] w fun e w' => e = .returned (.float .f64 (valB S)) ∧ Below w.heap.size w w' := by
    intro x hx e
    refine hx.mono ?_
    rintro e' w' ⟨q1, rfl⟩
    rw [e]; exact ⟨q1, Below.refl _ _⟩
  cases er : S.r
  · rw [er] at k5
    cases ep : S.p
    · rw [ep] at k3
      cases eq : S.q
      · rw [eq] at k4
        by_cases c : 0 < S.c ∧ S.n = S.c
        · rw [c.2] at k1
          refine (value_nought g S.c w k5 k3 k4 k0 k1 c.1).mono ?_
          rintro e w' ⟨q1, rfl⟩
          have : valB S = 9223372036854775808 := by unfold valB; rw [er, ep, eq, if_neg (by decide), if_neg (by decide), if_neg (by decide), if_pos c]
          rw [this]; exact ⟨q1, (Below.refl _ _).drew⟩
        · have : valB S = canonB (rv S.V) := by unfold valB; rw [er, ep, eq, if_neg (by decide), if_neg (by decide), if_neg (by decide), if_neg c]
          rw [this]
          refine value_sum g S.c S.n (encF (dg S.V)) (rv S.V) _ (decide (0 < S.c)) w k5 k3 k4 k0 k1 c0 ?_ hr (encF_size _) (fun w => near_at S.V w h0 h1) (fun w => canon_any _ w (rv_lt _))
          by_cases c2 : 0 < S.c
          · exact Or.inr ⟨decide_eq_true c2, c2, fun e => c ⟨c2, e⟩⟩
          · exact Or.inl ⟨decide_eq_false c2, by omega⟩
      · rw [eq] at k4
        exact same _ (value_below g w k5 k3 k4) (by unfold valB; rw [er, ep, eq]; rfl)
    · rw [ep] at k3
      cases eq : S.q
      · rw [eq] at k4
        exact same _ (value_above g w k5 k3 k4) (by unfold valB; rw [er, ep, eq]; rfl)
      · rw [eq] at k4
        exact same _ (value_both g w k5 k3 k4) (by unfold valB; rw [er, ep, eq]; rfl)
  · rw [er] at k5
    exact same _ (value_nan g w k5) (by unfold valB; rw [er]; rfl)
end Go.Proofs.Ytgbnabpbheebjaa
