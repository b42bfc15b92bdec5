/-
  Sums by pairs: walks over the program.
-/
import Derived.Test.YtflkbjcaajchjaaSb
import Derived.Deep.RegionWith
import Derived.BigQuiet
namespace Go.Proofs.Ytflkbjcaajchjaa
open Go.RowKit Tf
attribute [local go_sem] run_bits run_from raw_feq raw_fne raw_flt raw_fgt run_neg

set_option maxHeartbeats 4000000 in
theorem pairs_small (a0 : Option Addr) (len cap : Nat) (xs : Nat → Nat) (w : World) (hcap : len ≤ cap) (hl : (cap : Int) ≤ 9223372036854775807) (h : IsFl w a0 len xs) (h2 : (len : Int) ≤ 2) :
    Calls Try.prog 13 #[.slice a0 len cap] w fun e w' => e = .returned (.float .f64 (leftB xs len)) ∧ ∃ k, w' = w.drewN k := by
  have T := hid (inTurn_at a0 len cap xs w hcap hl h)
  clear h hcap hl
  go_enter Try.func13, Try.ntmps13
  go_wp2_with fail
  refine T.out.mono ?_
  rintro e w' ⟨rfl, k, rfl⟩
  go_wp2
  go_ret
  exact ⟨rfl, _, rfl⟩
set_option maxHeartbeats 4000000 in
theorem pairs_go (b o len cap h p q r : Nat) (w : World) (hcap : (len : Int) ≤ cap) (_hl : (cap : Int) ≤ 9223372036854775807) (hlen : (len : Int) ≤ 17592186044416) (h3 : (3 : Int) ≤ len) (hh : ((len : Int) + 1) / 2 = (h : Nat)) (h1 : (h : Int) < len) (hc : ¬ cap = h) (hc0 : ¬ cap = 0)
    (P1 : Hid (∀ wr, Below w.heap.size w wr → Calls Try.prog 13 #[.slice (some ⟨b, o, none⟩) h cap] wr fun e w' => e = .returned (.float .f64 p) ∧ Hid (Below w.heap.size w w')))
    (P2 : Hid (∀ wr, Below w.heap.size w wr → Calls Try.prog 13 #[.slice (some ⟨b, o + h, none⟩) (len - h) (cap - h)] wr fun e w' => e = .returned (.float .f64 q) ∧ Hid (Below w.heap.size w w')))
    (T : Hid (∀ wr, Below w.heap.size w wr → Calls Try.prog 23 #[.slice (some ⟨wr.heap.size, 0, none⟩) 2 2] (wr.alloc (.cells #[.float .f64 p, .float .f64 q] 25)) fun e w' => e = .returned (.float .f64 r) ∧ Hid (Below w.heap.size w w'))) :
    Calls Try.prog 13 #[.slice (some ⟨b, o, none⟩) len cap] w fun e w' => e = .returned (.float .f64 r) ∧ Hid (Below w.heap.size w w') := by
  have B0 : Hid (Below w.heap.size w w.drew) := below_drewN (Below.refl _ _) 1
  go_enter Try.func13, Try.ntmps13
  go_wp2
  go_region_with (first
    | (go_at_call 23; have hb := b2.out; refine (T.out _ hb).mono ?_; clear hb; rintro e w3 ⟨rfl, b3⟩)
    | (go_at_call 13; have hb := b1.out; refine (P2.out _ hb).mono ?_; clear hb; rintro e w2 ⟨rfl, b2⟩)
    | (go_at_call 13; refine (P1.out _ B0.out).mono ?_; rintro e w1 ⟨rfl, b1⟩))
  all_goals go_wp2
  all_goals go_ret
  all_goals exact ⟨rfl, b3⟩
/-- a list that was laid just now -/
theorem fl_new (w : World) (T : TypeId) (c : Array Value) (xs : Nat → Nat) (n : Nat) (h : ∀ k, k < n → xs k < 18446744073709551616 ∧ c[k]? = some (.float .f64 (xs k))) : IsFl (w.alloc (.cells c T)) (some ⟨w.heap.size, 0, none⟩) n xs := by
  intro k hk
  refine ⟨(h k hk).1, w.heap.size, 0, rfl, by simp, ?_⟩
  rw [Nat.zero_add]
  have := (h k hk).2
  simp [this]
/-- BY PAIRS -/
theorem pairs_at : ∀ (len : Nat) (a0 : Option Addr) (cap : Nat) (xs : Nat → Nat) (w : World), len ≤ cap → (cap : Int) ≤ 9223372036854775807 → (len : Int) ≤ 17592186044416 → IsFl w a0 len xs →
    Calls Try.prog 13 #[.slice a0 len cap] w fun e w' => e = .returned (.float .f64 (prB xs 0 len)) ∧ Hid (Below w.heap.size w w') := by
  intro len
  induction len using Nat.strongRecOn with
  | ind len ih =>
    intro a0 cap xs w hcap hl hlen h
    by_cases h2 : len ≤ 2
    · rw [prB_two xs len h2]
      refine (pairs_small a0 len cap xs w hcap hl h (by omega)).mono ?_
      rintro e w' ⟨he, k, rfl⟩
      exact ⟨he, below_drewN (Below.refl _ _) k⟩
    · obtain ⟨_, b, o, rfl, _, _⟩ := h 0 (by omega)
      obtain ⟨m, hm⟩ : ∃ m, (len + 1) / 2 = m := ⟨_, rfl⟩
      have hlt : ∀ j, j < len → xs j < 18446744073709551616 := fun j hj => (h j hj).1
      have e1 : prB xs 0 len = plB (prB xs 0 m) (prB (fun j => xs (m + j)) 0 (len - m)) := by
        rw [prB_more xs 0 len (by omega), hm, Nat.zero_add]
        congr 1
        exact prB_congr _ _ _ _ _ (fun j _ => by rw [Nat.zero_add])
      rw [e1]
      have q1 : prB xs 0 m < 18446744073709551616 := prB_lt xs m 0 (fun j hj => by rw [Nat.zero_add]; exact hlt _ (by omega))
      have q2 : prB (fun j => xs (m + j)) 0 (len - m) < 18446744073709551616 := prB_lt _ _ 0 (fun j hj => by rw [Nat.zero_add]; exact hlt _ (by omega))
      refine pairs_go b o len cap m (prB xs 0 m) (prB (fun j => xs (m + j)) 0 (len - m)) _ w (by omega) hl hlen (by omega) (by omega) (by omega) (by omega) (by omega) ?_ ?_ ?_
      · intro wr hb
        refine (ih m (by omega) (some ⟨b, o, none⟩) cap xs wr (by omega) hl (by omega) (fun k hk => (h.below hb) k (by omega))).mono ?_
        rintro e w' ⟨he, hb'⟩
        exact ⟨he, hb.trans (hb'.out.mono hb.size)⟩
      · intro wr hb
        refine (ih (len - m) (by omega) (some ⟨b, o + m, none⟩) (cap - m) (fun j => xs (m + j)) wr (by omega) (by omega) (by omega) (fun k hk => ?_)).mono ?_
        · obtain ⟨k1, b', o', k2, k3, k4⟩ := (h.below hb) (m + k) (by omega)
          cases k2
          exact ⟨k1, b, o + m, rfl, k3, by rw [Nat.add_assoc]; exact k4⟩
        · rintro e w' ⟨he, hb'⟩
          exact ⟨he, hb.trans (hb'.out.mono hb.size)⟩
      · intro wr hb
        have hf : IsFl (wr.alloc (.cells #[.float .f64 (prB xs 0 m), .float .f64 (prB (fun j => xs (m + j)) 0 (len - m))] 25)) (some ⟨wr.heap.size, 0, none⟩) 2 (fun j => if j = 0 then prB xs 0 m else prB (fun j => xs (m + j)) 0 (len - m)) := by
          refine fl_new wr _ _ _ 2 (fun k hk => ?_)
          rcases (show k = 0 ∨ k = 1 by omega) with rfl | rfl
          · exact ⟨q1, rfl⟩
          · exact ⟨q2, rfl⟩
        refine (inTurn_at _ 2 2 _ _ (Nat.le_refl _) (by decide) hf).mono ?_
        rintro e w' ⟨he, k, rfl⟩
        refine ⟨?_, below_drewN (hb.alloc hb.size _) k⟩
        rw [he]
        have : leftB (fun j => if j = 0 then prB xs 0 m else prB (fun j => xs (m + j)) 0 (len - m)) 2 = plB (qB (prB xs 0 m)) (prB (fun j => xs (m + j)) 0 (len - m)) := rfl
        rw [this, plB_ql]
end Go.Proofs.Ytflkbjcaajchjaa
