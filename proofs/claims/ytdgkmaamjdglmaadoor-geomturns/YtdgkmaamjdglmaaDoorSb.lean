/-
  Sums from the left: walks over the program.
-/
import Derived.Test.YtdgkmaamjdglmaaDoorSa
import Derived.Test.YtdgkmaamjdglmaaDoorTd
import Derived.Test.YtdgkmaamjdglmaaDoorWd
import Derived.Below
namespace Go.Proofs.YtdgkmaamjdglmaaDoor
open Go.RowKit Tf
attribute [local go_sem] run_bits run_from raw_feq raw_fne raw_flt raw_fgt run_neg

/-- one addition, whatever comes of it -/
theorem add_any {P : Program} (w : World) (s q x y : Nat) (h : IsQ s q) (k : IsQ x y) : ∃ r n, (∀ t, (binOp .add t (.float .f64 s) (.float .f64 x)).run P w = .ok (.float .f64 r) (w.drewN n)) ∧ IsQ r (plB q y) := by
  cases e : Ieee.double.add s x with
  | none => exact ⟨nanOf w s x, 1, fun t => run_nan_add w t s x e, h.nan k e (nanOf_lt _ _ _) (isN_nanOf _ _ _)⟩
  | some r => exact ⟨r, 0, fun t => run_float_arith w .add t .f64 s x r e, h.add k e⟩
theorem feq_selfq (x : Nat) (hx : x < 18446744073709551616) : feq x x = !isN x := by
  rw [feq_rk x x hx hx]
  cases isN x <;> simp
set_option maxHeartbeats 1000000 in
theorem oneNaN_at (x q : Nat) (w : World) (h : IsQ x q) :
    Calls Tryd.prog 69 #[.float .f64 x] w fun e w' => e = .returned (.float .f64 q) ∧ w' = w := by
  obtain ⟨h1, h2⟩ := h
  have C := hid (fun w => canon_at x _ w h1 rfl)
  have hf := feq_selfq x h1
  cases hN : isN x
  · rw [hN] at hf
    rw [qB_of hN] at h2
    subst h2
    clear hN h1
    go_enter Tryd.func69, Tryd.ntmps69
    go_wp2
    go_ret
    exact ⟨rfl, rfl⟩
  · rw [hN] at hf
    have hc : canonB x = q := by rw [← h2, qB_N hN]; unfold canonB; rw [hN]; rfl
    rw [hc] at C
    clear hN h1 h2 hc
    go_enter Tryd.func69, Tryd.ntmps69
    go_wp2_with fail
    refine (C.out _).mono ?_
    rintro e w' ⟨rfl, rfl⟩
    go_wp2
    go_ret
    exact ⟨rfl, rfl⟩
/-- A LIST OF FLOATS -/
def IsFl (w : World) (a0 : Option Addr) (len : Nat) (xs : Nat → Nat) : Prop := ∀ k, k < len → xs k < 18446744073709551616 ∧ ∃ b o, a0 = some ⟨b, o, none⟩ ∧ b < w.heap.size ∧ w.cell? ⟨b, o + k, none⟩ = some (.float .f64 (xs k))
theorem IsFl.below {w w' : World} {a0 : Option Addr} {len : Nat} {xs : Nat → Nat} (h : IsFl w a0 len xs) (hb : Below w.heap.size w w') : IsFl w' a0 len xs := by
  intro k hk
  obtain ⟨h1, b, o, h2, h3, h4⟩ := h k hk
  exact ⟨h1, b, o, h2, Nat.lt_of_lt_of_le h3 hb.size, by rw [hb.cell (p := ⟨b, o + k, none⟩) h3]; exact h4⟩
set_option maxHeartbeats 1000000 in
theorem inTurn_none (a0 : Option Addr) (cap : Nat) (w : World) :
    Calls Tryd.prog 64 #[.slice a0 0 cap] w fun e w' => e = .returned (.float .f64 0) ∧ w' = w := by
  go_enter Tryd.func64, Tryd.ntmps64
  go_wp2
  go_ret
  exact ⟨rfl, rfl⟩
set_option maxHeartbeats 2000000 in
theorem inTurn_one (b o cap x q : Nat) (w : World) (_hcap : (1 : Int) ≤ cap) (_hl : (cap : Int) ≤ 9223372036854775807) (h0 : w.cell? ⟨b, o, none⟩ = some (.float .f64 x)) (hx : Hid (IsQ x q)) :
    Calls Tryd.prog 64 #[.slice (some ⟨b, o, none⟩) 1 cap] w fun e w' => e = .returned (.float .f64 q) ∧ ∃ k, w' = w.drewN k := by
  have C := hid (fun w => oneNaN_at x q w hx.out)
  clear hx
  by_cases hc : cap = 1
  · go_enter Tryd.func64, Tryd.ntmps64
    go_wp2
    go_loopw [3, 15] (fun sv iv wr => sv = .float .f64 x ∧ iv = .int .i64 0 ∧ wr = w) (fun _ _ _ => 0)
    case atStart => exact ⟨rfl, rfl, rfl⟩
    case round =>
      obtain ⟨rfl, rfl, rfl⟩ := hrel
      go_wp2_with fail
      refine (C.out _).mono ?_
      rintro e w' ⟨rfl, rfl⟩
      go_wp2
      go_ret
      exact ⟨rfl, 0, rfl⟩
  · go_enter Tryd.func64, Tryd.ntmps64
    go_wp2
    go_loopw [3, 15] (fun sv iv wr => sv = .float .f64 x ∧ iv = .int .i64 0 ∧ wr = w) (fun _ _ _ => 0)
    case atStart => exact ⟨rfl, rfl, rfl⟩
    case round =>
      obtain ⟨rfl, rfl, rfl⟩ := hrel
      go_wp2_with fail
      refine (C.out _).mono ?_
      rintro e w' ⟨rfl, rfl⟩
      go_wp2
      go_ret
      exact ⟨rfl, 0, rfl⟩
set_option maxHeartbeats 4000000 in
theorem inTurn_more (b o n cap : Nat) (xs : Nat → Nat) (w : World) (hn : 1 ≤ n) (hcap : (n : Int) + 1 ≤ cap) (hl : (cap : Int) ≤ 9223372036854775807) (h : Hid (IsFl w (some ⟨b, o, none⟩) (n + 1) xs)) :
    Calls Tryd.prog 64 #[.slice (some ⟨b, o, none⟩) (n + 1 : Nat) cap] w fun e w' => e = .returned (.float .f64 (lfF xs n)) ∧ ∃ k, w' = w.drewN k := by
  have hc1 : ¬ cap = 1 := by omega
  have cells : ∀ k, k < n + 1 → ∀ j, (w.drewN j).cell? ⟨b, o + k, none⟩ = some (.float .f64 (xs k)) := by
    intro k hk j
    obtain ⟨_, b', o', e, _, h3⟩ := h.out k hk
    cases e; exact h3
  have h0 : w.cell? ⟨b, o, none⟩ = some (.float .f64 (xs 0)) := cells 0 (by omega) 0
  have HC := hid cells
  obtain ⟨x0, hx0⟩ : ∃ x, xs 0 = x := ⟨_, rfl⟩
  rw [hx0] at h0
  have HX := hid hx0
  have C := hid (fun x q w => oneNaN_at x q w)
  clear cells hx0
  go_enter Tryd.func64, Tryd.ntmps64
  go_wp2
  go_loopw [3, 15] (fun sv iv wr => ∃ k s j : Nat, k ≤ n ∧ sv = .float .f64 s ∧ iv = .int .i64 (k : Nat) ∧ wr = w.drewN j ∧ Hid (IsQ s (lfF xs k))) (fun _ iv _ => n - (intOf iv).toNat)
  case atStart => exact ⟨0, x0, 0, by omega, rfl, rfl, rfl, by rw [← HX.out]; exact IsQ.self (h.out 0 (by omega)).1⟩
  case round =>
    obtain ⟨k, s, j, hk, rfl, rfl, rfl, hq⟩ := hrel
    by_cases hlt : k < n
    · have cn := HC.out (k + 1) (by omega) j
      have cn' : (w.drewN j).cell? ⟨b, o + 1 + k, none⟩ = some (.float .f64 (xs (k + 1))) := by rw [show o + 1 + k = o + (k + 1) by omega]; exact cn
      obtain ⟨r, m, hr, hrq⟩ := add_any (P := Tryd.prog) (w.drewN j) s _ (xs (k + 1)) _ hq.out (IsQ.self (h.out (k + 1) (by omega)).1)
      rw [plB_qr] at hrq
      obtain ⟨x, hx⟩ : ∃ x, xs (k + 1) = x := ⟨_, rfl⟩
      rw [hx] at cn cn' hr
      have HQ := hid hrq
      have HL := hid hlt
      have kl : ((k : Nat) : Int) < n := by omega
      clear hx hrq hlt hq hk
      go_wp2
      refine ⟨⟨k + 1, r, _, HL.out, rfl, by simp, rfl, HQ.out⟩, by have := HL.out; simp [intOf]; omega⟩
    · have e : k = n := by omega
      subst e
      have kl : decide (((k : Nat) : Int) < (k : Nat)) = false := by simp
      have C' := hid (fun w => C.out s (lfF xs k) w hq.out)
      clear C hq hlt hk
      go_wp2_with fail
      refine (C'.out _).mono ?_
      rintro e w' ⟨rfl, rfl⟩
      go_wp2
      go_ret
      exact ⟨rfl, _, rfl⟩
/-- IN TURN -/
theorem inTurn_at (a0 : Option Addr) (len cap : Nat) (xs : Nat → Nat) (w : World) (hcap : len ≤ cap) (hl : (cap : Int) ≤ 9223372036854775807) (h : IsFl w a0 len xs) :
    Calls Tryd.prog 64 #[.slice a0 len cap] w fun e w' => e = .returned (.float .f64 (leftB xs len)) ∧ ∃ k, w' = w.drewN k := by
  by_cases h0 : len = 0
  · subst h0
    exact (inTurn_none a0 cap w).mono fun e w' ⟨he, hw⟩ => ⟨he, 0, hw⟩
  · obtain ⟨x1, b, o, rfl, _, x3⟩ := h 0 (by omega)
    have e : leftB xs len = lfF xs (len - 1) := by unfold leftB; rw [if_neg h0]
    rw [e]
    by_cases h1 : len = 1
    · subst h1
      exact inTurn_one b o cap (xs 0) _ w (by omega) hl x3 (IsQ.self x1)
    · have := inTurn_more b o (len - 1) cap xs w (by omega) (by omega) hl (by rw [show len - 1 + 1 = len by omega]; exact h)
      rw [show len - 1 + 1 = len by omega] at this
      exact this
end Go.Proofs.YtdgkmaamjdglmaaDoor
