/-
  Some of the texts of this proof, one behind the other.
-/
import Derived.Below
import Derived.Deep.RegionWith
import Derived.BigQuiet
import Derived.Deep.QuietTactic
import Derived.Deep.Quiet
import Derived.Deep.MidRow
import Derived.Deep.Cut
import Derived.Deep.CutRange
import Derived.Test.YtdigecacmibkpaaGreatDoorSq04
set_option maxRecDepth 100000
set_option maxHeartbeats 400000000
namespace Go.Proofs.YtdigecacmibkpaaGreatDoor
open Go.RowKit Tf
attribute [local go_sem] run_bits run_from raw_feq raw_fne raw_flt raw_fgt run_neg
theorem add_any {P : Program} (w : World) (s q x y : Nat) (h : IsQ s q) (k : IsQ x y) : ∃ r n, (∀ t, (binOp .add t (.float .f64 s) (.float .f64 x)).run P w = .ok (.float .f64 r) (w.drewN n)) /\ IsQ r (plB q y) := by
  cases e : Ieee.double.add s x with
  | none => exact ⟨nanOf w s x, 1, fun t => run_nan_add w t s x e, h.nan k e (nanOf_lt _ _ _) (isN_nanOf _ _ _)⟩
  | some r => exact ⟨r, 0, fun t => run_float_arith w .add t .f64 s x r e, h.add k e⟩
theorem feq_selfq (x : Nat) (hx : x < 18446744073709551616) : feq x x = !isN x := by
  rw [feq_rk x x hx hx]
  cases isN x <;> simp
theorem oneNaN_at (x q : Nat) (w : World) (h : IsQ x q) :
    Calls Tryz.prog 187 #[.float .f64 x] w fun e w' => e = .returned (.float .f64 q) /\ w' = w := by
  obtain ⟨h1, h2⟩ := h
  have C := hid (fun w => canon_at x _ w h1 rfl)
  have hf := feq_selfq x h1
  cases hN : isN x
  · rw [hN] at hf
    rw [qB_of hN] at h2
    subst h2
    clear hN h1
    go_enter Tryz.func187, Tryz.ntmps187
    go_wp2
    go_ret
    exact ⟨rfl, rfl⟩
  · rw [hN] at hf
    have hc : canonB x = q := by rw [<- h2, qB_N hN]; unfold canonB; rw [hN]; rfl
    rw [hc] at C
    clear hN h1 h2 hc
    go_enter Tryz.func187, Tryz.ntmps187
    go_wp2_with fail
    refine (C.out _).mono ?_
    rintro e w' ⟨rfl, rfl⟩
    go_wp2
    go_ret
    exact ⟨rfl, rfl⟩
def IsFl (w : World) (a0 : Option Addr) (len : Nat) (xs : Nat -> Nat) : Prop := ∀ k, k < len -> xs k < 18446744073709551616 /\ ∃ b o, a0 = some ⟨b, o, none⟩ /\ b < w.heap.size /\ w.cell? ⟨b, o + k, none⟩ = some (.float .f64 (xs k))
theorem IsFl.below {w w' : World} {a0 : Option Addr} {len : Nat} {xs : Nat -> Nat} (h : IsFl w a0 len xs) (hb : Below w.heap.size w w') : IsFl w' a0 len xs := by
  intro k hk
  obtain ⟨h1, b, o, h2, h3, h4⟩ := h k hk
  exact ⟨h1, b, o, h2, Nat.lt_of_lt_of_le h3 hb.size, by rw [hb.cell (p := ⟨b, o + k, none⟩) h3]; exact h4⟩
theorem inTurn_none (a0 : Option Addr) (cap : Nat) (w : World) :
    Calls Tryz.prog 179 #[.slice a0 0 cap] w fun e w' => e = .returned (.float .f64 0) /\ w' = w := by
  go_enter Tryz.func179, Tryz.ntmps179
  go_wp2
  go_ret
  exact ⟨rfl, rfl⟩
theorem inTurn_one (b o cap x q : Nat) (w : World) (_hcap : (1 : Int) <= cap) (_hl : (cap : Int) <= 9223372036854775807) (h0 : w.cell? ⟨b, o, none⟩ = some (.float .f64 x)) (hx : Hid (IsQ x q)) :
    Calls Tryz.prog 179 #[.slice (some ⟨b, o, none⟩) 1 cap] w fun e w' => e = .returned (.float .f64 q) /\ ∃ k, w' = w.drewN k := by
  have C := hid (fun w => oneNaN_at x q w hx.out)
  clear hx
  by_cases hc : cap = 1
  · go_enter Tryz.func179, Tryz.ntmps179
    go_wp2
    go_loopw [3, 15] (fun sv iv wr => sv = .float .f64 x /\ iv = .int .i64 0 /\ wr = w) (fun _ _ _ => 0)
    case atStart => exact ⟨rfl, rfl, rfl⟩
    case round =>
      obtain ⟨rfl, rfl, rfl⟩ := hrel
      go_wp2_with fail
      refine (C.out _).mono ?_
      rintro e w' ⟨rfl, rfl⟩
      go_wp2
      go_ret
      exact ⟨rfl, 0, rfl⟩
  · go_enter Tryz.func179, Tryz.ntmps179
    go_wp2
    go_loopw [3, 15] (fun sv iv wr => sv = .float .f64 x /\ iv = .int .i64 0 /\ wr = w) (fun _ _ _ => 0)
    case atStart => exact ⟨rfl, rfl, rfl⟩
    case round =>
      obtain ⟨rfl, rfl, rfl⟩ := hrel
      go_wp2_with fail
      refine (C.out _).mono ?_
      rintro e w' ⟨rfl, rfl⟩
      go_wp2
      go_ret
      exact ⟨rfl, 0, rfl⟩
theorem inTurn_more (b o n cap : Nat) (xs : Nat -> Nat) (w : World) (hn : 1 <= n) (hcap : (n : Int) + 1 <= cap) (hl : (cap : Int) <= 9223372036854775807) (h : Hid (IsFl w (some ⟨b, o, none⟩) (n + 1) xs)) :
    Calls Tryz.prog 179 #[.slice (some ⟨b, o, none⟩) (n + 1 : Nat) cap] w fun e w' => e = .returned (.float .f64 (lfF xs n)) /\ ∃ k, w' = w.drewN k := by
  have hc1 : ¬ cap = 1 := by omega
  have cells : ∀ k, k < n + 1 -> ∀ j, (w.drewN j).cell? ⟨b, o + k, none⟩ = some (.float .f64 (xs k)) := by
    intro k hk j
    obtain ⟨_, b', o', e, _, h3⟩ := h.out k hk
    cases e; exact h3
  have h0 : w.cell? ⟨b, o, none⟩ = some (.float .f64 (xs 0)) := cells 0 (by omega) 0
  have HC := hid cells
  obtain ⟨x0, hx0⟩ : ∃ x, xs 0 = x := ⟨_, rfl⟩
  rw [hx0] at h0
  have HX := hid hx0
  have C := hid (fun x q w => oneNaN_at x q w)
  clear cells hx0
  go_enter Tryz.func179, Tryz.ntmps179
  go_wp2
  go_loopw [3, 15] (fun sv iv wr => ∃ k s j : Nat, k <= n /\ sv = .float .f64 s /\ iv = .int .i64 (k : Nat) /\ wr = w.drewN j /\ Hid (IsQ s (lfF xs k))) (fun _ iv _ => n - (intOf iv).toNat)
  case atStart => exact ⟨0, x0, 0, by omega, rfl, rfl, rfl, by rw [<- HX.out]; exact IsQ.self (h.out 0 (by omega)).1⟩
  case round =>
    obtain ⟨k, s, j, hk, rfl, rfl, rfl, hq⟩ := hrel
    by_cases hlt : k < n
    · have cn := HC.out (k + 1) (by omega) j
      have cn' : (w.drewN j).cell? ⟨b, o + 1 + k, none⟩ = some (.float .f64 (xs (k + 1))) := by rw [show o + 1 + k = o + (k + 1) by omega]; exact cn
      obtain ⟨r, m, hr, hrq⟩ := add_any (P := Tryz.prog) (w.drewN j) s _ (xs (k + 1)) _ hq.out (IsQ.self (h.out (k + 1) (by omega)).1)
      rw [plB_qr] at hrq
      obtain ⟨x, hx⟩ : ∃ x, xs (k + 1) = x := ⟨_, rfl⟩
      rw [hx] at cn cn' hr
      have HQ := hid hrq
      have HL := hid hlt
      have kl : ((k : Nat) : Int) < n := by omega
      clear hx hrq hlt hq hk
      go_wp2
      refine ⟨⟨k + 1, r, _, HL.out, rfl, by simp, rfl, HQ.out⟩, by have := HL.out; simp [intOf]; omega⟩
    · have e : k = n := by omega
      subst e
      have kl : decide (((k : Nat) : Int) < (k : Nat)) = false := by simp
      have C' := hid (fun w => C.out s (lfF xs k) w hq.out)
      clear C hq hlt hk
      go_wp2_with fail
      refine (C'.out _).mono ?_
      rintro e w' ⟨rfl, rfl⟩
      go_wp2
      go_ret
      exact ⟨rfl, _, rfl⟩
theorem inTurn_at (a0 : Option Addr) (len cap : Nat) (xs : Nat -> Nat) (w : World) (hcap : len <= cap) (hl : (cap : Int) <= 9223372036854775807) (h : IsFl w a0 len xs) :
    Calls Tryz.prog 179 #[.slice a0 len cap] w fun e w' => e = .returned (.float .f64 (leftB xs len)) /\ ∃ k, w' = w.drewN k := by
  by_cases h0 : len = 0
  · subst h0
    exact (inTurn_none a0 cap w).mono fun e w' ⟨he, hw⟩ => ⟨he, 0, hw⟩
  · obtain ⟨x1, b, o, rfl, _, x3⟩ := h 0 (by omega)
    have e : leftB xs len = lfF xs (len - 1) := by unfold leftB; rw [if_neg h0]
    rw [e]
    by_cases h1 : len = 1
    · subst h1
      exact inTurn_one b o cap (xs 0) _ w (by omega) hl x3 (IsQ.self x1)
    · have := inTurn_more b o (len - 1) cap xs w (by omega) (by omega) hl (by rw [show len - 1 + 1 = len by omega]; exact h)
      rw [show len - 1 + 1 = len by omega] at this
      exact this
end Go.Proofs.YtdigecacmibkpaaGreatDoor

namespace Go.Proofs.YtdigecacmibkpaaGreatDoor
open Go.RowKit Tf
attribute [local go_sem] run_bits run_from raw_feq raw_fne raw_flt raw_fgt run_neg
theorem fl_new (w : World) (T : TypeId) (c : Array Value) (xs : Nat -> Nat) (n : Nat) (h : ∀ k, k < n -> xs k < 18446744073709551616 /\ c[k]? = some (.float .f64 (xs k))) : IsFl (w.alloc (.cells c T)) (some ⟨w.heap.size, 0, none⟩) n xs := by
  intro k hk
  refine ⟨(h k hk).1, w.heap.size, 0, rfl, by simp, ?_⟩
  rw [Nat.zero_add]
  have := (h k hk).2
  simp [this]
end Go.Proofs.YtdigecacmibkpaaGreatDoor

namespace Go.Proofs.YtdigecacmibkpaaGreatDoor
open Go.RowKit Tf
attribute [local go_sem] run_bits run_from raw_feq raw_fne raw_flt raw_fgt run_neg
theorem place_mg (x : Nat) : placeB (mg x) = mg x + 9223372036854775808 := by
  unfold placeB; rw [ng_of_lt (mg_lt x)]; rfl
theorem order_mg (a b : Nat) : orderB (mg a) (mg b) = if mg a < mg b then -1 else if mg b < mg a then 1 else 0 := by
  unfold orderB
  rw [place_mg, place_mg]
  by_cases h1 : mg a < mg b
  · rw [if_pos (by omega), if_pos h1]
  · rw [if_neg (by omega), if_neg h1]
    by_cases h2 : mg b < mg a
    · rw [if_pos (by omega), if_pos h2]
    · rw [if_neg (by omega), if_neg h2]
theorem key_lt (a b : Nat) (ha : a < 18446744073709551616) (hb : b < 18446744073709551616) : key b < key a ↔ mg b < mg a \/ (mg a = mg b /\ placeB b < placeB a) := by
  have h1 := word_eq a ha
  have h2 := word_eq b hb
  have h3 := mg_lt a
  have h4 := mg_lt b
  unfold key placeB
  revert h1 h2
  cases ng a <;> cases ng b <;> simp <;> omega
theorem behind_at (a b : Nat) (r : Bool) (w : World) (ha : a < 18446744073709551616) (hb : b < 18446744073709551616) (hr : decide (key b < key a) = r) :
    Calls Tryz.prog 186 #[.float .f64 a, .float .f64 b] w fun e w' => e = .returned (.bool r) /\ w' = w := by
  have A := hid (fun w => abs_any a w ha)
  have B := hid (fun w => abs_any b w hb)
  have h3 := mg_lt a
  have h4 := mg_lt b
  have O := hid (fun o w h => orderB_at (mg a) (mg b) o w (by omega) (by omega) h)
  have O2 := hid (fun w => orderB_at a b _ w ha hb rfl)
  have hk := key_lt a b ha hb
  have ho := order_mg a b
  by_cases c1 : mg a < mg b
  · rw [if_pos c1] at ho
    have O' := hid (fun w => O.out _ w ho)
    have e : r = false := by rw [<- hr]; exact decide_eq_false (fun x => by have := hk.1 x; omega)
    subst e
    clear O O2 hk hr ho c1 h3 h4 ha hb
    generalize mg a = ma at *
    generalize mg b = mb at *
    go_enter Tryz.func186, Tryz.ntmps186
    go_wp2_with fail
    refine (A.out _).mono ?_
    rintro e w' ⟨rfl, rfl⟩
    go_wp2_with fail
    refine (B.out _).mono ?_
    rintro e w' ⟨rfl, rfl⟩
    go_wp2_with fail
    refine (O'.out _).mono ?_
    rintro e w' ⟨rfl, rfl⟩
    go_wp2
    go_ret
    exact ⟨rfl, rfl⟩
  by_cases c2 : mg b < mg a
  · rw [if_neg c1, if_pos c2] at ho
    have O' := hid (fun w => O.out _ w ho)
    have e : r = true := by rw [<- hr]; exact decide_eq_true (hk.2 (.inl c2))
    subst e
    clear O O2 hk hr ho c1 c2 h3 h4 ha hb
    generalize mg a = ma at *
    generalize mg b = mb at *
    go_enter Tryz.func186, Tryz.ntmps186
    go_wp2_with fail
    refine (A.out _).mono ?_
    rintro e w' ⟨rfl, rfl⟩
    go_wp2_with fail
    refine (B.out _).mono ?_
    rintro e w' ⟨rfl, rfl⟩
    go_wp2_with fail
    refine (O'.out _).mono ?_
    rintro e w' ⟨rfl, rfl⟩
    go_wp2
    go_ret
    exact ⟨rfl, rfl⟩
  · rw [if_neg c1, if_neg c2] at ho
    have O' := hid (fun w => O.out _ w ho)
    obtain ⟨o, ho2⟩ : ∃ o, orderB a b = o := ⟨_, rfl⟩
    have e : decide (0 < o) = r := by
      rw [<- hr, <- ho2]
      refine decide_eq_decide.2 ?_
      rw [orderB_gt, hk]
      constructor
      · intro h; exact .inr ⟨by omega, h⟩
      · rintro (h | h)
        · omega
        · exact h.2
    rw [ho2] at O2
    clear O hk hr ho c1 c2 h3 h4 ha hb ho2
    generalize mg a = ma at *
    generalize mg b = mb at *
    go_enter Tryz.func186, Tryz.ntmps186
    go_wp2_with fail
    refine (A.out _).mono ?_
    rintro e w' ⟨rfl, rfl⟩
    go_wp2_with fail
    refine (B.out _).mono ?_
    rintro e w' ⟨rfl, rfl⟩
    go_wp2_with fail
    refine (O'.out _).mono ?_
    rintro e w' ⟨rfl, rfl⟩
    go_wp2_with fail
    refine (O2.out _).mono ?_
    rintro e w' ⟨rfl, rfl⟩
    go_wp2
    go_ret
    exact ⟨by first | rfl | (rw [<- e]; try rfl) | skip, rfl⟩
theorem lesser_at (a b : Nat) (w : World) (ha : a < 18446744073709551616) (hb : b < 18446744073709551616) :
    Calls Tryz.prog 178 #[.float .f64 a, .float .f64 b] w fun e w' => e = .returned (.tuple #[.float .f64 (loB a b), .float .f64 (hiB a b)]) /\ w' = w := by
  have B := hid (fun w => behind_at a b _ w ha hb rfl)
  unfold loB hiB
  by_cases c : key b < key a
  · rw [if_pos c, if_pos c]
    rw [decide_eq_true c] at B
    clear c
    go_enter Tryz.func178, Tryz.ntmps178
    go_wp2_with fail
    refine (B.out _).mono ?_
    rintro e w' ⟨rfl, rfl⟩
    go_wp2
    go_ret2
    exact ⟨rfl, rfl⟩
  · rw [if_neg c, if_neg c]
    rw [decide_eq_false c] at B
    clear c
    go_enter Tryz.func178, Tryz.ntmps178
    go_wp2_with fail
    refine (B.out _).mono ?_
    rintro e w' ⟨rfl, rfl⟩
    go_wp2
    go_ret2
    exact ⟨rfl, rfl⟩
theorem lo_lt {a b : Nat} (ha : a < 18446744073709551616) (hb : b < 18446744073709551616) : loB a b < 18446744073709551616 := by unfold loB; split <;> assumption
theorem hi_lt {a b : Nat} (ha : a < 18446744073709551616) (hb : b < 18446744073709551616) : hiB a b < 18446744073709551616 := by unfold hiB; split <;> assumption
theorem three_go (a b c a1 b1 b2 c2 a3 b3 r : Nat) (w : World)
    (L1 : Hid (∀ w, Calls Tryz.prog 178 #[.float .f64 a, .float .f64 b] w fun e w' => e = .returned (.tuple #[.float .f64 a1, .float .f64 b1]) /\ w' = w))
    (L2 : Hid (∀ w, Calls Tryz.prog 178 #[.float .f64 b1, .float .f64 c] w fun e w' => e = .returned (.tuple #[.float .f64 b2, .float .f64 c2]) /\ w' = w))
    (L3 : Hid (∀ w, Calls Tryz.prog 178 #[.float .f64 a1, .float .f64 b2] w fun e w' => e = .returned (.tuple #[.float .f64 a3, .float .f64 b3]) /\ w' = w))
    (T : Hid (Calls Tryz.prog 179 #[.slice (some ⟨w.heap.size, 0, none⟩) 3 3] (w.alloc (.cells #[.float .f64 a3, .float .f64 b3, .float .f64 c2] 22)) fun e w' => e = .returned (.float .f64 r) /\ Hid (Below w.heap.size w w'))) :
    Calls Tryz.prog 166 #[.float .f64 a, .float .f64 b, .float .f64 c] w fun e w' => e = .returned (.float .f64 r) /\ Hid (Below w.heap.size w w') := by
  go_enter Tryz.func166, Tryz.ntmps166
  go_wp2_with fail
  refine (L1.out _).mono ?_
  rintro e w' ⟨rfl, rfl⟩
  go_wp2_with fail
  refine (L2.out _).mono ?_
  rintro e w' ⟨rfl, rfl⟩
  go_wp2_with fail
  refine (L3.out _).mono ?_
  rintro e w' ⟨rfl, rfl⟩
  go_wp2_with fail
  refine T.out.mono ?_
  rintro e w' ⟨rfl, hb⟩
  go_wp2
  go_ret
  exact ⟨rfl, hb⟩
theorem three_at (a b c : Nat) (w : World) (ha : a < 18446744073709551616) (hb : b < 18446744073709551616) (hc : c < 18446744073709551616) :
    Calls Tryz.prog 166 #[.float .f64 a, .float .f64 b, .float .f64 c] w fun e w' => e = .returned (.float .f64 (thB a b c)) /\ Hid (Below w.heap.size w w') := by
  have l1 := lo_lt ha hb
  have l2 := hi_lt ha hb
  have l3 := lo_lt l2 hc
  have l4 := hi_lt l2 hc
  refine three_go a b c _ _ _ _ _ _ _ w (fun w => lesser_at a b w ha hb) (fun w => lesser_at _ c w l2 hc) (fun w => lesser_at _ _ w l1 l3) ?_
  have l5 := lo_lt l1 l3
  have l6 := hi_lt l1 l3
  unfold thB
  generalize loB (loB a b) (loB (hiB a b) c) = u at *
  generalize hiB (loB a b) (loB (hiB a b) c) = v at *
  generalize hiB (hiB a b) c = z at *
  have hf : IsFl (w.alloc (.cells #[.float .f64 u, .float .f64 v, .float .f64 z] 22)) (some ⟨w.heap.size, 0, none⟩) 3 (fun j => if j = 0 then u else if j = 1 then v else z) := by
    refine fl_new w _ _ _ 3 (fun k hk => ?_)
    rcases (show k = 0 \/ k = 1 \/ k = 2 by omega) with rfl | rfl | rfl
    · exact ⟨l5, rfl⟩
    · exact ⟨l6, rfl⟩
    · exact ⟨l4, rfl⟩
  refine (inTurn_at _ 3 3 _ _ (Nat.le_refl _) (by decide) hf).mono ?_
  rintro e w' ⟨he, k, rfl⟩
  refine ⟨?_, below_drewN ((Below.refl _ _).alloc (Nat.le_refl _) _) k⟩
  rw [he]
  have : leftB (fun j => if j = 0 then u else if j = 1 then v else z) 3 = plB (plB (qB u) v) z := rfl
  rw [this, plB_ql]
end Go.Proofs.YtdigecacmibkpaaGreatDoor

namespace Go.Proofs.YtdigecacmibkpaaGreatDoor
open Go.RowKit Tf
attribute [local go_sem] run_bits run_from raw_feq raw_fne raw_flt raw_fgt run_neg
theorem rawBits_any (x : Nat) (w : World) :
    Calls Tryz.prog 49 #[.float .f64 x] w fun e w' => e = .returned (.int .u64 (x : Nat)) /\ w' = w := by
  go_enter Tryz.func49, Tryz.ntmps49
  go_wp2
  go_ret
  exact ⟨rfl, rfl⟩
end Go.Proofs.YtdigecacmibkpaaGreatDoor

namespace Go.Proofs.YtdigecacmibkpaaGreatDoor
open Go.RowKit Tf
attribute [local go_sem] run_bits run_from raw_feq raw_fne raw_flt raw_fgt run_neg
theorem from_at (n : Int) (r : Nat) (w : World) (h : n.toNat = r) :
    Calls Tryz.prog 48 #[.int .u64 n] w fun e w' => e = .returned (.float .f64 r) /\ w' = w := by
  subst h; exact from_any n w
theorem refMag_any (x : Nat) (w : World) :
    Calls Tryz.prog 107 #[.float .f64 x] w fun e w' => e = .returned (.int .u64 (mg x : Nat)) /\ w' = w := by
  go_enter Tryz.func107, Tryz.ntmps107
  go_wp2_with fail
  refine (rawBits_any x _).mono ?_
  rintro e w' ⟨rfl, rfl⟩
  go_wp2
  go_ret
  exact ⟨ret_int (by unfold mg; omega), rfl⟩
theorem refMag_at (x m : Nat) (w : World) (hm : Hid (mg x = m)) :
    Calls Tryz.prog 107 #[.float .f64 x] w fun e w' => e = .returned (.int .u64 (m : Nat)) /\ w' = w := by
  rw [<- hm.out]; exact refMag_any x w
theorem refBelow_any (x : Nat) (w : World) :
    Calls Tryz.prog 189 #[.float .f64 x] w fun e w' => e = .returned (.bool (ng x)) /\ w' = w := by
  go_enter Tryz.func189, Tryz.ntmps189
  go_wp2_with fail
  refine (rawBits_any x _).mono ?_
  rintro e w' ⟨rfl, rfl⟩
  go_wp2
  go_ret
  exact ⟨ret_bool (by unfold ng; exact decide_eq_decide.2 (by omega)), rfl⟩
theorem refNone_any (x : Nat) (w : World) :
    Calls Tryz.prog 105 #[.float .f64 x] w fun e w' => e = .returned (.bool (isN x)) /\ w' = w := by
  go_enter Tryz.func105, Tryz.ntmps105
  go_wp2_with fail
  refine (refMag_any x _).mono ?_
  rintro e w' ⟨rfl, rfl⟩
  go_wp2
  go_ret
  exact ⟨ret_bool (by unfold isN; exact decide_eq_decide.2 (by omega)), rfl⟩
theorem refQuiet_any (w : World) :
    Calls Tryz.prog 106 #[] w fun e w' => e = .returned (.float .f64 quiet) /\ w' = w := by
  go_enter Tryz.func106, Tryz.ntmps106
  go_wp2_with fail
  refine (from_at 9221120237041090561 9221120237041090561 _ (by decide)).mono ?_
  rintro e w' ⟨rfl, rfl⟩
  go_wp2
  go_ret
  exact ⟨rfl, rfl⟩
theorem refCanon_any (x : Nat) (w : World) :
    Calls Tryz.prog 57 #[.float .f64 x] w fun e w' => e = .returned (.float .f64 (canonB x)) /\ w' = w := by
  obtain ⟨m, hm⟩ : ∃ m, mg x = m := ⟨_, rfl⟩
  obtain ⟨r, hr⟩ : ∃ r, canonB x = r := ⟨_, rfl⟩
  have HM := hid hm
  have HR : Hid (r = if isN x then quiet else if m = 0 then 0 else x) := by show r = _; rw [<- hr, <- hm]; rfl
  rw [hr]
  clear hr hm
  cases nN : isN x
  · have h := HR.out
    rw [nN, if_neg (by decide)] at h
    by_cases c : m = 0
    · rw [if_pos c] at h
      subst h
      subst c
      clear HR
      go_enter Tryz.func57, Tryz.ntmps57
      go_wp2_with fail
      refine (refNone_any x _).mono ?_
      rintro e w' ⟨rfl, rfl⟩
      go_wp2_with fail
      refine (refMag_at x _ _ HM).mono ?_
      rintro e w' ⟨rfl, rfl⟩
      go_wp2_with fail
      refine (from_at 0 0 _ (by decide)).mono ?_
      rintro e w' ⟨rfl, rfl⟩
      go_wp2
      go_ret
      exact ⟨rfl, rfl⟩
    · rw [if_neg c] at h
      rw [h]
      have e0 : ((m : Int) == 0) = false := by simp; omega
      clear HR h
      go_enter Tryz.func57, Tryz.ntmps57
      go_wp2_with fail
      refine (refNone_any x _).mono ?_
      rintro e w' ⟨rfl, rfl⟩
      go_wp2_with fail
      refine (refMag_at x _ _ HM).mono ?_
      rintro e w' ⟨rfl, rfl⟩
      go_wp2
      go_ret
      exact ⟨rfl, rfl⟩
  · have h := HR.out
    rw [nN, if_pos rfl] at h
    rw [h]
    clear HR h
    go_enter Tryz.func57, Tryz.ntmps57
    go_wp2_with fail
    refine (refNone_any x _).mono ?_
    rintro e w' ⟨rfl, rfl⟩
    go_wp2_with fail
    refine (refQuiet_any _).mono ?_
    rintro e w' ⟨rfl, rfl⟩
    go_wp2
    go_ret
    exact ⟨rfl, rfl⟩
end Go.Proofs.YtdigecacmibkpaaGreatDoor

namespace Go.Proofs.YtdigecacmibkpaaGreatDoor
open Go.RowKit Tf
attribute [local go_sem] run_bits run_from raw_feq raw_fne raw_flt raw_fgt run_neg
theorem refOrder_any (a b : Nat) (w : World) (ha : a < 18446744073709551616) (hb : b < 18446744073709551616) :
    Calls Tryz.prog 185 #[.float .f64 a, .float .f64 b] w fun e w' => e = .returned (.int .i64 (orderB a b)) /\ w' = w := by
  obtain ⟨o, ho⟩ : ∃ o, orderB a b = o := ⟨_, rfl⟩
  rw [ho]
  by_cases c : a = b
  · have h : o = 0 := by rw [<- ho, c]; unfold orderB; rw [if_neg (by omega), if_neg (by omega)]
    have e : ((a : Int) == (b : Int)) = true := by simp; omega
    rw [h]
    clear h ho
    subst c
    go_enter Tryz.func185, Tryz.ntmps185
    go_wp2_with fail
    refine (rawBits_any _ _).mono ?_
    rintro e w' ⟨rfl, rfl⟩
    go_wp2_with fail
    refine (rawBits_any _ _).mono ?_
    rintro e w' ⟨rfl, rfl⟩
    go_wp2
    go_ret
    exact ⟨rfl, rfl⟩
  · have e : ((a : Int) == (b : Int)) = false := by simp; omega
    cases hna : ng a
    · have la := lt_of_ng hna
      cases hnb : ng b
      · have lb := lt_of_ng hnb
        by_cases c2 : a < b
        · have h : o = -1 := by rw [<- ho]; unfold orderB placeB; rw [hna, hnb]; simp only [Bool.false_eq_true, if_false]; rw [if_pos (by omega)]
          rw [h]
          clear h ho
          go_enter Tryz.func185, Tryz.ntmps185
          go_wp2_with fail
          refine (rawBits_any a _).mono ?_
          rintro e w' ⟨rfl, rfl⟩
          go_wp2_with fail
          refine (rawBits_any b _).mono ?_
          rintro e w' ⟨rfl, rfl⟩
          go_wp2_with fail
          refine (refBelow_any a _).mono ?_
          rintro e w' ⟨rfl, rfl⟩
          go_wp2_with fail
          refine (refBelow_any a _).mono ?_
          rintro e w' ⟨rfl, rfl⟩
          go_wp2_with fail
          refine (refBelow_any b _).mono ?_
          rintro e w' ⟨rfl, rfl⟩
          go_wp2
          go_ret
          exact ⟨rfl, rfl⟩
        · have h : o = 1 := by rw [<- ho]; unfold orderB placeB; rw [hna, hnb]; simp only [Bool.false_eq_true, if_false]; rw [if_neg (by omega), if_pos (by omega)]
          rw [h]
          clear h ho
          go_enter Tryz.func185, Tryz.ntmps185
          go_wp2_with fail
          refine (rawBits_any a _).mono ?_
          rintro e w' ⟨rfl, rfl⟩
          go_wp2_with fail
          refine (rawBits_any b _).mono ?_
          rintro e w' ⟨rfl, rfl⟩
          go_wp2_with fail
          refine (refBelow_any a _).mono ?_
          rintro e w' ⟨rfl, rfl⟩
          go_wp2_with fail
          refine (refBelow_any a _).mono ?_
          rintro e w' ⟨rfl, rfl⟩
          go_wp2_with fail
          refine (refBelow_any b _).mono ?_
          rintro e w' ⟨rfl, rfl⟩
          go_wp2
          go_ret
          exact ⟨rfl, rfl⟩
      · have lb := ge_of_ng hnb
        have h : o = 1 := by rw [<- ho]; unfold orderB placeB; rw [hna, hnb]; simp only [Bool.false_eq_true, if_false, if_true]; rw [if_neg (by omega), if_pos (by omega)]
        rw [h]
        clear h ho
        go_enter Tryz.func185, Tryz.ntmps185
        go_wp2_with fail
        refine (rawBits_any a _).mono ?_
        rintro e w' ⟨rfl, rfl⟩
        go_wp2_with fail
        refine (rawBits_any b _).mono ?_
        rintro e w' ⟨rfl, rfl⟩
        go_wp2_with fail
        refine (refBelow_any a _).mono ?_
        rintro e w' ⟨rfl, rfl⟩
        go_wp2_with fail
        refine (refBelow_any a _).mono ?_
        rintro e w' ⟨rfl, rfl⟩
        go_wp2_with fail
        refine (refBelow_any b _).mono ?_
        rintro e w' ⟨rfl, rfl⟩
        go_wp2
        go_ret
        exact ⟨rfl, rfl⟩
    · have la := ge_of_ng hna
      cases hnb : ng b
      · have lb := lt_of_ng hnb
        have h : o = -1 := by rw [<- ho]; unfold orderB placeB; rw [hna, hnb]; simp only [Bool.false_eq_true, if_false, if_true]; rw [if_pos (by omega)]
        rw [h]
        clear h ho
        go_enter Tryz.func185, Tryz.ntmps185
        go_wp2_with fail
        refine (rawBits_any a _).mono ?_
        rintro e w' ⟨rfl, rfl⟩
        go_wp2_with fail
        refine (rawBits_any b _).mono ?_
        rintro e w' ⟨rfl, rfl⟩
        go_wp2_with fail
        refine (refBelow_any a _).mono ?_
        rintro e w' ⟨rfl, rfl⟩
        go_wp2_with fail
        refine (refBelow_any b _).mono ?_
        rintro e w' ⟨rfl, rfl⟩
        go_wp2_with fail
        refine (refBelow_any a _).mono ?_
        rintro e w' ⟨rfl, rfl⟩
        go_wp2
        go_ret
        exact ⟨rfl, rfl⟩
      · have lb := ge_of_ng hnb
        by_cases c2 : b < a
        · have h : o = -1 := by rw [<- ho]; unfold orderB placeB; rw [hna, hnb]; simp only [if_true]; rw [if_pos (by omega)]
          rw [h]
          clear h ho
          go_enter Tryz.func185, Tryz.ntmps185
          go_wp2_with fail
          refine (rawBits_any a _).mono ?_
          rintro e w' ⟨rfl, rfl⟩
          go_wp2_with fail
          refine (rawBits_any b _).mono ?_
          rintro e w' ⟨rfl, rfl⟩
          go_wp2_with fail
          refine (refBelow_any a _).mono ?_
          rintro e w' ⟨rfl, rfl⟩
          go_wp2_with fail
          refine (refBelow_any b _).mono ?_
          rintro e w' ⟨rfl, rfl⟩
          go_wp2
          go_ret
          exact ⟨rfl, rfl⟩
        · have h : o = 1 := by rw [<- ho]; unfold orderB placeB; rw [hna, hnb]; simp only [if_true]; rw [if_neg (by omega), if_pos (by omega)]
          rw [h]
          clear h ho
          go_enter Tryz.func185, Tryz.ntmps185
          go_wp2_with fail
          refine (rawBits_any a _).mono ?_
          rintro e w' ⟨rfl, rfl⟩
          go_wp2_with fail
          refine (rawBits_any b _).mono ?_
          rintro e w' ⟨rfl, rfl⟩
          go_wp2_with fail
          refine (refBelow_any a _).mono ?_
          rintro e w' ⟨rfl, rfl⟩
          go_wp2_with fail
          refine (refBelow_any b _).mono ?_
          rintro e w' ⟨rfl, rfl⟩
          go_wp2
          go_ret
          exact ⟨rfl, rfl⟩
theorem refOrd_at (a b : Nat) (r : Int) (w : World) (ha : a < 18446744073709551616) (hb : b < 18446744073709551616) (hr : Hid (orderB a b = r)) :
    Calls Tryz.prog 185 #[.float .f64 a, .float .f64 b] w fun e w' => e = .returned (.int .i64 r) /\ w' = w := by
  rw [<- hr.out]; exact refOrder_any a b w ha hb
theorem quieted_at (x q : Nat) (w : World) (h : IsQ x q) :
    Calls Tryz.prog 175 #[.float .f64 x] w fun e w' => e = .returned (.float .f64 q) /\ w' = w := by
  obtain ⟨h1, h2⟩ := h
  have C := hid (fun w => refNone_any x w)
  have D := hid refQuiet_any
  cases hN : isN x
  · rw [hN] at C
    rw [qB_of hN] at h2
    subst h2
    clear hN h1
    go_enter Tryz.func175, Tryz.ntmps175
    go_wp2_with fail
    refine (C.out _).mono ?_
    rintro e w' ⟨rfl, rfl⟩
    go_wp2
    go_ret
    exact ⟨rfl, rfl⟩
  · rw [hN] at C
    rw [qB_N hN] at h2
    subst h2
    clear hN h1
    go_enter Tryz.func175, Tryz.ntmps175
    go_wp2_with fail
    refine (C.out _).mono ?_
    rintro e w' ⟨rfl, rfl⟩
    go_wp2_with fail
    refine (D.out _).mono ?_
    rintro e w' ⟨rfl, rfl⟩
    go_wp2
    go_ret
    exact ⟨rfl, rfl⟩
theorem ahead_at (a b : Nat) (r : Bool) (w : World) (ha : a < 18446744073709551616) (hb : b < 18446744073709551616) (hr : decide (key a < key b) = r) :
    Calls Tryz.prog 174 #[.float .f64 a, .float .f64 b] w fun e w' => e = .returned (.bool r) /\ w' = w := by
  have O2 := hid (fun w => refOrd_at a b _ w ha hb rfl)
  have hk := key_lt b a hb ha
  obtain ⟨m, hm⟩ : ∃ m, mg a = m := ⟨_, rfl⟩
  obtain ⟨n, hn⟩ : ∃ n, mg b = n := ⟨_, rfl⟩
  have A := hid (fun w => refMag_at a m w hm)
  have B := hid (fun w => refMag_at b n w hn)
  rw [hm, hn] at hk
  clear hm hn
  by_cases c1 : m < n
  · have e : r = true := by rw [<- hr]; exact decide_eq_true (hk.2 (.inl c1))
    subst e
    have c1' : (m : Int) < n := by omega
    clear hk hr c1 ha hb O2
    go_enter Tryz.func174, Tryz.ntmps174
    go_wp2_with fail
    refine (A.out _).mono ?_
    rintro e w' ⟨rfl, rfl⟩
    go_wp2_with fail
    refine (B.out _).mono ?_
    rintro e w' ⟨rfl, rfl⟩
    go_wp2
    go_ret
    exact ⟨rfl, rfl⟩
  by_cases c2 : n < m
  · have e : r = false := by rw [<- hr]; exact decide_eq_false (fun x => by have := hk.1 x; omega)
    subst e
    have c1' : (n : Int) < m := by omega
    have c3 : decide ((m : Int) < n) = false := decide_eq_false (by omega)
    have c4 : ((m : Int) == n) = false := by rw [beq_eq_false_iff_ne]; omega
    have c5 : decide (m < n) = false := decide_eq_false (by omega)
    clear hk hr c1 c2 ha hb O2
    go_enter Tryz.func174, Tryz.ntmps174
    go_wp2_with fail
    refine (A.out _).mono ?_
    rintro e w' ⟨rfl, rfl⟩
    go_wp2_with fail
    refine (B.out _).mono ?_
    rintro e w' ⟨rfl, rfl⟩
    go_wp2
    go_ret
    exact ⟨rfl, rfl⟩
  · obtain ⟨o, ho2⟩ : ∃ o, orderB a b = o := ⟨_, rfl⟩
    have e : decide (o < 0) = r := by
      rw [<- hr, <- ho2]
      refine decide_eq_decide.2 ?_
      rw [orderB_lt, hk]
      constructor
      · intro h; exact .inr ⟨by omega, h⟩
      · rintro (h | h)
        · omega
        · exact h.2
    rw [ho2] at O2
    obtain rfl : m = n := by omega
    have c3 : decide ((m : Int) < m) = false := decide_eq_false (by omega)
    clear hk hr c1 c2 ha hb ho2
    go_enter Tryz.func174, Tryz.ntmps174
    go_wp2_with fail
    refine (A.out _).mono ?_
    rintro e w' ⟨rfl, rfl⟩
    go_wp2_with fail
    refine (B.out _).mono ?_
    rintro e w' ⟨rfl, rfl⟩
    go_wp2_with fail
    refine (O2.out _).mono ?_
    rintro e w' ⟨rfl, rfl⟩
    go_wp2
    go_ret
    exact ⟨by first | rfl | (rw [<- e]; try rfl) | skip, rfl⟩
theorem rthree_000 (a b c q r s k m : Nat) (w : World)
    (A1 : Hid (∀ w, Calls Tryz.prog 174 #[.float .f64 b, .float .f64 a] w fun e w' => e = .returned (.bool false) /\ w' = w))
    (A2 : Hid (∀ w, Calls Tryz.prog 174 #[.float .f64 c, .float .f64 b] w fun e w' => e = .returned (.bool false) /\ w' = w))
    (A3 : Hid (∀ w, Calls Tryz.prog 174 #[.float .f64 b, .float .f64 a] w fun e w' => e = .returned (.bool false) /\ w' = w))
    (h1 : ∀ t, (binOp .add t (.float .f64 a) (.float .f64 b)).run Tryz.prog w = .ok (.float .f64 r) (w.drewN k))
    (h2 : ∀ t, (binOp .add t (.float .f64 r) (.float .f64 c)).run Tryz.prog (w.drewN k) = .ok (.float .f64 s) ((w.drewN k).drewN m))
    (Q : Hid (∀ w, Calls Tryz.prog 175 #[.float .f64 s] w fun e w' => e = .returned (.float .f64 q) /\ w' = w)) :
    Calls Tryz.prog 160 #[.float .f64 a, .float .f64 b, .float .f64 c] w fun e w' => e = .returned (.float .f64 q) /\ ∃ k, w' = w.drewN k := by
  go_enter Tryz.func160, Tryz.ntmps160
  go_wp2_with fail
  refine (A1.out _).mono ?_
  rintro e w' ⟨rfl, rfl⟩
  go_wp2_with fail
  refine (A2.out _).mono ?_
  rintro e w' ⟨rfl, rfl⟩
  go_wp2_with fail
  refine (A3.out _).mono ?_
  rintro e w' ⟨rfl, rfl⟩
  go_wp2_with fail
  refine (Q.out _).mono ?_
  rintro e w' ⟨rfl, rfl⟩
  go_wp2
  go_ret
  exact ⟨rfl, _, rfl⟩
theorem rthree_001 (a b c q r s k m : Nat) (w : World)
    (A1 : Hid (∀ w, Calls Tryz.prog 174 #[.float .f64 b, .float .f64 a] w fun e w' => e = .returned (.bool false) /\ w' = w))
    (A2 : Hid (∀ w, Calls Tryz.prog 174 #[.float .f64 c, .float .f64 b] w fun e w' => e = .returned (.bool false) /\ w' = w))
    (A3 : Hid (∀ w, Calls Tryz.prog 174 #[.float .f64 b, .float .f64 a] w fun e w' => e = .returned (.bool true) /\ w' = w))
    (h1 : ∀ t, (binOp .add t (.float .f64 b) (.float .f64 a)).run Tryz.prog w = .ok (.float .f64 r) (w.drewN k))
    (h2 : ∀ t, (binOp .add t (.float .f64 r) (.float .f64 c)).run Tryz.prog (w.drewN k) = .ok (.float .f64 s) ((w.drewN k).drewN m))
    (Q : Hid (∀ w, Calls Tryz.prog 175 #[.float .f64 s] w fun e w' => e = .returned (.float .f64 q) /\ w' = w)) :
    Calls Tryz.prog 160 #[.float .f64 a, .float .f64 b, .float .f64 c] w fun e w' => e = .returned (.float .f64 q) /\ ∃ k, w' = w.drewN k := by
  go_enter Tryz.func160, Tryz.ntmps160
  go_wp2_with fail
  refine (A1.out _).mono ?_
  rintro e w' ⟨rfl, rfl⟩
  go_wp2_with fail
  refine (A2.out _).mono ?_
  rintro e w' ⟨rfl, rfl⟩
  go_wp2_with fail
  refine (A3.out _).mono ?_
  rintro e w' ⟨rfl, rfl⟩
  go_wp2_with fail
  refine (Q.out _).mono ?_
  rintro e w' ⟨rfl, rfl⟩
  go_wp2
  go_ret
  exact ⟨rfl, _, rfl⟩
theorem rthree_010 (a b c q r s k m : Nat) (w : World)
    (A1 : Hid (∀ w, Calls Tryz.prog 174 #[.float .f64 b, .float .f64 a] w fun e w' => e = .returned (.bool false) /\ w' = w))
    (A2 : Hid (∀ w, Calls Tryz.prog 174 #[.float .f64 c, .float .f64 b] w fun e w' => e = .returned (.bool true) /\ w' = w))
    (A3 : Hid (∀ w, Calls Tryz.prog 174 #[.float .f64 c, .float .f64 a] w fun e w' => e = .returned (.bool false) /\ w' = w))
    (h1 : ∀ t, (binOp .add t (.float .f64 a) (.float .f64 c)).run Tryz.prog w = .ok (.float .f64 r) (w.drewN k))
    (h2 : ∀ t, (binOp .add t (.float .f64 r) (.float .f64 b)).run Tryz.prog (w.drewN k) = .ok (.float .f64 s) ((w.drewN k).drewN m))
    (Q : Hid (∀ w, Calls Tryz.prog 175 #[.float .f64 s] w fun e w' => e = .returned (.float .f64 q) /\ w' = w)) :
    Calls Tryz.prog 160 #[.float .f64 a, .float .f64 b, .float .f64 c] w fun e w' => e = .returned (.float .f64 q) /\ ∃ k, w' = w.drewN k := by
  go_enter Tryz.func160, Tryz.ntmps160
  go_wp2_with fail
  refine (A1.out _).mono ?_
  rintro e w' ⟨rfl, rfl⟩
  go_wp2_with fail
  refine (A2.out _).mono ?_
  rintro e w' ⟨rfl, rfl⟩
  go_wp2_with fail
  refine (A3.out _).mono ?_
  rintro e w' ⟨rfl, rfl⟩
  go_wp2_with fail
  refine (Q.out _).mono ?_
  rintro e w' ⟨rfl, rfl⟩
  go_wp2
  go_ret
  exact ⟨rfl, _, rfl⟩
theorem rthree_011 (a b c q r s k m : Nat) (w : World)
    (A1 : Hid (∀ w, Calls Tryz.prog 174 #[.float .f64 b, .float .f64 a] w fun e w' => e = .returned (.bool false) /\ w' = w))
    (A2 : Hid (∀ w, Calls Tryz.prog 174 #[.float .f64 c, .float .f64 b] w fun e w' => e = .returned (.bool true) /\ w' = w))
    (A3 : Hid (∀ w, Calls Tryz.prog 174 #[.float .f64 c, .float .f64 a] w fun e w' => e = .returned (.bool true) /\ w' = w))
    (h1 : ∀ t, (binOp .add t (.float .f64 c) (.float .f64 a)).run Tryz.prog w = .ok (.float .f64 r) (w.drewN k))
    (h2 : ∀ t, (binOp .add t (.float .f64 r) (.float .f64 b)).run Tryz.prog (w.drewN k) = .ok (.float .f64 s) ((w.drewN k).drewN m))
    (Q : Hid (∀ w, Calls Tryz.prog 175 #[.float .f64 s] w fun e w' => e = .returned (.float .f64 q) /\ w' = w)) :
    Calls Tryz.prog 160 #[.float .f64 a, .float .f64 b, .float .f64 c] w fun e w' => e = .returned (.float .f64 q) /\ ∃ k, w' = w.drewN k := by
  go_enter Tryz.func160, Tryz.ntmps160
  go_wp2_with fail
  refine (A1.out _).mono ?_
  rintro e w' ⟨rfl, rfl⟩
  go_wp2_with fail
  refine (A2.out _).mono ?_
  rintro e w' ⟨rfl, rfl⟩
  go_wp2_with fail
  refine (A3.out _).mono ?_
  rintro e w' ⟨rfl, rfl⟩
  go_wp2_with fail
  refine (Q.out _).mono ?_
  rintro e w' ⟨rfl, rfl⟩
  go_wp2
  go_ret
  exact ⟨rfl, _, rfl⟩
theorem rthree_100 (a b c q r s k m : Nat) (w : World)
    (A1 : Hid (∀ w, Calls Tryz.prog 174 #[.float .f64 b, .float .f64 a] w fun e w' => e = .returned (.bool true) /\ w' = w))
    (A2 : Hid (∀ w, Calls Tryz.prog 174 #[.float .f64 c, .float .f64 a] w fun e w' => e = .returned (.bool false) /\ w' = w))
    (A3 : Hid (∀ w, Calls Tryz.prog 174 #[.float .f64 a, .float .f64 b] w fun e w' => e = .returned (.bool false) /\ w' = w))
    (h1 : ∀ t, (binOp .add t (.float .f64 b) (.float .f64 a)).run Tryz.prog w = .ok (.float .f64 r) (w.drewN k))
    (h2 : ∀ t, (binOp .add t (.float .f64 r) (.float .f64 c)).run Tryz.prog (w.drewN k) = .ok (.float .f64 s) ((w.drewN k).drewN m))
    (Q : Hid (∀ w, Calls Tryz.prog 175 #[.float .f64 s] w fun e w' => e = .returned (.float .f64 q) /\ w' = w)) :
    Calls Tryz.prog 160 #[.float .f64 a, .float .f64 b, .float .f64 c] w fun e w' => e = .returned (.float .f64 q) /\ ∃ k, w' = w.drewN k := by
  go_enter Tryz.func160, Tryz.ntmps160
  go_wp2_with fail
  refine (A1.out _).mono ?_
  rintro e w' ⟨rfl, rfl⟩
  go_wp2_with fail
  refine (A2.out _).mono ?_
  rintro e w' ⟨rfl, rfl⟩
  go_wp2_with fail
  refine (A3.out _).mono ?_
  rintro e w' ⟨rfl, rfl⟩
  go_wp2_with fail
  refine (Q.out _).mono ?_
  rintro e w' ⟨rfl, rfl⟩
  go_wp2
  go_ret
  exact ⟨rfl, _, rfl⟩
theorem rthree_101 (a b c q r s k m : Nat) (w : World)
    (A1 : Hid (∀ w, Calls Tryz.prog 174 #[.float .f64 b, .float .f64 a] w fun e w' => e = .returned (.bool true) /\ w' = w))
    (A2 : Hid (∀ w, Calls Tryz.prog 174 #[.float .f64 c, .float .f64 a] w fun e w' => e = .returned (.bool false) /\ w' = w))
    (A3 : Hid (∀ w, Calls Tryz.prog 174 #[.float .f64 a, .float .f64 b] w fun e w' => e = .returned (.bool true) /\ w' = w))
    (h1 : ∀ t, (binOp .add t (.float .f64 a) (.float .f64 b)).run Tryz.prog w = .ok (.float .f64 r) (w.drewN k))
    (h2 : ∀ t, (binOp .add t (.float .f64 r) (.float .f64 c)).run Tryz.prog (w.drewN k) = .ok (.float .f64 s) ((w.drewN k).drewN m))
    (Q : Hid (∀ w, Calls Tryz.prog 175 #[.float .f64 s] w fun e w' => e = .returned (.float .f64 q) /\ w' = w)) :
    Calls Tryz.prog 160 #[.float .f64 a, .float .f64 b, .float .f64 c] w fun e w' => e = .returned (.float .f64 q) /\ ∃ k, w' = w.drewN k := by
  go_enter Tryz.func160, Tryz.ntmps160
  go_wp2_with fail
  refine (A1.out _).mono ?_
  rintro e w' ⟨rfl, rfl⟩
  go_wp2_with fail
  refine (A2.out _).mono ?_
  rintro e w' ⟨rfl, rfl⟩
  go_wp2_with fail
  refine (A3.out _).mono ?_
  rintro e w' ⟨rfl, rfl⟩
  go_wp2_with fail
  refine (Q.out _).mono ?_
  rintro e w' ⟨rfl, rfl⟩
  go_wp2
  go_ret
  exact ⟨rfl, _, rfl⟩
theorem rthree_110 (a b c q r s k m : Nat) (w : World)
    (A1 : Hid (∀ w, Calls Tryz.prog 174 #[.float .f64 b, .float .f64 a] w fun e w' => e = .returned (.bool true) /\ w' = w))
    (A2 : Hid (∀ w, Calls Tryz.prog 174 #[.float .f64 c, .float .f64 a] w fun e w' => e = .returned (.bool true) /\ w' = w))
    (A3 : Hid (∀ w, Calls Tryz.prog 174 #[.float .f64 c, .float .f64 b] w fun e w' => e = .returned (.bool false) /\ w' = w))
    (h1 : ∀ t, (binOp .add t (.float .f64 b) (.float .f64 c)).run Tryz.prog w = .ok (.float .f64 r) (w.drewN k))
    (h2 : ∀ t, (binOp .add t (.float .f64 r) (.float .f64 a)).run Tryz.prog (w.drewN k) = .ok (.float .f64 s) ((w.drewN k).drewN m))
    (Q : Hid (∀ w, Calls Tryz.prog 175 #[.float .f64 s] w fun e w' => e = .returned (.float .f64 q) /\ w' = w)) :
    Calls Tryz.prog 160 #[.float .f64 a, .float .f64 b, .float .f64 c] w fun e w' => e = .returned (.float .f64 q) /\ ∃ k, w' = w.drewN k := by
  go_enter Tryz.func160, Tryz.ntmps160
  go_wp2_with fail
  refine (A1.out _).mono ?_
  rintro e w' ⟨rfl, rfl⟩
  go_wp2_with fail
  refine (A2.out _).mono ?_
  rintro e w' ⟨rfl, rfl⟩
  go_wp2_with fail
  refine (A3.out _).mono ?_
  rintro e w' ⟨rfl, rfl⟩
  go_wp2_with fail
  refine (Q.out _).mono ?_
  rintro e w' ⟨rfl, rfl⟩
  go_wp2
  go_ret
  exact ⟨rfl, _, rfl⟩
theorem rthree_111 (a b c q r s k m : Nat) (w : World)
    (A1 : Hid (∀ w, Calls Tryz.prog 174 #[.float .f64 b, .float .f64 a] w fun e w' => e = .returned (.bool true) /\ w' = w))
    (A2 : Hid (∀ w, Calls Tryz.prog 174 #[.float .f64 c, .float .f64 a] w fun e w' => e = .returned (.bool true) /\ w' = w))
    (A3 : Hid (∀ w, Calls Tryz.prog 174 #[.float .f64 c, .float .f64 b] w fun e w' => e = .returned (.bool true) /\ w' = w))
    (h1 : ∀ t, (binOp .add t (.float .f64 c) (.float .f64 b)).run Tryz.prog w = .ok (.float .f64 r) (w.drewN k))
    (h2 : ∀ t, (binOp .add t (.float .f64 r) (.float .f64 a)).run Tryz.prog (w.drewN k) = .ok (.float .f64 s) ((w.drewN k).drewN m))
    (Q : Hid (∀ w, Calls Tryz.prog 175 #[.float .f64 s] w fun e w' => e = .returned (.float .f64 q) /\ w' = w)) :
    Calls Tryz.prog 160 #[.float .f64 a, .float .f64 b, .float .f64 c] w fun e w' => e = .returned (.float .f64 q) /\ ∃ k, w' = w.drewN k := by
  go_enter Tryz.func160, Tryz.ntmps160
  go_wp2_with fail
  refine (A1.out _).mono ?_
  rintro e w' ⟨rfl, rfl⟩
  go_wp2_with fail
  refine (A2.out _).mono ?_
  rintro e w' ⟨rfl, rfl⟩
  go_wp2_with fail
  refine (A3.out _).mono ?_
  rintro e w' ⟨rfl, rfl⟩
  go_wp2_with fail
  refine (Q.out _).mono ?_
  rintro e w' ⟨rfl, rfl⟩
  go_wp2
  go_ret
  exact ⟨rfl, _, rfl⟩
theorem rthree_at (a b c : Nat) (w : World) (ha : a < 18446744073709551616) (hb : b < 18446744073709551616) (hc : c < 18446744073709551616) :
    Calls Tryz.prog 160 #[.float .f64 a, .float .f64 b, .float .f64 c] w fun e w' => e = .returned (.float .f64 (thB a b c)) /\ ∃ k, w' = w.drewN k := by
  have fin : ∀ u v z, u < 18446744073709551616 -> v < 18446744073709551616 -> z < 18446744073709551616 -> ∃ r s k m : Nat, (∀ t, (binOp .add t (.float .f64 u) (.float .f64 v)).run Tryz.prog w = .ok (.float .f64 r) (w.drewN k)) /\ (∀ t, (binOp .add t (.float .f64 r) (.float .f64 z)).run Tryz.prog (w.drewN k) = .ok (.float .f64 s) ((w.drewN k).drewN m)) /\ Hid (∀ w, Calls Tryz.prog 175 #[.float .f64 s] w fun e w' => e = .returned (.float .f64 (plB (plB u v) z)) /\ w' = w) := by
    intro u v z hu hv hz
    obtain ⟨r, k, h1, q1⟩ := add_any (P := Tryz.prog) w u _ v _ (IsQ.self hu) (IsQ.self hv)
    obtain ⟨s, m, h2, q2⟩ := add_any (P := Tryz.prog) (w.drewN k) r _ z _ q1 (IsQ.self hz)
    rw [plB_ql, plB_qr, plB_qr] at q2
    exact ⟨r, s, k, m, h1, h2, fun w => quieted_at s _ w q2⟩
  unfold thB
  by_cases k1 : key b < key a
  · have lk1 : loB a b = b := by unfold loB; rw [if_pos k1]
    have gk1 : hiB a b = a := by unfold hiB; rw [if_pos k1]
    rw [lk1, gk1]
    by_cases k2 : key c < key a
    · have lk2 : loB a c = c := by unfold loB; rw [if_pos k2]
      have gk2 : hiB a c = a := by unfold hiB; rw [if_pos k2]
      rw [lk2, gk2]
      by_cases k3 : key c < key b
      · have lk3 : loB b c = c := by unfold loB; rw [if_pos k3]
        have gk3 : hiB b c = b := by unfold hiB; rw [if_pos k3]
        rw [lk3, gk3]
        obtain ⟨r, s, k, m, h1, h2, hq⟩ := fin c b a hc hb ha
        exact rthree_111 a b c _ r s k m w (fun w => ahead_at b a _ w hb ha (decide_eq_true k1)) (fun w => ahead_at c a _ w hc ha (decide_eq_true k2)) (fun w => ahead_at c b _ w hc hb (decide_eq_true k3)) h1 h2 hq
      · have lk3 : loB b c = b := by unfold loB; rw [if_neg k3]
        have gk3 : hiB b c = c := by unfold hiB; rw [if_neg k3]
        rw [lk3, gk3]
        obtain ⟨r, s, k, m, h1, h2, hq⟩ := fin b c a hb hc ha
        exact rthree_110 a b c _ r s k m w (fun w => ahead_at b a _ w hb ha (decide_eq_true k1)) (fun w => ahead_at c a _ w hc ha (decide_eq_true k2)) (fun w => ahead_at c b _ w hc hb (decide_eq_false k3)) h1 h2 hq
    · have lk2 : loB a c = a := by unfold loB; rw [if_neg k2]
      have gk2 : hiB a c = c := by unfold hiB; rw [if_neg k2]
      rw [lk2, gk2]
      by_cases k3 : key a < key b
      · have lk3 : loB b a = a := by unfold loB; rw [if_pos k3]
        have gk3 : hiB b a = b := by unfold hiB; rw [if_pos k3]
        rw [lk3, gk3]
        obtain ⟨r, s, k, m, h1, h2, hq⟩ := fin a b c ha hb hc
        exact rthree_101 a b c _ r s k m w (fun w => ahead_at b a _ w hb ha (decide_eq_true k1)) (fun w => ahead_at c a _ w hc ha (decide_eq_false k2)) (fun w => ahead_at a b _ w ha hb (decide_eq_true k3)) h1 h2 hq
      · have lk3 : loB b a = b := by unfold loB; rw [if_neg k3]
        have gk3 : hiB b a = a := by unfold hiB; rw [if_neg k3]
        rw [lk3, gk3]
        obtain ⟨r, s, k, m, h1, h2, hq⟩ := fin b a c hb ha hc
        exact rthree_100 a b c _ r s k m w (fun w => ahead_at b a _ w hb ha (decide_eq_true k1)) (fun w => ahead_at c a _ w hc ha (decide_eq_false k2)) (fun w => ahead_at a b _ w ha hb (decide_eq_false k3)) h1 h2 hq
  · have lk1 : loB a b = a := by unfold loB; rw [if_neg k1]
    have gk1 : hiB a b = b := by unfold hiB; rw [if_neg k1]
    rw [lk1, gk1]
    by_cases k2 : key c < key b
    · have lk2 : loB b c = c := by unfold loB; rw [if_pos k2]
      have gk2 : hiB b c = b := by unfold hiB; rw [if_pos k2]
      rw [lk2, gk2]
      by_cases k3 : key c < key a
      · have lk3 : loB a c = c := by unfold loB; rw [if_pos k3]
        have gk3 : hiB a c = a := by unfold hiB; rw [if_pos k3]
        rw [lk3, gk3]
        obtain ⟨r, s, k, m, h1, h2, hq⟩ := fin c a b hc ha hb
        exact rthree_011 a b c _ r s k m w (fun w => ahead_at b a _ w hb ha (decide_eq_false k1)) (fun w => ahead_at c b _ w hc hb (decide_eq_true k2)) (fun w => ahead_at c a _ w hc ha (decide_eq_true k3)) h1 h2 hq
      · have lk3 : loB a c = a := by unfold loB; rw [if_neg k3]
        have gk3 : hiB a c = c := by unfold hiB; rw [if_neg k3]
        rw [lk3, gk3]
        obtain ⟨r, s, k, m, h1, h2, hq⟩ := fin a c b ha hc hb
        exact rthree_010 a b c _ r s k m w (fun w => ahead_at b a _ w hb ha (decide_eq_false k1)) (fun w => ahead_at c b _ w hc hb (decide_eq_true k2)) (fun w => ahead_at c a _ w hc ha (decide_eq_false k3)) h1 h2 hq
    · have lk2 : loB b c = b := by unfold loB; rw [if_neg k2]
      have gk2 : hiB b c = c := by unfold hiB; rw [if_neg k2]
      rw [lk2, gk2]
      by_cases k3 : key b < key a
      · have lk3 : loB a b = b := by unfold loB; rw [if_pos k3]
        have gk3 : hiB a b = a := by unfold hiB; rw [if_pos k3]
        rw [lk3, gk3]
        obtain ⟨r, s, k, m, h1, h2, hq⟩ := fin b a c hb ha hc
        exact rthree_001 a b c _ r s k m w (fun w => ahead_at b a _ w hb ha (decide_eq_false k1)) (fun w => ahead_at c b _ w hc hb (decide_eq_false k2)) (fun w => ahead_at b a _ w hb ha (decide_eq_true k3)) h1 h2 hq
      · have lk3 : loB a b = a := by unfold loB; rw [if_neg k3]
        have gk3 : hiB a b = b := by unfold hiB; rw [if_neg k3]
        rw [lk3, gk3]
        obtain ⟨r, s, k, m, h1, h2, hq⟩ := fin a b c ha hb hc
        exact rthree_000 a b c _ r s k m w (fun w => ahead_at b a _ w hb ha (decide_eq_false k1)) (fun w => ahead_at c b _ w hc hb (decide_eq_false k2)) (fun w => ahead_at b a _ w hb ha (decide_eq_false k3)) h1 h2 hq
end Go.Proofs.YtdigecacmibkpaaGreatDoor

namespace Go.Proofs.YtdigecacmibkpaaGreatDoor
open Go.RowKit Tf
theorem run_store_float {P : Program} {w : World} {a : Addr} {m : Mode} (k : FloatKind) (x : Nat) : (store a (.float k x) m).run P w = stored P w a (.float k x) m := run_store P w a _ m rfl
attribute [local go_sem] run_bits run_from raw_feq raw_fne raw_flt raw_fgt run_neg run_store_float
theorem mul_ql (a b : Nat) : Ieee.double.mul (qB a) b = Ieee.double.mul a b := by
  cases h : isN a
  · rw [qB_of h]
  · rw [mul_nan a b (.inl h), mul_nan _ _ (.inl (by rw [qB_isN]; exact h))]
theorem mul_qr (a b : Nat) : Ieee.double.mul a (qB b) = Ieee.double.mul a b := by rw [Go.Proofs.YtdigecacmibkpaaGreatDoor.mul_comm, mul_ql, Go.Proofs.YtdigecacmibkpaaGreatDoor.mul_comm]
theorem mul_any {P : Program} (w : World) (s q x y : Nat) (h : IsQ s q) (k : IsQ x y) : ∃ r n, (∀ t, (binOp .mul t (.float .f64 s) (.float .f64 x)).run P w = .ok (.float .f64 r) (w.drewN n)) /\ IsQ r (mlB q y) := by
  have e0 : mlB q y = mlB s x := by unfold mlB; rw [<- h.2, <- k.2, mul_ql, mul_qr]
  rw [e0]
  cases e : Ieee.double.mul s x with
  | none => exact ⟨nanOf w s x, 1, fun t => run_nan_mul w t s x e, nanOf_lt _ _ _, by rw [mlB_none e]; exact qB_N (isN_nanOf _ _ _)⟩
  | some r => exact ⟨r, 0, fun t => run_float_arith w .mul t .f64 s x r e, (mul_fact e h.1 k.1).1, by rw [mlB_some e]; exact qB_of (mul_fact e h.1 k.1).2⟩
theorem addB_q {a b c d : Nat} (hb : b < 18446744073709551616) (hd : d < 18446744073709551616) (h : qB a = qB c) (k : qB b = qB d) : addB a (negB b) = addB c (negB d) := by
  cases h1 : isN a
  · have h2 : isN c = false := by rw [<- qB_isN, <- h, qB_isN]; exact h1
    rw [qB_of h1, qB_of h2] at h
    subst h
    cases h3 : isN b
    · have h4 : isN d = false := by rw [<- qB_isN, <- k, qB_isN]; exact h3
      rw [qB_of h3, qB_of h4] at k
      rw [k]
    · have h4 : isN d = true := by rw [<- qB_isN, <- k, qB_isN]; exact h3
      rw [addB_none (add_nan _ _ (.inr (by rw [negB_isN hb]; exact h3))), addB_none (add_nan _ _ (.inr (by rw [negB_isN hd]; exact h4)))]
  · have h2 : isN c = true := by rw [<- qB_isN, <- h, qB_isN]; exact h1
    rw [addB_none (add_nan _ _ (.inl h1)), addB_none (add_nan _ _ (.inl h2))]
def IsC (s q : Nat) : Prop := s < 18446744073709551616 /\ canonB s = q
theorem sub_any {P : Program} (w : World) (s q x y : Nat) (h : IsQ s q) (k : IsQ x y) : ∃ r n, (∀ t, (binOp .sub t (.float .f64 s) (.float .f64 x)).run P w = .ok (.float .f64 r) (w.drewN n)) /\ IsC r (sbB q y) := by
  have e0 : sbB q y = addB s (negB x) := addB_q k.lt k.1 (by rw [<- h.2, qB_qB]) (by rw [<- k.2, qB_qB])
  rw [e0]
  have ea := sub_add s x k.1
  cases e : Ieee.double.sub s x with
  | none =>
    refine ⟨nanOf w s x, 1, fun t => run_nan_sub w t s x e, nanOf_lt _ _ _, ?_⟩
    rw [addB_none (by rw [<- ea]; exact e)]
    unfold canonB; rw [if_pos (isN_nanOf _ _ _)]
  | some r =>
    rw [e] at ea
    exact ⟨r, 0, fun t => run_float_arith w .sub t .f64 s x r e, (add_facts h.1 (negB_lt' k.1) ea.symm).1, by rw [addB_some ea.symm]⟩
theorem run_nan_div {P : Program} (w : World) (t : TypeId) (x y : Nat) (h : Ieee.double.div x y = none) :
    (binOp .quo t (.float .f64 x) (.float .f64 y)).run P w = .ok (.float .f64 (nanOf w x y)) w.drew := by
  have h' : FloatKind.f64.format.div x y = none := h
  simp [binOp, Op.floatArith, h', nanOf, Question.forced]
theorem div_lt {x y r : Nat} (h : Ieee.double.div x y = some r) : r < 18446744073709551616 := Ieee.Format.div_lt Ieee.double h
theorem div_any {P : Program} (w : World) (s x : Nat) : ∃ r n, (∀ t, (binOp .quo t (.float .f64 s) (.float .f64 x)).run P w = .ok (.float .f64 r) (w.drewN n)) /\ IsC r (dvB s x) := by
  cases e : Ieee.double.div s x with
  | none => exact ⟨nanOf w s x, 1, fun t => run_nan_div w t s x e, nanOf_lt _ _ _, by rw [dvB_none e]; unfold canonB; rw [if_pos (isN_nanOf _ _ _)]⟩
  | some r => exact ⟨r, 0, fun t => run_float_arith w .quo t .f64 s x r e, div_lt e, by rw [dvB_some e]⟩
theorem sqrt_lt {x r : Nat} (h : Ieee.double.sqrt x = some r) : r < 18446744073709551616 := Ieee.Format.sqrt_lt Ieee.double h
theorem run_sqrt (x : Nat) (w : World) : ∃ r n, (callFunc 177 #[.float .f64 x]).run Tryz.prog w = .ok (.value (.float .f64 r)) (w.drewN n) /\ IsC r (rtB x) := by
  have e0 : Extern.MathSqrt.sqrt #[.float .f64 x] = (match FloatKind.f64.format.sqrt x with | some r => pure (.float .f64 r) | none => do pure (.float .f64 (← choose (.nanBits .f64 x x)))) := rfl
  rw [run_callFunc_extern (e := Extern.MathSqrt.sqrt) Tryz.func177 (by kernel_rfl) (by kernel_rfl) (by kernel_rfl) (by kernel_rfl), e0]
  cases e : Ieee.double.sqrt x with
  | none =>
    refine ⟨nanOf w x x, 1, ?_, nanOf_lt _ _ _, by rw [rtB_none e]; unfold canonB; rw [if_pos (isN_nanOf _ _ _)]⟩
    have h' : FloatKind.f64.format.sqrt x = none := e
    rw [h']
    simp [nanOf, Question.forced]
    rfl
  | some r =>
    refine ⟨r, 0, ?_, sqrt_lt e, by rw [rtB_some e]⟩
    have h' : FloatKind.f64.format.sqrt x = some r := e
    rw [h']
    simp
    rfl
theorem square_at (x : Nat) (w : World) (hx : x < 18446744073709551616) :
    Calls Tryz.prog 167 #[.float .f64 x] w fun e w' => ∃ r n, e = .returned (.float .f64 r) /\ w' = w.drewN n /\ IsQ r (sqB x) := by
  obtain ⟨r, n, hr, hq⟩ := mul_any (P := Tryz.prog) w x _ x _ (IsQ.self hx) (IsQ.self hx)
  have HQ : Hid (IsQ r (sqB x)) := by unfold sqB mlB; rw [<- mul_ql, <- mul_qr]; exact hq
  clear hq hx
  go_enter Tryz.func167, Tryz.ntmps167
  go_wp2
  go_ret
  exact ⟨r, n, rfl, rfl, HQ.out⟩
theorem area_at (x y u v : Nat) (w : World) (hx : x < 18446744073709551616) (hy : y < 18446744073709551616) (hu : u < 18446744073709551616) (hv : v < 18446744073709551616) :
    Calls Tryz.prog 169 #[.float .f64 x, .float .f64 y, .float .f64 u, .float .f64 v] w fun e w' => ∃ r n, e = .returned (.float .f64 r) /\ w' = w.drewN n /\ IsC r (sbB (mlB x v) (mlB y u)) := by
  obtain ⟨p, n, hp, pq⟩ := mul_any (P := Tryz.prog) w x _ v _ (IsQ.self hx) (IsQ.self hv)
  obtain ⟨q, m, hq, qq⟩ := mul_any (P := Tryz.prog) (w.drewN n) y _ u _ (IsQ.self hy) (IsQ.self hu)
  obtain ⟨r, l, hr, rr⟩ := sub_any (P := Tryz.prog) (w.drewN (n + m)) p _ q _ pq qq
  rw [World.drewN_drewN] at hq hr
  have HQ : Hid (IsC r (sbB (mlB x v) (mlB y u))) := by
    have e1 : mlB x v = mlB (qB x) (qB v) := by unfold mlB; rw [mul_ql, mul_qr]
    have e2 : mlB y u = mlB (qB y) (qB u) := by unfold mlB; rw [mul_ql, mul_qr]
    rw [e1, e2]; exact rr
  clear pq qq rr hx hy hu hv
  go_enter Tryz.func169, Tryz.ntmps169
  go_wp2
  go_ret
  exact ⟨r, _, rfl, rfl, HQ.out⟩
theorem sqrt_at (x : Nat) (w : World) :
    Calls Tryz.prog 165 #[.float .f64 x] w fun e w' => ∃ r n, e = .returned (.float .f64 r) /\ w' = w.drewN n /\ IsC r (rtB x) := by
  obtain ⟨r, n, hr, hq⟩ := run_sqrt x w
  have HQ := hid hq
  clear hq
  go_enter Tryz.func165, Tryz.ntmps165
  go_wp2
  go_ret
  exact ⟨r, n, rfl, rfl, HQ.out⟩
theorem vcanon_at (x y z a b c : Nat) (w : World) (hx : IsC x a) (hy : IsC y b) (hz : IsC z c) :
    Calls Tryz.prog 168 #[.float .f64 x, .float .f64 y, .float .f64 z] w fun e w' => e = .returned (.agg #[.float .f64 a, .float .f64 b, .float .f64 c]) /\ Below w.heap.size w w' := by
  obtain ⟨x1, x2⟩ := hx
  obtain ⟨y1, y2⟩ := hy
  obtain ⟨z1, z2⟩ := hz
  have CX : Hid (∀ w, Calls Tryz.prog 52 #[.float .f64 x] w fun e w' => e = .returned (.float .f64 a) /\ w' = w) := fun w => by rw [<- x2]; exact canon_any x w x1
  have CY : Hid (∀ w, Calls Tryz.prog 52 #[.float .f64 y] w fun e w' => e = .returned (.float .f64 b) /\ w' = w) := fun w => by rw [<- y2]; exact canon_any y w y1
  have CZ : Hid (∀ w, Calls Tryz.prog 52 #[.float .f64 z] w fun e w' => e = .returned (.float .f64 c) /\ w' = w) := fun w => by rw [<- z2]; exact canon_any z w z1
  have A0 := hid (bl1 w (.cells #[.float .f64 0, .float .f64 0, .float .f64 0] 157))
  have r0 := heap_alloc_new w (.cells #[.float .f64 0, .float .f64 0, .float .f64 0] 157)
  have R0 := hid r0
  clear x1 x2 y1 y2 z1 z2 r0
  go_enter Tryz.func168, Tryz.ntmps168
  go_wp2_with fail
  refine (CX.out _).mono ?_
  rintro e W ⟨rfl, hW⟩
  have r1 : W.heap[w.heap.size]? = some (.cells #[.float .f64 0, .float .f64 0, .float .f64 0] 157) := by rw [hW]; exact R0.out
  have A1 : Hid (Ab w W) := by rw [hW]; exact A0.out
  obtain ⟨⟨o0, o1, o2⟩, o3, o4, o5⟩ := rowfacts r1
  have R1 := hid r1
  clear hW r1 A0 R0
  go_wp2_with fail
  refine (CY.out _).mono ?_
  rintro e W ⟨rfl, rfl⟩
  go_wp2_with fail
  refine (CZ.out _).mono ?_
  rintro e W ⟨rfl, rfl⟩
  go_wp2
  refine bodyPost_ret ?_ rfl ⟨rfl, ?_⟩
  · exact results_cell_row Tryz.results168 _ _ w.heap.size _ _ (0, 0) _ rfl (row3 R1.out) Tryz.underlying157 rfl (by kernel_rfl)
  · exact ((Ab.setk A1.out (Nat.le_refl _) _).setk (Nat.le_refl _) _).setk (Nat.le_refl _) _
end Go.Proofs.YtdigecacmibkpaaGreatDoor
