/-
  Some of the texts of this proof, one behind the other.
-/
import Derived.Test.YtdigecacmibkpaaGreatDoorSq19
set_option maxRecDepth 100000
set_option maxHeartbeats 400000000
namespace Go.Proofs.YtdigecacmibkpaaGreatDoor
open Go.RowKit Tf
attribute [local go_sem] run_bits run_from raw_feq raw_fne raw_flt raw_fgt run_neg
theorem rfill_no11 (b : Nat) (a : Int) (l : Nat) (w : World) (h : fgt l b = false \/ a < 1) :
    Calls Tryz.prog 62 #[.float .f64 b, .int .i64 a, .float .f64 l] w fun e w' => e = .returned (.int .i64 0) /\ w' = w := by
  cases c : fgt l b
  · clear h
    go_enter Tryz.func62, Tryz.ntmps62
    go_wp2
    go_ret
    exact ⟨rfl, rfl⟩
  · have d : a < 1 := by simpa [c] using h
    clear h
    go_enter Tryz.func62, Tryz.ntmps62
    go_wp2
    go_ret
    exact ⟨rfl, rfl⟩
theorem rfill_yes11 (b : Nat) (a : Int) (l : Nat) (w : World) (hb : b < 18446744073709551616) (hl : l < 18446744073709551616) (h : fgt l b = true) (a1 : 1 <= a) (a2 : a <= 9223372036854775807) :
    Calls Tryz.prog 62 #[.float .f64 b, .int .i64 a, .float .f64 l] w fun e w' => e = .returned (.int .i64 (fil b a l)) /\ ∃ k, w' = w.drewN k := by
  obtain ⟨n1, n2, k0⟩ := (fgt_iff hl hb).1 h
  have hi := hi_in hl hb n1 n2 k0
  have hp := fil_prod hl hb h a1 a2
  rw [fil_yes h a1]
  obtain ⟨r, k, hr, hc⟩ := sub_any (P := Tryz.prog) w l (qB l) b (qB b) (IsQ.self hl) (IsQ.self hb)
  have q1 : qB l = l := by unfold qB; rw [if_neg (by rw [n1]; exact Bool.false_ne_true)]
  have q2 : qB b = b := by unfold qB; rw [if_neg (by rw [n2]; exact Bool.false_ne_true)]
  rw [q1, q2] at hc
  obtain rfl := isC_eq hc hi.1 hi.2
  have F := hid (Ref2.refFromInt_at a _ (w.drewN k) (by omega) a2 rfl)
  rw [show rn false (a * one) = fw a from rfl] at F
  have fa := fw_in a1 a2
  obtain ⟨p, m, hm, hq⟩ := mul_any (P := Tryz.prog) (w.drewN k) (sbB l b) (qB (sbB l b)) (fw a) (qB (fw a)) (IsQ.self (by omega)) (IsQ.self (by omega))
  have q3 : qB (sbB l b) = sbB l b := by unfold qB; rw [if_neg (by rw [isN_false.2 (by have := mg_nn11 hi.2; omega)]; exact Bool.false_ne_true)]
  have q4 : qB (fw a) = fw a := by unfold qB; rw [if_neg (by rw [isN_false.2 (by have := mg_nn11 (show fw a <= 9218868437227405312 by omega); omega)]; exact Bool.false_ne_true)]
  rw [q3, q4] at hq
  obtain rfl := isQ_eq hq hp
  have C := hid (Ref2.refClamp_at (mlB (sbB l b) (fw a)) 4503599627370496 _ (w.drewN (k + m)) (by omega) (by decide) rfl)
  generalize clampB (mlB (sbB l b) (fw a)) 4503599627370496 = z at *
  clear hq hc q1 q2 q3 q4 hp hi fa
  generalize mlB (sbB l b) (fw a) = y at *
  generalize sbB l b = d at *
  generalize fw a = f at *
  go_enter Tryz.func62, Tryz.ntmps62
  go_wp2_with fail
  refine F.out.mono ?_
  rintro e w' ⟨rfl, rfl⟩
  go_wp2_with fail
  refine C.out.mono ?_
  rintro e w' ⟨rfl, rfl⟩
  go_wp2
  go_ret
  exact ⟨rfl, k + m, rfl⟩
theorem rfill_at11 (b : Nat) (a : Int) (l : Nat) (w : World) (hb : b < 18446744073709551616) (hl : l < 18446744073709551616) (a2 : a <= 9223372036854775807) :
    Calls Tryz.prog 62 #[.float .f64 b, .int .i64 a, .float .f64 l] w fun e w' => e = .returned (.int .i64 (fil b a l)) /\ ∃ k, w' = w.drewN k := by
  by_cases c : fgt l b = false \/ a < 1
  · rw [fil_no c]
    exact (rfill_no11 b a l w c).mono fun _ _ h => ⟨h.1, 0, h.2⟩
  · have h : fgt l b = true := by cases k : fgt l b; exact absurd (.inl k) c; rfl
    exact rfill_yes11 b a l w hb hl h (by omega) a2
end Go.Proofs.YtdigecacmibkpaaGreatDoor
