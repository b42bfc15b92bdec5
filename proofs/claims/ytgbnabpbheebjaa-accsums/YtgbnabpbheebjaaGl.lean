/-
  Merge: walks over the program.
-/
import Derived.Test.YtgbnabpbheebjaaGk
namespace Go.Proofs.Ytgbnabpbheebjaa
open Go.RowKit Tf
attribute [local go_sem] run_bits run_from raw_feq raw_fne raw_flt raw_fgt run_neg

set_option maxHeartbeats 2000000 in
theorem merge_go (g h : Nat) (_hne : g ≠ h) (c d n m : Int) (p q r p' q' r' : Bool) (w : World) (Q : World → Prop) (h0 : w.cell? ⟨g, 0, none⟩ = some (.int .i64 c)) (h1 : w.cell? ⟨h, 0, none⟩ = some (.int .i64 d)) (c0 : 0 ≤ c) (c1 : c ≤ 1048576) (d0 : 0 ≤ d) (d1 : d ≤ 1048576) (hc : c + d ≤ 1048576)
    (h2 : w.cell? ⟨g, 1, none⟩ = some (.int .i64 n)) (h3 : w.cell? ⟨h, 1, none⟩ = some (.int .i64 m)) (n0 : 0 ≤ n) (n1 : n ≤ 1048576) (m0 : 0 ≤ m) (m1 : m ≤ 1048576) (hn : n + m ≤ 1048576)
    (f0 : w.frozen? ⟨g, 0, none⟩ = false) (f1 : w.frozen? ⟨g, 1, none⟩ = false) (R : World → Prop)
    (F : Hid (Calls Try.prog 33 #[.pointer (some ⟨g, 2, none⟩), .slice (some ⟨h, 2, none⟩) 66 66, .int .i64 0, .bool false] ((w.setCell ⟨g, 0, none⟩ (.int .i64 (c + d))).setCell ⟨g, 1, none⟩ (.int .i64 (n + m))).drew.drew.drew.drew fun e w' => e = .returned (.tuple #[]) ∧ R w'))
    (RC : Hid (∀ w', R w' → (w'.cell? ⟨g, 68, none⟩ = some (.bool p) ∧ w'.cell? ⟨h, 68, none⟩ = some (.bool p') ∧ w'.cell? ⟨g, 69, none⟩ = some (.bool q) ∧ w'.cell? ⟨h, 69, none⟩ = some (.bool q') ∧ w'.cell? ⟨g, 70, none⟩ = some (.bool r) ∧ w'.cell? ⟨h, 70, none⟩ = some (.bool r')) ∧ w'.frozen? ⟨g, 68, none⟩ = false ∧ w'.frozen? ⟨g, 69, none⟩ = false ∧ w'.frozen? ⟨g, 70, none⟩ = false))
    (HQ : Hid (∀ w', R w' → Q (((w'.setCell ⟨g, 68, none⟩ (.bool (p || p'))).setCell ⟨g, 69, none⟩ (.bool (q || q'))).setCell ⟨g, 70, none⟩ (.bool (r || r'))))) :
    Calls Try.prog 16 #[.pointer (some ⟨g, 0, none⟩), .pointer (some ⟨h, 0, none⟩)] w fun e w' => e = .returned (.int .i64 0) ∧ Q w' := by
  go_enter Try.func16, Try.ntmps16
  go_wp2
  go_region
  go_wp2
  go_region
  go_wp2
  go_region
  go_wp2
  go_region_with ((go_at_call 33; refine F.out.mono ?_; rintro e w' ⟨rfl, hR⟩))
  obtain ⟨⟨k1, k2, k3, k4, k5, k6⟩, k7, k8, k9⟩ := RC.out w' hR
  have HQ' := hid (HQ.out w' hR)
  clear h0 h1 h2 h3 f0 f1 F RC HQ hR
  cases p <;> cases q <;> cases r <;> (go_wp2; go_ret; exact ⟨rfl, HQ'.out⟩)
set_option maxHeartbeats 2000000 in
theorem merge_self (g : Nat) (c n : Int) (p q r : Bool) (w : World) (Q : World → Prop) (h0 : w.cell? ⟨g, 0, none⟩ = some (.int .i64 c)) (c0 : 0 ≤ c) (c1 : c ≤ 1048576) (hc : c + c ≤ 1048576)
    (h2 : w.cell? ⟨g, 1, none⟩ = some (.int .i64 n)) (n0 : 0 ≤ n) (n1 : n ≤ 1048576)
    (f0 : w.frozen? ⟨g, 0, none⟩ = false) (f1 : w.frozen? ⟨g, 1, none⟩ = false) (R : World → Prop)
    (F : Hid (Calls Try.prog 33 #[.pointer (some ⟨g, 2, none⟩), .slice (some ⟨g, 2, none⟩) 66 66, .int .i64 0, .bool false] ((w.setCell ⟨g, 0, none⟩ (.int .i64 (c + c))).setCell ⟨g, 1, none⟩ (.int .i64 (n + n))).drew.drew.drew.drew fun e w' => e = .returned (.tuple #[]) ∧ R w'))
    (RC : Hid (∀ w', R w' → (w'.cell? ⟨g, 68, none⟩ = some (.bool p) ∧ w'.cell? ⟨g, 69, none⟩ = some (.bool q) ∧ w'.cell? ⟨g, 70, none⟩ = some (.bool r)) ∧ w'.frozen? ⟨g, 68, none⟩ = false ∧ w'.frozen? ⟨g, 69, none⟩ = false ∧ w'.frozen? ⟨g, 70, none⟩ = false))
    (HQ : Hid (∀ w', R w' → Q (((w'.setCell ⟨g, 68, none⟩ (.bool p)).setCell ⟨g, 69, none⟩ (.bool q)).setCell ⟨g, 70, none⟩ (.bool r)))) :
    Calls Try.prog 16 #[.pointer (some ⟨g, 0, none⟩), .pointer (some ⟨g, 0, none⟩)] w fun e w' => e = .returned (.int .i64 0) ∧ Q w' := by
  go_enter Try.func16, Try.ntmps16
  go_wp2
  go_region
  go_wp2
  go_region
  go_wp2
  go_region
  go_wp2
  go_region_with ((go_at_call 33; refine F.out.mono ?_; rintro e w' ⟨rfl, hR⟩))
  obtain ⟨⟨k1, k3, k5⟩, k7, k8, k9⟩ := RC.out w' hR
  have HQ' := hid (HQ.out w' hR)
  clear h0 h2 f0 f1 F RC HQ hR
  cases p <;> cases q <;> cases r <;> (go_wp2; go_ret; exact ⟨rfl, HQ'.out⟩)

end Go.Proofs.Ytgbnabpbheebjaa
