/-
  That the program lives (layer 14): the walk, of whatever program keeps to what is to be answered.
-/
import Derived.Test.YtpbidcjfnkmddaaUg
namespace Go.Proofs.Ytpbidcjfnkmddaa
open Go.RowKit Go.Deep
namespace Sh
def aw0 (i : Nat) : Int := if i = 0 then 10 else if i = 1 then 5 else 0
theorem aw_cut : cutL 10 3 aw0 = [6, 3, 0] := by decide
theorem aw_good : good 10 3 aw0 := ⟨by decide, fun i _ => by unfold aw0; split <;> (try split) <;> omega, by decide⟩
theorem aw_in (w : World) (a b c : Int) (ha : W64 a) (hb : W64 b) (hc : W64 c) (f : Nat → Int) (e0 : f 0 = a) (e1 : f 1 = b) (e2 : f 2 = c) : IsI (w.alloc (.cells #[.int .i64 a, .int .i64 b, .int .i64 c] 2)) (some ⟨w.heap.size, 0, none⟩) 3 f := fun k hk => by
  have h := heap_alloc_new w (.cells #[.int .i64 a, .int .i64 b, .int .i64 c] 2)
  have c0 : ∀ k (v : Value), (#[.int .i64 a, .int .i64 b, .int .i64 c] : Array Value)[k]? = some v → (w.alloc (.cells #[.int .i64 a, .int .i64 b, .int .i64 c] 2)).cell? ⟨w.heap.size, 0 + k, none⟩ = some v := fun k v hv => by rw [Nat.zero_add]; exact (cell_of_row _ _ k _ _ _ h).trans hv
  match k, hk with
  | 0, _ => exact ⟨by rw [e0]; exact ha, _, 0, rfl, lt_of_block h, by rw [e0]; exact c0 0 _ rfl⟩
  | 1, _ => exact ⟨by rw [e1]; exact hb, _, 0, rfl, lt_of_block h, by rw [e1]; exact c0 1 _ rfl⟩
  | 2, _ => exact ⟨by rw [e2]; exact hc, _, 0, rfl, lt_of_block h, by rw [e2]; exact c0 2 _ rfl⟩
theorem own_in {B : Nat} {v : Value} {l : List Int} {w : World} (h : Own B v l w) (hl : ∀ x ∈ l, W64 x) : ∃ a0 cap, v = .slice a0 l.length cap ∧ IsI w a0 l.length (fun j => l.getD j 0) := Own.in h hl
set_option maxRecDepth 100000 in
set_option maxHeartbeats 8000000 in
theorem awake_at (PC : PartC) (CC : CutC) (w : World) :
    Calls Try.prog 6 #[] w fun e w' => e = .returned (.bool true) ∧ Below w.heap.size w w' := by
  have C1 := hid ((CC 10 (some ⟨w.heap.size, 0, none⟩) 3 3 aw0 ((w).alloc (.cells #[.int .i64 10, .int .i64 5, .int .i64 0] 2)) (by unfold W64; omega) (by omega) (aw_in w 10 5 0 (by unfold W64; omega) (by unfold W64; omega) (by unfold W64; omega) aw0 rfl rfl rfl)).1 aw_good)
  rw [aw_cut] at C1
  have A0 : Hid (Ab w ((w).alloc (.cells #[.int .i64 10, .int .i64 5, .int .i64 0] 2))) := bl1 _ _
  have P1 : Hid (∀ v, Calls Try.prog 7 #[.int .i64 7, .int .i64 3, .int .i64 2] v fun e w' => e = .returned (.int .i64 10) ∧ Below v.heap.size v w') := fun v => PC 7 3 2 v (by unfold W64; omega) (by unfold W64; omega) (by unfold W64; omega)
  have P2 : Hid (∀ v, Calls Try.prog 7 #[.int .i64 4611686018427387904, .int .i64 4611686018427387904, .int .i64 4611686018427387904] v fun e w' => e = .returned (.int .i64 4611686018427387904) ∧ Below v.heap.size v w') := fun v => by
    have h := PC 4611686018427387904 4611686018427387904 4611686018427387904 v (by unfold W64; omega) (by unfold W64; omega) (by unfold W64; omega)
    rwa [show part 4611686018427387904 4611686018427387904 4611686018427387904 = 4611686018427387904 by decide] at h
  clear PC CC
  go_enter Try.func6, Try.ntmps6
  go_wp2_with fail
  refine C1.out.mono ?_
  rintro e9 v1 ⟨v, rfl, b1, o1⟩
  obtain ⟨a0, cap, rfl, i1⟩ := own_in o1 (fun x hx => by simp at hx; unfold W64; omega)
  have A1 : Hid (Ab w v1) := A0.out.trans b1
  have I1 := hid i1
  clear b1 o1 i1 C1
  go_wp2_with fail
  refine (P1.out _).mono ?_
  rintro e9 v2 ⟨rfl, b2⟩
  have A2 : Hid (Ab v1 v2) := b2
  clear b2
  go_wp2_with fail
  refine (P2.out _).mono ?_
  rintro e9 v3 ⟨rfl, b3⟩
  have A3 : Hid (Ab v1 ((v3).alloc (.cells #[.int .i64 6, .int .i64 3, .int .i64 0] 2))) := (A2.out.trans b3).alloc _
  have I3 : Hid (IsI ((v3).alloc (.cells #[.int .i64 6, .int .i64 3, .int .i64 0] 2)) (some ⟨v3.heap.size, 0, none⟩) 3 (fun j => [6, 3, 0].getD j 0)) := aw_in v3 6 3 0 (by unfold W64; omega) (by unfold W64; omega) (by unfold W64; omega) _ rfl rfl rfl
  clear b3
  have S3 := hid (same_at a0 (some ⟨v3.heap.size, 0, none⟩) 3 cap 3 _ ((v3).alloc (.cells #[.int .i64 6, .int .i64 3, .int .i64 0] 2)) (by omega) (I1.out.below A3.out) I3.out)
  go_wp2_with fail
  refine S3.out.mono ?_
  rintro e9 v4 ⟨rfl, b4⟩
  have A4 : Hid (Ab w v4) := A1.out.trans (A3.out.trans b4)
  clear b4
  go_wp2
  go_ret
  exact ⟨rfl, A4.out⟩
end Sh
end Go.Proofs.Ytpbidcjfnkmddaa
