/-
  That the program lives (layer 14): the walk, of whatever program keeps to what is to be answered.
-/
import Derived.Test.YthcgbjkbnbeobaaUg
namespace Go.Proofs.Ythcgbjkbnbeobaa
open Go.RowKit Go.Deep
namespace Sh
def aw0 (i : Nat) : Int := if i = 0 then 10 else if i = 1 then 5 else 0
theorem aw_cut : cutL 10 3 aw0 = [6, 3, 0] := by decide
theorem aw_good : good 10 3 aw0 := ⟨by decide, fun i _ => by unfold aw0; split <;> (try split) <;> omega, by decide⟩
theorem aw_in (w : World) (a b c : Int) (ha : W64 a) (hb : W64 b) (hc : W64 c) (f : Nat → Int) (e0 : f 0 = a) (e1 : f 1 = b) (e2 : f 2 = c) : IsI (w.alloc (.cells #[.int .i64 a, .int .i64 b, .int .i64 c] 2)) (some ⟨w.heap.size, 0, none⟩) 3 f := fun k hk => by
  have h := heap_alloc_new w (.cells #[.int .i64 a, .int .i64 b, .int .i64 c] 2)
  have c0 : ∀ k (v : Value), (#[.int .i64 a, .int .i64 b, .int .i64 c] : Array Value)[k]? = some v → (w.alloc (.cells #[.int .i64 a, .int .i64 b, .int .i64 c] 2)).cell? ⟨w.heap.size, 0 + k, none⟩ = some v := fun k v hv => by rw [Nat.zero_add]; exact (cell_of_row _ _ k _ _ _ h).trans hv
  match k, hk with
  | 0, _ => exact ⟨by rw [e0]; exact ha, _, 0, rfl, lt_of_block h, by rw [e0]; exact c0 0 _ rfl⟩
  | 1, _ => exact ⟨by rw [e1]; exact hb, _, 0, rfl, lt_of_block h, by rw [e1]; exact c0 1 _ rfl⟩
  | 2, _ => exact ⟨by rw [e2]; exact hc, _, 0, rfl, lt_of_block h, by rw [e2]; exact c0 2 _ rfl⟩
theorem own_in {B : Nat} {v : Value} {l : List Int} {w : World} (h : Own B v l w) (hl : ∀ x ∈ l, W64 x) : ∃ a0 cap, v = .slice a0 l.length cap ∧ IsI w a0 l.length (fun j => l.getD j 0) := Own.in h hl
end Sh
end Go.Proofs.Ythcgbjkbnbeobaa
