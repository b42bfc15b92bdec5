/-
  Points and rotations compared.
-/
import Derived.Test.YtdgkmaamjdglmaaDoorKe
import Derived.Laws.StructEq
namespace Go.Proofs.YtdgkmaamjdglmaaDoor
open Go.RowKit Cu
theorem info_int : ∃ i, Tryd.prog.info? 3 = some i := by
  cases h : Tryd.prog.info? 3 with
  | none =>
    have : (Tryd.prog.info? 3).isSome = true := by kernel_rfl
    rw [h] at this; cases this
  | some i => exact ⟨i, rfl⟩
theorem info_pt : ∃ i, Tryd.prog.info? 53 = some i := by
  cases h : Tryd.prog.info? 53 with
  | none =>
    have : (Tryd.prog.info? 53).isSome = true := by kernel_rfl
    rw [h] at this; cases this
  | some i => exact ⟨i, rfl⟩
theorem pt_cmp (d : Nat) (p q : P3) (w : World) : (Op.equalIn (d + 2) 53 (.agg #[.int .i64 p.1, .int .i64 p.2.1, .int .i64 p.2.2]) (.agg #[.int .i64 q.1, .int .i64 q.2.1, .int .i64 q.2.2])).run Tryd.prog w = .ok (decide (p = q)) w := by
  obtain ⟨i, hi⟩ := info_int
  obtain ⟨a, b, c⟩ := p
  obtain ⟨x, y, z⟩ := q
  rw [run_equalIn_array w (d + 1) _ _ Tryd.underlying53 hi]
  have k0 : Tryd.prog.cellsOf 3 = 1 := by kernel_rfl
  have hp : Tryd.prog.plainKey 3 = true := by kernel_rfl
  rw [k0, show List.range 3 = [0, 1, 2] from rfl]
  have e : ∀ s t : Int, (Op.equalIn (d + 1) 3 (.int .i64 s) (.int .i64 t)).run Tryd.prog w = .ok (s == t) w := fun s t => run_equalIn_int w d 3 .i64 .i64 s t Tryd.underlying3
  have p0 : ∀ r s t : Int, (part 3 #[.int .i64 r, .int .i64 s, .int .i64 t] (0 * 1)).run Tryd.prog w = .ok (.int .i64 r) w := fun r s t => run_part_plain w hp rfl
  have p1 : ∀ r s t : Int, (part 3 #[.int .i64 r, .int .i64 s, .int .i64 t] (1 * 1)).run Tryd.prog w = .ok (.int .i64 s) w := fun r s t => run_part_plain w hp rfl
  have p2 : ∀ r s t : Int, (part 3 #[.int .i64 r, .int .i64 s, .int .i64 t] (2 * 1)).run Tryd.prog w = .ok (.int .i64 t) w := fun r s t => run_part_plain w hp rfl
  simp only [Op.eqItems, Sem.run_bind, p0, e, Result.andThen_ok]
  by_cases h1 : a = x <;> by_cases h2 : b = y <;> by_cases h3 : c = z <;> simp [h1, h2, h3, e, p1, p2, Sem.run_bind]
/-- nine cells -/
theorem ro_cmp (p q r x y z : P3) (w : World) : (Op.equalIn 10000 75 (.agg #[.int .i64 p.1, .int .i64 p.2.1, .int .i64 p.2.2, .int .i64 q.1, .int .i64 q.2.1, .int .i64 q.2.2, .int .i64 r.1, .int .i64 r.2.1, .int .i64 r.2.2]) (.agg #[.int .i64 x.1, .int .i64 x.2.1, .int .i64 x.2.2, .int .i64 y.1, .int .i64 y.2.1, .int .i64 y.2.2, .int .i64 z.1, .int .i64 z.2.1, .int .i64 z.2.2])).run Tryd.prog w = .ok (decide (p = x ∧ q = y ∧ r = z)) w := by
  obtain ⟨i, hi⟩ := info_pt
  rw [show (10000 : Nat) = 9999 + 1 from rfl, run_equalIn_array w 9999 _ _ Tryd.underlying75 hi]
  have k0 : Tryd.prog.cellsOf 53 = 3 := by kernel_rfl
  rw [k0, show List.range 3 = [0, 1, 2] from rfl]
  have e : ∀ s t : P3, (Op.equalIn 9999 53 (.agg #[.int .i64 s.1, .int .i64 s.2.1, .int .i64 s.2.2]) (.agg #[.int .i64 t.1, .int .i64 t.2.1, .int .i64 t.2.2])).run Tryd.prog w = .ok (decide (s = t)) w := fun s t => pt_cmp 9997 s t w
  have p0 : ∀ a b c d e f g h i : Value, (part 53 #[a, b, c, d, e, f, g, h, i] (0 * 3)).run Tryd.prog w = .ok (.agg #[a, b, c]) w := fun a b c d e f g h i => by kernel_rfl
  have p1 : ∀ a b c d e f g h i : Value, (part 53 #[a, b, c, d, e, f, g, h, i] (1 * 3)).run Tryd.prog w = .ok (.agg #[d, e, f]) w := fun a b c d e f g h i => by kernel_rfl
  have p2 : ∀ a b c d e f g h i : Value, (part 53 #[a, b, c, d, e, f, g, h, i] (2 * 3)).run Tryd.prog w = .ok (.agg #[g, h, i]) w := fun a b c d e f g h i => by kernel_rfl
  simp only [Op.eqItems, Sem.run_bind, p0, e, Result.andThen_ok]
  by_cases h1 : p = x <;> by_cases h2 : q = y <;> by_cases h3 : r = z <;> simp [h1, h2, h3, e, p1, p2, Sem.run_bind]
end Go.Proofs.YtdgkmaamjdglmaaDoor
