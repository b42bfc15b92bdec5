/-
  Some of the texts of this proof, one behind the other.
-/
import Derived.Test.YtebnjbljabjgaaaDoorTie
import Derived.Test.YtebnjbljabjgaaaDoorCards
import Derived.ProofKit
import Derived.LaidMore
import Derived.OpenShut
import Derived.Stop.Joined
import Derived.Carry
import Derived.Lib.SmallJoins
import Derived.WalkLawsBesides
import Derived.Deep.Cut
import Derived.Test.YtebnjbljabjgaaaDoorG06
namespace Go.Proofs.YtebnjbljabjgaaaDoor
open Go.RowKit Tf Cu
attribute [local go_sem] run_bits run_from raw_feq raw_fne raw_flt raw_fgt run_neg run_store_float
theorem cells12 {w : World} {g : Nat} {v0 v1 v2 v3 v4 v5 v6 v7 v8 v9 v10 v11 : Value} {T : TypeId} (r : w.heap[g]? = some (.cells #[v0, v1, v2, v3, v4, v5, v6, v7, v8, v9, v10, v11] T)) :
    w.cell? ⟨g, 0, none⟩ = some v0 ∧ w.cell? ⟨g, 1, none⟩ = some v1 ∧ w.cell? ⟨g, 2, none⟩ = some v2 ∧ w.cell? ⟨g, 3, none⟩ = some v3 ∧ w.cell? ⟨g, 4, none⟩ = some v4 ∧ w.cell? ⟨g, 5, none⟩ = some v5 ∧ w.cell? ⟨g, 6, none⟩ = some v6 ∧ w.cell? ⟨g, 7, none⟩ = some v7 ∧ w.cell? ⟨g, 8, none⟩ = some v8 ∧ w.cell? ⟨g, 9, none⟩ = some v9 ∧ w.cell? ⟨g, 10, none⟩ = some v10 ∧ w.cell? ⟨g, 11, none⟩ = some v11 :=
  ⟨cell_of_row _ _ 0 _ _ _ r, cell_of_row _ _ 1 _ _ _ r, cell_of_row _ _ 2 _ _ _ r, cell_of_row _ _ 3 _ _ _ r, cell_of_row _ _ 4 _ _ _ r, cell_of_row _ _ 5 _ _ _ r, cell_of_row _ _ 6 _ _ _ r, cell_of_row _ _ 7 _ _ _ r, cell_of_row _ _ 8 _ _ _ r, cell_of_row _ _ 9 _ _ _ r, cell_of_row _ _ 10 _ _ _ r, cell_of_row _ _ 11 _ _ _ r⟩
theorem free12 {w : World} {g : Nat} {v0 v1 v2 v3 v4 v5 v6 v7 v8 v9 v10 v11 : Value} {T : TypeId} (r : w.heap[g]? = some (.cells #[v0, v1, v2, v3, v4, v5, v6, v7, v8, v9, v10, v11] T)) :
    w.frozen? ⟨g, 0, none⟩ = false ∧ w.frozen? ⟨g, 1, none⟩ = false ∧ w.frozen? ⟨g, 2, none⟩ = false ∧ w.frozen? ⟨g, 3, none⟩ = false ∧ w.frozen? ⟨g, 4, none⟩ = false ∧ w.frozen? ⟨g, 5, none⟩ = false ∧ w.frozen? ⟨g, 6, none⟩ = false ∧ w.frozen? ⟨g, 7, none⟩ = false ∧ w.frozen? ⟨g, 8, none⟩ = false ∧ w.frozen? ⟨g, 9, none⟩ = false ∧ w.frozen? ⟨g, 10, none⟩ = false ∧ w.frozen? ⟨g, 11, none⟩ = false :=
  ⟨free_row r 0, free_row r 1, free_row r 2, free_row r 3, free_row r 4, free_row r 5, free_row r 6, free_row r 7, free_row r 8, free_row r 9, free_row r 10, free_row r 11⟩
theorem put12_0 {w : World} {g : Nat} {v0 v1 v2 v3 v4 v5 v6 v7 v8 v9 v10 v11 x y z : Value} {T : TypeId} (h : w.heap[g]? = some (.cells #[v0, v1, v2, v3, v4, v5, v6, v7, v8, v9, v10, v11] T)) :
    (((w.setCell ⟨g, 0, none⟩ x).setCell ⟨g, 1, none⟩ y).setCell ⟨g, 2, none⟩ z).heap[g]? = some (.cells #[x, y, z, v3, v4, v5, v6, v7, v8, v9, v10, v11] T) := by
  have h1 := one_set (v := x) (k := 0) h
  have h2 := one_set (v := y) (k := 1) h1
  have h3 := one_set (v := z) (k := 2) h2
  simpa using h3
theorem put12_1 {w : World} {g : Nat} {v0 v1 v2 v3 v4 v5 v6 v7 v8 v9 v10 v11 x y z : Value} {T : TypeId} (h : w.heap[g]? = some (.cells #[v0, v1, v2, v3, v4, v5, v6, v7, v8, v9, v10, v11] T)) :
    (((w.setCell ⟨g, 3, none⟩ x).setCell ⟨g, 4, none⟩ y).setCell ⟨g, 5, none⟩ z).heap[g]? = some (.cells #[v0, v1, v2, x, y, z, v6, v7, v8, v9, v10, v11] T) := by
  have h1 := one_set (v := x) (k := 3) h
  have h2 := one_set (v := y) (k := 4) h1
  have h3 := one_set (v := z) (k := 5) h2
  simpa using h3
theorem put12_2 {w : World} {g : Nat} {v0 v1 v2 v3 v4 v5 v6 v7 v8 v9 v10 v11 x y z : Value} {T : TypeId} (h : w.heap[g]? = some (.cells #[v0, v1, v2, v3, v4, v5, v6, v7, v8, v9, v10, v11] T)) :
    (((w.setCell ⟨g, 6, none⟩ x).setCell ⟨g, 7, none⟩ y).setCell ⟨g, 8, none⟩ z).heap[g]? = some (.cells #[v0, v1, v2, v3, v4, v5, x, y, z, v9, v10, v11] T) := by
  have h1 := one_set (v := x) (k := 6) h
  have h2 := one_set (v := y) (k := 7) h1
  have h3 := one_set (v := z) (k := 8) h2
  simpa using h3
theorem put12_3 {w : World} {g : Nat} {v0 v1 v2 v3 v4 v5 v6 v7 v8 v9 v10 v11 x y z : Value} {T : TypeId} (h : w.heap[g]? = some (.cells #[v0, v1, v2, v3, v4, v5, v6, v7, v8, v9, v10, v11] T)) :
    (((w.setCell ⟨g, 9, none⟩ x).setCell ⟨g, 10, none⟩ y).setCell ⟨g, 11, none⟩ z).heap[g]? = some (.cells #[v0, v1, v2, v3, v4, v5, v6, v7, v8, x, y, z] T) := by
  have h1 := one_set (v := x) (k := 9) h
  have h2 := one_set (v := y) (k := 10) h1
  have h3 := one_set (v := z) (k := 11) h2
  simpa using h3
theorem nat_cell {n c : Int} (h : inR c (clN n) = true) : ∃ m d : Nat, n = m ∧ c = d ∧ (1 ≤ m ∧ m ≤ 32) ∧ d < 6 * m * m := by
  obtain ⟨⟨h1, h2⟩, h3, h4, h5⟩ := clN_pos h
  obtain ⟨m, rfl⟩ : ∃ m : Nat, n = m := ⟨n.toNat, by omega⟩
  obtain ⟨d, rfl⟩ : ∃ d : Nat, c = d := ⟨c.toNat, by omega⟩
  refine ⟨m, d, rfl, rfl, ⟨by omega, by omega⟩, ?_⟩
  have e : (6 * (m : Int) * m) = ((6 * m * m : Nat) : Int) := by simp
  rw [e] at h4
  omega
theorem other3 {w : World} {g h a b c : Nat} {x y z : Value} {o : Obj} (hne : h ≠ g) (hh : w.heap[h]? = some o) : (((w.setCell ⟨g, a, none⟩ x).setCell ⟨g, b, none⟩ y).setCell ⟨g, c, none⟩ z).heap[h]? = some o := by
  rw [Below.heap_setCell _ _ _ _ hne, Below.heap_setCell _ _ _ _ hne, Below.heap_setCell _ _ _ _ hne]; exact hh
set_option maxRecDepth 10000 in
set_option maxHeartbeats 8000000 in
theorem corners_ok (n c : Nat) (w : World) (hn : 1 ≤ n ∧ n ≤ 32) (hc : c < 6 * n * n) :
    Calls Tryd.prog 17 #[.int .i64 n, .int .i64 c] w fun e w' => e = .returned (.tuple #[.agg #[.float .f64 (px n (cr n (cf n c) (ci n c) (cj n c))), .float .f64 (py n (cr n (cf n c) (ci n c) (cj n c))), .float .f64 (pz n (cr n (cf n c) (ci n c) (cj n c))), .float .f64 (px n (cr n (cf n c) (ci n c + 1) (cj n c))), .float .f64 (py n (cr n (cf n c) (ci n c + 1) (cj n c))), .float .f64 (pz n (cr n (cf n c) (ci n c + 1) (cj n c))), .float .f64 (px n (cr n (cf n c) (ci n c + 1) (cj n c + 1))), .float .f64 (py n (cr n (cf n c) (ci n c + 1) (cj n c + 1))), .float .f64 (pz n (cr n (cf n c) (ci n c + 1) (cj n c + 1))), .float .f64 (px n (cr n (cf n c) (ci n c) (cj n c + 1))), .float .f64 (py n (cr n (cf n c) (ci n c) (cj n c + 1))), .float .f64 (pz n (cr n (cf n c) (ci n c) (cj n c + 1)))], .bool true]) ∧ Below w.heap.size w w' := by
  obtain ⟨h1, h2, h3, -⟩ := dec_lt hn.1 hc
  have PL := hid (fun u => place_ok n c hn hc u)
  have K0 : Hid (∀ u, Calls Tryd.prog 14 #[.int .i64 n, .int .i64 (cf n c : Nat), .int .i64 (ci n c : Nat), .int .i64 (cj n c : Nat)] u fun e w' => e = .returned (.tuple #[.agg #[.float .f64 (px n (cr n (cf n c) (ci n c) (cj n c))), .float .f64 (py n (cr n (cf n c) (ci n c) (cj n c))), .float .f64 (pz n (cr n (cf n c) (ci n c) (cj n c)))], .bool true]) ∧ Below u.heap.size u w') := fun u => corner_ok n (cf n c) (ci n c) (cj n c) u hn h1 (by omega) (by omega)
  have K1 : Hid (∀ u, Calls Tryd.prog 14 #[.int .i64 n, .int .i64 (cf n c : Nat), .int .i64 ((ci n c : Nat) + 1), .int .i64 (cj n c : Nat)] u fun e w' => e = .returned (.tuple #[.agg #[.float .f64 (px n (cr n (cf n c) (ci n c + 1) (cj n c))), .float .f64 (py n (cr n (cf n c) (ci n c + 1) (cj n c))), .float .f64 (pz n (cr n (cf n c) (ci n c + 1) (cj n c)))], .bool true]) ∧ Below u.heap.size u w') := fun u => corner_ok n (cf n c) (ci n c + 1) (cj n c) u hn h1 (by omega) (by omega)
  have K2 : Hid (∀ u, Calls Tryd.prog 14 #[.int .i64 n, .int .i64 (cf n c : Nat), .int .i64 ((ci n c : Nat) + 1), .int .i64 ((cj n c : Nat) + 1)] u fun e w' => e = .returned (.tuple #[.agg #[.float .f64 (px n (cr n (cf n c) (ci n c + 1) (cj n c + 1))), .float .f64 (py n (cr n (cf n c) (ci n c + 1) (cj n c + 1))), .float .f64 (pz n (cr n (cf n c) (ci n c + 1) (cj n c + 1)))], .bool true]) ∧ Below u.heap.size u w') := fun u => corner_ok n (cf n c) (ci n c + 1) (cj n c + 1) u hn h1 (by omega) (by omega)
  have K3 : Hid (∀ u, Calls Tryd.prog 14 #[.int .i64 n, .int .i64 (cf n c : Nat), .int .i64 (ci n c : Nat), .int .i64 ((cj n c : Nat) + 1)] u fun e w' => e = .returned (.tuple #[.agg #[.float .f64 (px n (cr n (cf n c) (ci n c) (cj n c + 1))), .float .f64 (py n (cr n (cf n c) (ci n c) (cj n c + 1))), .float .f64 (pz n (cr n (cf n c) (ci n c) (cj n c + 1)))], .bool true]) ∧ Below u.heap.size u w') := fun u => corner_ok n (cf n c) (ci n c) (cj n c + 1) u hn h1 (by omega) (by omega)
  generalize px n (cr n (cf n c) (ci n c) (cj n c)) = a0 at *
  generalize py n (cr n (cf n c) (ci n c) (cj n c)) = b0 at *
  generalize pz n (cr n (cf n c) (ci n c) (cj n c)) = d0 at *
  generalize px n (cr n (cf n c) (ci n c + 1) (cj n c)) = a1 at *
  generalize py n (cr n (cf n c) (ci n c + 1) (cj n c)) = b1 at *
  generalize pz n (cr n (cf n c) (ci n c + 1) (cj n c)) = d1 at *
  generalize px n (cr n (cf n c) (ci n c + 1) (cj n c + 1)) = a2 at *
  generalize py n (cr n (cf n c) (ci n c + 1) (cj n c + 1)) = b2 at *
  generalize pz n (cr n (cf n c) (ci n c + 1) (cj n c + 1)) = d2 at *
  generalize px n (cr n (cf n c) (ci n c) (cj n c + 1)) = a3 at *
  generalize py n (cr n (cf n c) (ci n c) (cj n c + 1)) = b3 at *
  generalize pz n (cr n (cf n c) (ci n c) (cj n c + 1)) = d3 at *
  have hi : ((ci n c : Nat) : Int) ≤ 32 := by omega
  have hj : ((cj n c : Nat) : Int) ≤ 32 := by omega
  generalize cf n c = f at *
  generalize ci n c = i at *
  generalize cj n c = j at *
  clear hn hc h1 h2 h3
  have A0 := hid (bl2 w (.cells #[.float .f64 0, .float .f64 0, .float .f64 0, .float .f64 0, .float .f64 0, .float .f64 0, .float .f64 0, .float .f64 0, .float .f64 0, .float .f64 0, .float .f64 0, .float .f64 0] 45) (.cells #[.float .f64 0, .float .f64 0, .float .f64 0, .float .f64 0, .float .f64 0, .float .f64 0, .float .f64 0, .float .f64 0, .float .f64 0, .float .f64 0, .float .f64 0, .float .f64 0] 45))
  have R0 := hid (And.intro (heap_alloc2_old w (.cells #[.float .f64 0, .float .f64 0, .float .f64 0, .float .f64 0, .float .f64 0, .float .f64 0, .float .f64 0, .float .f64 0, .float .f64 0, .float .f64 0, .float .f64 0, .float .f64 0] 45) (.cells #[.float .f64 0, .float .f64 0, .float .f64 0, .float .f64 0, .float .f64 0, .float .f64 0, .float .f64 0, .float .f64 0, .float .f64 0, .float .f64 0, .float .f64 0, .float .f64 0] 45)) (heap_alloc2_new w (.cells #[.float .f64 0, .float .f64 0, .float .f64 0, .float .f64 0, .float .f64 0, .float .f64 0, .float .f64 0, .float .f64 0, .float .f64 0, .float .f64 0, .float .f64 0, .float .f64 0] 45) (.cells #[.float .f64 0, .float .f64 0, .float .f64 0, .float .f64 0, .float .f64 0, .float .f64 0, .float .f64 0, .float .f64 0, .float .f64 0, .float .f64 0, .float .f64 0, .float .f64 0] 45)))
  go_enter Tryd.func17, Tryd.ntmps17
  go_wp2_with fail
  refine (PL.out _).mono ?_
  rintro e w1 ⟨rfl, m0, rfl⟩
  go_wp2_with fail
  refine (K0.out _).mono ?_
  rintro e u0 ⟨rfl, b0⟩
  have B0 : Hid (Ab w u0) := Ab.call (Ab.drewN A0.out _) b0
  have G0 : Hid (u0.heap[w.heap.size]? = some (.cells #[.float .f64 0, .float .f64 0, .float .f64 0, .float .f64 0, .float .f64 0, .float .f64 0, .float .f64 0, .float .f64 0, .float .f64 0, .float .f64 0, .float .f64 0, .float .f64 0] 45)) := Ab.heap b0 R0.out.1
  have H0 : Hid (u0.heap[w.heap.size + 1]? = some (.cells #[.float .f64 0, .float .f64 0, .float .f64 0, .float .f64 0, .float .f64 0, .float .f64 0, .float .f64 0, .float .f64 0, .float .f64 0, .float .f64 0, .float .f64 0, .float .f64 0] 45)) := Ab.heap b0 R0.out.2
  clear A0 R0 b0
  obtain ⟨q0, q1, q2, q3, q4, q5, q6, q7, q8, q9, q10, q11⟩ := cells12 H0.out
  obtain ⟨o0, o1, o2, o3, o4, o5, o6, o7, o8, o9, o10, o11⟩ := free12 H0.out
  clear q3 o3 q4 o4 q5 o5 q6 o6 q7 o7 q8 o8 q9 o9 q10 o10 q11 o11
  go_wp2_with fail
  refine (K1.out _).mono ?_
  rintro e u1 ⟨rfl, b1⟩
  have B1 : Hid (Ab w u1) := Ab.call (((Ab.setk B0.out (by omega) _).setk (by omega) _).setk (by omega) _) b1
  have G1 : Hid (u1.heap[w.heap.size]? = some (.cells #[.float .f64 0, .float .f64 0, .float .f64 0, .float .f64 0, .float .f64 0, .float .f64 0, .float .f64 0, .float .f64 0, .float .f64 0, .float .f64 0, .float .f64 0, .float .f64 0] 45)) := Ab.heap b1 (other3 (by omega) G0.out)
  have H1 : Hid (u1.heap[w.heap.size + 1]? = some (.cells #[.float .f64 a0, .float .f64 b0, .float .f64 d0, .float .f64 0, .float .f64 0, .float .f64 0, .float .f64 0, .float .f64 0, .float .f64 0, .float .f64 0, .float .f64 0, .float .f64 0] 45)) := Ab.heap b1 (put12_0 H0.out)
  clear b1 B0 G0 H0 q0 o0 q1 o1 q2 o2
  obtain ⟨q0, q1, q2, q3, q4, q5, q6, q7, q8, q9, q10, q11⟩ := cells12 H1.out
  obtain ⟨o0, o1, o2, o3, o4, o5, o6, o7, o8, o9, o10, o11⟩ := free12 H1.out
  clear q0 o0 q1 o1 q2 o2 q6 o6 q7 o7 q8 o8 q9 o9 q10 o10 q11 o11
  go_wp2_with fail
  refine (K2.out _).mono ?_
  rintro e u2 ⟨rfl, b2⟩
  have B2 : Hid (Ab w u2) := Ab.call (((Ab.setk B1.out (by omega) _).setk (by omega) _).setk (by omega) _) b2
  have G2 : Hid (u2.heap[w.heap.size]? = some (.cells #[.float .f64 0, .float .f64 0, .float .f64 0, .float .f64 0, .float .f64 0, .float .f64 0, .float .f64 0, .float .f64 0, .float .f64 0, .float .f64 0, .float .f64 0, .float .f64 0] 45)) := Ab.heap b2 (other3 (by omega) G1.out)
  have H2 : Hid (u2.heap[w.heap.size + 1]? = some (.cells #[.float .f64 a0, .float .f64 b0, .float .f64 d0, .float .f64 a1, .float .f64 b1, .float .f64 d1, .float .f64 0, .float .f64 0, .float .f64 0, .float .f64 0, .float .f64 0, .float .f64 0] 45)) := Ab.heap b2 (put12_1 H1.out)
  clear b2 B1 G1 H1 q3 o3 q4 o4 q5 o5
  obtain ⟨q0, q1, q2, q3, q4, q5, q6, q7, q8, q9, q10, q11⟩ := cells12 H2.out
  obtain ⟨o0, o1, o2, o3, o4, o5, o6, o7, o8, o9, o10, o11⟩ := free12 H2.out
  clear q0 o0 q1 o1 q2 o2 q3 o3 q4 o4 q5 o5 q9 o9 q10 o10 q11 o11
  go_wp2_with fail
  refine (K3.out _).mono ?_
  rintro e u3 ⟨rfl, b3⟩
  have B3 : Hid (Ab w u3) := Ab.call (((Ab.setk B2.out (by omega) _).setk (by omega) _).setk (by omega) _) b3
  have G3 : Hid (u3.heap[w.heap.size]? = some (.cells #[.float .f64 0, .float .f64 0, .float .f64 0, .float .f64 0, .float .f64 0, .float .f64 0, .float .f64 0, .float .f64 0, .float .f64 0, .float .f64 0, .float .f64 0, .float .f64 0] 45)) := Ab.heap b3 (other3 (by omega) G2.out)
  have H3 : Hid (u3.heap[w.heap.size + 1]? = some (.cells #[.float .f64 a0, .float .f64 b0, .float .f64 d0, .float .f64 a1, .float .f64 b1, .float .f64 d1, .float .f64 a2, .float .f64 b2, .float .f64 d2, .float .f64 0, .float .f64 0, .float .f64 0] 45)) := Ab.heap b3 (put12_2 H2.out)
  clear b3 B2 G2 H2 q6 o6 q7 o7 q8 o8
  obtain ⟨q0, q1, q2, q3, q4, q5, q6, q7, q8, q9, q10, q11⟩ := cells12 H3.out
  obtain ⟨o0, o1, o2, o3, o4, o5, o6, o7, o8, o9, o10, o11⟩ := free12 H3.out
  clear q0 o0 q1 o1 q2 o2 q3 o3 q4 o4 q5 o5 q6 o6 q7 o7 q8 o8
  go_upto_region 9 with fail
  generalize hW : World.setCell _ _ _ = W
  have BW : Hid (Ab w W) := by rw [← hW]; exact ((Ab.setk B3.out (by omega) _).setk (by omega) _).setk (by omega) _
  have GW : Hid (W.heap[w.heap.size]? = some (.cells #[.float .f64 0, .float .f64 0, .float .f64 0, .float .f64 0, .float .f64 0, .float .f64 0, .float .f64 0, .float .f64 0, .float .f64 0, .float .f64 0, .float .f64 0, .float .f64 0] 45)) := by rw [← hW]; exact other3 (by omega) G3.out
  have HW : Hid (W.heap[w.heap.size + 1]? = some (.cells #[.float .f64 a0, .float .f64 b0, .float .f64 d0, .float .f64 a1, .float .f64 b1, .float .f64 d1, .float .f64 a2, .float .f64 b2, .float .f64 d2, .float .f64 a3, .float .f64 b3, .float .f64 d3] 45)) := by rw [← hW]; exact put12_3 H3.out
  clear hW B3 G3 H3 q9 o9 q10 o10 q11 o11
  obtain ⟨q0, q1, q2, q3, q4, q5, q6, q7, q8, q9, q10, q11⟩ := cells12 HW.out
  obtain ⟨o0, o1, o2, o3, o4, o5, o6, o7, o8, o9, o10, o11⟩ := free12 GW.out
  obtain ⟨z0, z1, z2, z3, z4, z5, z6, z7, z8, z9, z10, z11⟩ := cells12 GW.out
  go_wp2
  refine bodyPost_ret ?_ rfl ⟨rfl, ?_⟩
  · exact res_two Tryd.results17 _ _ w.heap.size _ _ (0, 0) _ _ rfl rfl (put12_3 (put12_2 (put12_1 (put12_0 GW.out)))) Tryd.underlying45 rfl (by kernel_rfl)
  · exact (((((((((((Ab.setk BW.out (by omega) _).setk (by omega) _).setk (by omega) _).setk (by omega) _).setk (by omega) _).setk (by omega) _).setk (by omega) _).setk (by omega) _).setk (by omega) _).setk (by omega) _).setk (by omega) _).setk (by omega) _
set_option maxHeartbeats 4000000 in
theorem corners_no (n c : Int) (w : World) (h : inR c (clN n) = false) :
    Calls Tryd.prog 17 #[.int .i64 n, .int .i64 c] w fun e w' => e = .returned (.tuple #[.agg #[.float .f64 0, .float .f64 0, .float .f64 0, .float .f64 0, .float .f64 0, .float .f64 0, .float .f64 0, .float .f64 0, .float .f64 0, .float .f64 0, .float .f64 0, .float .f64 0], .bool false]) ∧ Below w.heap.size w w' := by
  have PL := hid (fun u => place_at n c u)
  rw [h] at PL
  generalize pF n c = f at *
  generalize pI n c = i at *
  generalize pJ n c = j at *
  clear h
  have A0 := hid (bl2 w (.cells #[.float .f64 0, .float .f64 0, .float .f64 0, .float .f64 0, .float .f64 0, .float .f64 0, .float .f64 0, .float .f64 0, .float .f64 0, .float .f64 0, .float .f64 0, .float .f64 0] 45) (.cells #[.float .f64 0, .float .f64 0, .float .f64 0, .float .f64 0, .float .f64 0, .float .f64 0, .float .f64 0, .float .f64 0, .float .f64 0, .float .f64 0, .float .f64 0, .float .f64 0] 45))
  have R0 := hid (And.intro (heap_alloc2_old w (.cells #[.float .f64 0, .float .f64 0, .float .f64 0, .float .f64 0, .float .f64 0, .float .f64 0, .float .f64 0, .float .f64 0, .float .f64 0, .float .f64 0, .float .f64 0, .float .f64 0] 45) (.cells #[.float .f64 0, .float .f64 0, .float .f64 0, .float .f64 0, .float .f64 0, .float .f64 0, .float .f64 0, .float .f64 0, .float .f64 0, .float .f64 0, .float .f64 0, .float .f64 0] 45)) (heap_alloc2_new w (.cells #[.float .f64 0, .float .f64 0, .float .f64 0, .float .f64 0, .float .f64 0, .float .f64 0, .float .f64 0, .float .f64 0, .float .f64 0, .float .f64 0, .float .f64 0, .float .f64 0] 45) (.cells #[.float .f64 0, .float .f64 0, .float .f64 0, .float .f64 0, .float .f64 0, .float .f64 0, .float .f64 0, .float .f64 0, .float .f64 0, .float .f64 0, .float .f64 0, .float .f64 0] 45)))
  go_enter Tryd.func17, Tryd.ntmps17
  go_wp2_with fail
  refine (PL.out _).mono ?_
  rintro e w1 ⟨rfl, m0, rfl⟩
  generalize hW : World.drewN _ _ = W
  have BW : Hid (Ab w W) := by rw [← hW]; exact Ab.drewN A0.out _
  have GW : Hid (W.heap[w.heap.size]? = some (.cells #[.float .f64 0, .float .f64 0, .float .f64 0, .float .f64 0, .float .f64 0, .float .f64 0, .float .f64 0, .float .f64 0, .float .f64 0, .float .f64 0, .float .f64 0, .float .f64 0] 45)) := by rw [← hW]; exact R0.out.1
  have HW : Hid (W.heap[w.heap.size + 1]? = some (.cells #[.float .f64 0, .float .f64 0, .float .f64 0, .float .f64 0, .float .f64 0, .float .f64 0, .float .f64 0, .float .f64 0, .float .f64 0, .float .f64 0, .float .f64 0, .float .f64 0] 45)) := by rw [← hW]; exact R0.out.2
  clear hW A0 R0
  obtain ⟨q0, q1, q2, q3, q4, q5, q6, q7, q8, q9, q10, q11⟩ := cells12 HW.out
  obtain ⟨o0, o1, o2, o3, o4, o5, o6, o7, o8, o9, o10, o11⟩ := free12 GW.out
  obtain ⟨z0, z1, z2, z3, z4, z5, z6, z7, z8, z9, z10, z11⟩ := cells12 GW.out
  go_wp2
  refine bodyPost_ret ?_ rfl ⟨rfl, ?_⟩
  · exact res_two Tryd.results17 _ _ w.heap.size _ _ (0, 0) _ _ rfl rfl (put12_3 (put12_2 (put12_1 (put12_0 GW.out)))) Tryd.underlying45 rfl (by kernel_rfl)
  · exact (((((((((((Ab.setk BW.out (by omega) _).setk (by omega) _).setk (by omega) _).setk (by omega) _).setk (by omega) _).setk (by omega) _).setk (by omega) _).setk (by omega) _).setk (by omega) _).setk (by omega) _).setk (by omega) _).setk (by omega) _
theorem LnC_cases (n c : Nat) : LnC n c 0 = gp n (cr n (cf n c) (ci n c + 1) (cj n c)) (cr n (cf n c) (ci n c + 1) (cj n c + 1)) ∧ LnC n c 1 = gp n (cr n (cf n c) (ci n c) (cj n c + 1)) (cr n (cf n c) (ci n c + 1) (cj n c + 1)) ∧ LnC n c 2 = gp n (cr n (cf n c) (ci n c) (cj n c)) (cr n (cf n c) (ci n c) (cj n c + 1)) ∧ LnC n c 3 = gp n (cr n (cf n c) (ci n c) (cj n c)) (cr n (cf n c) (ci n c + 1) (cj n c)) := ⟨rfl, rfl, rfl, rfl⟩
set_option maxHeartbeats 8000000 in
theorem len_ok (n c s : Nat) (w : World) (hn : 1 ≤ n ∧ n ≤ 32) (hc : c < 6 * n * n) (hs : s < 4) :
    Calls Tryd.prog 8 #[.int .i64 n, .int .i64 c, .int .i64 s] w fun e w' => e = .returned (.float .f64 (LnC n c s)) ∧ Below w.heap.size w w' := by
  have CO := hid (fun u => corners_ok n c u hn hc)
  obtain ⟨l0, l1, l2, l3⟩ := LnC_cases n c
  have GA0 : Hid (∀ u, Calls Tryd.prog 22 #[.agg #[.float .f64 (px n (cr n (cf n c) (ci n c + 1) (cj n c))), .float .f64 (py n (cr n (cf n c) (ci n c + 1) (cj n c))), .float .f64 (pz n (cr n (cf n c) (ci n c + 1) (cj n c)))], .agg #[.float .f64 (px n (cr n (cf n c) (ci n c + 1) (cj n c + 1))), .float .f64 (py n (cr n (cf n c) (ci n c + 1) (cj n c + 1))), .float .f64 (pz n (cr n (cf n c) (ci n c + 1) (cj n c + 1)))]] u fun e w' => e = .returned (.float .f64 (LnC n c 0)) ∧ Below u.heap.size u w') := fun u => by
    rw [l0]; exact gap_at _ _ _ _ _ _ u (px_lt _ _) (py_lt _ _) (pz_lt _ _) (px_lt _ _) (py_lt _ _) (pz_lt _ _)
  have GA1 : Hid (∀ u, Calls Tryd.prog 22 #[.agg #[.float .f64 (px n (cr n (cf n c) (ci n c) (cj n c + 1))), .float .f64 (py n (cr n (cf n c) (ci n c) (cj n c + 1))), .float .f64 (pz n (cr n (cf n c) (ci n c) (cj n c + 1)))], .agg #[.float .f64 (px n (cr n (cf n c) (ci n c + 1) (cj n c + 1))), .float .f64 (py n (cr n (cf n c) (ci n c + 1) (cj n c + 1))), .float .f64 (pz n (cr n (cf n c) (ci n c + 1) (cj n c + 1)))]] u fun e w' => e = .returned (.float .f64 (LnC n c 1)) ∧ Below u.heap.size u w') := fun u => by
    rw [l1]; exact gap_at _ _ _ _ _ _ u (px_lt _ _) (py_lt _ _) (pz_lt _ _) (px_lt _ _) (py_lt _ _) (pz_lt _ _)
  have GA2 : Hid (∀ u, Calls Tryd.prog 22 #[.agg #[.float .f64 (px n (cr n (cf n c) (ci n c) (cj n c))), .float .f64 (py n (cr n (cf n c) (ci n c) (cj n c))), .float .f64 (pz n (cr n (cf n c) (ci n c) (cj n c)))], .agg #[.float .f64 (px n (cr n (cf n c) (ci n c) (cj n c + 1))), .float .f64 (py n (cr n (cf n c) (ci n c) (cj n c + 1))), .float .f64 (pz n (cr n (cf n c) (ci n c) (cj n c + 1)))]] u fun e w' => e = .returned (.float .f64 (LnC n c 2)) ∧ Below u.heap.size u w') := fun u => by
    rw [l2]; exact gap_at _ _ _ _ _ _ u (px_lt _ _) (py_lt _ _) (pz_lt _ _) (px_lt _ _) (py_lt _ _) (pz_lt _ _)
  have GA3 : Hid (∀ u, Calls Tryd.prog 22 #[.agg #[.float .f64 (px n (cr n (cf n c) (ci n c) (cj n c))), .float .f64 (py n (cr n (cf n c) (ci n c) (cj n c))), .float .f64 (pz n (cr n (cf n c) (ci n c) (cj n c)))], .agg #[.float .f64 (px n (cr n (cf n c) (ci n c + 1) (cj n c))), .float .f64 (py n (cr n (cf n c) (ci n c + 1) (cj n c))), .float .f64 (pz n (cr n (cf n c) (ci n c + 1) (cj n c)))]] u fun e w' => e = .returned (.float .f64 (LnC n c 3)) ∧ Below u.heap.size u w') := fun u => by
    rw [l3]; exact gap_at _ _ _ _ _ _ u (px_lt _ _) (py_lt _ _) (pz_lt _ _) (px_lt _ _) (py_lt _ _) (pz_lt _ _)
  clear l0 l1 l2 l3
  generalize px n (cr n (cf n c) (ci n c) (cj n c)) = a0 at *
  generalize py n (cr n (cf n c) (ci n c) (cj n c)) = b0 at *
  generalize pz n (cr n (cf n c) (ci n c) (cj n c)) = d0 at *
  generalize px n (cr n (cf n c) (ci n c + 1) (cj n c)) = a1 at *
  generalize py n (cr n (cf n c) (ci n c + 1) (cj n c)) = b1 at *
  generalize pz n (cr n (cf n c) (ci n c + 1) (cj n c)) = d1 at *
  generalize px n (cr n (cf n c) (ci n c + 1) (cj n c + 1)) = a2 at *
  generalize py n (cr n (cf n c) (ci n c + 1) (cj n c + 1)) = b2 at *
  generalize pz n (cr n (cf n c) (ci n c + 1) (cj n c + 1)) = d2 at *
  generalize px n (cr n (cf n c) (ci n c) (cj n c + 1)) = a3 at *
  generalize py n (cr n (cf n c) (ci n c) (cj n c + 1)) = b3 at *
  generalize pz n (cr n (cf n c) (ci n c) (cj n c + 1)) = d3 at *
  rcases Cu.four hs with rfl | rfl | rfl | rfl
  · generalize LnC n c 0 = L at *
    clear hn hc hs GA1 GA2 GA3
    go_enter Tryd.func8, Tryd.ntmps8
    go_wp2_with fail
    refine (CO.out _).mono ?_
    rintro e v ⟨rfl, b1⟩
    go_wp2_with fail
    refine (GA0.out _).mono ?_
    rintro e v2 ⟨rfl, b2⟩
    go_wp2
    go_ret
    exact ⟨rfl, Ab.call ((Ab.refl w).call b1 |>.alloc _) b2⟩
  · generalize LnC n c 1 = L at *
    clear hn hc hs GA0 GA2 GA3
    go_enter Tryd.func8, Tryd.ntmps8
    go_wp2_with fail
    refine (CO.out _).mono ?_
    rintro e v ⟨rfl, b1⟩
    go_wp2_with fail
    refine (GA1.out _).mono ?_
    rintro e v2 ⟨rfl, b2⟩
    go_wp2
    go_ret
    exact ⟨rfl, Ab.call ((Ab.refl w).call b1 |>.alloc _) b2⟩
  · generalize LnC n c 2 = L at *
    clear hn hc hs GA0 GA1 GA3
    go_enter Tryd.func8, Tryd.ntmps8
    go_wp2_with fail
    refine (CO.out _).mono ?_
    rintro e v ⟨rfl, b1⟩
    go_wp2_with fail
    refine (GA2.out _).mono ?_
    rintro e v2 ⟨rfl, b2⟩
    go_wp2
    go_ret
    exact ⟨rfl, Ab.call ((Ab.refl w).call b1 |>.alloc _) b2⟩
  · generalize LnC n c 3 = L at *
    clear hn hc hs GA0 GA1 GA2
    go_enter Tryd.func8, Tryd.ntmps8
    go_wp2_with fail
    refine (CO.out _).mono ?_
    rintro e v ⟨rfl, b1⟩
    go_wp2_with fail
    refine (GA3.out _).mono ?_
    rintro e v2 ⟨rfl, b2⟩
    go_wp2
    go_ret
    exact ⟨rfl, Ab.call ((Ab.refl w).call b1 |>.alloc _) b2⟩
set_option maxHeartbeats 8000000 in
theorem len_no (n c s : Int) (w : World) (h : ¬ (inR c (clN n) = true ∧ inR s 4 = true)) :
    Calls Tryd.prog 8 #[.int .i64 n, .int .i64 c, .int .i64 s] w fun e w' => e = .returned (.float .f64 0) ∧ Below w.heap.size w w' := by
  cases hc : inR c (clN n) with
  | false =>
    have CO := hid (fun u => corners_no n c u hc)
    clear h hc
    go_enter Tryd.func8, Tryd.ntmps8
    go_wp2_with fail
    refine (CO.out _).mono ?_
    rintro e v ⟨rfl, b1⟩
    go_wp2
    go_ret
    exact ⟨rfl, ((Ab.refl w).call b1).alloc _⟩
  | true =>
    have hs : ¬ (0 ≤ s ∧ s < 4) := fun k => h ⟨hc, inR_iff.2 k⟩
    obtain ⟨m, d, rfl, rfl, hm, hd⟩ := nat_cell hc
    have CO := hid (fun u => corners_ok m d u hm hd)
    have s0 : s ≠ 0 := by omega
    have s1 : s ≠ 1 := by omega
    have s2 : s ≠ 2 := by omega
    have s3 : s ≠ 3 := by omega
    clear h hc hs hm hd
    generalize px m (cr m (cf m d) (ci m d) (cj m d)) = a0 at *
    generalize py m (cr m (cf m d) (ci m d) (cj m d)) = b0 at *
    generalize pz m (cr m (cf m d) (ci m d) (cj m d)) = d0 at *
    generalize px m (cr m (cf m d) (ci m d + 1) (cj m d)) = a1 at *
    generalize py m (cr m (cf m d) (ci m d + 1) (cj m d)) = b1 at *
    generalize pz m (cr m (cf m d) (ci m d + 1) (cj m d)) = d1 at *
    generalize px m (cr m (cf m d) (ci m d + 1) (cj m d + 1)) = a2 at *
    generalize py m (cr m (cf m d) (ci m d + 1) (cj m d + 1)) = b2 at *
    generalize pz m (cr m (cf m d) (ci m d + 1) (cj m d + 1)) = d2 at *
    generalize px m (cr m (cf m d) (ci m d) (cj m d + 1)) = a3 at *
    generalize py m (cr m (cf m d) (ci m d) (cj m d + 1)) = b3 at *
    generalize pz m (cr m (cf m d) (ci m d) (cj m d + 1)) = d3 at *
    go_enter Tryd.func8, Tryd.ntmps8
    go_wp2_with fail
    refine (CO.out _).mono ?_
    rintro e v ⟨rfl, b1⟩
    go_wp2
    go_ret
    exact ⟨rfl, ((Ab.refl w).call b1).alloc _⟩
set_option maxHeartbeats 8000000 in
theorem gap_ok (n c s : Nat) (w : World) (hn : 1 ≤ n ∧ n ≤ 32) (hc : c < 6 * n * n) (hs : s < 4) (hF : Fr w) :
    Calls Tryd.prog 9 #[.int .i64 n, .int .i64 c, .int .i64 s] w fun e w' => e = .returned (.float .f64 (GpC n c s)) ∧ Below w.heap.size w w' := by
  obtain ⟨hb, -⟩ := bs_lt hn.1 hc hs
  have BE := hid (beside_at n c s w hn hc hs hF)
  have M1 := hid (fun u => middle_ok n c u hn hc)
  have M2 := hid (fun u => middle_ok n (bsC n c s) u hn hb)
  have GA : Hid (∀ u, Calls Tryd.prog 22 #[.agg #[.float .f64 (px n (MD n c)), .float .f64 (py n (MD n c)), .float .f64 (pz n (MD n c))], .agg #[.float .f64 (px n (MD n (bsC n c s))), .float .f64 (py n (MD n (bsC n c s))), .float .f64 (pz n (MD n (bsC n c s)))]] u fun e w' => e = .returned (.float .f64 (GpC n c s)) ∧ Below u.heap.size u w') := fun u => gap_at _ _ _ _ _ _ u (px_lt _ _) (py_lt _ _) (pz_lt _ _) (px_lt _ _) (py_lt _ _) (pz_lt _ _)
  generalize px n (MD n c) = x at *
  generalize py n (MD n c) = y at *
  generalize pz n (MD n c) = z at *
  generalize px n (MD n (bsC n c s)) = x' at *
  generalize py n (MD n (bsC n c s)) = y' at *
  generalize pz n (MD n (bsC n c s)) = z' at *
  generalize GpC n c s = G at *
  generalize bsC n c s = c' at *
  generalize bsS n c s = s' at *
  clear hn hc hs hF hb
  go_enter Tryd.func9, Tryd.ntmps9
  go_wp2_with fail
  refine (BE.out).mono ?_
  rintro e v ⟨rfl, b1⟩
  go_wp2_with fail
  refine (M1.out _).mono ?_
  rintro e v2 ⟨rfl, b2⟩
  go_wp2_with fail
  refine (M2.out _).mono ?_
  rintro e v3 ⟨rfl, b3⟩
  have B2 : Hid (Ab w v2) := (Ab.call b1 b2)
  have B3 : Hid (Ab w v3) := Ab.call (B2.out.alloc _) b3
  have r2 : v3.heap[v2.heap.size]? = some (.cells #[.float .f64 x, .float .f64 y, .float .f64 z] 30) := newrow' b3
  have r2' : (v3.alloc (.cells #[.float .f64 x', .float .f64 y', .float .f64 z'] 30)).heap[v2.heap.size]? = some (.cells #[.float .f64 x, .float .f64 y, .float .f64 z] 30) := by
    rw [Below.heap_alloc _ _ _ (by have := b3.size; simp at this; omega)]; exact r2
  obtain ⟨-, q0, q1, q2⟩ := rowfacts r2'
  clear r2 r2' b1 b2 b3
  go_wp2_with fail
  refine (GA.out _).mono ?_
  rintro e v4 ⟨rfl, b4⟩
  go_wp2
  go_ret
  exact ⟨rfl, Ab.call (B3.out.alloc _) b4⟩
end Go.Proofs.YtebnjbljabjgaaaDoor

namespace Go.Proofs.YtebnjbljabjgaaaDoor
open Go.RowKit Tf Cu
attribute [local go_sem] run_bits run_from raw_feq raw_fne raw_flt raw_fgt run_neg run_store_float
set_option maxHeartbeats 2000000 in
theorem bes_no (n c s : Int) (w : World) (h : ¬ (inR c (clN n) = true ∧ inR s 4 = true)) :
    Calls Tryd.prog 23 #[.int .i64 n, .int .i64 c, .int .i64 s] w fun e w' => e = .returned (.tuple #[.int .i64 (-1), .int .i64 0]) ∧ Below w.heap.size w w' := by
  obtain ⟨a, ha⟩ : ∃ a, inR c (clN n) = a := ⟨_, rfl⟩
  obtain ⟨b, hb⟩ : ∃ b, inR s 4 = b := ⟨_, rfl⟩
  rw [ha, hb] at h
  have P : Hid (∀ u, Calls Tryd.prog 24 #[.int .i64 n, .int .i64 c] u fun e w' => e = .returned (.tuple #[.int .i64 (pF n c), .int .i64 (pI n c), .int .i64 (pJ n c), .bool a]) ∧ ∃ k, w' = u.drewN k) := fun u => by rw [← ha]; exact place_at n c u
  have K : Hid (∀ u, Calls Tryd.prog 39 #[.int .i64 s, .int .i64 4] u fun e w' => e = .returned (.bool b) ∧ w' = u) := fun u => by rw [← hb]; exact counts_at s 4 u
  generalize pF n c = x1 at P
  generalize pI n c = x2 at P
  generalize pJ n c = x3 at P
  clear ha hb
  cases a with
  | false =>
    clear h
    go_enter Tryd.func23, Tryd.ntmps23
    go_wp2_with (first
      | (go_at_call 24; refine (P.out _).mono ?_; rintro e w' ⟨rfl, k, rfl⟩)
      | (go_at_call 39; refine (K.out _).mono ?_; rintro e w' ⟨rfl, rfl⟩))
    go_ret2
    exact ⟨rfl, (Ab.refl w).drewN k⟩
  | true =>
    cases b with
    | true => exact absurd ⟨rfl, rfl⟩ h
    | false =>
      clear h
      go_enter Tryd.func23, Tryd.ntmps23
      go_wp2_with (first
        | (go_at_call 24; refine (P.out _).mono ?_; rintro e w' ⟨rfl, k, rfl⟩)
        | (go_at_call 39; refine (K.out _).mono ?_; rintro e w' ⟨rfl, rfl⟩))
      go_ret2
      exact ⟨rfl, (Ab.refl w).drewN k⟩
set_option maxHeartbeats 4000000 in
theorem gap_no (n c s : Int) (w : World) (h : ¬ (inR c (clN n) = true ∧ inR s 4 = true)) :
    Calls Tryd.prog 9 #[.int .i64 n, .int .i64 c, .int .i64 s] w fun e w' => e = .returned (.float .f64 0) ∧ Below w.heap.size w w' := by
  have BE := hid (fun u => bes_no n c s u h)
  have M2 : Hid (∀ u, Calls Tryd.prog 10 #[.int .i64 n, .int .i64 (-1)] u fun e w' => e = .returned (.tuple #[.agg #[.float .f64 0, .float .f64 0, .float .f64 0], .bool false]) ∧ Below u.heap.size u w') := fun u => middle_no n (-1) u (by rw [inR_no]; omega)
  have M1 : ∃ (x y z : Nat) (b : Bool), Hid (∀ u, Calls Tryd.prog 10 #[.int .i64 n, .int .i64 c] u fun e w' => e = .returned (.tuple #[.agg #[.float .f64 x, .float .f64 y, .float .f64 z], .bool b]) ∧ Below u.heap.size u w') := by
    cases hc : inR c (clN n) with
    | false => exact ⟨0, 0, 0, false, fun u => middle_no n c u hc⟩
    | true =>
      obtain ⟨m, d, rfl, rfl, hm, hd⟩ := nat_cell hc
      exact ⟨_, _, _, true, fun u => middle_ok m d u hm hd⟩
  obtain ⟨x, y, z, b, M1⟩ := M1
  clear h
  go_enter Tryd.func9, Tryd.ntmps9
  go_wp2_with fail
  refine (BE.out _).mono ?_
  rintro e v ⟨rfl, b1⟩
  go_wp2_with fail
  refine (M1.out _).mono ?_
  rintro e v2 ⟨rfl, b2⟩
  go_wp2_with fail
  refine (M2.out _).mono ?_
  rintro e v3 ⟨rfl, b3⟩
  have B2 : Hid (Ab w v2) := (Ab.call b1 b2)
  have B3 : Hid (Ab w v3) := Ab.call (B2.out.alloc _) b3
  clear b1 b2 b3
  go_wp2
  go_ret
  exact ⟨rfl, B3.out.alloc _⟩
/-- an area, of its length -/
def arQ (L : Nat) : Nat := mlB (mlB (qB L) (qB 4602678819172646912)) (qB 4742290407621132288)
def arI (L : Nat) : Int := max (cI .even (arQ L)) 1
theorem cI_q (x : Nat) : cI .even x = cI .even (qB x) ∧ cOk .even x = cOk .even (qB x) := by
  unfold qB
  cases h : isN x
  · rw [if_neg (by decide)]; exact ⟨rfl, rfl⟩
  · rw [if_pos rfl]
    have e : cOk .even x = false := by
      unfold cOk fin
      have : ¬ mg x < 9218868437227405312 := by rw [isN_true] at h; omega
      simp [this]
    have e2 : cOk .even quiet = false := by decide +kernel
    unfold cI
    rw [e, e2]; simp only [Bool.false_eq_true, if_false, and_self]
set_option maxRecDepth 10000 in
set_option maxHeartbeats 16000000 in
theorem area_walk (n c : Nat) (a0 b0 d0 a1 b1 d1 a2 b2 d2 a3 b3 d3 : Nat) (w : World) (ha0 : Hid (a0 < 18446744073709551616)) (hb0 : Hid (b0 < 18446744073709551616)) (hd0 : Hid (d0 < 18446744073709551616)) (ha1 : Hid (a1 < 18446744073709551616)) (hb1 : Hid (b1 < 18446744073709551616)) (hd1 : Hid (d1 < 18446744073709551616)) (ha2 : Hid (a2 < 18446744073709551616)) (hb2 : Hid (b2 < 18446744073709551616)) (hd2 : Hid (d2 < 18446744073709551616)) (ha3 : Hid (a3 < 18446744073709551616)) (hb3 : Hid (b3 < 18446744073709551616)) (hd3 : Hid (d3 < 18446744073709551616))
    (CO : Hid (∀ u, Calls Tryd.prog 17 #[.int .i64 n, .int .i64 c] u fun e w' => e = .returned (.tuple #[.agg #[.float .f64 a0, .float .f64 b0, .float .f64 d0, .float .f64 a1, .float .f64 b1, .float .f64 d1, .float .f64 a2, .float .f64 b2, .float .f64 d2, .float .f64 a3, .float .f64 b3, .float .f64 d3], .bool true]) ∧ Below u.heap.size u w')) :
    Calls Tryd.prog 7 #[.int .i64 n, .int .i64 c] w fun e w' => e = .returned (.int .i64 (arI (cl (sbB a2 a0) (sbB b2 b0) (sbB d2 d0) (sbB a3 a1) (sbB b3 b1) (sbB d3 d1)))) ∧ Below w.heap.size w w' := by
  have MI := hid (fun x y z u v t w (hx : Hid (x < 18446744073709551616)) (hy : Hid (y < 18446744073709551616)) (hz : Hid (z < 18446744073709551616)) (hu : Hid (u < 18446744073709551616)) (hv : Hid (v < 18446744073709551616)) (ht : Hid (t < 18446744073709551616)) => minus_at x y z u v t w hx hy hz hu hv ht)
  have CR := hid (fun w => cross_at (sbB a2 a0) (sbB b2 b0) (sbB d2 d0) (sbB a3 a1) (sbB b3 b1) (sbB d3 d1) w (sbB_lt ha2 ha0) (sbB_lt hb2 hb0) (sbB_lt hd2 hd0) (sbB_lt ha3 ha1) (sbB_lt hb3 hb1) (sbB_lt hd3 hd1))
  have LN : Hid (∀ w, Calls Tryd.prog 18 #[.agg #[.float .f64 (sbB (mlB (sbB b2 b0) (sbB d3 d1)) (mlB (sbB d2 d0) (sbB b3 b1))), .float .f64 (sbB (mlB (sbB d2 d0) (sbB a3 a1)) (mlB (sbB a2 a0) (sbB d3 d1))), .float .f64 (sbB (mlB (sbB a2 a0) (sbB b3 b1)) (mlB (sbB b2 b0) (sbB a3 a1)))]] w fun e w' => e = .returned (.float .f64 (cl (sbB a2 a0) (sbB b2 b0) (sbB d2 d0) (sbB a3 a1) (sbB b3 b1) (sbB d3 d1))) ∧ Below w.heap.size w w') := fun w => length_at (sbB (mlB (sbB b2 b0) (sbB d3 d1)) (mlB (sbB d2 d0) (sbB b3 b1))) (sbB (mlB (sbB d2 d0) (sbB a3 a1)) (mlB (sbB a2 a0) (sbB d3 d1))) (sbB (mlB (sbB a2 a0) (sbB b3 b1)) (mlB (sbB b2 b0) (sbB a3 a1))) w (sbB_lt (mlB_lt (sbB_lt hb2 hb0) (sbB_lt hd3 hd1)) (mlB_lt (sbB_lt hd2 hd0) (sbB_lt hb3 hb1))) (sbB_lt (mlB_lt (sbB_lt hd2 hd0) (sbB_lt ha3 ha1)) (mlB_lt (sbB_lt ha2 ha0) (sbB_lt hd3 hd1))) (sbB_lt (mlB_lt (sbB_lt ha2 ha0) (sbB_lt hb3 hb1)) (mlB_lt (sbB_lt hb2 hb0) (sbB_lt ha3 ha1)))
  have lL : cl (sbB a2 a0) (sbB b2 b0) (sbB d2 d0) (sbB a3 a1) (sbB b3 b1) (sbB d3 d1) < 18446744073709551616 := by unfold cl lnB; exact rtB_lt _
  generalize cl (sbB a2 a0) (sbB b2 b0) (sbB d2 d0) (sbB a3 a1) (sbB b3 b1) (sbB d3 d1) = L at *
  generalize sbB (mlB (sbB b2 b0) (sbB d3 d1)) (mlB (sbB d2 d0) (sbB b3 b1)) = c1 at *
  generalize sbB (mlB (sbB d2 d0) (sbB a3 a1)) (mlB (sbB a2 a0) (sbB d3 d1)) = c2 at *
  generalize sbB (mlB (sbB a2 a0) (sbB b3 b1)) (mlB (sbB b2 b0) (sbB a3 a1)) = c3 at *
  have hmx : arI L = max (cI .even (arQ L)) 1 := by unfold arI; with_reducible rfl
  obtain ⟨A, hA⟩ : ∃ A, cI .even (arQ L) = A := ⟨_, rfl⟩
  obtain ⟨ok, hok⟩ : ∃ ok, cOk .even (arQ L) = ok := ⟨_, rfl⟩
  rw [hmx, hA]
  have HA := hid hA
  have HO := hid hok
  clear hmx hA hok
  go_enter Tryd.func7, Tryd.ntmps7
  go_wp2_with fail
  refine (CO.out _).mono ?_
  rintro e v ⟨rfl, bq⟩
  go_upto_region 4 with fail
  generalize hW : World.alloc _ _ = W
  have AW : Hid (Ab w W) := by rw [← hW]; exact Ab.alloc bq _
  have RW : Hid (W.heap[v.heap.size]? = some (.cells #[.float .f64 a0, .float .f64 b0, .float .f64 d0, .float .f64 a1, .float .f64 b1, .float .f64 d1, .float .f64 a2, .float .f64 b2, .float .f64 d2, .float .f64 a3, .float .f64 b3, .float .f64 d3] 45)) := by rw [← hW]; exact heap_alloc_new _ _
  clear hW bq CO
  obtain ⟨UU, F, hF1, hF2⟩ := cls W
  have HF := hid hF2
  have HF1 := hid hF1
  have x0 : ∀ vv, (F vv).cell? ⟨v.heap.size, 0, none⟩ = some (.float .f64 a0) := fun vv => cell_of_row _ _ 0 _ _ _ ((hF1 vv).heap RW.out)
  have x1 : ∀ vv, (F vv).cell? ⟨v.heap.size, 1, none⟩ = some (.float .f64 b0) := fun vv => cell_of_row _ _ 1 _ _ _ ((hF1 vv).heap RW.out)
  have x2 : ∀ vv, (F vv).cell? ⟨v.heap.size, 2, none⟩ = some (.float .f64 d0) := fun vv => cell_of_row _ _ 2 _ _ _ ((hF1 vv).heap RW.out)
  have x3 : ∀ vv, (F vv).cell? ⟨v.heap.size, 3, none⟩ = some (.float .f64 a1) := fun vv => cell_of_row _ _ 3 _ _ _ ((hF1 vv).heap RW.out)
  have x4 : ∀ vv, (F vv).cell? ⟨v.heap.size, 4, none⟩ = some (.float .f64 b1) := fun vv => cell_of_row _ _ 4 _ _ _ ((hF1 vv).heap RW.out)
  have x5 : ∀ vv, (F vv).cell? ⟨v.heap.size, 5, none⟩ = some (.float .f64 d1) := fun vv => cell_of_row _ _ 5 _ _ _ ((hF1 vv).heap RW.out)
  have x6 : ∀ vv, (F vv).cell? ⟨v.heap.size, 6, none⟩ = some (.float .f64 a2) := fun vv => cell_of_row _ _ 6 _ _ _ ((hF1 vv).heap RW.out)
  have x7 : ∀ vv, (F vv).cell? ⟨v.heap.size, 7, none⟩ = some (.float .f64 b2) := fun vv => cell_of_row _ _ 7 _ _ _ ((hF1 vv).heap RW.out)
  have x8 : ∀ vv, (F vv).cell? ⟨v.heap.size, 8, none⟩ = some (.float .f64 d2) := fun vv => cell_of_row _ _ 8 _ _ _ ((hF1 vv).heap RW.out)
  have x9 : ∀ vv, (F vv).cell? ⟨v.heap.size, 9, none⟩ = some (.float .f64 a3) := fun vv => cell_of_row _ _ 9 _ _ _ ((hF1 vv).heap RW.out)
  have x10 : ∀ vv, (F vv).cell? ⟨v.heap.size, 10, none⟩ = some (.float .f64 b3) := fun vv => cell_of_row _ _ 10 _ _ _ ((hF1 vv).heap RW.out)
  have x11 : ∀ vv, (F vv).cell? ⟨v.heap.size, 11, none⟩ = some (.float .f64 d3) := fun vv => cell_of_row _ _ 11 _ _ _ ((hF1 vv).heap RW.out)
  have D := HF.out _ (Ab.refl W).drew
  clear hF1 hF2
  refine region_cls F (by kernel_rfl) (by kernel_rfl) D ?_
  repeat (go_big_quiet_step (first
    | (with_reducible rfl)
    | (go_at_call 20; exact calls_cls HF HF1 (MI.out _ _ _ _ _ _ _ (by assumption) (by assumption) (by assumption) (by assumption) (by assumption) (by assumption)))
    | (go_at_call 19; exact calls_cls HF HF1 (CR.out _))
    | (go_at_call 18; exact calls_cls HF HF1 (LN.out _))))
  refine wpQuiet_nil ?_
  intro wz hwz
  obtain ⟨vv, hv⟩ := hwz
  have bz : Below W.heap.size W wz := by rw [hv]; exact HF1.out vv
  clear hv vv
  clear HF HF1 D x0 x1 x2 x3 x4 x5 x6 x7 x8 x9 x10 x11
  clear F UU
  have AZ : Hid (Ab w wz) := AW.out.call bz
  clear bz AW RW
  obtain ⟨r1, n1, k1, q1⟩ := mul_any (P := Tryd.prog) wz L _ 4602678819172646912 _ (IsQ.self lL) (IsQ.self (by decide))
  obtain ⟨r2, n2, k2, q2⟩ := mul_any (P := Tryd.prog) (wz.drewN n1) r1 _ 4742290407621132288 _ q1 (IsQ.self (by decide))
  have RO : Hid (∀ u, Calls Tryd.prog 21 #[.float .f64 r2] u fun e w' => e = .returned (.tuple #[.int .i64 A, .bool ok]) ∧ ∃ n, w' = u.drewN n) := fun u =>
    round_at r2 A ok u q2.1 (by rw [(cI_q r2).1, q2.2]; exact HA.out) (by rw [(cI_q r2).2, q2.2]; exact HO.out)
  rw [World.drewN_drewN] at k2
  clear q1 q2 HA HO
  go_wp2_with fail
  refine (RO.out _).mono ?_
  rintro e w5 ⟨rfl, n3, rfl⟩
  go_wp2
  all_goals go_ret
  all_goals exact ⟨congrArg (fun z => Ending.returned (.int .i64 z)) (by omega), Ab.drewN AZ.out _⟩
theorem area_ok (n c : Nat) (w : World) (hn : 1 ≤ n ∧ n ≤ 32) (hc : c < 6 * n * n) :
    Calls Tryd.prog 7 #[.int .i64 n, .int .i64 c] w fun e w' => e = .returned (.int .i64 (arI (ArC n c))) ∧ Below w.heap.size w w' := by
  have h := area_walk n c _ _ _ _ _ _ _ _ _ _ _ _ w (px_lt n _) (py_lt n _) (pz_lt n _) (px_lt n _) (py_lt n _) (pz_lt n _) (px_lt n _) (py_lt n _) (pz_lt n _) (px_lt n _) (py_lt n _) (pz_lt n _) (fun u => corners_ok n c u hn hc)
  unfold ArC ar
  exact h
set_option maxHeartbeats 4000000 in
theorem area_no (n c : Int) (w : World) (h : inR c (clN n) = false) :
    Calls Tryd.prog 7 #[.int .i64 n, .int .i64 c] w fun e w' => e = .returned (.int .i64 0) ∧ Below w.heap.size w w' := by
  have CO := hid (fun u => corners_no n c u h)
  clear h
  go_enter Tryd.func7, Tryd.ntmps7
  go_wp2_with fail
  refine (CO.out _).mono ?_
  rintro e v ⟨rfl, b1⟩
  go_wp2
  go_ret
  exact ⟨rfl, ((Ab.refl w).call b1).alloc _⟩
end Go.Proofs.YtebnjbljabjgaaaDoor

namespace Go.Proofs.YtebnjbljabjgaaaDoor
open Go.RowKit Tf Cu
attribute [local go_sem] run_bits run_from raw_feq raw_fne raw_flt raw_fgt run_neg run_store_float
set_option maxHeartbeats 4000000 in
theorem same8_at (x y z p q r : Nat) (w : World) :
    Calls Tryd.prog 15 #[.agg #[.float .f64 x, .float .f64 y, .float .f64 z], .agg #[.float .f64 p, .float .f64 q, .float .f64 r]] w fun e w' => e = .returned (.bool (sameB x p && sameB y q && sameB z r)) ∧ Below w.heap.size w w' := by
  have S1 := hid (fun w => rawSame_any x p w)
  have S2 := hid (fun w => rawSame_any y q w)
  have S3 := hid (fun w => rawSame_any z r w)
  generalize sameB x p = b1 at *
  generalize sameB y q = b2 at *
  generalize sameB z r = b3 at *
  have A0 := hid (bl2 w (.cells #[.float .f64 x, .float .f64 y, .float .f64 z] 30) (.cells #[.float .f64 p, .float .f64 q, .float .f64 r] 30))
  cases b1 <;> cases b2 <;> cases b3
  all_goals
    go_enter Tryd.func15, Tryd.ntmps15
    go_wp2_with (first
      | (go_at_call_of 29 x; refine (S1.out _).mono ?_; rintro e w' ⟨rfl, rfl⟩)
      | (go_at_call_of 29 y; refine (S2.out _).mono ?_; rintro e w' ⟨rfl, rfl⟩)
      | (go_at_call_of 29 z; refine (S3.out _).mono ?_; rintro e w' ⟨rfl, rfl⟩))
    go_ret
    exact ⟨rfl, A0.out⟩
theorem sameB_eq {a b : Nat} (h : a = b) : sameB a b = true := by subst h; unfold sameB; simp
theorem ag1 : px 2 (cr 2 0 1 1) = 4607182418800017408 := by decide +kernel
theorem ag2 : px 1 (MD 1 0) = 4607182418800017408 := by decide +kernel
theorem ag3 : arI (ArC 1 0) = 1431655765 := by decide +kernel
theorem ag4 : arI (ArC 4 5) = 205701258 := by decide +kernel
theorem ag5 : fgt (LnC 1 0 0) 4607857958744122982 = true := by decide +kernel
theorem ag6 : fgt (GpC 1 0 0) 4609028894647239311 = true := by decide +kernel
theorem ag7 : feq 4607182418800017408 4607182418800017408 = true := by decide +kernel
set_option maxHeartbeats 4000000 in
theorem awake8_at (w : World) (h : Fr w) : Calls Tryd.prog 5 #[] w fun e w' => e = .returned (.bool true) ∧ Below w.heap.size w w' := by
  have CO := hid (fun u => corner_ok 2 0 1 1 u (by omega) (by omega) (by omega) (by omega))
  have MI := hid (fun u => middle_ok 1 0 u (by omega) (by omega))
  have A1 := hid (fun u => area_ok 1 0 u (by omega) (by omega))
  have A2 := hid (fun u => area_ok 4 5 u (by omega) (by omega))
  have LE := hid (fun u => len_ok 1 0 0 u (by omega) (by omega) (by omega))
  have GA := hid (fun u (hu : Ab w u) => gap_ok 1 0 0 u (by omega) (by omega) (by omega) (h.to hu))
  rw [ag1] at CO
  rw [ag2] at MI
  rw [ag3] at A1
  rw [ag4] at A2
  have g5 := ag5
  have g6 := ag6
  have g7 := ag7
  generalize LnC 1 0 0 = L at *
  generalize GpC 1 0 0 = G at *
  generalize py 2 (cr 2 0 1 1) = y at *
  generalize pz 2 (cr 2 0 1 1) = z at *
  generalize py 1 (MD 1 0) = y1 at *
  generalize pz 1 (MD 1 0) = z1 at *
  clear h
  go_enter Tryd.func5, Tryd.ntmps5
  go_wp2_with fail
  refine (CO.out _).mono ?_
  rintro e v1 ⟨rfl, b1⟩
  have B1 : Hid (Ab w (v1.alloc (.cells #[.float .f64 4607182418800017408, .float .f64 y, .float .f64 z] 30))) := Ab.alloc b1 _
  go_wp2_with fail
  refine (MI.out _).mono ?_
  rintro e v2 ⟨rfl, b2⟩
  have B2 : Hid (Ab w v2) := B1.out.call b2
  have B3 : Hid (Ab w (v2.alloc (.cells #[.float .f64 4607182418800017408, .float .f64 y1, .float .f64 z1] 30))) := Ab.alloc B2.out _
  have r1 : v2.heap[v1.heap.size]? = some (.cells #[.float .f64 4607182418800017408, .float .f64 y, .float .f64 z] 30) := newrow' b2
  have r2 : (v2.alloc (.cells #[.float .f64 4607182418800017408, .float .f64 y1, .float .f64 z1] 30)).heap[v1.heap.size]? = some (.cells #[.float .f64 4607182418800017408, .float .f64 y, .float .f64 z] 30) := by
    rw [Below.heap_alloc _ _ _ (by have := b2.size; simp at this; omega)]; exact r1
  obtain ⟨-, q0, -, -⟩ := rowfacts r2
  clear r1 r2 b1 b2
  go_wp2_with fail
  refine (A1.out _).mono ?_
  rintro e v3 ⟨rfl, b3⟩
  have B4 : Hid (Ab w v3) := B3.out.call b3
  go_wp2_with fail
  refine (A2.out _).mono ?_
  rintro e v4 ⟨rfl, b4⟩
  have B5 : Hid (Ab w v4) := B4.out.call b4
  go_wp2_with fail
  refine (LE.out _).mono ?_
  rintro e v5 ⟨rfl, b5⟩
  have B6 : Hid (Ab w v5) := B5.out.call b5
  go_wp2_with fail
  refine (GA.out _ B6.out).mono ?_
  rintro e v6 ⟨rfl, b6⟩
  go_wp2
  go_ret
  exact ⟨rfl, B6.out.call b6⟩
end Go.Proofs.YtebnjbljabjgaaaDoor

namespace Go.Proofs.YtebnjbljabjgaaaDoor
open Tf

theorem rne_near (n g : Nat) (hg : 0 < g) : 2 * n ≤ 2 * (rne n g * g) + g ∧ 2 * (rne n g * g) ≤ 2 * n + g ∧ ((2 * n = 2 * (rne n g * g) + g ∨ 2 * (rne n g * g) = 2 * n + g) → rne n g % 2 = 0) := by
  have h := Nat.div_add_mod n g
  have hm := Nat.mod_lt n hg
  rw [Nat.mul_comm] at h
  unfold rne
  by_cases c : g < 2 * (n % g) ∨ (g = 2 * (n % g) ∧ n / g % 2 = 1)
  · rw [if_pos c, Nat.add_mul, Nat.one_mul]
    generalize n / g * g = P at *
    omega
  · rw [if_neg c, Nat.add_zero]
    generalize n / g * g = P at *
    omega
/-- at most a half away, at a half even -/
theorem even_near (x : Nat) : 2 * (sv x - cq .even x * one) ≤ one ∧ -(one : Int) ≤ 2 * (sv x - cq .even x * one) ∧ ((2 * (sv x - cq .even x * one) = one ∨ 2 * (sv x - cq .even x * one) = -(one : Int)) → cq .even x % 2 = 0) := by
  have h := rne_near (mv (mg x)) one one_pos
  unfold sv cq
  rw [cutq_even]
  generalize hq : rne (mv (mg x)) one = q at *
  have hp : ((q * one : Nat) : Int) = (q : Int) * (one : Int) := Int.natCast_mul ..
  cases ng x
  · simp only [Bool.false_eq_true, if_false]
    rw [← hp]
    generalize q * one = Q at *
    omega
  · simp only [if_true, Int.neg_mul]
    rw [← hp]
    generalize q * one = Q at *
    omega
end Go.Proofs.YtebnjbljabjgaaaDoor

namespace Go.Proofs.YtebnjbljabjgaaaDoor
open Tf

theorem cq_even_mono {x y : Nat} (h : sv x ≤ sv y) : cq .even x ≤ cq .even y := by
  by_cases c : cq .even x ≤ cq .even y
  · exact c
  · exfalso
    obtain ⟨a1, a2, a3⟩ := even_near x
    obtain ⟨b1, b2, b3⟩ := even_near y
    have o := onep
    have e : (cq .even y + 1) * one ≤ cq .even x * one := Int.mul_le_mul_of_nonneg_right (by omega) (by omega)
    rw [Int.add_mul, Int.one_mul] at e
    have p1 := a3 (.inr (by omega))
    have p2 := b3 (.inl (by omega))
    have e2 : cq .even x * one = (cq .even y + 1) * one := by rw [Int.add_mul, Int.one_mul]; omega
    have := Int.eq_of_mul_eq_mul_right (by omega) e2
    omega

end Go.Proofs.YtebnjbljabjgaaaDoor

namespace Go.Proofs.YtebnjbljabjgaaaDoor
open Tf
theorem ml_nn {a c : Nat} (ha : a < 9218868437227405312) (hc : c < 9218868437227405312) : mlB a c = min (rung 52 1074 (mv a * mv c)) 9218868437227405312 := by
  have ma : mg a = a := mg_of_lt (by omega)
  have mc : mg c = c := mg_of_lt (by omega)
  have e := mul_d a c (by omega) (by omega) (by rw [ma]; exact ha) (by rw [mc]; exact hc)
  rw [ng_of_lt (by omega), ng_of_lt (by omega), ma, mc] at e
  rw [mlB_some e, if_neg (by decide)]
theorem mv_mono' {a b : Nat} (h : a ≤ b) : mv a ≤ mv b := by
  rcases Nat.lt_or_ge (mv b) (mv a) with k | k
  · have e1 : rung 52 0 (mv a) = a := rung_mag0 52 a (by omega)
    have e2 : rung 52 0 (mv b) = b := rung_mag0 52 b (by omega)
    have := rung_mono (p := 52) (d := 0) (by omega) (Nat.le_of_lt k)
    rw [e1, e2] at this
    have : a = b := by omega
    rw [this]; exact Nat.le_refl _
  · exact k
theorem ml_le {a b c : Nat} (h : a ≤ b) (hb : b < 9218868437227405312) (hc : c < 9218868437227405312) : mlB a c ≤ mlB b c := by
  rw [ml_nn (by omega) hc, ml_nn hb hc]
  have := rung_mono (p := 52) (d := 1074) (by omega) (Nat.mul_le_mul_right (mv c) (mv_mono' h))
  omega
theorem arI_le {L : Nat} (h : L ≤ 4616189618054758400) : 1 ≤ arI L ∧ arI L ≤ 2147483648 := by
  have q0 : qB L = L := by unfold qB; rw [if_neg (by rw [isN_true, mg_of_lt (by omega)]; omega)]
  have q1 : qB 4602678819172646912 = 4602678819172646912 := by decide
  have q2 : qB 4742290407621132288 = 4742290407621132288 := by decide
  have e1 : mlB 4616189618054758400 4602678819172646912 = 4611686018427387904 := by decide +kernel
  have e2 : mlB 4611686018427387904 4742290407621132288 = 4746794007248502784 := by decide +kernel
  have m1 := ml_le (c := 4602678819172646912) h (by omega) (by omega)
  rw [e1] at m1
  have m2 := ml_le (c := 4742290407621132288) m1 (by omega) (by omega)
  rw [e2] at m2
  have hA : arQ L = mlB (mlB L 4602678819172646912) 4742290407621132288 := by unfold arQ; rw [q0, q1, q2]
  unfold arI
  rw [hA]
  generalize mlB (mlB L 4602678819172646912) 4742290407621132288 = y at *
  have hy : mg y = y := mg_of_lt (by omega)
  have hc : cq .even y ≤ cq .even 4746794007248502784 := by
    refine cq_even_mono ?_
    have s1 : sv y = (mv y : Int) := by unfold sv; rw [ng_of_lt (by omega), hy]; rfl
    have s2 : sv 4746794007248502784 = (mv 4746794007248502784 : Int) := by unfold sv; rw [ng_of_lt (by omega), mg_of_lt (by omega)]; rfl
    rw [s1, s2]
    have := mv_mono' m2
    omega
  have hv : cq .even 4746794007248502784 = 2147483648 := by decide +kernel
  rw [hv] at hc
  have hI : cI .even y ≤ 2147483648 := by
    unfold cI
    split
    · exact hc
    · omega
  generalize cI .even y = z at *
  clear hA q0 q1 q2 e1 e2 m1 m2 hc hv hy
  omega
end Go.Proofs.YtebnjbljabjgaaaDoor

namespace Go.Proofs.YtebnjbljabjgaaaDoor
open Go.RowKit Tf Cu
attribute [local go_sem] run_bits run_from raw_feq raw_fne raw_flt raw_fgt run_neg run_store_float
theorem two_cmp {L : Nat} (h1 : 1 ≤ L) (h2 : L ≤ 4611686018427387904) : fgt L 0 = true ∧ (flt L 4611686018427387904 || feq L 4611686018427387904) = true := by
  have hm : mg L = L := mg_of_lt (by omega)
  have hn : ng L = false := ng_of_lt (by omega)
  have r1 : rk L = (L : Int) := by unfold rk; rw [hn, hm]; rfl
  have r2 : rk 0 = 0 := by decide
  have r3 : rk 4611686018427387904 = 4611686018427387904 := by decide
  have i1 : isN L = false := by rw [isN_false, hm]; omega
  have i2 : isN 0 = false := by decide
  have i3 : isN 4611686018427387904 = false := by decide
  rw [fgt_rk L 0 (by omega) (by omega), flt_rk L 4611686018427387904 (by omega) (by omega), feq_rk L 4611686018427387904 (by omega) (by omega), r1, r2, r3, i1, i2, i3]
  simp
  omega
end Go.Proofs.YtebnjbljabjgaaaDoor

namespace Go.Proofs.YtebnjbljabjgaaaDoor
open Go.ChangeShapes Go.WideShapes Go.ChangeAt Go.WideMaps Go.WideElems Go.RowKit Cu

theorem own : ownKnob Tryd.prog.godebug = none := by kernel_rfl
theorem gFrames : Tryd.prog.globalNamed "tarn/cube.frames" = some 0 := by kernel_rfl
theorem tFrames : (Tryd.prog.globals[0]?).map (·.type) = some 75 := by kernel_rfl
theorem door_met (os : Os) (args : Array Value) : laidMetH Tryd.prog [("tarn/cube.frames", Rows.laid_tarn_cube_frames)] ((World.doorLaid Tryd.prog 400 os).forCall (fun _ _ => 0) ⟨#[], args, []⟩).memory :=
  laidMetH_of_parts3 (fuel := 8) (laidMet_of_run' 8 (by kernel_rfl) (by kernel_rfl)) (by kernel_rfl) (by kernel_rfl)
set_option maxRecDepth 100000 in
theorem pt_data {H : Type} {enc : TypeId × Value → H} {w : World} {base fuel : Nat} {spare : Nat → Bool} {held : Bool} {cs : List Value} {x : DataW H × List MemPlace} (h : DataW.trod enc Tryd.prog w base spare held fuel 67 cs = some x)
    (a b c : Int) (e : x.1 = .agg [.lit (.int .i64 a), .lit (.int .i64 b), .lit (.int .i64 c)]) : cs = [.int .i64 a, .int .i64 b, .int .i64 c] := by
  have k3 : Tryd.prog.cellsOf 3 = 1 := by kernel_rfl
  have kp : Tryd.prog.cellsOf 67 = 3 := by kernel_rfl
  obtain ⟨xs, m, _, hx, hlen, hn, hel⟩ := DataW.trod_array Tryd.underlying67 h
  rw [hx] at e
  match xs, hn, cs, hlen.trans kp with
  | [x0, x1, x2], _, [c0, c1, c2], _ =>
    have h0 := hel 0 (by decide)
    have h1 := hel 1 (by decide)
    have h2 := hel 2 (by decide)
    simp [k3] at h0 h1 h2
    obtain ⟨n0, e0, f0, _⟩ := DataW.trod_int Tryd.underlying3 h0
    obtain ⟨n1, e1, f1, _⟩ := DataW.trod_int Tryd.underlying3 h1
    obtain ⟨n2, e2, f2, _⟩ := DataW.trod_int Tryd.underlying3 h2
    simp at e0 e1 e2
    simp [f0, f1, f2] at e
    rw [e0, e1, e2, e.1, e.2.1, e.2.2]
set_option maxRecDepth 100000 in
theorem frame_data {H : Type} {enc : TypeId × Value → H} {w : World} {base fuel : Nat} {spare : Nat → Bool} {held : Bool} {cs : List Value} {x : DataW H × List MemPlace} (h : DataW.trod enc Tryd.prog w base spare held fuel 74 cs = some x)
    (p q r : P3) (e : x.1 = .agg [.agg [.lit (.int .i64 p.1), .lit (.int .i64 p.2.1), .lit (.int .i64 p.2.2)], .agg [.lit (.int .i64 q.1), .lit (.int .i64 q.2.1), .lit (.int .i64 q.2.2)], .agg [.lit (.int .i64 r.1), .lit (.int .i64 r.2.1), .lit (.int .i64 r.2.2)]]) :
    cs = [.int .i64 p.1, .int .i64 p.2.1, .int .i64 p.2.2, .int .i64 q.1, .int .i64 q.2.1, .int .i64 q.2.2, .int .i64 r.1, .int .i64 r.2.1, .int .i64 r.2.2] := by
  have kp : Tryd.prog.cellsOf 67 = 3 := by kernel_rfl
  have kf : Tryd.prog.cellsOf 74 = 9 := by kernel_rfl
  obtain ⟨xs, m, _, hx, hlen, hn, hel⟩ := DataW.trod_struct Tryd.underlying74 h
  rw [hx] at e
  match xs, hn, cs, hlen.trans kf with
  | [x0, x1, x2], _, [c0, c1, c2, c3, c4, c5, c6, c7, c8], _ =>
    have h0 := hel 0 _ rfl
    have h1 := hel 1 _ rfl
    have h2 := hel 2 _ rfl
    simp [kp] at h0 h1 h2
    simp at e
    have e0 := pt_data h0 _ _ _ e.1
    have e1 := pt_data h1 _ _ _ e.2.1
    have e2 := pt_data h2 _ _ _ e.2.2
    simp at e0 e1 e2
    simp [e0, e1, e2]
set_option maxRecDepth 100000 in
theorem table_data {H : Type} {enc : TypeId × Value → H} {w : World} {base fuel : Nat} {spare : Nat → Bool} {held : Bool} {cs : List Value} {x : DataW H × List MemPlace} (h : DataW.trod enc Tryd.prog w base spare held fuel 75 cs = some x)
    (e : x.1 = Rows.laid_tarn_cube_frames) : ∀ f, f < 6 → (cs.drop (f * 9)).take 9 = [.int .i64 (cC f).1, .int .i64 (cC f).2.1, .int .i64 (cC f).2.2, .int .i64 (cR f).1, .int .i64 (cR f).2.1, .int .i64 (cR f).2.2, .int .i64 (cU f).1, .int .i64 (cU f).2.1, .int .i64 (cU f).2.2] := by
  have kf : Tryd.prog.cellsOf 74 = 9 := by kernel_rfl
  obtain ⟨xs, m, _, hx, hlen, hn, hel⟩ := DataW.trod_array Tryd.underlying75 h
  rw [hx] at e
  intro f hf
  have h0 := hel f hf
  rw [kf] at h0
  match xs, hn with
  | [x0, x1, x2, x3, x4, x5], _ =>
    simp only [List.map_cons, List.map_nil, Rows.laid_tarn_cube_frames, DataW.agg.injEq, List.cons.injEq] at e
    rcases six hf with rfl | rfl | rfl | rfl | rfl | rfl
    · exact frame_data h0 (cC 0) (cR 0) (cU 0) e.1
    · exact frame_data h0 (cC 1) (cR 1) (cU 1) e.2.1
    · exact frame_data h0 (cC 2) (cR 2) (cU 2) e.2.2.1
    · exact frame_data h0 (cC 3) (cR 3) (cU 3) e.2.2.2.1
    · exact frame_data h0 (cC 4) (cR 4) (cU 4) e.2.2.2.2.1
    · exact frame_data h0 (cC 5) (cR 5) (cU 5) e.2.2.2.2.2.1
/-- WHAT THE CONDITION GIVES THE WALKS -/
theorem of_laid {W : World} (h : laidMetH Tryd.prog [("tarn/cube.frames", Rows.laid_tarn_cube_frames)] W) : Fr W := by
  rw [MakeChecks.laidMetH_plain _ _ _ (by kernel_rfl)] at h
  obtain ⟨ps, ⟨g0, t0, cs0, f0, p0, q0, hg0, ht0, hv0, hd0, _⟩, _⟩ := h
  obtain rfl := Option.some.inj (gFrames.symm.trans hg0)
  obtain rfl := Option.some.inj (tFrames.symm.trans ht0)
  have T := table_data hd0 rfl
  have C := World.var?_cell hg0 hv0
  have K : ∀ f, f < 6 → ∀ k, k < 9 → W.cell? ⟨0, f * 9 + k, none⟩ = ((cs0.toList.drop (f * 9)).take 9)[k]? := by
    intro f hf k hk
    rw [C, List.getElem?_take, if_pos hk, List.getElem?_drop]
    simp
  have N : ∀ f, f < 6 → Fr9 W f := by
    intro f hf
    have K := K f hf
    rw [T f hf] at K
    exact ⟨⟨K 0 (by omega), K 1 (by omega), K 2 (by omega)⟩, ⟨K 3 (by omega), K 4 (by omega), K 5 (by omega)⟩, ⟨K 6 (by omega), K 7 (by omega), K 8 (by omega)⟩⟩
  refine ⟨?_, N⟩
  have c0 := (N 0 (by omega)).1.1
  rcases Nat.lt_or_ge 0 W.heap.size with h1 | h1
  · exact h1
  · rw [World.cell?, Array.getElem?_eq_none h1] at c0; cases c0
end Go.Proofs.YtebnjbljabjgaaaDoor

namespace Go.Proofs.YtebnjbljabjgaaaDoor
open Go.ChangeShapes Go.WideShapes Go.ChangeAt Go.WideMaps Go.WideElems Go.RowKit Cu
theorem int_cell8 {H : Type} {enc : TypeId × Value → H} {w : World} {base n : Nat} {spare : Nat → Bool} {held : Bool} {v : Value} {x : DataW H × List MemPlace} (h : DataW.trod enc Tryd.prog w base spare held n 3 [v] = some x) : ∃ a, v = .int .i64 a := by
  obtain ⟨k, e, _, wf⟩ := DataW.trod_int Tryd.underlying3 h
  simp at e
  exact ⟨k, e⟩
set_option maxRecDepth 100000 in
theorem op_cells {H : Type} {enc : TypeId × Value → H} {w : World} {base n : Nat} {spare : Nat → Bool} {held : Bool} {v0 v1 v2 v3 v4 v5 : Value} {x : DataW H × List MemPlace} (h : DataW.trod enc Tryd.prog w base spare held n 38 [v0, v1, v2, v3, v4, v5] = some x) :
    ∃ a0 a1 a2 a3 a4 a5, v0 = .int .i64 a0 ∧ v1 = .int .i64 a1 ∧ v2 = .int .i64 a2 ∧ v3 = .int .i64 a3 ∧ v4 = .int .i64 a4 ∧ v5 = .int .i64 a5 := by
  have k3 : Tryd.prog.cellsOf 3 = 1 := by kernel_rfl
  obtain ⟨xs, m, _, hx, hlen, hn, hel⟩ := DataW.trod_struct Tryd.underlying38 h
  match xs, hn with
  | [x0, x1, x2, x3, x4, x5], _ =>
    have h0 := hel 0 _ rfl
    have h1 := hel 1 _ rfl
    have h2 := hel 2 _ rfl
    have h3 := hel 3 _ rfl
    have h4 := hel 4 _ rfl
    have h5 := hel 5 _ rfl
    simp [k3] at h0 h1 h2 h3 h4 h5
    obtain ⟨a0, e0⟩ := int_cell8 h0
    obtain ⟨a1, e1⟩ := int_cell8 h1
    obtain ⟨a2, e2⟩ := int_cell8 h2
    obtain ⟨a3, e3⟩ := int_cell8 h3
    obtain ⟨a4, e4⟩ := int_cell8 h4
    obtain ⟨a5, e5⟩ := int_cell8 h5
    exact ⟨a0, a1, a2, a3, a4, a5, e0, e1, e2, e3, e4, e5⟩
end Go.Proofs.YtebnjbljabjgaaaDoor
