/-
  A cell's corners, its area, the lengths of its sides and its gaps: walks over the program.
-/
import Derived.Test.YtdgkmaamjdglmaaDoorQc
import Derived.Test.YtdgkmaamjdglmaaDoorMn
namespace Go.Proofs.YtdgkmaamjdglmaaDoor
open Go.RowKit Tf Cu
attribute [local go_sem] run_bits run_from raw_feq raw_fne raw_flt raw_fgt run_neg run_store_float
theorem cells12 {w : World} {g : Nat} {v0 v1 v2 v3 v4 v5 v6 v7 v8 v9 v10 v11 : Value} {T : TypeId} (r : w.heap[g]? = some (.cells #[v0, v1, v2, v3, v4, v5, v6, v7, v8, v9, v10, v11] T)) :
    w.cell? ⟨g, 0, none⟩ = some v0 ∧ w.cell? ⟨g, 1, none⟩ = some v1 ∧ w.cell? ⟨g, 2, none⟩ = some v2 ∧ w.cell? ⟨g, 3, none⟩ = some v3 ∧ w.cell? ⟨g, 4, none⟩ = some v4 ∧ w.cell? ⟨g, 5, none⟩ = some v5 ∧ w.cell? ⟨g, 6, none⟩ = some v6 ∧ w.cell? ⟨g, 7, none⟩ = some v7 ∧ w.cell? ⟨g, 8, none⟩ = some v8 ∧ w.cell? ⟨g, 9, none⟩ = some v9 ∧ w.cell? ⟨g, 10, none⟩ = some v10 ∧ w.cell? ⟨g, 11, none⟩ = some v11 :=
  ⟨cell_of_row _ _ 0 _ _ _ r, cell_of_row _ _ 1 _ _ _ r, cell_of_row _ _ 2 _ _ _ r, cell_of_row _ _ 3 _ _ _ r, cell_of_row _ _ 4 _ _ _ r, cell_of_row _ _ 5 _ _ _ r, cell_of_row _ _ 6 _ _ _ r, cell_of_row _ _ 7 _ _ _ r, cell_of_row _ _ 8 _ _ _ r, cell_of_row _ _ 9 _ _ _ r, cell_of_row _ _ 10 _ _ _ r, cell_of_row _ _ 11 _ _ _ r⟩
theorem free12 {w : World} {g : Nat} {v0 v1 v2 v3 v4 v5 v6 v7 v8 v9 v10 v11 : Value} {T : TypeId} (r : w.heap[g]? = some (.cells #[v0, v1, v2, v3, v4, v5, v6, v7, v8, v9, v10, v11] T)) :
    w.frozen? ⟨g, 0, none⟩ = false ∧ w.frozen? ⟨g, 1, none⟩ = false ∧ w.frozen? ⟨g, 2, none⟩ = false ∧ w.frozen? ⟨g, 3, none⟩ = false ∧ w.frozen? ⟨g, 4, none⟩ = false ∧ w.frozen? ⟨g, 5, none⟩ = false ∧ w.frozen? ⟨g, 6, none⟩ = false ∧ w.frozen? ⟨g, 7, none⟩ = false ∧ w.frozen? ⟨g, 8, none⟩ = false ∧ w.frozen? ⟨g, 9, none⟩ = false ∧ w.frozen? ⟨g, 10, none⟩ = false ∧ w.frozen? ⟨g, 11, none⟩ = false :=
  ⟨free_row r 0, free_row r 1, free_row r 2, free_row r 3, free_row r 4, free_row r 5, free_row r 6, free_row r 7, free_row r 8, free_row r 9, free_row r 10, free_row r 11⟩
theorem put12_0 {w : World} {g : Nat} {v0 v1 v2 v3 v4 v5 v6 v7 v8 v9 v10 v11 x y z : Value} {T : TypeId} (h : w.heap[g]? = some (.cells #[v0, v1, v2, v3, v4, v5, v6, v7, v8, v9, v10, v11] T)) :
    (((w.setCell ⟨g, 0, none⟩ x).setCell ⟨g, 1, none⟩ y).setCell ⟨g, 2, none⟩ z).heap[g]? = some (.cells #[x, y, z, v3, v4, v5, v6, v7, v8, v9, v10, v11] T) := by
  have h1 := one_set (v := x) (k := 0) h
  have h2 := one_set (v := y) (k := 1) h1
  have h3 := one_set (v := z) (k := 2) h2
  simpa using h3
theorem put12_1 {w : World} {g : Nat} {v0 v1 v2 v3 v4 v5 v6 v7 v8 v9 v10 v11 x y z : Value} {T : TypeId} (h : w.heap[g]? = some (.cells #[v0, v1, v2, v3, v4, v5, v6, v7, v8, v9, v10, v11] T)) :
    (((w.setCell ⟨g, 3, none⟩ x).setCell ⟨g, 4, none⟩ y).setCell ⟨g, 5, none⟩ z).heap[g]? = some (.cells #[v0, v1, v2, x, y, z, v6, v7, v8, v9, v10, v11] T) := by
  have h1 := one_set (v := x) (k := 3) h
  have h2 := one_set (v := y) (k := 4) h1
  have h3 := one_set (v := z) (k := 5) h2
  simpa using h3
theorem put12_2 {w : World} {g : Nat} {v0 v1 v2 v3 v4 v5 v6 v7 v8 v9 v10 v11 x y z : Value} {T : TypeId} (h : w.heap[g]? = some (.cells #[v0, v1, v2, v3, v4, v5, v6, v7, v8, v9, v10, v11] T)) :
    (((w.setCell ⟨g, 6, none⟩ x).setCell ⟨g, 7, none⟩ y).setCell ⟨g, 8, none⟩ z).heap[g]? = some (.cells #[v0, v1, v2, v3, v4, v5, x, y, z, v9, v10, v11] T) := by
  have h1 := one_set (v := x) (k := 6) h
  have h2 := one_set (v := y) (k := 7) h1
  have h3 := one_set (v := z) (k := 8) h2
  simpa using h3
theorem put12_3 {w : World} {g : Nat} {v0 v1 v2 v3 v4 v5 v6 v7 v8 v9 v10 v11 x y z : Value} {T : TypeId} (h : w.heap[g]? = some (.cells #[v0, v1, v2, v3, v4, v5, v6, v7, v8, v9, v10, v11] T)) :
    (((w.setCell ⟨g, 9, none⟩ x).setCell ⟨g, 10, none⟩ y).setCell ⟨g, 11, none⟩ z).heap[g]? = some (.cells #[v0, v1, v2, v3, v4, v5, v6, v7, v8, x, y, z] T) := by
  have h1 := one_set (v := x) (k := 9) h
  have h2 := one_set (v := y) (k := 10) h1
  have h3 := one_set (v := z) (k := 11) h2
  simpa using h3
theorem nat_cell {n c : Int} (h : inR c (clN n) = true) : ∃ m d : Nat, n = m ∧ c = d ∧ (1 ≤ m ∧ m ≤ 32) ∧ d < 6 * m * m := by
  obtain ⟨⟨h1, h2⟩, h3, h4, h5⟩ := clN_pos h
  obtain ⟨m, rfl⟩ : ∃ m : Nat, n = m := ⟨n.toNat, by omega⟩
  obtain ⟨d, rfl⟩ : ∃ d : Nat, c = d := ⟨c.toNat, by omega⟩
  refine ⟨m, d, rfl, rfl, ⟨by omega, by omega⟩, ?_⟩
  have e : (6 * (m : Int) * m) = ((6 * m * m : Nat) : Int) := by simp
  rw [e] at h4
  omega
theorem other3 {w : World} {g h a b c : Nat} {x y z : Value} {o : Obj} (hne : h ≠ g) (hh : w.heap[h]? = some o) : (((w.setCell ⟨g, a, none⟩ x).setCell ⟨g, b, none⟩ y).setCell ⟨g, c, none⟩ z).heap[h]? = some o := by
  rw [Below.heap_setCell _ _ _ _ hne, Below.heap_setCell _ _ _ _ hne, Below.heap_setCell _ _ _ _ hne]; exact hh
set_option maxRecDepth 10000 in
set_option maxHeartbeats 8000000 in
theorem corners_ok (n c : Nat) (w : World) (hn : 1 ≤ n ∧ n ≤ 32) (hc : c < 6 * n * n) :
    Calls Tryd.prog 33 #[.int .i64 n, .int .i64 c] w fun e w' => e = .returned (.tuple #[.agg #[.float .f64 (px n (cr n (cf n c) (ci n c) (cj n c))), .float .f64 (py n (cr n (cf n c) (ci n c) (cj n c))), .float .f64 (pz n (cr n (cf n c) (ci n c) (cj n c))), .float .f64 (px n (cr n (cf n c) (ci n c + 1) (cj n c))), .float .f64 (py n (cr n (cf n c) (ci n c + 1) (cj n c))), .float .f64 (pz n (cr n (cf n c) (ci n c + 1) (cj n c))), .float .f64 (px n (cr n (cf n c) (ci n c + 1) (cj n c + 1))), .float .f64 (py n (cr n (cf n c) (ci n c + 1) (cj n c + 1))), .float .f64 (pz n (cr n (cf n c) (ci n c + 1) (cj n c + 1))), .float .f64 (px n (cr n (cf n c) (ci n c) (cj n c + 1))), .float .f64 (py n (cr n (cf n c) (ci n c) (cj n c + 1))), .float .f64 (pz n (cr n (cf n c) (ci n c) (cj n c + 1)))], .bool true]) ∧ Below w.heap.size w w' := by
  obtain ⟨h1, h2, h3, -⟩ := dec_lt hn.1 hc
  have PL := hid (fun u => place_ok n c hn hc u)
  have K0 : Hid (∀ u, Calls Tryd.prog 21 #[.int .i64 n, .int .i64 (cf n c : Nat), .int .i64 (ci n c : Nat), .int .i64 (cj n c : Nat)] u fun e w' => e = .returned (.tuple #[.agg #[.float .f64 (px n (cr n (cf n c) (ci n c) (cj n c))), .float .f64 (py n (cr n (cf n c) (ci n c) (cj n c))), .float .f64 (pz n (cr n (cf n c) (ci n c) (cj n c)))], .bool true]) ∧ Below u.heap.size u w') := fun u => corner_ok n (cf n c) (ci n c) (cj n c) u hn h1 (by omega) (by omega)
  have K1 : Hid (∀ u, Calls Tryd.prog 21 #[.int .i64 n, .int .i64 (cf n c : Nat), .int .i64 ((ci n c : Nat) + 1), .int .i64 (cj n c : Nat)] u fun e w' => e = .returned (.tuple #[.agg #[.float .f64 (px n (cr n (cf n c) (ci n c + 1) (cj n c))), .float .f64 (py n (cr n (cf n c) (ci n c + 1) (cj n c))), .float .f64 (pz n (cr n (cf n c) (ci n c + 1) (cj n c)))], .bool true]) ∧ Below u.heap.size u w') := fun u => corner_ok n (cf n c) (ci n c + 1) (cj n c) u hn h1 (by omega) (by omega)
  have K2 : Hid (∀ u, Calls Tryd.prog 21 #[.int .i64 n, .int .i64 (cf n c : Nat), .int .i64 ((ci n c : Nat) + 1), .int .i64 ((cj n c : Nat) + 1)] u fun e w' => e = .returned (.tuple #[.agg #[.float .f64 (px n (cr n (cf n c) (ci n c + 1) (cj n c + 1))), .float .f64 (py n (cr n (cf n c) (ci n c + 1) (cj n c + 1))), .float .f64 (pz n (cr n (cf n c) (ci n c + 1) (cj n c + 1)))], .bool true]) ∧ Below u.heap.size u w') := fun u => corner_ok n (cf n c) (ci n c + 1) (cj n c + 1) u hn h1 (by omega) (by omega)
  have K3 : Hid (∀ u, Calls Tryd.prog 21 #[.int .i64 n, .int .i64 (cf n c : Nat), .int .i64 (ci n c : Nat), .int .i64 ((cj n c : Nat) + 1)] u fun e w' => e = .returned (.tuple #[.agg #[.float .f64 (px n (cr n (cf n c) (ci n c) (cj n c + 1))), .float .f64 (py n (cr n (cf n c) (ci n c) (cj n c + 1))), .float .f64 (pz n (cr n (cf n c) (ci n c) (cj n c + 1)))], .bool true]) ∧ Below u.heap.size u w') := fun u => corner_ok n (cf n c) (ci n c) (cj n c + 1) u hn h1 (by omega) (by omega)
  generalize px n (cr n (cf n c) (ci n c) (cj n c)) = a0 at *
  generalize py n (cr n (cf n c) (ci n c) (cj n c)) = b0 at *
  generalize pz n (cr n (cf n c) (ci n c) (cj n c)) = d0 at *
  generalize px n (cr n (cf n c) (ci n c + 1) (cj n c)) = a1 at *
  generalize py n (cr n (cf n c) (ci n c + 1) (cj n c)) = b1 at *
  generalize pz n (cr n (cf n c) (ci n c + 1) (cj n c)) = d1 at *
  generalize px n (cr n (cf n c) (ci n c + 1) (cj n c + 1)) = a2 at *
  generalize py n (cr n (cf n c) (ci n c + 1) (cj n c + 1)) = b2 at *
  generalize pz n (cr n (cf n c) (ci n c + 1) (cj n c + 1)) = d2 at *
  generalize px n (cr n (cf n c) (ci n c) (cj n c + 1)) = a3 at *
  generalize py n (cr n (cf n c) (ci n c) (cj n c + 1)) = b3 at *
  generalize pz n (cr n (cf n c) (ci n c) (cj n c + 1)) = d3 at *
  have hi : ((ci n c : Nat) : Int) ≤ 32 := by omega
  have hj : ((cj n c : Nat) : Int) ≤ 32 := by omega
  generalize cf n c = f at *
  generalize ci n c = i at *
  generalize cj n c = j at *
  clear hn hc h1 h2 h3
  have A0 := hid (bl2 w (.cells #[.float .f64 0, .float .f64 0, .float .f64 0, .float .f64 0, .float .f64 0, .float .f64 0, .float .f64 0, .float .f64 0, .float .f64 0, .float .f64 0, .float .f64 0, .float .f64 0] 67) (.cells #[.float .f64 0, .float .f64 0, .float .f64 0, .float .f64 0, .float .f64 0, .float .f64 0, .float .f64 0, .float .f64 0, .float .f64 0, .float .f64 0, .float .f64 0, .float .f64 0] 67))
  have R0 := hid (And.intro (heap_alloc2_old w (.cells #[.float .f64 0, .float .f64 0, .float .f64 0, .float .f64 0, .float .f64 0, .float .f64 0, .float .f64 0, .float .f64 0, .float .f64 0, .float .f64 0, .float .f64 0, .float .f64 0] 67) (.cells #[.float .f64 0, .float .f64 0, .float .f64 0, .float .f64 0, .float .f64 0, .float .f64 0, .float .f64 0, .float .f64 0, .float .f64 0, .float .f64 0, .float .f64 0, .float .f64 0] 67)) (heap_alloc2_new w (.cells #[.float .f64 0, .float .f64 0, .float .f64 0, .float .f64 0, .float .f64 0, .float .f64 0, .float .f64 0, .float .f64 0, .float .f64 0, .float .f64 0, .float .f64 0, .float .f64 0] 67) (.cells #[.float .f64 0, .float .f64 0, .float .f64 0, .float .f64 0, .float .f64 0, .float .f64 0, .float .f64 0, .float .f64 0, .float .f64 0, .float .f64 0, .float .f64 0, .float .f64 0] 67)))
  go_enter Tryd.func33, Tryd.ntmps33
  go_wp2_with fail
  refine (PL.out _).mono ?_
  rintro e w1 ⟨rfl, m0, rfl⟩
  go_wp2_with fail
  refine (K0.out _).mono ?_
  rintro e u0 ⟨rfl, b0⟩
  have B0 : Hid (Ab w u0) := Ab.call (Ab.drewN A0.out _) b0
  have G0 : Hid (u0.heap[w.heap.size]? = some (.cells #[.float .f64 0, .float .f64 0, .float .f64 0, .float .f64 0, .float .f64 0, .float .f64 0, .float .f64 0, .float .f64 0, .float .f64 0, .float .f64 0, .float .f64 0, .float .f64 0] 67)) := Ab.heap b0 R0.out.1
  have H0 : Hid (u0.heap[w.heap.size + 1]? = some (.cells #[.float .f64 0, .float .f64 0, .float .f64 0, .float .f64 0, .float .f64 0, .float .f64 0, .float .f64 0, .float .f64 0, .float .f64 0, .float .f64 0, .float .f64 0, .float .f64 0] 67)) := Ab.heap b0 R0.out.2
  clear A0 R0 b0
  obtain ⟨q0, q1, q2, q3, q4, q5, q6, q7, q8, q9, q10, q11⟩ := cells12 H0.out
  obtain ⟨o0, o1, o2, o3, o4, o5, o6, o7, o8, o9, o10, o11⟩ := free12 H0.out
  clear q3 o3 q4 o4 q5 o5 q6 o6 q7 o7 q8 o8 q9 o9 q10 o10 q11 o11
  go_wp2_with fail
  refine (K1.out _).mono ?_
  rintro e u1 ⟨rfl, b1⟩
  have B1 : Hid (Ab w u1) := Ab.call (((Ab.setk B0.out (by omega) _).setk (by omega) _).setk (by omega) _) b1
  have G1 : Hid (u1.heap[w.heap.size]? = some (.cells #[.float .f64 0, .float .f64 0, .float .f64 0, .float .f64 0, .float .f64 0, .float .f64 0, .float .f64 0, .float .f64 0, .float .f64 0, .float .f64 0, .float .f64 0, .float .f64 0] 67)) := Ab.heap b1 (other3 (by omega) G0.out)
  have H1 : Hid (u1.heap[w.heap.size + 1]? = some (.cells #[.float .f64 a0, .float .f64 b0, .float .f64 d0, .float .f64 0, .float .f64 0, .float .f64 0, .float .f64 0, .float .f64 0, .float .f64 0, .float .f64 0, .float .f64 0, .float .f64 0] 67)) := Ab.heap b1 (put12_0 H0.out)
  clear b1 B0 G0 H0 q0 o0 q1 o1 q2 o2
  obtain ⟨q0, q1, q2, q3, q4, q5, q6, q7, q8, q9, q10, q11⟩ := cells12 H1.out
  obtain ⟨o0, o1, o2, o3, o4, o5, o6, o7, o8, o9, o10, o11⟩ := free12 H1.out
  clear q0 o0 q1 o1 q2 o2 q6 o6 q7 o7 q8 o8 q9 o9 q10 o10 q11 o11
  go_wp2_with fail
  refine (K2.out _).mono ?_
  rintro e u2 ⟨rfl, b2⟩
  have B2 : Hid (Ab w u2) := Ab.call (((Ab.setk B1.out (by omega) _).setk (by omega) _).setk (by omega) _) b2
  have G2 : Hid (u2.heap[w.heap.size]? = some (.cells #[.float .f64 0, .float .f64 0, .float .f64 0, .float .f64 0, .float .f64 0, .float .f64 0, .float .f64 0, .float .f64 0, .float .f64 0, .float .f64 0, .float .f64 0, .float .f64 0] 67)) := Ab.heap b2 (other3 (by omega) G1.out)
  have H2 : Hid (u2.heap[w.heap.size + 1]? = some (.cells #[.float .f64 a0, .float .f64 b0, .float .f64 d0, .float .f64 a1, .float .f64 b1, .float .f64 d1, .float .f64 0, .float .f64 0, .float .f64 0, .float .f64 0, .float .f64 0, .float .f64 0] 67)) := Ab.heap b2 (put12_1 H1.out)
  clear b2 B1 G1 H1 q3 o3 q4 o4 q5 o5
  obtain ⟨q0, q1, q2, q3, q4, q5, q6, q7, q8, q9, q10, q11⟩ := cells12 H2.out
  obtain ⟨o0, o1, o2, o3, o4, o5, o6, o7, o8, o9, o10, o11⟩ := free12 H2.out
  clear q0 o0 q1 o1 q2 o2 q3 o3 q4 o4 q5 o5 q9 o9 q10 o10 q11 o11
  go_wp2_with fail
  refine (K3.out _).mono ?_
  rintro e u3 ⟨rfl, b3⟩
  have B3 : Hid (Ab w u3) := Ab.call (((Ab.setk B2.out (by omega) _).setk (by omega) _).setk (by omega) _) b3
  have G3 : Hid (u3.heap[w.heap.size]? = some (.cells #[.float .f64 0, .float .f64 0, .float .f64 0, .float .f64 0, .float .f64 0, .float .f64 0, .float .f64 0, .float .f64 0, .float .f64 0, .float .f64 0, .float .f64 0, .float .f64 0] 67)) := Ab.heap b3 (other3 (by omega) G2.out)
  have H3 : Hid (u3.heap[w.heap.size + 1]? = some (.cells #[.float .f64 a0, .float .f64 b0, .float .f64 d0, .float .f64 a1, .float .f64 b1, .float .f64 d1, .float .f64 a2, .float .f64 b2, .float .f64 d2, .float .f64 0, .float .f64 0, .float .f64 0] 67)) := Ab.heap b3 (put12_2 H2.out)
  clear b3 B2 G2 H2 q6 o6 q7 o7 q8 o8
  obtain ⟨q0, q1, q2, q3, q4, q5, q6, q7, q8, q9, q10, q11⟩ := cells12 H3.out
  obtain ⟨o0, o1, o2, o3, o4, o5, o6, o7, o8, o9, o10, o11⟩ := free12 H3.out
  clear q0 o0 q1 o1 q2 o2 q3 o3 q4 o4 q5 o5 q6 o6 q7 o7 q8 o8
  go_upto_region 9 with fail
  generalize hW : World.setCell _ _ _ = W
  have BW : Hid (Ab w W) := by rw [← hW]; exact ((Ab.setk B3.out (by omega) _).setk (by omega) _).setk (by omega) _
  have GW : Hid (W.heap[w.heap.size]? = some (.cells #[.float .f64 0, .float .f64 0, .float .f64 0, .float .f64 0, .float .f64 0, .float .f64 0, .float .f64 0, .float .f64 0, .float .f64 0, .float .f64 0, .float .f64 0, .float .f64 0] 67)) := by rw [← hW]; exact other3 (by omega) G3.out
  have HW : Hid (W.heap[w.heap.size + 1]? = some (.cells #[.float .f64 a0, .float .f64 b0, .float .f64 d0, .float .f64 a1, .float .f64 b1, .float .f64 d1, .float .f64 a2, .float .f64 b2, .float .f64 d2, .float .f64 a3, .float .f64 b3, .float .f64 d3] 67)) := by rw [← hW]; exact put12_3 H3.out
  clear hW B3 G3 H3 q9 o9 q10 o10 q11 o11
  obtain ⟨q0, q1, q2, q3, q4, q5, q6, q7, q8, q9, q10, q11⟩ := cells12 HW.out
  obtain ⟨o0, o1, o2, o3, o4, o5, o6, o7, o8, o9, o10, o11⟩ := free12 GW.out
  obtain ⟨z0, z1, z2, z3, z4, z5, z6, z7, z8, z9, z10, z11⟩ := cells12 GW.out
  go_wp2
  refine bodyPost_ret ?_ rfl ⟨rfl, ?_⟩
  · exact res_two Tryd.results33 _ _ w.heap.size _ _ (0, 0) _ _ rfl rfl (put12_3 (put12_2 (put12_1 (put12_0 GW.out)))) Tryd.underlying67 rfl (by kernel_rfl)
  · exact (((((((((((Ab.setk BW.out (by omega) _).setk (by omega) _).setk (by omega) _).setk (by omega) _).setk (by omega) _).setk (by omega) _).setk (by omega) _).setk (by omega) _).setk (by omega) _).setk (by omega) _).setk (by omega) _).setk (by omega) _
set_option maxHeartbeats 4000000 in
theorem corners_no (n c : Int) (w : World) (h : inR c (clN n) = false) :
    Calls Tryd.prog 33 #[.int .i64 n, .int .i64 c] w fun e w' => e = .returned (.tuple #[.agg #[.float .f64 0, .float .f64 0, .float .f64 0, .float .f64 0, .float .f64 0, .float .f64 0, .float .f64 0, .float .f64 0, .float .f64 0, .float .f64 0, .float .f64 0, .float .f64 0], .bool false]) ∧ Below w.heap.size w w' := by
  have PL := hid (fun u => place_at n c u)
  rw [h] at PL
  generalize pF n c = f at *
  generalize pI n c = i at *
  generalize pJ n c = j at *
  clear h
  have A0 := hid (bl2 w (.cells #[.float .f64 0, .float .f64 0, .float .f64 0, .float .f64 0, .float .f64 0, .float .f64 0, .float .f64 0, .float .f64 0, .float .f64 0, .float .f64 0, .float .f64 0, .float .f64 0] 67) (.cells #[.float .f64 0, .float .f64 0, .float .f64 0, .float .f64 0, .float .f64 0, .float .f64 0, .float .f64 0, .float .f64 0, .float .f64 0, .float .f64 0, .float .f64 0, .float .f64 0] 67))
  have R0 := hid (And.intro (heap_alloc2_old w (.cells #[.float .f64 0, .float .f64 0, .float .f64 0, .float .f64 0, .float .f64 0, .float .f64 0, .float .f64 0, .float .f64 0, .float .f64 0, .float .f64 0, .float .f64 0, .float .f64 0] 67) (.cells #[.float .f64 0, .float .f64 0, .float .f64 0, .float .f64 0, .float .f64 0, .float .f64 0, .float .f64 0, .float .f64 0, .float .f64 0, .float .f64 0, .float .f64 0, .float .f64 0] 67)) (heap_alloc2_new w (.cells #[.float .f64 0, .float .f64 0, .float .f64 0, .float .f64 0, .float .f64 0, .float .f64 0, .float .f64 0, .float .f64 0, .float .f64 0, .float .f64 0, .float .f64 0, .float .f64 0] 67) (.cells #[.float .f64 0, .float .f64 0, .float .f64 0, .float .f64 0, .float .f64 0, .float .f64 0, .float .f64 0, .float .f64 0, .float .f64 0, .float .f64 0, .float .f64 0, .float .f64 0] 67)))
  go_enter Tryd.func33, Tryd.ntmps33
  go_wp2_with fail
  refine (PL.out _).mono ?_
  rintro e w1 ⟨rfl, m0, rfl⟩
  generalize hW : World.drewN _ _ = W
  have BW : Hid (Ab w W) := by rw [← hW]; exact Ab.drewN A0.out _
  have GW : Hid (W.heap[w.heap.size]? = some (.cells #[.float .f64 0, .float .f64 0, .float .f64 0, .float .f64 0, .float .f64 0, .float .f64 0, .float .f64 0, .float .f64 0, .float .f64 0, .float .f64 0, .float .f64 0, .float .f64 0] 67)) := by rw [← hW]; exact R0.out.1
  have HW : Hid (W.heap[w.heap.size + 1]? = some (.cells #[.float .f64 0, .float .f64 0, .float .f64 0, .float .f64 0, .float .f64 0, .float .f64 0, .float .f64 0, .float .f64 0, .float .f64 0, .float .f64 0, .float .f64 0, .float .f64 0] 67)) := by rw [← hW]; exact R0.out.2
  clear hW A0 R0
  obtain ⟨q0, q1, q2, q3, q4, q5, q6, q7, q8, q9, q10, q11⟩ := cells12 HW.out
  obtain ⟨o0, o1, o2, o3, o4, o5, o6, o7, o8, o9, o10, o11⟩ := free12 GW.out
  obtain ⟨z0, z1, z2, z3, z4, z5, z6, z7, z8, z9, z10, z11⟩ := cells12 GW.out
  go_wp2
  refine bodyPost_ret ?_ rfl ⟨rfl, ?_⟩
  · exact res_two Tryd.results33 _ _ w.heap.size _ _ (0, 0) _ _ rfl rfl (put12_3 (put12_2 (put12_1 (put12_0 GW.out)))) Tryd.underlying67 rfl (by kernel_rfl)
  · exact (((((((((((Ab.setk BW.out (by omega) _).setk (by omega) _).setk (by omega) _).setk (by omega) _).setk (by omega) _).setk (by omega) _).setk (by omega) _).setk (by omega) _).setk (by omega) _).setk (by omega) _).setk (by omega) _).setk (by omega) _
theorem LnC_cases (n c : Nat) : LnC n c 0 = gp n (cr n (cf n c) (ci n c + 1) (cj n c)) (cr n (cf n c) (ci n c + 1) (cj n c + 1)) ∧ LnC n c 1 = gp n (cr n (cf n c) (ci n c) (cj n c + 1)) (cr n (cf n c) (ci n c + 1) (cj n c + 1)) ∧ LnC n c 2 = gp n (cr n (cf n c) (ci n c) (cj n c)) (cr n (cf n c) (ci n c) (cj n c + 1)) ∧ LnC n c 3 = gp n (cr n (cf n c) (ci n c) (cj n c)) (cr n (cf n c) (ci n c + 1) (cj n c)) := ⟨rfl, rfl, rfl, rfl⟩
set_option maxHeartbeats 8000000 in
theorem len_ok (n c s : Nat) (w : World) (hn : 1 ≤ n ∧ n ≤ 32) (hc : c < 6 * n * n) (hs : s < 4) :
    Calls Tryd.prog 12 #[.int .i64 n, .int .i64 c, .int .i64 s] w fun e w' => e = .returned (.float .f64 (LnC n c s)) ∧ Below w.heap.size w w' := by
  have CO := hid (fun u => corners_ok n c u hn hc)
  obtain ⟨l0, l1, l2, l3⟩ := LnC_cases n c
  have GA0 : Hid (∀ u, Calls Tryd.prog 16 #[.agg #[.float .f64 (px n (cr n (cf n c) (ci n c + 1) (cj n c))), .float .f64 (py n (cr n (cf n c) (ci n c + 1) (cj n c))), .float .f64 (pz n (cr n (cf n c) (ci n c + 1) (cj n c)))], .agg #[.float .f64 (px n (cr n (cf n c) (ci n c + 1) (cj n c + 1))), .float .f64 (py n (cr n (cf n c) (ci n c + 1) (cj n c + 1))), .float .f64 (pz n (cr n (cf n c) (ci n c + 1) (cj n c + 1)))]] u fun e w' => e = .returned (.float .f64 (LnC n c 0)) ∧ Below u.heap.size u w') := fun u => by
    rw [l0]; exact gap_at _ _ _ _ _ _ u (px_lt _ _) (py_lt _ _) (pz_lt _ _) (px_lt _ _) (py_lt _ _) (pz_lt _ _)
  have GA1 : Hid (∀ u, Calls Tryd.prog 16 #[.agg #[.float .f64 (px n (cr n (cf n c) (ci n c) (cj n c + 1))), .float .f64 (py n (cr n (cf n c) (ci n c) (cj n c + 1))), .float .f64 (pz n (cr n (cf n c) (ci n c) (cj n c + 1)))], .agg #[.float .f64 (px n (cr n (cf n c) (ci n c + 1) (cj n c + 1))), .float .f64 (py n (cr n (cf n c) (ci n c + 1) (cj n c + 1))), .float .f64 (pz n (cr n (cf n c) (ci n c + 1) (cj n c + 1)))]] u fun e w' => e = .returned (.float .f64 (LnC n c 1)) ∧ Below u.heap.size u w') := fun u => by
    rw [l1]; exact gap_at _ _ _ _ _ _ u (px_lt _ _) (py_lt _ _) (pz_lt _ _) (px_lt _ _) (py_lt _ _) (pz_lt _ _)
  have GA2 : Hid (∀ u, Calls Tryd.prog 16 #[.agg #[.float .f64 (px n (cr n (cf n c) (ci n c) (cj n c))), .float .f64 (py n (cr n (cf n c) (ci n c) (cj n c))), .float .f64 (pz n (cr n (cf n c) (ci n c) (cj n c)))], .agg #[.float .f64 (px n (cr n (cf n c) (ci n c) (cj n c + 1))), .float .f64 (py n (cr n (cf n c) (ci n c) (cj n c + 1))), .float .f64 (pz n (cr n (cf n c) (ci n c) (cj n c + 1)))]] u fun e w' => e = .returned (.float .f64 (LnC n c 2)) ∧ Below u.heap.size u w') := fun u => by
    rw [l2]; exact gap_at _ _ _ _ _ _ u (px_lt _ _) (py_lt _ _) (pz_lt _ _) (px_lt _ _) (py_lt _ _) (pz_lt _ _)
  have GA3 : Hid (∀ u, Calls Tryd.prog 16 #[.agg #[.float .f64 (px n (cr n (cf n c) (ci n c) (cj n c))), .float .f64 (py n (cr n (cf n c) (ci n c) (cj n c))), .float .f64 (pz n (cr n (cf n c) (ci n c) (cj n c)))], .agg #[.float .f64 (px n (cr n (cf n c) (ci n c + 1) (cj n c))), .float .f64 (py n (cr n (cf n c) (ci n c + 1) (cj n c))), .float .f64 (pz n (cr n (cf n c) (ci n c + 1) (cj n c)))]] u fun e w' => e = .returned (.float .f64 (LnC n c 3)) ∧ Below u.heap.size u w') := fun u => by
    rw [l3]; exact gap_at _ _ _ _ _ _ u (px_lt _ _) (py_lt _ _) (pz_lt _ _) (px_lt _ _) (py_lt _ _) (pz_lt _ _)
  clear l0 l1 l2 l3
  generalize px n (cr n (cf n c) (ci n c) (cj n c)) = a0 at *
  generalize py n (cr n (cf n c) (ci n c) (cj n c)) = b0 at *
  generalize pz n (cr n (cf n c) (ci n c) (cj n c)) = d0 at *
  generalize px n (cr n (cf n c) (ci n c + 1) (cj n c)) = a1 at *
  generalize py n (cr n (cf n c) (ci n c + 1) (cj n c)) = b1 at *
  generalize pz n (cr n (cf n c) (ci n c + 1) (cj n c)) = d1 at *
  generalize px n (cr n (cf n c) (ci n c + 1) (cj n c + 1)) = a2 at *
  generalize py n (cr n (cf n c) (ci n c + 1) (cj n c + 1)) = b2 at *
  generalize pz n (cr n (cf n c) (ci n c + 1) (cj n c + 1)) = d2 at *
  generalize px n (cr n (cf n c) (ci n c) (cj n c + 1)) = a3 at *
  generalize py n (cr n (cf n c) (ci n c) (cj n c + 1)) = b3 at *
  generalize pz n (cr n (cf n c) (ci n c) (cj n c + 1)) = d3 at *
  rcases Cu.four hs with rfl | rfl | rfl | rfl
  · generalize LnC n c 0 = L at *
    clear hn hc hs GA1 GA2 GA3
    go_enter Tryd.func12, Tryd.ntmps12
    go_wp2_with fail
    refine (CO.out _).mono ?_
    rintro e v ⟨rfl, b1⟩
    go_wp2_with fail
    refine (GA0.out _).mono ?_
    rintro e v2 ⟨rfl, b2⟩
    go_wp2
    go_ret
    exact ⟨rfl, Ab.call ((Ab.refl w).call b1 |>.alloc _) b2⟩
  · generalize LnC n c 1 = L at *
    clear hn hc hs GA0 GA2 GA3
    go_enter Tryd.func12, Tryd.ntmps12
    go_wp2_with fail
    refine (CO.out _).mono ?_
    rintro e v ⟨rfl, b1⟩
    go_wp2_with fail
    refine (GA1.out _).mono ?_
    rintro e v2 ⟨rfl, b2⟩
    go_wp2
    go_ret
    exact ⟨rfl, Ab.call ((Ab.refl w).call b1 |>.alloc _) b2⟩
  · generalize LnC n c 2 = L at *
    clear hn hc hs GA0 GA1 GA3
    go_enter Tryd.func12, Tryd.ntmps12
    go_wp2_with fail
    refine (CO.out _).mono ?_
    rintro e v ⟨rfl, b1⟩
    go_wp2_with fail
    refine (GA2.out _).mono ?_
    rintro e v2 ⟨rfl, b2⟩
    go_wp2
    go_ret
    exact ⟨rfl, Ab.call ((Ab.refl w).call b1 |>.alloc _) b2⟩
  · generalize LnC n c 3 = L at *
    clear hn hc hs GA0 GA1 GA2
    go_enter Tryd.func12, Tryd.ntmps12
    go_wp2_with fail
    refine (CO.out _).mono ?_
    rintro e v ⟨rfl, b1⟩
    go_wp2_with fail
    refine (GA3.out _).mono ?_
    rintro e v2 ⟨rfl, b2⟩
    go_wp2
    go_ret
    exact ⟨rfl, Ab.call ((Ab.refl w).call b1 |>.alloc _) b2⟩
set_option maxHeartbeats 8000000 in
theorem len_no (n c s : Int) (w : World) (h : ¬ (inR c (clN n) = true ∧ inR s 4 = true)) :
    Calls Tryd.prog 12 #[.int .i64 n, .int .i64 c, .int .i64 s] w fun e w' => e = .returned (.float .f64 0) ∧ Below w.heap.size w w' := by
  cases hc : inR c (clN n) with
  | false =>
    have CO := hid (fun u => corners_no n c u hc)
    clear h hc
    go_enter Tryd.func12, Tryd.ntmps12
    go_wp2_with fail
    refine (CO.out _).mono ?_
    rintro e v ⟨rfl, b1⟩
    go_wp2
    go_ret
    exact ⟨rfl, ((Ab.refl w).call b1).alloc _⟩
  | true =>
    have hs : ¬ (0 ≤ s ∧ s < 4) := fun k => h ⟨hc, inR_iff.2 k⟩
    obtain ⟨m, d, rfl, rfl, hm, hd⟩ := nat_cell hc
    have CO := hid (fun u => corners_ok m d u hm hd)
    have s0 : s ≠ 0 := by omega
    have s1 : s ≠ 1 := by omega
    have s2 : s ≠ 2 := by omega
    have s3 : s ≠ 3 := by omega
    clear h hc hs hm hd
    generalize px m (cr m (cf m d) (ci m d) (cj m d)) = a0 at *
    generalize py m (cr m (cf m d) (ci m d) (cj m d)) = b0 at *
    generalize pz m (cr m (cf m d) (ci m d) (cj m d)) = d0 at *
    generalize px m (cr m (cf m d) (ci m d + 1) (cj m d)) = a1 at *
    generalize py m (cr m (cf m d) (ci m d + 1) (cj m d)) = b1 at *
    generalize pz m (cr m (cf m d) (ci m d + 1) (cj m d)) = d1 at *
    generalize px m (cr m (cf m d) (ci m d + 1) (cj m d + 1)) = a2 at *
    generalize py m (cr m (cf m d) (ci m d + 1) (cj m d + 1)) = b2 at *
    generalize pz m (cr m (cf m d) (ci m d + 1) (cj m d + 1)) = d2 at *
    generalize px m (cr m (cf m d) (ci m d) (cj m d + 1)) = a3 at *
    generalize py m (cr m (cf m d) (ci m d) (cj m d + 1)) = b3 at *
    generalize pz m (cr m (cf m d) (ci m d) (cj m d + 1)) = d3 at *
    go_enter Tryd.func12, Tryd.ntmps12
    go_wp2_with fail
    refine (CO.out _).mono ?_
    rintro e v ⟨rfl, b1⟩
    go_wp2
    go_ret
    exact ⟨rfl, ((Ab.refl w).call b1).alloc _⟩
set_option maxHeartbeats 8000000 in
theorem gap_ok (n c s : Nat) (w : World) (hn : 1 ≤ n ∧ n ≤ 32) (hc : c < 6 * n * n) (hs : s < 4) (hF : Fr w) :
    Calls Tryd.prog 14 #[.int .i64 n, .int .i64 c, .int .i64 s] w fun e w' => e = .returned (.float .f64 (GpC n c s)) ∧ Below w.heap.size w w' := by
  obtain ⟨hb, -⟩ := bs_lt hn.1 hc hs
  have BE := hid (beside_at n c s w hn hc hs hF)
  have M1 := hid (fun u => middle_ok n c u hn hc)
  have M2 := hid (fun u => middle_ok n (bsC n c s) u hn hb)
  have GA : Hid (∀ u, Calls Tryd.prog 16 #[.agg #[.float .f64 (px n (MD n c)), .float .f64 (py n (MD n c)), .float .f64 (pz n (MD n c))], .agg #[.float .f64 (px n (MD n (bsC n c s))), .float .f64 (py n (MD n (bsC n c s))), .float .f64 (pz n (MD n (bsC n c s)))]] u fun e w' => e = .returned (.float .f64 (GpC n c s)) ∧ Below u.heap.size u w') := fun u => gap_at _ _ _ _ _ _ u (px_lt _ _) (py_lt _ _) (pz_lt _ _) (px_lt _ _) (py_lt _ _) (pz_lt _ _)
  generalize px n (MD n c) = x at *
  generalize py n (MD n c) = y at *
  generalize pz n (MD n c) = z at *
  generalize px n (MD n (bsC n c s)) = x' at *
  generalize py n (MD n (bsC n c s)) = y' at *
  generalize pz n (MD n (bsC n c s)) = z' at *
  generalize GpC n c s = G at *
  generalize bsC n c s = c' at *
  generalize bsS n c s = s' at *
  clear hn hc hs hF hb
  go_enter Tryd.func14, Tryd.ntmps14
  go_wp2_with fail
  refine (BE.out).mono ?_
  rintro e v ⟨rfl, b1⟩
  go_wp2_with fail
  refine (M1.out _).mono ?_
  rintro e v2 ⟨rfl, b2⟩
  go_wp2_with fail
  refine (M2.out _).mono ?_
  rintro e v3 ⟨rfl, b3⟩
  have B2 : Hid (Ab w v2) := (Ab.call b1 b2)
  have B3 : Hid (Ab w v3) := Ab.call (B2.out.alloc _) b3
  have r2 : v3.heap[v2.heap.size]? = some (.cells #[.float .f64 x, .float .f64 y, .float .f64 z] 29) := newrow' b3
  have r2' : (v3.alloc (.cells #[.float .f64 x', .float .f64 y', .float .f64 z'] 29)).heap[v2.heap.size]? = some (.cells #[.float .f64 x, .float .f64 y, .float .f64 z] 29) := by
    rw [Below.heap_alloc _ _ _ (by have := b3.size; simp at this; omega)]; exact r2
  obtain ⟨-, q0, q1, q2⟩ := rowfacts r2'
  clear r2 r2' b1 b2 b3
  go_wp2_with fail
  refine (GA.out _).mono ?_
  rintro e v4 ⟨rfl, b4⟩
  go_wp2
  go_ret
  exact ⟨rfl, Ab.call (B3.out.alloc _) b4⟩
end Go.Proofs.YtdgkmaamjdglmaaDoor
