/-
  Some of the texts of this proof, one behind the other.
-/
import Derived.Deep.Cut
import Derived.Test.YtebnjbljabjgaaaDoorG06
namespace Go.Proofs.YtebnjbljabjgaaaDoor
open Go.RowKit Tf Cu
attribute [local go_sem] run_bits run_from raw_feq raw_fne raw_flt raw_fgt run_neg run_store_float
theorem cells12 {w : World} {g : Nat} {v0 v1 v2 v3 v4 v5 v6 v7 v8 v9 v10 v11 : Value} {T : TypeId} (r : w.heap[g]? = some (.cells #[v0, v1, v2, v3, v4, v5, v6, v7, v8, v9, v10, v11] T)) :
    w.cell? ⟨g, 0, none⟩ = some v0 ∧ w.cell? ⟨g, 1, none⟩ = some v1 ∧ w.cell? ⟨g, 2, none⟩ = some v2 ∧ w.cell? ⟨g, 3, none⟩ = some v3 ∧ w.cell? ⟨g, 4, none⟩ = some v4 ∧ w.cell? ⟨g, 5, none⟩ = some v5 ∧ w.cell? ⟨g, 6, none⟩ = some v6 ∧ w.cell? ⟨g, 7, none⟩ = some v7 ∧ w.cell? ⟨g, 8, none⟩ = some v8 ∧ w.cell? ⟨g, 9, none⟩ = some v9 ∧ w.cell? ⟨g, 10, none⟩ = some v10 ∧ w.cell? ⟨g, 11, none⟩ = some v11 :=
  ⟨cell_of_row _ _ 0 _ _ _ r, cell_of_row _ _ 1 _ _ _ r, cell_of_row _ _ 2 _ _ _ r, cell_of_row _ _ 3 _ _ _ r, cell_of_row _ _ 4 _ _ _ r, cell_of_row _ _ 5 _ _ _ r, cell_of_row _ _ 6 _ _ _ r, cell_of_row _ _ 7 _ _ _ r, cell_of_row _ _ 8 _ _ _ r, cell_of_row _ _ 9 _ _ _ r, cell_of_row _ _ 10 _ _ _ r, cell_of_row _ _ 11 _ _ _ r⟩
theorem free12 {w : World} {g : Nat} {v0 v1 v2 v3 v4 v5 v6 v7 v8 v9 v10 v11 : Value} {T : TypeId} (r : w.heap[g]? = some (.cells #[v0, v1, v2, v3, v4, v5, v6, v7, v8, v9, v10, v11] T)) :
    w.frozen? ⟨g, 0, none⟩ = false ∧ w.frozen? ⟨g, 1, none⟩ = false ∧ w.frozen? ⟨g, 2, none⟩ = false ∧ w.frozen? ⟨g, 3, none⟩ = false ∧ w.frozen? ⟨g, 4, none⟩ = false ∧ w.frozen? ⟨g, 5, none⟩ = false ∧ w.frozen? ⟨g, 6, none⟩ = false ∧ w.frozen? ⟨g, 7, none⟩ = false ∧ w.frozen? ⟨g, 8, none⟩ = false ∧ w.frozen? ⟨g, 9, none⟩ = false ∧ w.frozen? ⟨g, 10, none⟩ = false ∧ w.frozen? ⟨g, 11, none⟩ = false :=
  ⟨free_row r 0, free_row r 1, free_row r 2, free_row r 3, free_row r 4, free_row r 5, free_row r 6, free_row r 7, free_row r 8, free_row r 9, free_row r 10, free_row r 11⟩
theorem put12_0 {w : World} {g : Nat} {v0 v1 v2 v3 v4 v5 v6 v7 v8 v9 v10 v11 x y z : Value} {T : TypeId} (h : w.heap[g]? = some (.cells #[v0, v1, v2, v3, v4, v5, v6, v7, v8, v9, v10, v11] T)) :
    (((w.setCell ⟨g, 0, none⟩ x).setCell ⟨g, 1, none⟩ y).setCell ⟨g, 2, none⟩ z).heap[g]? = some (.cells #[x, y, z, v3, v4, v5, v6, v7, v8, v9, v10, v11] T) := by
  have h1 := one_set (v := x) (k := 0) h
  have h2 := one_set (v := y) (k := 1) h1
  have h3 := one_set (v := z) (k := 2) h2
  simpa using h3
theorem put12_1 {w : World} {g : Nat} {v0 v1 v2 v3 v4 v5 v6 v7 v8 v9 v10 v11 x y z : Value} {T : TypeId} (h : w.heap[g]? = some (.cells #[v0, v1, v2, v3, v4, v5, v6, v7, v8, v9, v10, v11] T)) :
    (((w.setCell ⟨g, 3, none⟩ x).setCell ⟨g, 4, none⟩ y).setCell ⟨g, 5, none⟩ z).heap[g]? = some (.cells #[v0, v1, v2, x, y, z, v6, v7, v8, v9, v10, v11] T) := by
  have h1 := one_set (v := x) (k := 3) h
  have h2 := one_set (v := y) (k := 4) h1
  have h3 := one_set (v := z) (k := 5) h2
  simpa using h3
theorem put12_2 {w : World} {g : Nat} {v0 v1 v2 v3 v4 v5 v6 v7 v8 v9 v10 v11 x y z : Value} {T : TypeId} (h : w.heap[g]? = some (.cells #[v0, v1, v2, v3, v4, v5, v6, v7, v8, v9, v10, v11] T)) :
    (((w.setCell ⟨g, 6, none⟩ x).setCell ⟨g, 7, none⟩ y).setCell ⟨g, 8, none⟩ z).heap[g]? = some (.cells #[v0, v1, v2, v3, v4, v5, x, y, z, v9, v10, v11] T) := by
  have h1 := one_set (v := x) (k := 6) h
  have h2 := one_set (v := y) (k := 7) h1
  have h3 := one_set (v := z) (k := 8) h2
  simpa using h3
theorem put12_3 {w : World} {g : Nat} {v0 v1 v2 v3 v4 v5 v6 v7 v8 v9 v10 v11 x y z : Value} {T : TypeId} (h : w.heap[g]? = some (.cells #[v0, v1, v2, v3, v4, v5, v6, v7, v8, v9, v10, v11] T)) :
    (((w.setCell ⟨g, 9, none⟩ x).setCell ⟨g, 10, none⟩ y).setCell ⟨g, 11, none⟩ z).heap[g]? = some (.cells #[v0, v1, v2, v3, v4, v5, v6, v7, v8, x, y, z] T) := by
  have h1 := one_set (v := x) (k := 9) h
  have h2 := one_set (v := y) (k := 10) h1
  have h3 := one_set (v := z) (k := 11) h2
  simpa using h3
theorem other3 {w : World} {g h a b c : Nat} {x y z : Value} {o : Obj} (hne : h ≠ g) (hh : w.heap[h]? = some o) : (((w.setCell ⟨g, a, none⟩ x).setCell ⟨g, b, none⟩ y).setCell ⟨g, c, none⟩ z).heap[h]? = some o := by
  rw [Below.heap_setCell _ _ _ _ hne, Below.heap_setCell _ _ _ _ hne, Below.heap_setCell _ _ _ _ hne]; exact hh
set_option maxRecDepth 10000 in
set_option maxHeartbeats 8000000 in
theorem corners_ok (n c : Nat) (w : World) (hn : 1 ≤ n ∧ n ≤ 32) (hc : c < 6 * n * n) :
    Calls Tryd.prog 17 #[.int .i64 n, .int .i64 c] w fun e w' => e = .returned (.tuple #[.agg #[.float .f64 (px n (cr n (cf n c) (ci n c) (cj n c))), .float .f64 (py n (cr n (cf n c) (ci n c) (cj n c))), .float .f64 (pz n (cr n (cf n c) (ci n c) (cj n c))), .float .f64 (px n (cr n (cf n c) (ci n c + 1) (cj n c))), .float .f64 (py n (cr n (cf n c) (ci n c + 1) (cj n c))), .float .f64 (pz n (cr n (cf n c) (ci n c + 1) (cj n c))), .float .f64 (px n (cr n (cf n c) (ci n c + 1) (cj n c + 1))), .float .f64 (py n (cr n (cf n c) (ci n c + 1) (cj n c + 1))), .float .f64 (pz n (cr n (cf n c) (ci n c + 1) (cj n c + 1))), .float .f64 (px n (cr n (cf n c) (ci n c) (cj n c + 1))), .float .f64 (py n (cr n (cf n c) (ci n c) (cj n c + 1))), .float .f64 (pz n (cr n (cf n c) (ci n c) (cj n c + 1)))], .bool true]) ∧ Below w.heap.size w w' := by
  obtain ⟨h1, h2, h3, -⟩ := dec_lt hn.1 hc
  have PL := hid (fun u => place_ok n c hn hc u)
  have K0 : Hid (∀ u, Calls Tryd.prog 14 #[.int .i64 n, .int .i64 (cf n c : Nat), .int .i64 (ci n c : Nat), .int .i64 (cj n c : Nat)] u fun e w' => e = .returned (.tuple #[.agg #[.float .f64 (px n (cr n (cf n c) (ci n c) (cj n c))), .float .f64 (py n (cr n (cf n c) (ci n c) (cj n c))), .float .f64 (pz n (cr n (cf n c) (ci n c) (cj n c)))], .bool true]) ∧ Below u.heap.size u w') := fun u => corner_ok n (cf n c) (ci n c) (cj n c) u hn h1 (by omega) (by omega)
  have K1 : Hid (∀ u, Calls Tryd.prog 14 #[.int .i64 n, .int .i64 (cf n c : Nat), .int .i64 ((ci n c : Nat) + 1), .int .i64 (cj n c : Nat)] u fun e w' => e = .returned (.tuple #[.agg #[.float .f64 (px n (cr n (cf n c) (ci n c + 1) (cj n c))), .float .f64 (py n (cr n (cf n c) (ci n c + 1) (cj n c))), .float .f64 (pz n (cr n (cf n c) (ci n c + 1) (cj n c)))], .bool true]) ∧ Below u.heap.size u w') := fun u => corner_ok n (cf n c) (ci n c + 1) (cj n c) u hn h1 (by omega) (by omega)
  have K2 : Hid (∀ u, Calls Tryd.prog 14 #[.int .i64 n, .int .i64 (cf n c : Nat), .int .i64 ((ci n c : Nat) + 1), .int .i64 ((cj n c : Nat) + 1)] u fun e w' => e = .returned (.tuple #[.agg #[.float .f64 (px n (cr n (cf n c) (ci n c + 1) (cj n c + 1))), .float .f64 (py n (cr n (cf n c) (ci n c + 1) (cj n c + 1))), .float .f64 (pz n (cr n (cf n c) (ci n c + 1) (cj n c + 1)))], .bool true]) ∧ Below u.heap.size u w') := fun u => corner_ok n (cf n c) (ci n c + 1) (cj n c + 1) u hn h1 (by omega) (by omega)
  have K3 : Hid (∀ u, Calls Tryd.prog 14 #[.int .i64 n, .int .i64 (cf n c : Nat), .int .i64 (ci n c : Nat), .int .i64 ((cj n c : Nat) + 1)] u fun e w' => e = .returned (.tuple #[.agg #[.float .f64 (px n (cr n (cf n c) (ci n c) (cj n c + 1))), .float .f64 (py n (cr n (cf n c) (ci n c) (cj n c + 1))), .float .f64 (pz n (cr n (cf n c) (ci n c) (cj n c + 1)))], .bool true]) ∧ Below u.heap.size u w') := fun u => corner_ok n (cf n c) (ci n c) (cj n c + 1) u hn h1 (by omega) (by omega)
  generalize px n (cr n (cf n c) (ci n c) (cj n c)) = a0 at *
  generalize py n (cr n (cf n c) (ci n c) (cj n c)) = b0 at *
  generalize pz n (cr n (cf n c) (ci n c) (cj n c)) = d0 at *
  generalize px n (cr n (cf n c) (ci n c + 1) (cj n c)) = a1 at *
  generalize py n (cr n (cf n c) (ci n c + 1) (cj n c)) = b1 at *
  generalize pz n (cr n (cf n c) (ci n c + 1) (cj n c)) = d1 at *
  generalize px n (cr n (cf n c) (ci n c + 1) (cj n c + 1)) = a2 at *
  generalize py n (cr n (cf n c) (ci n c + 1) (cj n c + 1)) = b2 at *
  generalize pz n (cr n (cf n c) (ci n c + 1) (cj n c + 1)) = d2 at *
  generalize px n (cr n (cf n c) (ci n c) (cj n c + 1)) = a3 at *
  generalize py n (cr n (cf n c) (ci n c) (cj n c + 1)) = b3 at *
  generalize pz n (cr n (cf n c) (ci n c) (cj n c + 1)) = d3 at *
  have hi : ((ci n c : Nat) : Int) ≤ 32 := by omega
  have hj : ((cj n c : Nat) : Int) ≤ 32 := by omega
  generalize cf n c = f at *
  generalize ci n c = i at *
  generalize cj n c = j at *
  clear hn hc h1 h2 h3
  have A0 := hid (bl2 w (.cells #[.float .f64 0, .float .f64 0, .float .f64 0, .float .f64 0, .float .f64 0, .float .f64 0, .float .f64 0, .float .f64 0, .float .f64 0, .float .f64 0, .float .f64 0, .float .f64 0] 45) (.cells #[.float .f64 0, .float .f64 0, .float .f64 0, .float .f64 0, .float .f64 0, .float .f64 0, .float .f64 0, .float .f64 0, .float .f64 0, .float .f64 0, .float .f64 0, .float .f64 0] 45))
  have R0 := hid (And.intro (heap_alloc2_old w (.cells #[.float .f64 0, .float .f64 0, .float .f64 0, .float .f64 0, .float .f64 0, .float .f64 0, .float .f64 0, .float .f64 0, .float .f64 0, .float .f64 0, .float .f64 0, .float .f64 0] 45) (.cells #[.float .f64 0, .float .f64 0, .float .f64 0, .float .f64 0, .float .f64 0, .float .f64 0, .float .f64 0, .float .f64 0, .float .f64 0, .float .f64 0, .float .f64 0, .float .f64 0] 45)) (heap_alloc2_new w (.cells #[.float .f64 0, .float .f64 0, .float .f64 0, .float .f64 0, .float .f64 0, .float .f64 0, .float .f64 0, .float .f64 0, .float .f64 0, .float .f64 0, .float .f64 0, .float .f64 0] 45) (.cells #[.float .f64 0, .float .f64 0, .float .f64 0, .float .f64 0, .float .f64 0, .float .f64 0, .float .f64 0, .float .f64 0, .float .f64 0, .float .f64 0, .float .f64 0, .float .f64 0] 45)))
  go_enter Tryd.func17, Tryd.ntmps17
  go_wp2_with fail
  refine (PL.out _).mono ?_
  rintro e w1 ⟨rfl, m0, rfl⟩
  go_wp2_with fail
  refine (K0.out _).mono ?_
  rintro e u0 ⟨rfl, b0⟩
  have B0 : Hid (Ab w u0) := Ab.call (Ab.drewN A0.out _) b0
  have G0 : Hid (u0.heap[w.heap.size]? = some (.cells #[.float .f64 0, .float .f64 0, .float .f64 0, .float .f64 0, .float .f64 0, .float .f64 0, .float .f64 0, .float .f64 0, .float .f64 0, .float .f64 0, .float .f64 0, .float .f64 0] 45)) := Ab.heap b0 R0.out.1
  have H0 : Hid (u0.heap[w.heap.size + 1]? = some (.cells #[.float .f64 0, .float .f64 0, .float .f64 0, .float .f64 0, .float .f64 0, .float .f64 0, .float .f64 0, .float .f64 0, .float .f64 0, .float .f64 0, .float .f64 0, .float .f64 0] 45)) := Ab.heap b0 R0.out.2
  clear A0 R0 b0
  obtain ⟨q0, q1, q2, q3, q4, q5, q6, q7, q8, q9, q10, q11⟩ := cells12 H0.out
  obtain ⟨o0, o1, o2, o3, o4, o5, o6, o7, o8, o9, o10, o11⟩ := free12 H0.out
  clear q3 o3 q4 o4 q5 o5 q6 o6 q7 o7 q8 o8 q9 o9 q10 o10 q11 o11
  go_wp2_with fail
  refine (K1.out _).mono ?_
  rintro e u1 ⟨rfl, b1⟩
  have B1 : Hid (Ab w u1) := Ab.call (((Ab.setk B0.out (by omega) _).setk (by omega) _).setk (by omega) _) b1
  have G1 : Hid (u1.heap[w.heap.size]? = some (.cells #[.float .f64 0, .float .f64 0, .float .f64 0, .float .f64 0, .float .f64 0, .float .f64 0, .float .f64 0, .float .f64 0, .float .f64 0, .float .f64 0, .float .f64 0, .float .f64 0] 45)) := Ab.heap b1 (other3 (by omega) G0.out)
  have H1 : Hid (u1.heap[w.heap.size + 1]? = some (.cells #[.float .f64 a0, .float .f64 b0, .float .f64 d0, .float .f64 0, .float .f64 0, .float .f64 0, .float .f64 0, .float .f64 0, .float .f64 0, .float .f64 0, .float .f64 0, .float .f64 0] 45)) := Ab.heap b1 (put12_0 H0.out)
  clear b1 B0 G0 H0 q0 o0 q1 o1 q2 o2
  obtain ⟨q0, q1, q2, q3, q4, q5, q6, q7, q8, q9, q10, q11⟩ := cells12 H1.out
  obtain ⟨o0, o1, o2, o3, o4, o5, o6, o7, o8, o9, o10, o11⟩ := free12 H1.out
  clear q0 o0 q1 o1 q2 o2 q6 o6 q7 o7 q8 o8 q9 o9 q10 o10 q11 o11
  go_wp2_with fail
  refine (K2.out _).mono ?_
  rintro e u2 ⟨rfl, b2⟩
  have B2 : Hid (Ab w u2) := Ab.call (((Ab.setk B1.out (by omega) _).setk (by omega) _).setk (by omega) _) b2
  have G2 : Hid (u2.heap[w.heap.size]? = some (.cells #[.float .f64 0, .float .f64 0, .float .f64 0, .float .f64 0, .float .f64 0, .float .f64 0, .float .f64 0, .float .f64 0, .float .f64 0, .float .f64 0, .float .f64 0, .float .f64 0] 45)) := Ab.heap b2 (other3 (by omega) G1.out)
  have H2 : Hid (u2.heap[w.heap.size + 1]? = some (.cells #[.float .f64 a0, .float .f64 b0, .float .f64 d0, .float .f64 a1, .float .f64 b1, .float .f64 d1, .float .f64 0, .float .f64 0, .float .f64 0, .float .f64 0, .float .f64 0, .float .f64 0] 45)) := Ab.heap b2 (put12_1 H1.out)
  clear b2 B1 G1 H1 q3 o3 q4 o4 q5 o5
  obtain ⟨q0, q1, q2, q3, q4, q5, q6, q7, q8, q9, q10, q11⟩ := cells12 H2.out
  obtain ⟨o0, o1, o2, o3, o4, o5, o6, o7, o8, o9, o10, o11⟩ := free12 H2.out
  clear q0 o0 q1 o1 q2 o2 q3 o3 q4 o4 q5 o5 q9 o9 q10 o10 q11 o11
  go_wp2_with fail
  refine (K3.out _).mono ?_
  rintro e u3 ⟨rfl, b3⟩
  have B3 : Hid (Ab w u3) := Ab.call (((Ab.setk B2.out (by omega) _).setk (by omega) _).setk (by omega) _) b3
  have G3 : Hid (u3.heap[w.heap.size]? = some (.cells #[.float .f64 0, .float .f64 0, .float .f64 0, .float .f64 0, .float .f64 0, .float .f64 0, .float .f64 0, .float .f64 0, .float .f64 0, .float .f64 0, .float .f64 0, .float .f64 0] 45)) := Ab.heap b3 (other3 (by omega) G2.out)
  have H3 : Hid (u3.heap[w.heap.size + 1]? = some (.cells #[.float .f64 a0, .float .f64 b0, .float .f64 d0, .float .f64 a1, .float .f64 b1, .float .f64 d1, .float .f64 a2, .float .f64 b2, .float .f64 d2, .float .f64 0, .float .f64 0, .float .f64 0] 45)) := Ab.heap b3 (put12_2 H2.out)
  clear b3 B2 G2 H2 q6 o6 q7 o7 q8 o8
  obtain ⟨q0, q1, q2, q3, q4, q5, q6, q7, q8, q9, q10, q11⟩ := cells12 H3.out
  obtain ⟨o0, o1, o2, o3, o4, o5, o6, o7, o8, o9, o10, o11⟩ := free12 H3.out
  clear q0 o0 q1 o1 q2 o2 q3 o3 q4 o4 q5 o5 q6 o6 q7 o7 q8 o8
  go_upto_region 9 with fail
  generalize hW : World.setCell _ _ _ = W
  have BW : Hid (Ab w W) := by rw [← hW]; exact ((Ab.setk B3.out (by omega) _).setk (by omega) _).setk (by omega) _
  have GW : Hid (W.heap[w.heap.size]? = some (.cells #[.float .f64 0, .float .f64 0, .float .f64 0, .float .f64 0, .float .f64 0, .float .f64 0, .float .f64 0, .float .f64 0, .float .f64 0, .float .f64 0, .float .f64 0, .float .f64 0] 45)) := by rw [← hW]; exact other3 (by omega) G3.out
  have HW : Hid (W.heap[w.heap.size + 1]? = some (.cells #[.float .f64 a0, .float .f64 b0, .float .f64 d0, .float .f64 a1, .float .f64 b1, .float .f64 d1, .float .f64 a2, .float .f64 b2, .float .f64 d2, .float .f64 a3, .float .f64 b3, .float .f64 d3] 45)) := by rw [← hW]; exact put12_3 H3.out
  clear hW B3 G3 H3 q9 o9 q10 o10 q11 o11
  obtain ⟨q0, q1, q2, q3, q4, q5, q6, q7, q8, q9, q10, q11⟩ := cells12 HW.out
  obtain ⟨o0, o1, o2, o3, o4, o5, o6, o7, o8, o9, o10, o11⟩ := free12 GW.out
  obtain ⟨z0, z1, z2, z3, z4, z5, z6, z7, z8, z9, z10, z11⟩ := cells12 GW.out
  go_wp2
  refine bodyPost_ret ?_ rfl ⟨rfl, ?_⟩
  · exact res_two Tryd.results17 _ _ w.heap.size _ _ (0, 0) _ _ rfl rfl (put12_3 (put12_2 (put12_1 (put12_0 GW.out)))) Tryd.underlying45 rfl (by kernel_rfl)
  · exact (((((((((((Ab.setk BW.out (by omega) _).setk (by omega) _).setk (by omega) _).setk (by omega) _).setk (by omega) _).setk (by omega) _).setk (by omega) _).setk (by omega) _).setk (by omega) _).setk (by omega) _).setk (by omega) _).setk (by omega) _
theorem LnC_cases (n c : Nat) : LnC n c 0 = gp n (cr n (cf n c) (ci n c + 1) (cj n c)) (cr n (cf n c) (ci n c + 1) (cj n c + 1)) ∧ LnC n c 1 = gp n (cr n (cf n c) (ci n c) (cj n c + 1)) (cr n (cf n c) (ci n c + 1) (cj n c + 1)) ∧ LnC n c 2 = gp n (cr n (cf n c) (ci n c) (cj n c)) (cr n (cf n c) (ci n c) (cj n c + 1)) ∧ LnC n c 3 = gp n (cr n (cf n c) (ci n c) (cj n c)) (cr n (cf n c) (ci n c + 1) (cj n c)) := ⟨rfl, rfl, rfl, rfl⟩
set_option maxHeartbeats 8000000 in
theorem len_ok (n c s : Nat) (w : World) (hn : 1 ≤ n ∧ n ≤ 32) (hc : c < 6 * n * n) (hs : s < 4) :
    Calls Tryd.prog 8 #[.int .i64 n, .int .i64 c, .int .i64 s] w fun e w' => e = .returned (.float .f64 (LnC n c s)) ∧ Below w.heap.size w w' := by
  have CO := hid (fun u => corners_ok n c u hn hc)
  obtain ⟨l0, l1, l2, l3⟩ := LnC_cases n c
  have GA0 : Hid (∀ u, Calls Tryd.prog 22 #[.agg #[.float .f64 (px n (cr n (cf n c) (ci n c + 1) (cj n c))), .float .f64 (py n (cr n (cf n c) (ci n c + 1) (cj n c))), .float .f64 (pz n (cr n (cf n c) (ci n c + 1) (cj n c)))], .agg #[.float .f64 (px n (cr n (cf n c) (ci n c + 1) (cj n c + 1))), .float .f64 (py n (cr n (cf n c) (ci n c + 1) (cj n c + 1))), .float .f64 (pz n (cr n (cf n c) (ci n c + 1) (cj n c + 1)))]] u fun e w' => e = .returned (.float .f64 (LnC n c 0)) ∧ Below u.heap.size u w') := fun u => by
    rw [l0]; exact gap_at _ _ _ _ _ _ u (px_lt _ _) (py_lt _ _) (pz_lt _ _) (px_lt _ _) (py_lt _ _) (pz_lt _ _)
  have GA1 : Hid (∀ u, Calls Tryd.prog 22 #[.agg #[.float .f64 (px n (cr n (cf n c) (ci n c) (cj n c + 1))), .float .f64 (py n (cr n (cf n c) (ci n c) (cj n c + 1))), .float .f64 (pz n (cr n (cf n c) (ci n c) (cj n c + 1)))], .agg #[.float .f64 (px n (cr n (cf n c) (ci n c + 1) (cj n c + 1))), .float .f64 (py n (cr n (cf n c) (ci n c + 1) (cj n c + 1))), .float .f64 (pz n (cr n (cf n c) (ci n c + 1) (cj n c + 1)))]] u fun e w' => e = .returned (.float .f64 (LnC n c 1)) ∧ Below u.heap.size u w') := fun u => by
    rw [l1]; exact gap_at _ _ _ _ _ _ u (px_lt _ _) (py_lt _ _) (pz_lt _ _) (px_lt _ _) (py_lt _ _) (pz_lt _ _)
  have GA2 : Hid (∀ u, Calls Tryd.prog 22 #[.agg #[.float .f64 (px n (cr n (cf n c) (ci n c) (cj n c))), .float .f64 (py n (cr n (cf n c) (ci n c) (cj n c))), .float .f64 (pz n (cr n (cf n c) (ci n c) (cj n c)))], .agg #[.float .f64 (px n (cr n (cf n c) (ci n c) (cj n c + 1))), .float .f64 (py n (cr n (cf n c) (ci n c) (cj n c + 1))), .float .f64 (pz n (cr n (cf n c) (ci n c) (cj n c + 1)))]] u fun e w' => e = .returned (.float .f64 (LnC n c 2)) ∧ Below u.heap.size u w') := fun u => by
    rw [l2]; exact gap_at _ _ _ _ _ _ u (px_lt _ _) (py_lt _ _) (pz_lt _ _) (px_lt _ _) (py_lt _ _) (pz_lt _ _)
  have GA3 : Hid (∀ u, Calls Tryd.prog 22 #[.agg #[.float .f64 (px n (cr n (cf n c) (ci n c) (cj n c))), .float .f64 (py n (cr n (cf n c) (ci n c) (cj n c))), .float .f64 (pz n (cr n (cf n c) (ci n c) (cj n c)))], .agg #[.float .f64 (px n (cr n (cf n c) (ci n c + 1) (cj n c))), .float .f64 (py n (cr n (cf n c) (ci n c + 1) (cj n c))), .float .f64 (pz n (cr n (cf n c) (ci n c + 1) (cj n c)))]] u fun e w' => e = .returned (.float .f64 (LnC n c 3)) ∧ Below u.heap.size u w') := fun u => by
    rw [l3]; exact gap_at _ _ _ _ _ _ u (px_lt _ _) (py_lt _ _) (pz_lt _ _) (px_lt _ _) (py_lt _ _) (pz_lt _ _)
  clear l0 l1 l2 l3
  generalize px n (cr n (cf n c) (ci n c) (cj n c)) = a0 at *
  generalize py n (cr n (cf n c) (ci n c) (cj n c)) = b0 at *
  generalize pz n (cr n (cf n c) (ci n c) (cj n c)) = d0 at *
  generalize px n (cr n (cf n c) (ci n c + 1) (cj n c)) = a1 at *
  generalize py n (cr n (cf n c) (ci n c + 1) (cj n c)) = b1 at *
  generalize pz n (cr n (cf n c) (ci n c + 1) (cj n c)) = d1 at *
  generalize px n (cr n (cf n c) (ci n c + 1) (cj n c + 1)) = a2 at *
  generalize py n (cr n (cf n c) (ci n c + 1) (cj n c + 1)) = b2 at *
  generalize pz n (cr n (cf n c) (ci n c + 1) (cj n c + 1)) = d2 at *
  generalize px n (cr n (cf n c) (ci n c) (cj n c + 1)) = a3 at *
  generalize py n (cr n (cf n c) (ci n c) (cj n c + 1)) = b3 at *
  generalize pz n (cr n (cf n c) (ci n c) (cj n c + 1)) = d3 at *
  rcases Cu.four hs with rfl | rfl | rfl | rfl
  · generalize LnC n c 0 = L at *
    clear hn hc hs GA1 GA2 GA3
    go_enter Tryd.func8, Tryd.ntmps8
    go_wp2_with fail
    refine (CO.out _).mono ?_
    rintro e v ⟨rfl, b1⟩
    go_wp2_with fail
    refine (GA0.out _).mono ?_
    rintro e v2 ⟨rfl, b2⟩
    go_wp2
    go_ret
    exact ⟨rfl, Ab.call ((Ab.refl w).call b1 |>.alloc _) b2⟩
  · generalize LnC n c 1 = L at *
    clear hn hc hs GA0 GA2 GA3
    go_enter Tryd.func8, Tryd.ntmps8
    go_wp2_with fail
    refine (CO.out _).mono ?_
    rintro e v ⟨rfl, b1⟩
    go_wp2_with fail
    refine (GA1.out _).mono ?_
    rintro e v2 ⟨rfl, b2⟩
    go_wp2
    go_ret
    exact ⟨rfl, Ab.call ((Ab.refl w).call b1 |>.alloc _) b2⟩
  · generalize LnC n c 2 = L at *
    clear hn hc hs GA0 GA1 GA3
    go_enter Tryd.func8, Tryd.ntmps8
    go_wp2_with fail
    refine (CO.out _).mono ?_
    rintro e v ⟨rfl, b1⟩
    go_wp2_with fail
    refine (GA2.out _).mono ?_
    rintro e v2 ⟨rfl, b2⟩
    go_wp2
    go_ret
    exact ⟨rfl, Ab.call ((Ab.refl w).call b1 |>.alloc _) b2⟩
  · generalize LnC n c 3 = L at *
    clear hn hc hs GA0 GA1 GA2
    go_enter Tryd.func8, Tryd.ntmps8
    go_wp2_with fail
    refine (CO.out _).mono ?_
    rintro e v ⟨rfl, b1⟩
    go_wp2_with fail
    refine (GA3.out _).mono ?_
    rintro e v2 ⟨rfl, b2⟩
    go_wp2
    go_ret
    exact ⟨rfl, Ab.call ((Ab.refl w).call b1 |>.alloc _) b2⟩
set_option maxHeartbeats 8000000 in
theorem gap_ok (n c s : Nat) (w : World) (hn : 1 ≤ n ∧ n ≤ 32) (hc : c < 6 * n * n) (hs : s < 4) (hF : Fr w) :
    Calls Tryd.prog 9 #[.int .i64 n, .int .i64 c, .int .i64 s] w fun e w' => e = .returned (.float .f64 (GpC n c s)) ∧ Below w.heap.size w w' := by
  obtain ⟨hb, -⟩ := bs_lt hn.1 hc hs
  have BE := hid (beside_at n c s w hn hc hs hF)
  have M1 := hid (fun u => middle_ok n c u hn hc)
  have M2 := hid (fun u => middle_ok n (bsC n c s) u hn hb)
  have GA : Hid (∀ u, Calls Tryd.prog 22 #[.agg #[.float .f64 (px n (MD n c)), .float .f64 (py n (MD n c)), .float .f64 (pz n (MD n c))], .agg #[.float .f64 (px n (MD n (bsC n c s))), .float .f64 (py n (MD n (bsC n c s))), .float .f64 (pz n (MD n (bsC n c s)))]] u fun e w' => e = .returned (.float .f64 (GpC n c s)) ∧ Below u.heap.size u w') := fun u => gap_at _ _ _ _ _ _ u (px_lt _ _) (py_lt _ _) (pz_lt _ _) (px_lt _ _) (py_lt _ _) (pz_lt _ _)
  generalize px n (MD n c) = x at *
  generalize py n (MD n c) = y at *
  generalize pz n (MD n c) = z at *
  generalize px n (MD n (bsC n c s)) = x' at *
  generalize py n (MD n (bsC n c s)) = y' at *
  generalize pz n (MD n (bsC n c s)) = z' at *
  generalize GpC n c s = G at *
  generalize bsC n c s = c' at *
  generalize bsS n c s = s' at *
  clear hn hc hs hF hb
  go_enter Tryd.func9, Tryd.ntmps9
  go_wp2_with fail
  refine (BE.out).mono ?_
  rintro e v ⟨rfl, b1⟩
  go_wp2_with fail
  refine (M1.out _).mono ?_
  rintro e v2 ⟨rfl, b2⟩
  go_wp2_with fail
  refine (M2.out _).mono ?_
  rintro e v3 ⟨rfl, b3⟩
  have B2 : Hid (Ab w v2) := (Ab.call b1 b2)
  have B3 : Hid (Ab w v3) := Ab.call (B2.out.alloc _) b3
  have r2 : v3.heap[v2.heap.size]? = some (.cells #[.float .f64 x, .float .f64 y, .float .f64 z] 30) := newrow' b3
  have r2' : (v3.alloc (.cells #[.float .f64 x', .float .f64 y', .float .f64 z'] 30)).heap[v2.heap.size]? = some (.cells #[.float .f64 x, .float .f64 y, .float .f64 z] 30) := by
    rw [Below.heap_alloc _ _ _ (by have := b3.size; simp at this; omega)]; exact r2
  obtain ⟨-, q0, q1, q2⟩ := rowfacts r2'
  clear r2 r2' b1 b2 b3
  go_wp2_with fail
  refine (GA.out _).mono ?_
  rintro e v4 ⟨rfl, b4⟩
  go_wp2
  go_ret
  exact ⟨rfl, Ab.call (B3.out.alloc _) b4⟩
end Go.Proofs.YtebnjbljabjgaaaDoor

namespace Go.Proofs.YtebnjbljabjgaaaDoor
open Go.RowKit Tf Cu
attribute [local go_sem] run_bits run_from raw_feq raw_fne raw_flt raw_fgt run_neg run_store_float
/-- an area, of its length -/
def arQ (L : Nat) : Nat := mlB (mlB (qB L) (qB 4602678819172646912)) (qB 4742290407621132288)
def arI (L : Nat) : Int := max (cI .even (arQ L)) 1
theorem cI_q (x : Nat) : cI .even x = cI .even (qB x) ∧ cOk .even x = cOk .even (qB x) := by
  unfold qB
  cases h : isN x
  · rw [if_neg (by decide)]; exact ⟨rfl, rfl⟩
  · rw [if_pos rfl]
    have e : cOk .even x = false := by
      unfold cOk fin
      have : ¬ mg x < 9218868437227405312 := by rw [isN_true] at h; omega
      simp [this]
    have e2 : cOk .even quiet = false := by decide +kernel
    unfold cI
    rw [e, e2]; simp only [Bool.false_eq_true, if_false, and_self]
set_option maxRecDepth 10000 in
set_option maxHeartbeats 16000000 in
theorem area_walk (n c : Nat) (a0 b0 d0 a1 b1 d1 a2 b2 d2 a3 b3 d3 : Nat) (w : World) (ha0 : Hid (a0 < 18446744073709551616)) (hb0 : Hid (b0 < 18446744073709551616)) (hd0 : Hid (d0 < 18446744073709551616)) (ha1 : Hid (a1 < 18446744073709551616)) (hb1 : Hid (b1 < 18446744073709551616)) (hd1 : Hid (d1 < 18446744073709551616)) (ha2 : Hid (a2 < 18446744073709551616)) (hb2 : Hid (b2 < 18446744073709551616)) (hd2 : Hid (d2 < 18446744073709551616)) (ha3 : Hid (a3 < 18446744073709551616)) (hb3 : Hid (b3 < 18446744073709551616)) (hd3 : Hid (d3 < 18446744073709551616))
    (CO : Hid (∀ u, Calls Tryd.prog 17 #[.int .i64 n, .int .i64 c] u fun e w' => e = .returned (.tuple #[.agg #[.float .f64 a0, .float .f64 b0, .float .f64 d0, .float .f64 a1, .float .f64 b1, .float .f64 d1, .float .f64 a2, .float .f64 b2, .float .f64 d2, .float .f64 a3, .float .f64 b3, .float .f64 d3], .bool true]) ∧ Below u.heap.size u w')) :
    Calls Tryd.prog 7 #[.int .i64 n, .int .i64 c] w fun e w' => e = .returned (.int .i64 (arI (cl (sbB a2 a0) (sbB b2 b0) (sbB d2 d0) (sbB a3 a1) (sbB b3 b1) (sbB d3 d1)))) ∧ Below w.heap.size w w' := by
  have MI := hid (fun x y z u v t w (hx : Hid (x < 18446744073709551616)) (hy : Hid (y < 18446744073709551616)) (hz : Hid (z < 18446744073709551616)) (hu : Hid (u < 18446744073709551616)) (hv : Hid (v < 18446744073709551616)) (ht : Hid (t < 18446744073709551616)) => minus_at x y z u v t w hx hy hz hu hv ht)
  have CR := hid (fun w => cross_at (sbB a2 a0) (sbB b2 b0) (sbB d2 d0) (sbB a3 a1) (sbB b3 b1) (sbB d3 d1) w (sbB_lt ha2 ha0) (sbB_lt hb2 hb0) (sbB_lt hd2 hd0) (sbB_lt ha3 ha1) (sbB_lt hb3 hb1) (sbB_lt hd3 hd1))
  have LN : Hid (∀ w, Calls Tryd.prog 18 #[.agg #[.float .f64 (sbB (mlB (sbB b2 b0) (sbB d3 d1)) (mlB (sbB d2 d0) (sbB b3 b1))), .float .f64 (sbB (mlB (sbB d2 d0) (sbB a3 a1)) (mlB (sbB a2 a0) (sbB d3 d1))), .float .f64 (sbB (mlB (sbB a2 a0) (sbB b3 b1)) (mlB (sbB b2 b0) (sbB a3 a1)))]] w fun e w' => e = .returned (.float .f64 (cl (sbB a2 a0) (sbB b2 b0) (sbB d2 d0) (sbB a3 a1) (sbB b3 b1) (sbB d3 d1))) ∧ Below w.heap.size w w') := fun w => length_at (sbB (mlB (sbB b2 b0) (sbB d3 d1)) (mlB (sbB d2 d0) (sbB b3 b1))) (sbB (mlB (sbB d2 d0) (sbB a3 a1)) (mlB (sbB a2 a0) (sbB d3 d1))) (sbB (mlB (sbB a2 a0) (sbB b3 b1)) (mlB (sbB b2 b0) (sbB a3 a1))) w (sbB_lt (mlB_lt (sbB_lt hb2 hb0) (sbB_lt hd3 hd1)) (mlB_lt (sbB_lt hd2 hd0) (sbB_lt hb3 hb1))) (sbB_lt (mlB_lt (sbB_lt hd2 hd0) (sbB_lt ha3 ha1)) (mlB_lt (sbB_lt ha2 ha0) (sbB_lt hd3 hd1))) (sbB_lt (mlB_lt (sbB_lt ha2 ha0) (sbB_lt hb3 hb1)) (mlB_lt (sbB_lt hb2 hb0) (sbB_lt ha3 ha1)))
  have lL : cl (sbB a2 a0) (sbB b2 b0) (sbB d2 d0) (sbB a3 a1) (sbB b3 b1) (sbB d3 d1) < 18446744073709551616 := by unfold cl lnB; exact rtB_lt _
  generalize cl (sbB a2 a0) (sbB b2 b0) (sbB d2 d0) (sbB a3 a1) (sbB b3 b1) (sbB d3 d1) = L at *
  generalize sbB (mlB (sbB b2 b0) (sbB d3 d1)) (mlB (sbB d2 d0) (sbB b3 b1)) = c1 at *
  generalize sbB (mlB (sbB d2 d0) (sbB a3 a1)) (mlB (sbB a2 a0) (sbB d3 d1)) = c2 at *
  generalize sbB (mlB (sbB a2 a0) (sbB b3 b1)) (mlB (sbB b2 b0) (sbB a3 a1)) = c3 at *
  have hmx : arI L = max (cI .even (arQ L)) 1 := by unfold arI; with_reducible rfl
  obtain ⟨A, hA⟩ : ∃ A, cI .even (arQ L) = A := ⟨_, rfl⟩
  obtain ⟨ok, hok⟩ : ∃ ok, cOk .even (arQ L) = ok := ⟨_, rfl⟩
  rw [hmx, hA]
  have HA := hid hA
  have HO := hid hok
  clear hmx hA hok
  go_enter Tryd.func7, Tryd.ntmps7
  go_wp2_with fail
  refine (CO.out _).mono ?_
  rintro e v ⟨rfl, bq⟩
  go_upto_region 4 with fail
  generalize hW : World.alloc _ _ = W
  have AW : Hid (Ab w W) := by rw [← hW]; exact Ab.alloc bq _
  have RW : Hid (W.heap[v.heap.size]? = some (.cells #[.float .f64 a0, .float .f64 b0, .float .f64 d0, .float .f64 a1, .float .f64 b1, .float .f64 d1, .float .f64 a2, .float .f64 b2, .float .f64 d2, .float .f64 a3, .float .f64 b3, .float .f64 d3] 45)) := by rw [← hW]; exact heap_alloc_new _ _
  clear hW bq CO
  obtain ⟨UU, F, hF1, hF2⟩ := cls W
  have HF := hid hF2
  have HF1 := hid hF1
  have x0 : ∀ vv, (F vv).cell? ⟨v.heap.size, 0, none⟩ = some (.float .f64 a0) := fun vv => cell_of_row _ _ 0 _ _ _ ((hF1 vv).heap RW.out)
  have x1 : ∀ vv, (F vv).cell? ⟨v.heap.size, 1, none⟩ = some (.float .f64 b0) := fun vv => cell_of_row _ _ 1 _ _ _ ((hF1 vv).heap RW.out)
  have x2 : ∀ vv, (F vv).cell? ⟨v.heap.size, 2, none⟩ = some (.float .f64 d0) := fun vv => cell_of_row _ _ 2 _ _ _ ((hF1 vv).heap RW.out)
  have x3 : ∀ vv, (F vv).cell? ⟨v.heap.size, 3, none⟩ = some (.float .f64 a1) := fun vv => cell_of_row _ _ 3 _ _ _ ((hF1 vv).heap RW.out)
  have x4 : ∀ vv, (F vv).cell? ⟨v.heap.size, 4, none⟩ = some (.float .f64 b1) := fun vv => cell_of_row _ _ 4 _ _ _ ((hF1 vv).heap RW.out)
  have x5 : ∀ vv, (F vv).cell? ⟨v.heap.size, 5, none⟩ = some (.float .f64 d1) := fun vv => cell_of_row _ _ 5 _ _ _ ((hF1 vv).heap RW.out)
  have x6 : ∀ vv, (F vv).cell? ⟨v.heap.size, 6, none⟩ = some (.float .f64 a2) := fun vv => cell_of_row _ _ 6 _ _ _ ((hF1 vv).heap RW.out)
  have x7 : ∀ vv, (F vv).cell? ⟨v.heap.size, 7, none⟩ = some (.float .f64 b2) := fun vv => cell_of_row _ _ 7 _ _ _ ((hF1 vv).heap RW.out)
  have x8 : ∀ vv, (F vv).cell? ⟨v.heap.size, 8, none⟩ = some (.float .f64 d2) := fun vv => cell_of_row _ _ 8 _ _ _ ((hF1 vv).heap RW.out)
  have x9 : ∀ vv, (F vv).cell? ⟨v.heap.size, 9, none⟩ = some (.float .f64 a3) := fun vv => cell_of_row _ _ 9 _ _ _ ((hF1 vv).heap RW.out)
  have x10 : ∀ vv, (F vv).cell? ⟨v.heap.size, 10, none⟩ = some (.float .f64 b3) := fun vv => cell_of_row _ _ 10 _ _ _ ((hF1 vv).heap RW.out)
  have x11 : ∀ vv, (F vv).cell? ⟨v.heap.size, 11, none⟩ = some (.float .f64 d3) := fun vv => cell_of_row _ _ 11 _ _ _ ((hF1 vv).heap RW.out)
  have D := HF.out _ (Ab.refl W).drew
  clear hF1 hF2
  refine region_cls F (by kernel_rfl) (by kernel_rfl) D ?_
  repeat (go_big_quiet_step (first
    | (with_reducible rfl)
    | (go_at_call 20; exact calls_cls HF HF1 (MI.out _ _ _ _ _ _ _ (by assumption) (by assumption) (by assumption) (by assumption) (by assumption) (by assumption)))
    | (go_at_call 19; exact calls_cls HF HF1 (CR.out _))
    | (go_at_call 18; exact calls_cls HF HF1 (LN.out _))))
  refine wpQuiet_nil ?_
  intro wz hwz
  obtain ⟨vv, hv⟩ := hwz
  have bz : Below W.heap.size W wz := by rw [hv]; exact HF1.out vv
  clear hv vv
  clear HF HF1 D x0 x1 x2 x3 x4 x5 x6 x7 x8 x9 x10 x11
  clear F UU
  have AZ : Hid (Ab w wz) := AW.out.call bz
  clear bz AW RW
  obtain ⟨r1, n1, k1, q1⟩ := mul_any (P := Tryd.prog) wz L _ 4602678819172646912 _ (IsQ.self lL) (IsQ.self (by decide))
  obtain ⟨r2, n2, k2, q2⟩ := mul_any (P := Tryd.prog) (wz.drewN n1) r1 _ 4742290407621132288 _ q1 (IsQ.self (by decide))
  have RO : Hid (∀ u, Calls Tryd.prog 21 #[.float .f64 r2] u fun e w' => e = .returned (.tuple #[.int .i64 A, .bool ok]) ∧ ∃ n, w' = u.drewN n) := fun u =>
    round_at r2 A ok u q2.1 (by rw [(cI_q r2).1, q2.2]; exact HA.out) (by rw [(cI_q r2).2, q2.2]; exact HO.out)
  rw [World.drewN_drewN] at k2
  clear q1 q2 HA HO
  go_wp2_with fail
  refine (RO.out _).mono ?_
  rintro e w5 ⟨rfl, n3, rfl⟩
  go_wp2
  all_goals go_ret
  all_goals exact ⟨congrArg (fun z => Ending.returned (.int .i64 z)) (by omega), Ab.drewN AZ.out _⟩
theorem area_ok (n c : Nat) (w : World) (hn : 1 ≤ n ∧ n ≤ 32) (hc : c < 6 * n * n) :
    Calls Tryd.prog 7 #[.int .i64 n, .int .i64 c] w fun e w' => e = .returned (.int .i64 (arI (ArC n c))) ∧ Below w.heap.size w w' := by
  have h := area_walk n c _ _ _ _ _ _ _ _ _ _ _ _ w (px_lt n _) (py_lt n _) (pz_lt n _) (px_lt n _) (py_lt n _) (pz_lt n _) (px_lt n _) (py_lt n _) (pz_lt n _) (px_lt n _) (py_lt n _) (pz_lt n _) (fun u => corners_ok n c u hn hc)
  unfold ArC ar
  exact h
end Go.Proofs.YtebnjbljabjgaaaDoor

namespace Go.Proofs.YtebnjbljabjgaaaDoor
open Go.RowKit Tf Cu
attribute [local go_sem] run_bits run_from raw_feq raw_fne raw_flt raw_fgt run_neg run_store_float
theorem ag1 : px 2 (cr 2 0 1 1) = 4607182418800017408 := by decide +kernel
theorem ag2 : px 1 (MD 1 0) = 4607182418800017408 := by decide +kernel
theorem ag3 : arI (ArC 1 0) = 1431655765 := by decide +kernel
theorem ag4 : arI (ArC 4 5) = 205701258 := by decide +kernel
theorem ag5 : fgt (LnC 1 0 0) 4607857958744122982 = true := by decide +kernel
theorem ag6 : fgt (GpC 1 0 0) 4609028894647239311 = true := by decide +kernel
theorem ag7 : feq 4607182418800017408 4607182418800017408 = true := by decide +kernel
set_option maxHeartbeats 4000000 in
theorem awake8_at (w : World) (h : Fr w) : Calls Tryd.prog 5 #[] w fun e w' => e = .returned (.bool true) ∧ Below w.heap.size w w' := by
  have CO := hid (fun u => corner_ok 2 0 1 1 u (by omega) (by omega) (by omega) (by omega))
  have MI := hid (fun u => middle_ok 1 0 u (by omega) (by omega))
  have A1 := hid (fun u => area_ok 1 0 u (by omega) (by omega))
  have A2 := hid (fun u => area_ok 4 5 u (by omega) (by omega))
  have LE := hid (fun u => len_ok 1 0 0 u (by omega) (by omega) (by omega))
  have GA := hid (fun u (hu : Ab w u) => gap_ok 1 0 0 u (by omega) (by omega) (by omega) (h.to hu))
  rw [ag1] at CO
  rw [ag2] at MI
  rw [ag3] at A1
  rw [ag4] at A2
  have g5 := ag5
  have g6 := ag6
  have g7 := ag7
  generalize LnC 1 0 0 = L at *
  generalize GpC 1 0 0 = G at *
  generalize py 2 (cr 2 0 1 1) = y at *
  generalize pz 2 (cr 2 0 1 1) = z at *
  generalize py 1 (MD 1 0) = y1 at *
  generalize pz 1 (MD 1 0) = z1 at *
  clear h
  go_enter Tryd.func5, Tryd.ntmps5
  go_wp2_with fail
  refine (CO.out _).mono ?_
  rintro e v1 ⟨rfl, b1⟩
  have B1 : Hid (Ab w (v1.alloc (.cells #[.float .f64 4607182418800017408, .float .f64 y, .float .f64 z] 30))) := Ab.alloc b1 _
  go_wp2_with fail
  refine (MI.out _).mono ?_
  rintro e v2 ⟨rfl, b2⟩
  have B2 : Hid (Ab w v2) := B1.out.call b2
  have B3 : Hid (Ab w (v2.alloc (.cells #[.float .f64 4607182418800017408, .float .f64 y1, .float .f64 z1] 30))) := Ab.alloc B2.out _
  have r1 : v2.heap[v1.heap.size]? = some (.cells #[.float .f64 4607182418800017408, .float .f64 y, .float .f64 z] 30) := newrow' b2
  have r2 : (v2.alloc (.cells #[.float .f64 4607182418800017408, .float .f64 y1, .float .f64 z1] 30)).heap[v1.heap.size]? = some (.cells #[.float .f64 4607182418800017408, .float .f64 y, .float .f64 z] 30) := by
    rw [Below.heap_alloc _ _ _ (by have := b2.size; simp at this; omega)]; exact r1
  obtain ⟨-, q0, -, -⟩ := rowfacts r2
  clear r1 r2 b1 b2
  go_wp2_with fail
  refine (A1.out _).mono ?_
  rintro e v3 ⟨rfl, b3⟩
  have B4 : Hid (Ab w v3) := B3.out.call b3
  go_wp2_with fail
  refine (A2.out _).mono ?_
  rintro e v4 ⟨rfl, b4⟩
  have B5 : Hid (Ab w v4) := B4.out.call b4
  go_wp2_with fail
  refine (LE.out _).mono ?_
  rintro e v5 ⟨rfl, b5⟩
  have B6 : Hid (Ab w v5) := B5.out.call b5
  go_wp2_with fail
  refine (GA.out _ B6.out).mono ?_
  rintro e v6 ⟨rfl, b6⟩
  go_wp2
  go_ret
  exact ⟨rfl, B6.out.call b6⟩
set_option maxHeartbeats 4000000 in
theorem net8_at (a b : Int) : ∃ n c : Nat, (1 ≤ n ∧ n ≤ 32) ∧ c < 6 * n * n ∧ ∀ w, Calls Tryd.prog 6 #[.int .i64 a, .int .i64 b] w fun e w' => e = .returned (.tuple #[.int .i64 n, .int .i64 c]) ∧ ∃ k, w' = w.drewN k := by
  obtain ⟨y, hy⟩ : ∃ y, a % 18446744073709551616 = y := ⟨_, rfl⟩
  have y0 : 0 ≤ y ∧ y < 18446744073709551616 := by omega
  obtain ⟨z, hz⟩ : ∃ z, y % 32 = z := ⟨_, rfl⟩
  have z0 : 0 ≤ z ∧ z < 32 := by omega
  obtain ⟨n, hn⟩ : ∃ n : Nat, 1 + z = n := ⟨(1 + z).toNat, by omega⟩
  have n0 : 1 ≤ n ∧ n ≤ 32 := by omega
  obtain ⟨m, hm⟩ : ∃ m : Nat, 6 * n * n = m := ⟨_, rfl⟩
  have hmi : 6 * (n : Int) * n = m := by rw [← hm]; simp
  have m0 : 1 ≤ m ∧ m ≤ 6144 := by
    have h1 : 6 * n ≤ 192 := by omega
    have h2 : 6 * n * n ≤ 192 * 32 := Nat.mul_le_mul h1 n0.2
    have h3 : 6 * n * 1 ≤ 6 * n * n := Nat.mul_le_mul_left _ n0.1
    omega
  obtain ⟨y2, hy2⟩ : ∃ y, b % 18446744073709551616 = y := ⟨_, rfl⟩
  have y20 : 0 ≤ y2 ∧ y2 < 18446744073709551616 := by omega
  obtain ⟨c, hc⟩ : ∃ c : Nat, y2 % (m : Int) = c := ⟨(y2 % (m : Int)).toNat, by have := Int.emod_nonneg y2 (show (m : Int) ≠ 0 by omega); omega⟩
  have c0 : c < m := by have := Int.emod_lt_of_pos y2 (show (0 : Int) < m by omega); omega
  refine ⟨n, c, n0, by rw [hm]; exact c0, fun w => ?_⟩
  have e1 : IntKind.u64.wrap a = y := by rw [IntKind.wrap_u64, hy]
  have e2 : IntKind.u64.wrap b = y2 := by rw [IntKind.wrap_u64, hy2]
  have t1 : y.tmod 32 = z := by rw [Int.tmod_eq_emod_of_nonneg y0.1, hz]
  have t2 : y2.tmod m = c := by rw [Int.tmod_eq_emod_of_nonneg y20.1, hc]
  have m1 : ¬ (m : Int) = 0 := by omega
  have m2 : (m : Int) ≤ 6144 := by omega
  have m3 : 1 ≤ (m : Int) := by omega
  have c1 : (c : Int) < m := by omega
  have n1 : 1 ≤ (n : Int) := by omega
  have n2 : (n : Int) ≤ 32 := by omega
  have HN := hid hn
  have HM := hid hmi
  clear hy hz hm hy2 hc c0 n0 m0 hn hmi
  have e3 : 6 * (n : Int) ≤ 192 := by omega
  have hmi := HM.out
  have hn := HN.out
  go_enter Tryd.func6, Tryd.ntmps6
  go_wp2
  go_quiet (fail)
  go_wp2
  refine bodyPost_ret (v := .tuple #[.int .i64 n, .int .i64 c]) (by simp [results, Tryd.results6, go_sem]) rfl ⟨rfl, _, rfl⟩
end Go.Proofs.YtebnjbljabjgaaaDoor

namespace Go.Proofs.YtebnjbljabjgaaaDoor
open Go.RowKit Tf Cu
attribute [local go_sem] run_bits run_from raw_feq raw_fne raw_flt raw_fgt run_neg run_store_float
theorem ends8_calls (n c s : Nat) (hn : 1 ≤ n ∧ n ≤ 32) (hc : c < 6 * n * n) (hs : s < 4) : ∃ i1 j1 i2 j2 : Nat, (i1 = [1, 0, 0, 0].getD s 0 ∧ j1 = [0, 1, 0, 0].getD s 0 ∧ i2 = [1, 1, 0, 1].getD s 0 ∧ j2 = [1, 1, 1, 0].getD s 0) ∧
    (∀ u, Calls Tryd.prog 14 #[.int .i64 n, .int .i64 (cf n c : Nat), .int .i64 ((ci n c : Nat) + (i1 : Nat)), .int .i64 ((cj n c : Nat) + (j1 : Nat))] u fun e w' => e = .returned (.tuple #[.agg #[.float .f64 (px n (C1 n c s)), .float .f64 (py n (C1 n c s)), .float .f64 (pz n (C1 n c s))], .bool true]) ∧ Below u.heap.size u w') ∧
    (∀ u, Calls Tryd.prog 14 #[.int .i64 n, .int .i64 (cf n c : Nat), .int .i64 ((ci n c : Nat) + (i2 : Nat)), .int .i64 ((cj n c : Nat) + (j2 : Nat))] u fun e w' => e = .returned (.tuple #[.agg #[.float .f64 (px n (C2 n c s)), .float .f64 (py n (C2 n c s)), .float .f64 (pz n (C2 n c s))], .bool true]) ∧ Below u.heap.size u w') := by
  obtain ⟨h1, h2, h3, -⟩ := dec_lt hn.1 hc
  refine ⟨_, _, _, _, ⟨rfl, rfl, rfl, rfl⟩, ?_, ?_⟩
  · intro u
    rcases Cu.four hs with rfl | rfl | rfl | rfl
    all_goals exact corner_ok n (cf n c) (ci n c + _) (cj n c + _) u hn h1 (by (try simp) <;> omega) (by (try simp) <;> omega)
  · intro u
    rcases Cu.four hs with rfl | rfl | rfl | rfl
    all_goals exact corner_ok n (cf n c) (ci n c + _) (cj n c + _) u hn h1 (by (try simp) <;> omega) (by (try simp) <;> omega)
theorem wr64 (a : Int) (h0 : 0 ≤ a) (h1 : a ≤ 1000) : IntKind.i64.wrap a = a := by
  simp [IntKind.wrap, IntKind.bits, IntKind.signed] <;> omega
theorem four_rows (w : World) (A B C D : Obj) (m : Nat) : (((((w.alloc A).alloc B).drewN m).alloc C).alloc D).heap[w.heap.size]? = some A ∧ (((((w.alloc A).alloc B).drewN m).alloc C).alloc D).heap[w.heap.size + 1]? = some B ∧
    (((((w.alloc A).alloc B).drewN m).alloc C).alloc D).heap[w.heap.size + 1 + 1]? = some C ∧ (((((w.alloc A).alloc B).drewN m).alloc C).alloc D).heap[w.heap.size + 1 + 1 + 1]? = some D ∧ Ab w (((((w.alloc A).alloc B).drewN m).alloc C).alloc D) := by
  have e : (((w.alloc A).alloc B).drewN m).heap.size = w.heap.size + 1 + 1 := by simp
  have h1 : (((w.alloc A).alloc B).drewN m).heap[w.heap.size]? = some A := heap_alloc2_old w A B
  have h2 : (((w.alloc A).alloc B).drewN m).heap[w.heap.size + 1]? = some B := heap_alloc2_new w A B
  have h3 := heap_alloc2_old (((w.alloc A).alloc B).drewN m) C D
  have h4 := heap_alloc2_new (((w.alloc A).alloc B).drewN m) C D
  rw [e] at h3 h4
  refine ⟨?_, ?_, h3, h4, ((Ab.drewN (bl2 w A B) m).alloc _).alloc _⟩
  · rw [Below.heap_alloc _ _ _ (by (try simp) <;> omega), Below.heap_alloc _ _ _ (by rw [e]; omega)]; exact h1
  · rw [Below.heap_alloc _ _ _ (by (try simp) <;> omega), Below.heap_alloc _ _ _ (by rw [e]; omega)]; exact h2
end Go.Proofs.YtebnjbljabjgaaaDoor

namespace Go.Proofs.YtebnjbljabjgaaaDoor
open Go.RowKit Tf Cu
attribute [local go_sem] run_bits run_from raw_feq raw_fne raw_flt raw_fgt run_neg run_store_float
set_option maxHeartbeats 16000000 in
theorem ends8_0 (n c s : Nat) (w : World) (hn : 1 ≤ n ∧ n ≤ 32) (hc : c < 6 * n * n) (hs : s < 4) (hk : s = 0) :
    Calls Tryd.prog 11 #[.int .i64 n, .int .i64 c, .int .i64 s] w fun e w' => e = .returned (.tuple #[.agg #[.float .f64 (px n (C1 n c s)), .float .f64 (py n (C1 n c s)), .float .f64 (pz n (C1 n c s))], .agg #[.float .f64 (px n (C2 n c s)), .float .f64 (py n (C2 n c s)), .float .f64 (pz n (C2 n c s))]]) ∧ Below w.heap.size w w' := by
  obtain ⟨h1, h2, h3, -⟩ := dec_lt hn.1 hc
  have PL := hid (fun u => place_ok n c hn hc u)
  obtain ⟨i1, j1, i2, j2, ⟨e1, e2, e3, e4⟩, K1, K2⟩ := ends8_calls n c s hn hc hs
  have K1 := hid K1
  have K2 := hid K2
  generalize px n (C1 n c s) = x1 at *
  generalize py n (C1 n c s) = y1 at *
  generalize pz n (C1 n c s) = z1 at *
  generalize px n (C2 n c s) = x2 at *
  generalize py n (C2 n c s) = y2 at *
  generalize pz n (C2 n c s) = z2 at *
  have hi : ((ci n c : Nat) : Int) ≤ 32 := by omega
  have hj : ((cj n c : Nat) : Int) ≤ 32 := by omega
  generalize cf n c = f at *
  generalize ci n c = i at *
  generalize cj n c = j at *
  clear hn hc h1 h2 h3
  have A0 := hid (bl2 w (.cells #[.float .f64 0, .float .f64 0, .float .f64 0] 30) (.cells #[.float .f64 0, .float .f64 0, .float .f64 0] 30))
  have R0 := hid (And.intro (heap_alloc2_old w (.cells #[.float .f64 0, .float .f64 0, .float .f64 0] 30) (.cells #[.float .f64 0, .float .f64 0, .float .f64 0] 30)) (heap_alloc2_new w (.cells #[.float .f64 0, .float .f64 0, .float .f64 0] 30) (.cells #[.float .f64 0, .float .f64 0, .float .f64 0] 30)))
  subst hk
  · obtain rfl : i1 = 1 := e1
    obtain rfl : j1 = 0 := e2
    obtain rfl : i2 = 1 := e3
    obtain rfl : j2 = 1 := e4
    have L1 : Hid (∀ u, Calls Tryd.prog 14 #[.int .i64 n, .int .i64 f, .int .i64 (IntKind.i64.wrap (((i : Nat) : Int) + 1)), .int .i64 (IntKind.i64.wrap ((j : Nat) : Int))] u fun e w' => e = .returned (.tuple #[.agg #[.float .f64 x1, .float .f64 y1, .float .f64 z1], .bool true]) ∧ Below u.heap.size u w') := fun u => by
      rw [wr64 _ (by omega) (by omega), wr64 _ (by omega) (by omega)]; exact K1.out u
    have L2 : Hid (∀ u, Calls Tryd.prog 14 #[.int .i64 n, .int .i64 f, .int .i64 (IntKind.i64.wrap (((i : Nat) : Int) + 1)), .int .i64 (IntKind.i64.wrap (((j : Nat) : Int) + 1))] u fun e w' => e = .returned (.tuple #[.agg #[.float .f64 x2, .float .f64 y2, .float .f64 z2], .bool true]) ∧ Below u.heap.size u w') := fun u => by
      rw [wr64 _ (by omega) (by omega), wr64 _ (by omega) (by omega)]; exact K2.out u
    clear hs K1 K2
    clear K1 K2
    go_enter Tryd.func11, Tryd.ntmps11
    go_wp2_with fail
    refine (PL.out _).mono ?_
    rintro e w1 ⟨rfl, m0, rfl⟩
    go_upto_region 4 with fail
    have FR := hid (four_rows w (.cells #[.float .f64 0, .float .f64 0, .float .f64 0] 30) (.cells #[.float .f64 0, .float .f64 0, .float .f64 0] 30) (.cells #[.int .i64 1, .int .i64 0, .int .i64 0, .int .i64 0] 3) (.cells #[.int .i64 0, .int .i64 1, .int .i64 0, .int .i64 0] 3) m0)
    generalize hW : World.alloc _ _ = W
    have FW : Hid (W.heap[w.heap.size]? = some (.cells #[.float .f64 0, .float .f64 0, .float .f64 0] 30) ∧ W.heap[w.heap.size + 1]? = some (.cells #[.float .f64 0, .float .f64 0, .float .f64 0] 30) ∧ W.heap[w.heap.size + 1 + 1]? = some (.cells #[.int .i64 1, .int .i64 0, .int .i64 0, .int .i64 0] 3) ∧ W.heap[w.heap.size + 1 + 1 + 1]? = some (.cells #[.int .i64 0, .int .i64 1, .int .i64 0, .int .i64 0] 3) ∧ Ab w W) := by rw [← hW]; exact FR.out
    clear hW FR A0 R0 PL
    have KS : Hid (∀ w', Ab W w' → Ab W w' ∧ w'.cell? ⟨w.heap.size + 1 + 1, 0, none⟩ = some (.int .i64 1) ∧ w'.cell? ⟨w.heap.size + 1 + 1 + 1, 0, none⟩ = some (.int .i64 0)) := fun w' hw => ⟨hw, cell_of_row _ _ 0 _ _ _ (hw.heap FW.out.2.2.1), cell_of_row _ _ 0 _ _ _ (hw.heap FW.out.2.2.2.1)⟩
    have AW := Ab.refl W
    have LS : Hid (∀ u, Ab W u → Calls Tryd.prog 14 #[.int .i64 n, .int .i64 f, .int .i64 (IntKind.i64.wrap (((i : Nat) : Int) + 1)), .int .i64 (IntKind.i64.wrap ((j : Nat) : Int))] u fun e w' => e = .returned (.tuple #[.agg #[.float .f64 x1, .float .f64 y1, .float .f64 z1], .bool true]) ∧ Below u.heap.size u w' ∧ Ab W w') := fun u hu => (L1.out u).mono fun _ _ ⟨he, hb⟩ => ⟨he, hb, hu.call hb⟩
    go_cut [14] from 28 to 46 (fun s14 wx => ∃ g14, s14 = .pointer (some ⟨g14, 0, none⟩) ∧ Ab W wx ∧ W.heap.size ≤ g14 ∧ wx.heap[g14]? = some (.cells #[.float .f64 x1, .float .f64 y1, .float .f64 z1] 30))
    case first =>
      go_region_held3 (fun w' => Ab W w' ∧ w'.cell? ⟨w.heap.size + 1 + 1, 0, none⟩ = some (.int .i64 1) ∧ w'.cell? ⟨w.heap.size + 1 + 1 + 1, 0, none⟩ = some (.int .i64 0)) ((refine KS.out _ ?_; (with_reducible (repeat (first | assumption | apply Ab.drew | apply Ab.alloc | (refine Ab.call ?_ (by assumption)) | (refine Ab.setk ?_ (by first | assumption | exact Nat.le_refl _ | omega) _)))); done)) (first
        | (go_at_call 14; refine (LS.out _ ?_).mono ?_; (exact And.left (by assumption)); rintro e w2 ⟨rfl, b2, a2⟩; have l2 : W.heap.size ≤ w2.heap.size := Nat.le_trans (by first | exact Nat.le_refl _ | (simp; done)) (Below.size b2); (try (have n2 := newrow b2; have n2' := rowfacts n2; obtain ⟨⟨_, _, _⟩, _, _, _⟩ := n2'))))
      all_goals go_wp2_with fail
      all_goals go_meet
      all_goals refine ⟨_, rfl, ?_, ?_, ?_⟩
      all_goals first
        | exact heap_alloc_new _ _
        | exact row3 n2
        | exact a2.size
        | exact l2
        | exact Nat.le_refl _
        | ((with_reducible (repeat (first | assumption | apply Ab.drew | apply Ab.alloc | (refine Ab.setk ?_ (by first | assumption | exact Nat.le_refl _ | omega) _)))); done)
    case rest =>
    obtain ⟨g14, rfl, A4, hg14, r14⟩ := hcut
    have R14 := hid r14
    have F4 := hid (And.intro (A4.heap FW.out.1) (And.intro (A4.heap FW.out.2.1) (FW.out.2.2.2.2.trans A4)))
    have HG : Hid (w.heap.size + 4 ≤ g14) := by
      have := lt_of_block FW.out.2.2.2.1
      show _ ≤ _
      omega
    clear KS AW r14 A4 hg14 L1 LS FW
    go_upto_region 7 with fail
    have FR := hid (And.intro (heap_alloc2_old wc (.cells #[.int .i64 1, .int .i64 1, .int .i64 0, .int .i64 1] 3) (.cells #[.int .i64 1, .int .i64 1, .int .i64 1, .int .i64 0] 3)) (heap_alloc2_new wc (.cells #[.int .i64 1, .int .i64 1, .int .i64 0, .int .i64 1] 3) (.cells #[.int .i64 1, .int .i64 1, .int .i64 1, .int .i64 0] 3)))
    have FB := hid (bl2 wc (.cells #[.int .i64 1, .int .i64 1, .int .i64 0, .int .i64 1] 3) (.cells #[.int .i64 1, .int .i64 1, .int .i64 1, .int .i64 0] 3))
    generalize hW : World.alloc _ _ = W2
    have FW : Hid (W2.heap[wc.heap.size]? = some (.cells #[.int .i64 1, .int .i64 1, .int .i64 0, .int .i64 1] 3) ∧ W2.heap[wc.heap.size + 1]? = some (.cells #[.int .i64 1, .int .i64 1, .int .i64 1, .int .i64 0] 3)) := by rw [← hW]; exact FR.out
    have A2 : Ab wc W2 := by rw [← hW]; exact FB.out
    have F2 := hid (And.intro (A2.heap F4.out.1) (And.intro (A2.heap F4.out.2.1) (F4.out.2.2.trans A2)))
    have R2 := hid (A2.heap R14.out)
    clear hW FR FB A2 F4 R14
    have KS : Hid (∀ w', Ab W2 w' → Ab W2 w' ∧ w'.cell? ⟨wc.heap.size, 0, none⟩ = some (.int .i64 1) ∧ w'.cell? ⟨wc.heap.size + 1, 0, none⟩ = some (.int .i64 1)) := fun w' hw => ⟨hw, cell_of_row _ _ 0 _ _ _ (hw.heap FW.out.1), cell_of_row _ _ 0 _ _ _ (hw.heap FW.out.2)⟩
    have AW := Ab.refl W2
    have LS : Hid (∀ u, Ab W2 u → Calls Tryd.prog 14 #[.int .i64 n, .int .i64 f, .int .i64 (IntKind.i64.wrap (((i : Nat) : Int) + 1)), .int .i64 (IntKind.i64.wrap (((j : Nat) : Int) + 1))] u fun e w' => e = .returned (.tuple #[.agg #[.float .f64 x2, .float .f64 y2, .float .f64 z2], .bool true]) ∧ Below u.heap.size u w' ∧ Ab W2 w') := fun u hu => (L2.out u).mono fun _ _ ⟨he, hb⟩ => ⟨he, hb, hu.call hb⟩
    go_cut [16] from 48 to 66 (fun s16 wx => ∃ g16, s16 = .pointer (some ⟨g16, 0, none⟩) ∧ Ab W2 wx ∧ W2.heap.size ≤ g16 ∧ wx.heap[g16]? = some (.cells #[.float .f64 x2, .float .f64 y2, .float .f64 z2] 30))
    case first =>
      go_region_held3 (fun w' => Ab W2 w' ∧ w'.cell? ⟨wc.heap.size, 0, none⟩ = some (.int .i64 1) ∧ w'.cell? ⟨wc.heap.size + 1, 0, none⟩ = some (.int .i64 1)) ((refine KS.out _ ?_; (with_reducible (repeat (first | assumption | apply Ab.drew | apply Ab.alloc | (refine Ab.call ?_ (by assumption)) | (refine Ab.setk ?_ (by first | assumption | exact Nat.le_refl _ | omega) _)))); done)) (first
        | (go_at_call 14; refine (LS.out _ ?_).mono ?_; (exact And.left (by assumption)); rintro e w2 ⟨rfl, b2, a2⟩; have l2 : W2.heap.size ≤ w2.heap.size := Nat.le_trans (by first | exact Nat.le_refl _ | (simp; done)) (Below.size b2); (try (have n2 := newrow b2; have n2' := rowfacts n2; obtain ⟨⟨_, _, _⟩, _, _, _⟩ := n2'))))
      all_goals go_wp2_with fail
      all_goals go_meet
      all_goals refine ⟨_, rfl, ?_, ?_, ?_⟩
      all_goals first
        | exact heap_alloc_new _ _
        | exact row3 n2
        | exact a2.size
        | exact l2
        | exact Nat.le_refl _
        | ((with_reducible (repeat (first | assumption | apply Ab.drew | apply Ab.alloc | (refine Ab.setk ?_ (by first | assumption | exact Nat.le_refl _ | omega) _)))); done)
    case rest =>
    obtain ⟨g16, rfl, A4, hg16, r16⟩ := hcut
    have R14 := hid (A4.heap R2.out)
    have G0 := hid (A4.heap F2.out.1)
    have G1 := hid (A4.heap F2.out.2.1)
    have AZ := hid (F2.out.2.2.trans A4)
    have HG2 : w.heap.size + 2 ≤ g16 := by
      have := lt_of_block F2.out.2.1
      omega
    have HG1 : w.heap.size + 2 ≤ g14 := by have := HG.out; omega
    have R16 := hid r16
    clear KS AW LS L2 FW F2 R2 A4 hg16 r16 HG
    obtain ⟨-, a0, a1, a2⟩ := rowfacts R14.out
    obtain ⟨-, d0, d1, d2⟩ := rowfacts R16.out
    obtain ⟨⟨o0, o1, o2⟩, zz0, zz1, zz2⟩ := rowfacts G0.out
    obtain ⟨⟨o3, o4, o5⟩, zz3, zz4, zz5⟩ := rowfacts G1.out
    go_upto_region 8 with fail
    go_region
    have r0' := other3 (g := w.heap.size + 1) (h := w.heap.size) (a := 0) (b := 1) (c := 2) (x := .float .f64 x2) (y := .float .f64 y2) (z := .float .f64 z2) (by omega) (row3 (x := .float .f64 x1) (y := .float .f64 y1) (z := .float .f64 z1) G0.out)
    have r1' := row3 (x := .float .f64 x2) (y := .float .f64 y2) (z := .float .f64 z2) (other3 (g := w.heap.size) (h := w.heap.size + 1) (a := 0) (b := 1) (c := 2) (x := .float .f64 x1) (y := .float .f64 y1) (z := .float .f64 z1) (by omega) G1.out)
    have R0' := hid r0'
    have R1' := hid r1'
    clear r0' r1'
    all_goals go_wp2
    refine bodyPost_ret ?_ rfl ⟨rfl, ?_⟩
    · exact res_rows Tryd.results11 _ _ w.heap.size (w.heap.size + 1) _ _ _ _ rfl rfl (by rw [heap_drew]; exact R0'.out) (by rw [heap_drew]; exact R1'.out) Tryd.underlying30 rfl (by kernel_rfl) (by kernel_rfl)
    · exact Ab.drew ((((((Ab.setk AZ.out (by omega) _).setk (by omega) _).setk (by omega) _).setk (by omega) _).setk (by omega) _).setk (by omega) _)
end Go.Proofs.YtebnjbljabjgaaaDoor
