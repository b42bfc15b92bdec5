/-
  Some of the texts of this proof, one behind the other.
-/
import Derived.Deep.OwnRows
import Derived.Laws.OwnMore
import Derived.Test.YtdigecacmibkpaaGreatDoorSa06
namespace Go.Proofs.YtdigecacmibkpaaGreatDoor
open Go.RowKit Tf Cu
attribute [local go_sem] run_bits run_from raw_feq raw_fne raw_flt raw_fgt run_neg run_store_float
theorem cells12 {w : World} {g : Nat} {v0 v1 v2 v3 v4 v5 v6 v7 v8 v9 v10 v11 : Value} {T : TypeId} (r : w.heap[g]? = some (.cells #[v0, v1, v2, v3, v4, v5, v6, v7, v8, v9, v10, v11] T)) :
    w.cell? ⟨g, 0, none⟩ = some v0 ∧ w.cell? ⟨g, 1, none⟩ = some v1 ∧ w.cell? ⟨g, 2, none⟩ = some v2 ∧ w.cell? ⟨g, 3, none⟩ = some v3 ∧ w.cell? ⟨g, 4, none⟩ = some v4 ∧ w.cell? ⟨g, 5, none⟩ = some v5 ∧ w.cell? ⟨g, 6, none⟩ = some v6 ∧ w.cell? ⟨g, 7, none⟩ = some v7 ∧ w.cell? ⟨g, 8, none⟩ = some v8 ∧ w.cell? ⟨g, 9, none⟩ = some v9 ∧ w.cell? ⟨g, 10, none⟩ = some v10 ∧ w.cell? ⟨g, 11, none⟩ = some v11 :=
  ⟨cell_of_row _ _ 0 _ _ _ r, cell_of_row _ _ 1 _ _ _ r, cell_of_row _ _ 2 _ _ _ r, cell_of_row _ _ 3 _ _ _ r, cell_of_row _ _ 4 _ _ _ r, cell_of_row _ _ 5 _ _ _ r, cell_of_row _ _ 6 _ _ _ r, cell_of_row _ _ 7 _ _ _ r, cell_of_row _ _ 8 _ _ _ r, cell_of_row _ _ 9 _ _ _ r, cell_of_row _ _ 10 _ _ _ r, cell_of_row _ _ 11 _ _ _ r⟩
theorem free12 {w : World} {g : Nat} {v0 v1 v2 v3 v4 v5 v6 v7 v8 v9 v10 v11 : Value} {T : TypeId} (r : w.heap[g]? = some (.cells #[v0, v1, v2, v3, v4, v5, v6, v7, v8, v9, v10, v11] T)) :
    w.frozen? ⟨g, 0, none⟩ = false ∧ w.frozen? ⟨g, 1, none⟩ = false ∧ w.frozen? ⟨g, 2, none⟩ = false ∧ w.frozen? ⟨g, 3, none⟩ = false ∧ w.frozen? ⟨g, 4, none⟩ = false ∧ w.frozen? ⟨g, 5, none⟩ = false ∧ w.frozen? ⟨g, 6, none⟩ = false ∧ w.frozen? ⟨g, 7, none⟩ = false ∧ w.frozen? ⟨g, 8, none⟩ = false ∧ w.frozen? ⟨g, 9, none⟩ = false ∧ w.frozen? ⟨g, 10, none⟩ = false ∧ w.frozen? ⟨g, 11, none⟩ = false :=
  ⟨free_row r 0, free_row r 1, free_row r 2, free_row r 3, free_row r 4, free_row r 5, free_row r 6, free_row r 7, free_row r 8, free_row r 9, free_row r 10, free_row r 11⟩
theorem put12_0 {w : World} {g : Nat} {v0 v1 v2 v3 v4 v5 v6 v7 v8 v9 v10 v11 x y z : Value} {T : TypeId} (h : w.heap[g]? = some (.cells #[v0, v1, v2, v3, v4, v5, v6, v7, v8, v9, v10, v11] T)) :
    (((w.setCell ⟨g, 0, none⟩ x).setCell ⟨g, 1, none⟩ y).setCell ⟨g, 2, none⟩ z).heap[g]? = some (.cells #[x, y, z, v3, v4, v5, v6, v7, v8, v9, v10, v11] T) := by
  have h1 := one_set (v := x) (k := 0) h
  have h2 := one_set (v := y) (k := 1) h1
  have h3 := one_set (v := z) (k := 2) h2
  simpa using h3
theorem put12_1 {w : World} {g : Nat} {v0 v1 v2 v3 v4 v5 v6 v7 v8 v9 v10 v11 x y z : Value} {T : TypeId} (h : w.heap[g]? = some (.cells #[v0, v1, v2, v3, v4, v5, v6, v7, v8, v9, v10, v11] T)) :
    (((w.setCell ⟨g, 3, none⟩ x).setCell ⟨g, 4, none⟩ y).setCell ⟨g, 5, none⟩ z).heap[g]? = some (.cells #[v0, v1, v2, x, y, z, v6, v7, v8, v9, v10, v11] T) := by
  have h1 := one_set (v := x) (k := 3) h
  have h2 := one_set (v := y) (k := 4) h1
  have h3 := one_set (v := z) (k := 5) h2
  simpa using h3
theorem put12_2 {w : World} {g : Nat} {v0 v1 v2 v3 v4 v5 v6 v7 v8 v9 v10 v11 x y z : Value} {T : TypeId} (h : w.heap[g]? = some (.cells #[v0, v1, v2, v3, v4, v5, v6, v7, v8, v9, v10, v11] T)) :
    (((w.setCell ⟨g, 6, none⟩ x).setCell ⟨g, 7, none⟩ y).setCell ⟨g, 8, none⟩ z).heap[g]? = some (.cells #[v0, v1, v2, v3, v4, v5, x, y, z, v9, v10, v11] T) := by
  have h1 := one_set (v := x) (k := 6) h
  have h2 := one_set (v := y) (k := 7) h1
  have h3 := one_set (v := z) (k := 8) h2
  simpa using h3
theorem put12_3 {w : World} {g : Nat} {v0 v1 v2 v3 v4 v5 v6 v7 v8 v9 v10 v11 x y z : Value} {T : TypeId} (h : w.heap[g]? = some (.cells #[v0, v1, v2, v3, v4, v5, v6, v7, v8, v9, v10, v11] T)) :
    (((w.setCell ⟨g, 9, none⟩ x).setCell ⟨g, 10, none⟩ y).setCell ⟨g, 11, none⟩ z).heap[g]? = some (.cells #[v0, v1, v2, v3, v4, v5, v6, v7, v8, x, y, z] T) := by
  have h1 := one_set (v := x) (k := 9) h
  have h2 := one_set (v := y) (k := 10) h1
  have h3 := one_set (v := z) (k := 11) h2
  simpa using h3
theorem other3 {w : World} {g h a b c : Nat} {x y z : Value} {o : Obj} (hne : h ≠ g) (hh : w.heap[h]? = some o) : (((w.setCell ⟨g, a, none⟩ x).setCell ⟨g, b, none⟩ y).setCell ⟨g, c, none⟩ z).heap[h]? = some o := by
  rw [Below.heap_setCell _ _ _ _ hne, Below.heap_setCell _ _ _ _ hne, Below.heap_setCell _ _ _ _ hne]; exact hh
set_option maxRecDepth 10000 in
set_option maxHeartbeats 8000000 in
theorem corners_ok (n c : Nat) (w : World) (hn : 1 ≤ n ∧ n ≤ 32) (hc : c < 6 * n * n) :
    Calls Tryz.prog 141 #[.int .i64 n, .int .i64 c] w fun e w' => e = .returned (.tuple #[.agg #[.float .f64 (px n (cr n (cf n c) (ci n c) (cj n c))), .float .f64 (py n (cr n (cf n c) (ci n c) (cj n c))), .float .f64 (pz n (cr n (cf n c) (ci n c) (cj n c))), .float .f64 (px n (cr n (cf n c) (ci n c + 1) (cj n c))), .float .f64 (py n (cr n (cf n c) (ci n c + 1) (cj n c))), .float .f64 (pz n (cr n (cf n c) (ci n c + 1) (cj n c))), .float .f64 (px n (cr n (cf n c) (ci n c + 1) (cj n c + 1))), .float .f64 (py n (cr n (cf n c) (ci n c + 1) (cj n c + 1))), .float .f64 (pz n (cr n (cf n c) (ci n c + 1) (cj n c + 1))), .float .f64 (px n (cr n (cf n c) (ci n c) (cj n c + 1))), .float .f64 (py n (cr n (cf n c) (ci n c) (cj n c + 1))), .float .f64 (pz n (cr n (cf n c) (ci n c) (cj n c + 1)))], .bool true]) ∧ Below w.heap.size w w' := by
  obtain ⟨h1, h2, h3, -⟩ := dec_lt hn.1 hc
  have PL := hid (fun u => place_ok n c hn hc u)
  have K0 : Hid (∀ u, Calls Tryz.prog 164 #[.int .i64 n, .int .i64 (cf n c : Nat), .int .i64 (ci n c : Nat), .int .i64 (cj n c : Nat)] u fun e w' => e = .returned (.tuple #[.agg #[.float .f64 (px n (cr n (cf n c) (ci n c) (cj n c))), .float .f64 (py n (cr n (cf n c) (ci n c) (cj n c))), .float .f64 (pz n (cr n (cf n c) (ci n c) (cj n c)))], .bool true]) ∧ Below u.heap.size u w') := fun u => corner_ok n (cf n c) (ci n c) (cj n c) u hn h1 (by omega) (by omega)
  have K1 : Hid (∀ u, Calls Tryz.prog 164 #[.int .i64 n, .int .i64 (cf n c : Nat), .int .i64 ((ci n c : Nat) + 1), .int .i64 (cj n c : Nat)] u fun e w' => e = .returned (.tuple #[.agg #[.float .f64 (px n (cr n (cf n c) (ci n c + 1) (cj n c))), .float .f64 (py n (cr n (cf n c) (ci n c + 1) (cj n c))), .float .f64 (pz n (cr n (cf n c) (ci n c + 1) (cj n c)))], .bool true]) ∧ Below u.heap.size u w') := fun u => corner_ok n (cf n c) (ci n c + 1) (cj n c) u hn h1 (by omega) (by omega)
  have K2 : Hid (∀ u, Calls Tryz.prog 164 #[.int .i64 n, .int .i64 (cf n c : Nat), .int .i64 ((ci n c : Nat) + 1), .int .i64 ((cj n c : Nat) + 1)] u fun e w' => e = .returned (.tuple #[.agg #[.float .f64 (px n (cr n (cf n c) (ci n c + 1) (cj n c + 1))), .float .f64 (py n (cr n (cf n c) (ci n c + 1) (cj n c + 1))), .float .f64 (pz n (cr n (cf n c) (ci n c + 1) (cj n c + 1)))], .bool true]) ∧ Below u.heap.size u w') := fun u => corner_ok n (cf n c) (ci n c + 1) (cj n c + 1) u hn h1 (by omega) (by omega)
  have K3 : Hid (∀ u, Calls Tryz.prog 164 #[.int .i64 n, .int .i64 (cf n c : Nat), .int .i64 (ci n c : Nat), .int .i64 ((cj n c : Nat) + 1)] u fun e w' => e = .returned (.tuple #[.agg #[.float .f64 (px n (cr n (cf n c) (ci n c) (cj n c + 1))), .float .f64 (py n (cr n (cf n c) (ci n c) (cj n c + 1))), .float .f64 (pz n (cr n (cf n c) (ci n c) (cj n c + 1)))], .bool true]) ∧ Below u.heap.size u w') := fun u => corner_ok n (cf n c) (ci n c) (cj n c + 1) u hn h1 (by omega) (by omega)
  generalize px n (cr n (cf n c) (ci n c) (cj n c)) = a0 at *
  generalize py n (cr n (cf n c) (ci n c) (cj n c)) = b0 at *
  generalize pz n (cr n (cf n c) (ci n c) (cj n c)) = d0 at *
  generalize px n (cr n (cf n c) (ci n c + 1) (cj n c)) = a1 at *
  generalize py n (cr n (cf n c) (ci n c + 1) (cj n c)) = b1 at *
  generalize pz n (cr n (cf n c) (ci n c + 1) (cj n c)) = d1 at *
  generalize px n (cr n (cf n c) (ci n c + 1) (cj n c + 1)) = a2 at *
  generalize py n (cr n (cf n c) (ci n c + 1) (cj n c + 1)) = b2 at *
  generalize pz n (cr n (cf n c) (ci n c + 1) (cj n c + 1)) = d2 at *
  generalize px n (cr n (cf n c) (ci n c) (cj n c + 1)) = a3 at *
  generalize py n (cr n (cf n c) (ci n c) (cj n c + 1)) = b3 at *
  generalize pz n (cr n (cf n c) (ci n c) (cj n c + 1)) = d3 at *
  have hi : ((ci n c : Nat) : Int) ≤ 32 := by omega
  have hj : ((cj n c : Nat) : Int) ≤ 32 := by omega
  generalize cf n c = f at *
  generalize ci n c = i at *
  generalize cj n c = j at *
  clear hn hc h1 h2 h3
  have A0 := hid (bl2 w (.cells #[.float .f64 0, .float .f64 0, .float .f64 0, .float .f64 0, .float .f64 0, .float .f64 0, .float .f64 0, .float .f64 0, .float .f64 0, .float .f64 0, .float .f64 0, .float .f64 0] 162) (.cells #[.float .f64 0, .float .f64 0, .float .f64 0, .float .f64 0, .float .f64 0, .float .f64 0, .float .f64 0, .float .f64 0, .float .f64 0, .float .f64 0, .float .f64 0, .float .f64 0] 162))
  have R0 := hid (And.intro (heap_alloc2_old w (.cells #[.float .f64 0, .float .f64 0, .float .f64 0, .float .f64 0, .float .f64 0, .float .f64 0, .float .f64 0, .float .f64 0, .float .f64 0, .float .f64 0, .float .f64 0, .float .f64 0] 162) (.cells #[.float .f64 0, .float .f64 0, .float .f64 0, .float .f64 0, .float .f64 0, .float .f64 0, .float .f64 0, .float .f64 0, .float .f64 0, .float .f64 0, .float .f64 0, .float .f64 0] 162)) (heap_alloc2_new w (.cells #[.float .f64 0, .float .f64 0, .float .f64 0, .float .f64 0, .float .f64 0, .float .f64 0, .float .f64 0, .float .f64 0, .float .f64 0, .float .f64 0, .float .f64 0, .float .f64 0] 162) (.cells #[.float .f64 0, .float .f64 0, .float .f64 0, .float .f64 0, .float .f64 0, .float .f64 0, .float .f64 0, .float .f64 0, .float .f64 0, .float .f64 0, .float .f64 0, .float .f64 0] 162)))
  go_enter Tryz.func141, Tryz.ntmps141
  go_wp2_with fail
  refine (PL.out _).mono ?_
  rintro e w1 ⟨rfl, m0, rfl⟩
  go_wp2_with fail
  refine (K0.out _).mono ?_
  rintro e u0 ⟨rfl, b0⟩
  have B0 : Hid (Ab w u0) := Ab.call (Ab.drewN A0.out _) b0
  have G0 : Hid (u0.heap[w.heap.size]? = some (.cells #[.float .f64 0, .float .f64 0, .float .f64 0, .float .f64 0, .float .f64 0, .float .f64 0, .float .f64 0, .float .f64 0, .float .f64 0, .float .f64 0, .float .f64 0, .float .f64 0] 162)) := Ab.heap b0 R0.out.1
  have H0 : Hid (u0.heap[w.heap.size + 1]? = some (.cells #[.float .f64 0, .float .f64 0, .float .f64 0, .float .f64 0, .float .f64 0, .float .f64 0, .float .f64 0, .float .f64 0, .float .f64 0, .float .f64 0, .float .f64 0, .float .f64 0] 162)) := Ab.heap b0 R0.out.2
  clear A0 R0 b0
  obtain ⟨q0, q1, q2, q3, q4, q5, q6, q7, q8, q9, q10, q11⟩ := cells12 H0.out
  obtain ⟨o0, o1, o2, o3, o4, o5, o6, o7, o8, o9, o10, o11⟩ := free12 H0.out
  clear q3 o3 q4 o4 q5 o5 q6 o6 q7 o7 q8 o8 q9 o9 q10 o10 q11 o11
  go_wp2_with fail
  refine (K1.out _).mono ?_
  rintro e u1 ⟨rfl, b1⟩
  have B1 : Hid (Ab w u1) := Ab.call (((Ab.setk B0.out (by omega) _).setk (by omega) _).setk (by omega) _) b1
  have G1 : Hid (u1.heap[w.heap.size]? = some (.cells #[.float .f64 0, .float .f64 0, .float .f64 0, .float .f64 0, .float .f64 0, .float .f64 0, .float .f64 0, .float .f64 0, .float .f64 0, .float .f64 0, .float .f64 0, .float .f64 0] 162)) := Ab.heap b1 (other3 (by omega) G0.out)
  have H1 : Hid (u1.heap[w.heap.size + 1]? = some (.cells #[.float .f64 a0, .float .f64 b0, .float .f64 d0, .float .f64 0, .float .f64 0, .float .f64 0, .float .f64 0, .float .f64 0, .float .f64 0, .float .f64 0, .float .f64 0, .float .f64 0] 162)) := Ab.heap b1 (put12_0 H0.out)
  clear b1 B0 G0 H0 q0 o0 q1 o1 q2 o2
  obtain ⟨q0, q1, q2, q3, q4, q5, q6, q7, q8, q9, q10, q11⟩ := cells12 H1.out
  obtain ⟨o0, o1, o2, o3, o4, o5, o6, o7, o8, o9, o10, o11⟩ := free12 H1.out
  clear q0 o0 q1 o1 q2 o2 q6 o6 q7 o7 q8 o8 q9 o9 q10 o10 q11 o11
  go_wp2_with fail
  refine (K2.out _).mono ?_
  rintro e u2 ⟨rfl, b2⟩
  have B2 : Hid (Ab w u2) := Ab.call (((Ab.setk B1.out (by omega) _).setk (by omega) _).setk (by omega) _) b2
  have G2 : Hid (u2.heap[w.heap.size]? = some (.cells #[.float .f64 0, .float .f64 0, .float .f64 0, .float .f64 0, .float .f64 0, .float .f64 0, .float .f64 0, .float .f64 0, .float .f64 0, .float .f64 0, .float .f64 0, .float .f64 0] 162)) := Ab.heap b2 (other3 (by omega) G1.out)
  have H2 : Hid (u2.heap[w.heap.size + 1]? = some (.cells #[.float .f64 a0, .float .f64 b0, .float .f64 d0, .float .f64 a1, .float .f64 b1, .float .f64 d1, .float .f64 0, .float .f64 0, .float .f64 0, .float .f64 0, .float .f64 0, .float .f64 0] 162)) := Ab.heap b2 (put12_1 H1.out)
  clear b2 B1 G1 H1 q3 o3 q4 o4 q5 o5
  obtain ⟨q0, q1, q2, q3, q4, q5, q6, q7, q8, q9, q10, q11⟩ := cells12 H2.out
  obtain ⟨o0, o1, o2, o3, o4, o5, o6, o7, o8, o9, o10, o11⟩ := free12 H2.out
  clear q0 o0 q1 o1 q2 o2 q3 o3 q4 o4 q5 o5 q9 o9 q10 o10 q11 o11
  go_wp2_with fail
  refine (K3.out _).mono ?_
  rintro e u3 ⟨rfl, b3⟩
  have B3 : Hid (Ab w u3) := Ab.call (((Ab.setk B2.out (by omega) _).setk (by omega) _).setk (by omega) _) b3
  have G3 : Hid (u3.heap[w.heap.size]? = some (.cells #[.float .f64 0, .float .f64 0, .float .f64 0, .float .f64 0, .float .f64 0, .float .f64 0, .float .f64 0, .float .f64 0, .float .f64 0, .float .f64 0, .float .f64 0, .float .f64 0] 162)) := Ab.heap b3 (other3 (by omega) G2.out)
  have H3 : Hid (u3.heap[w.heap.size + 1]? = some (.cells #[.float .f64 a0, .float .f64 b0, .float .f64 d0, .float .f64 a1, .float .f64 b1, .float .f64 d1, .float .f64 a2, .float .f64 b2, .float .f64 d2, .float .f64 0, .float .f64 0, .float .f64 0] 162)) := Ab.heap b3 (put12_2 H2.out)
  clear b3 B2 G2 H2 q6 o6 q7 o7 q8 o8
  obtain ⟨q0, q1, q2, q3, q4, q5, q6, q7, q8, q9, q10, q11⟩ := cells12 H3.out
  obtain ⟨o0, o1, o2, o3, o4, o5, o6, o7, o8, o9, o10, o11⟩ := free12 H3.out
  clear q0 o0 q1 o1 q2 o2 q3 o3 q4 o4 q5 o5 q6 o6 q7 o7 q8 o8
  go_upto_region 9 with fail
  generalize hW : World.setCell _ _ _ = W
  have BW : Hid (Ab w W) := by rw [← hW]; exact ((Ab.setk B3.out (by omega) _).setk (by omega) _).setk (by omega) _
  have GW : Hid (W.heap[w.heap.size]? = some (.cells #[.float .f64 0, .float .f64 0, .float .f64 0, .float .f64 0, .float .f64 0, .float .f64 0, .float .f64 0, .float .f64 0, .float .f64 0, .float .f64 0, .float .f64 0, .float .f64 0] 162)) := by rw [← hW]; exact other3 (by omega) G3.out
  have HW : Hid (W.heap[w.heap.size + 1]? = some (.cells #[.float .f64 a0, .float .f64 b0, .float .f64 d0, .float .f64 a1, .float .f64 b1, .float .f64 d1, .float .f64 a2, .float .f64 b2, .float .f64 d2, .float .f64 a3, .float .f64 b3, .float .f64 d3] 162)) := by rw [← hW]; exact put12_3 H3.out
  clear hW B3 G3 H3 q9 o9 q10 o10 q11 o11
  obtain ⟨q0, q1, q2, q3, q4, q5, q6, q7, q8, q9, q10, q11⟩ := cells12 HW.out
  obtain ⟨o0, o1, o2, o3, o4, o5, o6, o7, o8, o9, o10, o11⟩ := free12 GW.out
  obtain ⟨z0, z1, z2, z3, z4, z5, z6, z7, z8, z9, z10, z11⟩ := cells12 GW.out
  go_wp2
  refine bodyPost_ret ?_ rfl ⟨rfl, ?_⟩
  · exact res_two Tryz.results141 _ _ w.heap.size _ _ (0, 0) _ _ rfl rfl (put12_3 (put12_2 (put12_1 (put12_0 GW.out)))) Tryz.underlying162 rfl (by kernel_rfl)
  · exact (((((((((((Ab.setk BW.out (by omega) _).setk (by omega) _).setk (by omega) _).setk (by omega) _).setk (by omega) _).setk (by omega) _).setk (by omega) _).setk (by omega) _).setk (by omega) _).setk (by omega) _).setk (by omega) _).setk (by omega) _
theorem LnC_cases (n c : Nat) : LnC n c 0 = gp n (cr n (cf n c) (ci n c + 1) (cj n c)) (cr n (cf n c) (ci n c + 1) (cj n c + 1)) ∧ LnC n c 1 = gp n (cr n (cf n c) (ci n c) (cj n c + 1)) (cr n (cf n c) (ci n c + 1) (cj n c + 1)) ∧ LnC n c 2 = gp n (cr n (cf n c) (ci n c) (cj n c)) (cr n (cf n c) (ci n c) (cj n c + 1)) ∧ LnC n c 3 = gp n (cr n (cf n c) (ci n c) (cj n c)) (cr n (cf n c) (ci n c + 1) (cj n c)) := ⟨rfl, rfl, rfl, rfl⟩
set_option maxHeartbeats 8000000 in
theorem len_ok (n c s : Nat) (w : World) (hn : 1 ≤ n ∧ n ≤ 32) (hc : c < 6 * n * n) (hs : s < 4) :
    Calls Tryz.prog 116 #[.int .i64 n, .int .i64 c, .int .i64 s] w fun e w' => e = .returned (.float .f64 (LnC n c s)) ∧ Below w.heap.size w w' := by
  have CO := hid (fun u => corners_ok n c u hn hc)
  obtain ⟨l0, l1, l2, l3⟩ := LnC_cases n c
  have GA0 : Hid (∀ u, Calls Tryz.prog 145 #[.agg #[.float .f64 (px n (cr n (cf n c) (ci n c + 1) (cj n c))), .float .f64 (py n (cr n (cf n c) (ci n c + 1) (cj n c))), .float .f64 (pz n (cr n (cf n c) (ci n c + 1) (cj n c)))], .agg #[.float .f64 (px n (cr n (cf n c) (ci n c + 1) (cj n c + 1))), .float .f64 (py n (cr n (cf n c) (ci n c + 1) (cj n c + 1))), .float .f64 (pz n (cr n (cf n c) (ci n c + 1) (cj n c + 1)))]] u fun e w' => e = .returned (.float .f64 (LnC n c 0)) ∧ Below u.heap.size u w') := fun u => by
    rw [l0]; exact gap_at _ _ _ _ _ _ u (px_lt _ _) (py_lt _ _) (pz_lt _ _) (px_lt _ _) (py_lt _ _) (pz_lt _ _)
  have GA1 : Hid (∀ u, Calls Tryz.prog 145 #[.agg #[.float .f64 (px n (cr n (cf n c) (ci n c) (cj n c + 1))), .float .f64 (py n (cr n (cf n c) (ci n c) (cj n c + 1))), .float .f64 (pz n (cr n (cf n c) (ci n c) (cj n c + 1)))], .agg #[.float .f64 (px n (cr n (cf n c) (ci n c + 1) (cj n c + 1))), .float .f64 (py n (cr n (cf n c) (ci n c + 1) (cj n c + 1))), .float .f64 (pz n (cr n (cf n c) (ci n c + 1) (cj n c + 1)))]] u fun e w' => e = .returned (.float .f64 (LnC n c 1)) ∧ Below u.heap.size u w') := fun u => by
    rw [l1]; exact gap_at _ _ _ _ _ _ u (px_lt _ _) (py_lt _ _) (pz_lt _ _) (px_lt _ _) (py_lt _ _) (pz_lt _ _)
  have GA2 : Hid (∀ u, Calls Tryz.prog 145 #[.agg #[.float .f64 (px n (cr n (cf n c) (ci n c) (cj n c))), .float .f64 (py n (cr n (cf n c) (ci n c) (cj n c))), .float .f64 (pz n (cr n (cf n c) (ci n c) (cj n c)))], .agg #[.float .f64 (px n (cr n (cf n c) (ci n c) (cj n c + 1))), .float .f64 (py n (cr n (cf n c) (ci n c) (cj n c + 1))), .float .f64 (pz n (cr n (cf n c) (ci n c) (cj n c + 1)))]] u fun e w' => e = .returned (.float .f64 (LnC n c 2)) ∧ Below u.heap.size u w') := fun u => by
    rw [l2]; exact gap_at _ _ _ _ _ _ u (px_lt _ _) (py_lt _ _) (pz_lt _ _) (px_lt _ _) (py_lt _ _) (pz_lt _ _)
  have GA3 : Hid (∀ u, Calls Tryz.prog 145 #[.agg #[.float .f64 (px n (cr n (cf n c) (ci n c) (cj n c))), .float .f64 (py n (cr n (cf n c) (ci n c) (cj n c))), .float .f64 (pz n (cr n (cf n c) (ci n c) (cj n c)))], .agg #[.float .f64 (px n (cr n (cf n c) (ci n c + 1) (cj n c))), .float .f64 (py n (cr n (cf n c) (ci n c + 1) (cj n c))), .float .f64 (pz n (cr n (cf n c) (ci n c + 1) (cj n c)))]] u fun e w' => e = .returned (.float .f64 (LnC n c 3)) ∧ Below u.heap.size u w') := fun u => by
    rw [l3]; exact gap_at _ _ _ _ _ _ u (px_lt _ _) (py_lt _ _) (pz_lt _ _) (px_lt _ _) (py_lt _ _) (pz_lt _ _)
  clear l0 l1 l2 l3
  generalize px n (cr n (cf n c) (ci n c) (cj n c)) = a0 at *
  generalize py n (cr n (cf n c) (ci n c) (cj n c)) = b0 at *
  generalize pz n (cr n (cf n c) (ci n c) (cj n c)) = d0 at *
  generalize px n (cr n (cf n c) (ci n c + 1) (cj n c)) = a1 at *
  generalize py n (cr n (cf n c) (ci n c + 1) (cj n c)) = b1 at *
  generalize pz n (cr n (cf n c) (ci n c + 1) (cj n c)) = d1 at *
  generalize px n (cr n (cf n c) (ci n c + 1) (cj n c + 1)) = a2 at *
  generalize py n (cr n (cf n c) (ci n c + 1) (cj n c + 1)) = b2 at *
  generalize pz n (cr n (cf n c) (ci n c + 1) (cj n c + 1)) = d2 at *
  generalize px n (cr n (cf n c) (ci n c) (cj n c + 1)) = a3 at *
  generalize py n (cr n (cf n c) (ci n c) (cj n c + 1)) = b3 at *
  generalize pz n (cr n (cf n c) (ci n c) (cj n c + 1)) = d3 at *
  rcases Cu.four hs with rfl | rfl | rfl | rfl
  · generalize LnC n c 0 = L at *
    clear hn hc hs GA1 GA2 GA3
    go_enter Tryz.func116, Tryz.ntmps116
    go_wp2_with fail
    refine (CO.out _).mono ?_
    rintro e v ⟨rfl, b1⟩
    go_wp2_with fail
    refine (GA0.out _).mono ?_
    rintro e v2 ⟨rfl, b2⟩
    go_wp2
    go_ret
    exact ⟨rfl, Ab.call ((Ab.refl w).call b1 |>.alloc _) b2⟩
  · generalize LnC n c 1 = L at *
    clear hn hc hs GA0 GA2 GA3
    go_enter Tryz.func116, Tryz.ntmps116
    go_wp2_with fail
    refine (CO.out _).mono ?_
    rintro e v ⟨rfl, b1⟩
    go_wp2_with fail
    refine (GA1.out _).mono ?_
    rintro e v2 ⟨rfl, b2⟩
    go_wp2
    go_ret
    exact ⟨rfl, Ab.call ((Ab.refl w).call b1 |>.alloc _) b2⟩
  · generalize LnC n c 2 = L at *
    clear hn hc hs GA0 GA1 GA3
    go_enter Tryz.func116, Tryz.ntmps116
    go_wp2_with fail
    refine (CO.out _).mono ?_
    rintro e v ⟨rfl, b1⟩
    go_wp2_with fail
    refine (GA2.out _).mono ?_
    rintro e v2 ⟨rfl, b2⟩
    go_wp2
    go_ret
    exact ⟨rfl, Ab.call ((Ab.refl w).call b1 |>.alloc _) b2⟩
  · generalize LnC n c 3 = L at *
    clear hn hc hs GA0 GA1 GA2
    go_enter Tryz.func116, Tryz.ntmps116
    go_wp2_with fail
    refine (CO.out _).mono ?_
    rintro e v ⟨rfl, b1⟩
    go_wp2_with fail
    refine (GA3.out _).mono ?_
    rintro e v2 ⟨rfl, b2⟩
    go_wp2
    go_ret
    exact ⟨rfl, Ab.call ((Ab.refl w).call b1 |>.alloc _) b2⟩
set_option maxHeartbeats 8000000 in
theorem gap_ok (n c s : Nat) (w : World) (hn : 1 ≤ n ∧ n ≤ 32) (hc : c < 6 * n * n) (hs : s < 4) (hF : Fr w) :
    Calls Tryz.prog 117 #[.int .i64 n, .int .i64 c, .int .i64 s] w fun e w' => e = .returned (.float .f64 (GpC n c s)) ∧ Below w.heap.size w w' := by
  obtain ⟨hb, -⟩ := bs_lt hn.1 hc hs
  have BE := hid (beside_at n c s w hn hc hs hF)
  have M1 := hid (fun u => middle_ok n c u hn hc)
  have M2 := hid (fun u => middle_ok n (bsC n c s) u hn hb)
  have GA : Hid (∀ u, Calls Tryz.prog 145 #[.agg #[.float .f64 (px n (MD n c)), .float .f64 (py n (MD n c)), .float .f64 (pz n (MD n c))], .agg #[.float .f64 (px n (MD n (bsC n c s))), .float .f64 (py n (MD n (bsC n c s))), .float .f64 (pz n (MD n (bsC n c s)))]] u fun e w' => e = .returned (.float .f64 (GpC n c s)) ∧ Below u.heap.size u w') := fun u => gap_at _ _ _ _ _ _ u (px_lt _ _) (py_lt _ _) (pz_lt _ _) (px_lt _ _) (py_lt _ _) (pz_lt _ _)
  generalize px n (MD n c) = x at *
  generalize py n (MD n c) = y at *
  generalize pz n (MD n c) = z at *
  generalize px n (MD n (bsC n c s)) = x' at *
  generalize py n (MD n (bsC n c s)) = y' at *
  generalize pz n (MD n (bsC n c s)) = z' at *
  generalize GpC n c s = G at *
  generalize bsC n c s = c' at *
  generalize bsS n c s = s' at *
  clear hn hc hs hF hb
  go_enter Tryz.func117, Tryz.ntmps117
  go_wp2_with fail
  refine (BE.out).mono ?_
  rintro e v ⟨rfl, b1⟩
  go_wp2_with fail
  refine (M1.out _).mono ?_
  rintro e v2 ⟨rfl, b2⟩
  go_wp2_with fail
  refine (M2.out _).mono ?_
  rintro e v3 ⟨rfl, b3⟩
  have B2 : Hid (Ab w v2) := (Ab.call b1 b2)
  have B3 : Hid (Ab w v3) := Ab.call (B2.out.alloc _) b3
  have r2 : v3.heap[v2.heap.size]? = some (.cells #[.float .f64 x, .float .f64 y, .float .f64 z] 157) := newrow' b3
  have r2' : (v3.alloc (.cells #[.float .f64 x', .float .f64 y', .float .f64 z'] 157)).heap[v2.heap.size]? = some (.cells #[.float .f64 x, .float .f64 y, .float .f64 z] 157) := by
    rw [Below.heap_alloc _ _ _ (by have := b3.size; simp at this; omega)]; exact r2
  obtain ⟨-, q0, q1, q2⟩ := rowfacts r2'
  clear r2 r2' b1 b2 b3
  go_wp2_with fail
  refine (GA.out _).mono ?_
  rintro e v4 ⟨rfl, b4⟩
  go_wp2
  go_ret
  exact ⟨rfl, Ab.call (B3.out.alloc _) b4⟩
end Go.Proofs.YtdigecacmibkpaaGreatDoor

namespace Go.Proofs.YtdigecacmibkpaaGreatDoor
open Go.RowKit Tf Cu
attribute [local go_sem] run_bits run_from raw_feq raw_fne raw_flt raw_fgt run_neg run_store_float
/-- an area, of its length -/
def arQ (L : Nat) : Nat := mlB (mlB (qB L) (qB 4602678819172646912)) (qB 4742290407621132288)
def arI (L : Nat) : Int := max (cI .even (arQ L)) 1
theorem cI_q (x : Nat) : cI .even x = cI .even (qB x) ∧ cOk .even x = cOk .even (qB x) := by
  unfold qB
  cases h : isN x
  · rw [if_neg (by decide)]; exact ⟨rfl, rfl⟩
  · rw [if_pos rfl]
    have e : cOk .even x = false := by
      unfold cOk fin
      have : ¬ mg x < 9218868437227405312 := by rw [isN_true] at h; omega
      simp [this]
    have e2 : cOk .even quiet = false := by decide +kernel
    unfold cI
    rw [e, e2]; simp only [Bool.false_eq_true, if_false, and_self]
set_option maxRecDepth 10000 in
set_option maxHeartbeats 16000000 in
theorem area_walk (n c : Nat) (a0 b0 d0 a1 b1 d1 a2 b2 d2 a3 b3 d3 : Nat) (w : World) (ha0 : Hid (a0 < 18446744073709551616)) (hb0 : Hid (b0 < 18446744073709551616)) (hd0 : Hid (d0 < 18446744073709551616)) (ha1 : Hid (a1 < 18446744073709551616)) (hb1 : Hid (b1 < 18446744073709551616)) (hd1 : Hid (d1 < 18446744073709551616)) (ha2 : Hid (a2 < 18446744073709551616)) (hb2 : Hid (b2 < 18446744073709551616)) (hd2 : Hid (d2 < 18446744073709551616)) (ha3 : Hid (a3 < 18446744073709551616)) (hb3 : Hid (b3 < 18446744073709551616)) (hd3 : Hid (d3 < 18446744073709551616))
    (CO : Hid (∀ u, Calls Tryz.prog 141 #[.int .i64 n, .int .i64 c] u fun e w' => e = .returned (.tuple #[.agg #[.float .f64 a0, .float .f64 b0, .float .f64 d0, .float .f64 a1, .float .f64 b1, .float .f64 d1, .float .f64 a2, .float .f64 b2, .float .f64 d2, .float .f64 a3, .float .f64 b3, .float .f64 d3], .bool true]) ∧ Below u.heap.size u w')) :
    Calls Tryz.prog 113 #[.int .i64 n, .int .i64 c] w fun e w' => e = .returned (.int .i64 (arI (cl (sbB a2 a0) (sbB b2 b0) (sbB d2 d0) (sbB a3 a1) (sbB b3 b1) (sbB d3 d1)))) ∧ Below w.heap.size w w' := by
  have MI := hid (fun x y z u v t w (hx : Hid (x < 18446744073709551616)) (hy : Hid (y < 18446744073709551616)) (hz : Hid (z < 18446744073709551616)) (hu : Hid (u < 18446744073709551616)) (hv : Hid (v < 18446744073709551616)) (ht : Hid (t < 18446744073709551616)) => minus_at x y z u v t w hx hy hz hu hv ht)
  have CR := hid (fun w => cross_at (sbB a2 a0) (sbB b2 b0) (sbB d2 d0) (sbB a3 a1) (sbB b3 b1) (sbB d3 d1) w (sbB_lt ha2 ha0) (sbB_lt hb2 hb0) (sbB_lt hd2 hd0) (sbB_lt ha3 ha1) (sbB_lt hb3 hb1) (sbB_lt hd3 hd1))
  have LN : Hid (∀ w, Calls Tryz.prog 142 #[.agg #[.float .f64 (sbB (mlB (sbB b2 b0) (sbB d3 d1)) (mlB (sbB d2 d0) (sbB b3 b1))), .float .f64 (sbB (mlB (sbB d2 d0) (sbB a3 a1)) (mlB (sbB a2 a0) (sbB d3 d1))), .float .f64 (sbB (mlB (sbB a2 a0) (sbB b3 b1)) (mlB (sbB b2 b0) (sbB a3 a1)))]] w fun e w' => e = .returned (.float .f64 (cl (sbB a2 a0) (sbB b2 b0) (sbB d2 d0) (sbB a3 a1) (sbB b3 b1) (sbB d3 d1))) ∧ Below w.heap.size w w') := fun w => length_at (sbB (mlB (sbB b2 b0) (sbB d3 d1)) (mlB (sbB d2 d0) (sbB b3 b1))) (sbB (mlB (sbB d2 d0) (sbB a3 a1)) (mlB (sbB a2 a0) (sbB d3 d1))) (sbB (mlB (sbB a2 a0) (sbB b3 b1)) (mlB (sbB b2 b0) (sbB a3 a1))) w (sbB_lt (mlB_lt (sbB_lt hb2 hb0) (sbB_lt hd3 hd1)) (mlB_lt (sbB_lt hd2 hd0) (sbB_lt hb3 hb1))) (sbB_lt (mlB_lt (sbB_lt hd2 hd0) (sbB_lt ha3 ha1)) (mlB_lt (sbB_lt ha2 ha0) (sbB_lt hd3 hd1))) (sbB_lt (mlB_lt (sbB_lt ha2 ha0) (sbB_lt hb3 hb1)) (mlB_lt (sbB_lt hb2 hb0) (sbB_lt ha3 ha1)))
  have lL : cl (sbB a2 a0) (sbB b2 b0) (sbB d2 d0) (sbB a3 a1) (sbB b3 b1) (sbB d3 d1) < 18446744073709551616 := by unfold cl lnB; exact rtB_lt _
  generalize cl (sbB a2 a0) (sbB b2 b0) (sbB d2 d0) (sbB a3 a1) (sbB b3 b1) (sbB d3 d1) = L at *
  generalize sbB (mlB (sbB b2 b0) (sbB d3 d1)) (mlB (sbB d2 d0) (sbB b3 b1)) = c1 at *
  generalize sbB (mlB (sbB d2 d0) (sbB a3 a1)) (mlB (sbB a2 a0) (sbB d3 d1)) = c2 at *
  generalize sbB (mlB (sbB a2 a0) (sbB b3 b1)) (mlB (sbB b2 b0) (sbB a3 a1)) = c3 at *
  have hmx : arI L = max (cI .even (arQ L)) 1 := by unfold arI; with_reducible rfl
  obtain ⟨A, hA⟩ : ∃ A, cI .even (arQ L) = A := ⟨_, rfl⟩
  obtain ⟨ok, hok⟩ : ∃ ok, cOk .even (arQ L) = ok := ⟨_, rfl⟩
  rw [hmx, hA]
  have HA := hid hA
  have HO := hid hok
  clear hmx hA hok
  go_enter Tryz.func113, Tryz.ntmps113
  go_wp2_with fail
  refine (CO.out _).mono ?_
  rintro e v ⟨rfl, bq⟩
  go_upto_region 4 with fail
  generalize hW : World.alloc _ _ = W
  have AW : Hid (Ab w W) := by rw [← hW]; exact Ab.alloc bq _
  have RW : Hid (W.heap[v.heap.size]? = some (.cells #[.float .f64 a0, .float .f64 b0, .float .f64 d0, .float .f64 a1, .float .f64 b1, .float .f64 d1, .float .f64 a2, .float .f64 b2, .float .f64 d2, .float .f64 a3, .float .f64 b3, .float .f64 d3] 162)) := by rw [← hW]; exact heap_alloc_new _ _
  clear hW bq CO
  obtain ⟨UU, F, hF1, hF2⟩ := cls W
  have HF := hid hF2
  have HF1 := hid hF1
  have x0 : ∀ vv, (F vv).cell? ⟨v.heap.size, 0, none⟩ = some (.float .f64 a0) := fun vv => cell_of_row _ _ 0 _ _ _ ((hF1 vv).heap RW.out)
  have x1 : ∀ vv, (F vv).cell? ⟨v.heap.size, 1, none⟩ = some (.float .f64 b0) := fun vv => cell_of_row _ _ 1 _ _ _ ((hF1 vv).heap RW.out)
  have x2 : ∀ vv, (F vv).cell? ⟨v.heap.size, 2, none⟩ = some (.float .f64 d0) := fun vv => cell_of_row _ _ 2 _ _ _ ((hF1 vv).heap RW.out)
  have x3 : ∀ vv, (F vv).cell? ⟨v.heap.size, 3, none⟩ = some (.float .f64 a1) := fun vv => cell_of_row _ _ 3 _ _ _ ((hF1 vv).heap RW.out)
  have x4 : ∀ vv, (F vv).cell? ⟨v.heap.size, 4, none⟩ = some (.float .f64 b1) := fun vv => cell_of_row _ _ 4 _ _ _ ((hF1 vv).heap RW.out)
  have x5 : ∀ vv, (F vv).cell? ⟨v.heap.size, 5, none⟩ = some (.float .f64 d1) := fun vv => cell_of_row _ _ 5 _ _ _ ((hF1 vv).heap RW.out)
  have x6 : ∀ vv, (F vv).cell? ⟨v.heap.size, 6, none⟩ = some (.float .f64 a2) := fun vv => cell_of_row _ _ 6 _ _ _ ((hF1 vv).heap RW.out)
  have x7 : ∀ vv, (F vv).cell? ⟨v.heap.size, 7, none⟩ = some (.float .f64 b2) := fun vv => cell_of_row _ _ 7 _ _ _ ((hF1 vv).heap RW.out)
  have x8 : ∀ vv, (F vv).cell? ⟨v.heap.size, 8, none⟩ = some (.float .f64 d2) := fun vv => cell_of_row _ _ 8 _ _ _ ((hF1 vv).heap RW.out)
  have x9 : ∀ vv, (F vv).cell? ⟨v.heap.size, 9, none⟩ = some (.float .f64 a3) := fun vv => cell_of_row _ _ 9 _ _ _ ((hF1 vv).heap RW.out)
  have x10 : ∀ vv, (F vv).cell? ⟨v.heap.size, 10, none⟩ = some (.float .f64 b3) := fun vv => cell_of_row _ _ 10 _ _ _ ((hF1 vv).heap RW.out)
  have x11 : ∀ vv, (F vv).cell? ⟨v.heap.size, 11, none⟩ = some (.float .f64 d3) := fun vv => cell_of_row _ _ 11 _ _ _ ((hF1 vv).heap RW.out)
  have D := HF.out _ (Ab.refl W).drew
  clear hF1 hF2
  refine region_cls F (by kernel_rfl) (by kernel_rfl) D ?_
  repeat (go_big_quiet_step (first
    | (with_reducible rfl)
    | (go_at_call 144; exact calls_cls HF HF1 (MI.out _ _ _ _ _ _ _ (by assumption) (by assumption) (by assumption) (by assumption) (by assumption) (by assumption)))
    | (go_at_call 143; exact calls_cls HF HF1 (CR.out _))
    | (go_at_call 142; exact calls_cls HF HF1 (LN.out _))))
  refine wpQuiet_nil ?_
  intro wz hwz
  obtain ⟨vv, hv⟩ := hwz
  have bz : Below W.heap.size W wz := by rw [hv]; exact HF1.out vv
  clear hv vv
  clear HF HF1 D x0 x1 x2 x3 x4 x5 x6 x7 x8 x9 x10 x11
  clear F UU
  have AZ : Hid (Ab w wz) := AW.out.call bz
  clear bz AW RW
  obtain ⟨r1, n1, k1, q1⟩ := mul_any (P := Tryz.prog) wz L _ 4602678819172646912 _ (IsQ.self lL) (IsQ.self (by decide))
  obtain ⟨r2, n2, k2, q2⟩ := mul_any (P := Tryz.prog) (wz.drewN n1) r1 _ 4742290407621132288 _ q1 (IsQ.self (by decide))
  have RO : Hid (∀ u, Calls Tryz.prog 119 #[.float .f64 r2] u fun e w' => e = .returned (.tuple #[.int .i64 A, .bool ok]) ∧ ∃ n, w' = u.drewN n) := fun u =>
    round_at r2 A ok u q2.1 (by rw [(cI_q r2).1, q2.2]; exact HA.out) (by rw [(cI_q r2).2, q2.2]; exact HO.out)
  rw [World.drewN_drewN] at k2
  clear q1 q2 HA HO
  go_wp2_with fail
  refine (RO.out _).mono ?_
  rintro e w5 ⟨rfl, n3, rfl⟩
  go_wp2
  all_goals go_ret
  all_goals exact ⟨congrArg (fun z => Ending.returned (.int .i64 z)) (by omega), Ab.drewN AZ.out _⟩
theorem area_ok (n c : Nat) (w : World) (hn : 1 ≤ n ∧ n ≤ 32) (hc : c < 6 * n * n) :
    Calls Tryz.prog 113 #[.int .i64 n, .int .i64 c] w fun e w' => e = .returned (.int .i64 (arI (ArC n c))) ∧ Below w.heap.size w w' := by
  have h := area_walk n c _ _ _ _ _ _ _ _ _ _ _ _ w (px_lt n _) (py_lt n _) (pz_lt n _) (px_lt n _) (py_lt n _) (pz_lt n _) (px_lt n _) (py_lt n _) (pz_lt n _) (px_lt n _) (py_lt n _) (pz_lt n _) (fun u => corners_ok n c u hn hc)
  unfold ArC ar
  exact h
end Go.Proofs.YtdigecacmibkpaaGreatDoor

namespace Go.Proofs.YtdigecacmibkpaaGreatDoor
open Go.RowKit Cu Tf
attribute [local go_sem] run_store_float
theorem info64 : (Tryz.prog.info? 2).map (fun i => (i.zero, i.size, i.bytes)) = some (some (.int .i64 0), 1, 8) := by kernel_rfl
theorem infoF64 : (Tryz.prog.info? 22).map (fun i => (i.zero, i.size, i.bytes)) = some (some (.float .f64 0), 1, 8) := by kernel_rfl
theorem infoTwo : (Tryz.prog.info? 97).map (fun i => (i.zero, i.size, i.bytes)) = some (some (.agg #[.int .i64 0, .int .i64 0]), 2, 16) := by kernel_rfl
theorem rowIs.ab {w w' : World} {b : Nat} {t : TypeId} {n : Nat} {f : Nat → Value} (h : w.rowIs b t n f) (a : Ab w w') : w'.rowIs b t n f := h.of_block (Below.block a _ h.lt)
set_option maxHeartbeats 2000000 in
theorem listed_area (N gb : Nat) (f : Nat → Int) (w : World) (hN : (N : Int) ≤ 12288)
    (H : Hid (∀ k : Nat, k < N → ∀ w', Ab w w' → Calls Tryz.prog 66 #[.pointer (some ⟨gb, 0, none⟩), .int .i64 k] w' fun e w'' => e = .returned (.int .i64 (f k)) ∧ Below w'.heap.size w' w'')) :
    Calls Tryz.prog 65 #[.int .i64 N, .func (.func 66) #[.pointer (some ⟨gb, 0, none⟩)] #[]] w fun e w' => e = .returned (.slice (some ⟨w.heap.size, 0, none⟩) N N) ∧ Below w.heap.size w w' ∧ w'.rowIs w.heap.size 2 N (fun k => .int .i64 (f k)) := by
  have MK := run_make_row' (P := Tryz.prog) 31 2 (.int .i64 (0)) 8 Tryz.underlying31 info64 rfl .i64 .i64 N (by omega) (by omega) w
  obtain ⟨ob, hob⟩ : ∃ b, w.heap.size = b := ⟨_, rfl⟩
  have RW : Hid ((w.alloc (.cells (madeCells #[.int .i64 (0)] N) 2)).rowIs ob 2 N (fun _ => .int .i64 (0))) := by rw [← hob]; exact World.rowIs_made _ _ _ _
  have A0 : Hid (Ab w (w.alloc (.cells (madeCells #[.int .i64 (0)] N) 2))) := bl1 w _
  have HO : Hid (w.heap.size ≤ ob) := Nat.le_of_eq hob
  generalize w.alloc (.cells (madeCells #[.int .i64 (0)] N) 2) = wm at *
  go_enter Tryz.func65, Tryz.ntmps65
  go_wp2
  have HB := hid hob
  clear MK hob
  go_loopw [11] (fun iv wr => ∃ k : Nat, k ≤ N ∧ iv = .int .i64 (k : Nat) ∧ Ab w wr ∧ wr.rowIs ob 2 N (fun j => if j < k then .int .i64 (f j) else .int .i64 (0))) (fun iv _ => N - (intOf iv).toNat)
  case atStart => exact ⟨0, by omega, rfl, A0.out, RW.out.congr (fun i _ => by simp)⟩
  case round =>
    obtain ⟨k, hk, rfl, A, R⟩ := hrel
    have A1 := hid A
    have R1 := hid R
    clear A R A0 RW
    by_cases hkN : k < N
    · have hkN' : (k : Int) < N := by omega
      have C := hid (H.out k hkN wr A1.out)
      have HK := hid hkN
      go_wp2_with fail
      refine C.out.mono ?_
      rintro e w1 ⟨rfl, b1⟩
      have A2 : Hid (Ab w w1) := A1.out.call b1
      have R2 := hid (rowIs.ab R1.out b1)
      have x1 := R2.out.cell hkN
      have x2 := R2.out.frozen k
      clear b1 C A1 R1 hkN
      go_wp2
      go_roundw
      case rel =>
        refine ⟨k + 1, by omega, by simp, Ab.setk A2.out HO.out _, (R2.out.set k (.int .i64 (f k))).congr (fun i _ => ?_)⟩
        by_cases e : i = k
        · subst e; simp
        · have e2 : (i < k + 1) ↔ i < k := by omega
          simp [e, e2]
      case measure => have := HK.out; simp [intOf]; omega
    · obtain rfl : k = N := by omega
      go_wp2
      go_ret
      rw [HB.out]
      exact ⟨rfl, by have h := A1.out; unfold Ab at h; rw [HB.out] at h; exact h, R1.out.congr (fun i hi => by simp [hi])⟩
set_option maxHeartbeats 2000000 in
theorem listed_len (N gb : Nat) (f : Nat → Nat) (w : World) (hN : (N : Int) ≤ 12288)
    (H : Hid (∀ k : Nat, k < N → ∀ w', Ab w w' → Calls Tryz.prog 70 #[.pointer (some ⟨gb, 0, none⟩), .int .i64 k] w' fun e w'' => e = .returned (.float .f64 (f k)) ∧ Below w'.heap.size w' w'')) :
    Calls Tryz.prog 69 #[.int .i64 N, .func (.func 70) #[.pointer (some ⟨gb, 0, none⟩)] #[]] w fun e w' => e = .returned (.slice (some ⟨w.heap.size, 0, none⟩) N N) ∧ Below w.heap.size w w' ∧ w'.rowIs w.heap.size 22 N (fun k => .float .f64 (f k)) := by
  have MK := run_make_row' (P := Tryz.prog) 30 22 (.float .f64 (0)) 8 Tryz.underlying30 infoF64 rfl .i64 .i64 N (by omega) (by omega) w
  obtain ⟨ob, hob⟩ : ∃ b, w.heap.size = b := ⟨_, rfl⟩
  have RW : Hid ((w.alloc (.cells (madeCells #[.float .f64 (0)] N) 22)).rowIs ob 22 N (fun _ => .float .f64 (0))) := by rw [← hob]; exact World.rowIs_made _ _ _ _
  have A0 : Hid (Ab w (w.alloc (.cells (madeCells #[.float .f64 (0)] N) 22))) := bl1 w _
  have HO : Hid (w.heap.size ≤ ob) := Nat.le_of_eq hob
  generalize w.alloc (.cells (madeCells #[.float .f64 (0)] N) 22) = wm at *
  go_enter Tryz.func69, Tryz.ntmps69
  go_wp2
  have HB := hid hob
  clear MK hob
  go_loopw [11] (fun iv wr => ∃ k : Nat, k ≤ N ∧ iv = .int .i64 (k : Nat) ∧ Ab w wr ∧ wr.rowIs ob 22 N (fun j => if j < k then .float .f64 (f j) else .float .f64 (0))) (fun iv _ => N - (intOf iv).toNat)
  case atStart => exact ⟨0, by omega, rfl, A0.out, RW.out.congr (fun i _ => by simp)⟩
  case round =>
    obtain ⟨k, hk, rfl, A, R⟩ := hrel
    have A1 := hid A
    have R1 := hid R
    clear A R A0 RW
    by_cases hkN : k < N
    · have hkN' : (k : Int) < N := by omega
      have C := hid (H.out k hkN wr A1.out)
      have HK := hid hkN
      go_wp2_with fail
      refine C.out.mono ?_
      rintro e w1 ⟨rfl, b1⟩
      have A2 : Hid (Ab w w1) := A1.out.call b1
      have R2 := hid (rowIs.ab R1.out b1)
      have x1 := R2.out.cell hkN
      have x2 := R2.out.frozen k
      clear b1 C A1 R1 hkN
      go_wp2
      go_roundw
      case rel =>
        refine ⟨k + 1, by omega, by simp, Ab.setk A2.out HO.out _, (R2.out.set k (.float .f64 (f k))).congr (fun i _ => ?_)⟩
        by_cases e : i = k
        · subst e; simp
        · have e2 : (i < k + 1) ↔ i < k := by omega
          simp [e, e2]
      case measure => have := HK.out; simp [intOf]; omega
    · obtain rfl : k = N := by omega
      go_wp2
      go_ret
      rw [HB.out]
      exact ⟨rfl, by have h := A1.out; unfold Ab at h; rw [HB.out] at h; exact h, R1.out.congr (fun i hi => by simp [hi])⟩
set_option maxHeartbeats 2000000 in
theorem listed_gap (N gb : Nat) (f : Nat → Nat) (w : World) (hN : (N : Int) ≤ 12288)
    (H : Hid (∀ k : Nat, k < N → ∀ w', Ab w w' → Calls Tryz.prog 71 #[.pointer (some ⟨gb, 0, none⟩), .int .i64 k] w' fun e w'' => e = .returned (.float .f64 (f k)) ∧ Below w'.heap.size w' w'')) :
    Calls Tryz.prog 69 #[.int .i64 N, .func (.func 71) #[.pointer (some ⟨gb, 0, none⟩)] #[]] w fun e w' => e = .returned (.slice (some ⟨w.heap.size, 0, none⟩) N N) ∧ Below w.heap.size w w' ∧ w'.rowIs w.heap.size 22 N (fun k => .float .f64 (f k)) := by
  have MK := run_make_row' (P := Tryz.prog) 30 22 (.float .f64 (0)) 8 Tryz.underlying30 infoF64 rfl .i64 .i64 N (by omega) (by omega) w
  obtain ⟨ob, hob⟩ : ∃ b, w.heap.size = b := ⟨_, rfl⟩
  have RW : Hid ((w.alloc (.cells (madeCells #[.float .f64 (0)] N) 22)).rowIs ob 22 N (fun _ => .float .f64 (0))) := by rw [← hob]; exact World.rowIs_made _ _ _ _
  have A0 : Hid (Ab w (w.alloc (.cells (madeCells #[.float .f64 (0)] N) 22))) := bl1 w _
  have HO : Hid (w.heap.size ≤ ob) := Nat.le_of_eq hob
  generalize w.alloc (.cells (madeCells #[.float .f64 (0)] N) 22) = wm at *
  go_enter Tryz.func69, Tryz.ntmps69
  go_wp2
  have HB := hid hob
  clear MK hob
  go_loopw [11] (fun iv wr => ∃ k : Nat, k ≤ N ∧ iv = .int .i64 (k : Nat) ∧ Ab w wr ∧ wr.rowIs ob 22 N (fun j => if j < k then .float .f64 (f j) else .float .f64 (0))) (fun iv _ => N - (intOf iv).toNat)
  case atStart => exact ⟨0, by omega, rfl, A0.out, RW.out.congr (fun i _ => by simp)⟩
  case round =>
    obtain ⟨k, hk, rfl, A, R⟩ := hrel
    have A1 := hid A
    have R1 := hid R
    clear A R A0 RW
    by_cases hkN : k < N
    · have hkN' : (k : Int) < N := by omega
      have C := hid (H.out k hkN wr A1.out)
      have HK := hid hkN
      go_wp2_with fail
      refine C.out.mono ?_
      rintro e w1 ⟨rfl, b1⟩
      have A2 : Hid (Ab w w1) := A1.out.call b1
      have R2 := hid (rowIs.ab R1.out b1)
      have x1 := R2.out.cell hkN
      have x2 := R2.out.frozen k
      clear b1 C A1 R1 hkN
      go_wp2
      go_roundw
      case rel =>
        refine ⟨k + 1, by omega, by simp, Ab.setk A2.out HO.out _, (R2.out.set k (.float .f64 (f k))).congr (fun i _ => ?_)⟩
        by_cases e : i = k
        · subst e; simp
        · have e2 : (i < k + 1) ↔ i < k := by omega
          simp [e, e2]
      case measure => have := HK.out; simp [intOf]; omega
    · obtain rfl : k = N := by omega
      go_wp2
      go_ret
      rw [HB.out]
      exact ⟨rfl, by have h := A1.out; unfold Ab at h; rw [HB.out] at h; exact h, R1.out.congr (fun i hi => by simp [hi])⟩
end Go.Proofs.YtdigecacmibkpaaGreatDoor

namespace Go.Proofs.YtdigecacmibkpaaGreatDoor
open Go.RowKit Cu Tf
attribute [local go_sem] run_store_float
/-- the list of all edges -/
def EG (w : World) (n eb : Nat) : Prop := eb < w.heap.size ∧ ∀ t, t < 24 * n * n → isL n t = true →
  w.cell? ⟨eb, eN n t * 4, none⟩ = some (.int .i64 (t / 4 : Nat)) ∧ w.cell? ⟨eb, eN n t * 4 + 1, none⟩ = some (.int .i64 (t % 4 : Nat)) ∧ w.cell? ⟨eb, eN n t * 4 + 2, none⟩ = some (.int .i64 (bsC n (t / 4) (t % 4) : Nat)) ∧ w.cell? ⟨eb, eN n t * 4 + 3, none⟩ = some (.int .i64 (bsS n (t / 4) (t % 4) : Nat))
theorem EG.to {w w' : World} {n eb : Nat} (h : EG w n eb) (a : Ab w w') : EG w' n eb := by
  refine ⟨Nat.lt_of_lt_of_le h.1 (Ab.size a), fun t ht hl => ?_⟩
  have hc : ∀ k, w'.cell? ⟨eb, k, none⟩ = w.cell? ⟨eb, k, none⟩ := fun k => Below.cell a (by exact h.1)
  simp only [hc]
  exact h.2 t ht hl
/-- a net with all edges -/
def GX (n gb mb eb cap m : Nat) (v3 v4 v5 v6 : Value) (w : World) : Prop :=
  w.heap[gb]? = some (.cells #[.int .i64 n, .slice (some ⟨eb, 0, none⟩) (12 * n * n) cap, .map (some mb), v3, v4, v5, v6] 93) ∧ EG w n eb ∧ MapIs w mb m (gT n (24 * n * n)) ∧ 12 * n * n ≤ cap ∧ cap ≤ maxLen ∧ gb ≠ mb ∧ gb ≠ eb
theorem GX.to {n gb mb eb cap m : Nat} {v3 v4 v5 v6 : Value} {w w' : World} (h : GX n gb mb eb cap m v3 v4 v5 v6 w) (a : Ab w w') : GX n gb mb eb cap m v3 v4 v5 v6 w' :=
  ⟨a.heap h.1, h.2.1.to a, h.2.2.1.block (Below.block a _ h.2.2.1.lt), h.2.2.2⟩
theorem GX.cells {n gb mb eb cap m : Nat} {v3 v4 v5 v6 : Value} {w : World} (h : GX n gb mb eb cap m v3 v4 v5 v6 w) :
    w.cell? ⟨gb, 0, none⟩ = some (.int .i64 n) ∧ w.cell? ⟨gb, 1, none⟩ = some (.slice (some ⟨eb, 0, none⟩) (12 * n * n) cap) ∧ w.cell? ⟨gb, 2, none⟩ = some (.map (some mb)) ∧ w.cell? ⟨gb, 3, none⟩ = some v3 ∧ w.cell? ⟨gb, 4, none⟩ = some v4 ∧ w.cell? ⟨gb, 5, none⟩ = some v5 ∧ w.cell? ⟨gb, 6, none⟩ = some v6 :=
  ⟨cell_of_row _ _ 0 _ _ _ h.1, cell_of_row _ _ 1 _ _ _ h.1, cell_of_row _ _ 2 _ _ _ h.1, cell_of_row _ _ 3 _ _ _ h.1, cell_of_row _ _ 4 _ _ _ h.1, cell_of_row _ _ 5 _ _ _ h.1, cell_of_row _ _ 6 _ _ _ h.1⟩
theorem GE.all {B n gb mb : Nat} {es v3 v4 v5 v6 : Value} {w : World} (hn : 1 ≤ n) (h : GE B n (24 * n * n) gb mb es v3 v4 v5 v6 w) : ∃ eb cap, (B ≤ eb ∧ eb ≠ gb) ∧ es = .slice (some ⟨eb, 0, none⟩) (12 * n * n) cap ∧ GX n gb mb eb cap (2 * (24 * n * n)) v3 v4 v5 v6 w := by
  obtain ⟨h1, h2, h3, h4, h5, h6⟩ := h
  have hh := h2
  have hpos : 0 < 12 * n * n := Nat.mul_pos (by omega) (by omega)
  rw [eN_all hn] at hh
  rcases hh.2 with ⟨rfl, h0⟩ | ⟨g, cap, cur, rfl, hb, hg, k1, k2, k3, k4⟩
  · omega
  · refine ⟨g, cap, ⟨hb, fun e => h5 (by rw [e]; rfl)⟩, rfl, h1, ⟨lt_of_block hg, fun t ht hl => ?_⟩, h3, k1, k2, h4.2.2, fun e => h5 (by rw [e]; rfl)⟩
    have hc : ∀ j < 4, ∀ u, (edV n t)[j]? = some u → w.cell? ⟨g, eN n t * 4 + j, none⟩ = some u := by
      intro j hj u hu
      have := hh.cells (g := g) rfl (eN n t * 4 + j) u (by rw [edL_at ht hl hj]; exact hu)
      have ha : (⟨g, 0, none⟩ : Addr).add (eN n t * 4 + j) = ⟨g, eN n t * 4 + j, none⟩ := by unfold Addr.add; split <;> simp_all
      rwa [ha] at this
    exact ⟨hc 0 (by omega) _ rfl, hc 1 (by omega) _ rfl, hc 2 (by omega) _ rfl, hc 3 (by omega) _ rfl⟩
theorem n12 {n : Nat} (hn : 1 ≤ n ∧ n ≤ 32) : 12 * n * n ≤ 12288 ∧ 24 * n * n = 2 * (12 * n * n) ∧ 24 * n * n = 4 * (6 * n * n) ∧ 0 < 6 * n * n := by
  refine ⟨?_, by rw [show 24 = 2 * 12 from rfl, Nat.mul_assoc 2 12 n, Nat.mul_assoc 2 (12 * n) n], by rw [show 24 = 4 * 6 from rfl, Nat.mul_assoc 4 6 n, Nat.mul_assoc 4 (6 * n) n], Nat.mul_pos (by omega) (by omega)⟩
  rw [Nat.mul_assoc]
  have := Nat.mul_le_mul hn.2 hn.2
  omega
set_option maxHeartbeats 2000000 in
theorem areaOf_at (n gb k : Nat) (w : World) (hn : 1 ≤ n ∧ n ≤ 32) (hk : k < 6 * n * n) (c0 : w.cell? ⟨gb, 0, none⟩ = some (.int .i64 n)) :
    Calls Tryz.prog 66 #[.pointer (some ⟨gb, 0, none⟩), .int .i64 k] w fun e w' => e = .returned (.int .i64 (arI (ArC n k))) ∧ Below w.heap.size w w' := by
  have AR := hid (fun u => area_ok n k u hn hk)
  generalize arI (ArC n k) = V at *
  clear hn hk
  go_enter Tryz.func66, Tryz.ntmps66
  go_wp2_with (go_at_call 113; refine (AR.out _).mono ?_; rintro e w1 ⟨rfl, b1⟩)
  go_ret
  exact ⟨rfl, b1⟩
theorem opposite_at (s : Nat) (w : World) (hs : s < 4) : Calls Tryz.prog 115 #[.int .i64 s] w fun e w' => e = .returned (.int .i64 ((s + 2) % 4 : Nat)) ∧ w' = w := by
  have hs' : (s : Int) < 4 := by omega
  have e : ((s : Int) + 2).tmod 4 = (((s + 2) % 4 : Nat) : Int) := by rw [Int.tmod_eq_emod_of_nonneg (by omega)]; omega
  go_enter Tryz.func115, Tryz.ntmps115
  go_wp2
  go_ret
  exact ⟨by rfl, rfl⟩
set_option maxHeartbeats 4000000 in
theorem lengthOf_at (n gb mb eb cap m t : Nat) (v3 v4 v5 v6 : Value) (w : World) (hn : 1 ≤ n ∧ n ≤ 32) (ht : t < 24 * n * n) (hl : isL n t = true) (_h : Fr w) (G : GX n gb mb eb cap m v3 v4 v5 v6 w) :
    Calls Tryz.prog 70 #[.pointer (some ⟨gb, 0, none⟩), .int .i64 (eN n t : Nat)] w fun e w' => e = .returned (.float .f64 (LnC n (t / 4) (t % 4))) ∧ Below w.heap.size w w' := by
  obtain ⟨U, F, hF1, hF2⟩ := cls w
  have HF := hid hF2
  have HF1 := hid hF1
  have x0 : ∀ u, (F u).cell? ⟨gb, 0, none⟩ = some (.int .i64 n) := fun u => (G.to (hF1 u)).cells.1
  have x1 : ∀ u, (F u).cell? ⟨gb, 1, none⟩ = some (.slice (some ⟨eb, 0, none⟩) (12 * n * n) cap) := fun u => (G.to (hF1 u)).cells.2.1
  have y0 : ∀ u, (F u).cell? ⟨eb, eN n t * 4, none⟩ = some (.int .i64 (t / 4 : Nat)) := fun u => ((G.to (hF1 u)).2.1.2 t ht hl).1
  have y1 : ∀ u, (F u).cell? ⟨eb, eN n t * 4 + 1, none⟩ = some (.int .i64 (t % 4 : Nat)) := fun u => ((G.to (hF1 u)).2.1.2 t ht hl).2.1
  have LE := hid (fun u => len_ok n (t / 4) (t % 4) (F u) hn (t_cell ht) (by omega))
  have D := HF.out _ (Ab.refl w).drew
  have kN := ed_lt hn.1 ht hl
  have kM := (n12 hn).1
  have hcap := G.2.2.2.1
  generalize LnC n (t / 4) (t % 4) = L at *
  generalize t / 4 = c at *
  generalize t % 4 = s at *
  generalize 12 * n * n = M at *
  generalize eN n t = k at *
  have hk1 : (k : Int) < M := by omega
  have hk2 : (M : Int) ≤ 12288 := by omega
  clear hF1 hF2 _h hn ht hl G kN kM
  go_enter Tryz.func70, Tryz.ntmps70
  go_wp2_with fail
  refine region_cls F (by kernel_rfl) (by kernel_rfl) D ?_
  repeat (go_big_quiet_step (first | (with_reducible rfl) | (go_at_call 116; exact calls_cls HF HF1 (LE.out _))))
  refine wpQuiet_nil ?_
  intro wz hwz
  obtain ⟨u, rfl⟩ := hwz
  go_wp2
  go_ret
  exact ⟨rfl, HF1.out u⟩
set_option maxHeartbeats 4000000 in
theorem gapOf_at (n gb mb eb cap m t : Nat) (v3 v4 v5 v6 : Value) (w : World) (hn : 1 ≤ n ∧ n ≤ 32) (ht : t < 24 * n * n) (hl : isL n t = true) (h : Fr w) (G : GX n gb mb eb cap m v3 v4 v5 v6 w) :
    Calls Tryz.prog 71 #[.pointer (some ⟨gb, 0, none⟩), .int .i64 (eN n t : Nat)] w fun e w' => e = .returned (.float .f64 (GpC n (t / 4) (t % 4))) ∧ Below w.heap.size w w' := by
  obtain ⟨U, F, hF1, hF2⟩ := cls w
  have HF := hid hF2
  have HF1 := hid hF1
  have x0 : ∀ u, (F u).cell? ⟨gb, 0, none⟩ = some (.int .i64 n) := fun u => (G.to (hF1 u)).cells.1
  have x1 : ∀ u, (F u).cell? ⟨gb, 1, none⟩ = some (.slice (some ⟨eb, 0, none⟩) (12 * n * n) cap) := fun u => (G.to (hF1 u)).cells.2.1
  have y0 : ∀ u, (F u).cell? ⟨eb, eN n t * 4, none⟩ = some (.int .i64 (t / 4 : Nat)) := fun u => ((G.to (hF1 u)).2.1.2 t ht hl).1
  have y1 : ∀ u, (F u).cell? ⟨eb, eN n t * 4 + 1, none⟩ = some (.int .i64 (t % 4 : Nat)) := fun u => ((G.to (hF1 u)).2.1.2 t ht hl).2.1
  have LE := hid (fun u => gap_ok n (t / 4) (t % 4) (F u) hn (t_cell ht) (by omega) (h.to (hF1 u)))
  have D := HF.out _ (Ab.refl w).drew
  have kN := ed_lt hn.1 ht hl
  have kM := (n12 hn).1
  have hcap := G.2.2.2.1
  generalize GpC n (t / 4) (t % 4) = L at *
  generalize t / 4 = c at *
  generalize t % 4 = s at *
  generalize 12 * n * n = M at *
  generalize eN n t = k at *
  have hk1 : (k : Int) < M := by omega
  have hk2 : (M : Int) ≤ 12288 := by omega
  clear hF1 hF2 h hn ht hl G kN kM
  go_enter Tryz.func71, Tryz.ntmps71
  go_wp2_with fail
  refine region_cls F (by kernel_rfl) (by kernel_rfl) D ?_
  repeat (go_big_quiet_step (first | (with_reducible rfl) | (go_at_call 117; exact calls_cls HF HF1 (LE.out _))))
  refine wpQuiet_nil ?_
  intro wz hwz
  obtain ⟨u, rfl⟩ := hwz
  go_wp2
  go_ret
  exact ⟨rfl, HF1.out u⟩
end Go.Proofs.YtdigecacmibkpaaGreatDoor

namespace Go.Proofs.YtdigecacmibkpaaGreatDoor
open Go.RowKit Cu Tf
set_option maxHeartbeats 4000000 in
theorem cellOver_go (gb mb eb cap c s x y : Nat) (sg : Int) (w : World) (M : Nat) (hk : (x : Int) < M) (lg : gb < w.heap.size) (le : eb < w.heap.size)
    (c1 : w.cell? ⟨gb, 1, none⟩ = some (.slice (some ⟨eb, 0, none⟩) M cap)) (c2 : w.cell? ⟨gb, 2, none⟩ = some (.map (some mb)))
    (LK : (Instr.lookup 89 (.map (some mb)) (.agg #[.int .i64 c, .int .i64 s]) false).run Tryz.prog w = .ok (.agg #[.int .i64 x, .int .i64 sg]) w)
    (HY : Hid ((sg = 1 ∧ w.cell? ⟨eb, x * 4 + 2, none⟩ = some (.int .i64 y)) ∨ (sg = -1 ∧ w.cell? ⟨eb, x * 4, none⟩ = some (.int .i64 y)))) :
    Calls Tryz.prog 114 #[.pointer (some ⟨gb, 0, none⟩), .int .i64 c, .int .i64 s] w fun e w' => e = .returned (.int .i64 y) ∧ Below w.heap.size w w' := by
  rcases HY.out with ⟨rfl, hy⟩ | ⟨rfl, hy⟩
  · clear HY
    go_enter Tryz.func114, Tryz.ntmps114
    go_upto_region 3 with fail
    go_region
    go_wp2
    go_ret
    exact ⟨rfl, by first | exact bl1 w _ | exact Below.drew (bl1 w _)⟩
  · clear HY
    go_enter Tryz.func114, Tryz.ntmps114
    go_upto_region 4 with fail
    go_region
    go_wp2
    go_ret
    exact ⟨rfl, by first | exact bl1 w _ | exact Below.drew (bl1 w _)⟩
theorem cellOver_at (n gb mb eb cap m c s : Nat) (v3 v4 v5 v6 : Value) (w : World) (hn : 1 ≤ n ∧ n ≤ 32) (hc : c < 6 * n * n) (hs : s < 4) (G : GX n gb mb eb cap m v3 v4 v5 v6 w) :
    Calls Tryz.prog 114 #[.pointer (some ⟨gb, 0, none⟩), .int .i64 c, .int .i64 s] w fun e w' => e = .returned (.int .i64 (bsC n c s : Nat)) ∧ Below w.heap.size w w' := by
  have ht := t_lt hc hs
  have hd := t_dec (c := c) hs
  have h12 := n12 hn
  have LK := G.2.2.1.look (c := c) (s := s) (by unfold W64; omega) (by unfold W64; omega)
  rw [gT_end hn.1 hc hs] at LK
  refine cellOver_go gb mb eb cap c s (eE n (4 * c + s)) (bsC n c s) (eS n (4 * c + s)) w (12 * n * n) (by have := eE_lt hn.1 ht; omega) (lt_of_block G.1) G.2.1.1 G.cells.2.1 G.cells.2.2.1 LK ?_
  show _ ∨ _
  unfold eE eS
  cases hl : isL n (4 * c + s) with
  | true =>
    refine .inl ⟨rfl, ?_⟩
    have h := (G.2.1.2 _ ht hl).2.2.1
    rw [hd.1, hd.2] at h
    exact h
  | false =>
    refine .inr ⟨rfl, ?_⟩
    have h := (G.2.1.2 _ (mt_lt hn.1 ht) (by rw [isL_mt hn.1 ht, hl]; rfl)).1
    rw [(mt_dec hn.1 ht).1, hd.1, hd.2] at h
    exact h
theorem set2 {W w : World} {g : Nat} {x y : Value} {T : TypeId} (h : Abx W g 2 T w) : ((w.setCell ⟨g, 0, none⟩ x).setCell ⟨g, 1, none⟩ y).heap[g]? = some (.cells #[x, y] T) := by
  obtain ⟨_, cs, h6, h⟩ := h
  obtain ⟨a, b, rfl⟩ : ∃ a b, cs = #[a, b] := by
    rcases cs with ⟨l⟩
    match l, h6 with
    | [a, b], _ => exact ⟨a, b, rfl⟩
  have h1 := one_set (v := x) (k := 0) h
  have h2 := one_set (v := y) (k := 1) h1
  simpa using h2
set_option maxHeartbeats 8000000 in
theorem cellsBehind_at (n gb mb eb cap m t : Nat) (v3 v4 v5 v6 : Value) (w : World) (hn : 1 ≤ n ∧ n ≤ 32) (ht : t < 24 * n * n) (hl : isL n t = true) (G : GX n gb mb eb cap m v3 v4 v5 v6 w) :
    Calls Tryz.prog 68 #[.pointer (some ⟨gb, 0, none⟩), .int .i64 (eN n t : Nat)] w fun e w' => e = .returned (.agg #[.int .i64 (bsC n (t / 4) ((t % 4 + 2) % 4) : Nat), .int .i64 (bsC n (bsC n (t / 4) (t % 4)) ((bsS n (t / 4) (t % 4) + 2) % 4) : Nat)]) ∧ Below w.heap.size w w' := by
  obtain ⟨b1, b2⟩ := bs_lt hn.1 (t_cell ht) (s := t % 4) (by omega)
  have O1 := hid (fun u => opposite_at (t % 4) u (by omega))
  have O2 := hid (fun u => opposite_at (bsS n (t / 4) (t % 4)) u b2)
  have C1 := hid (fun u (hu : Ab w u) => cellOver_at n gb mb eb cap m (t / 4) ((t % 4 + 2) % 4) v3 v4 v5 v6 u hn (t_cell ht) (by omega) (G.to hu))
  have C2 := hid (fun u (hu : Ab w u) => cellOver_at n gb mb eb cap m (bsC n (t / 4) (t % 4)) ((bsS n (t / 4) (t % 4) + 2) % 4) v3 v4 v5 v6 u hn b1 (by omega) (G.to hu))
  have c1 := G.cells.2.1
  obtain ⟨y0, y1, y2, y3⟩ := G.2.1.2 t ht hl
  have kN := ed_lt hn.1 ht hl
  have kM := (n12 hn).1
  have hcap := G.2.2.2.1
  have lg := lt_of_block G.1
  have le := G.2.1.1
  have h1 : Hid ((w.alloc (.cells #[.int .i64 0, .int .i64 0] 97)).heap[w.heap.size]? = some (.cells #[.int .i64 0, .int .i64 0] 97)) := heap_alloc_new _ _
  generalize bsC n (bsC n (t / 4) (t % 4)) ((bsS n (t / 4) (t % 4) + 2) % 4) = q2 at *
  generalize bsC n (t / 4) ((t % 4 + 2) % 4) = q1 at *
  generalize (bsS n (t / 4) (t % 4) + 2) % 4 = o2 at *
  generalize (t % 4 + 2) % 4 = o1 at *
  generalize bsC n (t / 4) (t % 4) = d at *
  generalize bsS n (t / 4) (t % 4) = b at *
  generalize t / 4 = c at *
  generalize t % 4 = s at *
  generalize 12 * n * n = M at *
  generalize eN n t = k at *
  have hk1 : (k : Int) < M := by omega
  have hk2 : (M : Int) ≤ 12288 := by omega
  clear hn ht hl G kN kM b1 b2
  go_enter Tryz.func68, Tryz.ntmps68
  go_upto_region 2 with fail
  generalize hW : World.alloc _ _ = W
  have ra : W.heap[w.heap.size]? = some (.cells #[.int .i64 0, .int .i64 0] 97) := by rw [← hW]; exact heap_alloc2_old _ _ _
  have rb : W.heap[w.heap.size + 1]? = some (.cells #[.int .i64 c, .int .i64 s, .int .i64 d, .int .i64 b] 84) := by rw [← hW]; exact heap_alloc2_new _ _ _
  have AW : Hid (Ab w W) := by rw [← hW]; exact bl2 _ _ _
  have KS : Hid (∀ w', Abx W w.heap.size 2 97 w' → Abx W w.heap.size 2 97 w' ∧ w'.cell? ⟨w.heap.size + 1, 0, none⟩ = some (.int .i64 c) ∧ w'.cell? ⟨w.heap.size + 1, 1, none⟩ = some (.int .i64 s) ∧ w'.cell? ⟨w.heap.size + 1, 2, none⟩ = some (.int .i64 d) ∧ w'.cell? ⟨w.heap.size + 1, 3, none⟩ = some (.int .i64 b) ∧ w'.frozen? ⟨w.heap.size, 0, none⟩ = false ∧ w'.frozen? ⟨w.heap.size, 1, none⟩ = false ∧ w'.cell? ⟨w.heap.size, 0, none⟩ = some (rv w' w.heap.size 0) ∧ w'.cell? ⟨w.heap.size, 1, none⟩ = some (rv w' w.heap.size 1)) := by
    intro w' hw
    have h := hw.heap (k := w.heap.size + 1) (by omega) rb
    exact ⟨hw, cell_of_row _ _ 0 _ _ _ h, cell_of_row _ _ 1 _ _ _ h, cell_of_row _ _ 2 _ _ _ h, cell_of_row _ _ 3 _ _ _ h, hw.free 0, hw.free 1, hw.some (by omega), hw.some (by omega)⟩
  have A1 : Abx W w.heap.size 2 97 W := (Ab.refl W).x rfl ra
  have D1 : Hid (∀ u, Abx W w.heap.size 2 97 u → Calls Tryz.prog 114 #[.pointer (some ⟨gb, 0, none⟩), .int .i64 c, .int .i64 o1] u fun e w' => e = .returned (.int .i64 q1) ∧ Below u.heap.size u w') := fun u hu => C1.out u (hu.ab AW.out (Nat.le_refl _))
  have D2 : Hid (∀ u, Abx W w.heap.size 2 97 u → Calls Tryz.prog 114 #[.pointer (some ⟨gb, 0, none⟩), .int .i64 d, .int .i64 o2] u fun e w' => e = .returned (.int .i64 q2) ∧ Below u.heap.size u w') := fun u hu => C2.out u (hu.ab AW.out (Nat.le_refl _))
  clear ra rb hW h1 y0 y1 y2 y3 c1 C1 C2
  go_region_held3 (fun w' => Abx W w.heap.size 2 97 w' ∧ w'.cell? ⟨w.heap.size + 1, 0, none⟩ = some (.int .i64 c) ∧ w'.cell? ⟨w.heap.size + 1, 1, none⟩ = some (.int .i64 s) ∧ w'.cell? ⟨w.heap.size + 1, 2, none⟩ = some (.int .i64 d) ∧ w'.cell? ⟨w.heap.size + 1, 3, none⟩ = some (.int .i64 b) ∧ w'.frozen? ⟨w.heap.size, 0, none⟩ = false ∧ w'.frozen? ⟨w.heap.size, 1, none⟩ = false ∧ w'.cell? ⟨w.heap.size, 0, none⟩ = some (rv w' w.heap.size 0) ∧ w'.cell? ⟨w.heap.size, 1, none⟩ = some (rv w' w.heap.size 1)) ((refine KS.out _ ?_; (with_reducible (repeat (first | assumption | apply Abx.drew | apply Abx.set | (refine Abx.call ?_ (by assumption))))); done)) (first
    | (go_at_call_of 115 s; refine (O1.out _).mono ?_; rintro e w2 ⟨rfl, rfl⟩)
    | (go_at_call_of 115 b; refine (O2.out _).mono ?_; rintro e w2 ⟨rfl, rfl⟩)
    | (go_at_call_of 114 o1; refine (D1.out _ ?_).mono ?_; (exact And.left (by assumption)); rintro e w3 ⟨rfl, b3⟩)
    | (go_at_call_of 114 o2; refine (D2.out _ ?_).mono ?_; (exact And.left (by assumption)); rintro e w4 ⟨rfl, b4⟩))
  have A4 : Abx W w.heap.size 2 97 w4 := Abx.call (Abx.call A1.drew b3) b4
  clear KS A1 b3 b4
  go_wp2
  refine bodyPost_ret ?_ rfl ⟨rfl, ?_⟩
  · exact results_cell_row Tryz.results68 _ _ w.heap.size _ _ (0, 0) _ rfl (set2 A4) Tryz.underlying97 rfl (by kernel_rfl)
  · exact ((A4.set 0 _).set 1 _).ab AW.out (Nat.le_refl _)
end Go.Proofs.YtdigecacmibkpaaGreatDoor
