/-
  Some of the texts of this proof, one behind the other.
-/
import Derived.Test.YtgalgnjgpmcngaaGreatDoorZ18
namespace Go.Proofs.YtgalgnjgpmcngaaGreatDoor
open Go.RowKit Tf Cu Go.Deep
attribute [local go_sem] run_bits run_from raw_feq raw_fne raw_flt raw_fgt run_neg run_store_float
namespace Fc
theorem same16y (x : Nat) (v : World) : Calls Tryz.prog 7 #[.float .f64 x, .float .f64 x] v fun e w' => e = .returned (.bool true) ∧ Below v.heap.size v w' := (same16 x v).mono fun _ _ h => ⟨h.1, by obtain ⟨_, rfl⟩ := h; exact Below.refl _ _⟩
set_option maxRecDepth 100000 in
set_option maxHeartbeats 16000000 in
theorem fall16_no (side : Int) (sd : Int) (dt gr dr : Nat) (lim : Int) (rv : Bool) (pr : Option Addr) (lr cr : Nat) (pb : Option Addr) (lb cb : Nat) (pw : Option Addr) (lw cw : Nat) (pt : Option Addr) (lt ct : Nat) (ps : Option Addr) (ls cs : Nat) (sky st : Int) (e : Int) (w : World) (hs : ¬ (1 ≤ side ∧ side ≤ 32))
    (LV : Hid (∀ v, Ab w v → Calls Tryz.prog 4 #[] v fun e w' => e = .returned (.bool true) ∧ Below v.heap.size v w'))
    (NS : Hid (∀ v, Calls Tryz.prog 5 #[.pointer none, .agg #[.int .i64 sd, .float .f64 dt, .float .f64 gr, .float .f64 dr, .int .i64 lim, .bool rv, .slice pr lr cr], .agg #[.slice pb lb cb, .slice pw lw cw, .slice pt lt ct, .slice ps ls cs, .int .i64 sky, .int .i64 st]] v fun x w' => x = .returned (.tuple #[.slice none 0 0, .int .i64 2]) ∧ Below v.heap.size v w'))
    (NO : Hid (∀ v, Calls Tryz.prog 6 #[.pointer none, .agg #[.slice pb lb cb, .slice pw lw cw, .slice pt lt ct, .slice ps ls cs, .int .i64 sky, .int .i64 st], .int .i64 e] v fun x w' => x = .returned (.bool false) ∧ Below v.heap.size v w'))
    (NV : Hid (∀ v, Calls Tryz.prog 8 #[.pointer none, .agg #[.int .i64 sd, .float .f64 dt, .float .f64 gr, .float .f64 dr, .int .i64 lim, .bool rv, .slice pr lr cr], .agg #[.slice pb lb cb, .slice pw lw cw, .slice pt lt ct, .slice ps ls cs, .int .i64 sky, .int .i64 st], .int .i64 e] v fun x w' => x = .returned (.float .f64 0) ∧ Below v.heap.size v w')) :
    Calls Tryz.prog 3 #[.int .i64 side, .agg #[.int .i64 sd, .float .f64 dt, .float .f64 gr, .float .f64 dr, .int .i64 lim, .bool rv, .slice pr lr cr], .agg #[.slice pb lb cb, .slice pw lw cw, .slice pt lt ct, .slice ps ls cs, .int .i64 sky, .int .i64 st], .int .i64 e] w fun x w' => x = .returned (.bool true) ∧ Below w.heap.size w w' := by
  have A0 : Hid (Ab w ((w.alloc (.cells #[.int .i64 sd, .float .f64 dt, .float .f64 gr, .float .f64 dr, .int .i64 lim, .bool rv, .slice pr lr cr] 25)).alloc (.cells #[.slice pb lb cb, .slice pw lw cw, .slice pt lt ct, .slice ps ls cs, .int .i64 sky, .int .i64 st] 29))) := bl2 _ _ _
  have P0 : Hid (((w.alloc (.cells #[.int .i64 sd, .float .f64 dt, .float .f64 gr, .float .f64 dr, .int .i64 lim, .bool rv, .slice pr lr cr] 25)).alloc (.cells #[.slice pb lb cb, .slice pw lw cw, .slice pt lt ct, .slice ps ls cs, .int .i64 sky, .int .i64 st] 29)).heap[w.heap.size]? = some (.cells #[.int .i64 sd, .float .f64 dt, .float .f64 gr, .float .f64 dr, .int .i64 lim, .bool rv, .slice pr lr cr] 25)) := heap_alloc2_old _ _ _
  have S0 : Hid (((w.alloc (.cells #[.int .i64 sd, .float .f64 dt, .float .f64 gr, .float .f64 dr, .int .i64 lim, .bool rv, .slice pr lr cr] 25)).alloc (.cells #[.slice pb lb cb, .slice pw lw cw, .slice pt lt ct, .slice ps ls cs, .int .i64 sky, .int .i64 st] 29)).heap[w.heap.size + 1]? = some (.cells #[.slice pb lb cb, .slice pw lw cw, .slice pt lt ct, .slice ps ls cs, .int .i64 sky, .int .i64 st] 29)) := heap_alloc2_new _ _ _
  go_enter Tryz.func3, Tryz.ntmps3
  go_upto_region 1 with fail
  obtain ⟨gp, hgp⟩ : ∃ g, w.heap.size = g := ⟨_, rfl⟩
  obtain ⟨gs, hgs⟩ : ∃ g, w.heap.size + 1 = g := ⟨_, rfl⟩
  generalize hW : World.alloc (World.alloc w _) _ = W at *
  rw [hgs] at S0 ⊢
  rw [hgp] at P0 ⊢
  have GPW : Hid (w.heap.size ≤ gp ∧ w.heap.size ≤ gs) := ⟨by omega, by omega⟩
  clear hgp hgs hW
  go_wp2_with fail
  refine (LV.out _ A0.out).mono ?_
  rintro e9 v1 ⟨rfl, k1⟩
  have A1 : Hid (Ab w v1) := A0.out.call k1
  have P1 := hid (Ab.heap k1 P0.out)
  have S1 := hid (Ab.heap k1 S0.out)
  clear k1 A0 P0 S0
  have c0 := cell_of_row _ _ 0 _ _ _ S1.out
  have c1 := cell_of_row _ _ 1 _ _ _ S1.out
  have c2 := cell_of_row _ _ 2 _ _ _ S1.out
  have c3 := cell_of_row _ _ 3 _ _ _ S1.out
  have c4 := cell_of_row _ _ 4 _ _ _ S1.out
  have c5 := cell_of_row _ _ 5 _ _ _ S1.out
  have p0 := cell_of_row _ _ 0 _ _ _ P1.out
  have p1 := cell_of_row _ _ 1 _ _ _ P1.out
  have p2 := cell_of_row _ _ 2 _ _ _ P1.out
  have p3 := cell_of_row _ _ 3 _ _ _ P1.out
  have p4 := cell_of_row _ _ 4 _ _ _ P1.out
  have p5 := cell_of_row _ _ 5 _ _ _ P1.out
  have p6 := cell_of_row _ _ 6 _ _ _ P1.out
  go_wp2_with fail
  refine (NS.out _).mono ?_
  rintro e9 v2 ⟨rfl, k1⟩
  have A2 : Hid (Ab w v2) := A1.out.call k1
  have P2 := hid (Ab.heap k1 P1.out)
  have S2 := hid (Ab.heap k1 S1.out)
  clear k1 A1 P1 S1 c0 c1 c2 c3 c4 c5 p0 p1 p2 p3 p4 p5 p6
  have c0 := cell_of_row _ _ 0 _ _ _ S2.out
  have c1 := cell_of_row _ _ 1 _ _ _ S2.out
  have c2 := cell_of_row _ _ 2 _ _ _ S2.out
  have c3 := cell_of_row _ _ 3 _ _ _ S2.out
  have c4 := cell_of_row _ _ 4 _ _ _ S2.out
  have c5 := cell_of_row _ _ 5 _ _ _ S2.out
  go_wp2_with fail
  refine (NO.out _).mono ?_
  rintro e9 v3 ⟨rfl, k1⟩
  have A3 : Hid (Ab w v3) := A2.out.call k1
  have P3 := hid (Ab.heap k1 P2.out)
  have S3 := hid (Ab.heap k1 S2.out)
  clear k1 A2 P2 S2 c0 c1 c2 c3 c4 c5
  have c0 := cell_of_row _ _ 0 _ _ _ S3.out
  have c1 := cell_of_row _ _ 1 _ _ _ S3.out
  have c2 := cell_of_row _ _ 2 _ _ _ S3.out
  have c3 := cell_of_row _ _ 3 _ _ _ S3.out
  have c4 := cell_of_row _ _ 4 _ _ _ S3.out
  have c5 := cell_of_row _ _ 5 _ _ _ S3.out
  have p0 := cell_of_row _ _ 0 _ _ _ P3.out
  have p1 := cell_of_row _ _ 1 _ _ _ P3.out
  have p2 := cell_of_row _ _ 2 _ _ _ P3.out
  have p3 := cell_of_row _ _ 3 _ _ _ P3.out
  have p4 := cell_of_row _ _ 4 _ _ _ P3.out
  have p5 := cell_of_row _ _ 5 _ _ _ P3.out
  have p6 := cell_of_row _ _ 6 _ _ _ P3.out
  go_wp2_with fail
  refine (NV.out _).mono ?_
  rintro e9 v4 ⟨rfl, k1⟩
  have A4 : Hid (Ab w v4) := A3.out.call k1
  have P4 := hid (Ab.heap k1 P3.out)
  have S4 := hid (Ab.heap k1 S3.out)
  clear k1 A3 P3 S3 c0 c1 c2 c3 c4 c5 p0 p1 p2 p3 p4 p5 p6
  go_wp2_with fail
  refine (same16 0 _).mono ?_
  rintro e9 v5 ⟨rfl, hv⟩
  have hv2 := hv.symm
  subst hv2
  go_wp2_with fail
  refine (new_no side _ hs).mono ?_
  rintro e9 v6 ⟨rfl, hv⟩
  have hv2 := hv.symm
  subst hv2
  go_wp2_with fail
  refine (rnew_no side _ hs).mono ?_
  rintro e9 v7 ⟨rfl, hv⟩
  have hv2 := hv.symm
  subst hv2
  go_wp2
  go_ret
  exact ⟨rfl, A4.out⟩
set_option maxRecDepth 100000 in
set_option maxHeartbeats 32000000 in
theorem fall16_go (n : Nat) (sd : Int) (dt gr dr : Nat) (lim : Int) (rv : Bool) (pr : Option Addr) (lr cr : Nat) (pb : Option Addr) (lb cb : Nat) (pw : Option Addr) (lw cw : Nat) (pt : Option Addr) (lt ct : Nat) (ps : Option Addr) (ls cs : Nat) (sky st : Int) (e : Int) (l0 : List Nat) (er : Int) (O : Nat → Bool) (oe : Bool) (xe : Nat) (w : World) (HN : Hid (1 ≤ n ∧ n ≤ 32)) (HF : Hid (Fr w)) (H0 : Hid (l0.length ≤ 65536 ∧ ∀ x ∈ l0, x < 18446744073709551616))
    (LV : Hid (∀ v, Ab w v → Calls Tryz.prog 4 #[] v fun e w' => e = .returned (.bool true) ∧ Below v.heap.size v w'))
    (NS : Hid (∀ v, Calls Tryz.prog 5 #[.pointer none, .agg #[.int .i64 sd, .float .f64 dt, .float .f64 gr, .float .f64 dr, .int .i64 lim, .bool rv, .slice pr lr cr], .agg #[.slice pb lb cb, .slice pw lw cw, .slice pt lt ct, .slice ps ls cs, .int .i64 sky, .int .i64 st]] v fun x w' => x = .returned (.tuple #[.slice none 0 0, .int .i64 2]) ∧ Below v.heap.size v w'))
    (NO : Hid (∀ v, Calls Tryz.prog 6 #[.pointer none, .agg #[.slice pb lb cb, .slice pw lw cw, .slice pt lt ct, .slice ps ls cs, .int .i64 sky, .int .i64 st], .int .i64 e] v fun x w' => x = .returned (.bool false) ∧ Below v.heap.size v w'))
    (NV : Hid (∀ v, Calls Tryz.prog 8 #[.pointer none, .agg #[.int .i64 sd, .float .f64 dt, .float .f64 gr, .float .f64 dr, .int .i64 lim, .bool rv, .slice pr lr cr], .agg #[.slice pb lb cb, .slice pw lw cw, .slice pt lt ct, .slice ps ls cs, .int .i64 sky, .int .i64 st], .int .i64 e] v fun x w' => x = .returned (.float .f64 0) ∧ Below v.heap.size v w'))
    (GS : Hid (∀ gb v, Ab w v → GridOf n gb v → Calls Tryz.prog 5 #[.pointer (some ⟨gb, 0, none⟩), .agg #[.int .i64 sd, .float .f64 dt, .float .f64 gr, .float .f64 dr, .int .i64 lim, .bool rv, .slice pr lr cr], .agg #[.slice pb lb cb, .slice pw lw cw, .slice pt lt ct, .slice ps ls cs, .int .i64 sky, .int .i64 st]] v fun e w' => ∃ u, e = .returned (.tuple #[u, .int .i64 er]) ∧ Below v.heap.size v w' ∧ OwnG v.heap.size u l0 w'))
    (RS : Hid (∀ rb v, Ab w v → RefOf n rb v → Calls Tryz.prog 11 #[.pointer (some ⟨rb, 0, none⟩), .agg #[.int .i64 sd, .float .f64 dt, .float .f64 gr, .float .f64 dr, .int .i64 lim, .bool rv, .slice pr lr cr], .agg #[.slice pb lb cb, .slice pw lw cw, .slice pt lt ct, .slice ps ls cs, .int .i64 sky, .int .i64 st]] v fun e w' => ∃ u, e = .returned (.tuple #[u, .int .i64 er]) ∧ Below v.heap.size v w' ∧ OwnG v.heap.size u l0 w'))
    (GO : Hid (∀ gb v, Ab w v → GridOf n gb v → ∀ k : Nat, k < l0.length → Calls Tryz.prog 6 #[.pointer (some ⟨gb, 0, none⟩), .agg #[.slice pb lb cb, .slice pw lw cw, .slice pt lt ct, .slice ps ls cs, .int .i64 sky, .int .i64 st], .int .i64 (k : Nat)] v fun x w' => x = .returned (.bool (O k)) ∧ Below v.heap.size v w'))
    (RO : Hid (∀ rb v, Ab w v → RefOf n rb v → ∀ k : Nat, k < l0.length → Calls Tryz.prog 13 #[.pointer (some ⟨rb, 0, none⟩), .agg #[.slice pb lb cb, .slice pw lw cw, .slice pt lt ct, .slice ps ls cs, .int .i64 sky, .int .i64 st], .int .i64 (k : Nat)] v fun x w' => x = .returned (.bool (O k)) ∧ Below v.heap.size v w'))
    (GV : Hid (∀ gb v, Ab w v → GridOf n gb v → ∀ k : Nat, k < l0.length → Calls Tryz.prog 8 #[.pointer (some ⟨gb, 0, none⟩), .agg #[.int .i64 sd, .float .f64 dt, .float .f64 gr, .float .f64 dr, .int .i64 lim, .bool rv, .slice pr lr cr], .agg #[.slice pb lb cb, .slice pw lw cw, .slice pt lt ct, .slice ps ls cs, .int .i64 sky, .int .i64 st], .int .i64 (k : Nat)] v fun x w' => x = .returned (.float .f64 (l0.getD k 0)) ∧ Below v.heap.size v w'))
    (GOE : Hid (∀ gb v, Ab w v → GridOf n gb v → Calls Tryz.prog 6 #[.pointer (some ⟨gb, 0, none⟩), .agg #[.slice pb lb cb, .slice pw lw cw, .slice pt lt ct, .slice ps ls cs, .int .i64 sky, .int .i64 st], .int .i64 e] v fun x w' => x = .returned (.bool oe) ∧ Below v.heap.size v w'))
    (ROE : Hid (∀ rb v, Ab w v → RefOf n rb v → Calls Tryz.prog 13 #[.pointer (some ⟨rb, 0, none⟩), .agg #[.slice pb lb cb, .slice pw lw cw, .slice pt lt ct, .slice ps ls cs, .int .i64 sky, .int .i64 st], .int .i64 e] v fun x w' => x = .returned (.bool oe) ∧ Below v.heap.size v w'))
    (GVE : Hid (∀ gb v, Ab w v → GridOf n gb v → Calls Tryz.prog 8 #[.pointer (some ⟨gb, 0, none⟩), .agg #[.int .i64 sd, .float .f64 dt, .float .f64 gr, .float .f64 dr, .int .i64 lim, .bool rv, .slice pr lr cr], .agg #[.slice pb lb cb, .slice pw lw cw, .slice pt lt ct, .slice ps ls cs, .int .i64 sky, .int .i64 st], .int .i64 e] v fun x w' => x = .returned (.float .f64 xe) ∧ Below v.heap.size v w'))
    (RVE : Hid (∀ rb v, Ab w v → RefOf n rb v → Calls Tryz.prog 14 #[.pointer (some ⟨rb, 0, none⟩), .agg #[.int .i64 sd, .float .f64 dt, .float .f64 gr, .float .f64 dr, .int .i64 lim, .bool rv, .slice pr lr cr], .agg #[.slice pb lb cb, .slice pw lw cw, .slice pt lt ct, .slice ps ls cs, .int .i64 sky, .int .i64 st], .int .i64 e] v fun x w' => x = .returned (.float .f64 xe) ∧ Below v.heap.size v w')) :
    Calls Tryz.prog 3 #[.int .i64 (n : Nat), .agg #[.int .i64 sd, .float .f64 dt, .float .f64 gr, .float .f64 dr, .int .i64 lim, .bool rv, .slice pr lr cr], .agg #[.slice pb lb cb, .slice pw lw cw, .slice pt lt ct, .slice ps ls cs, .int .i64 sky, .int .i64 st], .int .i64 e] w fun x w' => x = .returned (.bool true) ∧ Below w.heap.size w w' := by
  have A0 : Hid (Ab w ((w.alloc (.cells #[.int .i64 sd, .float .f64 dt, .float .f64 gr, .float .f64 dr, .int .i64 lim, .bool rv, .slice pr lr cr] 25)).alloc (.cells #[.slice pb lb cb, .slice pw lw cw, .slice pt lt ct, .slice ps ls cs, .int .i64 sky, .int .i64 st] 29))) := bl2 _ _ _
  have P0 : Hid (((w.alloc (.cells #[.int .i64 sd, .float .f64 dt, .float .f64 gr, .float .f64 dr, .int .i64 lim, .bool rv, .slice pr lr cr] 25)).alloc (.cells #[.slice pb lb cb, .slice pw lw cw, .slice pt lt ct, .slice ps ls cs, .int .i64 sky, .int .i64 st] 29)).heap[w.heap.size]? = some (.cells #[.int .i64 sd, .float .f64 dt, .float .f64 gr, .float .f64 dr, .int .i64 lim, .bool rv, .slice pr lr cr] 25)) := heap_alloc2_old _ _ _
  have S0 : Hid (((w.alloc (.cells #[.int .i64 sd, .float .f64 dt, .float .f64 gr, .float .f64 dr, .int .i64 lim, .bool rv, .slice pr lr cr] 25)).alloc (.cells #[.slice pb lb cb, .slice pw lw cw, .slice pt lt ct, .slice ps ls cs, .int .i64 sky, .int .i64 st] 29)).heap[w.heap.size + 1]? = some (.cells #[.slice pb lb cb, .slice pw lw cw, .slice pt lt ct, .slice ps ls cs, .int .i64 sky, .int .i64 st] 29)) := heap_alloc2_new _ _ _
  go_enter Tryz.func3, Tryz.ntmps3
  go_upto_region 1 with fail
  obtain ⟨gp, hgp⟩ : ∃ g, w.heap.size = g := ⟨_, rfl⟩
  obtain ⟨gs, hgs⟩ : ∃ g, w.heap.size + 1 = g := ⟨_, rfl⟩
  generalize hW : World.alloc (World.alloc w _) _ = W at *
  rw [hgs] at S0 ⊢
  rw [hgp] at P0 ⊢
  have GPW : Hid (w.heap.size ≤ gp ∧ w.heap.size ≤ gs) := ⟨by omega, by omega⟩
  clear hgp hgs hW
  go_wp2_with fail
  refine (LV.out _ A0.out).mono ?_
  rintro e9 v1 ⟨rfl, k1⟩
  have A1 : Hid (Ab w v1) := A0.out.call k1
  have P1 := hid (Ab.heap k1 P0.out)
  have S1 := hid (Ab.heap k1 S0.out)
  clear k1 A0 P0 S0
  have c0 := cell_of_row _ _ 0 _ _ _ S1.out
  have c1 := cell_of_row _ _ 1 _ _ _ S1.out
  have c2 := cell_of_row _ _ 2 _ _ _ S1.out
  have c3 := cell_of_row _ _ 3 _ _ _ S1.out
  have c4 := cell_of_row _ _ 4 _ _ _ S1.out
  have c5 := cell_of_row _ _ 5 _ _ _ S1.out
  have p0 := cell_of_row _ _ 0 _ _ _ P1.out
  have p1 := cell_of_row _ _ 1 _ _ _ P1.out
  have p2 := cell_of_row _ _ 2 _ _ _ P1.out
  have p3 := cell_of_row _ _ 3 _ _ _ P1.out
  have p4 := cell_of_row _ _ 4 _ _ _ P1.out
  have p5 := cell_of_row _ _ 5 _ _ _ P1.out
  have p6 := cell_of_row _ _ 6 _ _ _ P1.out
  go_wp2_with fail
  refine (NS.out _).mono ?_
  rintro e9 v2 ⟨rfl, k1⟩
  have A2 : Hid (Ab w v2) := A1.out.call k1
  have P2 := hid (Ab.heap k1 P1.out)
  have S2 := hid (Ab.heap k1 S1.out)
  clear k1 A1 P1 S1 c0 c1 c2 c3 c4 c5 p0 p1 p2 p3 p4 p5 p6
  have c0 := cell_of_row _ _ 0 _ _ _ S2.out
  have c1 := cell_of_row _ _ 1 _ _ _ S2.out
  have c2 := cell_of_row _ _ 2 _ _ _ S2.out
  have c3 := cell_of_row _ _ 3 _ _ _ S2.out
  have c4 := cell_of_row _ _ 4 _ _ _ S2.out
  have c5 := cell_of_row _ _ 5 _ _ _ S2.out
  go_wp2_with fail
  refine (NO.out _).mono ?_
  rintro e9 v3 ⟨rfl, k1⟩
  have A3 : Hid (Ab w v3) := A2.out.call k1
  have P3 := hid (Ab.heap k1 P2.out)
  have S3 := hid (Ab.heap k1 S2.out)
  clear k1 A2 P2 S2 c0 c1 c2 c3 c4 c5
  have c0 := cell_of_row _ _ 0 _ _ _ S3.out
  have c1 := cell_of_row _ _ 1 _ _ _ S3.out
  have c2 := cell_of_row _ _ 2 _ _ _ S3.out
  have c3 := cell_of_row _ _ 3 _ _ _ S3.out
  have c4 := cell_of_row _ _ 4 _ _ _ S3.out
  have c5 := cell_of_row _ _ 5 _ _ _ S3.out
  have p0 := cell_of_row _ _ 0 _ _ _ P3.out
  have p1 := cell_of_row _ _ 1 _ _ _ P3.out
  have p2 := cell_of_row _ _ 2 _ _ _ P3.out
  have p3 := cell_of_row _ _ 3 _ _ _ P3.out
  have p4 := cell_of_row _ _ 4 _ _ _ P3.out
  have p5 := cell_of_row _ _ 5 _ _ _ P3.out
  have p6 := cell_of_row _ _ 6 _ _ _ P3.out
  go_wp2_with fail
  refine (NV.out _).mono ?_
  rintro e9 v4 ⟨rfl, k1⟩
  have A4 : Hid (Ab w v4) := A3.out.call k1
  have P4 := hid (Ab.heap k1 P3.out)
  have S4 := hid (Ab.heap k1 S3.out)
  clear k1 A3 P3 S3 c0 c1 c2 c3 c4 c5 p0 p1 p2 p3 p4 p5 p6
  go_wp2_with fail
  refine (same16 0 _).mono ?_
  rintro e9 v5 ⟨rfl, hv⟩
  have hv2 := hv.symm
  subst hv2
  go_wp2_with fail
  refine (new_at n v4 HN.out (HF.out.to A4.out)).mono ?_
  rintro e9 v6 ⟨gb, rfl, k1, -, g1⟩
  have A6 : Hid (Ab w v6) := A4.out.trans k1
  have P6 := hid (Ab.heap k1 P4.out)
  have S6 := hid (Ab.heap k1 S4.out)
  have G6 := hid g1
  clear k1 g1 A4 P4 S4
  go_wp2_with fail
  refine (rnew_at n v6 HN.out).mono ?_
  rintro e9 v7 ⟨rb, ab, es, rfl, k1, re⟩
  have A7 : Hid (Ab w v7) := A6.out.trans k1
  have P7 := hid (Ab.heap k1 P6.out)
  have S7 := hid (Ab.heap k1 S6.out)
  have G7 := hid (G6.out.to k1)
  have Q7 := hid (RE.all HN.out.1 re)
  clear k1 re A6 P6 S6 G6
  have c0 := cell_of_row _ _ 0 _ _ _ S7.out
  have c1 := cell_of_row _ _ 1 _ _ _ S7.out
  have c2 := cell_of_row _ _ 2 _ _ _ S7.out
  have c3 := cell_of_row _ _ 3 _ _ _ S7.out
  have c4 := cell_of_row _ _ 4 _ _ _ S7.out
  have c5 := cell_of_row _ _ 5 _ _ _ S7.out
  have p0 := cell_of_row _ _ 0 _ _ _ P7.out
  have p1 := cell_of_row _ _ 1 _ _ _ P7.out
  have p2 := cell_of_row _ _ 2 _ _ _ P7.out
  have p3 := cell_of_row _ _ 3 _ _ _ P7.out
  have p4 := cell_of_row _ _ 4 _ _ _ P7.out
  have p5 := cell_of_row _ _ 5 _ _ _ P7.out
  have p6 := cell_of_row _ _ 6 _ _ _ P7.out
  go_wp2_with fail
  refine (GS.out gb _ A7.out G7.out).mono ?_
  rintro e9 v8 ⟨u1, rfl, k1, o1⟩
  obtain ⟨a0, ca, rfl, ia⟩ := o1.fl H0.out.2
  have A8 : Hid (Ab w v8) := A7.out.call k1
  have P8 := hid (Ab.heap k1 P7.out)
  have S8 := hid (Ab.heap k1 S7.out)
  have G8 := hid (G7.out.to k1)
  have Q8 := hid (Q7.out.to k1)
  have I8 := hid ia
  clear k1 o1 ia A7 P7 S7 G7 Q7 c0 c1 c2 c3 c4 c5 p0 p1 p2 p3 p4 p5 p6
  have c0 := cell_of_row _ _ 0 _ _ _ S8.out
  have c1 := cell_of_row _ _ 1 _ _ _ S8.out
  have c2 := cell_of_row _ _ 2 _ _ _ S8.out
  have c3 := cell_of_row _ _ 3 _ _ _ S8.out
  have c4 := cell_of_row _ _ 4 _ _ _ S8.out
  have c5 := cell_of_row _ _ 5 _ _ _ S8.out
  have p0 := cell_of_row _ _ 0 _ _ _ P8.out
  have p1 := cell_of_row _ _ 1 _ _ _ P8.out
  have p2 := cell_of_row _ _ 2 _ _ _ P8.out
  have p3 := cell_of_row _ _ 3 _ _ _ P8.out
  have p4 := cell_of_row _ _ 4 _ _ _ P8.out
  have p5 := cell_of_row _ _ 5 _ _ _ P8.out
  have p6 := cell_of_row _ _ 6 _ _ _ P8.out
  go_wp2_with fail
  refine (RS.out rb _ A8.out Q8.out).mono ?_
  rintro e9 v9 ⟨u2, rfl, k1, o1⟩
  obtain ⟨b0, cb2, rfl, ib⟩ := o1.fl H0.out.2
  have A9 : Hid (Ab w v9) := A8.out.call k1
  have P9 := hid (Ab.heap k1 P8.out)
  have S9 := hid (Ab.heap k1 S8.out)
  have G9 := hid (G8.out.to k1)
  have Q9 := hid (Q8.out.to k1)
  have I9 := hid (I8.out.below k1)
  have J9 := hid ib
  clear k1 o1 ib A8 P8 S8 G8 Q8 I8 c0 c1 c2 c3 c4 c5 p0 p1 p2 p3 p4 p5 p6
  go_wp2_with fail
  refine (all12_at a0 b0 l0.length ca cb2 _ v9 (by have := H0.out; omega) I9.out J9.out).mono ?_
  rintro e9 V ⟨rfl, k1⟩
  have AV : Hid (Ab w V) := A9.out.call k1
  have PV := hid (Ab.heap k1 P9.out)
  have SV := hid (Ab.heap k1 S9.out)
  have GV2 := hid (G9.out.to k1)
  have QV := hid (Q9.out.to k1)
  have JV := hid (J9.out.below k1)
  clear k1 A9 P9 S9 G9 Q9 I9 J9
  go_upto_region 14 with fail
  go_wp2
  go_loopw [16] (fun iv wr => ∃ k : Nat, k ≤ l0.length ∧ iv = .int .i64 (k : Nat) ∧ Ab V wr) (fun iv _ => l0.length - (intOf iv).toNat)
  case atStart => exact ⟨0, by omega, rfl, Ab.refl _⟩
  case round =>
    obtain ⟨k, hk, rfl, a1⟩ := hrel
    have AR := hid a1
    clear a1
    by_cases hkn : k < l0.length
    · have HK := hid hkn
      have kI : (k : Int) < l0.length := by omega
      have kB : (k : Int) ≤ 65536 := by have := H0.out; omega
      obtain ⟨bb, bo, rfl⟩ : ∃ b o, b0 = some ⟨b, o, none⟩ := by obtain ⟨_, b, o, h, _⟩ := JV.out k hkn; exact ⟨b, o, h⟩
      clear hk hkn
      go_upto_region 17 with fail
      obtain ⟨UU, E, hF1, hF2⟩ := cls wr
      have HU := hid hF2
      have HU1 := hid hF1
      have HA : Hid (∀ u, Ab V (E u)) := fun u => AR.out.trans (hF1 u)
      have HX : Hid (∀ u, Ab w (E u)) := fun u => AV.out.trans (HA.out u)
      have HG : Hid (∀ u, GridOf n gb (E u)) := fun u => GV2.out.to (HA.out u)
      have HQ : Hid (∀ u, RefOf n rb (E u)) := fun u => QV.out.to (HA.out u)
      have c0 : ∀ u, (E u).cell? ⟨gs, 0, none⟩ = some (.slice pb lb cb) := fun u => cell_of_row _ _ 0 _ _ _ ((HA.out u).heap SV.out)
      have c1 : ∀ u, (E u).cell? ⟨gs, 1, none⟩ = some (.slice pw lw cw) := fun u => cell_of_row _ _ 1 _ _ _ ((HA.out u).heap SV.out)
      have c2 : ∀ u, (E u).cell? ⟨gs, 2, none⟩ = some (.slice pt lt ct) := fun u => cell_of_row _ _ 2 _ _ _ ((HA.out u).heap SV.out)
      have c3 : ∀ u, (E u).cell? ⟨gs, 3, none⟩ = some (.slice ps ls cs) := fun u => cell_of_row _ _ 3 _ _ _ ((HA.out u).heap SV.out)
      have c4 : ∀ u, (E u).cell? ⟨gs, 4, none⟩ = some (.int .i64 sky) := fun u => cell_of_row _ _ 4 _ _ _ ((HA.out u).heap SV.out)
      have c5 : ∀ u, (E u).cell? ⟨gs, 5, none⟩ = some (.int .i64 st) := fun u => cell_of_row _ _ 5 _ _ _ ((HA.out u).heap SV.out)
      have p0 : ∀ u, (E u).cell? ⟨gp, 0, none⟩ = some (.int .i64 sd) := fun u => cell_of_row _ _ 0 _ _ _ ((HA.out u).heap PV.out)
      have p1 : ∀ u, (E u).cell? ⟨gp, 1, none⟩ = some (.float .f64 dt) := fun u => cell_of_row _ _ 1 _ _ _ ((HA.out u).heap PV.out)
      have p2 : ∀ u, (E u).cell? ⟨gp, 2, none⟩ = some (.float .f64 gr) := fun u => cell_of_row _ _ 2 _ _ _ ((HA.out u).heap PV.out)
      have p3 : ∀ u, (E u).cell? ⟨gp, 3, none⟩ = some (.float .f64 dr) := fun u => cell_of_row _ _ 3 _ _ _ ((HA.out u).heap PV.out)
      have p4 : ∀ u, (E u).cell? ⟨gp, 4, none⟩ = some (.int .i64 lim) := fun u => cell_of_row _ _ 4 _ _ _ ((HA.out u).heap PV.out)
      have p5 : ∀ u, (E u).cell? ⟨gp, 5, none⟩ = some (.bool rv) := fun u => cell_of_row _ _ 5 _ _ _ ((HA.out u).heap PV.out)
      have p6 : ∀ u, (E u).cell? ⟨gp, 6, none⟩ = some (.slice pr lr cr) := fun u => cell_of_row _ _ 6 _ _ _ ((HA.out u).heap PV.out)
      have xb : ∀ u, (E u).cell? ⟨bb, bo + k, none⟩ = some (.float .f64 (l0.getD k 0)) := fun u => ((JV.out.below (HA.out u)).at0 HK.out).2.2
      obtain ⟨xk, hxk⟩ : ∃ x, l0.getD k 0 = x := ⟨_, rfl⟩
      have HXK := hid hxk
      have CV : Hid (∀ v, Ab w v → GridOf n gb v → Calls Tryz.prog 8 #[.pointer (some ⟨gb, 0, none⟩), .agg #[.int .i64 sd, .float .f64 dt, .float .f64 gr, .float .f64 dr, .int .i64 lim, .bool rv, .slice pr lr cr], .agg #[.slice pb lb cb, .slice pw lw cw, .slice pt lt ct, .slice ps ls cs, .int .i64 sky, .int .i64 st], .int .i64 (k : Nat)] v fun x w' => x = .returned (.float .f64 xk) ∧ Below v.heap.size v w') := fun v hv gv => by rw [← hxk]; exact GV.out gb v hv gv k HK.out
      rw [hxk] at xb
      clear hxk
      obtain ⟨ok, hok⟩ : ∃ x, O k = x := ⟨_, rfl⟩
      have CO : Hid (∀ v, Ab w v → GridOf n gb v → Calls Tryz.prog 6 #[.pointer (some ⟨gb, 0, none⟩), .agg #[.slice pb lb cb, .slice pw lw cw, .slice pt lt ct, .slice ps ls cs, .int .i64 sky, .int .i64 st], .int .i64 (k : Nat)] v fun x w' => x = .returned (.bool ok) ∧ Below v.heap.size v w') := fun v hv gv => by rw [← hok]; exact GO.out gb v hv gv k HK.out
      have CR : Hid (∀ v, Ab w v → RefOf n rb v → Calls Tryz.prog 13 #[.pointer (some ⟨rb, 0, none⟩), .agg #[.slice pb lb cb, .slice pw lw cw, .slice pt lt ct, .slice ps ls cs, .int .i64 sky, .int .i64 st], .int .i64 (k : Nat)] v fun x w' => x = .returned (.bool ok) ∧ Below v.heap.size v w') := fun v hv gv => by rw [← hok]; exact RO.out rb v hv gv k HK.out
      clear hok
      have nb : (ok != ok) = false := by cases ok <;> rfl
      have DD0 := HU.out _ (Ab.refl wr).drew
      clear hF1 hF2
      refine region_cls E (by kernel_rfl) (by kernel_rfl) DD0 ?_
      repeat (go_big_quiet_step (first
        | (with_reducible rfl)
        | (go_at_call 6; exact calls_cls HU HU1 (CO.out _ (HX.out _) (HG.out _)))
        | (go_at_call 13; exact calls_cls HU HU1 (CR.out _ (HX.out _) (HQ.out _)))
        | (go_at_call 8; exact calls_cls HU HU1 (CV.out _ (HX.out _) (HG.out _)))
        | (go_at_call 7; exact calls_cls HU HU1 (same16y _ _))))
      refine wpQuiet_nil ?_
      intro z hwz
      obtain ⟨u0, hu⟩ := hwz
      have AZ : Hid (Ab V z) := by rw [hu]; exact HA.out u0
      clear hu u0
      clear HU HU1 HX HA HG HQ DD0 c0 c1 c2 c3 c4 c5 p0 p1 p2 p3 p4 p5 p6 xb
      clear E UU
      go_wp2
      exact ⟨⟨k + 1, by have := HK.out; omega, by simp, AZ.out⟩, by have := HK.out; simp [intOf]; omega⟩
    · have hkl : l0.length = k := by omega
      have HKL := hid hkl
      have kI : ¬ ((k : Int) < l0.length) := by omega
      clear hkl hkn hk
      go_upto_region 19 with fail
      obtain ⟨UU, E, hF1, hF2⟩ := cls wr
      have HU := hid hF2
      have HU1 := hid hF1
      have HA : Hid (∀ u, Ab V (E u)) := fun u => AR.out.trans (hF1 u)
      have HX : Hid (∀ u, Ab w (E u)) := fun u => AV.out.trans (HA.out u)
      have HG : Hid (∀ u, GridOf n gb (E u)) := fun u => GV2.out.to (HA.out u)
      have HQ : Hid (∀ u, RefOf n rb (E u)) := fun u => QV.out.to (HA.out u)
      have c0 : ∀ u, (E u).cell? ⟨gs, 0, none⟩ = some (.slice pb lb cb) := fun u => cell_of_row _ _ 0 _ _ _ ((HA.out u).heap SV.out)
      have c1 : ∀ u, (E u).cell? ⟨gs, 1, none⟩ = some (.slice pw lw cw) := fun u => cell_of_row _ _ 1 _ _ _ ((HA.out u).heap SV.out)
      have c2 : ∀ u, (E u).cell? ⟨gs, 2, none⟩ = some (.slice pt lt ct) := fun u => cell_of_row _ _ 2 _ _ _ ((HA.out u).heap SV.out)
      have c3 : ∀ u, (E u).cell? ⟨gs, 3, none⟩ = some (.slice ps ls cs) := fun u => cell_of_row _ _ 3 _ _ _ ((HA.out u).heap SV.out)
      have c4 : ∀ u, (E u).cell? ⟨gs, 4, none⟩ = some (.int .i64 sky) := fun u => cell_of_row _ _ 4 _ _ _ ((HA.out u).heap SV.out)
      have c5 : ∀ u, (E u).cell? ⟨gs, 5, none⟩ = some (.int .i64 st) := fun u => cell_of_row _ _ 5 _ _ _ ((HA.out u).heap SV.out)
      have p0 : ∀ u, (E u).cell? ⟨gp, 0, none⟩ = some (.int .i64 sd) := fun u => cell_of_row _ _ 0 _ _ _ ((HA.out u).heap PV.out)
      have p1 : ∀ u, (E u).cell? ⟨gp, 1, none⟩ = some (.float .f64 dt) := fun u => cell_of_row _ _ 1 _ _ _ ((HA.out u).heap PV.out)
      have p2 : ∀ u, (E u).cell? ⟨gp, 2, none⟩ = some (.float .f64 gr) := fun u => cell_of_row _ _ 2 _ _ _ ((HA.out u).heap PV.out)
      have p3 : ∀ u, (E u).cell? ⟨gp, 3, none⟩ = some (.float .f64 dr) := fun u => cell_of_row _ _ 3 _ _ _ ((HA.out u).heap PV.out)
      have p4 : ∀ u, (E u).cell? ⟨gp, 4, none⟩ = some (.int .i64 lim) := fun u => cell_of_row _ _ 4 _ _ _ ((HA.out u).heap PV.out)
      have p5 : ∀ u, (E u).cell? ⟨gp, 5, none⟩ = some (.bool rv) := fun u => cell_of_row _ _ 5 _ _ _ ((HA.out u).heap PV.out)
      have p6 : ∀ u, (E u).cell? ⟨gp, 6, none⟩ = some (.slice pr lr cr) := fun u => cell_of_row _ _ 6 _ _ _ ((HA.out u).heap PV.out)
      have nb : (oe == oe) = true := by cases oe <;> rfl
      have DD0 := HU.out _ (Ab.refl wr).drew
      clear hF1 hF2
      refine region_cls E (by kernel_rfl) (by kernel_rfl) DD0 ?_
      repeat (go_big_quiet_step (first
        | (with_reducible rfl)
        | (go_at_call 6; exact calls_cls HU HU1 (GOE.out gb _ (HX.out _) (HG.out _)))
        | (go_at_call 13; exact calls_cls HU HU1 (ROE.out rb _ (HX.out _) (HQ.out _)))
        | (go_at_call 8; exact calls_cls HU HU1 (GVE.out gb _ (HX.out _) (HG.out _)))
        | (go_at_call 14; exact calls_cls HU HU1 (RVE.out rb _ (HX.out _) (HQ.out _)))
        | (go_at_call 7; exact calls_cls HU HU1 (same16y _ _))))
      refine wpQuiet_nil ?_
      intro z hwz
      obtain ⟨u0, hu⟩ := hwz
      have AZ : Hid (Ab w z) := by rw [hu]; exact HX.out u0
      clear hu u0
      clear HU HU1 HX HA HG HQ DD0 c0 c1 c2 c3 c4 c5 p0 p1 p2 p3 p4 p5 p6
      clear E UU
      go_wp2
      go_ret
      exact ⟨rfl, AZ.out⟩
/-- OPEN, SPEED AND SPEEDS, AGAINST THE DOCUMENT'S ANSWERS -/
theorem fall16_at (OC : OpenC) (SC : SpeedsC) (VC : SpeedC) (FN : ForceN) (side : Int) (sd : Int) (dt gr dr : Nat) (lim : Int) (rv : Bool) (pr : Option Addr) (lr cr : Nat) (pb : Option Addr) (lb cb : Nat) (B : Nat → Nat) (pw : Option Addr) (lw cw : Nat) (Wt : Nat → Int) (pt : Option Addr) (lt ct : Nat) (ps : Option Addr) (ls cs : Nat) (Sp : Nat → Nat) (sky st : Int) (e : Int) (w : World) (hF : Fr w) (IB : IsFl w pb lb B) (IW : IsIn w pw lw Wt) (IS : IsFl w ps ls Sp) (hp : dt < 18446744073709551616 ∧ gr < 18446744073709551616 ∧ dr < 18446744073709551616) (he : -9223372036854775808 ≤ e ∧ e ≤ 9223372036854775807) :
    Calls Tryz.prog 3 #[.int .i64 side, .agg #[.int .i64 sd, .float .f64 dt, .float .f64 gr, .float .f64 dr, .int .i64 lim, .bool rv, .slice pr lr cr], .agg #[.slice pb lb cb, .slice pw lw cw, .slice pt lt ct, .slice ps ls cs, .int .i64 sky, .int .i64 st], .int .i64 e] w fun x w' => x = .returned (.bool true) ∧ Below w.heap.size w w' := by
  have F : ∀ v, _ := fun v => FN sd dt gr dr lim rv pr lr cr pb lb cb pw lw cw pt lt ct ps ls cs sky st e v
  by_cases hs : 1 ≤ side ∧ side ≤ 32
  · obtain ⟨n, rfl⟩ : ∃ n : Nat, side = n := ⟨side.toNat, by omega⟩
    have hn : 1 ≤ n ∧ n ≤ 32 := by omega
    have h12 := (n12 hn).1
    obtain ⟨oe, xe, hE⟩ : ∃ (oe : Bool) (xe : Nat), (has4 n lb lw lt ls e ∧ oe = opE n B Wt e.toNat ∧ xe = spE n gr dt dr B Wt Sp e.toNat) ∨ (¬ has4 n lb lw lt ls e ∧ oe = false ∧ xe = 0) := by
      by_cases q : has4 n lb lw lt ls e
      · exact ⟨_, _, .inl ⟨q, rfl, rfl⟩⟩
      · exact ⟨_, _, .inr ⟨q, rfl, rfl⟩⟩
    have GOE : ∀ gb v, Ab w v → GridOf n gb v → Calls Tryz.prog 6 #[.pointer (some ⟨gb, 0, none⟩), .agg #[.slice pb lb cb, .slice pw lw cw, .slice pt lt ct, .slice ps ls cs, .int .i64 sky, .int .i64 st], .int .i64 e] v fun x w' => x = .returned (.bool oe) ∧ Below v.heap.size v w' := fun gb v hv g => by
      have h := OC n gb pb lb cb B pw lw cw Wt pt lt ct ps ls cs sky st e v hn g (IB.below hv) (IW.below hv) ⟨_, IS.below hv⟩ he
      rcases hE with ⟨q, rfl, rfl⟩ | ⟨q, rfl, rfl⟩
      · exact h.1 q
      · exact h.2 q
    have ROE : ∀ rb v, Ab w v → RefOf n rb v → Calls Tryz.prog 13 #[.pointer (some ⟨rb, 0, none⟩), .agg #[.slice pb lb cb, .slice pw lw cw, .slice pt lt ct, .slice ps ls cs, .int .i64 sky, .int .i64 st], .int .i64 e] v fun x w' => x = .returned (.bool oe) ∧ Below v.heap.size v w' := fun rb v hv g => by
      have h := ropen16 cb cw pt lt ct ps ls cs sky st e hn g (IB.below hv) (IW.below hv)
      rcases hE with ⟨q, rfl, rfl⟩ | ⟨q, rfl, rfl⟩
      · exact h.1 q
      · exact h.2 q
    have GVE : ∀ gb v, Ab w v → GridOf n gb v → Calls Tryz.prog 8 #[.pointer (some ⟨gb, 0, none⟩), .agg #[.int .i64 sd, .float .f64 dt, .float .f64 gr, .float .f64 dr, .int .i64 lim, .bool rv, .slice pr lr cr], .agg #[.slice pb lb cb, .slice pw lw cw, .slice pt lt ct, .slice ps ls cs, .int .i64 sky, .int .i64 st], .int .i64 e] v fun x w' => x = .returned (.float .f64 xe) ∧ Below v.heap.size v w' := fun gb v hv g => by
      have h := VC n gb sd dt gr dr lim rv pr lr cr pb lb cb B pw lw cw Wt pt lt ct ps ls cs Sp sky st e v hn g (IB.below hv) (IW.below hv) (IS.below hv) hp he
      rcases hE with ⟨q, rfl, rfl⟩ | ⟨q, rfl, rfl⟩
      · exact h.1 q
      · exact h.2 q
    have RVE : ∀ rb v, Ab w v → RefOf n rb v → Calls Tryz.prog 14 #[.pointer (some ⟨rb, 0, none⟩), .agg #[.int .i64 sd, .float .f64 dt, .float .f64 gr, .float .f64 dr, .int .i64 lim, .bool rv, .slice pr lr cr], .agg #[.slice pb lb cb, .slice pw lw cw, .slice pt lt ct, .slice ps ls cs, .int .i64 sky, .int .i64 st], .int .i64 e] v fun x w' => x = .returned (.float .f64 xe) ∧ Below v.heap.size v w' := fun rb v hv g => by
      have h := rspeed16 sd dt gr dr lim rv pr lr cr cb cw pt lt ct cs sky st e hn g (IB.below hv) (IW.below hv) (IS.below hv) hp
      rcases hE with ⟨q, rfl, rfl⟩ | ⟨q, rfl, rfl⟩
      · exact h.1 q
      · exact h.2 q
    by_cases hf : fit4 n lb lw lt ls
    · have ll : ((List.range (12 * n * n)).map (spE n gr dt dr B Wt Sp)).length = 12 * n * n := by simp
      refine fall16_go n sd dt gr dr lim rv pr lr cr pb lb cb pw lw cw pt lt ct ps ls cs sky st e ((List.range (12 * n * n)).map (spE n gr dt dr B Wt Sp)) 0 (opE n B Wt) oe xe w hn hF (hid ⟨by rw [ll]; omega, fun x hx => ?_⟩) (fun v hv => lives16_at OC SC v (hF.to hv)) (fun v => (F v).2.2) (fun v => (F v).1) (fun v => (F v).2.1)
        (fun gb v hv g => (SC n gb sd dt gr dr lim rv pr lr cr pb lb cb B pw lw cw Wt pt lt ct ps ls cs Sp sky st v hn g (IB.below hv) (IW.below hv) (IS.below hv) hp).1 hf)
        (fun rb v hv g => (rspeeds16 sd dt gr dr lim rv pr lr cr cb cw pt lt ct cs sky st hn g (IB.below hv) (IW.below hv) (IS.below hv) hp).1 hf)
        (fun gb v hv g k hk => (OC n gb pb lb cb B pw lw cw Wt pt lt ct ps ls cs sky st (k : Int) v hn g (IB.below hv) (IW.below hv) ⟨_, IS.below hv⟩ (by rw [ll] at hk; omega)).1 ⟨hf, inR_true (by rw [ll] at hk; exact hk)⟩)
        (fun rb v hv g k hk => (ropen16 cb cw pt lt ct ps ls cs sky st (k : Int) hn g (IB.below hv) (IW.below hv)).1 ⟨hf, inR_true (by rw [ll] at hk; exact hk)⟩)
        (fun gb v hv g k hk => ?_) GOE ROE GVE RVE
      · obtain ⟨i, _, rfl⟩ := List.mem_map.1 hx
        exact (spE_in n gr dt dr B Wt Sp i).1
      · rw [ll] at hk
        have e1 : ((List.range (12 * n * n)).map (spE n gr dt dr B Wt Sp)).getD k 0 = spE n gr dt dr B Wt Sp k := by simp [List.getD, hk]
        rw [e1]
        exact (VC n gb sd dt gr dr lim rv pr lr cr pb lb cb B pw lw cw Wt pt lt ct ps ls cs Sp sky st (k : Int) v hn g (IB.below hv) (IW.below hv) (IS.below hv) hp (by omega)).1 ⟨hf, inR_true hk⟩
    · refine fall16_go n sd dt gr dr lim rv pr lr cr pb lb cb pw lw cw pt lt ct ps ls cs sky st e [] 1 (fun _ => false) oe xe w hn hF (hid ⟨by simp, fun x hx => by simp at hx⟩) (fun v hv => lives16_at OC SC v (hF.to hv)) (fun v => (F v).2.2) (fun v => (F v).1) (fun v => (F v).2.1)
        (fun gb v hv g => ((SC n gb sd dt gr dr lim rv pr lr cr pb lb cb B pw lw cw Wt pt lt ct ps ls cs Sp sky st v hn g (IB.below hv) (IW.below hv) (IS.below hv) hp).2 hf).mono ?_)
        (fun rb v hv g => ((rspeeds16 sd dt gr dr lim rv pr lr cr cb cw pt lt ct cs sky st hn g (IB.below hv) (IW.below hv) (IS.below hv) hp).2 hf).mono ?_)
        (fun gb v hv g k hk => absurd hk (by simp)) (fun rb v hv g k hk => absurd hk (by simp)) (fun gb v hv g k hk => absurd hk (by simp)) GOE ROE GVE RVE
      · rintro e w' ⟨rfl, b⟩
        exact ⟨_, rfl, b, by simp, .inl ⟨rfl, rfl⟩⟩
      · rintro e w' ⟨rfl, b⟩
        exact ⟨_, rfl, b, by simp, .inl ⟨rfl, rfl⟩⟩
  · exact fall16_no side sd dt gr dr lim rv pr lr cr pb lb cb pw lw cw pt lt ct ps ls cs sky st e w hs (fun v hv => lives16_at OC SC v (hF.to hv)) (fun v => (F v).2.2) (fun v => (F v).1) (fun v => (F v).2.1)
end Fc
end Go.Proofs.YtgalgnjgpmcngaaGreatDoor

namespace Go.Proofs.YtgalgnjgpmcngaaGreatDoor
open Go.RowKit
namespace Rl
/-- what the operations left, one more -/
def updV (x : Nat → Value) (i : Nat) (v : Value) : Nat → Value := fun j => if j = i then v else x j
/-- the frame behind them -/
def putAll : List Oper → Nat → (Nat → Value) → Act → Act
  | [], _, _, a => a
  | o :: r, i, x, a => putAll r (i + 1) x (a.put o.dst (x i))
/-- whether an operation waits for another -/
def depB (o : Oper) (j : Nat) : Bool := o.after.any fun e => e.on == j && Region.binds .any e
/-- each operation, from whatever its forerunners left -/
def relAll (P : Program) (l : List Oper) (a : Act) (R : Nat → Value → Prop) (C : World → Prop) (Q : Exit → Act → World → Prop) : Nat → List Oper → Prop
  | _, [] => True
  | i, o :: rest => (∀ (x : Nat → Value) (w : World), C w → (∀ j, depB o j = true → R j (x j)) → ∀ K : Act → World → Prop, Hid (∀ v w', R i v → C w' → K ((putAll l 0 x a).put o.dst v) w') → o.wp P (putAll l 0 x a) w K Q) ∧ relAll P l a R C Q (i + 1) rest
theorem rel_cons {P : Program} {l : List Oper} {a : Act} {R : Nat → Value → Prop} {C : World → Prop} {Q : Exit → Act → World → Prop} {i : Nat} {o : Oper} {rest : List Oper} (j : Nat) (Ri : Value → Prop) (hRi : R i = Ri) (hj : i + 1 = j)
    (h : ∀ (x : Nat → Value) (w : World), C w → (∀ k, depB o k = true → R k (x k)) → ∀ K : Act → World → Prop, Hid (∀ v w', Ri v → C w' → K ((putAll l 0 x a).put o.dst v) w') → o.wp P (putAll l 0 x a) w K Q)
    (t : relAll P l a R C Q j rest) : relAll P l a R C Q i (o :: rest) := by
  subst hRi
  subst hj
  exact ⟨h, t⟩
theorem rel_nil {P : Program} {l : List Oper} {a : Act} {R : Nat → Value → Prop} {C : World → Prop} {Q : Exit → Act → World → Prop} {i : Nat} : relAll P l a R C Q i [] := trivial
/-- no slot is written twice, nothing is guarded -/
def plainB : List Oper → Bool
  | [] => true
  | o :: r => o.guard.isNone && (match o.dst with | some d => r.all (fun p => p.dst != some d) | none => true) && plainB r
theorem put_put (a : Act) (d : Option Tmp) (u v : Value) : (a.put d u).put d v = a.put d v := by
  cases d with
  | none => rfl
  | some d => simp [Act.put]
theorem putAll_later : ∀ (l : List Oper) (i : Nat) (x : Nat → Value) (k : Nat) (v : Value) (a : Act), k < i → putAll l i (updV x k v) a = putAll l i x a
  | [], _, _, _, _, _, _ => rfl
  | o :: r, i, x, k, v, a, h => by
    show putAll r (i + 1) (updV x k v) (a.put o.dst (updV x k v i)) = putAll r (i + 1) x (a.put o.dst (x i))
    have e : updV x k v i = x i := by unfold updV; rw [if_neg (by omega)]
    rw [e, putAll_later r (i + 1) x k v _ (by omega)]
theorem putAll_put : ∀ (l : List Oper) (i : Nat) (x : Nat → Value) (a : Act) (d : Option Tmp) (v : Value), (∀ t, d = some t → l.all (fun p => p.dst != some t) = true) → putAll l i x (a.put d v) = (putAll l i x a).put d v
  | [], _, _, _, _, _, _ => rfl
  | o :: r, i, x, a, d, v, h => by
    show putAll r (i + 1) x ((a.put d v).put o.dst (x i)) = (putAll r (i + 1) x (a.put o.dst (x i))).put d v
    rw [Act.put_comm a v (x i) (fun t ht => by have := h t ht; simp at this; exact this.1)]
    exact putAll_put r (i + 1) x _ d v (fun t ht => by have := h t ht; simp at this ⊢; exact this.2)
theorem putAll_upd : ∀ (l : List Oper) (i : Nat) (x : Nat → Value) (a : Act) (k : Nat) (o : Oper) (v : Value), plainB l = true → l[k]? = some o → putAll l i (updV x (i + k) v) a = (putAll l i x a).put o.dst v
  | [], _, _, _, _, _, _, _, h => by simp at h
  | p :: r, i, x, a, 0, o, v, hp, h => by
    simp at h
    subst h
    show putAll r (i + 1) (updV x i v) (a.put p.dst (updV x i v i)) = (putAll r (i + 1) x (a.put p.dst (x i))).put p.dst v
    have e : updV x i v i = v := by unfold updV; rw [if_pos rfl]
    simp only [plainB, Bool.and_eq_true] at hp
    rw [e, putAll_later r (i + 1) x i v _ (by omega), ← putAll_put r (i + 1) x _ p.dst v (fun t ht => by have := hp.1.2; rw [ht] at this; exact this), put_put]
  | p :: r, i, x, a, k + 1, o, v, hp, h => by
    simp at h
    simp only [plainB, Bool.and_eq_true] at hp
    show putAll r (i + 1) (updV x (i + (k + 1)) v) (a.put p.dst (updV x (i + (k + 1)) v i)) = (putAll r (i + 1) x (a.put p.dst (x i))).put o.dst v
    have e : updV x (i + (k + 1)) v i = x i := by unfold updV; rw [if_neg (by omega)]
    rw [e, show i + (k + 1) = i + 1 + k by omega]
    exact putAll_upd r (i + 1) x _ k o v hp.2 h
theorem put_own (a : Act) (d : Option Tmp) : a.put d (match d with | some t => a.tmps.getD t undef | none => undef) = a := by
  cases d with
  | none => rfl
  | some t =>
    show { a with tmps := a.tmps.setIfInBounds t (a.tmps.getD t undef) } = a
    have : a.tmps.setIfInBounds t (a.tmps.getD t undef) = a.tmps := by
      by_cases h : t < a.tmps.size
      · refine Array.ext (by simp) fun i h1 h2 => ?_
        rw [Array.getElem_setIfInBounds (by simpa using h2)]
        split
        · rename_i e; subst e; simp
        · rfl
      · exact Array.setIfInBounds_eq_of_size_le (Nat.le_of_not_lt h)
    rw [this]
/-- nothing is done: the frame is as it was -/
theorem putAll_own : ∀ (l : List Oper) (i : Nat) (a : Act), ∃ x, putAll l i x a = a
  | [], _, _ => ⟨fun _ => undef, rfl⟩
  | o :: r, i, a => by
    obtain ⟨x, hx⟩ := putAll_own r (i + 1) a
    refine ⟨updV x i (match o.dst with | some t => a.tmps.getD t undef | none => undef), ?_⟩
    show putAll r (i + 1) _ (a.put o.dst (updV x i _ i)) = a
    have e : ∀ v, updV x i v i = v := fun v => by unfold updV; rw [if_pos rfl]
    rw [e, put_own, putAll_later r (i + 1) x i _ _ (by omega), hx]
theorem relAll_at {P : Program} {l : List Oper} {a : Act} {R : Nat → Value → Prop} {C : World → Prop} {Q : Exit → Act → World → Prop} : ∀ (r : List Oper) (i k : Nat) (o : Oper), relAll P l a R C Q i r → r[k]? = some o →
    ∀ (x : Nat → Value) (w : World), C w → (∀ j, depB o j = true → R j (x j)) → ∀ K : Act → World → Prop, (∀ v w', R (i + k) v → C w' → K ((putAll l 0 x a).put o.dst v) w') → o.wp P (putAll l 0 x a) w K Q
  | [], _, _, _, _, h => by simp at h
  | p :: r, i, 0, o, h, he => by
    simp at he
    subst he
    exact fun x w hC hR K hK => h.1 x w hC hR K hK
  | p :: r, i, k + 1, o, h, he => by
    simp at he
    have := relAll_at r (i + 1) k o h.2 he
    rw [show i + 1 + k = i + (k + 1) by omega] at this
    exact this
/-- what is known on the way -/
def Inv (l : List Oper) (a : Act) (R : Nat → Value → Prop) (C : World → Prop) (listed : Array Bool) (b : Act) (w : World) : Prop :=
  ∃ x, b = putAll l 0 x a ∧ C w ∧ ∀ i, listed.getD i false = true → R i (x i)
theorem wpAny_rel {P : Program} {l : List Oper} {a : Act} {R : Nat → Value → Prop} {C : World → Prop} {Q : Exit → Act → World → Prop} (hp : plainB l = true) (hb : backB .any l.toArray l.length = true)
    (H : relAll P l a R C Q 0 l) (fin : ∀ (x : Nat → Value) (w : World), C w → (∀ i, i < l.length → R i (x i)) → Q .normal (putAll l 0 x a) w) :
    ∀ (fuel : Nat) (listed : Array Bool) (b : Act) (w : World), listed.size = l.length → l.length ≤ fuel + (listed.toList.filter id).length → Inv l a R C listed b w → wpAny P .any l.toArray Q fuel listed b w := by
  have guard : ∀ {i : Nat} {o : Oper}, l[i]? = some o → o.guard = none := by
    intro i o h
    have aux : ∀ (r : List Oper) (i : Nat), plainB r = true → r[i]? = some o → o.guard = none := by
      intro r
      induction r with
      | nil => intro i _ h; simp at h
      | cons p r ih =>
        intro i hp h
        simp only [plainB, Bool.and_eq_true] at hp
        cases i with
        | zero => simp at h; subst h; simpa using hp.1.1
        | succ i => simp at h; exact ih i hp.2 h
    exact aux l i hp h
  have allr : ∀ {listed : Array Bool}, listed.size = l.length → Region.ready .any l.toArray listed = [] → ∀ i, i < l.length → listed.getD i false = true := by
    intro listed hs h0 i hi
    rcases some_ready (md := .any) (ops := l.toArray) (n := l.length) (by simp) hb (listed := listed) (by omega) with all | ⟨j, _, hj⟩
    · rw [getD_tf (d' := true) (by omega)]; exact all i hi
    · rw [h0] at hj; cases hj
  intro fuel
  induction fuel with
  | zero =>
    intro listed b w hs hc inv
    have full : ∀ i, i < l.length → listed.getD i true = true := by
      intro i hi
      have e : (listed.toList.filter id).length = listed.toList.length := by
        have := List.length_filter_le id listed.toList
        simp at hc this ⊢
        omega
      have e2 := List.length_filter_eq_length_iff.1 e
      have hm : listed.getD i true = listed[i]'(by omega) := by simp [show i < listed.size by omega]
      rw [hm]
      exact e2 _ (by simp)
    have h0 : Region.ready .any l.toArray listed = [] := by
      rw [List.eq_nil_iff_forall_not_mem]
      intro i hi
      obtain ⟨u, o, ho, _⟩ := mem_ready.1 hi
      have lt : i < l.length := by have := (Array.getElem?_eq_some_iff.1 ho).1; simpa using this
      rw [full i lt] at u
      cases u
    obtain ⟨x, rfl, hC, hR⟩ := inv
    exact ⟨h0, fin x w hC (fun i hi => hR i (by rw [getD_tf (d' := true) (by omega)]; exact full i hi))⟩
  | succ fuel ih =>
    intro listed b w hs hc inv
    obtain ⟨x, rfl, hC, hR⟩ := inv
    refine ⟨fun h0 => fin x w hC (fun i hi => hR i (allr hs h0 i hi)), fun i hi => ?_⟩
    obtain ⟨u, o, ho, hd⟩ := mem_ready.1 hi
    have lt : i < l.length := by have := (Array.getElem?_eq_some_iff.1 ho).1; simpa using this
    have ho' : l[i]? = some o := by simpa using ho
    have cnt : l.length ≤ fuel + ((listed.setIfInBounds i true).toList.filter id).length := by
      have hf : listed.toList[i]? = some false := by
        have : listed.getD i true = listed[i]'(by omega) := by simp [show i < listed.size by omega]
        rw [this] at u
        simp [show i < listed.size by omega, u]
      have aux : ∀ (t : List Bool) (i : Nat), t[i]? = some false → ((t.set i true).filter id).length = (t.filter id).length + 1 := by
        intro t
        induction t with
        | nil => intro i h; simp at h
        | cons b t ih =>
          intro i h
          cases i with
          | zero => simp at h; subst h; simp
          | succ i =>
            simp at h
            have := ih i h
            cases b <;> simp [this]
      have := aux listed.toList i hf
      simp only [Array.toList_setIfInBounds]
      rw [this]
      omega
    unfold wpOp
    rw [ho]
    have hg : o.guard = none := guard ho'
    have hw : Region.wanted o (yielded l.toArray (putAll l 0 x a).tmps) = true := by simp [Region.wanted, hg]
    simp only [hw, if_true]
    left
    have step := relAll_at l 0 i o H ho' x w hC (fun j hj => by
      unfold depB at hj
      rw [← Array.any_toList] at hj
      obtain ⟨e, he', h2⟩ := List.any_eq_true.1 hj
      have he : e ∈ o.after := Array.mem_toList_iff.1 he'
      simp at h2
      have := hd e he h2.2
      rw [h2.1] at this
      exact hR j this)
    rw [Nat.zero_add] at step
    refine step _ (fun v w' hv hC' => ih _ _ w' (by simpa using hs) cnt ⟨updV x i v, ?_, hC', fun j hj => ?_⟩)
    · have := putAll_upd l 0 x a i o v hp ho'
      rw [Nat.zero_add] at this
      exact this.symm
    · by_cases e : j = i
      · subst e; unfold updV; rw [if_pos rfl]; exact hv
      · have : listed.getD j false = true := by rw [getD_set_ne false (Ne.symm e)] at hj; exact hj
        unfold updV; rw [if_neg e]; exact hR j this
/-- a region that draws its order, by relations -/
theorem region_rel {P : Program} {id : Nat} {Q : Exit → Act → World → Prop} {a : Act} {w : World} {l : List Oper} (R : Nat → Value → Prop) (C : World → Prop) (hm : P.follows .mixedOrders = true) (hp : plainB l = true) (hb : backB .any l.toArray l.length = true) (hC : C w.drew)
    (H : relAll P l a R C Q 0 l) (fin : ∀ (x : Nat → Value) (w : World), C w → (∀ i, i < l.length → R i (x i)) → Q .normal (putAll l 0 x a) w) : (Code.region id l.toArray true).wp P Q a w := by
  refine wp_region_any hm ?_
  obtain ⟨x, hx⟩ := putAll_own l 0 a
  exact wpAny_rel hp hb H fin _ _ a w.drew (by simp) (by simp) ⟨x, hx.symm, hC, fun i hi => by rw [getD_replicate_false] at hi; cases hi⟩
end Rl
end Go.Proofs.YtgalgnjgpmcngaaGreatDoor
