/-
  What the statements of layer 8 share: walks over the program.
-/
import Derived.Test.YtdgkmaamjdglmaaDoorQe
namespace Go.Proofs.YtdgkmaamjdglmaaDoor
open Go.RowKit Tf Cu
attribute [local go_sem] run_bits run_from raw_feq raw_fne raw_flt raw_fgt run_neg run_store_float
set_option maxHeartbeats 4000000 in
theorem same8_at (x y z p q r : Nat) (w : World) :
    Calls Tryd.prog 11 #[.agg #[.float .f64 x, .float .f64 y, .float .f64 z], .agg #[.float .f64 p, .float .f64 q, .float .f64 r]] w fun e w' => e = .returned (.bool (sameB x p && sameB y q && sameB z r)) ∧ Below w.heap.size w w' := by
  have S1 := hid (fun w => rawSame_any x p w)
  have S2 := hid (fun w => rawSame_any y q w)
  have S3 := hid (fun w => rawSame_any z r w)
  generalize sameB x p = b1 at *
  generalize sameB y q = b2 at *
  generalize sameB z r = b3 at *
  have A0 := hid (bl2 w (.cells #[.float .f64 x, .float .f64 y, .float .f64 z] 29) (.cells #[.float .f64 p, .float .f64 q, .float .f64 r] 29))
  cases b1 <;> cases b2 <;> cases b3
  all_goals
    go_enter Tryd.func11, Tryd.ntmps11
    go_wp2_with (first
      | (go_at_call_of 15 x; refine (S1.out _).mono ?_; rintro e w' ⟨rfl, rfl⟩)
      | (go_at_call_of 15 y; refine (S2.out _).mono ?_; rintro e w' ⟨rfl, rfl⟩)
      | (go_at_call_of 15 z; refine (S3.out _).mono ?_; rintro e w' ⟨rfl, rfl⟩))
    go_ret
    exact ⟨rfl, A0.out⟩
theorem sameB_eq {a b : Nat} (h : a = b) : sameB a b = true := by subst h; unfold sameB; simp
theorem ag1 : px 2 (cr 2 0 1 1) = 4607182418800017408 := by decide +kernel
theorem ag2 : px 1 (MD 1 0) = 4607182418800017408 := by decide +kernel
theorem ag3 : arI (ArC 1 0) = 1431655765 := by decide +kernel
theorem ag4 : arI (ArC 4 5) = 205701258 := by decide +kernel
theorem ag5 : fgt (LnC 1 0 0) 4607857958744122982 = true := by decide +kernel
theorem ag6 : fgt (GpC 1 0 0) 4609028894647239311 = true := by decide +kernel
theorem ag7 : feq 4607182418800017408 4607182418800017408 = true := by decide +kernel
set_option maxHeartbeats 4000000 in
theorem awake8_at (w : World) (h : Fr w) : Calls Tryd.prog 7 #[] w fun e w' => e = .returned (.bool true) ∧ Below w.heap.size w w' := by
  have CO := hid (fun u => corner_ok 2 0 1 1 u (by omega) (by omega) (by omega) (by omega))
  have MI := hid (fun u => middle_ok 1 0 u (by omega) (by omega))
  have A1 := hid (fun u => area_ok 1 0 u (by omega) (by omega))
  have A2 := hid (fun u => area_ok 4 5 u (by omega) (by omega))
  have LE := hid (fun u => len_ok 1 0 0 u (by omega) (by omega) (by omega))
  have GA := hid (fun u (hu : Ab w u) => gap_ok 1 0 0 u (by omega) (by omega) (by omega) (h.to hu))
  rw [ag1] at CO
  rw [ag2] at MI
  rw [ag3] at A1
  rw [ag4] at A2
  have g5 := ag5
  have g6 := ag6
  have g7 := ag7
  generalize LnC 1 0 0 = L at *
  generalize GpC 1 0 0 = G at *
  generalize py 2 (cr 2 0 1 1) = y at *
  generalize pz 2 (cr 2 0 1 1) = z at *
  generalize py 1 (MD 1 0) = y1 at *
  generalize pz 1 (MD 1 0) = z1 at *
  clear h
  go_enter Tryd.func7, Tryd.ntmps7
  go_wp2_with fail
  refine (CO.out _).mono ?_
  rintro e v1 ⟨rfl, b1⟩
  have B1 : Hid (Ab w (v1.alloc (.cells #[.float .f64 4607182418800017408, .float .f64 y, .float .f64 z] 29))) := Ab.alloc b1 _
  go_wp2_with fail
  refine (MI.out _).mono ?_
  rintro e v2 ⟨rfl, b2⟩
  have B2 : Hid (Ab w v2) := B1.out.call b2
  have B3 : Hid (Ab w (v2.alloc (.cells #[.float .f64 4607182418800017408, .float .f64 y1, .float .f64 z1] 29))) := Ab.alloc B2.out _
  have r1 : v2.heap[v1.heap.size]? = some (.cells #[.float .f64 4607182418800017408, .float .f64 y, .float .f64 z] 29) := newrow' b2
  have r2 : (v2.alloc (.cells #[.float .f64 4607182418800017408, .float .f64 y1, .float .f64 z1] 29)).heap[v1.heap.size]? = some (.cells #[.float .f64 4607182418800017408, .float .f64 y, .float .f64 z] 29) := by
    rw [Below.heap_alloc _ _ _ (by have := b2.size; simp at this; omega)]; exact r1
  obtain ⟨-, q0, -, -⟩ := rowfacts r2
  clear r1 r2 b1 b2
  go_wp2_with fail
  refine (A1.out _).mono ?_
  rintro e v3 ⟨rfl, b3⟩
  have B4 : Hid (Ab w v3) := B3.out.call b3
  go_wp2_with fail
  refine (A2.out _).mono ?_
  rintro e v4 ⟨rfl, b4⟩
  have B5 : Hid (Ab w v4) := B4.out.call b4
  go_wp2_with fail
  refine (LE.out _).mono ?_
  rintro e v5 ⟨rfl, b5⟩
  have B6 : Hid (Ab w v5) := B5.out.call b5
  go_wp2_with fail
  refine (GA.out _ B6.out).mono ?_
  rintro e v6 ⟨rfl, b6⟩
  go_wp2
  go_ret
  exact ⟨rfl, B6.out.call b6⟩
set_option maxHeartbeats 4000000 in
theorem net8_at (a b : Int) : ∃ n c : Nat, (1 ≤ n ∧ n ≤ 32) ∧ c < 6 * n * n ∧ ∀ w, Calls Tryd.prog 8 #[.int .i64 a, .int .i64 b] w fun e w' => e = .returned (.tuple #[.int .i64 n, .int .i64 c]) ∧ ∃ k, w' = w.drewN k := by
  obtain ⟨y, hy⟩ : ∃ y, a % 18446744073709551616 = y := ⟨_, rfl⟩
  have y0 : 0 ≤ y ∧ y < 18446744073709551616 := by omega
  obtain ⟨z, hz⟩ : ∃ z, y % 32 = z := ⟨_, rfl⟩
  have z0 : 0 ≤ z ∧ z < 32 := by omega
  obtain ⟨n, hn⟩ : ∃ n : Nat, 1 + z = n := ⟨(1 + z).toNat, by omega⟩
  have n0 : 1 ≤ n ∧ n ≤ 32 := by omega
  obtain ⟨m, hm⟩ : ∃ m : Nat, 6 * n * n = m := ⟨_, rfl⟩
  have hmi : 6 * (n : Int) * n = m := by rw [← hm]; simp
  have m0 : 1 ≤ m ∧ m ≤ 6144 := by
    have h1 : 6 * n ≤ 192 := by omega
    have h2 : 6 * n * n ≤ 192 * 32 := Nat.mul_le_mul h1 n0.2
    have h3 : 6 * n * 1 ≤ 6 * n * n := Nat.mul_le_mul_left _ n0.1
    omega
  obtain ⟨y2, hy2⟩ : ∃ y, b % 18446744073709551616 = y := ⟨_, rfl⟩
  have y20 : 0 ≤ y2 ∧ y2 < 18446744073709551616 := by omega
  obtain ⟨c, hc⟩ : ∃ c : Nat, y2 % (m : Int) = c := ⟨(y2 % (m : Int)).toNat, by have := Int.emod_nonneg y2 (show (m : Int) ≠ 0 by omega); omega⟩
  have c0 : c < m := by have := Int.emod_lt_of_pos y2 (show (0 : Int) < m by omega); omega
  refine ⟨n, c, n0, by rw [hm]; exact c0, fun w => ?_⟩
  have e1 : IntKind.u64.wrap a = y := by rw [IntKind.wrap_u64, hy]
  have e2 : IntKind.u64.wrap b = y2 := by rw [IntKind.wrap_u64, hy2]
  have t1 : y.tmod 32 = z := by rw [Int.tmod_eq_emod_of_nonneg y0.1, hz]
  have t2 : y2.tmod m = c := by rw [Int.tmod_eq_emod_of_nonneg y20.1, hc]
  have m1 : ¬ (m : Int) = 0 := by omega
  have m2 : (m : Int) ≤ 6144 := by omega
  have m3 : 1 ≤ (m : Int) := by omega
  have c1 : (c : Int) < m := by omega
  have n1 : 1 ≤ (n : Int) := by omega
  have n2 : (n : Int) ≤ 32 := by omega
  have HN := hid hn
  have HM := hid hmi
  clear hy hz hm hy2 hc c0 n0 m0 hn hmi
  have e3 : 6 * (n : Int) ≤ 192 := by omega
  have hmi := HM.out
  have hn := HN.out
  go_enter Tryd.func8, Tryd.ntmps8
  go_wp2
  go_quiet (fail)
  go_wp2
  refine bodyPost_ret (v := .tuple #[.int .i64 n, .int .i64 c]) (by simp [results, Tryd.results8, go_sem]) rfl ⟨rfl, _, rfl⟩
end Go.Proofs.YtdgkmaamjdglmaaDoor
