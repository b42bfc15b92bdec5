/-
  Some of the texts of this proof, one behind the other.
-/
import Derived.Test.YtdgkmaamjdglmaaDoorZ11
import Derived.Test.YtdgkmaamjdglmaaDoorZ07
import Derived.Test.YtdgkmaamjdglmaaDoorTie
import Derived.Test.YtdgkmaamjdglmaaDoorCards
import Derived.ProofKit
import Derived.LaidMore
import Derived.OpenShut
import Derived.Stop.Joined
import Derived.Carry
import Derived.Lib.SmallJoins
import Derived.WalkLawsBesides
/-
  Both sides agree: the walk.
-/
namespace Go.Proofs.YtdgkmaamjdglmaaDoor
open Go.RowKit Tf Cu
attribute [local go_sem] run_bits run_from raw_feq raw_fne raw_flt raw_fgt run_neg run_store_float
theorem same_false {x y z p q r : Nat} (h : ¬ (x = p ∧ y = q ∧ z = r)) : (sameB x p && sameB y q && sameB z r) = false := by
  unfold sameB
  by_cases h1 : x = p
  · by_cases h2 : y = q
    · by_cases h3 : z = r
      · exact absurd ⟨h1, h2, h3⟩ h
      · simp [h3]
    · simp [h2]
  · simp [h1]
theorem same_true8 {x y z : Nat} : (sameB x x && sameB y y && sameB z z) = true := by rw [sameB_eq rfl, sameB_eq rfl, sameB_eq rfl]; rfl
set_option maxRecDepth 100000 in
set_option maxHeartbeats 16000000 in
theorem sides_A (a b o : Int) (n c s td bk : Nat) (y1 : Int) (p1 p2 p3 q1 q2 q3 m1 m2 m3 o1 o2 o3 L G : Nat) (w : World) (_y01 : 0 ≤ y1 ∧ y1 < 18446744073709551616) (ew1 : IntKind.u64.wrap o = y1) (et1 : y1.tmod 4 = s) (lsi : (s : Int) < 4) (lbi : (bk : Int) ≤ 3) 
    (AWK : Hid (Calls Tryd.prog 7 #[] w fun e w' => e = .returned (.bool true) ∧ Below w.heap.size w w'))
    (NE : Hid (∀ w, Calls Tryd.prog 8 #[.int .i64 a, .int .i64 b] w fun e w' => e = .returned (.tuple #[.int .i64 n, .int .i64 c]) ∧ ∃ k, w' = w.drewN k))
    (BE : Hid (∀ v, Ab w v → Calls Tryd.prog 9 #[.int .i64 n, .int .i64 c, .int .i64 s] v fun e w' => e = .returned (.tuple #[.int .i64 td, .int .i64 bk]) ∧ Below v.heap.size v w'))
    (E1 : Hid (∀ v, Calls Tryd.prog 10 #[.int .i64 n, .int .i64 c, .int .i64 s] v fun e w' => e = .returned (.tuple #[.agg #[.float .f64 p1, .float .f64 p2, .float .f64 p3], .agg #[.float .f64 q1, .float .f64 q2, .float .f64 q3]]) ∧ Below v.heap.size v w'))
    (E2 : Hid (∀ v, Calls Tryd.prog 10 #[.int .i64 n, .int .i64 td, .int .i64 bk] v fun e w' => e = .returned (.tuple #[.agg #[.float .f64 p1, .float .f64 p2, .float .f64 p3], .agg #[.float .f64 q1, .float .f64 q2, .float .f64 q3]]) ∧ Below v.heap.size v w'))
    (L1 : Hid (∀ v, Calls Tryd.prog 12 #[.int .i64 n, .int .i64 c, .int .i64 s] v fun e w' => e = .returned (.float .f64 L) ∧ Below v.heap.size v w'))
    (L2 : Hid (∀ v, Calls Tryd.prog 12 #[.int .i64 n, .int .i64 td, .int .i64 bk] v fun e w' => e = .returned (.float .f64 L) ∧ Below v.heap.size v w'))
    (M1 : Hid (∀ v, Calls Tryd.prog 13 #[.int .i64 n, .int .i64 c] v fun e w' => e = .returned (.tuple #[.agg #[.float .f64 m1, .float .f64 m2, .float .f64 m3], .bool true]) ∧ Below v.heap.size v w'))
    (M2 : Hid (∀ v, Calls Tryd.prog 13 #[.int .i64 n, .int .i64 td] v fun e w' => e = .returned (.tuple #[.agg #[.float .f64 o1, .float .f64 o2, .float .f64 o3], .bool true]) ∧ Below v.heap.size v w'))
    (G1 : Hid (∀ v, Ab w v → Calls Tryd.prog 14 #[.int .i64 n, .int .i64 c, .int .i64 s] v fun e w' => e = .returned (.float .f64 G) ∧ Below v.heap.size v w'))
    (G2 : Hid (∀ v, Ab w v → Calls Tryd.prog 14 #[.int .i64 n, .int .i64 td, .int .i64 bk] v fun e w' => e = .returned (.float .f64 G) ∧ Below v.heap.size v w'))
    (V1 : Hid (∀ v, Calls Tryd.prog 16 #[.agg #[.float .f64 p1, .float .f64 p2, .float .f64 p3], .agg #[.float .f64 q1, .float .f64 q2, .float .f64 q3]] v fun e w' => e = .returned (.float .f64 L) ∧ Below v.heap.size v w'))
    (V2 : Hid (∀ v, Calls Tryd.prog 16 #[.agg #[.float .f64 m1, .float .f64 m2, .float .f64 m3], .agg #[.float .f64 o1, .float .f64 o2, .float .f64 o3]] v fun e w' => e = .returned (.float .f64 G) ∧ Below v.heap.size v w')) :
    Calls Tryd.prog 3 #[.int .i64 a, .int .i64 b, .int .i64 o] w fun e w' => e = .returned (.bool true) ∧ Below w.heap.size w w' := by
  have SL := hid (fun v => rawSame_any L L v)
  have SG := hid (fun v => rawSame_any G G v)
  rw [sameB_eq rfl] at SL
  rw [sameB_eq rfl] at SG
  have SP : Hid (∀ v, Calls Tryd.prog 11 #[.agg #[.float .f64 p1, .float .f64 p2, .float .f64 p3], .agg #[.float .f64 p1, .float .f64 p2, .float .f64 p3]] v fun e w' => e = .returned (.bool true) ∧ Below v.heap.size v w') := fun v => by
    have h := same8_at p1 p2 p3 p1 p2 p3 v
    rw [same_true8] at h; exact h
  have SQ : Hid (∀ v, Calls Tryd.prog 11 #[.agg #[.float .f64 q1, .float .f64 q2, .float .f64 q3], .agg #[.float .f64 q1, .float .f64 q2, .float .f64 q3]] v fun e w' => e = .returned (.bool true) ∧ Below v.heap.size v w') := fun v => by
    have h := same8_at q1 q2 q3 q1 q2 q3 v
    rw [same_true8] at h; exact h
  go_enter Tryd.func3, Tryd.ntmps3
  go_wp2_with fail
  refine Calls.mono (AWK.out) ?_
  rintro e v1 ⟨rfl, b1⟩
  have AV1 : Hid (Ab w v1) := Ab.call (Ab.refl w) b1
  have AW1 : Hid (Ab w v1) := AV1.out
  clear b1 AV1
  go_wp2_with fail
  refine Calls.mono (NE.out _) ?_
  rintro e vv ⟨rfl, k2, rfl⟩
  have AW2 : Hid (Ab w (v1.drewN k2)) := Ab.drewN AW1.out _
  clear AW1
  go_wp2_with fail
  refine Calls.mono (BE.out _ AW2.out) ?_
  rintro e v3 ⟨rfl, b3⟩
  have AV3 : Hid (Ab w v3) := Ab.call AW2.out b3
  have AW3 : Hid (Ab w v3) := AV3.out
  clear b3 AV3 AW2
  go_wp2_with fail
  refine Calls.mono (E1.out _) ?_
  rintro e v4 ⟨rfl, b4⟩
  have AV4 : Hid (Ab w v4) := Ab.call AW3.out b4
  have RA4 : Hid (((v4.alloc (.cells #[.float .f64 p1, .float .f64 p2, .float .f64 p3] 29)).alloc (.cells #[.float .f64 q1, .float .f64 q2, .float .f64 q3] 29)).heap[v4.heap.size]? = some (.cells #[.float .f64 p1, .float .f64 p2, .float .f64 p3] 29)) := heap_alloc2_old _ _ _
  have RB4 : Hid (((v4.alloc (.cells #[.float .f64 p1, .float .f64 p2, .float .f64 p3] 29)).alloc (.cells #[.float .f64 q1, .float .f64 q2, .float .f64 q3] 29)).heap[v4.heap.size + 1]? = some (.cells #[.float .f64 q1, .float .f64 q2, .float .f64 q3] 29)) := heap_alloc2_new _ _ _
  have AW4 : Hid (Ab w ((v4.alloc (.cells #[.float .f64 p1, .float .f64 p2, .float .f64 p3] 29)).alloc (.cells #[.float .f64 q1, .float .f64 q2, .float .f64 q3] 29))) := AV4.out.call (bl2 v4 (.cells #[.float .f64 p1, .float .f64 p2, .float .f64 p3] 29) (.cells #[.float .f64 q1, .float .f64 q2, .float .f64 q3] 29))
  clear b4 AV4 AW3
  go_wp2_with fail
  refine Calls.mono (E2.out _) ?_
  rintro e v5 ⟨rfl, b5⟩
  have AV5 : Hid (Ab w v5) := Ab.call AW4.out b5
  have RA5 : Hid (((v5.alloc (.cells #[.float .f64 p1, .float .f64 p2, .float .f64 p3] 29)).alloc (.cells #[.float .f64 q1, .float .f64 q2, .float .f64 q3] 29)).heap[v4.heap.size]? = some (.cells #[.float .f64 p1, .float .f64 p2, .float .f64 p3] 29)) := Ab.heap (bl2 v5 (.cells #[.float .f64 p1, .float .f64 p2, .float .f64 p3] 29) (.cells #[.float .f64 q1, .float .f64 q2, .float .f64 q3] 29)) (Ab.heap b5 RA4.out)
  have RB5 : Hid (((v5.alloc (.cells #[.float .f64 p1, .float .f64 p2, .float .f64 p3] 29)).alloc (.cells #[.float .f64 q1, .float .f64 q2, .float .f64 q3] 29)).heap[v4.heap.size + 1]? = some (.cells #[.float .f64 q1, .float .f64 q2, .float .f64 q3] 29)) := Ab.heap (bl2 v5 (.cells #[.float .f64 p1, .float .f64 p2, .float .f64 p3] 29) (.cells #[.float .f64 q1, .float .f64 q2, .float .f64 q3] 29)) (Ab.heap b5 RB4.out)
  have RX5 : Hid (((v5.alloc (.cells #[.float .f64 p1, .float .f64 p2, .float .f64 p3] 29)).alloc (.cells #[.float .f64 q1, .float .f64 q2, .float .f64 q3] 29)).heap[v5.heap.size]? = some (.cells #[.float .f64 p1, .float .f64 p2, .float .f64 p3] 29)) := heap_alloc2_old _ _ _
  have RY5 : Hid (((v5.alloc (.cells #[.float .f64 p1, .float .f64 p2, .float .f64 p3] 29)).alloc (.cells #[.float .f64 q1, .float .f64 q2, .float .f64 q3] 29)).heap[v5.heap.size + 1]? = some (.cells #[.float .f64 q1, .float .f64 q2, .float .f64 q3] 29)) := heap_alloc2_new _ _ _
  have AW5 : Hid (Ab w ((v5.alloc (.cells #[.float .f64 p1, .float .f64 p2, .float .f64 p3] 29)).alloc (.cells #[.float .f64 q1, .float .f64 q2, .float .f64 q3] 29))) := AV5.out.call (bl2 v5 (.cells #[.float .f64 p1, .float .f64 p2, .float .f64 p3] 29) (.cells #[.float .f64 q1, .float .f64 q2, .float .f64 q3] 29))
  clear b5 AV5 RA4 RB4 AW4
  obtain ⟨-, xA0, xA1, xA2⟩ := rowfacts RA5.out
  obtain ⟨-, xX0, xX1, xX2⟩ := rowfacts RX5.out
  go_wp2_with fail
  refine Calls.mono (SP.out _) ?_
  rintro e v6 ⟨rfl, b6⟩
  clear xA0 xA1 xA2 xX0 xX1 xX2
  have AV6 : Hid (Ab w v6) := Ab.call AW5.out b6
  have RA6 : Hid (v6.heap[v4.heap.size]? = some (.cells #[.float .f64 p1, .float .f64 p2, .float .f64 p3] 29)) := Ab.heap b6 RA5.out
  have RB6 : Hid (v6.heap[v4.heap.size + 1]? = some (.cells #[.float .f64 q1, .float .f64 q2, .float .f64 q3] 29)) := Ab.heap b6 RB5.out
  have RX6 : Hid (v6.heap[v5.heap.size]? = some (.cells #[.float .f64 p1, .float .f64 p2, .float .f64 p3] 29)) := Ab.heap b6 RX5.out
  have RY6 : Hid (v6.heap[v5.heap.size + 1]? = some (.cells #[.float .f64 q1, .float .f64 q2, .float .f64 q3] 29)) := Ab.heap b6 RY5.out
  have AW6 : Hid (Ab w v6) := AV6.out
  clear b6 AV6 RA5 RB5 RX5 RY5 AW5
  obtain ⟨-, xB0, xB1, xB2⟩ := rowfacts RB6.out
  obtain ⟨-, xY0, xY1, xY2⟩ := rowfacts RY6.out
  go_wp2_with fail
  refine Calls.mono (SQ.out _) ?_
  rintro e v7 ⟨rfl, b7⟩
  clear xB0 xB1 xB2 xY0 xY1 xY2
  have AV7 : Hid (Ab w v7) := Ab.call AW6.out b7
  have RA7 : Hid (v7.heap[v4.heap.size]? = some (.cells #[.float .f64 p1, .float .f64 p2, .float .f64 p3] 29)) := Ab.heap b7 RA6.out
  have RB7 : Hid (v7.heap[v4.heap.size + 1]? = some (.cells #[.float .f64 q1, .float .f64 q2, .float .f64 q3] 29)) := Ab.heap b7 RB6.out
  have RX7 : Hid (v7.heap[v5.heap.size]? = some (.cells #[.float .f64 p1, .float .f64 p2, .float .f64 p3] 29)) := Ab.heap b7 RX6.out
  have RY7 : Hid (v7.heap[v5.heap.size + 1]? = some (.cells #[.float .f64 q1, .float .f64 q2, .float .f64 q3] 29)) := Ab.heap b7 RY6.out
  have AW7 : Hid (Ab w v7) := AV7.out
  clear b7 AV7 RA6 RB6 RX6 RY6 AW6
  go_wp2_with fail
  refine Calls.mono (L1.out _) ?_
  rintro e v8 ⟨rfl, b8⟩
  have AV8 : Hid (Ab w v8) := Ab.call AW7.out b8
  have RA8 : Hid (v8.heap[v4.heap.size]? = some (.cells #[.float .f64 p1, .float .f64 p2, .float .f64 p3] 29)) := Ab.heap b8 RA7.out
  have RB8 : Hid (v8.heap[v4.heap.size + 1]? = some (.cells #[.float .f64 q1, .float .f64 q2, .float .f64 q3] 29)) := Ab.heap b8 RB7.out
  have RX8 : Hid (v8.heap[v5.heap.size]? = some (.cells #[.float .f64 p1, .float .f64 p2, .float .f64 p3] 29)) := Ab.heap b8 RX7.out
  have RY8 : Hid (v8.heap[v5.heap.size + 1]? = some (.cells #[.float .f64 q1, .float .f64 q2, .float .f64 q3] 29)) := Ab.heap b8 RY7.out
  have AW8 : Hid (Ab w v8) := AV8.out
  clear b8 AV8 RA7 RB7 RX7 RY7 AW7
  go_wp2_with fail
  refine Calls.mono (M1.out _) ?_
  rintro e v9 ⟨rfl, b9⟩
  have AV9 : Hid (Ab w v9) := Ab.call AW8.out b9
  have RA9 : Hid ((v9.alloc (.cells #[.float .f64 m1, .float .f64 m2, .float .f64 m3] 29)).heap[v4.heap.size]? = some (.cells #[.float .f64 p1, .float .f64 p2, .float .f64 p3] 29)) := Ab.heap (bl1 v9 (.cells #[.float .f64 m1, .float .f64 m2, .float .f64 m3] 29)) (Ab.heap b9 RA8.out)
  have RB9 : Hid ((v9.alloc (.cells #[.float .f64 m1, .float .f64 m2, .float .f64 m3] 29)).heap[v4.heap.size + 1]? = some (.cells #[.float .f64 q1, .float .f64 q2, .float .f64 q3] 29)) := Ab.heap (bl1 v9 (.cells #[.float .f64 m1, .float .f64 m2, .float .f64 m3] 29)) (Ab.heap b9 RB8.out)
  have RX9 : Hid ((v9.alloc (.cells #[.float .f64 m1, .float .f64 m2, .float .f64 m3] 29)).heap[v5.heap.size]? = some (.cells #[.float .f64 p1, .float .f64 p2, .float .f64 p3] 29)) := Ab.heap (bl1 v9 (.cells #[.float .f64 m1, .float .f64 m2, .float .f64 m3] 29)) (Ab.heap b9 RX8.out)
  have RY9 : Hid ((v9.alloc (.cells #[.float .f64 m1, .float .f64 m2, .float .f64 m3] 29)).heap[v5.heap.size + 1]? = some (.cells #[.float .f64 q1, .float .f64 q2, .float .f64 q3] 29)) := Ab.heap (bl1 v9 (.cells #[.float .f64 m1, .float .f64 m2, .float .f64 m3] 29)) (Ab.heap b9 RY8.out)
  have RP9 : Hid ((v9.alloc (.cells #[.float .f64 m1, .float .f64 m2, .float .f64 m3] 29)).heap[v9.heap.size]? = some (.cells #[.float .f64 m1, .float .f64 m2, .float .f64 m3] 29)) := heap_alloc_new _ _
  have AW9 : Hid (Ab w (v9.alloc (.cells #[.float .f64 m1, .float .f64 m2, .float .f64 m3] 29))) := AV9.out.call (bl1 v9 (.cells #[.float .f64 m1, .float .f64 m2, .float .f64 m3] 29))
  clear b9 AV9 RA8 RB8 RX8 RY8 AW8
  go_wp2_with fail
  refine Calls.mono (M2.out _) ?_
  rintro e v10 ⟨rfl, b10⟩
  have AV10 : Hid (Ab w v10) := Ab.call AW9.out b10
  have RA10 : Hid ((v10.alloc (.cells #[.float .f64 o1, .float .f64 o2, .float .f64 o3] 29)).heap[v4.heap.size]? = some (.cells #[.float .f64 p1, .float .f64 p2, .float .f64 p3] 29)) := Ab.heap (bl1 v10 (.cells #[.float .f64 o1, .float .f64 o2, .float .f64 o3] 29)) (Ab.heap b10 RA9.out)
  have RB10 : Hid ((v10.alloc (.cells #[.float .f64 o1, .float .f64 o2, .float .f64 o3] 29)).heap[v4.heap.size + 1]? = some (.cells #[.float .f64 q1, .float .f64 q2, .float .f64 q3] 29)) := Ab.heap (bl1 v10 (.cells #[.float .f64 o1, .float .f64 o2, .float .f64 o3] 29)) (Ab.heap b10 RB9.out)
  have RX10 : Hid ((v10.alloc (.cells #[.float .f64 o1, .float .f64 o2, .float .f64 o3] 29)).heap[v5.heap.size]? = some (.cells #[.float .f64 p1, .float .f64 p2, .float .f64 p3] 29)) := Ab.heap (bl1 v10 (.cells #[.float .f64 o1, .float .f64 o2, .float .f64 o3] 29)) (Ab.heap b10 RX9.out)
  have RY10 : Hid ((v10.alloc (.cells #[.float .f64 o1, .float .f64 o2, .float .f64 o3] 29)).heap[v5.heap.size + 1]? = some (.cells #[.float .f64 q1, .float .f64 q2, .float .f64 q3] 29)) := Ab.heap (bl1 v10 (.cells #[.float .f64 o1, .float .f64 o2, .float .f64 o3] 29)) (Ab.heap b10 RY9.out)
  have RP10 : Hid ((v10.alloc (.cells #[.float .f64 o1, .float .f64 o2, .float .f64 o3] 29)).heap[v9.heap.size]? = some (.cells #[.float .f64 m1, .float .f64 m2, .float .f64 m3] 29)) := Ab.heap (bl1 v10 (.cells #[.float .f64 o1, .float .f64 o2, .float .f64 o3] 29)) (Ab.heap b10 RP9.out)
  have RQ10 : Hid ((v10.alloc (.cells #[.float .f64 o1, .float .f64 o2, .float .f64 o3] 29)).heap[v10.heap.size]? = some (.cells #[.float .f64 o1, .float .f64 o2, .float .f64 o3] 29)) := heap_alloc_new _ _
  have AW10 : Hid (Ab w (v10.alloc (.cells #[.float .f64 o1, .float .f64 o2, .float .f64 o3] 29))) := AV10.out.call (bl1 v10 (.cells #[.float .f64 o1, .float .f64 o2, .float .f64 o3] 29))
  clear b10 AV10 RA9 RB9 RX9 RY9 RP9 AW9
  go_wp2_with fail
  refine Calls.mono (G1.out _ AW10.out) ?_
  rintro e v11 ⟨rfl, b11⟩
  have AV11 : Hid (Ab w v11) := Ab.call AW10.out b11
  have RA11 : Hid (v11.heap[v4.heap.size]? = some (.cells #[.float .f64 p1, .float .f64 p2, .float .f64 p3] 29)) := Ab.heap b11 RA10.out
  have RB11 : Hid (v11.heap[v4.heap.size + 1]? = some (.cells #[.float .f64 q1, .float .f64 q2, .float .f64 q3] 29)) := Ab.heap b11 RB10.out
  have RX11 : Hid (v11.heap[v5.heap.size]? = some (.cells #[.float .f64 p1, .float .f64 p2, .float .f64 p3] 29)) := Ab.heap b11 RX10.out
  have RY11 : Hid (v11.heap[v5.heap.size + 1]? = some (.cells #[.float .f64 q1, .float .f64 q2, .float .f64 q3] 29)) := Ab.heap b11 RY10.out
  have RP11 : Hid (v11.heap[v9.heap.size]? = some (.cells #[.float .f64 m1, .float .f64 m2, .float .f64 m3] 29)) := Ab.heap b11 RP10.out
  have RQ11 : Hid (v11.heap[v10.heap.size]? = some (.cells #[.float .f64 o1, .float .f64 o2, .float .f64 o3] 29)) := Ab.heap b11 RQ10.out
  have AW11 : Hid (Ab w v11) := AV11.out
  clear b11 AV11 RA10 RB10 RX10 RY10 RP10 RQ10 AW10
  go_wp2_with fail
  refine Calls.mono (L2.out _) ?_
  rintro e v12 ⟨rfl, b12⟩
  have AV12 : Hid (Ab w v12) := Ab.call AW11.out b12
  have RA12 : Hid (v12.heap[v4.heap.size]? = some (.cells #[.float .f64 p1, .float .f64 p2, .float .f64 p3] 29)) := Ab.heap b12 RA11.out
  have RB12 : Hid (v12.heap[v4.heap.size + 1]? = some (.cells #[.float .f64 q1, .float .f64 q2, .float .f64 q3] 29)) := Ab.heap b12 RB11.out
  have RX12 : Hid (v12.heap[v5.heap.size]? = some (.cells #[.float .f64 p1, .float .f64 p2, .float .f64 p3] 29)) := Ab.heap b12 RX11.out
  have RY12 : Hid (v12.heap[v5.heap.size + 1]? = some (.cells #[.float .f64 q1, .float .f64 q2, .float .f64 q3] 29)) := Ab.heap b12 RY11.out
  have RP12 : Hid (v12.heap[v9.heap.size]? = some (.cells #[.float .f64 m1, .float .f64 m2, .float .f64 m3] 29)) := Ab.heap b12 RP11.out
  have RQ12 : Hid (v12.heap[v10.heap.size]? = some (.cells #[.float .f64 o1, .float .f64 o2, .float .f64 o3] 29)) := Ab.heap b12 RQ11.out
  have AW12 : Hid (Ab w v12) := AV12.out
  clear b12 AV12 RA11 RB11 RX11 RY11 RP11 RQ11 AW11
  go_wp2_with fail
  refine Calls.mono (SL.out _) ?_
  rintro e vv ⟨rfl, rfl⟩
  go_wp2_with fail
  refine Calls.mono (G2.out _ AW12.out) ?_
  rintro e v13 ⟨rfl, b13⟩
  have AV13 : Hid (Ab w v13) := Ab.call AW12.out b13
  have RA13 : Hid (v13.heap[v4.heap.size]? = some (.cells #[.float .f64 p1, .float .f64 p2, .float .f64 p3] 29)) := Ab.heap b13 RA12.out
  have RB13 : Hid (v13.heap[v4.heap.size + 1]? = some (.cells #[.float .f64 q1, .float .f64 q2, .float .f64 q3] 29)) := Ab.heap b13 RB12.out
  have RX13 : Hid (v13.heap[v5.heap.size]? = some (.cells #[.float .f64 p1, .float .f64 p2, .float .f64 p3] 29)) := Ab.heap b13 RX12.out
  have RY13 : Hid (v13.heap[v5.heap.size + 1]? = some (.cells #[.float .f64 q1, .float .f64 q2, .float .f64 q3] 29)) := Ab.heap b13 RY12.out
  have RP13 : Hid (v13.heap[v9.heap.size]? = some (.cells #[.float .f64 m1, .float .f64 m2, .float .f64 m3] 29)) := Ab.heap b13 RP12.out
  have RQ13 : Hid (v13.heap[v10.heap.size]? = some (.cells #[.float .f64 o1, .float .f64 o2, .float .f64 o3] 29)) := Ab.heap b13 RQ12.out
  have AW13 : Hid (Ab w v13) := AV13.out
  clear b13 AV13 RA12 RB12 RX12 RY12 RP12 RQ12 AW12
  go_wp2_with fail
  refine Calls.mono (SG.out _) ?_
  rintro e vv ⟨rfl, rfl⟩
  obtain ⟨-, xA0, xA1, xA2⟩ := rowfacts RA13.out
  obtain ⟨-, xB0, xB1, xB2⟩ := rowfacts RB13.out
  go_wp2_with fail
  refine Calls.mono (V1.out _) ?_
  rintro e v14 ⟨rfl, b14⟩
  clear xA0 xA1 xA2 xB0 xB1 xB2
  have AV14 : Hid (Ab w v14) := Ab.call AW13.out b14
  have RA14 : Hid (v14.heap[v4.heap.size]? = some (.cells #[.float .f64 p1, .float .f64 p2, .float .f64 p3] 29)) := Ab.heap b14 RA13.out
  have RB14 : Hid (v14.heap[v4.heap.size + 1]? = some (.cells #[.float .f64 q1, .float .f64 q2, .float .f64 q3] 29)) := Ab.heap b14 RB13.out
  have RX14 : Hid (v14.heap[v5.heap.size]? = some (.cells #[.float .f64 p1, .float .f64 p2, .float .f64 p3] 29)) := Ab.heap b14 RX13.out
  have RY14 : Hid (v14.heap[v5.heap.size + 1]? = some (.cells #[.float .f64 q1, .float .f64 q2, .float .f64 q3] 29)) := Ab.heap b14 RY13.out
  have RP14 : Hid (v14.heap[v9.heap.size]? = some (.cells #[.float .f64 m1, .float .f64 m2, .float .f64 m3] 29)) := Ab.heap b14 RP13.out
  have RQ14 : Hid (v14.heap[v10.heap.size]? = some (.cells #[.float .f64 o1, .float .f64 o2, .float .f64 o3] 29)) := Ab.heap b14 RQ13.out
  have AW14 : Hid (Ab w v14) := AV14.out
  clear b14 AV14 RA13 RB13 RX13 RY13 RP13 RQ13 AW13
  go_wp2_with fail
  refine Calls.mono (SL.out _) ?_
  rintro e vv ⟨rfl, rfl⟩
  obtain ⟨-, xP0, xP1, xP2⟩ := rowfacts RP14.out
  obtain ⟨-, xQ0, xQ1, xQ2⟩ := rowfacts RQ14.out
  go_wp2_with fail
  refine Calls.mono (V2.out _) ?_
  rintro e v15 ⟨rfl, b15⟩
  clear xP0 xP1 xP2 xQ0 xQ1 xQ2
  have AV15 : Hid (Ab w v15) := Ab.call AW14.out b15
  have RA15 : Hid (v15.heap[v4.heap.size]? = some (.cells #[.float .f64 p1, .float .f64 p2, .float .f64 p3] 29)) := Ab.heap b15 RA14.out
  have RB15 : Hid (v15.heap[v4.heap.size + 1]? = some (.cells #[.float .f64 q1, .float .f64 q2, .float .f64 q3] 29)) := Ab.heap b15 RB14.out
  have RX15 : Hid (v15.heap[v5.heap.size]? = some (.cells #[.float .f64 p1, .float .f64 p2, .float .f64 p3] 29)) := Ab.heap b15 RX14.out
  have RY15 : Hid (v15.heap[v5.heap.size + 1]? = some (.cells #[.float .f64 q1, .float .f64 q2, .float .f64 q3] 29)) := Ab.heap b15 RY14.out
  have RP15 : Hid (v15.heap[v9.heap.size]? = some (.cells #[.float .f64 m1, .float .f64 m2, .float .f64 m3] 29)) := Ab.heap b15 RP14.out
  have RQ15 : Hid (v15.heap[v10.heap.size]? = some (.cells #[.float .f64 o1, .float .f64 o2, .float .f64 o3] 29)) := Ab.heap b15 RQ14.out
  have AW15 : Hid (Ab w v15) := AV15.out
  clear b15 AV15 RA14 RB14 RX14 RY14 RP14 RQ14 AW14
  go_wp2_with fail
  refine Calls.mono (SG.out _) ?_
  rintro e vv ⟨rfl, rfl⟩
  go_wp2
  go_ret
  exact ⟨rfl, AW15.out⟩
set_option maxRecDepth 100000 in
set_option maxHeartbeats 16000000 in
theorem sides_B (a b o : Int) (n c s td bk : Nat) (y1 : Int) (p1 p2 p3 q1 q2 q3 m1 m2 m3 o1 o2 o3 L G : Nat) (w : World) (_y01 : 0 ≤ y1 ∧ y1 < 18446744073709551616) (ew1 : IntKind.u64.wrap o = y1) (et1 : y1.tmod 4 = s) (lsi : (s : Int) < 4) (lbi : (bk : Int) ≤ 3) (hne : (sameB p1 q1 && sameB p2 q2 && sameB p3 q3) = false) 
    (AWK : Hid (Calls Tryd.prog 7 #[] w fun e w' => e = .returned (.bool true) ∧ Below w.heap.size w w'))
    (NE : Hid (∀ w, Calls Tryd.prog 8 #[.int .i64 a, .int .i64 b] w fun e w' => e = .returned (.tuple #[.int .i64 n, .int .i64 c]) ∧ ∃ k, w' = w.drewN k))
    (BE : Hid (∀ v, Ab w v → Calls Tryd.prog 9 #[.int .i64 n, .int .i64 c, .int .i64 s] v fun e w' => e = .returned (.tuple #[.int .i64 td, .int .i64 bk]) ∧ Below v.heap.size v w'))
    (E1 : Hid (∀ v, Calls Tryd.prog 10 #[.int .i64 n, .int .i64 c, .int .i64 s] v fun e w' => e = .returned (.tuple #[.agg #[.float .f64 p1, .float .f64 p2, .float .f64 p3], .agg #[.float .f64 q1, .float .f64 q2, .float .f64 q3]]) ∧ Below v.heap.size v w'))
    (E2 : Hid (∀ v, Calls Tryd.prog 10 #[.int .i64 n, .int .i64 td, .int .i64 bk] v fun e w' => e = .returned (.tuple #[.agg #[.float .f64 q1, .float .f64 q2, .float .f64 q3], .agg #[.float .f64 p1, .float .f64 p2, .float .f64 p3]]) ∧ Below v.heap.size v w'))
    (L1 : Hid (∀ v, Calls Tryd.prog 12 #[.int .i64 n, .int .i64 c, .int .i64 s] v fun e w' => e = .returned (.float .f64 L) ∧ Below v.heap.size v w'))
    (L2 : Hid (∀ v, Calls Tryd.prog 12 #[.int .i64 n, .int .i64 td, .int .i64 bk] v fun e w' => e = .returned (.float .f64 L) ∧ Below v.heap.size v w'))
    (M1 : Hid (∀ v, Calls Tryd.prog 13 #[.int .i64 n, .int .i64 c] v fun e w' => e = .returned (.tuple #[.agg #[.float .f64 m1, .float .f64 m2, .float .f64 m3], .bool true]) ∧ Below v.heap.size v w'))
    (M2 : Hid (∀ v, Calls Tryd.prog 13 #[.int .i64 n, .int .i64 td] v fun e w' => e = .returned (.tuple #[.agg #[.float .f64 o1, .float .f64 o2, .float .f64 o3], .bool true]) ∧ Below v.heap.size v w'))
    (G1 : Hid (∀ v, Ab w v → Calls Tryd.prog 14 #[.int .i64 n, .int .i64 c, .int .i64 s] v fun e w' => e = .returned (.float .f64 G) ∧ Below v.heap.size v w'))
    (G2 : Hid (∀ v, Ab w v → Calls Tryd.prog 14 #[.int .i64 n, .int .i64 td, .int .i64 bk] v fun e w' => e = .returned (.float .f64 G) ∧ Below v.heap.size v w'))
    (V1 : Hid (∀ v, Calls Tryd.prog 16 #[.agg #[.float .f64 p1, .float .f64 p2, .float .f64 p3], .agg #[.float .f64 q1, .float .f64 q2, .float .f64 q3]] v fun e w' => e = .returned (.float .f64 L) ∧ Below v.heap.size v w'))
    (V2 : Hid (∀ v, Calls Tryd.prog 16 #[.agg #[.float .f64 m1, .float .f64 m2, .float .f64 m3], .agg #[.float .f64 o1, .float .f64 o2, .float .f64 o3]] v fun e w' => e = .returned (.float .f64 G) ∧ Below v.heap.size v w')) :
    Calls Tryd.prog 3 #[.int .i64 a, .int .i64 b, .int .i64 o] w fun e w' => e = .returned (.bool true) ∧ Below w.heap.size w w' := by
  have SL := hid (fun v => rawSame_any L L v)
  have SG := hid (fun v => rawSame_any G G v)
  rw [sameB_eq rfl] at SL
  rw [sameB_eq rfl] at SG
  have SP : Hid (∀ v, Calls Tryd.prog 11 #[.agg #[.float .f64 p1, .float .f64 p2, .float .f64 p3], .agg #[.float .f64 p1, .float .f64 p2, .float .f64 p3]] v fun e w' => e = .returned (.bool true) ∧ Below v.heap.size v w') := fun v => by
    have h := same8_at p1 p2 p3 p1 p2 p3 v
    rw [same_true8] at h; exact h
  have SQ : Hid (∀ v, Calls Tryd.prog 11 #[.agg #[.float .f64 q1, .float .f64 q2, .float .f64 q3], .agg #[.float .f64 q1, .float .f64 q2, .float .f64 q3]] v fun e w' => e = .returned (.bool true) ∧ Below v.heap.size v w') := fun v => by
    have h := same8_at q1 q2 q3 q1 q2 q3 v
    rw [same_true8] at h; exact h
  have SN : Hid (∀ v, Calls Tryd.prog 11 #[.agg #[.float .f64 p1, .float .f64 p2, .float .f64 p3], .agg #[.float .f64 q1, .float .f64 q2, .float .f64 q3]] v fun e w' => e = .returned (.bool false) ∧ Below v.heap.size v w') := fun v => by
    have h := same8_at p1 p2 p3 q1 q2 q3 v
    rw [hne] at h; exact h
  clear hne
  go_enter Tryd.func3, Tryd.ntmps3
  go_wp2_with fail
  refine Calls.mono (AWK.out) ?_
  rintro e v1 ⟨rfl, b1⟩
  have AV1 : Hid (Ab w v1) := Ab.call (Ab.refl w) b1
  have AW1 : Hid (Ab w v1) := AV1.out
  clear b1 AV1
  go_wp2_with fail
  refine Calls.mono (NE.out _) ?_
  rintro e vv ⟨rfl, k2, rfl⟩
  have AW2 : Hid (Ab w (v1.drewN k2)) := Ab.drewN AW1.out _
  clear AW1
  go_wp2_with fail
  refine Calls.mono (BE.out _ AW2.out) ?_
  rintro e v3 ⟨rfl, b3⟩
  have AV3 : Hid (Ab w v3) := Ab.call AW2.out b3
  have AW3 : Hid (Ab w v3) := AV3.out
  clear b3 AV3 AW2
  go_wp2_with fail
  refine Calls.mono (E1.out _) ?_
  rintro e v4 ⟨rfl, b4⟩
  have AV4 : Hid (Ab w v4) := Ab.call AW3.out b4
  have RA4 : Hid (((v4.alloc (.cells #[.float .f64 p1, .float .f64 p2, .float .f64 p3] 29)).alloc (.cells #[.float .f64 q1, .float .f64 q2, .float .f64 q3] 29)).heap[v4.heap.size]? = some (.cells #[.float .f64 p1, .float .f64 p2, .float .f64 p3] 29)) := heap_alloc2_old _ _ _
  have RB4 : Hid (((v4.alloc (.cells #[.float .f64 p1, .float .f64 p2, .float .f64 p3] 29)).alloc (.cells #[.float .f64 q1, .float .f64 q2, .float .f64 q3] 29)).heap[v4.heap.size + 1]? = some (.cells #[.float .f64 q1, .float .f64 q2, .float .f64 q3] 29)) := heap_alloc2_new _ _ _
  have AW4 : Hid (Ab w ((v4.alloc (.cells #[.float .f64 p1, .float .f64 p2, .float .f64 p3] 29)).alloc (.cells #[.float .f64 q1, .float .f64 q2, .float .f64 q3] 29))) := AV4.out.call (bl2 v4 (.cells #[.float .f64 p1, .float .f64 p2, .float .f64 p3] 29) (.cells #[.float .f64 q1, .float .f64 q2, .float .f64 q3] 29))
  clear b4 AV4 AW3
  go_wp2_with fail
  refine Calls.mono (E2.out _) ?_
  rintro e v5 ⟨rfl, b5⟩
  have AV5 : Hid (Ab w v5) := Ab.call AW4.out b5
  have RA5 : Hid (((v5.alloc (.cells #[.float .f64 q1, .float .f64 q2, .float .f64 q3] 29)).alloc (.cells #[.float .f64 p1, .float .f64 p2, .float .f64 p3] 29)).heap[v4.heap.size]? = some (.cells #[.float .f64 p1, .float .f64 p2, .float .f64 p3] 29)) := Ab.heap (bl2 v5 (.cells #[.float .f64 q1, .float .f64 q2, .float .f64 q3] 29) (.cells #[.float .f64 p1, .float .f64 p2, .float .f64 p3] 29)) (Ab.heap b5 RA4.out)
  have RB5 : Hid (((v5.alloc (.cells #[.float .f64 q1, .float .f64 q2, .float .f64 q3] 29)).alloc (.cells #[.float .f64 p1, .float .f64 p2, .float .f64 p3] 29)).heap[v4.heap.size + 1]? = some (.cells #[.float .f64 q1, .float .f64 q2, .float .f64 q3] 29)) := Ab.heap (bl2 v5 (.cells #[.float .f64 q1, .float .f64 q2, .float .f64 q3] 29) (.cells #[.float .f64 p1, .float .f64 p2, .float .f64 p3] 29)) (Ab.heap b5 RB4.out)
  have RX5 : Hid (((v5.alloc (.cells #[.float .f64 q1, .float .f64 q2, .float .f64 q3] 29)).alloc (.cells #[.float .f64 p1, .float .f64 p2, .float .f64 p3] 29)).heap[v5.heap.size]? = some (.cells #[.float .f64 q1, .float .f64 q2, .float .f64 q3] 29)) := heap_alloc2_old _ _ _
  have RY5 : Hid (((v5.alloc (.cells #[.float .f64 q1, .float .f64 q2, .float .f64 q3] 29)).alloc (.cells #[.float .f64 p1, .float .f64 p2, .float .f64 p3] 29)).heap[v5.heap.size + 1]? = some (.cells #[.float .f64 p1, .float .f64 p2, .float .f64 p3] 29)) := heap_alloc2_new _ _ _
  have AW5 : Hid (Ab w ((v5.alloc (.cells #[.float .f64 q1, .float .f64 q2, .float .f64 q3] 29)).alloc (.cells #[.float .f64 p1, .float .f64 p2, .float .f64 p3] 29))) := AV5.out.call (bl2 v5 (.cells #[.float .f64 q1, .float .f64 q2, .float .f64 q3] 29) (.cells #[.float .f64 p1, .float .f64 p2, .float .f64 p3] 29))
  clear b5 AV5 RA4 RB4 AW4
  obtain ⟨-, xA0, xA1, xA2⟩ := rowfacts RA5.out
  obtain ⟨-, xX0, xX1, xX2⟩ := rowfacts RX5.out
  go_wp2_with fail
  refine Calls.mono (SN.out _) ?_
  rintro e v6 ⟨rfl, b6⟩
  clear xA0 xA1 xA2 xX0 xX1 xX2
  have AV6 : Hid (Ab w v6) := Ab.call AW5.out b6
  have RA6 : Hid (v6.heap[v4.heap.size]? = some (.cells #[.float .f64 p1, .float .f64 p2, .float .f64 p3] 29)) := Ab.heap b6 RA5.out
  have RB6 : Hid (v6.heap[v4.heap.size + 1]? = some (.cells #[.float .f64 q1, .float .f64 q2, .float .f64 q3] 29)) := Ab.heap b6 RB5.out
  have RX6 : Hid (v6.heap[v5.heap.size]? = some (.cells #[.float .f64 q1, .float .f64 q2, .float .f64 q3] 29)) := Ab.heap b6 RX5.out
  have RY6 : Hid (v6.heap[v5.heap.size + 1]? = some (.cells #[.float .f64 p1, .float .f64 p2, .float .f64 p3] 29)) := Ab.heap b6 RY5.out
  have AW6 : Hid (Ab w v6) := AV6.out
  clear b6 AV6 RA5 RB5 RX5 RY5 AW5
  obtain ⟨-, xA0, xA1, xA2⟩ := rowfacts RA6.out
  obtain ⟨-, xY0, xY1, xY2⟩ := rowfacts RY6.out
  go_wp2_with fail
  refine Calls.mono (SP.out _) ?_
  rintro e v7 ⟨rfl, b7⟩
  clear xA0 xA1 xA2 xY0 xY1 xY2
  have AV7 : Hid (Ab w v7) := Ab.call AW6.out b7
  have RA7 : Hid (v7.heap[v4.heap.size]? = some (.cells #[.float .f64 p1, .float .f64 p2, .float .f64 p3] 29)) := Ab.heap b7 RA6.out
  have RB7 : Hid (v7.heap[v4.heap.size + 1]? = some (.cells #[.float .f64 q1, .float .f64 q2, .float .f64 q3] 29)) := Ab.heap b7 RB6.out
  have RX7 : Hid (v7.heap[v5.heap.size]? = some (.cells #[.float .f64 q1, .float .f64 q2, .float .f64 q3] 29)) := Ab.heap b7 RX6.out
  have RY7 : Hid (v7.heap[v5.heap.size + 1]? = some (.cells #[.float .f64 p1, .float .f64 p2, .float .f64 p3] 29)) := Ab.heap b7 RY6.out
  have AW7 : Hid (Ab w v7) := AV7.out
  clear b7 AV7 RA6 RB6 RX6 RY6 AW6
  obtain ⟨-, xB0, xB1, xB2⟩ := rowfacts RB7.out
  obtain ⟨-, xX0, xX1, xX2⟩ := rowfacts RX7.out
  go_wp2_with fail
  refine Calls.mono (SQ.out _) ?_
  rintro e v8 ⟨rfl, b8⟩
  clear xB0 xB1 xB2 xX0 xX1 xX2
  have AV8 : Hid (Ab w v8) := Ab.call AW7.out b8
  have RA8 : Hid (v8.heap[v4.heap.size]? = some (.cells #[.float .f64 p1, .float .f64 p2, .float .f64 p3] 29)) := Ab.heap b8 RA7.out
  have RB8 : Hid (v8.heap[v4.heap.size + 1]? = some (.cells #[.float .f64 q1, .float .f64 q2, .float .f64 q3] 29)) := Ab.heap b8 RB7.out
  have RX8 : Hid (v8.heap[v5.heap.size]? = some (.cells #[.float .f64 q1, .float .f64 q2, .float .f64 q3] 29)) := Ab.heap b8 RX7.out
  have RY8 : Hid (v8.heap[v5.heap.size + 1]? = some (.cells #[.float .f64 p1, .float .f64 p2, .float .f64 p3] 29)) := Ab.heap b8 RY7.out
  have AW8 : Hid (Ab w v8) := AV8.out
  clear b8 AV8 RA7 RB7 RX7 RY7 AW7
  go_wp2_with fail
  refine Calls.mono (L1.out _) ?_
  rintro e v9 ⟨rfl, b9⟩
  have AV9 : Hid (Ab w v9) := Ab.call AW8.out b9
  have RA9 : Hid (v9.heap[v4.heap.size]? = some (.cells #[.float .f64 p1, .float .f64 p2, .float .f64 p3] 29)) := Ab.heap b9 RA8.out
  have RB9 : Hid (v9.heap[v4.heap.size + 1]? = some (.cells #[.float .f64 q1, .float .f64 q2, .float .f64 q3] 29)) := Ab.heap b9 RB8.out
  have RX9 : Hid (v9.heap[v5.heap.size]? = some (.cells #[.float .f64 q1, .float .f64 q2, .float .f64 q3] 29)) := Ab.heap b9 RX8.out
  have RY9 : Hid (v9.heap[v5.heap.size + 1]? = some (.cells #[.float .f64 p1, .float .f64 p2, .float .f64 p3] 29)) := Ab.heap b9 RY8.out
  have AW9 : Hid (Ab w v9) := AV9.out
  clear b9 AV9 RA8 RB8 RX8 RY8 AW8
  go_wp2_with fail
  refine Calls.mono (M1.out _) ?_
  rintro e v10 ⟨rfl, b10⟩
  have AV10 : Hid (Ab w v10) := Ab.call AW9.out b10
  have RA10 : Hid ((v10.alloc (.cells #[.float .f64 m1, .float .f64 m2, .float .f64 m3] 29)).heap[v4.heap.size]? = some (.cells #[.float .f64 p1, .float .f64 p2, .float .f64 p3] 29)) := Ab.heap (bl1 v10 (.cells #[.float .f64 m1, .float .f64 m2, .float .f64 m3] 29)) (Ab.heap b10 RA9.out)
  have RB10 : Hid ((v10.alloc (.cells #[.float .f64 m1, .float .f64 m2, .float .f64 m3] 29)).heap[v4.heap.size + 1]? = some (.cells #[.float .f64 q1, .float .f64 q2, .float .f64 q3] 29)) := Ab.heap (bl1 v10 (.cells #[.float .f64 m1, .float .f64 m2, .float .f64 m3] 29)) (Ab.heap b10 RB9.out)
  have RX10 : Hid ((v10.alloc (.cells #[.float .f64 m1, .float .f64 m2, .float .f64 m3] 29)).heap[v5.heap.size]? = some (.cells #[.float .f64 q1, .float .f64 q2, .float .f64 q3] 29)) := Ab.heap (bl1 v10 (.cells #[.float .f64 m1, .float .f64 m2, .float .f64 m3] 29)) (Ab.heap b10 RX9.out)
  have RY10 : Hid ((v10.alloc (.cells #[.float .f64 m1, .float .f64 m2, .float .f64 m3] 29)).heap[v5.heap.size + 1]? = some (.cells #[.float .f64 p1, .float .f64 p2, .float .f64 p3] 29)) := Ab.heap (bl1 v10 (.cells #[.float .f64 m1, .float .f64 m2, .float .f64 m3] 29)) (Ab.heap b10 RY9.out)
  have RP10 : Hid ((v10.alloc (.cells #[.float .f64 m1, .float .f64 m2, .float .f64 m3] 29)).heap[v10.heap.size]? = some (.cells #[.float .f64 m1, .float .f64 m2, .float .f64 m3] 29)) := heap_alloc_new _ _
  have AW10 : Hid (Ab w (v10.alloc (.cells #[.float .f64 m1, .float .f64 m2, .float .f64 m3] 29))) := AV10.out.call (bl1 v10 (.cells #[.float .f64 m1, .float .f64 m2, .float .f64 m3] 29))
  clear b10 AV10 RA9 RB9 RX9 RY9 AW9
  go_wp2_with fail
  refine Calls.mono (M2.out _) ?_
  rintro e v11 ⟨rfl, b11⟩
  have AV11 : Hid (Ab w v11) := Ab.call AW10.out b11
  have RA11 : Hid ((v11.alloc (.cells #[.float .f64 o1, .float .f64 o2, .float .f64 o3] 29)).heap[v4.heap.size]? = some (.cells #[.float .f64 p1, .float .f64 p2, .float .f64 p3] 29)) := Ab.heap (bl1 v11 (.cells #[.float .f64 o1, .float .f64 o2, .float .f64 o3] 29)) (Ab.heap b11 RA10.out)
  have RB11 : Hid ((v11.alloc (.cells #[.float .f64 o1, .float .f64 o2, .float .f64 o3] 29)).heap[v4.heap.size + 1]? = some (.cells #[.float .f64 q1, .float .f64 q2, .float .f64 q3] 29)) := Ab.heap (bl1 v11 (.cells #[.float .f64 o1, .float .f64 o2, .float .f64 o3] 29)) (Ab.heap b11 RB10.out)
  have RX11 : Hid ((v11.alloc (.cells #[.float .f64 o1, .float .f64 o2, .float .f64 o3] 29)).heap[v5.heap.size]? = some (.cells #[.float .f64 q1, .float .f64 q2, .float .f64 q3] 29)) := Ab.heap (bl1 v11 (.cells #[.float .f64 o1, .float .f64 o2, .float .f64 o3] 29)) (Ab.heap b11 RX10.out)
  have RY11 : Hid ((v11.alloc (.cells #[.float .f64 o1, .float .f64 o2, .float .f64 o3] 29)).heap[v5.heap.size + 1]? = some (.cells #[.float .f64 p1, .float .f64 p2, .float .f64 p3] 29)) := Ab.heap (bl1 v11 (.cells #[.float .f64 o1, .float .f64 o2, .float .f64 o3] 29)) (Ab.heap b11 RY10.out)
  have RP11 : Hid ((v11.alloc (.cells #[.float .f64 o1, .float .f64 o2, .float .f64 o3] 29)).heap[v10.heap.size]? = some (.cells #[.float .f64 m1, .float .f64 m2, .float .f64 m3] 29)) := Ab.heap (bl1 v11 (.cells #[.float .f64 o1, .float .f64 o2, .float .f64 o3] 29)) (Ab.heap b11 RP10.out)
  have RQ11 : Hid ((v11.alloc (.cells #[.float .f64 o1, .float .f64 o2, .float .f64 o3] 29)).heap[v11.heap.size]? = some (.cells #[.float .f64 o1, .float .f64 o2, .float .f64 o3] 29)) := heap_alloc_new _ _
  have AW11 : Hid (Ab w (v11.alloc (.cells #[.float .f64 o1, .float .f64 o2, .float .f64 o3] 29))) := AV11.out.call (bl1 v11 (.cells #[.float .f64 o1, .float .f64 o2, .float .f64 o3] 29))
  clear b11 AV11 RA10 RB10 RX10 RY10 RP10 AW10
  go_wp2_with fail
  refine Calls.mono (G1.out _ AW11.out) ?_
  rintro e v12 ⟨rfl, b12⟩
  have AV12 : Hid (Ab w v12) := Ab.call AW11.out b12
  have RA12 : Hid (v12.heap[v4.heap.size]? = some (.cells #[.float .f64 p1, .float .f64 p2, .float .f64 p3] 29)) := Ab.heap b12 RA11.out
  have RB12 : Hid (v12.heap[v4.heap.size + 1]? = some (.cells #[.float .f64 q1, .float .f64 q2, .float .f64 q3] 29)) := Ab.heap b12 RB11.out
  have RX12 : Hid (v12.heap[v5.heap.size]? = some (.cells #[.float .f64 q1, .float .f64 q2, .float .f64 q3] 29)) := Ab.heap b12 RX11.out
  have RY12 : Hid (v12.heap[v5.heap.size + 1]? = some (.cells #[.float .f64 p1, .float .f64 p2, .float .f64 p3] 29)) := Ab.heap b12 RY11.out
  have RP12 : Hid (v12.heap[v10.heap.size]? = some (.cells #[.float .f64 m1, .float .f64 m2, .float .f64 m3] 29)) := Ab.heap b12 RP11.out
  have RQ12 : Hid (v12.heap[v11.heap.size]? = some (.cells #[.float .f64 o1, .float .f64 o2, .float .f64 o3] 29)) := Ab.heap b12 RQ11.out
  have AW12 : Hid (Ab w v12) := AV12.out
  clear b12 AV12 RA11 RB11 RX11 RY11 RP11 RQ11 AW11
  go_wp2_with fail
  refine Calls.mono (L2.out _) ?_
  rintro e v13 ⟨rfl, b13⟩
  have AV13 : Hid (Ab w v13) := Ab.call AW12.out b13
  have RA13 : Hid (v13.heap[v4.heap.size]? = some (.cells #[.float .f64 p1, .float .f64 p2, .float .f64 p3] 29)) := Ab.heap b13 RA12.out
  have RB13 : Hid (v13.heap[v4.heap.size + 1]? = some (.cells #[.float .f64 q1, .float .f64 q2, .float .f64 q3] 29)) := Ab.heap b13 RB12.out
  have RX13 : Hid (v13.heap[v5.heap.size]? = some (.cells #[.float .f64 q1, .float .f64 q2, .float .f64 q3] 29)) := Ab.heap b13 RX12.out
  have RY13 : Hid (v13.heap[v5.heap.size + 1]? = some (.cells #[.float .f64 p1, .float .f64 p2, .float .f64 p3] 29)) := Ab.heap b13 RY12.out
  have RP13 : Hid (v13.heap[v10.heap.size]? = some (.cells #[.float .f64 m1, .float .f64 m2, .float .f64 m3] 29)) := Ab.heap b13 RP12.out
  have RQ13 : Hid (v13.heap[v11.heap.size]? = some (.cells #[.float .f64 o1, .float .f64 o2, .float .f64 o3] 29)) := Ab.heap b13 RQ12.out
  have AW13 : Hid (Ab w v13) := AV13.out
  clear b13 AV13 RA12 RB12 RX12 RY12 RP12 RQ12 AW12
  go_wp2_with fail
  refine Calls.mono (SL.out _) ?_
  rintro e vv ⟨rfl, rfl⟩
  go_wp2_with fail
  refine Calls.mono (G2.out _ AW13.out) ?_
  rintro e v14 ⟨rfl, b14⟩
  have AV14 : Hid (Ab w v14) := Ab.call AW13.out b14
  have RA14 : Hid (v14.heap[v4.heap.size]? = some (.cells #[.float .f64 p1, .float .f64 p2, .float .f64 p3] 29)) := Ab.heap b14 RA13.out
  have RB14 : Hid (v14.heap[v4.heap.size + 1]? = some (.cells #[.float .f64 q1, .float .f64 q2, .float .f64 q3] 29)) := Ab.heap b14 RB13.out
  have RX14 : Hid (v14.heap[v5.heap.size]? = some (.cells #[.float .f64 q1, .float .f64 q2, .float .f64 q3] 29)) := Ab.heap b14 RX13.out
  have RY14 : Hid (v14.heap[v5.heap.size + 1]? = some (.cells #[.float .f64 p1, .float .f64 p2, .float .f64 p3] 29)) := Ab.heap b14 RY13.out
  have RP14 : Hid (v14.heap[v10.heap.size]? = some (.cells #[.float .f64 m1, .float .f64 m2, .float .f64 m3] 29)) := Ab.heap b14 RP13.out
  have RQ14 : Hid (v14.heap[v11.heap.size]? = some (.cells #[.float .f64 o1, .float .f64 o2, .float .f64 o3] 29)) := Ab.heap b14 RQ13.out
  have AW14 : Hid (Ab w v14) := AV14.out
  clear b14 AV14 RA13 RB13 RX13 RY13 RP13 RQ13 AW13
  go_wp2_with fail
  refine Calls.mono (SG.out _) ?_
  rintro e vv ⟨rfl, rfl⟩
  obtain ⟨-, xA0, xA1, xA2⟩ := rowfacts RA14.out
  obtain ⟨-, xB0, xB1, xB2⟩ := rowfacts RB14.out
  go_wp2_with fail
  refine Calls.mono (V1.out _) ?_
  rintro e v15 ⟨rfl, b15⟩
  clear xA0 xA1 xA2 xB0 xB1 xB2
  have AV15 : Hid (Ab w v15) := Ab.call AW14.out b15
  have RA15 : Hid (v15.heap[v4.heap.size]? = some (.cells #[.float .f64 p1, .float .f64 p2, .float .f64 p3] 29)) := Ab.heap b15 RA14.out
  have RB15 : Hid (v15.heap[v4.heap.size + 1]? = some (.cells #[.float .f64 q1, .float .f64 q2, .float .f64 q3] 29)) := Ab.heap b15 RB14.out
  have RX15 : Hid (v15.heap[v5.heap.size]? = some (.cells #[.float .f64 q1, .float .f64 q2, .float .f64 q3] 29)) := Ab.heap b15 RX14.out
  have RY15 : Hid (v15.heap[v5.heap.size + 1]? = some (.cells #[.float .f64 p1, .float .f64 p2, .float .f64 p3] 29)) := Ab.heap b15 RY14.out
  have RP15 : Hid (v15.heap[v10.heap.size]? = some (.cells #[.float .f64 m1, .float .f64 m2, .float .f64 m3] 29)) := Ab.heap b15 RP14.out
  have RQ15 : Hid (v15.heap[v11.heap.size]? = some (.cells #[.float .f64 o1, .float .f64 o2, .float .f64 o3] 29)) := Ab.heap b15 RQ14.out
  have AW15 : Hid (Ab w v15) := AV15.out
  clear b15 AV15 RA14 RB14 RX14 RY14 RP14 RQ14 AW14
  go_wp2_with fail
  refine Calls.mono (SL.out _) ?_
  rintro e vv ⟨rfl, rfl⟩
  obtain ⟨-, xP0, xP1, xP2⟩ := rowfacts RP15.out
  obtain ⟨-, xQ0, xQ1, xQ2⟩ := rowfacts RQ15.out
  go_wp2_with fail
  refine Calls.mono (V2.out _) ?_
  rintro e v16 ⟨rfl, b16⟩
  clear xP0 xP1 xP2 xQ0 xQ1 xQ2
  have AV16 : Hid (Ab w v16) := Ab.call AW15.out b16
  have RA16 : Hid (v16.heap[v4.heap.size]? = some (.cells #[.float .f64 p1, .float .f64 p2, .float .f64 p3] 29)) := Ab.heap b16 RA15.out
  have RB16 : Hid (v16.heap[v4.heap.size + 1]? = some (.cells #[.float .f64 q1, .float .f64 q2, .float .f64 q3] 29)) := Ab.heap b16 RB15.out
  have RX16 : Hid (v16.heap[v5.heap.size]? = some (.cells #[.float .f64 q1, .float .f64 q2, .float .f64 q3] 29)) := Ab.heap b16 RX15.out
  have RY16 : Hid (v16.heap[v5.heap.size + 1]? = some (.cells #[.float .f64 p1, .float .f64 p2, .float .f64 p3] 29)) := Ab.heap b16 RY15.out
  have RP16 : Hid (v16.heap[v10.heap.size]? = some (.cells #[.float .f64 m1, .float .f64 m2, .float .f64 m3] 29)) := Ab.heap b16 RP15.out
  have RQ16 : Hid (v16.heap[v11.heap.size]? = some (.cells #[.float .f64 o1, .float .f64 o2, .float .f64 o3] 29)) := Ab.heap b16 RQ15.out
  have AW16 : Hid (Ab w v16) := AV16.out
  clear b16 AV16 RA15 RB15 RX15 RY15 RP15 RQ15 AW15
  go_wp2_with fail
  refine Calls.mono (SG.out _) ?_
  rintro e vv ⟨rfl, rfl⟩
  go_wp2
  go_ret
  exact ⟨rfl, AW16.out⟩
theorem geomSides_walk (a b o : Int) (w : World) (h : Fr w) :
    Calls Tryd.prog 3 #[.int .i64 a, .int .i64 b, .int .i64 o] w fun e w' => e = .returned (.bool true) ∧ Below w.heap.size w w' := by
  obtain ⟨n, c, hn, hc, N⟩ := net8_at a b
  have NE := hid N
  clear N
  obtain ⟨y1, hy1⟩ : ∃ y, o % 18446744073709551616 = y := ⟨_, rfl⟩
  have y01 : 0 ≤ y1 ∧ y1 < 18446744073709551616 := by omega
  obtain ⟨s, hs⟩ : ∃ c : Nat, y1 % 4 = c := ⟨(y1 % 4).toNat, by omega⟩
  have ls : s < 4 := by omega
  have lsi : (s : Int) < 4 := by omega
  have ew1 : IntKind.u64.wrap o = y1 := by rw [IntKind.wrap_u64, hy1]
  have et1 : y1.tmod 4 = s := by rw [Int.tmod_eq_emod_of_nonneg y01.1, hs]
  clear hy1 hs
  obtain ⟨hb, hb'⟩ := bs_lt hn.1 hc ls
  obtain ⟨k1, k2⟩ := bs_back hn.1 hc ls
  have lbi : ((bsS n c s : Nat) : Int) ≤ 3 := by omega
  have AWK := hid (awake8_at w h)
  have BE := hid (fun v (hv : Ab w v) => beside_at n c s v hn hc ls (h.to hv))
  have E1 := hid (fun v => ends8_at n c s v hn hc ls)
  have E2 := hid (fun v => ends8_at n (bsC n c s) (bsS n c s) v hn hb hb')
  have L1 := hid (fun v => len_ok n c s v hn hc ls)
  have L2 := hid (fun v => len_ok n (bsC n c s) (bsS n c s) v hn hb hb')
  rw [len_beside hn.1 hc ls hb hb'] at L2
  have M1 := hid (fun v => middle_ok n c v hn hc)
  have M2 := hid (fun v => middle_ok n (bsC n c s) v hn hb)
  have G1 := hid (fun v (hv : Ab w v) => gap_ok n c s v hn hc ls (h.to hv))
  have G2 := hid (fun v (hv : Ab w v) => gap_ok n (bsC n c s) (bsS n c s) v hn hb hb' (h.to hv))
  have eG : GpC n (bsC n c s) (bsS n c s) = GpC n c s := by unfold GpC; rw [k1, gp_comm]
  rw [eG] at G2
  have V1 : Hid (∀ v, Calls Tryd.prog 16 #[.agg #[.float .f64 (px n (C1 n c s)), .float .f64 (py n (C1 n c s)), .float .f64 (pz n (C1 n c s))], .agg #[.float .f64 (px n (C2 n c s)), .float .f64 (py n (C2 n c s)), .float .f64 (pz n (C2 n c s))]] v fun e w' => e = .returned (.float .f64 (LnC n c s)) ∧ Below v.heap.size v w') := fun v => gap_at _ _ _ _ _ _ v (px_lt _ _) (py_lt _ _) (pz_lt _ _) (px_lt _ _) (py_lt _ _) (pz_lt _ _)
  have V2 : Hid (∀ v, Calls Tryd.prog 16 #[.agg #[.float .f64 (px n (MD n c)), .float .f64 (py n (MD n c)), .float .f64 (pz n (MD n c))], .agg #[.float .f64 (px n (MD n (bsC n c s))), .float .f64 (py n (MD n (bsC n c s))), .float .f64 (pz n (MD n (bsC n c s)))]] v fun e w' => e = .returned (.float .f64 (GpC n c s)) ∧ Below v.heap.size v w') := fun v => gap_at _ _ _ _ _ _ v (px_lt _ _) (py_lt _ _) (pz_lt _ _) (px_lt _ _) (py_lt _ _) (pz_lt _ _)
  have hcase : (C1 n (bsC n c s) (bsS n c s) = C1 n c s ∧ C2 n (bsC n c s) (bsS n c s) = C2 n c s) ∨ (C1 n (bsC n c s) (bsS n c s) = C2 n c s ∧ C2 n (bsC n c s) (bsS n c s) = C1 n c s) := by
    obtain ⟨x1, x2⟩ := ends_beside hn.1 hc ls
    have f1 := (dec_lt hn.1 hc).1
    have f2 := (dec_lt hn.1 hb).1
    have d1 := e_cases (n := n) (i := ci n c) (j := cj n c) f1 ls
    have d2 := e_cases (n := n) (i := ci n (bsC n c s)) (j := cj n (bsC n c s)) f2 hb'
    unfold EP EM at x1 x2
    unfold C1 C2
    rcases d1 with ⟨i1, i2⟩ | ⟨i1, i2⟩ <;> rcases d2 with ⟨j1, j2⟩ | ⟨j1, j2⟩ <;> rw [i1, i2, j1, j2, x1, x2] <;> simp
  rcases hcase with ⟨c1, c2⟩ | ⟨c1, c2⟩
  · rw [c1, c2] at E2
    exact sides_A a b o n c s _ _ y1 _ _ _ _ _ _ _ _ _ _ _ _ _ _ w y01 ew1 et1 lsi lbi AWK NE BE E1 E2 L1 L2 M1 M2 G1 G2 V1 V2
  · by_cases he : px n (C1 n c s) = px n (C2 n c s) ∧ py n (C1 n c s) = py n (C2 n c s) ∧ pz n (C1 n c s) = pz n (C2 n c s)
    · rw [c1, c2, he.1, he.2.1, he.2.2] at E2
      have E1' := E1
      rw [he.1, he.2.1, he.2.2] at E1' V1
      exact sides_A a b o n c s _ _ y1 _ _ _ _ _ _ _ _ _ _ _ _ _ _ w y01 ew1 et1 lsi lbi AWK NE BE E1' E2 L1 L2 M1 M2 G1 G2 V1 V2
    · rw [c1, c2] at E2
      exact sides_B a b o n c s _ _ y1 _ _ _ _ _ _ _ _ _ _ _ _ _ _ w y01 ew1 et1 lsi lbi (same_false he) AWK NE BE E1 E2 L1 L2 M1 M2 G1 G2 V1 V2
end Go.Proofs.YtdgkmaamjdglmaaDoor

/-
  What the law's condition on the table of frames gives the walks; a struct of eight whole numbers.
-/
namespace Go.Proofs.YtdgkmaamjdglmaaDoor
open Go.ChangeShapes Go.WideShapes Go.ChangeAt Go.WideMaps Go.WideElems Go.RowKit Cu

theorem own : ownKnob Tryd.prog.godebug = none := by kernel_rfl
theorem gFrames : Tryd.prog.globalNamed "tarn/cube.frames" = some 0 := by kernel_rfl
theorem tFrames : (Tryd.prog.globals[0]?).map (·.type) = some 61 := by kernel_rfl
theorem door_met (os : Os) (args : Array Value) : laidMetH Tryd.prog [("tarn/cube.frames", Rows.laid_tarn_cube_frames)] ((World.doorLaid Tryd.prog 400 os).forCall (fun _ _ => 0) ⟨#[], args, []⟩).memory :=
  laidMetH_of_parts3 (fuel := 8) (laidMet_of_run' 8 (by kernel_rfl) (by kernel_rfl)) (by kernel_rfl) (by kernel_rfl)
set_option maxRecDepth 100000 in
theorem pt_data {H : Type} {enc : TypeId × Value → H} {w : World} {base fuel : Nat} {spare : Nat → Bool} {held : Bool} {cs : List Value} {x : DataW H × List MemPlace} (h : DataW.trod enc Tryd.prog w base spare held fuel 53 cs = some x)
    (a b c : Int) (e : x.1 = .agg [.lit (.int .i64 a), .lit (.int .i64 b), .lit (.int .i64 c)]) : cs = [.int .i64 a, .int .i64 b, .int .i64 c] := by
  have k3 : Tryd.prog.cellsOf 3 = 1 := by kernel_rfl
  have kp : Tryd.prog.cellsOf 53 = 3 := by kernel_rfl
  obtain ⟨xs, m, _, hx, hlen, hn, hel⟩ := DataW.trod_array Tryd.underlying53 h
  rw [hx] at e
  match xs, hn, cs, hlen.trans kp with
  | [x0, x1, x2], _, [c0, c1, c2], _ =>
    have h0 := hel 0 (by decide)
    have h1 := hel 1 (by decide)
    have h2 := hel 2 (by decide)
    simp [k3] at h0 h1 h2
    obtain ⟨n0, e0, f0, _⟩ := DataW.trod_int Tryd.underlying3 h0
    obtain ⟨n1, e1, f1, _⟩ := DataW.trod_int Tryd.underlying3 h1
    obtain ⟨n2, e2, f2, _⟩ := DataW.trod_int Tryd.underlying3 h2
    simp at e0 e1 e2
    simp [f0, f1, f2] at e
    rw [e0, e1, e2, e.1, e.2.1, e.2.2]
set_option maxRecDepth 100000 in
theorem frame_data {H : Type} {enc : TypeId × Value → H} {w : World} {base fuel : Nat} {spare : Nat → Bool} {held : Bool} {cs : List Value} {x : DataW H × List MemPlace} (h : DataW.trod enc Tryd.prog w base spare held fuel 60 cs = some x)
    (p q r : P3) (e : x.1 = .agg [.agg [.lit (.int .i64 p.1), .lit (.int .i64 p.2.1), .lit (.int .i64 p.2.2)], .agg [.lit (.int .i64 q.1), .lit (.int .i64 q.2.1), .lit (.int .i64 q.2.2)], .agg [.lit (.int .i64 r.1), .lit (.int .i64 r.2.1), .lit (.int .i64 r.2.2)]]) :
    cs = [.int .i64 p.1, .int .i64 p.2.1, .int .i64 p.2.2, .int .i64 q.1, .int .i64 q.2.1, .int .i64 q.2.2, .int .i64 r.1, .int .i64 r.2.1, .int .i64 r.2.2] := by
  have kp : Tryd.prog.cellsOf 53 = 3 := by kernel_rfl
  have kf : Tryd.prog.cellsOf 60 = 9 := by kernel_rfl
  obtain ⟨xs, m, _, hx, hlen, hn, hel⟩ := DataW.trod_struct Tryd.underlying60 h
  rw [hx] at e
  match xs, hn, cs, hlen.trans kf with
  | [x0, x1, x2], _, [c0, c1, c2, c3, c4, c5, c6, c7, c8], _ =>
    have h0 := hel 0 _ rfl
    have h1 := hel 1 _ rfl
    have h2 := hel 2 _ rfl
    simp [kp] at h0 h1 h2
    simp at e
    have e0 := pt_data h0 _ _ _ e.1
    have e1 := pt_data h1 _ _ _ e.2.1
    have e2 := pt_data h2 _ _ _ e.2.2
    simp at e0 e1 e2
    simp [e0, e1, e2]
set_option maxRecDepth 100000 in
theorem table_data {H : Type} {enc : TypeId × Value → H} {w : World} {base fuel : Nat} {spare : Nat → Bool} {held : Bool} {cs : List Value} {x : DataW H × List MemPlace} (h : DataW.trod enc Tryd.prog w base spare held fuel 61 cs = some x)
    (e : x.1 = Rows.laid_tarn_cube_frames) : ∀ f, f < 6 → (cs.drop (f * 9)).take 9 = [.int .i64 (cC f).1, .int .i64 (cC f).2.1, .int .i64 (cC f).2.2, .int .i64 (cR f).1, .int .i64 (cR f).2.1, .int .i64 (cR f).2.2, .int .i64 (cU f).1, .int .i64 (cU f).2.1, .int .i64 (cU f).2.2] := by
  have kf : Tryd.prog.cellsOf 60 = 9 := by kernel_rfl
  obtain ⟨xs, m, _, hx, hlen, hn, hel⟩ := DataW.trod_array Tryd.underlying61 h
  rw [hx] at e
  intro f hf
  have h0 := hel f hf
  rw [kf] at h0
  match xs, hn with
  | [x0, x1, x2, x3, x4, x5], _ =>
    simp only [List.map_cons, List.map_nil, Rows.laid_tarn_cube_frames, DataW.agg.injEq, List.cons.injEq] at e
    rcases six hf with rfl | rfl | rfl | rfl | rfl | rfl
    · exact frame_data h0 (cC 0) (cR 0) (cU 0) e.1
    · exact frame_data h0 (cC 1) (cR 1) (cU 1) e.2.1
    · exact frame_data h0 (cC 2) (cR 2) (cU 2) e.2.2.1
    · exact frame_data h0 (cC 3) (cR 3) (cU 3) e.2.2.2.1
    · exact frame_data h0 (cC 4) (cR 4) (cU 4) e.2.2.2.2.1
    · exact frame_data h0 (cC 5) (cR 5) (cU 5) e.2.2.2.2.2.1
/-- WHAT THE CONDITION GIVES THE WALKS -/
theorem of_laid {W : World} (h : laidMetH Tryd.prog [("tarn/cube.frames", Rows.laid_tarn_cube_frames)] W) : Fr W := by
  rw [MakeChecks.laidMetH_plain _ _ _ (by kernel_rfl)] at h
  obtain ⟨ps, ⟨g0, t0, cs0, f0, p0, q0, hg0, ht0, hv0, hd0, _⟩, _⟩ := h
  obtain rfl := Option.some.inj (gFrames.symm.trans hg0)
  obtain rfl := Option.some.inj (tFrames.symm.trans ht0)
  have T := table_data hd0 rfl
  have C := World.var?_cell hg0 hv0
  have K : ∀ f, f < 6 → ∀ k, k < 9 → W.cell? ⟨0, f * 9 + k, none⟩ = ((cs0.toList.drop (f * 9)).take 9)[k]? := by
    intro f hf k hk
    rw [C, List.getElem?_take, if_pos hk, List.getElem?_drop]
    simp
  have N : ∀ f, f < 6 → Fr9 W f := by
    intro f hf
    have K := K f hf
    rw [T f hf] at K
    exact ⟨⟨K 0 (by omega), K 1 (by omega), K 2 (by omega)⟩, ⟨K 3 (by omega), K 4 (by omega), K 5 (by omega)⟩, ⟨K 6 (by omega), K 7 (by omega), K 8 (by omega)⟩⟩
  refine ⟨?_, N⟩
  have c0 := (N 0 (by omega)).1.1
  rcases Nat.lt_or_ge 0 W.heap.size with h1 | h1
  · exact h1
  · rw [World.cell?, Array.getElem?_eq_none h1] at c0; cases c0
end Go.Proofs.YtdgkmaamjdglmaaDoor
