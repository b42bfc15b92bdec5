/-
  Sums of lists, and the fixed answers: walks over the program.
-/
import Derived.Test.YtgbnabpbheebjaaGv
namespace Go.Proofs.Ytgbnabpbheebjaa
open Go.RowKit Tf
attribute [local go_sem] run_bits run_from raw_feq raw_fne raw_flt raw_fgt run_neg

/-- the greatest product, in units of 2^-2148, is less than this -/
def BW : Int := (top : Int) * (top : Int)
theorem BW_HW : 1048576 * BW < HW := by decide +kernel
theorem BW_pos : 0 < BW := by decide +kernel
structure Good (S : AS) : Prop where
  c0 : 0 ≤ S.c
  c1 : S.c ≤ 1048576
  n0 : 0 ≤ S.n
  n1 : S.n ≤ S.c
  v0 : -(S.c * BW) ≤ S.V
  v1 : S.V ≤ S.c * BW
theorem Good.h0 {S : AS} (h : Good S) : -HW ≤ S.V := by
  have h1 : S.c * BW ≤ 1048576 * BW := Int.mul_le_mul_of_nonneg_right h.c1 (Int.le_of_lt BW_pos)
  have := h.v0; have := BW_HW; omega
theorem Good.h1 {S : AS} (h : Good S) : S.V < HW := by
  have h1 : S.c * BW ≤ 1048576 * BW := Int.mul_le_mul_of_nonneg_right h.c1 (Int.le_of_lt BW_pos)
  have := h.v1; have := BW_HW; omega
theorem good0 : Good S0 := ⟨by decide, by decide, by decide, by decide, by unfold S0; simp, by unfold S0; simp⟩
theorem sv_mul_lt (x y : Nat) (fx : mg x < 9218868437227405312) (fy : mg y < 9218868437227405312) : -BW ≤ sv x * sv y ∧ sv x * sv y ≤ BW := by
  have hx := sv_top x fx
  have hy := sv_top y fy
  have h : (sv x).natAbs * (sv y).natAbs ≤ top * top := Nat.mul_le_mul (by omega) (by omega)
  rw [← Int.natAbs_mul] at h
  have e : BW = ((top * top : Nat) : Int) := by unfold BW; rw [Int.natCast_mul]
  rw [e]
  omega
theorem stepP_c (S : AS) (x y : Nat) : (stepP S x y).c = S.c + 1 := by
  unfold stepP; repeat' split
  all_goals rfl
theorem stepP_good {S : AS} (h : Good S) (x y : Nat) (hc : S.c < 1048576) : Good (stepP S x y) := by
  have b := BW_pos
  have k0 := h.c0
  have kn := h.n0
  have k1 := h.n1
  have e : (S.c + 1) * BW = S.c * BW + BW := by rw [Int.add_mul, Int.one_mul]
  have v0 := h.v0
  have v1 := h.v1
  unfold stepP
  split
  · exact ⟨by simp only; omega, by simp only; omega, kn, by simp only; omega, by simp only; omega, by simp only; omega⟩
  · rename_i c1
    split
    · split
      · exact ⟨by simp only; omega, by simp only; omega, kn, by simp only; omega, by simp only; omega, by simp only; omega⟩
      · exact ⟨by simp only; omega, by simp only; omega, kn, by simp only; omega, by simp only; omega, by simp only; omega⟩
    · rename_i c2
      split
      · split
        · exact ⟨by simp only; omega, by simp only; omega, by simp only; omega, by simp only; omega, by simp only; omega, by simp only; omega⟩
        · exact ⟨by simp only; omega, by simp only; omega, kn, by simp only; omega, by simp only; omega, by simp only; omega⟩
      · have hx : mg x < 9218868437227405312 := by
          simp [isN, infB] at c1 c2; omega
        have hy : mg y < 9218868437227405312 := by
          simp [isN, infB] at c1 c2; omega
        have := sv_mul_lt x y hx hy
        exact ⟨by simp only; omega, by simp only; omega, kn, by simp only; omega, by simp only; omega, by simp only; omega⟩
theorem plusS_good {S U : AS} (h : Good S) (k : Good U) (hc : S.c + U.c ≤ 1048576) : Good (plusS S U) := by
  have e : (S.c + U.c) * BW = S.c * BW + U.c * BW := Int.add_mul _ _ _
  have h1 := h.c0; have h2 := h.n0; have h3 := h.n1; have h4 := h.v0; have h5 := h.v1
  have k1 := k.c0; have k2 := k.n0; have k3 := k.n1; have k4 := k.v0; have k5 := k.v1
  unfold plusS
  exact ⟨by simp only; omega, by simp only; omega, by simp only; omega, by simp only; omega, by simp only; omega, by simp only; omega⟩

def ONE : Nat := 4607182418800017408
def stepA (S : AS) (x : Nat) : AS := stepP S x ONE
def sumS (xs : Nat → Nat) : Nat → AS
  | 0 => S0
  | k + 1 => stepA (sumS xs k) (xs k)
theorem sumS_c (xs : Nat → Nat) (k : Nat) : (sumS xs k).c = k := by
  induction k with
  | zero => rfl
  | succ k ih => show (stepP _ _ _).c = _; rw [stepP_c, ih]; omega
theorem sumS_good (xs : Nat → Nat) (k : Nat) (hk : k ≤ 1048576) : Good (sumS xs k) := by
  induction k with
  | zero => exact good0
  | succ k ih => exact stepP_good (ih (by omega)) _ _ (by rw [sumS_c]; omega)

/-- ONE FLOAT MORE -/
theorem add_at (g x : Nat) (S : AS) (w : World) (hx : x < 18446744073709551616) (h : IsAcc g S w) (hS : Good S) (c1 : S.c < 1048576) :
    Calls Try.prog 12 #[.pointer (some ⟨g, 0, none⟩), .float .f64 x] w fun e w' => e = .returned (.int .i64 0) ∧ (Hid (IsAcc g (stepA S x) w') ∧ Hid (But g w w')) :=
  addv _ x 0 w _ (addp_at g x ONE S w hx (by decide) h hS.c0 c1 hS.n0 hS.n1)

set_option maxHeartbeats 4000000 in
theorem sum_go (a0 : Option Addr) (len cap : Nat) (xs : Nat → Nat) (y : Nat) (w : World) (hl : Hid (len ≤ 1048576)) (hl2 : (len : Int) ≤ 1048576) (hxs : Hid (∀ k, k < len → xs k < 18446744073709551616))
    (hc : Hid (∀ wr : World, Below w.heap.size w wr → ∀ k, k < len → ∃ b o, a0 = some ⟨b, o, none⟩ ∧ wr.cell? ⟨b, o + k, none⟩ = some (.float .f64 (xs k))))
    (V : Hid (∀ wr, IsAcc w.heap.size (sumS xs len) wr → Calls Try.prog 21 #[.pointer (some ⟨w.heap.size, 0, none⟩)] wr fun e w' => e = .returned (.float .f64 y) ∧ Below wr.heap.size wr w')) :
    Calls Try.prog 23 #[.slice a0 len cap] w fun e w' => e = .returned (.tuple #[.float .f64 y, .int .i64 0]) ∧ Hid (Below w.heap.size w w') := by
  go_enter Try.func23, Try.ntmps23
  go_wp2_with fail
  refine (new_go _).mono ?_
  rintro e w' ⟨rfl, rfl⟩
  go_wp2
  go_loopw [13] (fun kv wr => ∃ k : Nat, k ≤ len ∧ kv = .int .i64 (k : Nat) ∧ IsAcc w.heap.size (sumS xs k) wr ∧ Below w.heap.size w wr) (fun kv _ => len - (intOf kv).toNat)
  case atStart => exact ⟨0, by omega, rfl, heap_alloc_new _ _, (Below.refl _ _).alloc (by omega) _⟩
  case round =>
    obtain ⟨k, hk, rfl, r1, hb⟩ := hrel
    have hl' := hl.out
    by_cases hlt : k < len
    · obtain ⟨b, o, ha, cn⟩ := hc.out wr hb k hlt
      subst ha
      have A := hid (add_at w.heap.size (xs k) (sumS xs k) wr (hxs.out k hlt) r1 (sumS_good xs k (by omega)) (by rw [sumS_c]; omega))
      obtain ⟨x, hx⟩ : ∃ x, xs k = x := ⟨_, rfl⟩
      rw [hx] at cn A
      have HX := hid hx
      have HB := hid hb
      have HL := hid hlt
      have kl : ((k : Nat) : Int) < len := by omega
      have k2 : ((k : Nat) : Int) < 1048576 := by omega
      clear hx hb hlt hk r1 hc V hxs
      go_wp2_with fail
      refine A.out.mono ?_
      rintro e w' ⟨rfl, p1, p2⟩
      go_wp2
      refine ⟨⟨k + 1, HL.out, by simp, ?_, ?_⟩, by have := HL.out; simp [intOf]; omega⟩
      · show IsAcc _ (stepA (sumS xs k) (xs k)) _
        rw [HX.out]; exact p1.out
      · exact HB.out.trans (p2.out.below (by omega) HB.out.size)
    · have e : k = len := by omega
      subst e
      have kl : decide (((k : Nat) : Int) < (k : Nat)) = false := by simp
      have V' := hid (V.out wr r1)
      have HB := hid hb
      clear hb hlt hk r1 hc V hxs
      go_wp2_with fail
      refine V'.out.mono ?_
      rintro e w' ⟨rfl, p1⟩
      have HB2 : Hid (Below w.heap.size w w') := HB.out.trans (p1.mono HB.out.size)
      clear p1
      go_wp2
      go_ret2
      exact ⟨rfl, HB2⟩
/-- A LIST OF FLOATS -/
def IsFl (w : World) (a0 : Option Addr) (len : Nat) (xs : Nat → Nat) : Prop := ∀ k, k < len → xs k < 18446744073709551616 ∧ ∃ b o, a0 = some ⟨b, o, none⟩ ∧ b < w.heap.size ∧ w.cell? ⟨b, o + k, none⟩ = some (.float .f64 (xs k))
theorem IsFl.below {w w' : World} {a0 : Option Addr} {len : Nat} {xs : Nat → Nat} (h : IsFl w a0 len xs) (hb : Below w.heap.size w w') : IsFl w' a0 len xs := by
  intro k hk
  obtain ⟨h1, b, o, h2, h3, h4⟩ := h k hk
  exact ⟨h1, b, o, h2, Nat.lt_of_lt_of_le h3 hb.size, by rw [hb.cell (p := ⟨b, o + k, none⟩) h3]; exact h4⟩
/-- SUM -/
theorem sum_at (a0 : Option Addr) (len cap : Nat) (xs : Nat → Nat) (w : World) (hl : len ≤ 1048576) (h : IsFl w a0 len xs) :
    Calls Try.prog 23 #[.slice a0 len cap] w fun e w' => e = .returned (.tuple #[.float .f64 (valB (sumS xs len)), .int .i64 0]) ∧ Hid (Below w.heap.size w w') := by
  refine sum_go a0 len cap xs _ w hl (by omega) (fun k hk => (h k hk).1) ?_ (fun wr hr => ?_)
  · intro wr hb k hk
    obtain ⟨h1, b, o, h2, h3, h4⟩ := h k hk
    exact ⟨b, o, h2, by rw [hb.cell (p := ⟨b, o + k, none⟩) h3]; exact h4⟩
  · have g := sumS_good xs len hl
    exact value_at _ _ wr hr g.c0 g.h0 g.h1
end Go.Proofs.Ytgbnabpbheebjaa
