/-
  The first bit of words: a walk over the program.
-/
import Derived.Test.YtgbnabpbheebjaaGn
namespace Go.Proofs.Ytgbnabpbheebjaa
open Go.RowKit Tf
attribute [local go_sem] run_bits run_from raw_feq raw_fne raw_flt raw_fgt run_neg

theorem log2_shift (n s : Nat) (h : 0 < n / 2 ^ s) : n.log2 = (n / 2 ^ s).log2 + s := by
  have hy : n / 2 ^ s ≠ 0 := by omega
  have h1 := Nat.log2_self_le hy
  have h2 := Nat.lt_log2_self (n := n / 2 ^ s)
  apply log2_of
  · rw [Nat.pow_add]
    exact Nat.le_trans (Nat.mul_le_mul_right _ h1) (Nat.div_mul_le_self n (2 ^ s))
  · have : n < (n / 2 ^ s + 1) * 2 ^ s := by
      have := Nat.lt_mul_div_succ n (pow_pos s)
      rw [Nat.mul_comm] at this; exact this
    refine Nat.lt_of_lt_of_le this ?_
    have e : (n / 2 ^ s).log2 + s + 1 = ((n / 2 ^ s).log2 + 1) + s := by omega
    rw [e, Nat.pow_add]
    exact Nat.mul_le_mul_right _ h2
theorem len8_log (n s : Nat) (h : 0 < n / 2 ^ s) : (s : Int) + len8 (n / 2 ^ s) = ((n.log2 + 1 : Nat) : Int) := by
  have := log2_shift n s h
  unfold len8
  rw [if_neg (by omega)]; omega
theorem len64_at (x : Nat) (w : World) (h0 : 0 < x) (h1 : x < 18446744073709551616) :
    Calls Try.prog 54 #[.int .u64 (x : Int)] w fun e w' => e = .returned (.int .i64 ((x.log2 + 1 : Nat) : Int)) ∧ w' = w := by
  by_cases a : x < 4294967296
  · by_cases b : x < 65536
    · by_cases c : x < 256
      · have h := len_0 (x : Int) w (by omega) (by omega) (by omega) (by omega) (by omega)
        have e := len8_log x 0 (by rw [Nat.pow_zero, Nat.div_one]; exact h0)
        rw [Nat.pow_zero, Nat.div_one] at e
        rw [Int.toNat_natCast] at h
        rw [← e]; exact h
      · have h := len_8 (x : Int) _ w (by omega) (by omega) (by omega) (by omega) (by omega) rfl (by omega) (by omega)
        have e := len8_log x 8 (by omega)
        rw [show ((x : Int) / 256).toNat = x / 2 ^ 8 by omega] at h
        rw [← e]; exact h
    · by_cases c : x / 65536 < 256
      · have h := len_16 (x : Int) _ w (by omega) (by omega) (by omega) (by omega) rfl (by omega) (by omega) (by omega)
        have e := len8_log x 16 (by omega)
        rw [show ((x : Int) / 65536).toNat = x / 2 ^ 16 by omega] at h
        rw [← e]; exact h
      · have h := len_24 (x : Int) _ _ w (by omega) (by omega) (by omega) (by omega) rfl (by omega) (by omega) rfl (by omega) (by omega)
        have e := len8_log x 24 (by omega)
        rw [show ((x : Int) / 65536 / 256).toNat = x / 2 ^ 24 by omega] at h
        rw [← e]; exact h
  · by_cases b : x / 4294967296 < 65536
    · by_cases c : x / 4294967296 < 256
      · have h := len_32 (x : Int) _ w (by omega) (by omega) (by omega) rfl (by omega) (by omega) (by omega) (by omega)
        have e := len8_log x 32 (by omega)
        rw [show ((x : Int) / 4294967296).toNat = x / 2 ^ 32 by omega] at h
        rw [← e]; exact h
      · have h := len_40 (x : Int) _ _ w (by omega) (by omega) (by omega) rfl (by omega) (by omega) (by omega) rfl (by omega) (by omega)
        have e := len8_log x 40 (by omega)
        rw [show ((x : Int) / 4294967296 / 256).toNat = x / 2 ^ 40 by omega] at h
        rw [← e]; exact h
    · by_cases c : x / 4294967296 / 65536 < 256
      · have h := len_48 (x : Int) _ _ w (by omega) (by omega) (by omega) rfl (by omega) (by omega) rfl (by omega) (by omega) (by omega)
        have e := len8_log x 48 (by omega)
        rw [show ((x : Int) / 4294967296 / 65536).toNat = x / 2 ^ 48 by omega] at h
        rw [← e]; exact h
      · have h := len_56 (x : Int) _ _ _ w (by omega) (by omega) (by omega) rfl (by omega) (by omega) rfl (by omega) (by omega) rfl (by omega) (by omega)
        have e := len8_log x 56 (by omega)
        rw [show ((x : Int) / 4294967296 / 65536 / 256).toNat = x / 2 ^ 56 by omega] at h
        rw [← e]; exact h

def ZF : Array Value := Array.replicate 66 (.int .u64 0)
theorem ZF_size : ZF.size = 66 := by simp [ZF]
def encF (f : Nat → Int) : Array Value := enW ZF 0 f
theorem encF_size (f : Nat → Int) : (encF f).size = 66 := by unfold encF; rw [enW_size, ZF_size]
theorem encF_cell (g j : Nat) (f : Nat → Int) (T : TypeId) (w : World) (h : w.heap[g]? = some (.cells (encF f) T)) (hj : j < 66) : w.cell? ⟨g, j, none⟩ = some (.int .u64 (f j)) := by
  have := row_cell g 0 j ZF f T w h hj (by rw [ZF_size]; omega)
  rw [Nat.zero_add] at this; exact this

/-- where all words above one are nothing -/
theorem high_zero (V : Nat) (i : Nat) (h : ∀ j, i < j → j < 66 → dg (V : Int) j = 0) (hV : (V : Int) < PW) (hi : i < 66) : V < 2 ^ (64 * (i + 1)) := by
  have key : ∀ d, ∀ i, i + d = 65 → (∀ j, i < j → j < 66 → dg (V : Int) j = 0) → V < 2 ^ (64 * (i + 1)) := by
    intro d
    induction d with
    | zero =>
      intro i hi _
      have e : i = 65 := by omega
      have := PW_eq (i + 1) (by omega)
      rw [← this] at hV
      omega
    | succ d ih =>
      intro i hi hz
      have h1 := ih (i + 1) (by omega) (fun j hj hj2 => hz j (by omega) hj2)
      have h2 := hz (i + 1) (by omega) (by omega)
      unfold dg at h2
      have hp := pow_pos (64 * (i + 1))
      have e : 2 ^ (64 * (i + 1 + 1)) = 2 ^ (64 * (i + 1)) * 18446744073709551616 := by
        rw [show 64 * (i + 1 + 1) = 64 * (i + 1) + 64 by omega, Nat.pow_add]
      rw [e] at h1
      have h3 : V / 2 ^ (64 * (i + 1)) < 18446744073709551616 := Nat.div_lt_of_lt_mul h1
      have h4 : ((V : Int) / ((2 ^ (64 * (i + 1)) : Nat) : Int)) = ((V / 2 ^ (64 * (i + 1)) : Nat) : Int) := by rw [Int.natCast_ediv]
      rw [h4] at h2
      have h5 : V / 2 ^ (64 * (i + 1)) = 0 := by
        generalize V / 2 ^ (64 * (i + 1)) = q at *
        omega
      rcases Nat.div_eq_zero_iff.1 h5 with h6 | h6
      · omega
      · exact h6
  exact key (65 - i) i (by omega) h
theorem top_log (V i : Nat) (h : V < 2 ^ (64 * (i + 1))) (hd : dg (V : Int) i ≠ 0) : ∃ x : Nat, dg (V : Int) i = x ∧ 0 < x ∧ x < 18446744073709551616 ∧ V.log2 = x.log2 + 64 * i := by
  have e : 2 ^ (64 * (i + 1)) = 2 ^ (64 * i) * 18446744073709551616 := by
    rw [show 64 * (i + 1) = 64 * i + 64 by omega, Nat.pow_add]
  rw [e] at h
  have h3 : V / 2 ^ (64 * i) < 18446744073709551616 := Nat.div_lt_of_lt_mul h
  have h4 : ((V : Int) / ((2 ^ (64 * i) : Nat) : Int)) = ((V / 2 ^ (64 * i) : Nat) : Int) := by rw [Int.natCast_ediv]
  unfold dg at *
  rw [h4] at hd ⊢
  have hl := log2_shift V (64 * i)
  generalize V / 2 ^ (64 * i) = q at *
  exact ⟨q, by omega, by omega, h3, hl (by omega)⟩

set_option maxHeartbeats 2000000 in
theorem top_go (V : Nat) (t : Int) (w : World) (hV : Hid ((V : Int) < PW)) (ht : Hid (t = if V = 0 then -1 else ((V.log2 : Nat) : Int)))
    (L : Hid (∀ (x : Nat) (w : World), 0 < x → x < 18446744073709551616 → Calls Try.prog 54 #[.int .u64 (x : Int)] w fun e w' => e = .returned (.int .i64 ((x.log2 + 1 : Nat) : Int)) ∧ w' = w)) :
    Calls Try.prog 50 #[.agg (encF (dg (V : Int)))] w fun e w' => e = .returned (.int .i64 t) ∧ w' = w.alloc (.cells (encF (dg (V : Int))) 54) := by
  go_enter Try.func50, Try.ntmps50
  obtain ⟨C, hC⟩ : ∃ C, encF (dg (V : Int)) = C := ⟨_, rfl⟩
  rw [hC]
  have HC := hid hC
  clear hC
  go_wp2
  go_loopw [3] (fun iv wr => ∃ i : Int, -1 ≤ i ∧ i ≤ 65 ∧ iv = .int .i64 i ∧ (∀ j : Nat, i < j → j < 66 → dg (V : Int) j = 0) ∧ wr = w.alloc (.cells C 54)) (fun iv _ => (intOf iv + 1).toNat)
  case atStart => exact ⟨65, by omega, by omega, rfl, fun j hj hj2 => by omega, rfl⟩
  case round =>
    obtain ⟨i, i0, i1, rfl, hz, rfl⟩ := hrel
    by_cases hi : i < 0
    · have hi' : i = -1 := by omega
      subst hi'
      have hV0 : V = 0 := by
        have := high_zero V 0 (fun j hj hj2 => hz j (by omega) hj2) hV.out (by omega)
        have h0 := hz 0 (by omega) (by omega)
        rw [dg0] at h0
        rw [show 64 * (0 + 1) = 64 by omega, show (2 : Nat) ^ 64 = 18446744073709551616 by decide] at this
        omega
      have ht' : t = -1 := by rw [ht.out, if_pos hV0]
      subst ht'
      clear hz hV0 ht L HC hV
      go_wp2
      go_ret
      exact ⟨rfl, rfl⟩
    · obtain ⟨k, rfl⟩ : ∃ k : Nat, i = k := ⟨i.toNat, by omega⟩
      have hk : k < 66 := by omega
      have hcell : (w.alloc (.cells C 54)).cell? ⟨w.heap.size, k, none⟩ = some (.int .u64 (dg (V : Int) k)) :=
        encF_cell _ k _ 54 _ (by rw [HC.out]; exact heap_alloc_new _ _) hk
      by_cases hd : dg (V : Int) k = 0
      · rw [hd] at hcell
        have HZ := hid hz
        have HD := hid hd
        clear hz hd L ht hV HC
        go_wp2
        refine ⟨⟨(k : Int) - 1, by omega, by omega, rfl, fun j hj hj2 => ?_, by first | rfl | trivial⟩, by simp [intOf]⟩
        by_cases e : j = k
        · subst e; exact HD.out
        · exact HZ.out j (by omega) hj2
      · obtain ⟨x, e1, e2, e3, e4⟩ := top_log V k (high_zero V k (fun j hj hj2 => hz j (by omega) hj2) hV.out hk) hd
        rw [e1] at hcell
        have hx0 : ¬ ((x : Int) = 0) := by omega
        have hV0 : V ≠ 0 := by
          intro e; subst e; unfold dg at hd; simp at hd
        have ht' : t = (k : Int) * 64 + ((x.log2 : Nat) : Int) := by rw [ht.out, if_neg hV0, e4]; omega
        have hxl : x.log2 < 64 := (Nat.log2_lt (by omega)).2 (by rw [show (2 : Nat) ^ 64 = 18446744073709551616 by decide]; exact e3)
        have Lx := hid (fun w => L.out x w e2 e3)
        obtain ⟨l, hl⟩ : ∃ l, x.log2 = l := ⟨_, rfl⟩
        rw [hl] at Lx ht' hxl
        obtain ⟨X, hX⟩ : ∃ X : Int, (x : Int) = X := ⟨_, rfl⟩
        rw [hX] at Lx hcell hx0
        have HT := hid ht'
        clear hz hd L ht hV HC ht' e1 e2 e3 e4 hV0 hl hX
        go_wp2_with fail
        refine (Lx.out _).mono ?_
        rintro e w' ⟨rfl, rfl⟩
        go_wp2
        go_ret
        refine ⟨ret_int ?_, rfl⟩
        rw [HT.out]; omega
theorem top_at (V : Nat) (w : World) (hV : (V : Int) < PW) :
    Calls Try.prog 50 #[.agg (encF (dg (V : Int)))] w fun e w' => e = .returned (.int .i64 (if V = 0 then -1 else ((V.log2 : Nat) : Int))) ∧ w' = w.alloc (.cells (encF (dg (V : Int))) 54) :=
  top_go V _ w hV rfl (fun x w a b => len64_at x w a b)
end Go.Proofs.Ytgbnabpbheebjaa
