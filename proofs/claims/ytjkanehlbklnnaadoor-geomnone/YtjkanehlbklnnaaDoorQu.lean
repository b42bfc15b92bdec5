/-
  What isn't there has no point, no area, no length: whatever the numbers.
-/
import Derived.Test.YtjkanehlbklnnaaDoorZ13
import Derived.Test.YtjkanehlbklnnaaDoorZ14
namespace Go.Proofs.YtjkanehlbklnnaaDoor
open Go.RowKit Tf Cu
theorem corner_there {a0 a1 a2 a3 : Int} (h : thB8 (clN a0) a0 a1 a2 a3 = true) : ∃ p1 p2 p3 : Nat, ∀ v : World, Calls Tryd.prog 14 #[.int .i64 a0, .int .i64 a1, .int .i64 a2, .int .i64 a3] v fun e w' => e = .returned (.tuple #[.agg #[.float .f64 p1, .float .f64 p2, .float .f64 p3], .bool true]) ∧ Below v.heap.size v w' := by
  unfold thB8 at h
  simp only [Bool.and_eq_true, decide_eq_true_eq] at h
  obtain ⟨⟨⟨⟨⟨⟨t1, t2⟩, t3⟩, t4⟩, t5⟩, t6⟩, t7⟩ := h
  have hn : 1 ≤ a0 ∧ a0 ≤ 32 := by
    unfold clN at t1
    split at t1
    · assumption
    · omega
  obtain ⟨n, rfl⟩ := Int.eq_ofNat_of_zero_le (show 0 ≤ a0 by omega)
  obtain ⟨f, rfl⟩ := Int.eq_ofNat_of_zero_le t2
  obtain ⟨i, rfl⟩ := Int.eq_ofNat_of_zero_le t4
  obtain ⟨j, rfl⟩ := Int.eq_ofNat_of_zero_le t6
  exact ⟨_, _, _, fun v => corner_ok n f i j v (by omega) (by omega) (by omega) (by omega)⟩
theorem corner_gone {a0 a1 a2 a3 : Int} (h : thB8 (clN a0) a0 a1 a2 a3 = false) (v : World) : Calls Tryd.prog 14 #[.int .i64 a0, .int .i64 a1, .int .i64 a2, .int .i64 a3] v fun e w' => e = .returned (.tuple #[.agg #[.float .f64 0, .float .f64 0, .float .f64 0], .bool false]) ∧ Below v.heap.size v w' := by
  refine corner_no a0 a1 a2 a3 v ?_
  rintro ⟨h1, h2, h3, h4⟩
  have hc : 0 < clN a0 := by
    unfold clN
    rw [if_pos h1]
    have := (sq_le h1.1 h1.2).2
    omega
  have : thB8 (clN a0) a0 a1 a2 a3 = true := by
    unfold thB8
    simp only [Bool.and_eq_true, decide_eq_true_eq]
    exact ⟨⟨⟨⟨⟨⟨hc, h2.1⟩, h2.2⟩, h3.1⟩, h3.2⟩, h4.1⟩, h4.2⟩
  rw [this] at h
  cases h
theorem geomNone_walk (a0 a1 a2 a3 a4 a5 : Int) (w : World) (h : Fr w) :
    Calls Tryd.prog 4 #[.agg #[.int .i64 a0, .int .i64 a1, .int .i64 a2, .int .i64 a3, .int .i64 a4, .int .i64 a5]] w fun e w' => e = .returned (.bool true) ∧ Below w.heap.size w w' := by
  have AWK := fun v (hv : Ab w v) => awake8_at v (h.to hv)
  have CE := fun v => cells_at a0 v
  have SM : ∀ v, Calls Tryd.prog 15 #[.agg #[.float .f64 0, .float .f64 0, .float .f64 0], .agg #[.float .f64 0, .float .f64 0, .float .f64 0]] v fun e w' => e = .returned (.bool true) ∧ Below v.heap.size v w' := fun v => by
    have h := same8_at 0 0 0 0 0 0 v
    rw [sameB_eq rfl] at h; exact h
  have RB := fun v => rawBits8 0 v
  have z1 : fgt 0 0 = false := by decide +kernel
  cases hK : inR a4 (clN a0) with
  | false =>
    have hV : (inR a4 (clN a0) && inR a5 4) = false := by rw [hK]; rfl
    have hno : ¬ (inR a4 (clN a0) = true ∧ inR a5 4 = true) := by rw [hK]; simp
    have MI := fun v => middle_no a0 a4 v hK
    have LE := fun v => len_no a0 a4 a5 v hno
    have GA := fun v (_ : Ab w v) => gap_no a0 a4 a5 v hno
    have AR := fun v => area_no a0 a4 v hK
    cases hT : thB8 (clN a0) a0 a1 a2 a3 with
    | false => exact none_fff a0 a1 a2 a3 a4 a5 (clN a0) z1 w hT hK hV AWK CE (corner_gone hT) MI SM LE GA AR RB
    | true =>
      obtain ⟨v1, v2, v3, CO⟩ := corner_there hT
      exact none_tff a0 a1 a2 a3 a4 a5 (clN a0) v1 v2 v3 z1 w hT hK hV AWK CE CO MI SM LE GA AR RB
  | true =>
    obtain ⟨n, c, rfl, rfl, hn, hc⟩ := nat_cell hK
    have MI := fun v => middle_ok n c v hn hc
    have AR := fun v => area_ok n c v hn hc
    have hA : 0 < arI (ArC n c) := by have := (arI_le (ArC_le hn hc)).1; omega
    cases hO : inR a5 4 with
    | false =>
      have hV : (inR (c : Int) (clN n) && inR a5 4) = false := by rw [hO]; simp
      have hno : ¬ (inR (c : Int) (clN n) = true ∧ inR a5 4 = true) := by rw [hO]; simp
      have LE := fun v => len_no n c a5 v hno
      have GA := fun v (_ : Ab w v) => gap_no n c a5 v hno
      cases hT : thB8 (clN n) n a1 a2 a3 with
      | false => exact none_ftf n a1 a2 a3 c a5 (clN n) _ _ _ _ hA z1 w hT hK hV AWK CE (corner_gone hT) MI SM LE GA AR RB
      | true =>
        obtain ⟨v1, v2, v3, CO⟩ := corner_there hT
        exact none_ttf n a1 a2 a3 c a5 (clN n) v1 v2 v3 _ _ _ _ hA z1 w hT hK hV AWK CE CO MI SM LE GA AR RB
    | true =>
      have hV : (inR (c : Int) (clN n) && inR a5 4) = true := by rw [hK, hO]; rfl
      obtain ⟨o1, o2⟩ := inR_iff.1 hO
      obtain ⟨s, rfl⟩ := Int.eq_ofNat_of_zero_le o1
      have hs : s < 4 := by omega
      have LE := fun v => len_ok n c s v hn hc hs
      have GA := fun v (hv : Ab w v) => gap_ok n c s v hn hc hs (h.to hv)
      have L1 := (two_cmp (LnC_le hn hc hs).1 (LnC_le hn hc hs).2).1
      have G1 := (two_cmp (GpC_le hn hc hs).1 (GpC_le hn hc hs).2).1
      cases hT : thB8 (clN n) n a1 a2 a3 with
      | false => exact none_ftt n a1 a2 a3 c s (clN n) _ _ _ _ hA _ _ L1 G1 w hT hK hV AWK CE (corner_gone hT) MI SM LE GA AR RB
      | true =>
        obtain ⟨v1, v2, v3, CO⟩ := corner_there hT
        exact none_ttt n a1 a2 a3 c s (clN n) v1 v2 v3 _ _ _ _ hA _ _ L1 G1 w hT hK hV AWK CE CO MI SM LE GA AR RB
end Go.Proofs.YtjkanehlbklnnaaDoor
