/-
  After, in the reference, and of all numbers: contracts.
-/
import Derived.Test.YthmljifkncfjgaaDoorXd
namespace Go.Proofs.YthmljifkncfjgaaDoor
open Go.RowKit Cu
theorem nest_no {α : Type} {a x b y c z : Int} {T E : α} (h : ¬ (a = x ∧ b = y ∧ c = z)) : (if a = x then if b = y then if c = z then T else E else E else E) = E := by
  by_cases h1 : a = x
  · by_cases h2 : b = y
    · rw [if_pos h1, if_pos h2, if_neg (fun h3 => h ⟨h1, h2, h3⟩)]
    · rw [if_pos h1, if_neg h2]
  · rw [if_neg h1]
set_option maxHeartbeats 8000000 in
theorem rafter_ok (u t : Nat) (w : World) (hu : u < 24) (ht : t < 24) :
    Calls Tryd.prog 17 #[.int .i64 u, .int .i64 t] w fun e w' => e = .returned (.int .i64 (aft u t)) ∧ Below w.heap.size w w' := by
  obtain ⟨k0, hk0⟩ : ∃ k, aft u t = k := ⟨_, rfl⟩
  obtain ⟨k1, k2, k3, k4⟩ := aft_tab u hu t ht
  rw [hk0] at k1 k2 k3 k4
  rw [hk0]
  obtain ⟨px, hpx⟩ : ∃ p, ro u (rX t) = p := ⟨_, rfl⟩
  obtain ⟨py, hpy⟩ : ∃ p, ro u (rY t) = p := ⟨_, rfl⟩
  rw [hpx] at k2
  rw [hpy] at k3
  have TX0 : Hid (∀ v, Calls Tryd.prog 34 #[.int .i64 u, .agg #[.int .i64 (rX t).1, .int .i64 (rX t).2.1, .int .i64 (rX t).2.2]] v fun e w' => e = .returned (.agg #[.int .i64 px.1, .int .i64 px.2.1, .int .i64 px.2.2]) ∧ Below v.heap.size v w') := fun v => by rw [← hpx]; exact turned_at u (rX t) v hu (Un.le (un_rX t ht))
  have TY0 : Hid (∀ v, Calls Tryd.prog 34 #[.int .i64 u, .agg #[.int .i64 (rY t).1, .int .i64 (rY t).2.1, .int .i64 (rY t).2.2]] v fun e w' => e = .returned (.agg #[.int .i64 py.1, .int .i64 py.2.1, .int .i64 py.2.2]) ∧ Below v.heap.size v w') := fun v => by rw [← hpy]; exact turned_at u (rY t) v hu (Un.le (un_rY t ht))
  have IM := hid (images_at t w ht)
  have IK := hid (fun (k : Nat) (hk : k < 24) v => images_at k v hk)
  have K2 := hid k2
  have K3 := hid k3
  have K1 := hid k1
  have uu : (u : Int) < 24 := by omega
  have tt : (t : Int) < 24 := by omega
  clear hk0 k2 k3 k4 hpx hpy
  go_enter Tryd.func17, Tryd.ntmps17
  go_wp2_with fail
  refine IM.out.mono ?_
  rintro e w1 ⟨rfl, b1⟩
  go_wp2
  generalize hW : World.alloc _ _ = W
  obtain ⟨g5, hg5⟩ : ∃ g, w1.heap.size = g := ⟨_, rfl⟩
  have r5 : W.heap[g5]? = some (.cells #[.int .i64 (rX t).1, .int .i64 (rX t).2.1, .int .i64 (rX t).2.2] 58) := by
    rw [← hW, ← hg5, Below.heap_alloc _ _ _ (by simp; omega)]; exact heap_alloc2_old _ _ _
  have r6 : W.heap[g5 + 1]? = some (.cells #[.int .i64 (rY t).1, .int .i64 (rY t).2.1, .int .i64 (rY t).2.2] 58) := by
    rw [← hW, ← hg5, Below.heap_alloc _ _ _ (by simp)]; exact heap_alloc2_new _ _ _
  have aw : Ab w1 W := by rw [← hW]; exact bl3 _ _ _ _
  have AW := hid (Ab.trans b1 aw)
  have R5 := hid r5
  have R6 := hid r6
  rw [hg5]
  clear hW hg5 r5 r6 aw b1 IM
  go_loopw [8] (fun iv wr => ∃ k : Nat, k ≤ k0 ∧ iv = .int .i64 (k : Nat) ∧ Ab W wr) (fun iv _ => k0 - (intOf iv).toNat)
  case atStart => exact ⟨0, by omega, rfl, Ab.refl _⟩
  case round =>
    obtain ⟨k, hk, rfl, A⟩ := hrel
    have hk24 : k < 24 := by have := K1.out; omega
    have hk' : (k : Int) < 24 := by omega
    have I1 := hid (IK.out k hk24 wr)
    have AA := hid A
    clear A IK
    go_wp2_with fail
    refine I1.out.mono ?_
    rintro e w2 ⟨rfl, b2⟩
    go_upto_region 8 with fail
    generalize hQ : World.alloc _ _ = Q
    obtain ⟨g9, hg9⟩ : ∃ g, w2.heap.size = g := ⟨_, rfl⟩
    have r9 : Q.heap[g9]? = some (.cells #[.int .i64 (rX k).1, .int .i64 (rX k).2.1, .int .i64 (rX k).2.2] 58) := by
      rw [← hQ, ← hg9, Below.heap_alloc _ _ _ (by simp; omega)]; exact heap_alloc2_old _ _ _
    have r10 : Q.heap[g9 + 1]? = some (.cells #[.int .i64 (rY k).1, .int .i64 (rY k).2.1, .int .i64 (rY k).2.2] 58) := by
      rw [← hQ, ← hg9, Below.heap_alloc _ _ _ (by simp)]; exact heap_alloc2_new _ _ _
    have aq : Ab w2 Q := by rw [← hQ]; exact bl3 _ _ _ _
    have A2 := (AA.out.call b2).trans aq
    have AQ := hid A2
    have r5 := A2.heap R5.out
    have r6 := A2.heap R6.out
    rw [hg9]
    clear hQ hg9 aq b2 I1 A2
    obtain ⟨U, F, hF1, hF2⟩ := cls Q
    have HF := hid hF2
    have HF1 := hid hF1
    have x0 : ∀ v, (F v).cell? ⟨g9, 0, none⟩ = some (.int .i64 (rX k).1) := fun v => cell_of_row _ _ 0 _ _ _ ((hF1 v).heap r9)
    have x1 : ∀ v, (F v).cell? ⟨g9, 1, none⟩ = some (.int .i64 (rX k).2.1) := fun v => cell_of_row _ _ 1 _ _ _ ((hF1 v).heap r9)
    have x2 : ∀ v, (F v).cell? ⟨g9, 2, none⟩ = some (.int .i64 (rX k).2.2) := fun v => cell_of_row _ _ 2 _ _ _ ((hF1 v).heap r9)
    have y0 : ∀ v, (F v).cell? ⟨g9 + 1, 0, none⟩ = some (.int .i64 (rY k).1) := fun v => cell_of_row _ _ 0 _ _ _ ((hF1 v).heap r10)
    have y1 : ∀ v, (F v).cell? ⟨g9 + 1, 1, none⟩ = some (.int .i64 (rY k).2.1) := fun v => cell_of_row _ _ 1 _ _ _ ((hF1 v).heap r10)
    have y2 : ∀ v, (F v).cell? ⟨g9 + 1, 2, none⟩ = some (.int .i64 (rY k).2.2) := fun v => cell_of_row _ _ 2 _ _ _ ((hF1 v).heap r10)
    have z0 : ∀ v, (F v).cell? ⟨g5, 0, none⟩ = some (.int .i64 (rX t).1) := fun v => cell_of_row _ _ 0 _ _ _ ((hF1 v).heap r5)
    have z1 : ∀ v, (F v).cell? ⟨g5, 1, none⟩ = some (.int .i64 (rX t).2.1) := fun v => cell_of_row _ _ 1 _ _ _ ((hF1 v).heap r5)
    have z2 : ∀ v, (F v).cell? ⟨g5, 2, none⟩ = some (.int .i64 (rX t).2.2) := fun v => cell_of_row _ _ 2 _ _ _ ((hF1 v).heap r5)
    have q0 : ∀ v, (F v).cell? ⟨g5 + 1, 0, none⟩ = some (.int .i64 (rY t).1) := fun v => cell_of_row _ _ 0 _ _ _ ((hF1 v).heap r6)
    have q1 : ∀ v, (F v).cell? ⟨g5 + 1, 1, none⟩ = some (.int .i64 (rY t).2.1) := fun v => cell_of_row _ _ 1 _ _ _ ((hF1 v).heap r6)
    have q2 : ∀ v, (F v).cell? ⟨g5 + 1, 2, none⟩ = some (.int .i64 (rY t).2.2) := fun v => cell_of_row _ _ 2 _ _ _ ((hF1 v).heap r6)
    have TX := hid (fun v => TX0.out (F v))
    have TY := hid (fun v => TY0.out (F v))
    have D := HF.out _ (Ab.refl Q).drew
    have HK := hid hk
    have NE : Hid (k ≠ k0 → k < k0) := fun h => by have := HK.out; omega
    clear hF1 hF2 r5 r6 r9 r10 hk TX0 TY0
    by_cases h1 : rX k = px
    · by_cases h2 : rY k = py
      · have HEK : Hid (k = k0) := rot_inj k0 K1.out k hk24 (h1.trans K2.out.symm) (h2.trans K3.out.symm)
        subst h1
        subst h2
        refine region_cls F (by kernel_rfl) (by kernel_rfl) D ?_
        repeat (go_big_quiet_step (first
          | rfl
          | (go_at_call_of 34 (rX t); exact calls_cls HF HF1 (TX.out _))
          | (go_at_call_of 34 (rY t); exact calls_cls HF HF1 (TY.out _))))
        refine wpQuiet_nil ?_
        intro wz hwz
        obtain ⟨v, rfl⟩ := hwz
        have AV := hid (AQ.out.trans (HF1.out v))
        go_wp2
        go_ret
        exact ⟨by first | rfl | (rw [HEK.out]; rfl) | (simp [HEK.out]), AW.out.trans AV.out⟩
      · have HLT : Hid (k < k0) := NE.out (fun e => h2 (by rw [e]; exact K3.out))
        subst h1
        have N1 : Hid (¬ ((rY k).1 = py.1 ∧ (rY k).2.1 = py.2.1 ∧ (rY k).2.2 = py.2.2)) := fun e => h2 (Prod.ext e.1 (Prod.ext e.2.1 e.2.2))
        clear h2
        refine region_cls F (by kernel_rfl) (by kernel_rfl) D ?_
        repeat (go_big_quiet_step (first
          | rfl
          | (rw [nest_no N1.out]; exact ⟨rfl, rfl⟩)
          | (go_at_call_of 34 (rX t); exact calls_cls HF HF1 (TX.out _))
          | (go_at_call_of 34 (rY t); exact calls_cls HF HF1 (TY.out _))))
        refine wpQuiet_nil ?_
        intro wz hwz
        obtain ⟨v, rfl⟩ := hwz
        have AV := hid (AQ.out.trans (HF1.out v))
        go_wp2
        go_roundw
        case rel => exact ⟨k + 1, by have := HLT.out; omega, by simp, AV.out⟩
        case measure => have := HLT.out; simp [intOf]; omega
    · have HLT : Hid (k < k0) := NE.out (fun e => h1 (by rw [e]; exact K2.out))
      have N1 : Hid (¬ ((rX k).1 = px.1 ∧ (rX k).2.1 = px.2.1 ∧ (rX k).2.2 = px.2.2)) := fun e => h1 (Prod.ext e.1 (Prod.ext e.2.1 e.2.2))
      clear h1
      refine region_cls F (by kernel_rfl) (by kernel_rfl) D ?_
      repeat (go_big_quiet_step (first
        | rfl
        | (rw [nest_no N1.out]; exact ⟨rfl, rfl⟩)
        | (go_at_call_of 34 (rX t); exact calls_cls HF HF1 (TX.out _))
        | (go_at_call_of 34 (rY t); exact calls_cls HF HF1 (TY.out _))))
      refine wpQuiet_nil ?_
      intro wz hwz
      obtain ⟨v, rfl⟩ := hwz
      have AV := hid (AQ.out.trans (HF1.out v))
      go_wp2
      go_roundw
      case rel => exact ⟨k + 1, by have := HLT.out; omega, by simp, AV.out⟩
      case measure => have := HLT.out; simp [intOf]; omega

/-- After of all numbers -/
def afN (s f : Int) : Int := if (0 ≤ s ∧ s < 24) ∧ (0 ≤ f ∧ f < 24) then (aft s.toNat f.toNat : Nat) else -1
set_option maxHeartbeats 2000000 in
theorem after_at (s f : Int) (w : World) (h : Fr w) : Calls Tryd.prog 16 #[.int .i64 s, .int .i64 f] w fun e w' => e = .returned (.int .i64 (afN s f)) ∧ Below w.heap.size w w' := by
  by_cases h1 : (0 ≤ s ∧ s < 24) ∧ (0 ≤ f ∧ f < 24)
  · have := after_ok s.toNat f.toNat w (by omega) (by omega) h
    rw [show ((s.toNat : Nat) : Int) = s by omega, show ((f.toNat : Nat) : Int) = f by omega] at this
    unfold afN
    rw [if_pos h1]
    exact this
  · unfold afN
    rw [if_neg h1]
    have K := hid (fun k w => counts_at k 24 w)
    by_cases hs : inR s 24 = true
    · have hf : inR f 24 = false := by rw [inR_no]; rw [inR_iff] at hs; omega
      clear h1
      go_enter Tryd.func16, Tryd.ntmps16
      go_wp2_with (go_at_call 21; refine (K.out _ _).mono ?_; rintro e w' ⟨rfl, rfl⟩)
      go_ret
      exact ⟨rfl, Below.refl _ _⟩
    · have hs' : inR s 24 = false := by simpa using hs
      clear h1 hs
      go_enter Tryd.func16, Tryd.ntmps16
      go_wp2_with (go_at_call 21; refine (K.out _ _).mono ?_; rintro e w' ⟨rfl, rfl⟩)
      go_ret
      exact ⟨rfl, Below.refl _ _⟩
set_option maxHeartbeats 2000000 in
theorem rafter_at (s f : Int) (w : World) : Calls Tryd.prog 17 #[.int .i64 s, .int .i64 f] w fun e w' => e = .returned (.int .i64 (afN s f)) ∧ Below w.heap.size w w' := by
  by_cases h1 : (0 ≤ s ∧ s < 24) ∧ (0 ≤ f ∧ f < 24)
  · have := rafter_ok s.toNat f.toNat w (by omega) (by omega)
    rw [show ((s.toNat : Nat) : Int) = s by omega, show ((f.toNat : Nat) : Int) = f by omega] at this
    unfold afN
    rw [if_pos h1]
    exact this
  · unfold afN
    rw [if_neg h1]
    rcases (show f < 0 ∨ (0 ≤ f ∧ 23 < f) ∨ ((0 ≤ f ∧ f ≤ 23) ∧ s < 0) ∨ ((0 ≤ f ∧ f ≤ 23) ∧ 0 ≤ s ∧ 23 < s) by omega) with k | k | k | k <;> clear h1
    · go_enter Tryd.func17, Tryd.ntmps17
      go_wp2
      go_ret
      exact ⟨rfl, Below.refl _ _⟩
    · go_enter Tryd.func17, Tryd.ntmps17
      go_wp2
      go_ret
      exact ⟨rfl, Below.refl _ _⟩
    · go_enter Tryd.func17, Tryd.ntmps17
      go_wp2
      go_ret
      exact ⟨rfl, Below.refl _ _⟩
    · go_enter Tryd.func17, Tryd.ntmps17
      go_wp2
      go_ret
      exact ⟨rfl, Below.refl _ _⟩
end Go.Proofs.YthmljifkncfjgaaDoor
