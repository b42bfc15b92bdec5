/-
  Rotations of package cube: contracts.
-/
import Derived.Test.YtdgkmaamjdglmaaDoorKi
import Derived.Deep.MidRow
namespace Go.Proofs.YtdgkmaamjdglmaaDoor
open Go.RowKit Cu
/-- all cells of the table -/
def frl : List Value := [.int .i64 (cC 0).1, .int .i64 (cC 0).2.1, .int .i64 (cC 0).2.2, .int .i64 (cR 0).1, .int .i64 (cR 0).2.1, .int .i64 (cR 0).2.2, .int .i64 (cU 0).1, .int .i64 (cU 0).2.1, .int .i64 (cU 0).2.2, .int .i64 (cC 1).1, .int .i64 (cC 1).2.1, .int .i64 (cC 1).2.2, .int .i64 (cR 1).1, .int .i64 (cR 1).2.1, .int .i64 (cR 1).2.2, .int .i64 (cU 1).1, .int .i64 (cU 1).2.1, .int .i64 (cU 1).2.2, .int .i64 (cC 2).1, .int .i64 (cC 2).2.1, .int .i64 (cC 2).2.2, .int .i64 (cR 2).1, .int .i64 (cR 2).2.1, .int .i64 (cR 2).2.2, .int .i64 (cU 2).1, .int .i64 (cU 2).2.1, .int .i64 (cU 2).2.2, .int .i64 (cC 3).1, .int .i64 (cC 3).2.1, .int .i64 (cC 3).2.2, .int .i64 (cR 3).1, .int .i64 (cR 3).2.1, .int .i64 (cR 3).2.2, .int .i64 (cU 3).1, .int .i64 (cU 3).2.1, .int .i64 (cU 3).2.2, .int .i64 (cC 4).1, .int .i64 (cC 4).2.1, .int .i64 (cC 4).2.2, .int .i64 (cR 4).1, .int .i64 (cR 4).2.1, .int .i64 (cR 4).2.2, .int .i64 (cU 4).1, .int .i64 (cU 4).2.1, .int .i64 (cU 4).2.2, .int .i64 (cC 5).1, .int .i64 (cC 5).2.1, .int .i64 (cC 5).2.2, .int .i64 (cR 5).1, .int .i64 (cR 5).2.1, .int .i64 (cR 5).2.2, .int .i64 (cU 5).1, .int .i64 (cU 5).2.1, .int .i64 (cU 5).2.2]
theorem fr_range {w : World} (h : Fr w) : w.rangeAt 0 0 frl := by
  intro j v hv
  rw [Nat.zero_add]
  match j, hv with
  | 0, hv => cases (show some (Value.int .i64 (cC 0).1) = some v from hv); exact (h.2 0 (by decide)).1.1
  | 1, hv => cases (show some (Value.int .i64 (cC 0).2.1) = some v from hv); exact (h.2 0 (by decide)).1.2.1
  | 2, hv => cases (show some (Value.int .i64 (cC 0).2.2) = some v from hv); exact (h.2 0 (by decide)).1.2.2
  | 3, hv => cases (show some (Value.int .i64 (cR 0).1) = some v from hv); exact (h.2 0 (by decide)).2.1.1
  | 4, hv => cases (show some (Value.int .i64 (cR 0).2.1) = some v from hv); exact (h.2 0 (by decide)).2.1.2.1
  | 5, hv => cases (show some (Value.int .i64 (cR 0).2.2) = some v from hv); exact (h.2 0 (by decide)).2.1.2.2
  | 6, hv => cases (show some (Value.int .i64 (cU 0).1) = some v from hv); exact (h.2 0 (by decide)).2.2.1
  | 7, hv => cases (show some (Value.int .i64 (cU 0).2.1) = some v from hv); exact (h.2 0 (by decide)).2.2.2.1
  | 8, hv => cases (show some (Value.int .i64 (cU 0).2.2) = some v from hv); exact (h.2 0 (by decide)).2.2.2.2
  | 9, hv => cases (show some (Value.int .i64 (cC 1).1) = some v from hv); exact (h.2 1 (by decide)).1.1
  | 10, hv => cases (show some (Value.int .i64 (cC 1).2.1) = some v from hv); exact (h.2 1 (by decide)).1.2.1
  | 11, hv => cases (show some (Value.int .i64 (cC 1).2.2) = some v from hv); exact (h.2 1 (by decide)).1.2.2
  | 12, hv => cases (show some (Value.int .i64 (cR 1).1) = some v from hv); exact (h.2 1 (by decide)).2.1.1
  | 13, hv => cases (show some (Value.int .i64 (cR 1).2.1) = some v from hv); exact (h.2 1 (by decide)).2.1.2.1
  | 14, hv => cases (show some (Value.int .i64 (cR 1).2.2) = some v from hv); exact (h.2 1 (by decide)).2.1.2.2
  | 15, hv => cases (show some (Value.int .i64 (cU 1).1) = some v from hv); exact (h.2 1 (by decide)).2.2.1
  | 16, hv => cases (show some (Value.int .i64 (cU 1).2.1) = some v from hv); exact (h.2 1 (by decide)).2.2.2.1
  | 17, hv => cases (show some (Value.int .i64 (cU 1).2.2) = some v from hv); exact (h.2 1 (by decide)).2.2.2.2
  | 18, hv => cases (show some (Value.int .i64 (cC 2).1) = some v from hv); exact (h.2 2 (by decide)).1.1
  | 19, hv => cases (show some (Value.int .i64 (cC 2).2.1) = some v from hv); exact (h.2 2 (by decide)).1.2.1
  | 20, hv => cases (show some (Value.int .i64 (cC 2).2.2) = some v from hv); exact (h.2 2 (by decide)).1.2.2
  | 21, hv => cases (show some (Value.int .i64 (cR 2).1) = some v from hv); exact (h.2 2 (by decide)).2.1.1
  | 22, hv => cases (show some (Value.int .i64 (cR 2).2.1) = some v from hv); exact (h.2 2 (by decide)).2.1.2.1
  | 23, hv => cases (show some (Value.int .i64 (cR 2).2.2) = some v from hv); exact (h.2 2 (by decide)).2.1.2.2
  | 24, hv => cases (show some (Value.int .i64 (cU 2).1) = some v from hv); exact (h.2 2 (by decide)).2.2.1
  | 25, hv => cases (show some (Value.int .i64 (cU 2).2.1) = some v from hv); exact (h.2 2 (by decide)).2.2.2.1
  | 26, hv => cases (show some (Value.int .i64 (cU 2).2.2) = some v from hv); exact (h.2 2 (by decide)).2.2.2.2
  | 27, hv => cases (show some (Value.int .i64 (cC 3).1) = some v from hv); exact (h.2 3 (by decide)).1.1
  | 28, hv => cases (show some (Value.int .i64 (cC 3).2.1) = some v from hv); exact (h.2 3 (by decide)).1.2.1
  | 29, hv => cases (show some (Value.int .i64 (cC 3).2.2) = some v from hv); exact (h.2 3 (by decide)).1.2.2
  | 30, hv => cases (show some (Value.int .i64 (cR 3).1) = some v from hv); exact (h.2 3 (by decide)).2.1.1
  | 31, hv => cases (show some (Value.int .i64 (cR 3).2.1) = some v from hv); exact (h.2 3 (by decide)).2.1.2.1
  | 32, hv => cases (show some (Value.int .i64 (cR 3).2.2) = some v from hv); exact (h.2 3 (by decide)).2.1.2.2
  | 33, hv => cases (show some (Value.int .i64 (cU 3).1) = some v from hv); exact (h.2 3 (by decide)).2.2.1
  | 34, hv => cases (show some (Value.int .i64 (cU 3).2.1) = some v from hv); exact (h.2 3 (by decide)).2.2.2.1
  | 35, hv => cases (show some (Value.int .i64 (cU 3).2.2) = some v from hv); exact (h.2 3 (by decide)).2.2.2.2
  | 36, hv => cases (show some (Value.int .i64 (cC 4).1) = some v from hv); exact (h.2 4 (by decide)).1.1
  | 37, hv => cases (show some (Value.int .i64 (cC 4).2.1) = some v from hv); exact (h.2 4 (by decide)).1.2.1
  | 38, hv => cases (show some (Value.int .i64 (cC 4).2.2) = some v from hv); exact (h.2 4 (by decide)).1.2.2
  | 39, hv => cases (show some (Value.int .i64 (cR 4).1) = some v from hv); exact (h.2 4 (by decide)).2.1.1
  | 40, hv => cases (show some (Value.int .i64 (cR 4).2.1) = some v from hv); exact (h.2 4 (by decide)).2.1.2.1
  | 41, hv => cases (show some (Value.int .i64 (cR 4).2.2) = some v from hv); exact (h.2 4 (by decide)).2.1.2.2
  | 42, hv => cases (show some (Value.int .i64 (cU 4).1) = some v from hv); exact (h.2 4 (by decide)).2.2.1
  | 43, hv => cases (show some (Value.int .i64 (cU 4).2.1) = some v from hv); exact (h.2 4 (by decide)).2.2.2.1
  | 44, hv => cases (show some (Value.int .i64 (cU 4).2.2) = some v from hv); exact (h.2 4 (by decide)).2.2.2.2
  | 45, hv => cases (show some (Value.int .i64 (cC 5).1) = some v from hv); exact (h.2 5 (by decide)).1.1
  | 46, hv => cases (show some (Value.int .i64 (cC 5).2.1) = some v from hv); exact (h.2 5 (by decide)).1.2.1
  | 47, hv => cases (show some (Value.int .i64 (cC 5).2.2) = some v from hv); exact (h.2 5 (by decide)).1.2.2
  | 48, hv => cases (show some (Value.int .i64 (cR 5).1) = some v from hv); exact (h.2 5 (by decide)).2.1.1
  | 49, hv => cases (show some (Value.int .i64 (cR 5).2.1) = some v from hv); exact (h.2 5 (by decide)).2.1.2.1
  | 50, hv => cases (show some (Value.int .i64 (cR 5).2.2) = some v from hv); exact (h.2 5 (by decide)).2.1.2.2
  | 51, hv => cases (show some (Value.int .i64 (cU 5).1) = some v from hv); exact (h.2 5 (by decide)).2.2.1
  | 52, hv => cases (show some (Value.int .i64 (cU 5).2.1) = some v from hv); exact (h.2 5 (by decide)).2.2.2.1
  | 53, hv => cases (show some (Value.int .i64 (cU 5).2.2) = some v from hv); exact (h.2 5 (by decide)).2.2.2.2
  | j + 54, hv => cases (show none = some v from hv)
theorem frl_size : frl.length = 54 := rfl
/-- the faces at right angles to face F, of the first k -/
def acL (F : Nat) : Nat → List Value
  | 0 => []
  | k + 1 => acL F k ++ (if dt (cC k) (cC F) = 0 then [.int .i64 (cC k).1, .int .i64 (cC k).2.1, .int .i64 (cC k).2.2] else [])
def acN (F : Nat) : Nat → Nat
  | 0 => 0
  | k + 1 => acN F k + (if dt (cC k) (cC F) = 0 then 1 else 0)
theorem acN_le (F k : Nat) : acN F k ≤ k := by
  induction k with
  | zero => simp [acN]
  | succ k ih => simp only [acN]; split <;> omega
theorem acN_six : ∀ F < 6, acN F 6 = 4 := by decide +kernel
theorem acL_six : ∀ F < 6, acL F 6 = (List.range 4).flatMap fun k => [.int .i64 (cC (prp F k)).1, .int .i64 (cC (prp F k)).2.1, .int .i64 (cC (prp F k)).2.2] := by
  intro F hF
  rcases six hF with rfl | rfl | rfl | rfl | rfl | rfl <;> rfl
theorem acL_get {F k : Nat} (hF : F < 6) (hk : k < 4) : (acL F 6)[k * 3]? = some (.int .i64 (cC (prp F k)).1) ∧ (acL F 6)[k * 3 + 1]? = some (.int .i64 (cC (prp F k)).2.1) ∧ (acL F 6)[k * 3 + 2]? = some (.int .i64 (cC (prp F k)).2.2) := by
  rcases six hF with rfl | rfl | rfl | rfl | rfl | rfl <;> rcases four hk with rfl | rfl | rfl | rfl <;> exact ⟨rfl, rfl, rfl⟩
theorem set9 {W w : World} {g : Nat} {x0 x1 x2 x3 x4 x5 x6 x7 x8 : Value} {T : TypeId} (h : Abx W g 9 T w) :
    (((((((((w.setCell ⟨g, 0, none⟩ x0).setCell ⟨g, 1, none⟩ x1).setCell ⟨g, 2, none⟩ x2).setCell ⟨g, 3, none⟩ x3).setCell ⟨g, 4, none⟩ x4).setCell ⟨g, 5, none⟩ x5).setCell ⟨g, 6, none⟩ x6).setCell ⟨g, 7, none⟩ x7).setCell ⟨g, 8, none⟩ x8).heap[g]? = some (.cells #[x0, x1, x2, x3, x4, x5, x6, x7, x8] T) := by
  obtain ⟨_, cs, h6, h⟩ := h
  obtain ⟨a, b, c, d, e, f, i, j, k, rfl⟩ : ∃ a b c d e f i j k, cs = #[a, b, c, d, e, f, i, j, k] := by
    rcases cs with ⟨l⟩
    match l, h6 with
    | [a, b, c, d, e, f, i, j, k], _ => exact ⟨a, b, c, d, e, f, i, j, k, rfl⟩
  have h10 := one_set (v := x0) (k := 0) h
  have h11 := one_set (v := x1) (k := 1) h10
  have h12 := one_set (v := x2) (k := 2) h11
  have h13 := one_set (v := x3) (k := 3) h12
  have h14 := one_set (v := x4) (k := 4) h13
  have h15 := one_set (v := x5) (k := 5) h14
  have h16 := one_set (v := x6) (k := 6) h15
  have h17 := one_set (v := x7) (k := 7) h16
  have h18 := one_set (v := x8) (k := 8) h17
  simpa using h18
theorem info_pt3 : (Tryd.prog.info? 53).map (fun i => (i.zero, i.size, i.bytes)) = some (some (.agg #[.int .i64 0, .int .i64 0, .int .i64 0]), 3, 24) := by kernel_rfl
set_option maxHeartbeats 4000000 in
theorem rotationOf_at (t : Nat) (w : World) (ht : t < 24) (h : Fr w) :
    Calls Tryd.prog 39 #[.int .i64 t] w fun e w' => e = .returned (.agg #[.int .i64 (rX t).1, .int .i64 (rX t).2.1, .int .i64 (rX t).2.2, .int .i64 (rY t).1, .int .i64 (rY t).2.1, .int .i64 (rY t).2.2, .int .i64 (rZ t).1, .int .i64 (rZ t).2.1, .int .i64 (rZ t).2.2]) ∧ Below w.heap.size w w' := by
  obtain ⟨F, hF⟩ : ∃ F, t / 4 = F := ⟨_, rfl⟩
  obtain ⟨m, hm⟩ : ∃ m, t % 4 = m := ⟨_, rfl⟩
  have hF6 : F < 6 := by omega
  have hm4 : m < 4 := by omega
  have v1 : (t : Int).tdiv 4 = F := by rw [Int.tdiv_eq_ediv_of_nonneg (by omega)]; omega
  have v2 : (t : Int).tmod 4 = m := by rw [Int.tmod_eq_emod_of_nonneg (by omega)]; omega
  have hF' : (F : Int) < 6 := by omega
  obtain ⟨⟨k0, k1, k2⟩, _, _⟩ := h.2 F hF6
  have h0 := h.1
  have HR := hid (fr_range h)
  have eX : rX t = cC F := by unfold rX; rw [hF]
  have eY : rY t = cC (prp F m) := by unfold rY; rw [hF, hm]
  have eZ : rZ t = cx (cC F) (cC (prp F m)) := by unfold rZ; rw [eX, eY]
  rw [eX, eY, eZ]
  clear eX eY eZ
  have H := hid h
  have V1 := hid v1
  have V2 := hid v2
  clear h
  go_enter Tryd.func39, Tryd.ntmps39
  go_wp2_with (refine wpList_load_mid rfl 61 _ rfl 0 0 rfl frl _ ?_ Tryd.underlying61 rfl (by kernel_rfl) ?_; (exact fr_range (H.out.to (bl2 _ _ _))))
  generalize hCS : frl.toArray = CS
  generalize hW : World.alloc _ _ = W
  have hp : ∀ k : Nat, k < 6 → ∀ w, (Instr.index 61 (.agg CS) (.int .i64 (k : Nat))).run Tryd.prog w = .ok (.agg #[.int .i64 (cC k).1, .int .i64 (cC k).2.1, .int .i64 (cC k).2.2, .int .i64 (cR k).1, .int .i64 (cR k).2.1, .int .i64 (cR k).2.2, .int .i64 (cU k).1, .int .i64 (cU k).2.1, .int .i64 (cU k).2.2]) w := by
    intro k hk w
    rw [← hCS]
    rcases six hk with rfl | rfl | rfl | rfl | rfl | rfl <;> kernel_rfl
  have z1 : Hid (W.heap.size = w.heap.size + 2) := by rw [← hW]; simp [Hid]
  have AW : Hid (Ab w W) := by rw [← hW]; exact bl2 _ _ _
  have r2 : Hid (W.heap[w.heap.size]? = some (.cells #[.int .i64 0, .int .i64 0, .int .i64 0, .int .i64 0, .int .i64 0, .int .i64 0, .int .i64 0, .int .i64 0, .int .i64 0] 75)) := by rw [← hW]; exact heap_alloc2_old _ _ _
  have r3 : W.heap[w.heap.size + 1]? = some (.cells #[.int .i64 (cC F).1, .int .i64 (cC F).2.1, .int .i64 (cC F).2.2] 53) := by rw [← hW]; exact heap_alloc2_new _ _ _
  have R3 := hid r3
  have HPT := hid hp
  obtain ⟨i0, hi, hz0, hz1, hz2⟩ := info_parts info_pt3
  have HI := hid hi
  clear hW r3 k0 k1 k2 v1 v2 hCS hp hi
  go_loopw [4, 14] (fun v iv wr => ∃ k : Nat, k ≤ 6 ∧ iv = .int .i64 (k : Nat) ∧ wr.ownsRow W.heap.size 53 3 v (acN F k) (acL F k) ∧ Ab W wr) (fun _ iv _ => 6 - (intOf iv).toNat)
  case atStart => exact ⟨0, by omega, rfl, World.ownsRow_nil _ _ _ _, Ab.refl _⟩
  case round =>
    obtain ⟨k, hk, rfl, hown, A⟩ := hrel
    by_cases hk6 : k < 6
    · have hk6' : (k : Int) < 6 := by omega
      have hpk := HPT.out k hk6
      have T := hid (fun u => along_ex (cC k) (cC F) u (un_C hk6).sm (un_C hF6))
      have r3 := A.heap R3.out
      obtain ⟨-, q0, q1, q2⟩ := rowfacts r3
      have hlt := lt_of_block r3
      have HO := hid hown
      have AA := hid A
      clear r3 hown A
      by_cases hd : dt (cC k) (cC F) = 0
      · rw [hd] at T
        go_wp2_with (first
          | (go_at_call 29; refine (T.out _).mono ?_; rintro e w1 ⟨rfl, rfl⟩)
          | (at_builtin; refine wpList_append_own _ rfl _ _ 86 rfl W.heap.size 53 i0 (.agg #[.int .i64 0, .int .i64 0, .int .i64 0]) 3 24 Tryd.underlying86 HI.out hz0 hz1 hz2 rfl (by decide) _ _ _ rfl ((((HO.out.alloc _).alloc _).alloc _).alloc _) ⟨wr.heap.size + 1 + 1 + 1, 0, none⟩ 1 1 [.int .i64 (cC k).1, .int .i64 (cC k).2.1, .int .i64 (cC k).2.2] rfl rfl ?c1 ?c2 ?c3 ?c4 ?c5 ?_))
        case c1 =>
          intro j u hj
          rw [Addr.add_mid, cell_of_row _ _ _ _ _ _ (heap_at _ _ _ (by simp))]
          simpa using hj
        case c2 => intro u hu; simp at hu; rcases hu with rfl | rfl | rfl <;> rfl
        case c3 => have := acN_le F k; unfold maxLen; omega
        case c4 => have := acN_le F k; omega
        case c5 => have := AA.out.size; simp; omega
        · intro v' w2 hown' hgrow _
          have e1 : acN F (k + 1) = acN F k + 1 := by simp only [acN]; rw [if_pos hd]
          have e2 : acL F (k + 1) = acL F k ++ [.int .i64 (cC k).1, .int .i64 (cC k).2.1, .int .i64 (cC k).2.2] := by simp only [acL]; rw [if_pos hd]
          rw [← e1, ← e2] at hown'
          have A2 : Ab W w2 := Below.grown (((((AA.out.alloc _).alloc _).alloc _).alloc _)) hgrow (by have := AA.out.size; simp; omega) (fun g hg => (HO.out.lt g hg).1)
          have HO' := hid hown'
          have A2' := hid A2
          clear hown' hgrow A2 e1 e2
          go_wp2
          go_roundw
          case rel => exact ⟨k + 1, by omega, by simp, HO'.out, A2'.out⟩
          case measure => simp [intOf]; omega
      · have hd' : (dt (cC k) (cC F) == 0) = false := by simpa using hd
        go_wp2_with (go_at_call 29; refine (T.out _).mono ?_; rintro e w1 ⟨rfl, rfl⟩)
        have e1 : acN F (k + 1) = acN F k := by simp only [acN]; rw [if_neg hd]; rfl
        have e2 : acL F (k + 1) = acL F k := by simp only [acL]; rw [if_neg hd]; simp
        go_roundw
        case rel => exact ⟨k + 1, by omega, by simp, by rw [e1, e2]; exact ((HO.out.alloc _).alloc _).alloc _, ((AA.out.alloc _).alloc _).alloc _⟩
        case measure => simp [intOf]; omega
    · obtain rfl : k = 6 := by omega
      have hown6 := hown
      rw [acN_six F hF6] at hown6
      obtain ⟨g, cap, rfl, hcl⟩ : ∃ g cap, u4 = .slice (some ⟨g, 0, none⟩) 4 cap ∧ True := by
        rcases hown6.2 with ⟨_, h4⟩ | ⟨g, cap, cur, hv, _⟩
        · omega
        · exact ⟨g, cap, hv, trivial⟩
      obtain ⟨l0, l1, l2⟩ := acL_get hF6 hm4
      have y0 : wr.cell? ⟨g, m * 3, none⟩ = some (.int .i64 (cC (prp F m)).1) := (hown6.cellAt _ (by omega)).trans l0
      have y1 : wr.cell? ⟨g, m * 3 + 1, none⟩ = some (.int .i64 (cC (prp F m)).2.1) := (hown6.cellAt _ (by omega)).trans l1
      have y2 : wr.cell? ⟨g, m * 3 + 2, none⟩ = some (.int .i64 (cC (prp F m)).2.2) := (hown6.cellAt _ (by omega)).trans l2
      have v2 : (t : Int) % 4 = m := by omega
      have m4 : (m : Int) < 4 := by omega
      have m0 : (0 : Int) ≤ m := by omega
      have X := hid (fun u => cuCross_at (cC F) (cC (prp F m)) u (un_C hF6) (un_C (prp_lt F hF6 m hm4)))
      have AA := hid A
      clear hown hown6 l0 l1 l2 A hk6 hk
      go_upto_region 10 with fail
      generalize hW9 : World.alloc wr _ = W9
      obtain ⟨g7, hg7⟩ : ∃ g, wr.heap.size = g := ⟨_, rfl⟩
      have A9 : Ab W W9 := by rw [← hW9]; exact AA.out.alloc _
      have r7 : W9.heap[g7]? = some (.cells #[.int .i64 (cC (prp F m)).1, .int .i64 (cC (prp F m)).2.1, .int .i64 (cC (prp F m)).2.2] 53) := by rw [← hW9, ← hg7]; exact heap_alloc_new _ _
      have hge : Hid (W.heap.size ≤ g7) := by rw [← hg7]; exact AA.out.size
      rw [hg7]
      clear hW9 hg7 y0 y1 y2 v2
      have KS : Hid (∀ w', Abx W9 w.heap.size 9 75 w' → Abx W9 w.heap.size 9 75 w' ∧ w'.cell? ⟨w.heap.size + 1, 0, none⟩ = some (.int .i64 (cC F).1) ∧ w'.cell? ⟨w.heap.size + 1, 1, none⟩ = some (.int .i64 (cC F).2.1) ∧ w'.cell? ⟨w.heap.size + 1, 2, none⟩ = some (.int .i64 (cC F).2.2) ∧ w'.cell? ⟨g7, 0, none⟩ = some (.int .i64 (cC (prp F m)).1) ∧ w'.cell? ⟨g7, 1, none⟩ = some (.int .i64 (cC (prp F m)).2.1) ∧ w'.cell? ⟨g7, 2, none⟩ = some (.int .i64 (cC (prp F m)).2.2) ∧ w'.frozen? ⟨w.heap.size, 0, none⟩ = false ∧ w'.frozen? ⟨w.heap.size, 1, none⟩ = false ∧ w'.frozen? ⟨w.heap.size, 2, none⟩ = false ∧ w'.frozen? ⟨w.heap.size, 3, none⟩ = false ∧ w'.frozen? ⟨w.heap.size, 4, none⟩ = false ∧ w'.frozen? ⟨w.heap.size, 5, none⟩ = false ∧ w'.frozen? ⟨w.heap.size, 6, none⟩ = false ∧ w'.frozen? ⟨w.heap.size, 7, none⟩ = false ∧ w'.frozen? ⟨w.heap.size, 8, none⟩ = false ∧ w'.cell? ⟨w.heap.size, 0, none⟩ = some (rv w' w.heap.size 0) ∧ w'.cell? ⟨w.heap.size, 1, none⟩ = some (rv w' w.heap.size 1) ∧ w'.cell? ⟨w.heap.size, 2, none⟩ = some (rv w' w.heap.size 2) ∧ w'.cell? ⟨w.heap.size, 3, none⟩ = some (rv w' w.heap.size 3) ∧ w'.cell? ⟨w.heap.size, 4, none⟩ = some (rv w' w.heap.size 4) ∧ w'.cell? ⟨w.heap.size, 5, none⟩ = some (rv w' w.heap.size 5) ∧ w'.cell? ⟨w.heap.size, 6, none⟩ = some (rv w' w.heap.size 6) ∧ w'.cell? ⟨w.heap.size, 7, none⟩ = some (rv w' w.heap.size 7) ∧ w'.cell? ⟨w.heap.size, 8, none⟩ = some (rv w' w.heap.size 8)) := by
        intro w' hw
        have hz := z1.out
        have hge := hge.out
        obtain ⟨-, a0, a1, a2⟩ := rowfacts (hw.heap (by omega) (A9.heap R3.out))
        obtain ⟨-, b0, b1, b2⟩ := rowfacts (hw.heap (by omega) r7)
        exact ⟨hw, a0, a1, a2, b0, b1, b2, hw.free 0, hw.free 1, hw.free 2, hw.free 3, hw.free 4, hw.free 5, hw.free 6, hw.free 7, hw.free 8, hw.some (by omega), hw.some (by omega), hw.some (by omega), hw.some (by omega), hw.some (by omega), hw.some (by omega), hw.some (by omega), hw.some (by omega), hw.some (by omega)⟩
      have A0' : Abx W9 w.heap.size 9 75 W9 := (Ab.refl W9).x rfl (A9.heap r2.out)
      have A9' := hid A9
      clear r7 R3 r2 A9
      go_region_held3 (fun w' => Abx W9 w.heap.size 9 75 w' ∧ w'.cell? ⟨w.heap.size + 1, 0, none⟩ = some (.int .i64 (cC F).1) ∧ w'.cell? ⟨w.heap.size + 1, 1, none⟩ = some (.int .i64 (cC F).2.1) ∧ w'.cell? ⟨w.heap.size + 1, 2, none⟩ = some (.int .i64 (cC F).2.2) ∧ w'.cell? ⟨g7, 0, none⟩ = some (.int .i64 (cC (prp F m)).1) ∧ w'.cell? ⟨g7, 1, none⟩ = some (.int .i64 (cC (prp F m)).2.1) ∧ w'.cell? ⟨g7, 2, none⟩ = some (.int .i64 (cC (prp F m)).2.2) ∧ w'.frozen? ⟨w.heap.size, 0, none⟩ = false ∧ w'.frozen? ⟨w.heap.size, 1, none⟩ = false ∧ w'.frozen? ⟨w.heap.size, 2, none⟩ = false ∧ w'.frozen? ⟨w.heap.size, 3, none⟩ = false ∧ w'.frozen? ⟨w.heap.size, 4, none⟩ = false ∧ w'.frozen? ⟨w.heap.size, 5, none⟩ = false ∧ w'.frozen? ⟨w.heap.size, 6, none⟩ = false ∧ w'.frozen? ⟨w.heap.size, 7, none⟩ = false ∧ w'.frozen? ⟨w.heap.size, 8, none⟩ = false ∧ w'.cell? ⟨w.heap.size, 0, none⟩ = some (rv w' w.heap.size 0) ∧ w'.cell? ⟨w.heap.size, 1, none⟩ = some (rv w' w.heap.size 1) ∧ w'.cell? ⟨w.heap.size, 2, none⟩ = some (rv w' w.heap.size 2) ∧ w'.cell? ⟨w.heap.size, 3, none⟩ = some (rv w' w.heap.size 3) ∧ w'.cell? ⟨w.heap.size, 4, none⟩ = some (rv w' w.heap.size 4) ∧ w'.cell? ⟨w.heap.size, 5, none⟩ = some (rv w' w.heap.size 5) ∧ w'.cell? ⟨w.heap.size, 6, none⟩ = some (rv w' w.heap.size 6) ∧ w'.cell? ⟨w.heap.size, 7, none⟩ = some (rv w' w.heap.size 7) ∧ w'.cell? ⟨w.heap.size, 8, none⟩ = some (rv w' w.heap.size 8)) ((refine KS.out _ ?_; (with_reducible (repeat (first | assumption | apply Abx.drew | apply Abx.set | (refine Abx.call ?_ (by assumption))))); done)) ((go_at_call 55; refine (X.out _).mono ?_; rintro e w3 ⟨rfl, b3⟩))
      have A2 := A0'.drew.call b3
      clear KS A0' X
      go_wp2
      refine bodyPost_ret ?_ rfl ⟨rfl, ?_⟩
      · exact results_cell_row Tryd.results39 _ _ w.heap.size _ _ (0, 0) _ rfl (set9 A2) Tryd.underlying75 rfl (by kernel_rfl)
      · exact (((((((((A2.set 0 _).set 1 _).set 2 _).set 3 _).set 4 _).set 5 _).set 6 _).set 7 _).set 8 _).ab (AW.out.trans A9'.out) (Nat.le_refl _)
end Go.Proofs.YtdgkmaamjdglmaaDoor
