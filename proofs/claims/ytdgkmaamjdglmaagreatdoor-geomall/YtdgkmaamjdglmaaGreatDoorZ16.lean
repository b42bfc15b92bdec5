/-
  Some of the texts of this proof, one behind the other.
-/
import Derived.Test.YtdgkmaamjdglmaaGreatDoorZ15
import Derived.Test.YtdgkmaamjdglmaaGreatDoorZ13
/-
  Beside, in the reference, at cells that are there: contract.
-/
namespace Go.Proofs.YtdgkmaamjdglmaaGreatDoor
open Go.RowKit Cu
theorem mm_two (e : P3) (k : Nat) : pl e (sc 1 (cR k)) = mm e k 2 := by simp only [mm, wy, pl, sc, Prod.mk.injEq]; omega
theorem mm_three (e : P3) (k : Nat) : pl e (sc 1 (cU k)) = mm e k 3 := by simp only [mm, wy, pl, sc, Prod.mk.injEq]; omega
theorem dt_le {p q : P3} (hp : (-200 ≤ p.1 ∧ p.1 ≤ 200) ∧ (-200 ≤ p.2.1 ∧ p.2.1 ≤ 200) ∧ (-200 ≤ p.2.2 ∧ p.2.2 ≤ 200)) (hq : Un q) : -600 ≤ dt p q ∧ dt p q ≤ 600 := by
  have h1 := (mul_un hq.1 200 hp.1).1
  have h2 := (mul_un hq.2.1 200 hp.2.1).1
  have h3 := (mul_un hq.2.2 200 hp.2.2).1
  unfold dt
  omega
theorem Sm.of_le {p : P3} (hp : (-200 ≤ p.1 ∧ p.1 ≤ 200) ∧ (-200 ≤ p.2.1 ∧ p.2.1 ≤ 200) ∧ (-200 ≤ p.2.2 ∧ p.2.2 ≤ 200)) : Sm p := by unfold Sm; omega
theorem mm_le {e : P3} {k s : Nat} (he : (-150 ≤ e.1 ∧ e.1 ≤ 150) ∧ (-150 ≤ e.2.1 ∧ e.2.1 ≤ 150) ∧ (-150 ≤ e.2.2 ∧ e.2.2 ≤ 150)) (hw : Un (wy k s)) : (-200 ≤ (mm e k s).1 ∧ (mm e k s).1 ≤ 200) ∧ (-200 ≤ (mm e k s).2.1 ∧ (mm e k s).2.1 ≤ 200) ∧ (-200 ≤ (mm e k s).2.2 ∧ (mm e k s).2.2 ≤ 200) := by
  unfold Un at hw
  simp only [mm, pl, sc]
  omega
theorem scan_all {n c B S : Nat} (d : P3) {j s : Nat} (_hs : s < 4) (he : (-150 ≤ d.1 ∧ d.1 ≤ 150) ∧ (-150 ≤ d.2.1 ∧ d.2.1 ≤ 150) ∧ (-150 ≤ d.2.2 ∧ d.2.2 ≤ 150))
    (h : (gI n d j s).tmod 2 ≠ 0 ∨ ((gI n d j s).tmod 2 = 0 ∧ (gJ n d j s).tmod 2 = 0 ∧ (gd n d j s = -1 ∨ gd n d j s = (c : Nat) ∨ (gd n d j s = (B : Nat) ∧ s = S)))) (uR : Un (cR j)) (uU : Un (cU j)) (uw : Un (wy j s)) :
    ∃ x y : Int, Hid (dt (mm d j s) (cR j) = x ∧ Sm (mm d j s) ∧ Un (cR j)) ∧ Hid (dt (mm d j s) (cU j) = y ∧ Sm (mm d j s) ∧ Un (cU j)) ∧ (-600 ≤ x ∧ x ≤ 600) ∧ (-600 ≤ y ∧ y ≤ 600) ∧
      Hid ((gI n d j s).tmod 2 ≠ 0 ∧ (x + n - 1).tmod 2 ≠ 0 ∨ ((x + n - 1).tmod 2 = 0 ∧ (y + n - 1).tmod 2 = 0 ∧ gd n d j s = cN n j ((x + n - 1).tdiv 2) ((y + n - 1).tdiv 2) ∧ (gd n d j s = -1 ∨ gd n d j s = (c : Nat) ∨ (gd n d j s = (B : Nat) ∧ s = S)))) := by
  have hm := mm_le he uw
  refine ⟨_, _, ⟨rfl, Sm.of_le hm, uR⟩, ⟨rfl, Sm.of_le hm, uU⟩, dt_le hm uR, dt_le hm uU, ?_⟩
  rcases h with h | ⟨h1, h2, h3⟩
  · exact .inl ⟨h, h⟩
  · exact .inr ⟨h1, h2, rfl, h3⟩
set_option maxHeartbeats 8000000 in
set_option maxRecDepth 100000 in
theorem rbeside_go (n c t B S k0 s0 : Nat) (d p q : P3) (w : World) (hn : 1 ≤ n ∧ n ≤ 32) (hc : c < 6 * n * n) (ht : t < 4)
    (MI : Hid (∀ u, Calls Tryz.prog 73 #[.int .i64 n, .int .i64 c] u fun e w' => e = .returned (.agg #[.int .i64 p.1, .int .i64 p.2.1, .int .i64 p.2.2]) ∧ Below u.heap.size u w'))
    (WA : Hid (∀ u, Calls Tryz.prog 74 #[.int .i64 n, .int .i64 c, .int .i64 t] u fun e w' => e = .returned (.agg #[.int .i64 q.1, .int .i64 q.2.1, .int .i64 q.2.2]) ∧ Below u.heap.size u w'))
    (PE : Hid (∀ u, Calls Tryz.prog 72 #[.agg #[.int .i64 p.1, .int .i64 p.2.1, .int .i64 p.2.2], .int .i64 1, .agg #[.int .i64 q.1, .int .i64 q.2.1, .int .i64 q.2.2]] u fun e w' => e = .returned (.agg #[.int .i64 d.1, .int .i64 d.2.1, .int .i64 d.2.2]) ∧ Below u.heap.size u w'))
    (he : (-150 ≤ d.1 ∧ d.1 ≤ 150) ∧ (-150 ≤ d.2.1 ∧ d.2.1 ≤ 150) ∧ (-150 ≤ d.2.2 ∧ d.2.2 ≤ 150))
    (hS : ∀ k < 6, ∀ s < 4, dt d (cC k) = n → (gI n d k s).tmod 2 ≠ 0 ∨ ((gI n d k s).tmod 2 = 0 ∧ (gJ n d k s).tmod 2 = 0 ∧ (gd n d k s = -1 ∨ gd n d k s = (c : Nat) ∨ (gd n d k s = (B : Nat) ∧ s = S))))
    (hH : k0 < 6 ∧ s0 < 4 ∧ dt d (cC k0) = n ∧ (gI n d k0 s0).tmod 2 = 0 ∧ (gJ n d k0 s0).tmod 2 = 0 ∧ gd n d k0 s0 = (B : Nat)) (hB : B ≠ c) :
    Calls Tryz.prog 38 #[.int .i64 n, .int .i64 c, .int .i64 t] w fun e w' => e = .returned (.tuple #[.int .i64 B, .int .i64 S]) ∧ Below w.heap.size w w' := by
  obtain ⟨m, hm⟩ : ∃ m, clN n = m := ⟨_, rfl⟩
  have C : Hid (∀ u, Calls Tryz.prog 48 #[.int .i64 n] u fun e w' => e = .returned (.int .i64 m) ∧ w' = u) := fun u => by rw [← hm]; exact rcells_at n u
  have hcm : (c : Int) < m := by rw [← hm, clN_nat hn]; omega
  have ht' : (t : Int) < 4 := by omega
  have hn1 : (1 : Int) ≤ n := by omega
  have hn2 : (n : Int) ≤ 32 := by omega
  have HE := hid he
  have HS := hid hS
  have HH := hid hH
  have HB := hid hB
  have FR := hid (fun (f : Nat) (hf : f < 6) u => rframe_at f u hf)
  have RC := hid rcell_at
  clear hm he hB hn hc ht hS hH
  go_enter Tryz.func38, Tryz.ntmps38
  go_wp2_with (first
    | (go_at_call 48; refine (C.out _).mono ?_; rintro e w ⟨rfl, rfl⟩)
    | (go_at_call 73; refine (MI.out _).mono ?_; rintro e w1 ⟨rfl, b1⟩)
    | (go_at_call 74; refine (WA.out _).mono ?_; rintro e w2 ⟨rfl, b2⟩)
    | (go_at_call 72; refine (PE.out _).mono ?_; rintro e w3 ⟨rfl, b3⟩))
  have A3 := (Ab.call b1 b2).call b3
  generalize hW : World.alloc _ _ = W
  obtain ⟨g8, hg8⟩ : ∃ g, w3.heap.size = g := ⟨_, rfl⟩
  have r8 : W.heap[g8]? = some (.cells #[.int .i64 d.1, .int .i64 d.2.1, .int .i64 d.2.2] 83) := by rw [← hW, ← hg8]; exact heap_alloc_new _ _
  have AW : Hid (Ab w W) := by rw [← hW]; exact A3.alloc _
  have R8 := hid r8
  rw [hg8]
  clear hW hg8 r8 A3 b1 b2 b3 MI WA PE C hcm ht'
  go_loopw [9] (fun iv wr => ∃ j : Nat, j ≤ k0 ∧ iv = .int .i64 (j : Nat) ∧ Ab W wr) (fun iv _ => 6 - (intOf iv).toNat)
  case atStart => exact ⟨0, by omega, rfl, Ab.refl _⟩
  case round =>
    obtain ⟨j, hj, rfl, A⟩ := hrel
    have hj6 : j < 6 := by have := HH.out.1; omega
    have hj' : (j : Int) < 6 := by omega
    have F1 := hid (FR.out j hj6 wr)
    have AA := hid A
    have HJ := hid hj6
    have HJK := hid hj
    have DO := hid (fun u => rdot_at d (cC j) u (Sm.of_le (by have := HE.out; omega)) (un_C hj6))
    obtain ⟨wo, rfl⟩ : ∃ wo : World, wo = wr := ⟨_, rfl⟩
    clear A hj hj6
    go_wp2_with fail
    refine F1.out.mono ?_
    rintro e w2 ⟨rfl, b2⟩
    have A2 := hid (AA.out.call b2)
    obtain ⟨-, x0, x1, x2⟩ := rowfacts (A2.out.heap R8.out)
    have hlt := lt_of_block (A2.out.heap R8.out)
    have hlt1 : g8 < w2.heap.size + 1 := by omega
    have hlt2 : g8 < w2.heap.size + 1 + 1 := by omega
    clear b2 F1 FR
    by_cases hd : dt d (cC j) = n
    · have hd' : (dt d (cC j) != (n : Int)) = false := by simpa using hd
      have HD := hid hd
      clear hd
      go_wp2_with (go_at_call 76; refine (DO.out _).mono ?_; rintro e w3 ⟨rfl, b3⟩)
      have A3w : Ab W w3 := (((A2.out.alloc _).alloc _).alloc _).call b3
      obtain ⟨g, hg⟩ : ∃ g, w2.heap.size = g := ⟨_, rfl⟩
      have r11 : w3.heap[g + 1]? = some (.cells #[.int .i64 (cR j).1, .int .i64 (cR j).2.1, .int .i64 (cR j).2.2] 83) := by
        refine (b3.block _ (by simp; omega)).trans ?_
        rw [← hg, Below.heap_alloc _ _ _ (by simp)]; exact heap_alloc2_new _ _ _
      have r12 : w3.heap[g + 1 + 1]? = some (.cells #[.int .i64 (cU j).1, .int .i64 (cU j).2.1, .int .i64 (cU j).2.2] 83) := by
        refine (b3.block _ (by simp; omega)).trans ?_
        rw [← hg]; exact heap_alloc3_new _ _ _ _
      have R11 := hid r11
      have R12 := hid r12
      have R8w := hid (A3w.heap R8.out)
      have AW3 := hid A3w
      rw [hg]
      have sd : Sm d := Sm.of_le (by have := HE.out; omega)
      have uR := un_R HJ.out
      have uU := un_U HJ.out
      have P0 : Hid (∀ u, Calls Tryz.prog 72 #[.agg #[.int .i64 d.1, .int .i64 d.2.1, .int .i64 d.2.2], .int .i64 (-1), .agg #[.int .i64 (cR j).1, .int .i64 (cR j).2.1, .int .i64 (cR j).2.2]] u fun e w' => e = .returned (.agg #[.int .i64 (mm d j 0).1, .int .i64 (mm d j 0).2.1, .int .i64 (mm d j 0).2.2]) ∧ Below u.heap.size u w') := fun u => rplus_at d (-1) (cR j) u sd (sc_sm uR (by omega))
      have P1 : Hid (∀ u, Calls Tryz.prog 72 #[.agg #[.int .i64 d.1, .int .i64 d.2.1, .int .i64 d.2.2], .int .i64 (-1), .agg #[.int .i64 (cU j).1, .int .i64 (cU j).2.1, .int .i64 (cU j).2.2]] u fun e w' => e = .returned (.agg #[.int .i64 (mm d j 1).1, .int .i64 (mm d j 1).2.1, .int .i64 (mm d j 1).2.2]) ∧ Below u.heap.size u w') := fun u => rplus_at d (-1) (cU j) u sd (sc_sm uU (by omega))
      have P2 : Hid (∀ u, Calls Tryz.prog 72 #[.agg #[.int .i64 d.1, .int .i64 d.2.1, .int .i64 d.2.2], .int .i64 1, .agg #[.int .i64 (cR j).1, .int .i64 (cR j).2.1, .int .i64 (cR j).2.2]] u fun e w' => e = .returned (.agg #[.int .i64 (mm d j 2).1, .int .i64 (mm d j 2).2.1, .int .i64 (mm d j 2).2.2]) ∧ Below u.heap.size u w') := fun u => by rw [← mm_two]; exact rplus_at d 1 (cR j) u sd (sc_sm uR (by omega))
      have P3 : Hid (∀ u, Calls Tryz.prog 72 #[.agg #[.int .i64 d.1, .int .i64 d.2.1, .int .i64 d.2.2], .int .i64 1, .agg #[.int .i64 (cU j).1, .int .i64 (cU j).2.1, .int .i64 (cU j).2.2]] u fun e w' => e = .returned (.agg #[.int .i64 (mm d j 3).1, .int .i64 (mm d j 3).2.1, .int .i64 (mm d j 3).2.2]) ∧ Below u.heap.size u w') := fun u => by rw [← mm_three]; exact rplus_at d 1 (cU j) u sd (sc_sm uU (by omega))
      have GN := hid (fun s (hs : s < 4) => scan_all d hs HE.out (HS.out j HJ.out s hs HD.out) uR uU (un_wy (s := s) HJ.out))
      have HK : Hid (∀ s, (gI n d j s).tmod 2 ≠ 0 → ¬ (j = k0 ∧ s = s0)) := fun s h e => h (by rw [e.1, e.2]; exact HH.out.2.2.2.1)
      have HK2 : Hid (∀ s, gd n d j s ≠ (B : Nat) → ¬ (j = k0 ∧ s = s0)) := fun s h e => h (by rw [e.1, e.2]; exact HH.out.2.2.2.2.2)
      have HH1 := hid HH.out.2.1
      clear b3 A3w r11 r12 hg x0 x1 x2 hlt hlt1 hlt2 hd' DO A2 sd uR uU HS HH R8
      go_loopw [13] (fun sv wr => ∃ s : Nat, s ≤ 4 ∧ (j = k0 → s ≤ s0) ∧ sv = .int .i64 (s : Nat) ∧ Ab w3 wr) (fun sv _ => 4 - (intOf sv).toNat)
      case atStart => exact ⟨0, by omega, fun _ => by omega, rfl, Ab.refl _⟩
      case round =>
        obtain ⟨s, hs4, hsk, rfl, A⟩ := hrel
        have AA2 := hid A
        have HSK := hid hsk
        clear A hsk
        rcases (show s = 0 ∨ s = 1 ∨ s = 2 ∨ s = 3 ∨ s = 4 by omega) with rfl | rfl | rfl | rfl | rfl <;> clear hs4
        · obtain ⟨-, e0, e1, e2⟩ := rowfacts (AA2.out.heap R8w.out)
          obtain ⟨-, r0, r1, r2⟩ := rowfacts (AA2.out.heap R11.out)
          go_wp2_with fail
          refine (P0.out _).mono ?_
          rintro e w4 ⟨rfl, b4⟩
          have A4 := AA2.out.call b4
          clear e0 e1 e2 r0 r1 r2 b4
          go_upto_region 19 with fail
          generalize hV : World.alloc _ _ = V
          obtain ⟨gm, hgm⟩ : ∃ g, w4.heap.size = g := ⟨_, rfl⟩
          have rm : V.heap[gm]? = some (.cells #[.int .i64 (mm d j 0).1, .int .i64 (mm d j 0).2.1, .int .i64 (mm d j 0).2.2] 83) := by rw [← hV, ← hgm]; exact heap_alloc_new _ _
          have AV : Ab w3 V := by rw [← hV]; exact A4.alloc _
          rw [hgm]
          clear A4 hV hgm
          have RM := hid rm
          have AVh := hid AV
          obtain ⟨-, q0, q1, q2⟩ := rowfacts rm
          obtain ⟨-, r0, r1, r2⟩ := rowfacts (AV.heap R11.out)
          clear rm AV
          obtain ⟨x, y, hx, hy, xb, yb, hsc⟩ := GN.out 0 (by omega)
          have DR : Hid (∀ u, Calls Tryz.prog 76 #[.agg #[.int .i64 (mm d j 0).1, .int .i64 (mm d j 0).2.1, .int .i64 (mm d j 0).2.2], .agg #[.int .i64 (cR j).1, .int .i64 (cR j).2.1, .int .i64 (cR j).2.2]] u fun e w' => e = .returned (.int .i64 x) ∧ Below u.heap.size u w') := fun u => by rw [← hx.out.1]; exact rdot_at _ _ u hx.out.2.1 hx.out.2.2
          have DU : Hid (∀ u, Calls Tryz.prog 76 #[.agg #[.int .i64 (mm d j 0).1, .int .i64 (mm d j 0).2.1, .int .i64 (mm d j 0).2.2], .agg #[.int .i64 (cU j).1, .int .i64 (cU j).2.1, .int .i64 (cU j).2.2]] u fun e w' => e = .returned (.int .i64 y) ∧ Below u.heap.size u w') := fun u => by rw [← hy.out.1]; exact rdot_at _ _ u hy.out.2.1 hy.out.2.2
          go_wp2_with fail
          refine (DR.out _).mono ?_
          rintro e w6 ⟨rfl, b6⟩
          obtain ⟨-, q0, q1, q2⟩ := rowfacts (Ab.heap b6 RM.out)
          obtain ⟨-, r0, r1, r2⟩ := rowfacts (Ab.heap b6 (AVh.out.heap R12.out))
          go_wp2_with fail
          refine (DU.out _).mono ?_
          rintro e w7 ⟨rfl, b7⟩
          have A7 := hid ((AVh.out.call b6).call b7)
          clear b6 b7 RM AVh DR DU q0 q1 q2 r0 r1 r2 P0 P1 P2 P3 R11 R12 R8w
          rcases hsc.out with ⟨h0, h1⟩ | ⟨h1, h2, h3, h4⟩
          · have NK := hid (HK.out 0 h0)
            have hi : ((x + (n : Int) - 1).tmod 2 != 0) = true := by simpa using h1
            clear hx hy hsc h0 h1
            go_wp2
            have h5 := HSK.out
            have h6 := NK.out
            have h7 := A7.out
            go_roundw
            case rel => exact ⟨0 + 1, by omega, fun e => by have := h5 e; have := fun h => h6 ⟨e, h⟩; omega, rfl, h7⟩
            case measure => simp [intOf]
          · rcases h4 with h4 | h4 | ⟨h4, h5⟩
            · have NK := hid (HK2.out 0 (by rw [h4]; omega))
              rw [h4] at h3
              have RCx : Hid (∀ u, Calls Tryz.prog 77 #[.int .i64 n, .int .i64 j, .int .i64 ((x + (n : Int) - 1).tdiv 2), .int .i64 ((y + (n : Int) - 1).tdiv 2)] u fun e w' => e = .returned (.int .i64 (-1)) ∧ w' = u) := fun u => by rw [h3]; exact RC.out _ _ _ _ _
              clear hx hy hsc h3 h4 RC
              go_wp2_with (go_at_call 77; refine (RCx.out _).mono ?_; rintro e w7 ⟨rfl, rfl⟩)
              have h5 := HSK.out
              have h6 := NK.out
              have h7 := A7.out
              go_roundw
              case rel => exact ⟨0 + 1, by omega, fun e => by have := h5 e; have := fun h => h6 ⟨e, h⟩; omega, rfl, h7⟩
              case measure => simp [intOf]
            · have NK := hid (HK2.out 0 (by rw [h4]; have := HB.out; omega))
              rw [h4] at h3
              have RCx : Hid (∀ u, Calls Tryz.prog 77 #[.int .i64 n, .int .i64 j, .int .i64 ((x + (n : Int) - 1).tdiv 2), .int .i64 ((y + (n : Int) - 1).tdiv 2)] u fun e w' => e = .returned (.int .i64 c) ∧ w' = u) := fun u => by rw [h3]; exact RC.out _ _ _ _ _
              have hcc : (((c : Nat) : Int) != ((c : Nat) : Int)) = false := by simp
              clear hx hy hsc h3 h4 RC
              go_wp2_with (go_at_call 77; refine (RCx.out _).mono ?_; rintro e w7 ⟨rfl, rfl⟩)
              have h5 := HSK.out
              have h6 := NK.out
              have h7 := A7.out
              go_roundw
              case rel => exact ⟨0 + 1, by omega, fun e => by have := h5 e; have := fun h => h6 ⟨e, h⟩; omega, rfl, h7⟩
              case measure => simp [intOf]
            · rw [h4] at h3
              have RCx : Hid (∀ u, Calls Tryz.prog 77 #[.int .i64 n, .int .i64 j, .int .i64 ((x + (n : Int) - 1).tdiv 2), .int .i64 ((y + (n : Int) - 1).tdiv 2)] u fun e w' => e = .returned (.int .i64 B) ∧ w' = u) := fun u => by rw [h3]; exact RC.out _ _ _ _ _
              have hcc : (((B : Nat) : Int) != ((c : Nat) : Int)) = true := by have := HB.out; simp; omega
              have HSS := hid h5
              clear hx hy hsc h3 h4 h5 RC
              go_wp2_with (go_at_call 77; refine (RCx.out _).mono ?_; rintro e w7 ⟨rfl, rfl⟩)
              go_ret2
              exact ⟨by rw [← HSS.out]; rfl, (AW.out.trans AW3.out).trans A7.out⟩
        · obtain ⟨-, e0, e1, e2⟩ := rowfacts (AA2.out.heap R8w.out)
          obtain ⟨-, r0, r1, r2⟩ := rowfacts (AA2.out.heap R11.out)
          go_wp2_with fail
          refine (P0.out _).mono ?_
          rintro e w4 ⟨rfl, b4⟩
          have A4 := AA2.out.call b4
          clear e0 e1 e2 r0 r1 r2 b4
          have k8 := lt_of_block (A4.heap R8w.out)
          have k9 := lt_of_block (A4.heap R12.out)
          obtain ⟨-, e0, e1, e2⟩ := rowfacts (A4.heap R8w.out)
          obtain ⟨-, r0, r1, r2⟩ := rowfacts (A4.heap R12.out)
          go_wp2_with fail
          refine (P1.out _).mono ?_
          rintro e w5 ⟨rfl, b5⟩
          obtain ⟨gm, hgm⟩ : ∃ g, w4.heap.size = g := ⟨_, rfl⟩
          have m0 : w5.heap[gm]? = some (.cells #[.int .i64 (mm d j 0).1, .int .i64 (mm d j 0).2.1, .int .i64 (mm d j 0).2.2] 83) := (b5.block _ (by simp [hgm])).trans (by rw [← hgm]; exact heap_alloc_new _ _)
          have A5 := (A4.alloc _).call b5
          have hgm3 := A4.size
          rw [hgm] at hgm3 ⊢
          obtain ⟨⟨f0, f1, f2⟩, c0, c1, c2⟩ := rowfacts m0
          clear e0 e1 e2 r0 r1 r2 k8 k9 b5 A4 hgm
          have M0 := hid m0
          have G3 := hid hgm3
          have A5h := hid A5
          clear m0 hgm3 A5
          go_upto_region 19 with fail
          generalize hV : World.setCell _ _ _ = V
          have rm : V.heap[gm]? = some (.cells #[.int .i64 (mm d j 1).1, .int .i64 (mm d j 1).2.1, .int .i64 (mm d j 1).2.2] 83) := by rw [← hV]; exact row3 M0.out
          have AV : Ab w3 V := by rw [← hV]; exact ((A5h.out.setk G3.out _).setk G3.out _).setk G3.out _
          clear hV f0 f1 f2 c0 c1 c2 M0 A5h G3
          have RM := hid rm
          have AVh := hid AV
          obtain ⟨-, q0, q1, q2⟩ := rowfacts rm
          obtain ⟨-, r0, r1, r2⟩ := rowfacts (AV.heap R11.out)
          clear rm AV
          obtain ⟨x, y, hx, hy, xb, yb, hsc⟩ := GN.out 1 (by omega)
          have DR : Hid (∀ u, Calls Tryz.prog 76 #[.agg #[.int .i64 (mm d j 1).1, .int .i64 (mm d j 1).2.1, .int .i64 (mm d j 1).2.2], .agg #[.int .i64 (cR j).1, .int .i64 (cR j).2.1, .int .i64 (cR j).2.2]] u fun e w' => e = .returned (.int .i64 x) ∧ Below u.heap.size u w') := fun u => by rw [← hx.out.1]; exact rdot_at _ _ u hx.out.2.1 hx.out.2.2
          have DU : Hid (∀ u, Calls Tryz.prog 76 #[.agg #[.int .i64 (mm d j 1).1, .int .i64 (mm d j 1).2.1, .int .i64 (mm d j 1).2.2], .agg #[.int .i64 (cU j).1, .int .i64 (cU j).2.1, .int .i64 (cU j).2.2]] u fun e w' => e = .returned (.int .i64 y) ∧ Below u.heap.size u w') := fun u => by rw [← hy.out.1]; exact rdot_at _ _ u hy.out.2.1 hy.out.2.2
          go_wp2_with fail
          refine (DR.out _).mono ?_
          rintro e w6 ⟨rfl, b6⟩
          obtain ⟨-, q0, q1, q2⟩ := rowfacts (Ab.heap b6 RM.out)
          obtain ⟨-, r0, r1, r2⟩ := rowfacts (Ab.heap b6 (AVh.out.heap R12.out))
          go_wp2_with fail
          refine (DU.out _).mono ?_
          rintro e w7 ⟨rfl, b7⟩
          have A7 := hid ((AVh.out.call b6).call b7)
          clear b6 b7 RM AVh DR DU q0 q1 q2 r0 r1 r2 P0 P1 P2 P3 R11 R12 R8w
          rcases hsc.out with ⟨h0, h1⟩ | ⟨h1, h2, h3, h4⟩
          · have NK := hid (HK.out 1 h0)
            have hi : ((x + (n : Int) - 1).tmod 2 != 0) = true := by simpa using h1
            clear hx hy hsc h0 h1
            go_wp2
            have h5 := HSK.out
            have h6 := NK.out
            have h7 := A7.out
            go_roundw
            case rel => exact ⟨1 + 1, by omega, fun e => by have := h5 e; have := fun h => h6 ⟨e, h⟩; omega, rfl, h7⟩
            case measure => simp [intOf]
          · rcases h4 with h4 | h4 | ⟨h4, h5⟩
            · have NK := hid (HK2.out 1 (by rw [h4]; omega))
              rw [h4] at h3
              have RCx : Hid (∀ u, Calls Tryz.prog 77 #[.int .i64 n, .int .i64 j, .int .i64 ((x + (n : Int) - 1).tdiv 2), .int .i64 ((y + (n : Int) - 1).tdiv 2)] u fun e w' => e = .returned (.int .i64 (-1)) ∧ w' = u) := fun u => by rw [h3]; exact RC.out _ _ _ _ _
              clear hx hy hsc h3 h4 RC
              go_wp2_with (go_at_call 77; refine (RCx.out _).mono ?_; rintro e w7 ⟨rfl, rfl⟩)
              have h5 := HSK.out
              have h6 := NK.out
              have h7 := A7.out
              go_roundw
              case rel => exact ⟨1 + 1, by omega, fun e => by have := h5 e; have := fun h => h6 ⟨e, h⟩; omega, rfl, h7⟩
              case measure => simp [intOf]
            · have NK := hid (HK2.out 1 (by rw [h4]; have := HB.out; omega))
              rw [h4] at h3
              have RCx : Hid (∀ u, Calls Tryz.prog 77 #[.int .i64 n, .int .i64 j, .int .i64 ((x + (n : Int) - 1).tdiv 2), .int .i64 ((y + (n : Int) - 1).tdiv 2)] u fun e w' => e = .returned (.int .i64 c) ∧ w' = u) := fun u => by rw [h3]; exact RC.out _ _ _ _ _
              have hcc : (((c : Nat) : Int) != ((c : Nat) : Int)) = false := by simp
              clear hx hy hsc h3 h4 RC
              go_wp2_with (go_at_call 77; refine (RCx.out _).mono ?_; rintro e w7 ⟨rfl, rfl⟩)
              have h5 := HSK.out
              have h6 := NK.out
              have h7 := A7.out
              go_roundw
              case rel => exact ⟨1 + 1, by omega, fun e => by have := h5 e; have := fun h => h6 ⟨e, h⟩; omega, rfl, h7⟩
              case measure => simp [intOf]
            · rw [h4] at h3
              have RCx : Hid (∀ u, Calls Tryz.prog 77 #[.int .i64 n, .int .i64 j, .int .i64 ((x + (n : Int) - 1).tdiv 2), .int .i64 ((y + (n : Int) - 1).tdiv 2)] u fun e w' => e = .returned (.int .i64 B) ∧ w' = u) := fun u => by rw [h3]; exact RC.out _ _ _ _ _
              have hcc : (((B : Nat) : Int) != ((c : Nat) : Int)) = true := by have := HB.out; simp; omega
              have HSS := hid h5
              clear hx hy hsc h3 h4 h5 RC
              go_wp2_with (go_at_call 77; refine (RCx.out _).mono ?_; rintro e w7 ⟨rfl, rfl⟩)
              go_ret2
              exact ⟨by rw [← HSS.out]; rfl, (AW.out.trans AW3.out).trans A7.out⟩
        · obtain ⟨-, e0, e1, e2⟩ := rowfacts (AA2.out.heap R8w.out)
          obtain ⟨-, r0, r1, r2⟩ := rowfacts (AA2.out.heap R11.out)
          go_wp2_with fail
          refine (P0.out _).mono ?_
          rintro e w4 ⟨rfl, b4⟩
          have A4 := AA2.out.call b4
          clear e0 e1 e2 r0 r1 r2 b4
          have k8 := lt_of_block (A4.heap R8w.out)
          have k9 := lt_of_block (A4.heap R11.out)
          obtain ⟨-, e0, e1, e2⟩ := rowfacts (A4.heap R8w.out)
          obtain ⟨-, r0, r1, r2⟩ := rowfacts (A4.heap R11.out)
          go_wp2_with fail
          refine (P2.out _).mono ?_
          rintro e w5 ⟨rfl, b5⟩
          obtain ⟨gm, hgm⟩ : ∃ g, w4.heap.size = g := ⟨_, rfl⟩
          have m0 : w5.heap[gm]? = some (.cells #[.int .i64 (mm d j 0).1, .int .i64 (mm d j 0).2.1, .int .i64 (mm d j 0).2.2] 83) := (b5.block _ (by simp [hgm])).trans (by rw [← hgm]; exact heap_alloc_new _ _)
          have A5 := (A4.alloc _).call b5
          have hgm3 := A4.size
          rw [hgm] at hgm3 ⊢
          obtain ⟨⟨f0, f1, f2⟩, c0, c1, c2⟩ := rowfacts m0
          clear e0 e1 e2 r0 r1 r2 k8 k9 b5 A4 hgm
          have M0 := hid m0
          have G3 := hid hgm3
          have A5h := hid A5
          clear m0 hgm3 A5
          go_upto_region 19 with fail
          generalize hV : World.setCell _ _ _ = V
          have rm : V.heap[gm]? = some (.cells #[.int .i64 (mm d j 2).1, .int .i64 (mm d j 2).2.1, .int .i64 (mm d j 2).2.2] 83) := by rw [← hV]; exact row3 M0.out
          have AV : Ab w3 V := by rw [← hV]; exact ((A5h.out.setk G3.out _).setk G3.out _).setk G3.out _
          clear hV f0 f1 f2 c0 c1 c2 M0 A5h G3
          have RM := hid rm
          have AVh := hid AV
          obtain ⟨-, q0, q1, q2⟩ := rowfacts rm
          obtain ⟨-, r0, r1, r2⟩ := rowfacts (AV.heap R11.out)
          clear rm AV
          obtain ⟨x, y, hx, hy, xb, yb, hsc⟩ := GN.out 2 (by omega)
          have DR : Hid (∀ u, Calls Tryz.prog 76 #[.agg #[.int .i64 (mm d j 2).1, .int .i64 (mm d j 2).2.1, .int .i64 (mm d j 2).2.2], .agg #[.int .i64 (cR j).1, .int .i64 (cR j).2.1, .int .i64 (cR j).2.2]] u fun e w' => e = .returned (.int .i64 x) ∧ Below u.heap.size u w') := fun u => by rw [← hx.out.1]; exact rdot_at _ _ u hx.out.2.1 hx.out.2.2
          have DU : Hid (∀ u, Calls Tryz.prog 76 #[.agg #[.int .i64 (mm d j 2).1, .int .i64 (mm d j 2).2.1, .int .i64 (mm d j 2).2.2], .agg #[.int .i64 (cU j).1, .int .i64 (cU j).2.1, .int .i64 (cU j).2.2]] u fun e w' => e = .returned (.int .i64 y) ∧ Below u.heap.size u w') := fun u => by rw [← hy.out.1]; exact rdot_at _ _ u hy.out.2.1 hy.out.2.2
          go_wp2_with fail
          refine (DR.out _).mono ?_
          rintro e w6 ⟨rfl, b6⟩
          obtain ⟨-, q0, q1, q2⟩ := rowfacts (Ab.heap b6 RM.out)
          obtain ⟨-, r0, r1, r2⟩ := rowfacts (Ab.heap b6 (AVh.out.heap R12.out))
          go_wp2_with fail
          refine (DU.out _).mono ?_
          rintro e w7 ⟨rfl, b7⟩
          have A7 := hid ((AVh.out.call b6).call b7)
          clear b6 b7 RM AVh DR DU q0 q1 q2 r0 r1 r2 P0 P1 P2 P3 R11 R12 R8w
          rcases hsc.out with ⟨h0, h1⟩ | ⟨h1, h2, h3, h4⟩
          · have NK := hid (HK.out 2 h0)
            have hi : ((x + (n : Int) - 1).tmod 2 != 0) = true := by simpa using h1
            clear hx hy hsc h0 h1
            go_wp2
            have h5 := HSK.out
            have h6 := NK.out
            have h7 := A7.out
            go_roundw
            case rel => exact ⟨2 + 1, by omega, fun e => by have := h5 e; have := fun h => h6 ⟨e, h⟩; omega, rfl, h7⟩
            case measure => simp [intOf]
          · rcases h4 with h4 | h4 | ⟨h4, h5⟩
            · have NK := hid (HK2.out 2 (by rw [h4]; omega))
              rw [h4] at h3
              have RCx : Hid (∀ u, Calls Tryz.prog 77 #[.int .i64 n, .int .i64 j, .int .i64 ((x + (n : Int) - 1).tdiv 2), .int .i64 ((y + (n : Int) - 1).tdiv 2)] u fun e w' => e = .returned (.int .i64 (-1)) ∧ w' = u) := fun u => by rw [h3]; exact RC.out _ _ _ _ _
              clear hx hy hsc h3 h4 RC
              go_wp2_with (go_at_call 77; refine (RCx.out _).mono ?_; rintro e w7 ⟨rfl, rfl⟩)
              have h5 := HSK.out
              have h6 := NK.out
              have h7 := A7.out
              go_roundw
              case rel => exact ⟨2 + 1, by omega, fun e => by have := h5 e; have := fun h => h6 ⟨e, h⟩; omega, rfl, h7⟩
              case measure => simp [intOf]
            · have NK := hid (HK2.out 2 (by rw [h4]; have := HB.out; omega))
              rw [h4] at h3
              have RCx : Hid (∀ u, Calls Tryz.prog 77 #[.int .i64 n, .int .i64 j, .int .i64 ((x + (n : Int) - 1).tdiv 2), .int .i64 ((y + (n : Int) - 1).tdiv 2)] u fun e w' => e = .returned (.int .i64 c) ∧ w' = u) := fun u => by rw [h3]; exact RC.out _ _ _ _ _
              have hcc : (((c : Nat) : Int) != ((c : Nat) : Int)) = false := by simp
              clear hx hy hsc h3 h4 RC
              go_wp2_with (go_at_call 77; refine (RCx.out _).mono ?_; rintro e w7 ⟨rfl, rfl⟩)
              have h5 := HSK.out
              have h6 := NK.out
              have h7 := A7.out
              go_roundw
              case rel => exact ⟨2 + 1, by omega, fun e => by have := h5 e; have := fun h => h6 ⟨e, h⟩; omega, rfl, h7⟩
              case measure => simp [intOf]
            · rw [h4] at h3
              have RCx : Hid (∀ u, Calls Tryz.prog 77 #[.int .i64 n, .int .i64 j, .int .i64 ((x + (n : Int) - 1).tdiv 2), .int .i64 ((y + (n : Int) - 1).tdiv 2)] u fun e w' => e = .returned (.int .i64 B) ∧ w' = u) := fun u => by rw [h3]; exact RC.out _ _ _ _ _
              have hcc : (((B : Nat) : Int) != ((c : Nat) : Int)) = true := by have := HB.out; simp; omega
              have HSS := hid h5
              clear hx hy hsc h3 h4 h5 RC
              go_wp2_with (go_at_call 77; refine (RCx.out _).mono ?_; rintro e w7 ⟨rfl, rfl⟩)
              go_ret2
              exact ⟨by rw [← HSS.out]; rfl, (AW.out.trans AW3.out).trans A7.out⟩
        · obtain ⟨-, e0, e1, e2⟩ := rowfacts (AA2.out.heap R8w.out)
          obtain ⟨-, r0, r1, r2⟩ := rowfacts (AA2.out.heap R11.out)
          go_wp2_with fail
          refine (P0.out _).mono ?_
          rintro e w4 ⟨rfl, b4⟩
          have A4 := AA2.out.call b4
          clear e0 e1 e2 r0 r1 r2 b4
          have k8 := lt_of_block (A4.heap R8w.out)
          have k9 := lt_of_block (A4.heap R12.out)
          obtain ⟨-, e0, e1, e2⟩ := rowfacts (A4.heap R8w.out)
          obtain ⟨-, r0, r1, r2⟩ := rowfacts (A4.heap R12.out)
          go_wp2_with fail
          refine (P3.out _).mono ?_
          rintro e w5 ⟨rfl, b5⟩
          obtain ⟨gm, hgm⟩ : ∃ g, w4.heap.size = g := ⟨_, rfl⟩
          have m0 : w5.heap[gm]? = some (.cells #[.int .i64 (mm d j 0).1, .int .i64 (mm d j 0).2.1, .int .i64 (mm d j 0).2.2] 83) := (b5.block _ (by simp [hgm])).trans (by rw [← hgm]; exact heap_alloc_new _ _)
          have A5 := (A4.alloc _).call b5
          have hgm3 := A4.size
          rw [hgm] at hgm3 ⊢
          obtain ⟨⟨f0, f1, f2⟩, c0, c1, c2⟩ := rowfacts m0
          clear e0 e1 e2 r0 r1 r2 k8 k9 b5 A4 hgm
          have M0 := hid m0
          have G3 := hid hgm3
          have A5h := hid A5
          clear m0 hgm3 A5
          go_upto_region 19 with fail
          generalize hV : World.setCell _ _ _ = V
          have rm : V.heap[gm]? = some (.cells #[.int .i64 (mm d j 3).1, .int .i64 (mm d j 3).2.1, .int .i64 (mm d j 3).2.2] 83) := by rw [← hV]; exact row3 M0.out
          have AV : Ab w3 V := by rw [← hV]; exact ((A5h.out.setk G3.out _).setk G3.out _).setk G3.out _
          clear hV f0 f1 f2 c0 c1 c2 M0 A5h G3
          have RM := hid rm
          have AVh := hid AV
          obtain ⟨-, q0, q1, q2⟩ := rowfacts rm
          obtain ⟨-, r0, r1, r2⟩ := rowfacts (AV.heap R11.out)
          clear rm AV
          obtain ⟨x, y, hx, hy, xb, yb, hsc⟩ := GN.out 3 (by omega)
          have DR : Hid (∀ u, Calls Tryz.prog 76 #[.agg #[.int .i64 (mm d j 3).1, .int .i64 (mm d j 3).2.1, .int .i64 (mm d j 3).2.2], .agg #[.int .i64 (cR j).1, .int .i64 (cR j).2.1, .int .i64 (cR j).2.2]] u fun e w' => e = .returned (.int .i64 x) ∧ Below u.heap.size u w') := fun u => by rw [← hx.out.1]; exact rdot_at _ _ u hx.out.2.1 hx.out.2.2
          have DU : Hid (∀ u, Calls Tryz.prog 76 #[.agg #[.int .i64 (mm d j 3).1, .int .i64 (mm d j 3).2.1, .int .i64 (mm d j 3).2.2], .agg #[.int .i64 (cU j).1, .int .i64 (cU j).2.1, .int .i64 (cU j).2.2]] u fun e w' => e = .returned (.int .i64 y) ∧ Below u.heap.size u w') := fun u => by rw [← hy.out.1]; exact rdot_at _ _ u hy.out.2.1 hy.out.2.2
          go_wp2_with fail
          refine (DR.out _).mono ?_
          rintro e w6 ⟨rfl, b6⟩
          obtain ⟨-, q0, q1, q2⟩ := rowfacts (Ab.heap b6 RM.out)
          obtain ⟨-, r0, r1, r2⟩ := rowfacts (Ab.heap b6 (AVh.out.heap R12.out))
          go_wp2_with fail
          refine (DU.out _).mono ?_
          rintro e w7 ⟨rfl, b7⟩
          have A7 := hid ((AVh.out.call b6).call b7)
          clear b6 b7 RM AVh DR DU q0 q1 q2 r0 r1 r2 P0 P1 P2 P3 R11 R12 R8w
          rcases hsc.out with ⟨h0, h1⟩ | ⟨h1, h2, h3, h4⟩
          · have NK := hid (HK.out 3 h0)
            have hi : ((x + (n : Int) - 1).tmod 2 != 0) = true := by simpa using h1
            clear hx hy hsc h0 h1
            go_wp2
            have h5 := HSK.out
            have h6 := NK.out
            have h7 := A7.out
            go_roundw
            case rel => exact ⟨3 + 1, by omega, fun e => by have := h5 e; have := fun h => h6 ⟨e, h⟩; omega, rfl, h7⟩
            case measure => simp [intOf]
          · rcases h4 with h4 | h4 | ⟨h4, h5⟩
            · have NK := hid (HK2.out 3 (by rw [h4]; omega))
              rw [h4] at h3
              have RCx : Hid (∀ u, Calls Tryz.prog 77 #[.int .i64 n, .int .i64 j, .int .i64 ((x + (n : Int) - 1).tdiv 2), .int .i64 ((y + (n : Int) - 1).tdiv 2)] u fun e w' => e = .returned (.int .i64 (-1)) ∧ w' = u) := fun u => by rw [h3]; exact RC.out _ _ _ _ _
              clear hx hy hsc h3 h4 RC
              go_wp2_with (go_at_call 77; refine (RCx.out _).mono ?_; rintro e w7 ⟨rfl, rfl⟩)
              have h5 := HSK.out
              have h6 := NK.out
              have h7 := A7.out
              go_roundw
              case rel => exact ⟨3 + 1, by omega, fun e => by have := h5 e; have := fun h => h6 ⟨e, h⟩; omega, rfl, h7⟩
              case measure => simp [intOf]
            · have NK := hid (HK2.out 3 (by rw [h4]; have := HB.out; omega))
              rw [h4] at h3
              have RCx : Hid (∀ u, Calls Tryz.prog 77 #[.int .i64 n, .int .i64 j, .int .i64 ((x + (n : Int) - 1).tdiv 2), .int .i64 ((y + (n : Int) - 1).tdiv 2)] u fun e w' => e = .returned (.int .i64 c) ∧ w' = u) := fun u => by rw [h3]; exact RC.out _ _ _ _ _
              have hcc : (((c : Nat) : Int) != ((c : Nat) : Int)) = false := by simp
              clear hx hy hsc h3 h4 RC
              go_wp2_with (go_at_call 77; refine (RCx.out _).mono ?_; rintro e w7 ⟨rfl, rfl⟩)
              have h5 := HSK.out
              have h6 := NK.out
              have h7 := A7.out
              go_roundw
              case rel => exact ⟨3 + 1, by omega, fun e => by have := h5 e; have := fun h => h6 ⟨e, h⟩; omega, rfl, h7⟩
              case measure => simp [intOf]
            · rw [h4] at h3
              have RCx : Hid (∀ u, Calls Tryz.prog 77 #[.int .i64 n, .int .i64 j, .int .i64 ((x + (n : Int) - 1).tdiv 2), .int .i64 ((y + (n : Int) - 1).tdiv 2)] u fun e w' => e = .returned (.int .i64 B) ∧ w' = u) := fun u => by rw [h3]; exact RC.out _ _ _ _ _
              have hcc : (((B : Nat) : Int) != ((c : Nat) : Int)) = true := by have := HB.out; simp; omega
              have HSS := hid h5
              clear hx hy hsc h3 h4 h5 RC
              go_wp2_with (go_at_call 77; refine (RCx.out _).mono ?_; rintro e w7 ⟨rfl, rfl⟩)
              go_ret2
              exact ⟨by rw [← HSS.out]; rfl, (AW.out.trans AW3.out).trans A7.out⟩
        · go_wp2
          have h1 := HSK.out
          have h2 := HJK.out
          have h3 := HJ.out
          have h4 := AA2.out
          have h5 := HH1.out
          go_roundw
          case rel => exact ⟨j + 1, by omega, by simp, AW3.out.trans h4⟩
          case measure => simp [intOf]; omega
    · have hd' : (dt d (cC j) != (n : Int)) = true := by simpa using hd
      have HNE : Hid (j ≠ k0) := fun h => hd (by rw [h]; exact HH.out.2.2.1)
      go_wp2_with (go_at_call 76; refine (DO.out _).mono ?_; rintro e w3 ⟨rfl, b3⟩)
      have A3w : Ab W w3 := (((A2.out.alloc _).alloc _).alloc _).call b3
      have h1 := HJK.out
      have h2 := HNE.out
      have h3 := HJ.out
      go_roundw
      case rel => exact ⟨j + 1, by omega, by simp, A3w⟩
      case measure => simp [intOf]; omega
theorem sc_one (q : P3) : sc 1 q = q := by simp [sc]
theorem rbeside_at (n c t : Nat) (w : World) (hn : 1 ≤ n ∧ n ≤ 32) (hc : c < 6 * n * n) (ht : t < 4) :
    Calls Tryz.prog 38 #[.int .i64 n, .int .i64 c, .int .i64 t] w fun e w' => e = .returned (.tuple #[.int .i64 (bsC n c t), .int .i64 (bsS n c t)]) ∧ Below w.heap.size w w' := by
  obtain ⟨f, a, b, hf, ha, hb, hP⟩ := Pn_ex hn.1 hc ht
  obtain ⟨k0, s0, h1, h2, h3, h4, h5, h6, h7⟩ := scan_hit hn hf ht ha hb
  obtain ⟨l1, l2⟩ := at_lt (s := t) ha hb
  have d1 := nm_dec (f := f) l1 l2
  have hm := md_ms hf ht ha hb
  have e1 : md n (cf n c) (ci n c) (cj n c) = ms n f t a b := by rw [hP, ← hm]; unfold Pn; rw [d1.1, d1.2.1, d1.2.2]
  have e2 : cf n c = f := by rw [hP]; exact d1.1
  have MI := fun u => rmiddle_at n c u hn hc
  have WA := fun u => rway_at n c t u hn hc ht
  have bm := md_le hf l1 l2 hn.2
  rw [hm] at bm
  have bw := un_wy (s := t) hf
  rw [e1] at MI
  rw [e2] at WA
  rw [← hP] at h6 h7
  refine rbeside_go n c t (bsC n c t) (bsS n c t) k0 s0 (eg n f t a b) (ms n f t a b) (wy f t) w hn hc ht MI WA (fun u => ?_) ?_ (fun k hk s hs hd => ?_) ⟨h1, h2, h3, h4, h5, h6⟩ (bs_self hn.1 hc ht)
  · have := rplus_at (ms n f t a b) 1 (wy f t) u (by unfold Sm; omega) (by rw [sc_one]; exact bw.sm)
    rw [sc_one] at this
    exact this
  · unfold Un at bw
    simp only [eg, pl]
    omega
  · have := scan hn hf ht ha hb hk hs hd
    rw [← hP] at this
    exact this
end Go.Proofs.YtdgkmaamjdglmaaGreatDoor

/-
  The reference's points, corners and middles: walks over it.
-/
namespace Go.Proofs.YtdgkmaamjdglmaaGreatDoor
open Go.RowKit Tf Cu
attribute [local go_sem] run_bits run_from raw_feq raw_fne raw_flt raw_fgt run_neg run_store_float
set_option maxHeartbeats 8000000 in
theorem rpoint8_at (n f p q : Nat) (k h : Int) (w : World) (n1 : 1 ≤ n) (n2 : n ≤ 32) (hf : f < 6) (hp : IsC p (qo n k)) (hq : IsC q (qo n h)) :
    Calls Tryz.prog 21 #[.int .i64 f, .float .f64 p, .float .f64 q] w fun e w' => e = .returned (.agg #[.float .f64 (px n (fp n f k h)), .float .f64 (py n (fp n f k h)), .float .f64 (pz n (fp n f k h))]) ∧ Below w.heap.size w w' := by
  obtain ⟨c1, c2, c3⟩ := oc_fp n1 n2 hf hp hq
  obtain ⟨d1, d2, d3⟩ := cmp_oc hf p q
  have K1 := hid (fun u => rcomp8_at f 1 p q u hf (by omega) hp.1 hq.1)
  have K2 := hid (fun u => rcomp8_at f 2 p q u hf (by omega) hp.1 hq.1)
  have K3 := hid (fun u => rcomp8_at f 3 p q u hf (by omega) hp.1 hq.1)
  rw [d1, c1] at K1
  rw [d2, c2] at K2
  rw [d3, c3] at K3
  have UN := hid (fun w => runit_at _ _ _ w (qo_lt n (fp n f k h).1) (qo_lt n (fp n f k h).2.1) (qo_lt n (fp n f k h).2.2))
  have hux : unB (lnB (qo n (fp n f k h).1) (qo n (fp n f k h).2.1) (qo n (fp n f k h).2.2)) (qo n (fp n f k h).1) = px n (fp n f k h) := rfl
  have huy : unB (lnB (qo n (fp n f k h).1) (qo n (fp n f k h).2.1) (qo n (fp n f k h).2.2)) (qo n (fp n f k h).2.1) = py n (fp n f k h) := rfl
  have huz : unB (lnB (qo n (fp n f k h).1) (qo n (fp n f k h).2.1) (qo n (fp n f k h).2.2)) (qo n (fp n f k h).2.2) = pz n (fp n f k h) := rfl
  rw [hux, huy, huz] at UN
  clear hux huy huz c1 c2 c3 d1 d2 d3 hp hq n1 n2 hf
  generalize px n (fp n f k h) = a at *
  generalize py n (fp n f k h) = b at *
  generalize pz n (fp n f k h) = c at *
  generalize qo n (fp n f k h).1 = x at *
  generalize qo n (fp n f k h).2.1 = y at *
  generalize qo n (fp n f k h).2.2 = z at *
  have A0 := hid (bl1 w (.cells #[.float .f64 0, .float .f64 0, .float .f64 0] 28))
  have R0 := hid (heap_alloc_new w (.cells #[.float .f64 0, .float .f64 0, .float .f64 0] 28))
  go_enter Tryz.func21, Tryz.ntmps21
  go_wp2_with fail
  refine (K1.out _).mono ?_
  rintro e v1 ⟨rfl, b1⟩
  go_wp2_with fail
  refine (K2.out _).mono ?_
  rintro e v2 ⟨rfl, b2⟩
  go_wp2_with fail
  refine (K3.out _).mono ?_
  rintro e v3 ⟨rfl, b3⟩
  go_wp2_with fail
  refine (UN.out _).mono ?_
  rintro e v4 ⟨rfl, b4⟩
  have A4 : Hid (Ab w v4) := Ab.call (Ab.call (Ab.call (Ab.call A0.out b1) b2) b3) b4
  have r0 : v4.heap[w.heap.size]? = some (.cells #[.float .f64 0, .float .f64 0, .float .f64 0] 28) := Ab.heap b4 (Ab.heap b3 (Ab.heap b2 (Ab.heap b1 R0.out)))
  obtain ⟨⟨o0, o1, o2⟩, o3, o4, o5⟩ := rowfacts r0
  have R4 := hid r0
  clear r0 b1 b2 b3 b4 A0 R0
  go_wp2
  refine bodyPost_ret ?_ rfl ⟨rfl, ?_⟩
  · exact results_cell_row Tryz.results21 _ _ w.heap.size _ _ (0, 0) _ rfl (row3 R4.out) Tryz.underlying28 rfl (by kernel_rfl)
  · exact ((Ab.setk A4.out (by omega) _).setk (by omega) _).setk (by omega) _
set_option maxHeartbeats 4000000 in
theorem rcorner_ok (n f i j : Nat) (w : World) (hn : 1 ≤ n ∧ n ≤ 32) (hf : f < 6) (hi : i ≤ n) (hj : j ≤ n) :
    Calls Tryz.prog 6 #[.int .i64 n, .int .i64 f, .int .i64 i, .int .i64 j] w fun e w' => e = .returned (.tuple #[.agg #[.float .f64 (px n (cr n f i j)), .float .f64 (py n (cr n f i j)), .float .f64 (pz n (cr n f i j))], .bool true]) ∧ Below w.heap.size w w' := by
  have PA : Hid (∀ (k : Int) u, -1000 ≤ k ∧ k ≤ 1000 → Calls Tryz.prog 22 #[.int .i64 k, .int .i64 n] u fun e w' => ∃ r m, e = .returned (.float .f64 r) ∧ w' = u.drewN m ∧ Hid (IsC r (qo n k))) := fun k u hk => rratio_at k n u hk (by omega)
  have PO : Hid (∀ p q u, Hid (IsC p (qo n (2 * i - n))) → Hid (IsC q (qo n (2 * j - n))) → Calls Tryz.prog 21 #[.int .i64 f, .float .f64 p, .float .f64 q] u fun e w' => e = .returned (.agg #[.float .f64 (px n (cr n f i j)), .float .f64 (py n (cr n f i j)), .float .f64 (pz n (cr n f i j))]) ∧ Below u.heap.size u w') := fun p q u hp hq => rpoint8_at n f p q _ _ u hn.1 hn.2 hf hp hq
  generalize px n (cr n f i j) = a at *
  generalize py n (cr n f i j) = b at *
  generalize pz n (cr n f i j) = c at *
  have A0 := hid (bl1 w (.cells #[.float .f64 0, .float .f64 0, .float .f64 0] 28))
  have R0 := hid (heap_alloc_new w (.cells #[.float .f64 0, .float .f64 0, .float .f64 0] 28))
  have hi2 : (i : Int) ≤ 32 := by omega
  have hj2 : (j : Int) ≤ 32 := by omega
  have hn2 : (n : Int) ≤ 32 := by omega
  have hn1 : 1 ≤ (n : Int) := by omega
  have hf2 : (f : Int) ≤ 5 := by omega
  have hi3 : (i : Int) ≤ n := by omega
  have hj3 : (j : Int) ≤ n := by omega
  clear hn hf hi hj
  go_enter Tryz.func6, Tryz.ntmps6
  go_wp2_with fail
  refine (PA.out _ _ (by omega)).mono ?_
  rintro e w1 ⟨p, m1, rfl, rfl, hp⟩
  go_wp2_with fail
  refine (PA.out _ _ (by omega)).mono ?_
  rintro e w1 ⟨q, m2, rfl, rfl, hq⟩
  go_wp2_with fail
  refine (PO.out _ _ _ hp hq).mono ?_
  rintro e w3 ⟨rfl, b3⟩
  have A3 : Hid (Ab w w3) := Ab.call (Ab.drewN A0.out _) b3
  have r0 : w3.heap[w.heap.size]? = some (.cells #[.float .f64 0, .float .f64 0, .float .f64 0] 28) := Ab.heap b3 R0.out
  obtain ⟨⟨o0, o1, o2⟩, o3, o4, o5⟩ := rowfacts r0
  have R3 := hid r0
  clear r0 b3 A0 R0
  go_wp2
  refine bodyPost_ret ?_ rfl ⟨rfl, ?_⟩
  · exact res_two Tryz.results6 _ _ w.heap.size _ _ (0, 0) _ _ rfl rfl (row3 R3.out) Tryz.underlying28 rfl (by kernel_rfl)
  · exact ((Ab.setk A3.out (by omega) _).setk (by omega) _).setk (by omega) _
set_option maxHeartbeats 4000000 in
theorem rcorner_no (n f i j : Int) (w : World) (h : ¬ ((1 ≤ n ∧ n ≤ 32) ∧ (0 ≤ f ∧ f < 6) ∧ (0 ≤ i ∧ i ≤ n) ∧ (0 ≤ j ∧ j ≤ n))) :
    Calls Tryz.prog 6 #[.int .i64 n, .int .i64 f, .int .i64 i, .int .i64 j] w fun e w' => e = .returned (.tuple #[.agg #[.float .f64 0, .float .f64 0, .float .f64 0], .bool false]) ∧ Below w.heap.size w w' := by
  have hc : n < 1 ∨ (1 ≤ n ∧ 32 < n) ∨ ((1 ≤ n ∧ n ≤ 32) ∧ f < 0) ∨ ((1 ≤ n ∧ n ≤ 32) ∧ 0 ≤ f ∧ 5 < f) ∨ ((1 ≤ n ∧ n ≤ 32) ∧ (0 ≤ f ∧ f ≤ 5) ∧ i < 0) ∨ ((1 ≤ n ∧ n ≤ 32) ∧ (0 ≤ f ∧ f ≤ 5) ∧ 0 ≤ i ∧ n < i) ∨ ((1 ≤ n ∧ n ≤ 32) ∧ (0 ≤ f ∧ f ≤ 5) ∧ (0 ≤ i ∧ i ≤ n) ∧ j < 0) ∨ ((1 ≤ n ∧ n ≤ 32) ∧ (0 ≤ f ∧ f ≤ 5) ∧ (0 ≤ i ∧ i ≤ n) ∧ 0 ≤ j ∧ n < j) := by omega
  clear h
  rcases hc with h | h | h | h | h | h | h | h
  all_goals
    go_enter Tryz.func6, Tryz.ntmps6
    go_wp2
    refine bodyPost_ret ?_ rfl ⟨rfl, bl1 w _⟩
    exact res_two Tryz.results6 _ _ w.heap.size _ _ (0, 0) _ _ rfl rfl (heap_alloc_new w _) Tryz.underlying28 rfl (by kernel_rfl)
theorem rplace_okN (n c : Nat) (hn : 1 ≤ n ∧ n ≤ 32) (hc : c < 6 * n * n) (w : World) :
    Calls Tryz.prog 24 #[.int .i64 n, .int .i64 c] w fun e w' => e = .returned (.tuple #[.int .i64 (cf n c), .int .i64 (ci n c), .int .i64 (cj n c), .bool true]) ∧ ∃ k, w' = w.drewN k := by
  have h := rplace_at n c w
  have hin : inR c (clN n) = true := by rw [inR_iff, clN_nat hn]; omega
  rw [hin, show pF n c = (cf n c : Nat) by simp [pF, hin, cf], show pI n c = (ci n c : Nat) by simp [pI, hin, ci], show pJ n c = (cj n c : Nat) by simp [pJ, hin, cj]] at h
  exact h
set_option maxHeartbeats 4000000 in
theorem rmiddle8_ok (n c : Nat) (w : World) (hn : 1 ≤ n ∧ n ≤ 32) (hc : c < 6 * n * n) :
    Calls Tryz.prog 8 #[.int .i64 n, .int .i64 c] w fun e w' => e = .returned (.tuple #[.agg #[.float .f64 (px n (MD n c)), .float .f64 (py n (MD n c)), .float .f64 (pz n (MD n c))], .bool true]) ∧ Below w.heap.size w w' := by
  obtain ⟨h1, h2, h3, -⟩ := dec_lt hn.1 hc
  have PL := hid (fun u => rplace_okN n c hn hc u)
  have PA : Hid (∀ (k : Int) u, -1000 ≤ k ∧ k ≤ 1000 → Calls Tryz.prog 22 #[.int .i64 k, .int .i64 n] u fun e w' => ∃ r m, e = .returned (.float .f64 r) ∧ w' = u.drewN m ∧ Hid (IsC r (qo n k))) := fun k u hk => rratio_at k n u hk (by omega)
  have PO : Hid (∀ p q u, Hid (IsC p (qo n (2 * (ci n c : Nat) + 1 - n))) → Hid (IsC q (qo n (2 * (cj n c : Nat) + 1 - n))) → Calls Tryz.prog 21 #[.int .i64 (cf n c : Nat), .float .f64 p, .float .f64 q] u fun e w' => e = .returned (.agg #[.float .f64 (px n (MD n c)), .float .f64 (py n (MD n c)), .float .f64 (pz n (MD n c))]) ∧ Below u.heap.size u w') := fun p q u hp hq => rpoint8_at n _ p q _ _ u hn.1 hn.2 h1 hp hq
  generalize px n (MD n c) = a at *
  generalize py n (MD n c) = b at *
  generalize pz n (MD n c) = d at *
  generalize cf n c = f at *
  have hi : ((ci n c : Nat) : Int) ≤ 32 := by omega
  have hj : ((cj n c : Nat) : Int) ≤ 32 := by omega
  have hn2 : (n : Int) ≤ 32 := by omega
  generalize ci n c = i at *
  generalize cj n c = j at *
  clear hn hc h1 h2 h3
  have A0 := hid (bl1 w (.cells #[.float .f64 0, .float .f64 0, .float .f64 0] 28))
  have R0 := hid (heap_alloc_new w (.cells #[.float .f64 0, .float .f64 0, .float .f64 0] 28))
  go_enter Tryz.func8, Tryz.ntmps8
  go_wp2_with fail
  refine (PL.out _).mono ?_
  rintro e w1 ⟨rfl, m0, rfl⟩
  go_wp2_with fail
  refine (PA.out _ _ (by omega)).mono ?_
  rintro e w1 ⟨p, m1, rfl, rfl, hp⟩
  go_wp2_with fail
  refine (PA.out _ _ (by omega)).mono ?_
  rintro e w1 ⟨q, m2, rfl, rfl, hq⟩
  go_wp2_with fail
  refine (PO.out _ _ _ hp hq).mono ?_
  rintro e w3 ⟨rfl, b3⟩
  have A3 : Hid (Ab w w3) := Ab.call (Ab.drewN A0.out _) b3
  have r0 : w3.heap[w.heap.size]? = some (.cells #[.float .f64 0, .float .f64 0, .float .f64 0] 28) := Ab.heap b3 R0.out
  obtain ⟨⟨o0, o1, o2⟩, o3, o4, o5⟩ := rowfacts r0
  have R3 := hid r0
  clear r0 b3 A0 R0
  go_wp2
  refine bodyPost_ret ?_ rfl ⟨rfl, ?_⟩
  · exact res_two Tryz.results8 _ _ w.heap.size _ _ (0, 0) _ _ rfl rfl (row3 R3.out) Tryz.underlying28 rfl (by kernel_rfl)
  · exact ((Ab.setk A3.out (by omega) _).setk (by omega) _).setk (by omega) _
set_option maxHeartbeats 2000000 in
theorem rmiddle8_no (n c : Int) (w : World) (h : inR c (clN n) = false) :
    Calls Tryz.prog 8 #[.int .i64 n, .int .i64 c] w fun e w' => e = .returned (.tuple #[.agg #[.float .f64 0, .float .f64 0, .float .f64 0], .bool false]) ∧ Below w.heap.size w w' := by
  have PL := hid (fun u => rplace_at n c u)
  rw [h] at PL
  generalize pF n c = f at *
  generalize pI n c = i at *
  generalize pJ n c = j at *
  clear h
  go_enter Tryz.func8, Tryz.ntmps8
  go_wp2_with fail
  refine (PL.out _).mono ?_
  rintro e w1 ⟨rfl, m0, rfl⟩
  have r0 : (World.drewN (w.alloc (.cells #[.float .f64 0, .float .f64 0, .float .f64 0] 28)) m0).heap[w.heap.size]? = some (.cells #[.float .f64 0, .float .f64 0, .float .f64 0] 28) := heap_alloc_new _ _
  obtain ⟨⟨o0, o1, o2⟩, o3, o4, o5⟩ := rowfacts r0
  have R3 := hid r0
  clear r0
  go_wp2
  refine bodyPost_ret ?_ rfl ⟨rfl, ?_⟩
  · exact res_two Tryz.results8 _ _ w.heap.size _ _ (0, 0) _ _ rfl rfl (row3 R3.out) Tryz.underlying28 rfl (by kernel_rfl)
  · exact (((Ab.drewN (bl1 w _) m0).setk (by omega) _).setk (by omega) _).setk (by omega) _
end Go.Proofs.YtdgkmaamjdglmaaGreatDoor
