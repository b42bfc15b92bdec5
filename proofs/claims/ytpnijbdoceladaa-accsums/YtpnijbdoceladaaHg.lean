/-
  The statement on sums in any order: a walk over the program.
-/
import Derived.Test.YtpnijbdoceladaaHf
import Derived.Test.YtpnijbdoceladaaRi
import Derived.Test.YtpnijbdoceladaaHe
import Derived.Deep.OwnRows
namespace Go.Proofs.Ytpnijbdoceladaa
open Go.RowKit Tf
attribute [local go_sem] run_bits run_from raw_feq raw_fne raw_flt raw_fgt
theorem run_store_flt {P : Program} (w : World) (a : Addr) (k : FloatKind) (b : Nat) (m : Mode) : (store a (.float k b) m).run P w = stored P w a (.float k b) m := run_store P w a _ m rfl
attribute [local go_sem] run_store_flt

theorem fl_of_row {w : World} {g n : Nat} {f : Nat → Nat} (h : w.rowIs g 30 n (fun k => .float .f64 (f k))) (hf : ∀ k, k < n → f k < 18446744073709551616) : IsFl w (some ⟨g, 0, none⟩) n f :=
  fun k hk => ⟨hf k hk, g, 0, rfl, h.lt, by rw [Nat.zero_add]; exact h.cell hk⟩
set_option maxHeartbeats 4000000 in
set_option maxRecDepth 100000 in
theorem su_none (a1 : Option Addr) (cap : Nat) (k : Int) (xs : Nat → Nat) (w : World) (h1 : Hid (IsFl w a1 0 xs)) :
    Calls Try.prog 4 #[.slice a1 0 cap, .int .i64 k] w fun e w' => e = .returned (.bool true) ∧ Below w.heap.size w w' := by
  have AW := hid awake_any
  have RB := hid rawBits_any
  have SS := hid same_self
  have S1 := hid (fun w' (hb : Below w.heap.size w w') => sum_at a1 0 cap xs w' (by omega) (h1.out.below hb))
  have S2 := hid (fun w' (hb : Below w.heap.size w w') => rsum_at a1 0 cap xs w' (by omega) (h1.out.below hb))
  have V0 : Hid (valB (sumS xs 0) = 0) := valB_S0
  go_enter Try.func4, Try.ntmps4
  go_wp2_with fail
  refine (AW.out _).mono ?_
  rintro e w1 ⟨rfl, b1⟩
  go_wp2_with fail
  refine (S1.out _ b1.out).mono ?_
  rw [V0.out]
  rintro e w2 ⟨rfl, b2⟩
  have B2 := hid (b1.out.trans (b2.out.mono b1.out.size))
  clear b1 b2
  go_wp2_with fail
  refine (S2.out _ B2.out).mono ?_
  rw [V0.out]
  rintro e w3 ⟨rfl, b3⟩
  have B3 := hid (B2.out.trans (b3.out.mono B2.out.size))
  clear b3 B2
  go_wp2_with fail
  refine (SS.out _ _).mono ?_
  rintro e w4 ⟨rfl, rfl⟩
  go_wp2_with fail
  refine (RB.out _ _).mono ?_
  rintro e w5 ⟨rfl, rfl⟩
  go_wp2
  go_ret
  exact ⟨rfl, B3.out⟩
set_option maxHeartbeats 4000000 in
set_option maxRecDepth 100000 in
theorem su_go (a1 : Option Addr) (len cap : Nat) (k : Int) (xs : Nat → Nat) (w : World) (hl : Hid (len ≤ 65536)) (l0 : 0 < (len : Int)) (hl2 : (len : Int) ≤ 65536) (h1 : Hid (IsFl w a1 len xs)) (q : Int) (Q : Nat) (HQ : Hid (q = Q)) (hq : (IntKind.u64.wrap k).tmod (len : Int) = q) (q0 : 0 ≤ q) (q1 : q < len) (y : Nat) (hy : Hid (valB (sumS xs len) = y)) :
    Calls Try.prog 4 #[.slice a1 len cap, .int .i64 k] w fun e w' => e = .returned (.bool true) ∧ Below w.heap.size w w' := by
  have hmk := run_make_row' (P := Try.prog) 43 30 (.float .f64 0) 8 Try.underlying43 info_f64 rfl .i64 .i64 len (by have := hl.out; omega) (by have := hl.out; omega)
  have AW := hid awake_any
  have RB := hid rawBits_any
  have SS := hid same_self
  have S1 := hid (fun w' (hb : Below w.heap.size w w') => sum_at a1 len cap xs w' (by have := hl.out; omega) (h1.out.below hb))
  have S2 := hid (fun w' (hb : Below w.heap.size w w') => rsum_at a1 len cap xs w' (by have := hl.out; omega) (h1.out.below hb))
  go_enter Try.func4, Try.ntmps4
  go_wp2_with fail
  refine (AW.out _).mono ?_
  rintro e w1 ⟨rfl, b1⟩
  go_wp2_with fail
  refine (S1.out _ b1.out).mono ?_
  rw [hy.out]
  rintro e w2 ⟨rfl, b2⟩
  have B2 := hid (b1.out.trans (b2.out.mono b1.out.size))
  clear b1 b2
  go_wp2_with fail
  refine (S2.out _ B2.out).mono ?_
  rw [hy.out]
  rintro e w3 ⟨rfl, b3⟩
  have B3 := hid (B2.out.trans (b3.out.mono B2.out.size))
  clear b3 B2
  go_wp2_with fail
  refine (SS.out _ _).mono ?_
  rintro e w4 ⟨rfl, rfl⟩
  go_wp2_with fail
  refine (new_go _).mono ?_
  rintro e w5 ⟨rfl, rfl⟩
  go_wp2_with fail
  refine (new_go _).mono ?_
  rintro e w6 ⟨rfl, rfl⟩
  have hs := B3.out.size
  have z1 : ∀ (a b : Obj), ((w4.alloc a).alloc b).heap.size = w4.heap.size + 2 := by intro a b; simp
  have z2 : ∀ (a b c : Obj), (((w4.alloc a).alloc b).alloc c).heap.size = w4.heap.size + 3 := by intro a b c; simp
  have z3 : ∀ (a b c d : Obj), ((((w4.alloc a).alloc b).alloc c).alloc d).heap.size = w4.heap.size + 4 := by intro a b c d; simp
  have z0 : ∀ (a : Obj), (w4.alloc a).heap.size = w4.heap.size + 1 := by intro a; simp
  have R1 := (((World.rowIs_made w4 (.float .f64 0) len 30).alloc (.cells (madeCells #[.float .f64 0] len) 30)).alloc (.cells (encA S0) 56)).alloc (.cells (encA S0) 56)
  have R2 := ((World.rowIs_made (w4.alloc (.cells (madeCells #[.float .f64 0] len) 30)) (.float .f64 0) len 30).alloc (.cells (encA S0) 56)).alloc (.cells (encA S0) 56)
  have R3 : IsAcc _ S0 ((((w4.alloc (.cells (madeCells #[.float .f64 0] len) 30)).alloc (.cells (madeCells #[.float .f64 0] len) 30)).alloc (.cells (encA S0) 56)).alloc (.cells (encA S0) 56)) := IsAcc.alloc (heap_alloc_new _ _) _
  have R4 : IsAcc _ S0 ((((w4.alloc (.cells (madeCells #[.float .f64 0] len) 30)).alloc (.cells (madeCells #[.float .f64 0] len) 30)).alloc (.cells (encA S0) 56)).alloc (.cells (encA S0) 56)) := heap_alloc_new _ _
  rw [z0] at R2
  rw [z1] at R3
  rw [z2] at R4
  have R5 : Below w.heap.size w ((((w4.alloc (.cells (madeCells #[.float .f64 0] len) 30)).alloc (.cells (madeCells #[.float .f64 0] len) 30)).alloc (.cells (encA S0) 56)).alloc (.cells (encA S0) 56)) :=
    (((B3.out.alloc hs _).alloc (by rw [z0]; omega) _).alloc (by rw [z1]; omega) _).alloc (by rw [z2]; omega) _
  have HR := hid (⟨R1, R2, R3, R4, R5⟩ : _ ∧ _ ∧ _ ∧ _ ∧ _)
  have HS := hid hs
  clear R1 R2 R3 R4 R5 hs z0 z3 B3
  go_wp2
  obtain ⟨W, hW⟩ : ∃ W, ((((w4.alloc (.cells (madeCells #[.float .f64 0] len) 30)).alloc (.cells (madeCells #[.float .f64 0] len) 30)).alloc (.cells (encA S0) 56)).alloc (.cells (encA S0) 56)) = W := ⟨_, rfl⟩
  rw [hW] at HR
  rw [hW]
  obtain ⟨ga, hga⟩ : ∃ g, w4.heap.size + 1 + 1 = g := ⟨_, rfl⟩
  have hga2 : w4.heap.size + 2 = ga := hga
  obtain ⟨gb, hgb⟩ : ∃ g, w4.heap.size + 3 = g := ⟨_, rfl⟩
  rw [hga2, hgb] at HR
  rw [hga, hgb]
  obtain ⟨gr, hgr⟩ : ∃ g, w4.heap.size + 1 = g := ⟨_, rfl⟩
  rw [hgr] at HR
  rw [hgr]
  have EE : Hid (w.heap.size ≤ w4.heap.size ∧ gr = w4.heap.size + 1 ∧ ga = w4.heap.size + 2 ∧ gb = w4.heap.size + 3) := ⟨HS.out, hgr.symm, hga2.symm, hgb.symm⟩
  clear hgr hgb hga hga2 HS hW z1 z2
  obtain ⟨gk, hgk⟩ : ∃ g, w4.heap.size = g := ⟨_, rfl⟩
  rw [hgk] at HR EE
  rw [hgk]
  clear hgk
  have n1 : gk ≠ gr := by have := EE.out; omega
  have n2 : gr ≠ gk := by have := EE.out; omega
  go_loopw [15] (fun iv wr => ∃ i : Nat, i ≤ len ∧ iv = .int .i64 (i : Nat) ∧ wr.rowIs gk 30 len (fun k => .float .f64 (if k < i then xs (len - 1 - k) else 0)) ∧ wr.rowIs gr 30 len (fun k => .float .f64 (if k < i then xs ((Q + k) % len) else 0)) ∧ IsAcc ga (sumS xs (min i Q)) wr ∧ IsAcc gb (sumS (fun k => xs (Q + k)) (i - Q)) wr ∧ Below w.heap.size w wr) (fun iv _ => len - (intOf iv).toNat)
  case atStart =>
    refine ⟨0, by omega, rfl, HR.out.1.congr (fun k _ => by simp), HR.out.2.1.congr (fun k _ => by simp), ?_, ?_, HR.out.2.2.2.2⟩
    · rw [Nat.zero_min]; exact HR.out.2.2.1
    · rw [Nat.zero_sub]; exact HR.out.2.2.2.1
  case round =>
    clear HR
    obtain ⟨i, hi, rfl, r1, r2, ra, rb, bel⟩ := hrel
    have hl' := hl.out
    by_cases hil : i < len
    · obtain ⟨j, hj⟩ : ∃ j : Nat, (len : Int) - 1 - (i : Int) = (j : Int) := ⟨len - 1 - i, by omega⟩
      obtain ⟨m, hm⟩ : ∃ m : Nat, (q + (i : Int)).tmod (len : Int) = (m : Int) := ⟨(Q + i) % len, by rw [HQ.out, ← Int.natCast_add]; rfl⟩
      have hjn : j = len - 1 - i := by omega
      have hmn : m = (Q + i) % len := by
        rw [HQ.out, ← Int.natCast_add] at hm
        exact (Int.ofNat.inj hm).symm
      have hml : m < len := by rw [hmn]; exact Nat.mod_lt _ (by omega)
      obtain ⟨xi0, b, o, ea, hb, ci⟩ := h1.out i hil
      subst ea
      obtain ⟨xj0, b2, o2, ea2, _, cj⟩ := h1.out j (by omega)
      obtain ⟨xm0, b3, o3, ea3, _, cm⟩ := h1.out m hml
      cases ea2
      cases ea3
      rw [← bel.cell (p := ⟨b, o + i, none⟩) hb] at ci
      rw [← bel.cell (p := ⟨b, o + j, none⟩) hb] at cj
      rw [← bel.cell (p := ⟨b, o + m, none⟩) hb] at cm
      obtain ⟨x, hx⟩ : ∃ x, xs i = x := ⟨_, rfl⟩
      obtain ⟨xj, hxj⟩ : ∃ x, xs j = x := ⟨_, rfl⟩
      obtain ⟨xm, hxm⟩ : ∃ x, xs m = x := ⟨_, rfl⟩
      rw [hx] at ci xi0
      rw [hxj] at cj
      rw [hxm] at cm
      have e1 := r1.cell hil
      have e2 := r2.cell hil
      rw [if_neg (by omega)] at e1 e2
      have f1 := r1.frozen i
      have f2 := r2.frozen i
      have d1 : b ≠ gk := by have := EE.out; omega
      have d2 : b ≠ gr := by have := EE.out; omega
      have d3 : gk ≠ b := by have := EE.out; omega
      have d4 : gr ≠ b := by have := EE.out; omega
      have row1 : ∀ v, (wr.setCell ⟨gk, i, none⟩ v).rowIs gr 30 len _ := fun v => r2.setOther (a := ⟨gk, i, none⟩) n2 v
      have W1 : Hid (((wr.setCell ⟨gk, i, none⟩ (.float .f64 xj)).setCell ⟨gr, i, none⟩ (.float .f64 xm)).rowIs gk 30 len (fun k => .float .f64 (if k < i + 1 then xs (len - 1 - k) else 0))) := by
        refine ((r1.set i (.float .f64 xj)).setOther (a := ⟨gr, i, none⟩) n1 _).congr (fun k hk => ?_)
        by_cases c : k = i
        · rw [if_pos c, if_pos (by omega), c, ← hxj, hjn]
        · rw [if_neg c]
          by_cases c2 : k < i
          · rw [if_pos c2, if_pos (by omega)]
          · rw [if_neg c2, if_neg (by omega)]
      have W2 : Hid (((wr.setCell ⟨gk, i, none⟩ (.float .f64 xj)).setCell ⟨gr, i, none⟩ (.float .f64 xm)).rowIs gr 30 len (fun k => .float .f64 (if k < i + 1 then xs ((Q + k) % len) else 0))) := by
        refine ((row1 (.float .f64 xj)).set i (.float .f64 xm)).congr (fun k hk => ?_)
        by_cases c : k = i
        · rw [if_pos c, if_pos (by omega), c, ← hxm, hmn]
        · rw [if_neg c]
          by_cases c2 : k < i
          · rw [if_pos c2, if_pos (by omega)]
          · rw [if_neg c2, if_neg (by omega)]
      have W3 : Hid (IsAcc ga (sumS xs (min i Q)) ((wr.setCell ⟨gk, i, none⟩ (.float .f64 xj)).setCell ⟨gr, i, none⟩ (.float .f64 xm))) := by
        show IsAcc _ _ _
        unfold IsAcc
        rw [(only_set gr i _ _).block ga (by have := EE.out; omega), (only_set gk i _ _).block ga (by have := EE.out; omega)]
        exact ra
      have W4 : Hid (IsAcc gb (sumS (fun k => xs (Q + k)) (i - Q)) ((wr.setCell ⟨gk, i, none⟩ (.float .f64 xj)).setCell ⟨gr, i, none⟩ (.float .f64 xm))) := by
        show IsAcc _ _ _
        unfold IsAcc
        rw [(only_set gr i _ _).block gb (by have := EE.out; omega), (only_set gk i _ _).block gb (by have := EE.out; omega)]
        exact rb
      have W5 : Hid (Below w.heap.size w ((wr.setCell ⟨gk, i, none⟩ (.float .f64 xj)).setCell ⟨gr, i, none⟩ (.float .f64 xm))) := by
        have h1 := (only_set gk i (.float .f64 xj) wr).but.below (B := w.heap.size) (by have := EE.out; omega) bel.size
        exact (bel.trans h1).trans ((only_set gr i (.float .f64 xm) _).but.below (by have := EE.out; omega) (Nat.le_trans bel.size h1.size))
      have HX := hid hx
      have HX0 := hid xi0
      have HI := hid hil
      have il : ((i : Nat) : Int) < len := by omega
      have ml : ((m : Nat) : Int) < len := by omega
      have jl : ((j : Nat) : Int) < len := by omega
      have HN := hid hl'
      clear hl' hi hil r1 r2 ra rb bel hx hxj hxm hjn hmn hml xj0 xm0 xi0 row1 hb
      by_cases iq : (i : Int) < q
      · have A := hid (add_at ga x _ _ HX0.out W3.out (sumS_good xs (min i Q) (by have := HN.out; have := HI.out; omega)) (by rw [sumS_c]; have := HN.out; have := HI.out; omega))
        go_wp2_with fail
        refine A.out.mono ?_
        rintro e w' ⟨rfl, p1, p2⟩
        have HF : Hid (w'.rowIs gk 30 len (fun k => .float .f64 (if k < i + 1 then xs (len - 1 - k) else 0)) ∧ w'.rowIs gr 30 len (fun k => .float .f64 (if k < i + 1 then xs ((Q + k) % len) else 0)) ∧ IsAcc ga (sumS xs (min (i + 1) Q)) w' ∧ IsAcc gb (sumS (fun k => xs (Q + k)) (i + 1 - Q)) w' ∧ Below w.heap.size w w') := by
          refine ⟨W1.out.of_block (p2.out.block gk (by have := EE.out; omega) W1.out.lt), W2.out.of_block (p2.out.block gr (by have := EE.out; omega) W2.out.lt), ?_, ?_, W5.out.trans (p2.out.below (by have := EE.out; omega) W5.out.size)⟩
          · rw [Nat.min_eq_left (by have := HQ.out; omega)]
            have h := p1.out
            rw [← HX.out, Nat.min_eq_left (by have := HQ.out; omega)] at h
            exact h
          · rw [show i + 1 - Q = i - Q by have := HQ.out; omega]
            unfold IsAcc
            rw [p2.out.block gb (by have := EE.out; omega) (row_lt W4.out)]
            exact W4.out
        clear p1 p2
        go_wp2
        refine ⟨⟨i + 1, HI.out, by simp, HF.out.1, HF.out.2.1, HF.out.2.2.1, HF.out.2.2.2.1, HF.out.2.2.2.2⟩, by have := HI.out; simp [intOf]; omega⟩
      · have iq2 : q ≤ (i : Int) := by omega
        have A := hid (add_at gb x _ _ HX0.out W4.out (sumS_good (fun k => xs (Q + k)) (i - Q) (by have := HN.out; have := HI.out; omega)) (by rw [sumS_c]; have := HN.out; have := HI.out; omega))
        go_wp2_with fail
        refine A.out.mono ?_
        rintro e w' ⟨rfl, p1, p2⟩
        have HF : Hid (w'.rowIs gk 30 len (fun k => .float .f64 (if k < i + 1 then xs (len - 1 - k) else 0)) ∧ w'.rowIs gr 30 len (fun k => .float .f64 (if k < i + 1 then xs ((Q + k) % len) else 0)) ∧ IsAcc ga (sumS xs (min (i + 1) Q)) w' ∧ IsAcc gb (sumS (fun k => xs (Q + k)) (i + 1 - Q)) w' ∧ Below w.heap.size w w') := by
          refine ⟨W1.out.of_block (p2.out.block gk (by have := EE.out; omega) W1.out.lt), W2.out.of_block (p2.out.block gr (by have := EE.out; omega) W2.out.lt), ?_, ?_, W5.out.trans (p2.out.below (by have := EE.out; omega) W5.out.size)⟩
          · rw [Nat.min_eq_right (by have := HQ.out; omega)]
            have h := W3.out
            rw [Nat.min_eq_right (by have := HQ.out; omega)] at h
            unfold IsAcc
            rw [p2.out.block ga (by have := EE.out; omega) (row_lt h)]
            exact h
          · have h := p1.out
            rw [show i + 1 - Q = (i - Q) + 1 by have := HQ.out; omega]
            show IsAcc gb (stepA (sumS (fun k => xs (Q + k)) (i - Q)) (xs (Q + (i - Q)))) w'
            rw [show Q + (i - Q) = i by have := HQ.out; omega, HX.out]
            exact h
        clear p1 p2
        go_wp2
        refine ⟨⟨i + 1, HI.out, by simp, HF.out.1, HF.out.2.1, HF.out.2.2.1, HF.out.2.2.2.1, HF.out.2.2.2.2⟩, by have := HI.out; simp [intOf]; omega⟩
    · have e : i = len := by omega
      subst e
      have il : decide (((i : Nat) : Int) < (i : Nat)) = false := by simp
      have hQi : Q ≤ i := by have := HQ.out; omega
      have F1 : Hid (IsFl wr (some ⟨gk, 0, none⟩) i (fun k => xs (i - 1 - k))) :=
        fl_of_row (r1.congr (fun k hk => by rw [if_pos hk])) (fun k hk => (h1.out _ (by omega)).1)
      have F2 : Hid (IsFl wr (some ⟨gr, 0, none⟩) i (fun k => xs ((Q + k) % i))) :=
        fl_of_row (r2.congr (fun k hk => by rw [if_pos hk])) (fun k hk => (h1.out _ (Nat.mod_lt _ (by omega))).1)
      have S3 : Hid (Calls Try.prog 23 #[.slice (some ⟨gk, 0, none⟩) i i] wr fun e w'' => e = .returned (.tuple #[.float .f64 y, .int .i64 0]) ∧ Hid (Below wr.heap.size wr w'')) := by
        have h := sum_at (some ⟨gk, 0, none⟩) i i (fun k => xs (i - 1 - k)) wr (by omega) F1.out
        rw [sumS_back, hy.out] at h; exact h
      have S4 : Hid (∀ w', Below wr.heap.size wr w' → Calls Try.prog 23 #[.slice (some ⟨gr, 0, none⟩) i i] w' fun e w'' => e = .returned (.tuple #[.float .f64 y, .int .i64 0]) ∧ Hid (Below w'.heap.size w' w'')) := by
        intro w' hb
        have h := sum_at (some ⟨gr, 0, none⟩) i i (fun k => xs ((Q + k) % i)) w' (by omega) (F2.out.below hb)
        rw [sumS_round xs Q i (by have := HQ.out; omega), hy.out] at h; exact h
      rw [Nat.min_eq_right hQi] at ra
      have GA := sumS_good xs Q (by omega)
      have GB := sumS_good (fun k => xs (Q + k)) (i - Q) (by omega)
      have GC := sumS_good xs i (by omega)
      obtain ⟨z, hz⟩ : ∃ z, valB (sumS (fun k => xs (Q + k)) (i - Q)) = z := ⟨_, rfl⟩
      have KB : Hid (∀ w', IsAcc gb (sumS (fun k => xs (Q + k)) (i - Q)) w' → Calls Try.prog 21 #[.pointer (some ⟨gb, 0, none⟩)] w' fun e w'' => e = .returned (.float .f64 z) ∧ Below w'.heap.size w' w'') := by
        intro w' h
        have h := value_at gb _ w' h GB.c0 GB.h0 GB.h1
        rw [hz] at h; exact h
      have KA : Hid (∀ w', IsAcc ga (sumS xs i) w' → Calls Try.prog 21 #[.pointer (some ⟨ga, 0, none⟩)] w' fun e w'' => e = .returned (.float .f64 y) ∧ Below w'.heap.size w' w'') := by
        intro w' h
        have h := value_at ga _ w' h GC.c0 GC.h0 GC.h1
        rw [hy.out] at h; exact h
      have MM : Hid (∀ w', IsAcc ga (sumS xs Q) w' → IsAcc gb (sumS (fun k => xs (Q + k)) (i - Q)) w' → Calls Try.prog 16 #[.pointer (some ⟨ga, 0, none⟩), .pointer (some ⟨gb, 0, none⟩)] w' fun e w'' => e = .returned (.int .i64 0) ∧ (Hid (IsAcc ga (sumS xs i) w'') ∧ Hid (But ga w' w''))) := by
        intro w' h h'
        have h := merge_at ga gb _ _ w' (by have := EE.out; omega) h h' GA.c0 GB.c0 (by rw [sumS_c, sumS_c]; omega) GA.n0 GA.n1 GB.n0 GB.n1
        rw [sumS_two xs Q i hQi] at h; exact h
      have CA : Hid (∀ w', IsAcc ga (sumS xs i) w' → Calls Try.prog 18 #[.pointer (some ⟨ga, 0, none⟩)] w' fun e w'' => e = .returned (.int .i64 (i : Int)) ∧ w'' = w') := by
        intro w' h
        refine count_at ga i w' ?_
        have h := h.c0
        rw [sumS_c] at h; exact h
      have CB : Hid (∀ w', IsAcc gb (sumS (fun k => xs (Q + k)) (i - Q)) w' → Calls Try.prog 18 #[.pointer (some ⟨gb, 0, none⟩)] w' fun e w'' => e = .returned (.int .i64 ((i : Int) - q)) ∧ w'' = w') := by
        intro w' h
        refine count_at gb _ w' ?_
        have h := h.c0
        rw [sumS_c, show (((i - Q : Nat) : Int)) = (i : Int) - q by have := HQ.out; omega] at h; exact h
      have HRA := hid ra
      have HRB := hid rb
      have BEL := hid bel
      clear ra rb bel r1 r2 F1 F2 hl' hi hil GA GB GC hz hQi S1 S2
      go_wp2_with fail
      refine S3.out.mono ?_
      rintro e w5 ⟨rfl, b5⟩
      go_wp2_with fail
      refine (S4.out _ b5.out).mono ?_
      rintro e w6 ⟨rfl, b6⟩
      have B6 := hid (b5.out.trans (b6.out.mono b5.out.size))
      clear b5 b6
      go_wp2_with fail
      refine (KB.out _ (HRB.out.below B6.out (row_lt HRB.out))).mono ?_
      rintro e w7 ⟨rfl, b7⟩
      have B7 := hid (B6.out.trans (b7.mono B6.out.size))
      clear b7 B6
      go_wp2_with fail
      refine (MM.out _ (HRA.out.below B7.out (row_lt HRA.out)) (HRB.out.below B7.out (row_lt HRB.out))).mono ?_
      rintro e w8 ⟨rfl, ma, mb⟩
      have M8 : Hid (IsAcc gb (sumS (fun k => xs (Q + k)) (i - Q)) w8) := by
        have h := HRB.out.below B7.out (row_lt HRB.out)
        show IsAcc _ _ _
        unfold IsAcc
        rw [mb.out.block gb (by have := EE.out; omega) (row_lt h)]; exact h
      have B8 : Hid (Below w.heap.size w w8) := by
        have h := BEL.out.trans (B7.out.mono BEL.out.size)
        exact h.trans (mb.out.below (by have := EE.out; omega) h.size)
      clear mb B7 BEL HRA HRB
      go_wp2_with fail
      refine (SS.out _ _).mono ?_
      rintro e w9 ⟨rfl, rfl⟩
      go_wp2_with fail
      refine (SS.out _ _).mono ?_
      rintro e w10 ⟨rfl, rfl⟩
      go_wp2_with fail
      refine (KA.out _ ma.out).mono ?_
      rintro e w11 ⟨rfl, b11⟩
      have M11 := hid (M8.out.below b11 (row_lt M8.out))
      have A11 := hid (ma.out.below b11 (row_lt ma.out))
      have B11 := hid (B8.out.trans (b11.mono B8.out.size))
      clear b11 M8 ma B8
      go_wp2_with fail
      refine (SS.out _ _).mono ?_
      rintro e w12 ⟨rfl, rfl⟩
      go_wp2_with fail
      refine (CA.out _ A11.out).mono ?_
      rintro e w13 ⟨rfl, rfl⟩
      go_wp2_with fail
      refine (CB.out _ M11.out).mono ?_
      rintro e w14 ⟨rfl, rfl⟩
      go_wp2_with fail
      refine (KB.out _ M11.out).mono ?_
      rintro e w15 ⟨rfl, b15⟩
      have B15 := hid (B11.out.trans (b15.mono B11.out.size))
      clear b15
      go_wp2_with fail
      refine (SS.out _ _).mono ?_
      rintro e w16 ⟨rfl, rfl⟩
      go_wp2
      go_ret
      exact ⟨rfl, B15.out⟩
end Go.Proofs.Ytpnijbdoceladaa
