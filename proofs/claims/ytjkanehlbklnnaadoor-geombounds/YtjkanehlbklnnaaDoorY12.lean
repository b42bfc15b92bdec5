/-
  Some of the texts of this proof, one behind the other.
-/
import Derived.Test.YtjkanehlbklnnaaDoorY11
import Derived.Deep.Cut
import Derived.Test.YtjkanehlbklnnaaDoorY07
import Derived.Test.YtjkanehlbklnnaaDoorY08
/-
  The corners of a side: walk over the program.
-/
namespace Go.Proofs.YtjkanehlbklnnaaDoor
open Go.RowKit Tf Cu
attribute [local go_sem] run_bits run_from raw_feq raw_fne raw_flt raw_fgt run_neg run_store_float
set_option maxHeartbeats 16000000 in
theorem ends8_3 (n c s : Nat) (w : World) (hn : 1 ≤ n ∧ n ≤ 32) (hc : c < 6 * n * n) (hs : s < 4) (hk : s = 3) :
    Calls Tryd.prog 11 #[.int .i64 n, .int .i64 c, .int .i64 s] w fun e w' => e = .returned (.tuple #[.agg #[.float .f64 (px n (C1 n c s)), .float .f64 (py n (C1 n c s)), .float .f64 (pz n (C1 n c s))], .agg #[.float .f64 (px n (C2 n c s)), .float .f64 (py n (C2 n c s)), .float .f64 (pz n (C2 n c s))]]) ∧ Below w.heap.size w w' := by
  obtain ⟨h1, h2, h3, -⟩ := dec_lt hn.1 hc
  have PL := hid (fun u => place_ok n c hn hc u)
  obtain ⟨i1, j1, i2, j2, ⟨e1, e2, e3, e4⟩, K1, K2⟩ := ends8_calls n c s hn hc hs
  have K1 := hid K1
  have K2 := hid K2
  generalize px n (C1 n c s) = x1 at *
  generalize py n (C1 n c s) = y1 at *
  generalize pz n (C1 n c s) = z1 at *
  generalize px n (C2 n c s) = x2 at *
  generalize py n (C2 n c s) = y2 at *
  generalize pz n (C2 n c s) = z2 at *
  have hi : ((ci n c : Nat) : Int) ≤ 32 := by omega
  have hj : ((cj n c : Nat) : Int) ≤ 32 := by omega
  generalize cf n c = f at *
  generalize ci n c = i at *
  generalize cj n c = j at *
  clear hn hc h1 h2 h3
  have A0 := hid (bl2 w (.cells #[.float .f64 0, .float .f64 0, .float .f64 0] 30) (.cells #[.float .f64 0, .float .f64 0, .float .f64 0] 30))
  have R0 := hid (And.intro (heap_alloc2_old w (.cells #[.float .f64 0, .float .f64 0, .float .f64 0] 30) (.cells #[.float .f64 0, .float .f64 0, .float .f64 0] 30)) (heap_alloc2_new w (.cells #[.float .f64 0, .float .f64 0, .float .f64 0] 30) (.cells #[.float .f64 0, .float .f64 0, .float .f64 0] 30)))
  subst hk
  · obtain rfl : i1 = 0 := e1
    obtain rfl : j1 = 0 := e2
    obtain rfl : i2 = 1 := e3
    obtain rfl : j2 = 0 := e4
    have L1 : Hid (∀ u, Calls Tryd.prog 14 #[.int .i64 n, .int .i64 f, .int .i64 (IntKind.i64.wrap ((i : Nat) : Int)), .int .i64 (IntKind.i64.wrap ((j : Nat) : Int))] u fun e w' => e = .returned (.tuple #[.agg #[.float .f64 x1, .float .f64 y1, .float .f64 z1], .bool true]) ∧ Below u.heap.size u w') := fun u => by
      rw [wr64 _ (by omega) (by omega), wr64 _ (by omega) (by omega)]; exact K1.out u
    have L2 : Hid (∀ u, Calls Tryd.prog 14 #[.int .i64 n, .int .i64 f, .int .i64 (IntKind.i64.wrap (((i : Nat) : Int) + 1)), .int .i64 (IntKind.i64.wrap ((j : Nat) : Int))] u fun e w' => e = .returned (.tuple #[.agg #[.float .f64 x2, .float .f64 y2, .float .f64 z2], .bool true]) ∧ Below u.heap.size u w') := fun u => by
      rw [wr64 _ (by omega) (by omega), wr64 _ (by omega) (by omega)]; exact K2.out u
    clear hs K1 K2
    clear K1 K2
    go_enter Tryd.func11, Tryd.ntmps11
    go_wp2_with fail
    refine (PL.out _).mono ?_
    rintro e w1 ⟨rfl, m0, rfl⟩
    go_upto_region 4 with fail
    have FR := hid (four_rows w (.cells #[.float .f64 0, .float .f64 0, .float .f64 0] 30) (.cells #[.float .f64 0, .float .f64 0, .float .f64 0] 30) (.cells #[.int .i64 1, .int .i64 0, .int .i64 0, .int .i64 0] 3) (.cells #[.int .i64 0, .int .i64 1, .int .i64 0, .int .i64 0] 3) m0)
    generalize hW : World.alloc _ _ = W
    have FW : Hid (W.heap[w.heap.size]? = some (.cells #[.float .f64 0, .float .f64 0, .float .f64 0] 30) ∧ W.heap[w.heap.size + 1]? = some (.cells #[.float .f64 0, .float .f64 0, .float .f64 0] 30) ∧ W.heap[w.heap.size + 1 + 1]? = some (.cells #[.int .i64 1, .int .i64 0, .int .i64 0, .int .i64 0] 3) ∧ W.heap[w.heap.size + 1 + 1 + 1]? = some (.cells #[.int .i64 0, .int .i64 1, .int .i64 0, .int .i64 0] 3) ∧ Ab w W) := by rw [← hW]; exact FR.out
    clear hW FR A0 R0 PL
    have KS : Hid (∀ w', Ab W w' → Ab W w' ∧ w'.cell? ⟨w.heap.size + 1 + 1, 3, none⟩ = some (.int .i64 0) ∧ w'.cell? ⟨w.heap.size + 1 + 1 + 1, 3, none⟩ = some (.int .i64 0)) := fun w' hw => ⟨hw, cell_of_row _ _ 3 _ _ _ (hw.heap FW.out.2.2.1), cell_of_row _ _ 3 _ _ _ (hw.heap FW.out.2.2.2.1)⟩
    have AW := Ab.refl W
    have LS : Hid (∀ u, Ab W u → Calls Tryd.prog 14 #[.int .i64 n, .int .i64 f, .int .i64 (IntKind.i64.wrap ((i : Nat) : Int)), .int .i64 (IntKind.i64.wrap ((j : Nat) : Int))] u fun e w' => e = .returned (.tuple #[.agg #[.float .f64 x1, .float .f64 y1, .float .f64 z1], .bool true]) ∧ Below u.heap.size u w' ∧ Ab W w') := fun u hu => (L1.out u).mono fun _ _ ⟨he, hb⟩ => ⟨he, hb, hu.call hb⟩
    go_cut [14] from 28 to 46 (fun s14 wx => ∃ g14, s14 = .pointer (some ⟨g14, 0, none⟩) ∧ Ab W wx ∧ W.heap.size ≤ g14 ∧ wx.heap[g14]? = some (.cells #[.float .f64 x1, .float .f64 y1, .float .f64 z1] 30))
    case first =>
      go_region_held3 (fun w' => Ab W w' ∧ w'.cell? ⟨w.heap.size + 1 + 1, 3, none⟩ = some (.int .i64 0) ∧ w'.cell? ⟨w.heap.size + 1 + 1 + 1, 3, none⟩ = some (.int .i64 0)) ((refine KS.out _ ?_; (with_reducible (repeat (first | assumption | apply Ab.drew | apply Ab.alloc | (refine Ab.call ?_ (by assumption)) | (refine Ab.setk ?_ (by first | assumption | exact Nat.le_refl _ | omega) _)))); done)) (first
        | (go_at_call 14; refine (LS.out _ ?_).mono ?_; (exact And.left (by assumption)); rintro e w2 ⟨rfl, b2, a2⟩; have l2 : W.heap.size ≤ w2.heap.size := Nat.le_trans (by first | exact Nat.le_refl _ | (simp; done)) (Below.size b2); (try (have n2 := newrow b2; have n2' := rowfacts n2; obtain ⟨⟨_, _, _⟩, _, _, _⟩ := n2'))))
      all_goals go_wp2_with fail
      all_goals go_meet
      all_goals refine ⟨_, rfl, ?_, ?_, ?_⟩
      all_goals first
        | exact heap_alloc_new _ _
        | exact row3 n2
        | exact a2.size
        | exact l2
        | exact Nat.le_refl _
        | ((with_reducible (repeat (first | assumption | apply Ab.drew | apply Ab.alloc | (refine Ab.setk ?_ (by first | assumption | exact Nat.le_refl _ | omega) _)))); done)
    case rest =>
    obtain ⟨g14, rfl, A4, hg14, r14⟩ := hcut
    have R14 := hid r14
    have F4 := hid (And.intro (A4.heap FW.out.1) (And.intro (A4.heap FW.out.2.1) (FW.out.2.2.2.2.trans A4)))
    have HG : Hid (w.heap.size + 4 ≤ g14) := by
      have := lt_of_block FW.out.2.2.2.1
      show _ ≤ _
      omega
    clear KS AW r14 A4 hg14 L1 LS FW
    go_upto_region 7 with fail
    have FR := hid (And.intro (heap_alloc2_old wc (.cells #[.int .i64 1, .int .i64 1, .int .i64 0, .int .i64 1] 3) (.cells #[.int .i64 1, .int .i64 1, .int .i64 1, .int .i64 0] 3)) (heap_alloc2_new wc (.cells #[.int .i64 1, .int .i64 1, .int .i64 0, .int .i64 1] 3) (.cells #[.int .i64 1, .int .i64 1, .int .i64 1, .int .i64 0] 3)))
    have FB := hid (bl2 wc (.cells #[.int .i64 1, .int .i64 1, .int .i64 0, .int .i64 1] 3) (.cells #[.int .i64 1, .int .i64 1, .int .i64 1, .int .i64 0] 3))
    generalize hW : World.alloc _ _ = W2
    have FW : Hid (W2.heap[wc.heap.size]? = some (.cells #[.int .i64 1, .int .i64 1, .int .i64 0, .int .i64 1] 3) ∧ W2.heap[wc.heap.size + 1]? = some (.cells #[.int .i64 1, .int .i64 1, .int .i64 1, .int .i64 0] 3)) := by rw [← hW]; exact FR.out
    have A2 : Ab wc W2 := by rw [← hW]; exact FB.out
    have F2 := hid (And.intro (A2.heap F4.out.1) (And.intro (A2.heap F4.out.2.1) (F4.out.2.2.trans A2)))
    have R2 := hid (A2.heap R14.out)
    clear hW FR FB A2 F4 R14
    have KS : Hid (∀ w', Ab W2 w' → Ab W2 w' ∧ w'.cell? ⟨wc.heap.size, 3, none⟩ = some (.int .i64 1) ∧ w'.cell? ⟨wc.heap.size + 1, 3, none⟩ = some (.int .i64 0)) := fun w' hw => ⟨hw, cell_of_row _ _ 3 _ _ _ (hw.heap FW.out.1), cell_of_row _ _ 3 _ _ _ (hw.heap FW.out.2)⟩
    have AW := Ab.refl W2
    have LS : Hid (∀ u, Ab W2 u → Calls Tryd.prog 14 #[.int .i64 n, .int .i64 f, .int .i64 (IntKind.i64.wrap (((i : Nat) : Int) + 1)), .int .i64 (IntKind.i64.wrap ((j : Nat) : Int))] u fun e w' => e = .returned (.tuple #[.agg #[.float .f64 x2, .float .f64 y2, .float .f64 z2], .bool true]) ∧ Below u.heap.size u w' ∧ Ab W2 w') := fun u hu => (L2.out u).mono fun _ _ ⟨he, hb⟩ => ⟨he, hb, hu.call hb⟩
    go_cut [16] from 48 to 66 (fun s16 wx => ∃ g16, s16 = .pointer (some ⟨g16, 0, none⟩) ∧ Ab W2 wx ∧ W2.heap.size ≤ g16 ∧ wx.heap[g16]? = some (.cells #[.float .f64 x2, .float .f64 y2, .float .f64 z2] 30))
    case first =>
      go_region_held3 (fun w' => Ab W2 w' ∧ w'.cell? ⟨wc.heap.size, 3, none⟩ = some (.int .i64 1) ∧ w'.cell? ⟨wc.heap.size + 1, 3, none⟩ = some (.int .i64 0)) ((refine KS.out _ ?_; (with_reducible (repeat (first | assumption | apply Ab.drew | apply Ab.alloc | (refine Ab.call ?_ (by assumption)) | (refine Ab.setk ?_ (by first | assumption | exact Nat.le_refl _ | omega) _)))); done)) (first
        | (go_at_call 14; refine (LS.out _ ?_).mono ?_; (exact And.left (by assumption)); rintro e w2 ⟨rfl, b2, a2⟩; have l2 : W2.heap.size ≤ w2.heap.size := Nat.le_trans (by first | exact Nat.le_refl _ | (simp; done)) (Below.size b2); (try (have n2 := newrow b2; have n2' := rowfacts n2; obtain ⟨⟨_, _, _⟩, _, _, _⟩ := n2'))))
      all_goals go_wp2_with fail
      all_goals go_meet
      all_goals refine ⟨_, rfl, ?_, ?_, ?_⟩
      all_goals first
        | exact heap_alloc_new _ _
        | exact row3 n2
        | exact a2.size
        | exact l2
        | exact Nat.le_refl _
        | ((with_reducible (repeat (first | assumption | apply Ab.drew | apply Ab.alloc | (refine Ab.setk ?_ (by first | assumption | exact Nat.le_refl _ | omega) _)))); done)
    case rest =>
    obtain ⟨g16, rfl, A4, hg16, r16⟩ := hcut
    have R14 := hid (A4.heap R2.out)
    have G0 := hid (A4.heap F2.out.1)
    have G1 := hid (A4.heap F2.out.2.1)
    have AZ := hid (F2.out.2.2.trans A4)
    have HG2 : w.heap.size + 2 ≤ g16 := by
      have := lt_of_block F2.out.2.1
      omega
    have HG1 : w.heap.size + 2 ≤ g14 := by have := HG.out; omega
    have R16 := hid r16
    clear KS AW LS L2 FW F2 R2 A4 hg16 r16 HG
    obtain ⟨-, a0, a1, a2⟩ := rowfacts R14.out
    obtain ⟨-, d0, d1, d2⟩ := rowfacts R16.out
    obtain ⟨⟨o0, o1, o2⟩, zz0, zz1, zz2⟩ := rowfacts G0.out
    obtain ⟨⟨o3, o4, o5⟩, zz3, zz4, zz5⟩ := rowfacts G1.out
    go_upto_region 8 with fail
    go_region
    have r0' := other3 (g := w.heap.size + 1) (h := w.heap.size) (a := 0) (b := 1) (c := 2) (x := .float .f64 x2) (y := .float .f64 y2) (z := .float .f64 z2) (by omega) (row3 (x := .float .f64 x1) (y := .float .f64 y1) (z := .float .f64 z1) G0.out)
    have r1' := row3 (x := .float .f64 x2) (y := .float .f64 y2) (z := .float .f64 z2) (other3 (g := w.heap.size) (h := w.heap.size + 1) (a := 0) (b := 1) (c := 2) (x := .float .f64 x1) (y := .float .f64 y1) (z := .float .f64 z1) (by omega) G1.out)
    have R0' := hid r0'
    have R1' := hid r1'
    clear r0' r1'
    all_goals go_wp2
    refine bodyPost_ret ?_ rfl ⟨rfl, ?_⟩
    · exact res_rows Tryd.results11 _ _ w.heap.size (w.heap.size + 1) _ _ _ _ rfl rfl (by rw [heap_drew]; exact R0'.out) (by rw [heap_drew]; exact R1'.out) Tryd.underlying30 rfl (by kernel_rfl) (by kernel_rfl)
    · exact Ab.drew ((((((Ab.setk AZ.out (by omega) _).setk (by omega) _).setk (by omega) _).setk (by omega) _).setk (by omega) _).setk (by omega) _)
end Go.Proofs.YtjkanehlbklnnaaDoor

/-
  The corners of a side: walk over the program.
-/
namespace Go.Proofs.YtjkanehlbklnnaaDoor
open Go.RowKit Tf Cu
attribute [local go_sem] run_bits run_from raw_feq raw_fne raw_flt raw_fgt run_neg run_store_float
theorem ends8_at (n c s : Nat) (w : World) (hn : 1 ≤ n ∧ n ≤ 32) (hc : c < 6 * n * n) (hs : s < 4) :
    Calls Tryd.prog 11 #[.int .i64 n, .int .i64 c, .int .i64 s] w fun e w' => e = .returned (.tuple #[.agg #[.float .f64 (px n (C1 n c s)), .float .f64 (py n (C1 n c s)), .float .f64 (pz n (C1 n c s))], .agg #[.float .f64 (px n (C2 n c s)), .float .f64 (py n (C2 n c s)), .float .f64 (pz n (C2 n c s))]]) ∧ Below w.heap.size w w' := by
  rcases Cu.four hs with rfl | rfl | rfl | rfl
  · exact ends8_0 n c 0 w hn hc hs rfl
  · exact ends8_1 n c 1 w hn hc hs rfl
  · exact ends8_2 n c 2 w hn hc hs rfl
  · exact ends8_3 n c 3 w hn hc hs rfl
end Go.Proofs.YtjkanehlbklnnaaDoor

/-
  A point's length, nearly 1: walk over the program.
-/
namespace Go.Proofs.YtjkanehlbklnnaaDoor
open Go.RowKit Tf Cu
attribute [local go_sem] run_bits run_from raw_feq raw_fne raw_flt raw_fgt run_neg run_store_float
theorem near_vals : ∀ k < 13, canonB (sbB (4607182418800017400 + k) 4607182418800017408) = sbB (4607182418800017400 + k) 4607182418800017408 ∧ isN (sbB (4607182418800017400 + k) 4607182418800017408) = false ∧ ((flt (sbB (4607182418800017400 + k) 4607182418800017408) 4382002437431492608 || feq (sbB (4607182418800017400 + k) 4607182418800017408) 4382002437431492608) = true ∧ (fgt (sbB (4607182418800017400 + k) 4607182418800017408) 13605374474286268416 || feq (sbB (4607182418800017400 + k) 4607182418800017408) 13605374474286268416) = true) := by decide +kernel
theorem near_zero : (flt 9223372036854775808 4382002437431492608 || feq 9223372036854775808 4382002437431492608) = true ∧ (fgt 9223372036854775808 13605374474286268416 || feq 9223372036854775808 13605374474286268416) = true := by decide +kernel
theorem near_r {L r : Nat} (h1 : 4607182418800017400 ≤ L) (h2 : L ≤ 4607182418800017412) (hr : IsC r (sbB L 4607182418800017408)) : (flt r 4382002437431492608 || feq r 4382002437431492608) = true ∧ (fgt r 13605374474286268416 || feq r 13605374474286268416) = true := by
  obtain ⟨k, rfl⟩ : ∃ k, L = 4607182418800017400 + k := ⟨L - 4607182418800017400, by omega⟩
  obtain ⟨-, v2, v3⟩ := near_vals k (by omega)
  have e := hr.2
  rcases canon_cases hr.1 with ⟨h, q⟩ | ⟨h, q⟩ | ⟨-, -, q⟩
  · rw [q] at e; rw [← e] at v2; exact absurd v2 (by decide)
  · rw [q] at e
    rw [← e] at v3
    cases hn : ng r
    · have : r = 0 := by rw [mg_of_lt (lt_of_ng hn)] at h; exact h
      rw [this]; exact v3
    · have : r = 9223372036854775808 := by have := ge_of_ng hn; have := hr.1; unfold mg at h; omega
      rw [this]; exact near_zero
  · rw [q] at e; rw [e]; exact v3
set_option maxHeartbeats 4000000 in
theorem near8_at (x y z : Nat) (w : World) (hx : x < 18446744073709551616) (hy : y < 18446744073709551616) (hz : z < 18446744073709551616) (l1 : 4607182418800017400 ≤ lnB x y z) (l2 : lnB x y z ≤ 4607182418800017412) :
    Calls Tryd.prog 12 #[.agg #[.float .f64 x, .float .f64 y, .float .f64 z]] w fun e w' => e = .returned (.bool true) ∧ Below w.heap.size w w' := by
  have LN := hid (fun u => length_at x y z u hx hy hz)
  have SU : Hid (∀ u : World, ∃ r n, (∀ t, (binOp .sub t (.float .f64 (lnB x y z)) (.float .f64 4607182418800017408)).run Tryd.prog u = .ok (.float .f64 r) (u.drewN n)) ∧ (flt r 4382002437431492608 || feq r 4382002437431492608) = true ∧ (fgt r 13605374474286268416 || feq r 13605374474286268416) = true) := fun u => by
    obtain ⟨r, n, k, q⟩ := sub_any (P := Tryd.prog) u (lnB x y z) _ 4607182418800017408 _ (IsQ.self (by omega)) (IsQ.self (by omega))
    rw [sbB_q (by omega)] at q
    exact ⟨r, n, k, near_r l1 l2 q⟩
  generalize lnB x y z = L at *
  have A0 := hid (bl1 w (.cells #[.float .f64 x, .float .f64 y, .float .f64 z] 30))
  clear hx hy hz l1 l2
  go_enter Tryd.func12, Tryd.ntmps12
  go_wp2_with fail
  refine (LN.out _).mono ?_
  rintro e v ⟨rfl, b1⟩
  obtain ⟨r, n, k1, h1, h2⟩ := SU.out v
  have h3 : flt r 4382002437431492608 = true ∨ feq r 4382002437431492608 = true := by simpa using h1
  have B1 := hid b1
  clear b1
  go_wp2
  go_ret
  exact ⟨by first | rfl | (rw [h1, h2]; rfl), Ab.drewN (Ab.call A0.out B1.out) _⟩
end Go.Proofs.YtjkanehlbklnnaaDoor

/-
  Doubles as floats of 32 bits and back, by plain numbers (no program).
-/
namespace Go.Proofs.YtjkanehlbklnnaaDoor
open Tf

theorem s_sw : Ieee.single.signWeight = 2147483648 := by decide
theorem s_inf : Ieee.single.infRung = 2139095040 := by decide
theorem s_he : Ieee.single.binade ≤ Ieee.single.infRung := by decide
theorem s_fb : Ieee.single.fractionBits = 23 := rfl
theorem s_word (neg : Bool) (r : Nat) : Ieee.single.word neg r = if neg then 2147483648 + r else r := by
  unfold Ieee.Format.word; rw [s_sw]
/-- the places between the least of 32 bits and the least of 64 -/
def K2 : Nat := 925
theorem K2_eq : K2 = 925 := rfl
theorem s_lp : Ieee.single.leastPlace = -(K : Int) + (K2 : Int) := by rw [K_eq, K2_eq]; decide

def mg32 (b : Nat) : Nat := b % 2147483648
def ng32 (b : Nat) : Bool := decide (2147483648 ≤ b)
theorem rg_s (b : Nat) : rg Ieee.single b = mg32 b := by unfold rg mg32; rw [s_sw]
theorem sg_s (b : Nat) (hb : b < 4294967296) : sg Ieee.single b = ng32 b := by
  unfold sg ng32; rw [s_sw]
  by_cases h : 2147483648 ≤ b
  · have : b / 2147483648 = 1 := by omega
    rw [this]; simp [h]
  · have : b / 2147483648 = 0 := by omega
    rw [this]; simp [h]

/-- a magnitude is a number of few bits times a power of two -/
theorem mag_form (p r : Nat) : ∃ A k, A ≤ 2 ^ (p + 1) ∧ mag p r = A * 2 ^ k := by
  have hp := pow_pos p
  have hp1 : 2 ^ (p + 1) = 2 * 2 ^ p := by rw [Nat.pow_succ]; omega
  unfold mag
  by_cases h : r < 2 ^ p
  · exact ⟨r, 0, by omega, by rw [if_pos h]; omega⟩
  · refine ⟨2 ^ p + r % 2 ^ p, r / 2 ^ p - 1, ?_, by rw [if_neg h]⟩
    have := Nat.mod_lt r hp
    omega
theorem mag_double (p c r : Nat) (hp : p ≤ 52) : ∃ R, mv R = mag p r * 2 ^ c := by
  obtain ⟨A, k, hA, e⟩ := mag_form p r
  have h1 : 2 ^ (p + 1) ≤ 2 ^ (52 + 1) := Nat.pow_le_pow_right (by omega) (by omega)
  obtain ⟨R, hR⟩ := rep 52 A (k + c) (by omega)
  exact ⟨R, by rw [e, Nat.mul_assoc, ← Nat.pow_add]; exact hR⟩
theorem mag_binade (p e : Nat) : mag p ((e + 1) * 2 ^ p) = 2 ^ (p + e) := by
  have hp := pow_pos p
  have : 1 * 2 ^ p ≤ (e + 1) * 2 ^ p := Nat.mul_le_mul_right _ (by omega)
  unfold mag
  rw [if_neg (by omega), Nat.mul_mod_left, Nat.mul_div_cancel _ hp, Nat.add_zero, ← Nat.pow_add]
  rfl

/-- the double that a magnitude of 32 bits is -/
def D32 (r : Nat) : Nat := rung 52 0 (mag 23 r * 2 ^ K2)
theorem mv_D32 (r : Nat) : mv (D32 r) = mag 23 r * 2 ^ K2 := by
  obtain ⟨R, e⟩ := mag_double 23 K2 r (by omega)
  unfold D32
  rw [← e, rung_mv]
theorem scale_one (a c k : Nat) (h : a + c = k + K) : 2 ^ a * 2 ^ c = 2 ^ k * one := by
  rw [one_pow, ← Nat.pow_add, ← Nat.pow_add, h]
theorem mag_top (p e c k R : Nat) (h : p + e + c = k + K) (hR : mv R = 2 ^ k * one) : mag p ((e + 1) * 2 ^ p) * 2 ^ c = mv R := by
  rw [mag_binade, hR, scale_one (p + e) c k h]
theorem D32_inf : mag 23 2139095040 * 2 ^ K2 = mv 5183643171103440896 := by
  have := mag_top 23 254 K2 128 5183643171103440896 (by rw [K_eq, K2_eq]) (mv_from_one 128 _ (by decide))
  rwa [show (254 + 1) * 2 ^ 23 = 2139095040 from by decide] at this
theorem D32_lt (r : Nat) (h : r < 2139095040) : D32 r < 5183643171103440896 := by
  rw [← mv_lt, mv_D32, ← D32_inf]
  exact (Nat.mul_lt_mul_right (pow_pos K2)).2 (mag_lt.2 h)

/-- a double as bits of 32; those bits as a double -/
def t32 (x : Nat) : Nat := min (rung 23 K2 (mv (mg x))) 2139095040
def to32B (x : Nat) : Nat := if isN x then 2143289344 else if ng x then 2147483648 + t32 x else t32 x
def from32B (b : Nat) : Nat :=
  if 2139095040 < mg32 b then quiet else
  let m := if mg32 b = 2139095040 then 9218868437227405312 else D32 (mg32 b)
  if ng32 b then 9223372036854775808 + m else m

theorem enc32 (x : Nat) (hx : x < 18446744073709551616) (m a : Nat) (v : m * 2 ^ a = mv (mg x)) :
    Ieee.single.write (.number (sg Ieee.double x) m (Ieee.double.leastPlace + a)) = if ng x then 2147483648 + t32 x else t32 x := by
  simp only [Ieee.Format.write]
  rw [← nearest_scale, v]
  have h := nearest_rung Ieee.single (sg Ieee.double x) (mv (mg x)) K2
  rw [show Ieee.single.leastPlace - (K2 : Int) = Ieee.double.leastPlace by rw [s_lp, lp_K]; omega] at h
  rw [h, s_word, s_inf, s_fb, sg_d x hx]
  rfl

theorem conv32_fin (x : Nat) (hx : x < 18446744073709551616) (fx : mg x < 9218868437227405312) (ht : t32 x < 2139095040) : floatToFloatBits .f64 x .f32 = some (if ng x then 2147483648 + t32 x else t32 x) := by
  have ei := d_inf
  obtain ⟨m, a, e, v⟩ := read_fin Ieee.double x (by rw [rg_d]; omega)
  rw [rg_d] at v
  have he := enc32 x hx m a v
  unfold floatToFloatBits
  rw [if_neg (by decide)]
  have e' : FloatKind.f64.decode x = .number (sg Ieee.double x) m (Ieee.double.leastPlace + a) := e
  rw [e']
  have he' : FloatKind.f32.encode (.number (sg Ieee.double x) m (Ieee.double.leastPlace + a)) = if ng x then 2147483648 + t32 x else t32 x := he
  simp only [he']
  have hr : rg Ieee.single (if ng x then 2147483648 + t32 x else t32 x) = t32 x := by
    rw [rg_s]; unfold mg32; cases ng x <;> simp <;> omega
  obtain ⟨m', a', e2, _⟩ := read_fin Ieee.single (if ng x then 2147483648 + t32 x else t32 x) (by rw [hr, s_inf]; exact ht)
  have e2' : FloatKind.f32.decode (if ng x then 2147483648 + t32 x else t32 x) = _ := e2
  rw [e2']
  rfl
theorem conv32_inf (x : Nat) (hx : x < 18446744073709551616) (fx : mg x = 9218868437227405312) : floatToFloatBits .f64 x .f32 = some (if ng x then 2147483648 + 2139095040 else 2139095040) := by
  have ei := d_inf
  have e := read_inf Ieee.double x d_he (by rw [rg_d]; omega)
  unfold floatToFloatBits
  rw [if_neg (by decide)]
  have e' : FloatKind.f64.decode x = .infinity (sg Ieee.double x) := e
  rw [e']
  show some (Ieee.single.word (sg Ieee.double x) Ieee.single.infRung) = _
  rw [s_word, s_inf, sg_d x hx]
theorem t32_inf (x : Nat) (fx : 5183643171103440896 ≤ mg x) : t32 x = 2139095040 := by
  have h : mag 23 2139095040 * 2 ^ K2 ≤ mv (mg x) := by rw [D32_inf]; exact mv_le.2 fx
  have := rung_ge (p := 23) (d := K2) (by omega) h
  unfold t32; omega

theorem conv64_fin (b : Nat) (hb : b < 4294967296) (fb : mg32 b < 2139095040) : floatToFloatBits .f32 b .f64 = some (if ng32 b then 9223372036854775808 + D32 (mg32 b) else D32 (mg32 b)) := by
  have ei := s_inf
  have hl := D32_lt (mg32 b) fb
  obtain ⟨m, a, e, v⟩ := read_fin Ieee.single b (by rw [rg_s]; omega)
  rw [rg_s] at v
  have he : Ieee.double.write (.number (sg Ieee.single b) m (Ieee.single.leastPlace + a)) = if ng32 b then 9223372036854775808 + D32 (mg32 b) else D32 (mg32 b) := by
    simp only [Ieee.Format.write]
    rw [nearest_up Ieee.double _ m (K2 + a) _ (by rw [s_lp, lp_K]; omega), d_word, d_inf, d_fb, sg_s b hb]
    have : m * 2 ^ (K2 + a) = mag 23 (mg32 b) * 2 ^ K2 := by
      rw [← s_fb, ← v, Nat.mul_assoc, ← Nat.pow_add, Nat.add_comm K2 a]
    rw [this]
    change (if ng32 b = true then 9223372036854775808 + min (D32 (mg32 b)) 9218868437227405312 else min (D32 (mg32 b)) 9218868437227405312) = _
    rw [Nat.min_eq_left (by omega)]
  unfold floatToFloatBits
  rw [if_neg (by decide)]
  have e' : FloatKind.f32.decode b = .number (sg Ieee.single b) m (Ieee.single.leastPlace + a) := e
  rw [e']
  have he' : FloatKind.f64.encode (.number (sg Ieee.single b) m (Ieee.single.leastPlace + a)) = if ng32 b then 9223372036854775808 + D32 (mg32 b) else D32 (mg32 b) := he
  simp only [he']
  have hr : mg (if ng32 b then 9223372036854775808 + D32 (mg32 b) else D32 (mg32 b)) = D32 (mg32 b) := by
    generalize D32 (mg32 b) = y at *
    unfold mg; cases ng32 b <;> simp <;> omega
  obtain ⟨m', a', e2, _⟩ := read_fin Ieee.double (if ng32 b then 9223372036854775808 + D32 (mg32 b) else D32 (mg32 b)) (by rw [rg_d, hr, d_inf]; omega)
  have e2' : FloatKind.f64.decode (if ng32 b then 9223372036854775808 + D32 (mg32 b) else D32 (mg32 b)) = _ := e2
  rw [e2']
  rfl
theorem conv64_inf (b : Nat) (hb : b < 4294967296) (fb : mg32 b = 2139095040) : floatToFloatBits .f32 b .f64 = some (if ng32 b then 9223372036854775808 + 9218868437227405312 else 9218868437227405312) := by
  have ei := s_inf
  have e := read_inf Ieee.single b s_he (by rw [rg_s]; omega)
  unfold floatToFloatBits
  rw [if_neg (by decide)]
  have e' : FloatKind.f32.decode b = .infinity (sg Ieee.single b) := e
  rw [e']
  show some (Ieee.double.word (sg Ieee.single b) Ieee.double.infRung) = _
  rw [d_word, d_inf, sg_s b hb]

/-- the bits of a NaN's conversion are drawn -/
def nanC (w : World) (b : Nat) : Nat := (Question.nanConv .f64 b).cut (w.tape w.drawn (.nanConv .f64 b))
theorem nanC_nan (w : World) (b : Nat) : nanC w b < 18446744073709551616 ∧ isN (nanC w b) = true := by
  unfold nanC
  generalize w.tape w.drawn (.nanConv .f64 b) = t
  show (t % 2) * 2 ^ 63 + 0x7ff0000000000000 + 1 + (t / 2) % (2 ^ 52 - 1) < _ ∧ isN ((t % 2) * 2 ^ 63 + 0x7ff0000000000000 + 1 + (t / 2) % (2 ^ 52 - 1)) = true
  have hb : t / 2 % (2 ^ 52 - 1) < 2 ^ 52 - 1 := Nat.mod_lt _ (by decide)
  generalize t / 2 % (2 ^ 52 - 1) = c at *
  have ha : t % 2 = 0 ∨ t % 2 = 1 := by omega
  rw [isN_true]
  unfold mg
  rcases ha with h | h <;> rw [h] <;> constructor <;> omega
theorem run_conv_nan {P : Program} (w : World) (src dst : TypeId) (b : Nat) (hs : (P.underlying src).isSome = true) (hd : P.underlying dst = some (.float .f64)) (n : 2139095040 < mg32 b) :
    (convert src dst (.float .f32 b)).run P w = .ok (.float .f64 (nanC w b)) w.drew := by
  have ei := s_inf
  obtain ⟨u, hs'⟩ := Option.isSome_iff_exists.1 hs
  have e := read_nan Ieee.single b s_he (by rw [rg_s]; omega)
  have e' : FloatKind.f32.decode b = .nan (sg Ieee.single b) (rg Ieee.single b - Ieee.single.infRung) := e
  cases u <;> simp [convert, run_underlying hs', run_underlying hd, Conv.floatToFloat, e', Question.forced, nanC]

theorem to32B_lt (x : Nat) : to32B x < 4294967296 := by
  unfold to32B t32
  generalize rung 23 K2 (mv (mg x)) = r
  repeat' split
  all_goals omega
theorem from32B_lt (b : Nat) : from32B b < 18446744073709551616 := by
  unfold from32B
  have hq := quiet_lt
  by_cases c : 2139095040 < mg32 b
  · rw [if_pos c]; exact hq
  · rw [if_neg c]
    by_cases c2 : mg32 b = 2139095040
    · simp only [if_pos c2]; split <;> omega
    · have := D32_lt (mg32 b) (by omega)
      simp only [if_neg c2]
      generalize D32 (mg32 b) = y at *
      split <;> omega

/-- there and back -/
theorem back32 (b : Nat) (hb : b < 4294967296) (h : mg32 b ≤ 2139095040) : to32B (from32B b) = b := by
  have hw : b = if ng32 b then 2147483648 + mg32 b else mg32 b := by
    unfold ng32 mg32
    by_cases c : 2147483648 ≤ b
    · rw [decide_eq_true c, if_pos rfl]; omega
    · rw [decide_eq_false c, if_neg (by decide)]; omega
  have key : ∀ m, m ≤ 9218868437227405312 → min (rung 23 K2 (mv m)) 2139095040 = mg32 b → to32B (if ng32 b then 9223372036854775808 + m else m) = b := by
    intro m hm e
    have h1 : mg (if ng32 b then 9223372036854775808 + m else m) = m := by
      unfold mg; cases ng32 b <;> simp <;> omega
    have h2 : ng (if ng32 b then 9223372036854775808 + m else m) = ng32 b := by
      cases ng32 b
      · simp only [Bool.false_eq_true, if_false]; exact ng_of_lt (by omega)
      · simp only [if_true]; exact ng_of_ge (by omega)
    have h3 : isN (if ng32 b then 9223372036854775808 + m else m) = false := isN_false.2 (by rw [h1]; exact hm)
    unfold to32B t32
    rw [h3, h1, h2, e, if_neg (by decide)]
    exact hw.symm
  unfold from32B
  rw [if_neg (by omega)]
  by_cases c : mg32 b = 2139095040
  · simp only [if_pos c]
    refine key _ (by omega) ?_
    have := t32_inf 9218868437227405312 (by decide)
    unfold t32 at this
    rw [c]; exact this
  · simp only [if_neg c]
    have hl := D32_lt (mg32 b) (by omega)
    refine key _ (by omega) ?_
    rw [mv_D32, rung_mag 23 K2 _ (by omega)]; omega
end Go.Proofs.YtjkanehlbklnnaaDoor

/-
  Doubles as floats of 16 bits and back, by plain numbers; a quotient by a power of two (no program).
-/
namespace Go.Proofs.YtjkanehlbklnnaaDoor
open Tf

theorem read_bound (f : Ieee.Format) (x : Nat) (h : rg f x < f.infRung) : ∃ m a : Nat, f.read x = .number (sg f x) m (f.leastPlace + a) ∧ m * 2 ^ a = mag f.fractionBits (rg f x) ∧ m < 2 * 2 ^ f.fractionBits := by
  have hp := pow_pos f.fractionBits
  unfold Ieee.Format.read
  simp only []
  unfold mag
  by_cases c : rg f x < f.binade
  · refine ⟨rg f x, 0, ?_, ?_, ?_⟩
    · rw [if_pos (show x % f.signWeight < f.binade from c)]; simp [sg, rg]
    · rw [if_pos (show rg f x < 2 ^ f.fractionBits from c)]; omega
    · have : rg f x < 2 ^ f.fractionBits := c
      omega
  · refine ⟨f.binade + rg f x % f.binade, rg f x / f.binade - 1, ?_, ?_, ?_⟩
    · rw [if_neg (show ¬ x % f.signWeight < f.binade from c), if_pos (show x % f.signWeight < f.infRung from h)]; rfl
    · rw [if_neg (show ¬ rg f x < 2 ^ f.fractionBits from c)]; rfl
    · have : rg f x % f.binade < 2 ^ f.fractionBits := Nat.mod_lt _ hp
      have e : f.binade = 2 ^ f.fractionBits := rfl
      omega

/-- a quotient by a power of two that is exact -/
theorem div_exact (x e r : Nat) (hx : x < 18446744073709551616) (fx : mg x < 9218868437227405312) (he : (e + 1) * 4503599627370496 < 9218868437227405312) (hr : r ≤ 9218868437227405312) (E : mv r * 2 ^ (52 + e) = mv (mg x) * one) :
    Ieee.double.div x ((e + 1) * 4503599627370496) = some (if ng x then 9223372036854775808 + r else r) := by
  have ei := d_inf
  have eb := d_bin
  obtain ⟨m, a, e1, v, hm⟩ := read_bound Ieee.double x (by rw [rg_d]; omega)
  rw [d_fb, rg_d] at v
  rw [d_fb] at hm
  have e2 : Ieee.double.read ((e + 1) * 4503599627370496) = .number false 4503599627370496 (Ieee.double.leastPlace + e) := by
    unfold Ieee.Format.read
    simp only []
    rw [d_sw, eb, ei]
    have h1 : (e + 1) * 4503599627370496 / 9223372036854775808 = 0 := by omega
    have h2 : (e + 1) * 4503599627370496 % 9223372036854775808 = (e + 1) * 4503599627370496 := by omega
    rw [h1, h2, if_neg (by omega), if_pos he]
    have h3 : (e + 1) * 4503599627370496 % 4503599627370496 = 0 := by omega
    have h4 : (e + 1) * 4503599627370496 / 4503599627370496 - 1 = e := by omega
    rw [h3, h4]; rfl
  unfold Ieee.Format.div
  rw [e1, e2]
  simp only [Ieee.Datum.quotient, shl]
  rw [if_neg (by decide)]
  simp only [Option.map, Ieee.Format.write, Bool.xor_false]
  have hlog : Nat.log2 4503599627370496 = 52 := by decide
  rw [hlog, d_fb]
  have hml : m.log2 ≤ 52 := log2_small (show m < 2 ^ (52 + 1) by omega)
  obtain ⟨c, hc⟩ : ∃ c, 52 + 2 + 52 - m.log2 = 52 + c ∧ 2 ≤ c := ⟨54 - m.log2, by omega, by omega⟩
  rw [hc.1]
  have hd : m * 2 ^ (52 + c) = m * 2 ^ c * 4503599627370496 := by
    rw [Nat.add_comm, Nat.pow_add, Nat.mul_assoc]
  rw [hd, Nat.mul_mod_left, Nat.mul_div_cancel _ (by decide)]
  have hz : (0 != 0 : Bool).toNat = 0 := by decide
  rw [hz, Nat.add_zero]
  have h2 : 2 * (m * 2 ^ c) = m * 2 ^ (c + 1) := by rw [Nat.pow_succ]; simp only [Nat.mul_comm, Nat.mul_left_comm]
  rw [h2, nearest_scale]
  have hp : Ieee.double.leastPlace + (a : Int) - (Ieee.double.leastPlace + (e : Int)) - ((52 + c : Nat) : Int) - 1 + ((c + 1 : Nat) : Int) = (Ieee.double.leastPlace - ((52 + e : Nat) : Int)) + ((a + K : Nat) : Int) := by
    rw [lp_K]; omega
  rw [hp, ← nearest_scale, nearest_rung, d_fb, d_inf, d_word, sg_d x hx]
  have hv : m * 2 ^ (a + K) = mag 52 r * 2 ^ (52 + e) := by
    show _ = mv r * _
    rw [E, one_pow, Nat.pow_add, ← Nat.mul_assoc, v]; rfl
  rw [hv, rung_mag 52 (52 + e) r (by omega), Nat.min_eq_left hr]

/-- the places between the least of 16 bits and the least of 64 -/
def H2 : Nat := 1050
theorem H2_eq : H2 = 1050 := rfl
def t16 (x : Nat) : Nat := min (rung 10 H2 (mv (mg x))) 31744
def D16 (r : Nat) : Nat := rung 52 0 (mag 10 r * 2 ^ H2)
theorem mv_D16 (r : Nat) : mv (D16 r) = mag 10 r * 2 ^ H2 := by
  obtain ⟨R, e⟩ := mag_double 10 H2 r (by omega)
  unfold D16
  rw [← e, rung_mv]
theorem D16_inf : mag 10 31744 * 2 ^ H2 = mv 4679240012837945344 := by
  have := mag_top 10 30 H2 16 4679240012837945344 (by rw [K_eq, H2_eq]) (mv_from_one 16 _ (by decide))
  rwa [show (30 + 1) * 2 ^ 10 = 31744 from by decide] at this
theorem D16_lt (r : Nat) (h : r < 31744) : D16 r < 4679240012837945344 := by
  rw [← mv_lt, mv_D16, ← D16_inf]
  exact (Nat.mul_lt_mul_right (pow_pos H2)).2 (mag_lt.2 h)
theorem t16_inf (x : Nat) (fx : 4679240012837945344 ≤ mg x) : t16 x = 31744 := by
  have h : mag 10 31744 * 2 ^ H2 ≤ mv (mg x) := by rw [D16_inf]; exact mv_le.2 fx
  have := rung_ge (p := 10) (d := H2) (by omega) h
  unfold t16; omega

def to16B (x : Nat) : Nat := if isN x then 32256 else if ng x then 32768 + t16 x else t16 x
def ng16 (b : Nat) : Bool := decide (32768 ≤ b)
def from16B (b : Nat) : Nat :=
  if 31744 < b % 32768 then quiet else
  let m := if b % 32768 = 31744 then 9218868437227405312 else D16 (b % 32768)
  if ng16 b then 9223372036854775808 + m else m
theorem to16B_lt (x : Nat) : to16B x < 65536 := by
  unfold to16B t16
  generalize rung 10 H2 (mv (mg x)) = r
  repeat' split
  all_goals omega
theorem from16B_lt (b : Nat) : from16B b < 18446744073709551616 := by
  unfold from16B
  have hq := quiet_lt
  by_cases c : 31744 < b % 32768
  · rw [if_pos c]; exact hq
  · rw [if_neg c]
    by_cases c2 : b % 32768 = 31744
    · simp only [if_pos c2]; split <;> omega
    · have := D16_lt (b % 32768) (by omega)
      simp only [if_neg c2]
      generalize D16 (b % 32768) = y at *
      split <;> omega
theorem back16 (b : Nat) (hb : b < 65536) (h : b % 32768 ≤ 31744) : to16B (from16B b) = b := by
  have hw : b = if ng16 b then 32768 + b % 32768 else b % 32768 := by
    unfold ng16
    by_cases c : 32768 ≤ b
    · rw [decide_eq_true c, if_pos rfl]; omega
    · rw [decide_eq_false c, if_neg (by decide)]; omega
  have key : ∀ m, m ≤ 9218868437227405312 → min (rung 10 H2 (mv m)) 31744 = b % 32768 → to16B (if ng16 b then 9223372036854775808 + m else m) = b := by
    intro m hm e
    have h1 : mg (if ng16 b then 9223372036854775808 + m else m) = m := by
      unfold mg; cases ng16 b <;> simp <;> omega
    have h2 : ng (if ng16 b then 9223372036854775808 + m else m) = ng16 b := by
      cases ng16 b
      · simp only [Bool.false_eq_true, if_false]; exact ng_of_lt (by omega)
      · simp only [if_true]; exact ng_of_ge (by omega)
    have h3 : isN (if ng16 b then 9223372036854775808 + m else m) = false := isN_false.2 (by rw [h1]; exact hm)
    unfold to16B t16
    rw [h3, h1, h2, e, if_neg (by decide)]
    exact hw.symm
  unfold from16B
  rw [if_neg (by omega)]
  by_cases c : b % 32768 = 31744
  · simp only [if_pos c]
    refine key _ (by omega) ?_
    have := t16_inf 9218868437227405312 (by decide)
    unfold t16 at this
    rw [c]; exact this
  · simp only [if_neg c]
    have hl := D16_lt (b % 32768) (by omega)
    refine key _ (by omega) ?_
    rw [mv_D16, rung_mag 10 H2 _ (by omega)]; omega

/-! how the code makes the bits of 16 -/
theorem mv_add_binade (r : Nat) (h : 4503599627370496 ≤ r) : mv (r + 4503599627370496) = 2 * mv r := by
  have hp : (2 : Nat) ^ 52 = 4503599627370496 := by decide
  unfold mv mag
  rw [hp, if_neg (by omega), if_neg (by omega)]
  have h1 : (r + 4503599627370496) % 4503599627370496 = r % 4503599627370496 := by omega
  have h2 : (r + 4503599627370496) / 4503599627370496 - 1 = (r / 4503599627370496 - 1) + 1 := by omega
  rw [h1, h2, Nat.pow_succ]
  simp only [Nat.mul_comm, Nat.mul_left_comm]
theorem mv_half : 2 * mv 4602678819172646912 = one := by
  have := mv_add_binade 4602678819172646912 (by decide)
  exact this.symm
theorem mv_c24 : mv 4715268809856909312 = 2 ^ 24 * one := mv_from_one 24 _ (by decide)

/-- the magnitude in steps of the first band: exact, or too great -/
theorem times24 (m : Nat) (hm : m < 9218868437227405312) : ∃ s, s ≤ 9218868437227405312 ∧ Ieee.double.mul m 4715268809856909312 = some s ∧ (s < 9218868437227405312 → mv s = mv m * 2 ^ 24) ∧ (s = 9218868437227405312 → mv 9218868437227405312 ≤ mv m * 2 ^ 24) := by
  have e1 : mg m = m := mg_of_lt (by omega)
  obtain ⟨A, k, hA, e⟩ := mag_form 52 m
  obtain ⟨R, hR⟩ := rep 52 A (k + 24) hA
  have hR' : mv R = mv m * 2 ^ 24 := by
    show mag 52 R = mag 52 m * 2 ^ 24
    rw [hR, e, Nat.mul_assoc, ← Nat.pow_add]
  have hmul : Ieee.double.mul m 4715268809856909312 = some (min R 9218868437227405312) := by
    rw [mul_d m _ (by omega) (by decide) (by omega) (by decide), e1, ng_of_lt (show m < 9223372036854775808 by omega)]
    have e2 : mg 4715268809856909312 = 4715268809856909312 := by decide
    have e3 : ng 4715268809856909312 = false := by decide
    rw [e2, e3, mv_c24]
    have : mv m * (2 ^ 24 * one) = mag 52 R * 2 ^ K := by
      show _ = mv R * _
      rw [hR', one_pow, Nat.mul_assoc]
    rw [this]
    have hK : (1074 : Nat) = K := rfl
    rw [hK, rung_mag 52 K R (by omega)]
    rfl
  refine ⟨min R 9218868437227405312, by omega, hmul, fun h => ?_, fun h => ?_⟩
  · rw [Nat.min_eq_left (by omega)]; exact hR'
  · rw [← hR']; exact mv_le.2 (by omega)
/-- a half of what is at least 1 -/
theorem halved (s : Nat) (h : 4607182418800017408 ≤ s) (h' : s < 9218868437227405312) : Ieee.double.mul s 4602678819172646912 = some (s - 4503599627370496) := by
  have e1 : mg s = s := mg_of_lt (by omega)
  have := mul_exact s 4602678819172646912 (s - 4503599627370496) (by omega) (by omega) (by decide) (by omega) ?_
  · rw [ng_of_lt (show s < 9223372036854775808 by omega), if_neg (by decide)] at this; exact this
  · have hb := mv_add_binade (s - 4503599627370496) (by omega)
    rw [show s - 4503599627370496 + 4503599627370496 = s by omega] at hb
    rw [e1, hb, ← mv_half, Nat.mul_comm 2 (mv (s - 4503599627370496)), Nat.mul_assoc]
theorem inf_times (y : Nat) (hy : y < 9218868437227405312) (h0 : 0 < y) : Ieee.double.mul 9218868437227405312 y = some 9218868437227405312 := by
  have ei := d_inf
  have e1 : mg y = y := mg_of_lt (by omega)
  obtain ⟨m, a, e, v⟩ := read_fin Ieee.double y (by rw [rg_d]; omega)
  have hm : m ≠ 0 := by
    intro h; subst h
    rw [Nat.zero_mul, d_fb, rg_d, e1] at v
    have := (@mv_lt 0 y).2 h0
    rw [mv_zero] at this
    unfold mv at this; omega
  have e2 : sg Ieee.double 9218868437227405312 = false := by rw [sg_d _ (by decide)]; decide
  have e3 : sg Ieee.double y = false := by rw [sg_d _ (by omega)]; exact ng_of_lt (by omega)
  unfold Ieee.Format.mul
  rw [read_inf Ieee.double 9218868437227405312 d_he (by rw [rg_d]; decide), e, e2, e3]
  simp only [Ieee.Datum.product, if_neg hm, Option.map, Ieee.Format.write, Bool.xor_false]
  rw [d_word, d_inf, if_neg (by decide)]

/-- the band, and the bits -/
theorem band_bits (V s n : Nat) (hs : mv s = V * 2 ^ 24) (h1 : s < (1034 + n) * 4503599627370496) (h2 : n = 0 ∨ (1033 + n) * 4503599627370496 ≤ s) :
    mv (s - n * 4503599627370496) * 2 ^ n = mv s ∧ n * 1024 + rne (mv (s - n * 4503599627370496)) one = rung 10 H2 V := by
  have hK := K_eq
  have hH := H2_eq
  have hp52 : (2 : Nat) ^ 52 = 4503599627370496 := by decide
  have key : ∀ j, j ≤ n → mv (s - j * 4503599627370496) * 2 ^ j = mv s := by
    intro j
    induction j with
    | zero => intro _; simp
    | succ j ih =>
      intro hj
      have := ih (by omega)
      have hb := mv_add_binade (s - (j + 1) * 4503599627370496) (by omega)
      rw [show s - (j + 1) * 4503599627370496 + 4503599627370496 = s - j * 4503599627370496 by omega] at hb
      rw [hb] at this
      rw [Nat.pow_succ, ← this]
      simp only [Nat.mul_comm, Nat.mul_left_comm, Nat.mul_assoc]
  have hk := key n (Nat.le_refl _)
  refine ⟨hk, ?_⟩
  have hlog : V.log2 - (10 + H2) = n := by
    have up : V < 2 ^ (10 + H2 + n + 1) := by
      have e := mv_from_one (11 + n) ((1034 + n) * 4503599627370496) (by rw [hp52]; omega)
      have : mv s < mv ((1034 + n) * 4503599627370496) := mv_lt.2 h1
      rw [hs, e, one_pow] at this
      have e2 : 2 ^ (11 + n) * 2 ^ K = 2 ^ (10 + H2 + n + 1) * 2 ^ 24 := by
        rw [← Nat.pow_add, ← Nat.pow_add]; congr 1; omega
      rw [e2] at this
      exact (Nat.mul_lt_mul_right (pow_pos 24)).1 this
    have hup := log2_small (k := 10 + H2 + n) up
    rcases h2 with h2 | h2
    · clear up
      omega
    · have lo : 2 ^ (10 + H2 + n) ≤ V := by
        have e := mv_from_one (10 + n) ((1033 + n) * 4503599627370496) (by rw [hp52]; omega)
        have : mv ((1033 + n) * 4503599627370496) ≤ mv s := mv_le.2 h2
        rw [hs, e, one_pow] at this
        have e2 : 2 ^ (10 + n) * 2 ^ K = 2 ^ (10 + H2 + n) * 2 ^ 24 := by
          rw [← Nat.pow_add, ← Nat.pow_add]; congr 1; omega
        rw [e2] at this
        exact Nat.le_of_mul_le_mul_right this (pow_pos 24)
      have := log2_of lo up
      clear lo up
      omega
  unfold rung
  rw [hlog]
  have e3 : rne (mv (s - n * 4503599627370496)) one = rne V (2 ^ (n + H2)) := by
    have a1 := rne_scale (mv (s - n * 4503599627370496)) one (2 ^ n) (pow_pos n)
    have a2 := rne_scale V (2 ^ (n + H2)) (2 ^ 24) (pow_pos 24)
    rw [hk, hs] at a1
    have e4 : one * 2 ^ n = 2 ^ (n + H2) * 2 ^ 24 := by
      have h5 : K + n = n + H2 + 24 := by omega
      rw [one_pow, ← Nat.pow_add, ← Nat.pow_add, h5]
    rw [e4] at a1
    rw [← a1, a2]
  rw [e3]
theorem past_bits (V s : Nat) (hs : mv s ≤ V * 2 ^ 24) (h : 4787326403894837248 ≤ s) : 31744 ≤ rung 10 H2 V := by
  refine rung_ge (by omega) ?_
  rw [D16_inf, mv_from_one 16 _ (by decide)]
  have e := mv_from_one 40 4787326403894837248 (by decide)
  have h3 := (@mv_le 4787326403894837248 s).2 h
  rw [e] at h3
  generalize one = O at *
  generalize mv s = ms at *
  clear e h
  omega

end Go.Proofs.YtjkanehlbklnnaaDoor

/-
  How far a double lies from the whole numbers that it is made, by plain numbers (no program).
-/
namespace Go.Proofs.YtjkanehlbklnnaaDoor
open Tf

theorem rne_near (n g : Nat) (hg : 0 < g) : 2 * n ≤ 2 * (rne n g * g) + g ∧ 2 * (rne n g * g) ≤ 2 * n + g ∧ ((2 * n = 2 * (rne n g * g) + g ∨ 2 * (rne n g * g) = 2 * n + g) → rne n g % 2 = 0) := by
  have h := Nat.div_add_mod n g
  have hm := Nat.mod_lt n hg
  rw [Nat.mul_comm] at h
  unfold rne
  by_cases c : g < 2 * (n % g) ∨ (g = 2 * (n % g) ∧ n / g % 2 = 1)
  · rw [if_pos c, Nat.add_mul, Nat.one_mul]
    generalize n / g * g = P at *
    omega
  · rw [if_neg c, Nat.add_zero]
    generalize n / g * g = P at *
    omega
theorem down_near (neg : Bool) (n g : Nat) (hg : 0 < g) : (neg = false → cutq .down neg n g * g ≤ n ∧ n < cutq .down neg n g * g + g) ∧ (neg = true → n ≤ cutq .down neg n g * g ∧ cutq .down neg n g * g < n + g) := by
  have h := Nat.div_add_mod n g
  have hm := Nat.mod_lt n hg
  rw [Nat.mul_comm] at h
  unfold cutq
  refine ⟨fun e => ?_, fun e => ?_⟩
  · subst e
    simp only [Bool.false_and, Bool.toNat_false, Nat.add_zero]
    generalize n / g * g = P at *
    omega
  · subst e
    simp only [Bool.true_and]
    by_cases c : n % g = 0
    · rw [decide_eq_false (by omega)]
      simp only [Bool.toNat_false, Nat.add_zero]
      generalize n / g * g = P at *
      omega
    · rw [decide_eq_true c]
      simp only [Bool.toNat_true, Nat.add_mul, Nat.one_mul]
      generalize n / g * g = P at *
      omega

/-- at most a half away, at a half even -/
theorem even_near (x : Nat) : 2 * (sv x - cq .even x * one) ≤ one ∧ -(one : Int) ≤ 2 * (sv x - cq .even x * one) ∧ ((2 * (sv x - cq .even x * one) = one ∨ 2 * (sv x - cq .even x * one) = -(one : Int)) → cq .even x % 2 = 0) := by
  have h := rne_near (mv (mg x)) one one_pos
  unfold sv cq
  rw [cutq_even]
  generalize hq : rne (mv (mg x)) one = q at *
  have hp : ((q * one : Nat) : Int) = (q : Int) * (one : Int) := Int.natCast_mul ..
  cases ng x
  · simp only [Bool.false_eq_true, if_false]
    rw [← hp]
    generalize q * one = Q at *
    omega
  · simp only [if_true, Int.neg_mul]
    rw [← hp]
    generalize q * one = Q at *
    omega
/-- not above, less than 1 below -/
theorem down_floor (x : Nat) : cq .down x * one ≤ sv x ∧ sv x < cq .down x * one + one := by
  have h := down_near (ng x) (mv (mg x)) one one_pos
  unfold sv cq
  generalize hq : cutq .down (ng x) (mv (mg x)) one = q at *
  have hp : ((q * one : Nat) : Int) = (q : Int) * (one : Int) := Int.natCast_mul ..
  have := one_pos
  cases hn : ng x
  · have h' := h.1 hn
    simp only [Bool.false_eq_true, if_false]
    rw [← hp]
    generalize q * one = Q at *
    omega
  · have h' := h.2 hn
    simp only [if_true, Int.neg_mul]
    rw [← hp]
    generalize q * one = Q at *
    omega

/-- a whole number that a double was made is a double -/
theorem fl_cq (way : Ieee.Toward) (x : Nat) (hx : x < 18446744073709551616) (fx : mg x < 9218868437227405312) :
    rn false (cq way x * one) < 18446744073709551616 ∧ mg (rn false (cq way x * one)) < 9218868437227405312 ∧ sv (rn false (cq way x * one)) = cq way x * one := by
  have h1 := sv_itV way x hx fx
  obtain ⟨_, h2, _⟩ := itV_fin way x hx fx
  have h3 := itV_lt way x
  rw [← h1]
  by_cases c : 0 < mg (itV way x)
  · rw [rn_sv false _ h3 c (by omega)]
    exact ⟨h3, h2, rfl⟩
  · have e : mg (itV way x) = 0 := by omega
    have e2 : sv (itV way x) = 0 := by unfold sv; rw [e, mv_zero]; split <;> rfl
    rw [e2, rn_zero]
    exact ⟨by decide, by decide, by decide⟩

/-- what is left of a double of at least a half is a double -/
theorem left_exact (x : Nat) (j : Int) (h0 : 4602678819172646912 ≤ mg x) (hu : (sv x - j * one).natAbs ≤ one) : ∃ r, mv r = (sv x - j * one).natAbs := by
  have hK := K_eq
  by_cases c : 4841369599423283200 ≤ mg x
  · obtain ⟨q, hq⟩ := whole_great (mg x) c
    have e : ∃ t : Int, sv x - j * one = t * one := by
      unfold sv; rw [hq, Int.natCast_mul]
      cases ng x
      · exact ⟨(q : Int) - j, by simp [Int.sub_mul]⟩
      · exact ⟨-(q : Int) - j, by simp [Int.sub_mul, Int.neg_mul]⟩
    obtain ⟨t, ht⟩ := e
    rw [ht, Int.natAbs_mul, Int.natAbs_natCast] at hu ⊢
    have h1 : t.natAbs ≤ 1 := by
      have : t.natAbs * one ≤ 1 * one := by omega
      exact Nat.le_of_mul_le_mul_right this one_pos
    obtain ⟨r, hr, _⟩ := rep_one t.natAbs (by omega)
    exact ⟨r, hr⟩
  · have hk : ∃ A k, k ≤ K ∧ K ≤ k + 53 ∧ mv (mg x) = A * 2 ^ k := by
      refine ⟨2 ^ 52 + mg x % 2 ^ 52, mg x / 2 ^ 52 - 1, by omega, by omega, ?_⟩
      unfold mv mag
      rw [if_neg (by omega)]
    obtain ⟨A, k, h1, h2, e⟩ := hk
    have eo : one = 2 ^ (K - k) * 2 ^ k := by rw [one_pow, ← Nat.pow_add]; congr 1; omega
    have e2 : ∃ t : Int, sv x - j * one = t * (2 ^ k : Nat) := by
      have e3 : (one : Int) = ((2 ^ (K - k) : Nat) : Int) * ((2 ^ k : Nat) : Int) := by rw [← Int.natCast_mul, ← eo]
      unfold sv; rw [e, Int.natCast_mul, e3]
      cases ng x
      · exact ⟨(A : Int) - j * (2 ^ (K - k) : Nat), by simp only [Bool.false_eq_true, if_false]; rw [Int.sub_mul, Int.mul_assoc]⟩
      · exact ⟨-(A : Int) - j * (2 ^ (K - k) : Nat), by simp only [if_true]; rw [Int.sub_mul, Int.mul_assoc, Int.neg_mul]⟩
    obtain ⟨t, ht⟩ := e2
    rw [ht, Int.natAbs_mul, Int.natAbs_natCast] at hu ⊢
    rw [eo] at hu
    have h3 : t.natAbs ≤ 2 ^ (K - k) := Nat.le_of_mul_le_mul_right hu (pow_pos k)
    have h4 : 2 ^ (K - k) ≤ 2 ^ 53 := Nat.pow_le_pow_right (by omega) (by omega)
    exact rep 52 t.natAbs k (Nat.le_trans h3 h4)

theorem R_exact (v : Int) (r : Nat) (h : mv r = v.natAbs) (hr : r ≤ 9218868437227405312) : R v = if v < 0 then -(r : Int) else (r : Int) := by
  unfold R
  rw [← h, rung_mv, Nat.min_eq_left hr]
theorem mv_one : mv 4607182418800017408 = one := rfl
theorem R_mv (r : Nat) (hr : r ≤ 9218868437227405312) : R (mv r : Int) = r ∧ R (-(mv r : Int)) = -(r : Int) := by
  refine ⟨?_, ?_⟩
  · rw [R_exact _ r (by rw [Int.natAbs_natCast]) hr, if_neg (by omega)]
  · rw [R_exact _ r (by rw [Int.natAbs_neg, Int.natAbs_natCast]) hr]
    by_cases c : r = 0
    · subst c; rw [mv_zero]; simp
    · have := (@mv_lt 0 r).2 (by omega)
      rw [mv_zero] at this
      rw [if_pos (by omega)]

/-- the rank of what is left when x is made whole to the nearest -/
theorem even_left (x : Nat) : R (sv x - cq .even x * one) ≤ 4602678819172646912 ∧ -4602678819172646912 ≤ R (sv x - cq .even x * one) ∧ ((R (sv x - cq .even x * one) = 4602678819172646912 ∨ R (sv x - cq .even x * one) = -4602678819172646912) → cq .even x % 2 = 0) := by
  obtain ⟨a, b, c⟩ := even_near x
  have hh : (2 : Int) * ((mv 4602678819172646912 : Nat) : Int) = (one : Int) := by
    have := mv_half
    rw [← this]; simp
  obtain ⟨r1, r2⟩ := R_mv 4602678819172646912 (by decide)
  have ea : sv x - cq .even x * one ≤ ((mv 4602678819172646912 : Nat) : Int) := by omega
  have eb : -((mv 4602678819172646912 : Nat) : Int) ≤ sv x - cq .even x * one := by omega
  have h1 := R_mono ea
  have h2 := R_mono eb
  rw [r1] at h1
  rw [r2] at h2
  refine ⟨h1, h2, fun h => ?_⟩
  by_cases z : cq .even x % 2 = 0
  · exact z
  · exfalso
    have hge : 4602678819172646912 ≤ mg x := by
      by_cases c2 : 4602678819172646912 ≤ mg x
      · exact c2
      · exfalso
        have hlt : mv (mg x) < mv 4602678819172646912 := mv_lt.2 (by omega)
        have hq : rne (mv (mg x)) one = 0 := by
          have h5 := rne_near (mv (mg x)) one one_pos
          have h6 := mv_half
          have h7 : rne (mv (mg x)) one * one < 1 * one := by omega
          have := Nat.lt_of_mul_lt_mul_right h7
          omega
        have : cq .even x = 0 := by
          unfold cq; rw [cutq_even, hq]; split <;> rfl
        omega
    have hne := fun hh => z (c hh)
    obtain ⟨r, hr⟩ := left_exact x (cq .even x) hge (by omega)
    have hr2 : mv r < mv 4602678819172646912 := by
      rw [hr]
      have h6 : 2 * (sv x - cq .even x * one) ≠ one := fun h7 => hne (.inl h7)
      have h8 : 2 * (sv x - cq .even x * one) ≠ -(one : Int) := fun h7 => hne (.inr h7)
      omega
    have hr3 := mv_lt.1 hr2
    rw [R_exact _ r hr (by omega)] at h
    split at h <;> omega
/-- the rank of what is left when x is made whole downwards -/
theorem down_left (x : Nat) : 0 ≤ R (sv x - cq .down x * one) ∧ (R (sv x - cq .down x * one) < 4607182418800017408 ∨ (R (sv x - cq .down x * one) = 4607182418800017408 ∧ rk x < 0 ∧ -4607182418800017408 < rk x)) := by
  obtain ⟨a, b⟩ := down_floor x
  have r0 : R 0 = 0 := by
    have := (R_mv 0 (by decide)).1
    rw [mv_zero] at this; exact this
  have h1 := R_mono (show (0 : Int) ≤ sv x - cq .down x * one by omega)
  rw [r0] at h1
  refine ⟨h1, ?_⟩
  by_cases hge : 4602678819172646912 ≤ mg x
  · obtain ⟨r, hr⟩ := left_exact x (cq .down x) hge (by omega)
    have hr2 : mv r < mv 4607182418800017408 := by rw [hr, mv_one]; omega
    have hr3 := mv_lt.1 hr2
    rw [R_exact _ r hr (by omega)]
    left
    split <;> omega
  · have hlt : mv (mg x) < mv 4602678819172646912 := mv_lt.2 (by omega)
    have h6 := mv_half
    cases hn : ng x
    · left
      have hq : cq .down x = 0 := by
        have e : (cq .down x) * one < 1 * one := by
          have : sv x = mv (mg x) := by unfold sv; rw [hn]; rfl
          omega
        have e2 : cq .down x < 1 := Int.lt_of_mul_lt_mul_right e (by omega)
        have : 0 ≤ cq .down x := by unfold cq; rw [hn]; simp
        omega
      rw [hq, Int.zero_mul, Int.sub_zero, R_sv x (by omega)]
      unfold rk; rw [hn, if_neg (by decide)]; omega
    · by_cases z : mg x = 0
      · left
        have hs : sv x = 0 := by unfold sv; rw [z, mv_zero]; split <;> rfl
        have hq : cq .down x = 0 := by
          unfold cq; rw [z, mv_zero, hn]
          have := cutq_mul .down true 0 one one_pos
          rw [Nat.zero_mul] at this
          rw [this]; rfl
        rw [hq, hs, Int.zero_mul, Int.sub_zero, r0]; decide
      · have e2 : (R (sv x - cq .down x * one)) ≤ R (mv 4607182418800017408 : Int) := R_mono (by rw [mv_one]; omega)
        rw [(R_mv 4607182418800017408 (by decide)).1] at e2
        have hk : rk x = -(mg x : Int) := by unfold rk; rw [hn]; rfl
        rcases Int.lt_or_eq_of_le e2 with h | h
        · exact .inl h
        · exact .inr ⟨h, by omega, by omega⟩

/-- both are of 64 bits just where x is -/
theorem cOk_wOk (way : Ieee.Toward) (x : Nat) (hx : x < 18446744073709551616) : cOk way x = wOk x := by
  cases n : isN x
  · by_cases c : 4841369599423283200 ≤ mg x
    · by_cases fx : mg x < 9218868437227405312
      · obtain ⟨q, hq⟩ := whole_great (mg x) c
        rw [← wOk_itV way x hx n]
        have h := itV_fin way x hx fx
        have e : itV way x = x := by
          have h3 := h.2.2
          rw [hq, cutq_mul _ _ _ _ one_pos, ← hq] at h3
          have h4 := mv_inj.1 h3
          have w1 := word_eq x hx
          have w2 := word_eq (itV way x) (itV_lt way x)
          rw [h4, h.1] at w2
          rw [w2]; exact w1.symm
        rw [e]
      · rw [← wOk_itV way x hx n, itV_inf way x hx (by have := isN_false.1 n; omega)]
    · have h1 : wOk x = true := by
        rw [wOk_rk x hx, n]
        have hr : rk x = mg x ∨ rk x = -(mg x : Int) := by unfold rk; split <;> simp
        rw [decide_eq_true (by omega), decide_eq_true (by omega)]; rfl
      have e : mv 4841369599423283200 = 2 ^ 52 * one := mv_from_one 52 _ (by decide)
      have hl : mv (mg x) < 2 ^ 52 * one := by rw [← e]; exact mv_lt.2 (by omega)
      have hq : mv (mg x) / one < 2 ^ 52 := (Nat.div_lt_iff_lt_mul one_pos).2 hl
      have hc := cutq_le way (ng x) (mv (mg x)) one
      have h2 : cOk way x = true := by
        unfold cOk fin
        have h3 : -9223372036854775808 ≤ cq way x ∧ cq way x < 9223372036854775808 := by
          unfold cq
          generalize cutq way (ng x) (mv (mg x)) one = Q at *
          split <;> omega
        rw [decide_eq_true (by omega), decide_eq_true h3.1, decide_eq_true h3.2]; rfl
      rw [h1, h2]
  · rw [(cOk_nan way n).1, (wOk_nan hx n).1]
end Go.Proofs.YtjkanehlbklnnaaDoor

/-
  What Clamp of package conv returns: walks over the program.
-/
namespace Go.Proofs.YtjkanehlbklnnaaDoor
open Go.RowKit Tf
attribute [local go_sem] run_bits run_from raw_feq raw_fne raw_flt raw_fgt run_neg

/-- the ends; the answer -/
def clampM (most : Int) : Int := if most < 0 then 0 else most
def clampB (x : Nat) (most : Int) : Int :=
  if isN x then 0 else if cOk .even x then min (max (cI .even x) (-clampM most)) (clampM most) else if fgt x 0 then clampM most else -clampM most

end Go.Proofs.YtjkanehlbklnnaaDoor
