/-
  The statement on every call, against the reference: the walk.
-/
import Derived.Test.YtgfggfkmfhonbaaNk
import Derived.Test.YtgfggfkmfhonbaaNg
namespace Go.Proofs.Ytgfggfkmfhonbaa
open Go.RowKit Tf
attribute [local go_sem] run_bits run_from raw_feq raw_fne raw_flt raw_fgt run_neg run_store_float
/-- a vector from there on -/
def VecAt (w : World) (b o : Nat) : Prop := ∃ x y z : Nat, (w.cell? ⟨b, o, none⟩ = some (.float .f64 x) ∧ w.cell? ⟨b, o + 1, none⟩ = some (.float .f64 y) ∧ w.cell? ⟨b, o + 2, none⟩ = some (.float .f64 z)) ∧ x < 18446744073709551616 ∧ y < 18446744073709551616 ∧ z < 18446744073709551616
set_option maxRecDepth 100000 in
set_option maxHeartbeats 16000000 in
theorem vall_go (b off len cap : Nat) (w : World) (hcap : len ≤ cap) (hl : (cap : Int) ≤ 9223372036854775807) (hb : b < w.heap.size) (hc : ∀ k, k < len → VecAt w b (off + k * 3)) :
    Calls Try.prog 7 #[.slice (some ⟨b, off, none⟩) len cap] w fun e w' => e = .returned (.bool true) ∧ Below w.heap.size w w' := by
  have LV := hid (fun w => lives7_at w)
  have MI := hid (fun x y z u v t w (hx : Hid (x < 18446744073709551616)) (hy : Hid (y < 18446744073709551616)) (hz : Hid (z < 18446744073709551616)) (hu : Hid (u < 18446744073709551616)) (hv : Hid (v < 18446744073709551616)) (ht : Hid (t < 18446744073709551616)) => minus_at x y z u v t w hx hy hz hu hv ht)
  have CR := hid (fun x y z u v t w (hx : Hid (x < 18446744073709551616)) (hy : Hid (y < 18446744073709551616)) (hz : Hid (z < 18446744073709551616)) (hu : Hid (u < 18446744073709551616)) (hv : Hid (v < 18446744073709551616)) (ht : Hid (t < 18446744073709551616)) => cross_at x y z u v t w hx hy hz hu hv ht)
  have GA := hid (fun x y z u v t w (hx : Hid (x < 18446744073709551616)) (hy : Hid (y < 18446744073709551616)) (hz : Hid (z < 18446744073709551616)) (hu : Hid (u < 18446744073709551616)) (hv : Hid (v < 18446744073709551616)) (ht : Hid (t < 18446744073709551616)) => gap_at x y z u v t w hx hy hz hu hv ht)
  have LN := hid (fun x y z w (hx : Hid (x < 18446744073709551616)) (hy : Hid (y < 18446744073709551616)) (hz : Hid (z < 18446744073709551616)) => length_at x y z w hx hy hz)
  have UN := hid (fun x y z w (hx : Hid (x < 18446744073709551616)) (hy : Hid (y < 18446744073709551616)) (hz : Hid (z < 18446744073709551616)) => unit_at x y z w hx hy hz)
  have RMI := hid (fun x y z u v t w (hx : Hid (x < 18446744073709551616)) (hy : Hid (y < 18446744073709551616)) (hz : Hid (z < 18446744073709551616)) (hu : Hid (u < 18446744073709551616)) (hv : Hid (v < 18446744073709551616)) (ht : Hid (t < 18446744073709551616)) => rminus_at x y z u v t w hx hy hz hu hv ht)
  have RCR := hid (fun x y z u v t w (hx : Hid (x < 18446744073709551616)) (hy : Hid (y < 18446744073709551616)) (hz : Hid (z < 18446744073709551616)) (hu : Hid (u < 18446744073709551616)) (hv : Hid (v < 18446744073709551616)) (ht : Hid (t < 18446744073709551616)) => rcross_at x y z u v t w hx hy hz hu hv ht)
  have RGA := hid (fun x y z u v t w (hx : Hid (x < 18446744073709551616)) (hy : Hid (y < 18446744073709551616)) (hz : Hid (z < 18446744073709551616)) (hu : Hid (u < 18446744073709551616)) (hv : Hid (v < 18446744073709551616)) (ht : Hid (t < 18446744073709551616)) => rgap_at x y z u v t w hx hy hz hu hv ht)
  have RLN := hid (fun x y z w (hx : Hid (x < 18446744073709551616)) (hy : Hid (y < 18446744073709551616)) (hz : Hid (z < 18446744073709551616)) => rlength_at x y z w hx hy hz)
  have RUN := hid (fun x y z w (hx : Hid (x < 18446744073709551616)) (hy : Hid (y < 18446744073709551616)) (hz : Hid (z < 18446744073709551616)) => runit_at x y z w hx hy hz)
  have SA := hid (fun a b w (h : a = b) => same_of a b w h)
  have AL := hid (fun x y z p q r w (h : x = p ∧ y = q ∧ z = r) => alike_of x y z p q r w h)
  have HC := hid hc
  have HB := hid hb
  clear hc hb
  go_enter Try.func7, Try.ntmps7
  go_wp2_with fail
  refine (LV.out _).mono ?_
  rintro e w1 ⟨rfl, b1⟩
  have A1 : Hid (Ab w w1) := b1
  clear b1
  go_wp2
  go_loopw [3] (fun iv wr => ∃ k : Nat, k ≤ len ∧ iv = .int .i64 (k : Nat) ∧ Ab w wr) (fun iv _ => len - (intOf iv).toNat)
  case atStart => exact ⟨0, by omega, rfl, A1.out⟩
  case round =>
    obtain ⟨k, hk, rfl, A⟩ := hrel
    by_cases hkl : k < len
    · have hk' : (k : Int) < len := by omega
      obtain ⟨j, hj⟩ : ∃ j, (k + 1) % len = j := ⟨_, rfl⟩
      have hjl : j < len := by rw [← hj]; exact Nat.mod_lt _ (by omega)
      have hj' : (j : Int) < len := by omega
      have e1 : ((k : Int) + 1) % (len : Int) = (j : Int) := by rw [← hj]; simp
      have e2 : ((k : Int) + 1).tmod (len : Int) = (j : Int) := by rw [Int.tmod_eq_emod_of_nonneg (by omega)]; exact e1
      have hl0 : ¬ ((len : Int) = 0) := by omega
      have hl1 : ((len : Int) == 0) = false := by simp; omega
      obtain ⟨x, y, z, ⟨c0, c1, c2⟩, hx, hy, hz⟩ := HC.out k hkl
      obtain ⟨u, v, t, ⟨c3, c4, c5⟩, hu, hv, ht⟩ := HC.out j hjl
      have d0 : wr.cell? ⟨b, off + k * 3, none⟩ = some (.float .f64 x) := (Below.cell A (by exact HB.out)).trans c0
      have d1 : wr.cell? ⟨b, off + k * 3 + 1, none⟩ = some (.float .f64 y) := (Below.cell A (by exact HB.out)).trans c1
      have d2 : wr.cell? ⟨b, off + k * 3 + 2, none⟩ = some (.float .f64 z) := (Below.cell A (by exact HB.out)).trans c2
      have d3 : wr.cell? ⟨b, off + j * 3, none⟩ = some (.float .f64 u) := (Below.cell A (by exact HB.out)).trans c3
      have d4 : wr.cell? ⟨b, off + j * 3 + 1, none⟩ = some (.float .f64 v) := (Below.cell A (by exact HB.out)).trans c4
      have d5 : wr.cell? ⟨b, off + j * 3 + 2, none⟩ = some (.float .f64 t) := (Below.cell A (by exact HB.out)).trans c5
      have Hx := hid hx
      have Hy := hid hy
      have Hz := hid hz
      have Hu := hid hu
      have Hv := hid hv
      have Ht := hid ht
      have hbw : b < wr.heap.size := Nat.lt_of_lt_of_le HB.out A.size
      have kl : (k : Int) + 1 ≤ 9223372036854775807 := by omega
      have AA := hid A
      have HK := hid hkl
      clear c0 c1 c2 c3 c4 c5 A hkl hj hjl hx hy hz hu hv ht
      go_upto_region 8 with fail
      generalize hW : World.alloc _ _ = v1
      obtain ⟨ga, hga⟩ : ∃ g, wr.heap.size = g := ⟨_, rfl⟩
      have RA1 : Hid (v1.heap[ga]? = some (.cells #[.float .f64 x, .float .f64 y, .float .f64 z] 24)) := by rw [← hW, ← hga]; exact heap_alloc2_old _ _ _
      have RB1 : Hid (v1.heap[ga + 1]? = some (.cells #[.float .f64 u, .float .f64 v, .float .f64 t] 24)) := by rw [← hW, ← hga]; exact heap_alloc2_new _ _ _
      have AW1 : Hid (Ab w v1) := by rw [← hW]; exact (AA.out.alloc _).alloc _
      rw [hga]
      clear hW hga d0 d1 d2 d3 d4 d5 AA hbw
      obtain ⟨U, F, hF1, hF2⟩ := cls v1
      have HF := hid hF2
      have HF1 := hid hF1
      have xA0 : ∀ vv, (F vv).cell? ⟨ga, 0, none⟩ = some (.float .f64 x) := fun vv => cell_of_row _ _ 0 _ _ _ ((hF1 vv).heap RA1.out)
      have xA1 : ∀ vv, (F vv).cell? ⟨ga, 1, none⟩ = some (.float .f64 y) := fun vv => cell_of_row _ _ 1 _ _ _ ((hF1 vv).heap RA1.out)
      have xA2 : ∀ vv, (F vv).cell? ⟨ga, 2, none⟩ = some (.float .f64 z) := fun vv => cell_of_row _ _ 2 _ _ _ ((hF1 vv).heap RA1.out)
      have xB0 : ∀ vv, (F vv).cell? ⟨ga + 1, 0, none⟩ = some (.float .f64 u) := fun vv => cell_of_row _ _ 0 _ _ _ ((hF1 vv).heap RB1.out)
      have xB1 : ∀ vv, (F vv).cell? ⟨ga + 1, 1, none⟩ = some (.float .f64 v) := fun vv => cell_of_row _ _ 1 _ _ _ ((hF1 vv).heap RB1.out)
      have xB2 : ∀ vv, (F vv).cell? ⟨ga + 1, 2, none⟩ = some (.float .f64 t) := fun vv => cell_of_row _ _ 2 _ _ _ ((hF1 vv).heap RB1.out)
      have D := HF.out _ (Ab.refl v1).drew
      clear hF1 hF2
      refine region_cls F (by kernel_rfl) (by kernel_rfl) D ?_
      repeat (go_big_quiet_step (first
        | (with_reducible rfl)
        | (go_at_call 10; exact calls_cls HF HF1 (MI.out _ _ _ _ _ _ _ (by assumption) (by assumption) (by assumption) (by assumption) (by assumption) (by assumption)))
        | (go_at_call 26; exact calls_cls HF HF1 (RMI.out _ _ _ _ _ _ _ (by assumption) (by assumption) (by assumption) (by assumption) (by assumption) (by assumption)))
        | (go_at_call 13; exact calls_cls HF HF1 (CR.out _ _ _ _ _ _ _ (by assumption) (by assumption) (by assumption) (by assumption) (by assumption) (by assumption)))
        | (go_at_call 27; exact calls_cls HF HF1 (RCR.out _ _ _ _ _ _ _ (by assumption) (by assumption) (by assumption) (by assumption) (by assumption) (by assumption)))
        | (go_at_call 22; exact calls_cls HF HF1 (GA.out _ _ _ _ _ _ _ (by assumption) (by assumption) (by assumption) (by assumption) (by assumption) (by assumption)))
        | (go_at_call 28; exact calls_cls HF HF1 (RGA.out _ _ _ _ _ _ _ (by assumption) (by assumption) (by assumption) (by assumption) (by assumption) (by assumption)))
        | (go_at_call 11; exact calls_cls HF HF1 (AL.out _ _ _ _ _ _ _ (by first | (with_reducible exact ⟨rfl, rfl, rfl⟩))))
        | (go_at_call 14; exact calls_cls HF HF1 (SA.out _ _ _ (by first | (with_reducible rfl))))))
      refine wpQuiet_nil ?_
      intro wz hwz
      obtain ⟨vv, hv⟩ := hwz
      have bz : Below v1.heap.size v1 wz := by rw [hv]; exact HF1.out vv
      clear hv vv
      clear HF HF1 D xA0 xA1 xA2 xB0 xB1 xB2
      clear F U
      obtain ⟨v2, rfl⟩ : ∃ x, x = wz := ⟨_, rfl⟩
      have AW2 : Hid (Ab w v2) := AW1.out.call bz
      have RA2 := hid (Ab.heap bz RA1.out)
      have RB2 := hid (Ab.heap bz RB1.out)
      clear bz AW1 RA1 RB1
      go_upto_region 10 with fail
      obtain ⟨U, F, hF1, hF2⟩ := cls v2
      have HF := hid hF2
      have HF1 := hid hF1
      have xA0 : ∀ vv, (F vv).cell? ⟨ga, 0, none⟩ = some (.float .f64 x) := fun vv => cell_of_row _ _ 0 _ _ _ ((hF1 vv).heap RA2.out)
      have xA1 : ∀ vv, (F vv).cell? ⟨ga, 1, none⟩ = some (.float .f64 y) := fun vv => cell_of_row _ _ 1 _ _ _ ((hF1 vv).heap RA2.out)
      have xA2 : ∀ vv, (F vv).cell? ⟨ga, 2, none⟩ = some (.float .f64 z) := fun vv => cell_of_row _ _ 2 _ _ _ ((hF1 vv).heap RA2.out)
      have D := HF.out _ (Ab.refl v2).drew
      clear hF1 hF2
      refine region_cls F (by kernel_rfl) (by kernel_rfl) D ?_
      repeat (go_big_quiet_step (first
        | (with_reducible rfl)
        | (go_at_call 15; exact calls_cls HF HF1 (LN.out _ _ _ _ (by assumption) (by assumption) (by assumption)))
        | (go_at_call 29; exact calls_cls HF HF1 (RLN.out _ _ _ _ (by assumption) (by assumption) (by assumption)))
        | (go_at_call 16; exact calls_cls HF HF1 (UN.out _ _ _ _ (by assumption) (by assumption) (by assumption)))
        | (go_at_call 30; exact calls_cls HF HF1 (RUN.out _ _ _ _ (by assumption) (by assumption) (by assumption)))
        | (go_at_call 11; exact calls_cls HF HF1 (AL.out _ _ _ _ _ _ _ (by first | (with_reducible exact ⟨rfl, rfl, rfl⟩))))
        | (go_at_call 14; exact calls_cls HF HF1 (SA.out _ _ _ (by first | (with_reducible rfl))))))
      refine wpQuiet_nil ?_
      intro wz hwz
      obtain ⟨vv, hv⟩ := hwz
      have bz : Below v2.heap.size v2 wz := by rw [hv]; exact HF1.out vv
      clear hv vv
      clear HF HF1 D xA0 xA1 xA2
      clear F U
      obtain ⟨v3, rfl⟩ : ∃ x, x = wz := ⟨_, rfl⟩
      have AW3 : Hid (Ab w v3) := AW2.out.call bz
      have RA3 := hid (Ab.heap bz RA2.out)
      have RB3 := hid (Ab.heap bz RB2.out)
      clear bz AW2 RA2 RB2
      go_wp2
      have h7 := HK.out
      have h8 := AW3.out
      go_roundw
      case rel => exact ⟨k + 1, by omega, by simp, h8⟩
      case measure => simp [intOf]; omega
    · obtain rfl : k = len := by omega
      have AA := hid A
      clear A HC
      go_wp2
      go_ret
      exact ⟨rfl, AA.out⟩
set_option maxHeartbeats 2000000 in
theorem vall_none (a0 : Option Addr) (cap : Nat) (w : World) :
    Calls Try.prog 7 #[.slice a0 0 cap] w fun e w' => e = .returned (.bool true) ∧ Below w.heap.size w w' := by
  have LV := hid (fun w => lives7_at w)
  go_enter Try.func7, Try.ntmps7
  go_wp2_with fail
  refine (LV.out _).mono ?_
  rintro e w1 ⟨rfl, b1⟩
  have A1 : Hid (Ab w w1) := b1
  clear b1
  go_wp2
  go_loopw [3] (fun iv wr => iv = .int .i64 0 ∧ Ab w wr) (fun _ _ => 0)
  case atStart => exact ⟨rfl, A1.out⟩
  case round =>
    obtain ⟨rfl, A⟩ := hrel
    have AA := hid A
    clear A
    go_wp2
    go_ret
    exact ⟨rfl, AA.out⟩
end Go.Proofs.Ytgfggfkmfhonbaa
