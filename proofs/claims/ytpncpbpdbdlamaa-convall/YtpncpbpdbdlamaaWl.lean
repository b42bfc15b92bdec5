/-
  The way through the statement on all of package conv: a walk over the program.
-/
import Derived.Test.YtpncpbpdbdlamaaRows
import Derived.Test.YtpncpbpdbdlamaaWt
import Derived.Test.YtpncpbpdbdlamaaWo
import Derived.ProofKit
import Derived.OpenShut
import Derived.Below
import Derived.Carry
import Derived.Deep.SlicePairs
import Derived.Deep.QuietTactic
import Derived.BigQuiet
import Derived.WalkLawsBesides
namespace Go.Proofs.Ytpncpbpdbdlamaa.convAllDone
open Go.ChangeShapes Go.WideShapes Go.ChangeAt Go.RowKit Go.Deep Tf Ref2
attribute [local go_sem] run_bits run_from raw_feq raw_fne raw_flt raw_fgt run_neg

theorem run_store_float {P : Program} (w : World) (a : Addr) (k : FloatKind) (b : Nat) (m : Mode) : (store a (.float k b) m).run P w = stored P w a (.float k b) m := run_store P w a _ m rfl
attribute [local go_sem] run_store_float

theorem own : ownKnob Try.prog.godebug = none := by kernel_rfl
theorem laidOut : laidOutB Try.prog = true := by kernel_rfl

theorem cell_block {w : World} {a : Addr} {v : Value} (h : w.cell? a = some v) : a.block < w.heap.size := by
  by_cases c : a.block < w.heap.size
  · exact c
  · exfalso
    have : w.heap[a.block]? = none := by simp; omega
    simp [World.cell?, this] at h

/-- a row of arguments lies at this place -/
def RowAt (w : World) (b o : Nat) : Prop := ∃ (x h32 h16 : Nat) (most i : Int),
  w.cell? ⟨b, o, none⟩ = some (.float .f64 x) ∧ w.cell? ⟨b, o + 1, none⟩ = some (.int .i64 most) ∧ w.cell? ⟨b, o + 2, none⟩ = some (.int .i64 i) ∧ w.cell? ⟨b, o + 3, none⟩ = some (.int .u32 (h32 : Nat)) ∧ w.cell? ⟨b, o + 4, none⟩ = some (.int .u16 (h16 : Nat)) ∧
  x < 18446744073709551616 ∧ most ≤ 9223372036854775807 ∧ -9223372036854775808 ≤ i ∧ i ≤ 9223372036854775807 ∧ h32 < 4294967296 ∧ h16 < 65536
/-- what the walk is told of the list: it is nil, or it leads to so many rows -/
def IsRows (w : World) (a : Option Addr) (len cap : Nat) : Prop :=
  len = 0 ∨
  ∃ b off, a = some ⟨b, off, none⟩ ∧ b < w.heap.size ∧ len ≤ cap ∧ cap ≤ maxLen ∧ ∀ i, i < len → RowAt w b (off + i * 5)

theorem same_true (a : Nat) (w : World) : Calls Try.prog 16 #[.float .f64 a, .float .f64 a] w fun e w' => e = .returned (.bool true) ∧ w' = w := by
  have := rawSame_any a a w
  have e : sameB a a = true := by unfold sameB; simp
  rwa [e] at this

set_option maxRecDepth 100000 in
set_option maxHeartbeats 4000000 in
theorem walk (a0 : Option Addr) (len cap : Nat) (w : World) (h0 : IsRows w a0 len cap) :
    Calls Try.prog 3 #[.slice a0 len cap] w fun e w' => e = .returned (.bool true) ∧ Below w.heap.size w w' := by
  rcases h0 with rfl | ⟨b, off, rfl, hb, hl, hm, hcells⟩
  · go_enter Try.func3, Try.ntmps3
    go_wp2_with fail
    refine (awake_any _).mono ?_
    rintro e w' ⟨rfl, k, rfl⟩
    go_wp2
    go_loop [3, 4] (fun a c => a = .bool true ∧ c = .int .i64 0) (fun _ _ => 0)
    case atStart => exact ⟨rfl, rfl⟩
    case round =>
      obtain ⟨rfl, rfl⟩ := hrel
      go_wp2
      go_ret
      exact ⟨rfl, below_drewN (Below.refl _ _) _⟩
  · unfold maxLen at hm
    by_cases hbig : (1048576 : Int) < (len : Int)
    · clear hcells
      go_enter Try.func3, Try.ntmps3
      go_wp2_with fail
      refine (awake_any _).mono ?_
      rintro e w' ⟨rfl, k, rfl⟩
      go_wp2
      go_ret
      exact ⟨rfl, below_drewN (Below.refl _ _) _⟩
    · have HC := hid hcells
      clear hcells
      go_enter Try.func3, Try.ntmps3
      go_wp2_with fail
      refine (awake_any _).mono ?_
      rintro e w' ⟨rfl, kk, rfl⟩
      go_wp2
      go_loopw [3, 4] (fun ov iv wr => ∃ k : Nat, k ≤ len ∧ ov = .bool true ∧ iv = .int .i64 k ∧ Below w.heap.size w wr) (fun _ iv _ => len - (intOf iv).toNat)
      case atStart => exact ⟨0, Nat.zero_le _, rfl, rfl, below_drewN (Below.refl _ _) _⟩
      case round =>
        obtain ⟨k, hk, rfl, rfl, hbel⟩ := hrel
        by_cases hlt : k < len
        · obtain ⟨x, h32, h16, most, i, c0, c1, c2, c3, c4, lx, lm, i0, i1, l32, l16⟩ := HC.out k hlt
          have d0 : wr.cell? ⟨b, off + k * 5, none⟩ = some (.float .f64 x) := by rw [hbel.cell (p := ⟨b, off + k * 5, none⟩) hb]; exact c0
          have d1 : wr.cell? ⟨b, off + k * 5 + 1, none⟩ = some (.int .i64 most) := by rw [hbel.cell (p := ⟨b, off + k * 5 + 1, none⟩) hb]; exact c1
          have d2 : wr.cell? ⟨b, off + k * 5 + 2, none⟩ = some (.int .i64 i) := by rw [hbel.cell (p := ⟨b, off + k * 5 + 2, none⟩) hb]; exact c2
          have d3 : wr.cell? ⟨b, off + k * 5 + 3, none⟩ = some (.int .u32 (h32 : Nat)) := by rw [hbel.cell (p := ⟨b, off + k * 5 + 3, none⟩) hb]; exact c3
          have d4 : wr.cell? ⟨b, off + k * 5 + 4, none⟩ = some (.int .u16 (h16 : Nat)) := by rw [hbel.cell (p := ⟨b, off + k * 5 + 4, none⟩) hb]; exact c4
          have HB := hid hbel
          obtain ⟨n, hn⟩ : ∃ n, cI .even x = n := ⟨_, rfl⟩
          obtain ⟨p, hp⟩ : ∃ p, cOk .even x = p := ⟨_, rfl⟩
          obtain ⟨f, hf⟩ : ∃ f, cI .down x = f := ⟨_, rfl⟩
          obtain ⟨q, hq⟩ : ∃ q, cOk .down x = q := ⟨_, rfl⟩
          obtain ⟨r, hr⟩ : ∃ r, clampB x most = r := ⟨_, rfl⟩
          obtain ⟨z, hz⟩ : ∃ z, rn false (i * one) = z := ⟨_, rfl⟩
          obtain ⟨s, hs⟩ : ∃ s, to32B x = s := ⟨_, rfl⟩
          obtain ⟨c, hc⟩ : ∃ c, from32B h32 = c := ⟨_, rfl⟩
          obtain ⟨u, hu⟩ : ∃ u, to16B x = u := ⟨_, rfl⟩
          obtain ⟨d, hd⟩ : ∃ d, from16B h16 = d := ⟨_, rfl⟩
          have R1 : Hid (∀ w, Calls Try.prog 10 #[.float .f64 x] w fun e w' => e = .returned (.tuple #[.int .i64 n, .bool p]) ∧ ∃ n, w' = w.drewN n) := fun w => round_at x n p w lx hn hp
          have R2 : Hid (∀ w, Calls Try.prog 11 #[.float .f64 x] w fun e w' => e = .returned (.tuple #[.int .i64 n, .bool p]) ∧ w' = w) := fun w => refRound_at x n p w lx hn hp
          have F1 : Hid (∀ w, Calls Try.prog 12 #[.float .f64 x] w fun e w' => e = .returned (.tuple #[.int .i64 f, .bool q]) ∧ ∃ n, w' = w.drewN n) := fun w => floor_at x f q w lx hf hq
          have F2 : Hid (∀ w, Calls Try.prog 13 #[.float .f64 x] w fun e w' => e = .returned (.tuple #[.int .i64 f, .bool q]) ∧ w' = w) := fun w => refFloor_at x f q w lx hf hq
          have K1 : Hid (∀ w, Calls Try.prog 14 #[.float .f64 x, .int .i64 most] w fun e w' => e = .returned (.int .i64 r) ∧ ∃ n, w' = w.drewN n) := fun w => clamp_at x most r w lx lm hr
          have K2' : Hid (∀ w, Calls Try.prog 15 #[.float .f64 x, .int .i64 most] w fun e w' => e = .returned (.int .i64 r) ∧ w' = w) := fun w => refClamp_at x most r w lx lm hr
          have I1 : Hid (∀ w, Calls Try.prog 17 #[.int .i64 i] w fun e w' => e = .returned (.float .f64 z) ∧ w' = w) := fun w => fromInt_at i z w hz
          have I2 : Hid (∀ w, Calls Try.prog 18 #[.int .i64 i] w fun e w' => e = .returned (.float .f64 z) ∧ w' = w) := fun w => refFromInt_at i z w i0 i1 hz
          have T1 : Hid (∀ w, Calls Try.prog 19 #[.float .f64 x] w fun e w' => e = .returned (.int .u32 (s : Nat)) ∧ w' = w) := fun w => to32_all x s w lx hs
          have T2 : Hid (∀ w, Calls Try.prog 20 #[.float .f64 x] w fun e w' => e = .returned (.int .u32 (s : Nat)) ∧ w' = w) := fun w => refTo32_at x s w lx hs
          have G1 : Hid (∀ w, Calls Try.prog 21 #[.int .u32 (h32 : Nat)] w fun e w' => e = .returned (.float .f64 c) ∧ ∃ n, w' = w.drewN n) := fun w => from32_at (h32 : Int) c w (by omega) (by omega) (by rw [Int.toNat_natCast]; exact hc)
          have G2 : Hid (∀ w, Calls Try.prog 22 #[.int .u32 (h32 : Nat)] w fun e w' => e = .returned (.float .f64 c) ∧ w' = w) := fun w => refFrom32_at h32 c w l32 hc
          have U1 : Hid (∀ w, Calls Try.prog 23 #[.float .f64 x] w fun e w' => e = .returned (.int .u16 (u : Nat)) ∧ w' = w) := fun w => to16_at x u w lx hu
          have U2 : Hid (∀ w, Calls Try.prog 24 #[.float .f64 x] w fun e w' => e = .returned (.int .u16 (u : Nat)) ∧ w' = w) := fun w => refTo16_at x u w lx hu
          have V1 : Hid (∀ w, Calls Try.prog 25 #[.int .u16 (h16 : Nat)] w fun e w' => e = .returned (.float .f64 d) ∧ w' = w) := fun w => from16_at (h16 : Int) d w (by omega) (by omega) (by rw [Int.toNat_natCast]; exact hd)
          have V2 : Hid (∀ w, Calls Try.prog 26 #[.int .u16 (h16 : Nat)] w fun e w' => e = .returned (.float .f64 d) ∧ w' = w) := fun w => refFrom16_at h16 d w l16 hd
          clear c0 c1 c2 c3 c4 hbel hn hp hf hq hr hz hs hc hu hd lx lm i0 i1 l32 l16
          go_wp2_with fail
          refine (R1.out _).mono ?_
          rintro e w' ⟨rfl, k1, rfl⟩
          go_wp2_with fail
          refine (R2.out _).mono ?_
          rintro e w' ⟨rfl, rfl⟩
          go_wp2_with fail
          refine (F1.out _).mono ?_
          rintro e w' ⟨rfl, k2, rfl⟩
          go_wp2_with fail
          refine (F2.out _).mono ?_
          rintro e w' ⟨rfl, rfl⟩
          go_wp2
          obtain ⟨W, hW⟩ : ∃ W, W = (wr.alloc (.cells #[.float .f64 x, .int .i64 most, .int .i64 i, .int .u32 (h32 : Nat), .int .u16 (h16 : Nat)] 28)).drewN (k1 + k2) := ⟨_, rfl⟩
          have g0 : W.cell? ⟨wr.heap.size, 0, none⟩ = some (.float .f64 x) := by rw [hW, World.cell?_drewN, World.cell?_alloc_at _ _ _ _ rfl]; rfl
          have g1 : W.cell? ⟨wr.heap.size, 1, none⟩ = some (.int .i64 most) := by rw [hW, World.cell?_drewN, World.cell?_alloc_at _ _ _ _ rfl]; rfl
          have g2 : W.cell? ⟨wr.heap.size, 2, none⟩ = some (.int .i64 i) := by rw [hW, World.cell?_drewN, World.cell?_alloc_at _ _ _ _ rfl]; rfl
          have g3 : W.cell? ⟨wr.heap.size, 3, none⟩ = some (.int .u32 (h32 : Nat)) := by rw [hW, World.cell?_drewN, World.cell?_alloc_at _ _ _ _ rfl]; rfl
          have g4 : W.cell? ⟨wr.heap.size, 4, none⟩ = some (.int .u16 (h16 : Nat)) := by rw [hW, World.cell?_drewN, World.cell?_alloc_at _ _ _ _ rfl]; rfl
          have HW : Hid (Below w.heap.size w W) := by
            rw [hW]
            exact below_drewN (HB.out.alloc (by have := HB.out.size; omega) _) _
          rw [← hW]
          clear hW d0 d1 d2 d3 d4 HB
          go_quiet ((first
            | (go_at_call 14; exact Calls.quiet_of (K1.out _))
            | (go_at_call 15; exact Calls.quiet_of_same (K2'.out _))
            | (go_at_call 17; exact Calls.quiet_of_same (I1.out _))
            | (go_at_call 18; exact Calls.quiet_of_same (I2.out _))
            | (go_at_call 16; exact Calls.quiet_of_same (same_true _ _))
            | (go_at_call 19; exact Calls.quiet_of_same (T1.out _))
            | (go_at_call 20; exact Calls.quiet_of_same (T2.out _))
            | (go_at_call 21; exact Calls.quiet_of (G1.out _))
            | (go_at_call 22; exact Calls.quiet_of_same (G2.out _))
            | (go_at_call 23; exact Calls.quiet_of_same (U1.out _))
            | (go_at_call 24; exact Calls.quiet_of_same (U2.out _))
            | (go_at_call 25; exact Calls.quiet_of_same (V1.out _))
            | (go_at_call 26; exact Calls.quiet_of_same (V2.out _))))
          go_wp2
          go_roundw
          case rel => exact ⟨k + 1, by omega, rfl, by go_num, below_drewN HW.out _⟩
          case measure => simp [intOf]; omega
        · go_wp2
          go_ret
          exact ⟨rfl, hbel⟩
end Go.Proofs.Ytpncpbpdbdlamaa.convAllDone
