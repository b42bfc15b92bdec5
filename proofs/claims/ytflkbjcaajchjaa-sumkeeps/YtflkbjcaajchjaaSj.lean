/-
  The statement that a list and its spare room stay: a walk over the program.
-/
import Derived.Test.YtflkbjcaajchjaaSg
import Derived.Deep.OwnRows
import Derived.BigQuiet
namespace Go.Proofs.Ytflkbjcaajchjaa
open Go.RowKit Tf
attribute [local go_sem] run_bits run_from raw_feq raw_fne raw_flt raw_fgt run_neg
theorem run_store_flt {P : Program} (w : World) (a : Addr) (k : FloatKind) (b : Nat) (m : Mode) : (store a (.float k b) m).run P w = stored P w a (.float k b) m := run_store P w a _ m rfl
attribute [local go_sem] run_store_flt

theorem info_f64 : (Try.prog.info? 25).map (fun i => (i.zero, i.size, i.bytes)) = some (some (.float .f64 0), 1, 8) := by kernel_rfl
def keep (xs : Nat → Nat) (len i : Nat) : Nat → Value := fun k => .float .f64 (if k < i then (if k < len then xs k else 4635118810238550016) else 0)
def kept (xs : Nat → Nat) (len : Nat) : Nat → Nat := fun k => if k < len then xs k else 4635118810238550016
theorem fl_kept {w : World} {g n len : Nat} {xs : Nat → Nat} (h : w.rowIs g 25 n (fun k => .float .f64 (kept xs len k))) (hn : len ≤ n) (hf : ∀ k, k < len → xs k < 18446744073709551616) : IsFl w (some ⟨g, 0, none⟩) len xs :=
  fun k hk => ⟨hf k hk, g, 0, rfl, h.lt, by
    rw [Nat.zero_add, h.cell (by omega)]
    unfold kept; rw [if_pos hk]⟩
set_option maxHeartbeats 8000000 in
set_option maxRecDepth 100000 in
theorem keeps_go (a0 : Option Addr) (len cap l p c : Nat) (xs : Nat → Nat) (w : World) (hcap : (len : Int) ≤ cap) (hl : (len : Int) ≤ 1048576) (h : Hid (IsFl w a0 len xs)) (HB : Hid (∀ k, k < len → ∃ b o, a0 = some ⟨b, o, none⟩ ∧ b < w.heap.size ∧ w.cell? ⟨b, o + k, none⟩ = some (.float .f64 (xs k))))
    (L1 : Hid (∀ g wr, wr.rowIs g 25 (len + 9) (fun k => .float .f64 (kept xs len k)) → Calls Try.prog 11 #[.slice (some ⟨g, 0, none⟩) len (len + 9)] wr fun e w' => e = .returned (.float .f64 l) ∧ Hid (Below wr.heap.size wr w')))
    (P1 : Hid (∀ g wr, wr.rowIs g 25 (len + 9) (fun k => .float .f64 (kept xs len k)) → Calls Try.prog 13 #[.slice (some ⟨g, 0, none⟩) len (len + 9)] wr fun e w' => e = .returned (.float .f64 p) ∧ Hid (Below wr.heap.size wr w')))
    (C1 : Hid (∀ g wr, wr.rowIs g 25 (len + 9) (fun k => .float .f64 (kept xs len k)) → Calls Try.prog 15 #[.slice (some ⟨g, 0, none⟩) len (len + 9)] wr fun e w' => e = .returned (.float .f64 c) ∧ Hid (Below wr.heap.size wr w')))
    (L2 : Hid (∀ wr, Below w.heap.size w wr → Calls Try.prog 11 #[.slice a0 len cap] wr fun e w' => e = .returned (.float .f64 l) ∧ Hid (Below w.heap.size w w')))
    (P2 : Hid (∀ wr, Below w.heap.size w wr → Calls Try.prog 13 #[.slice a0 len cap] wr fun e w' => e = .returned (.float .f64 p) ∧ Hid (Below w.heap.size w w')))
    (C2 : Hid (∀ wr, Below w.heap.size w wr → Calls Try.prog 15 #[.slice a0 len cap] wr fun e w' => e = .returned (.float .f64 c) ∧ Hid (Below w.heap.size w w'))) :
    Calls Try.prog 8 #[.slice a0 len cap] w fun e w' => e = .returned (.bool true) ∧ Hid (Below w.heap.size w w') := by
  have S := hid same5_self
  have hmk := run_make_row' (P := Try.prog) 22 25 (.float .f64 0) 8 Try.underlying22 info_f64 rfl .i64 .i64 (len + 9) (by omega) (by omega)
  have hmk' : ∀ w, (Instr.makeSlice 22 (.int .i64 ((len : Int) + 9)) (.int .i64 ((len : Int) + 9))).run Try.prog w = .ok (.slice (some ⟨w.heap.size, 0, none⟩) (len + 9) (len + 9)) (w.alloc (.cells (madeCells #[.float .f64 0] (len + 9)) 25)) := fun w => hmk w
  clear hmk
  have f77 : feq 4635118810238550016 4635118810238550016 = true := by decide
  go_enter Try.func8, Try.ntmps8
  go_wp2_with fail
  refine (lives_any _).mono ?_
  rintro e w0 ⟨rfl, b0⟩
  go_wp2
  have R0 := World.rowIs_made w0 (.float .f64 0) (len + 9) 25
  have B1 : Below w.heap.size w (w0.alloc (.cells (madeCells #[.float .f64 0] (len + 9)) 25)) := b0.out.alloc b0.out.size _
  have hg0 := b0.out.size
  obtain ⟨g, hg⟩ : ∃ g, w0.heap.size = g := ⟨_, rfl⟩
  rw [hg] at R0 hg0
  rw [hg]
  have HR := hid R0
  have HB1 := hid B1
  have HG := hid hg0
  clear R0 B1 hg0 hg b0
  go_loopw [4] (fun iv wr => ∃ i : Nat, i ≤ len + 9 ∧ iv = .int .i64 (i : Nat) ∧ Hid (wr.rowIs g 25 (len + 9) (keep xs len i)) ∧ Hid (Below w.heap.size w wr)) (fun iv _ => len + 9 - (intOf iv).toNat)
  case atStart => exact ⟨0, by omega, rfl, HR.out.congr (fun k _ => by simp [keep]), HB1⟩
  case round =>
    clear HR HB1
    obtain ⟨i, hi, rfl, hr, hb⟩ := hrel
    by_cases hlt : i < len + 9
    · have il : (i : Int) < (len : Int) + 9 := by omega
      have e1 := hr.out.cell hlt
      have f1 := hr.out.frozen i
      have HI : Hid (i < len + 9) := hlt
      have q1 := hr.out.set i (.float .f64 4635118810238550016)
      have W1 : Hid (Below w.heap.size w (wr.setCell ⟨g, i, none⟩ (.float .f64 4635118810238550016))) := hb.out.setCell HG.out _
      have e2 := q1.cell hlt
      have f2 := q1.frozen i
      rw [if_pos rfl] at e2
      by_cases hc : i < len
      · obtain ⟨b, o, ha, hbs, cx⟩ := HB.out i hc
        subst ha
        have d1 : b ≠ g := by have := HG.out; omega
        have d3 : g ≠ b := by have := HG.out; omega
        have cx1 : wr.cell? ⟨b, o + i, none⟩ = some (.float .f64 (xs i)) := (hb.out.cell (p := ⟨b, o + i, none⟩) hbs).trans cx
        have cx2 : (wr.setCell ⟨g, i, none⟩ (.float .f64 4635118810238550016)).cell? ⟨b, o + i, none⟩ = some (.float .f64 (xs i)) := (W1.out.cell (p := ⟨b, o + i, none⟩) hbs).trans cx
        have W2 : Hid (((wr.setCell ⟨g, i, none⟩ (.float .f64 4635118810238550016)).setCell ⟨g, i, none⟩ (.float .f64 (xs i))).rowIs g 25 (len + 9) (keep xs len (i + 1))) := by
          refine (q1.set i (.float .f64 (xs i))).congr (fun k hk => ?_)
          unfold keep
          by_cases ck : k = i
          · subst ck
            rw [if_pos rfl, if_pos (Nat.lt_succ_self _), if_pos hc]
          · rw [if_neg ck, if_neg ck]
            simp only [show (k < i + 1) = (k < i) from propext ⟨fun _ => by omega, fun _ => by omega⟩]
        have W3 : Hid (Below w.heap.size w ((wr.setCell ⟨g, i, none⟩ (.float .f64 4635118810238550016)).setCell ⟨g, i, none⟩ (.float .f64 (xs i)))) := W1.out.setCell HG.out _
        obtain ⟨x, hx⟩ : ∃ x, xs i = x := ⟨_, rfl⟩
        rw [hx] at cx1 cx2 cx W2 W3
        have ic : (i : Int) < len := by omega
        clear hx hlt hi hr hb q1 L1 P1 C1 L2 P2 C2 hbs h HB
        go_wp2
        refine ⟨⟨i + 1, HI.out, by simp, ?_, ?_⟩, by have := HI.out; simp [intOf]; omega⟩
        · exact W2
        · exact W3
      · have W2 : Hid ((wr.setCell ⟨g, i, none⟩ (.float .f64 4635118810238550016)).rowIs g 25 (len + 9) (keep xs len (i + 1))) := by
          refine q1.congr (fun k hk => ?_)
          unfold keep
          by_cases ck : k = i
          · subst ck
            rw [if_pos rfl, if_pos (Nat.lt_succ_self _), if_neg hc]
          · rw [if_neg ck]
            simp only [show (k < i + 1) = (k < i) from propext ⟨fun _ => by omega, fun _ => by omega⟩]
        have ic : decide ((i : Int) < len) = false := by simp; omega
        have ic' : decide (i < len) = false := by simp; omega
        clear hlt hi hr hb q1 L1 P1 C1 L2 P2 C2 h HB hc
        go_wp2
        refine ⟨⟨i + 1, HI.out, by simp, ?_, ?_⟩, by have := HI.out; simp [intOf]; omega⟩
        · exact W2
        · exact W1
    · obtain rfl : i = len + 9 := by omega
      have R1 : Hid (wr.rowIs g 25 (len + 9) (fun k => .float .f64 (kept xs len k))) := hr.out.congr (fun k hk => by unfold keep kept; rw [if_pos hk])
      clear hr hi hlt
      have hc9 : ¬ len + 9 = 0 := by omega
      go_wp2_with fail
      refine (L1.out g _ R1.out).mono ?_
      rintro e w1 ⟨rfl, b1⟩
      have R2 : Hid (w1.rowIs g 25 (len + 9) (fun k => .float .f64 (kept xs len k))) := R1.out.of_block (b1.out.block g R1.out.lt)
      have B2 : Hid (Below w.heap.size w w1) := bthen hb.out b1.out
      clear R1 b1 hb
      go_wp2_with fail
      refine (P1.out g _ R2.out).mono ?_
      rintro e w2 ⟨rfl, b2⟩
      have R3 : Hid (w2.rowIs g 25 (len + 9) (fun k => .float .f64 (kept xs len k))) := R2.out.of_block (b2.out.block g R2.out.lt)
      have B3 : Hid (Below w.heap.size w w2) := bthen B2.out b2.out
      clear R2 b2 B2
      go_wp2_with fail
      refine (C1.out g _ R3.out).mono ?_
      rintro e w3 ⟨rfl, b3⟩
      have R4 : Hid (w3.rowIs g 25 (len + 9) (fun k => .float .f64 (kept xs len k))) := R3.out.of_block (b3.out.block g R3.out.lt)
      have B4 : Hid (Below w.heap.size w w3) := bthen B3.out b3.out
      clear R3 b3 B3 L1 P1 C1
      go_wp2
      go_loopw [9] (fun iv wr => ∃ i j : Nat, i ≤ len + 9 ∧ iv = .int .i64 (i : Nat) ∧ wr = w3.drewN j) (fun iv _ => len + 9 - (intOf iv).toNat)
      case atStart => exact ⟨0, 0, by omega, rfl, rfl⟩
      case round =>
        obtain ⟨i, j, hi, rfl, rfl⟩ := hrel
        by_cases hlt : i < len + 9
        · have il : (i : Int) < (len : Int) + 9 := by omega
          have e1 : (w3.drewN j).cell? ⟨g, i, none⟩ = some (.float .f64 (kept xs len i)) := R4.out.cell hlt
          have B5 : Below w.heap.size w (w3.drewN j) := below_drewN B4.out j
          obtain ⟨V, hV⟩ : ∃ V, w3.drewN j = V := ⟨_, rfl⟩
          rw [hV] at e1 B5
          rw [hV]
          have HV : Hid (∀ n, V.drewN n = w3.drewN (j + n)) := fun n => by rw [← hV]; simp
          clear hV
          have HI : Hid (i < len + 9) := hlt
          by_cases hc : i < len
          · obtain ⟨b, o, ha, hbs, cx⟩ := HB.out i hc
            subst ha
            have cx1 : V.cell? ⟨b, o + i, none⟩ = some (.float .f64 (xs i)) := (B5.cell (p := ⟨b, o + i, none⟩) hbs).trans cx
            have ek : kept xs len i = xs i := by unfold kept; rw [if_pos hc]
            rw [ek] at e1
            obtain ⟨x, hx⟩ : ∃ x, xs i = x := ⟨_, rfl⟩
            rw [hx] at cx1 cx e1
            have ic : (i : Int) < len := by omega
            have icap : (i : Int) < cap := by omega
            have ig : decide ((len : Int) ≤ i) = false := by simp; omega
            have ig' : decide (len ≤ i) = false := by simp; omega
            clear hx ek hlt hi hc L2 P2 C2 hbs h HB B5 B4 R4
            go_wp2_with fail
            refine wp_region_quiet_lit (by kernel_rfl) (by kernel_rfl) ?_
            repeat (go_big_quiet_step ((go_at_call 10; exact Calls.quiet_of_same (S.out _ _))))
            refine wpQuiet_nil ?_
            intro wz hwz
            obtain ⟨nq, rfl⟩ := hwz
            go_wp2
            refine ⟨⟨i + 1, _, HI.out, by simp, HV.out _⟩, by have := HI.out; simp [intOf]; omega⟩
          · have ek : kept xs len i = 4635118810238550016 := by unfold kept; rw [if_neg hc]
            rw [ek] at e1
            have ig : (len : Int) ≤ i := by omega
            have ic : decide ((i : Int) < len) = false := by simp; omega
            have ic' : decide (i < len) = false := by simp; omega
            clear ek hlt hi hc L2 P2 C2 h HB B5 B4 R4
            go_wp2_with fail
            refine wp_region_quiet_lit (by kernel_rfl) (by kernel_rfl) ?_
            repeat (go_big_quiet_step (fail))
            refine wpQuiet_nil ?_
            intro wz hwz
            obtain ⟨nq, rfl⟩ := hwz
            go_wp2
            refine ⟨⟨i + 1, _, HI.out, by simp, HV.out _⟩, by have := HI.out; simp [intOf]; omega⟩
        · obtain rfl : i = len + 9 := by omega
          have B5 : Hid (Below w.heap.size w (w3.drewN j)) := below_drewN B4.out j
          clear hi hlt B4 R4
          go_wp2_with fail
          refine (L2.out _ B5.out).mono ?_
          rintro e w4 ⟨rfl, b4⟩
          go_wp2_with fail
          refine (S.out _ _).mono ?_
          rintro e w' ⟨rfl, rfl⟩
          go_wp2_with fail
          refine (P2.out _ b4.out).mono ?_
          rintro e w5 ⟨rfl, b5⟩
          go_wp2_with fail
          refine (S.out _ _).mono ?_
          rintro e w' ⟨rfl, rfl⟩
          go_wp2_with fail
          refine (C2.out _ b5.out).mono ?_
          rintro e w6 ⟨rfl, b6⟩
          go_wp2_with fail
          refine (S.out _ _).mono ?_
          rintro e w' ⟨rfl, rfl⟩
          go_wp2
          go_ret
          exact ⟨rfl, b6⟩
set_option maxHeartbeats 1000000 in
theorem keeps_long (a0 : Option Addr) (len cap : Nat) (w : World) (hl : 1048576 < (len : Int)) :
    Calls Try.prog 8 #[.slice a0 len cap] w fun e w' => e = .returned (.bool true) ∧ Hid (Below w.heap.size w w') := by
  go_enter Try.func8, Try.ntmps8
  go_wp2_with fail
  refine (lives_any _).mono ?_
  rintro e w0 ⟨rfl, b0⟩
  go_wp2
  go_ret
  exact ⟨rfl, b0⟩
/-- THE LIST STAYS -/
theorem keeps_walk (a0 : Option Addr) (len cap : Nat) (xs : Nat → Nat) (w : World) (hcap : len ≤ cap) (hmax : (cap : Int) ≤ 17592186044416) (h : IsFl w a0 len xs) :
    Calls Try.prog 8 #[.slice a0 len cap] w fun e w' => e = .returned (.bool true) ∧ Hid (Below w.heap.size w w') := by
  by_cases hl : len ≤ 1048576
  · have hx : ∀ k, k < len → xs k < 18446744073709551616 := fun k hk => (h k hk).1
    refine keeps_go a0 len cap (leftB xs len) (prB xs 0 len) (careB xs len) xs w (by omega) (by omega) h (fun k hk => (h k hk).2) ?_ ?_ ?_ ?_ ?_ ?_
    · intro g wr hr
      refine (left_at _ len (len + 9) xs wr (by omega) (by omega) (fl_kept hr (by omega) hx)).mono ?_
      rintro e w' ⟨he, k, rfl⟩
      exact ⟨he, below_drewN (Below.refl _ _) k⟩
    · intro g wr hr
      exact pairs_at len _ (len + 9) xs wr (by omega) (by omega) (by omega) (fl_kept hr (by omega) hx)
    · intro g wr hr
      refine (careful_at _ len (len + 9) xs wr (by omega) (by omega) (fl_kept hr (by omega) hx)).mono ?_
      rintro e w' ⟨he, k, rfl⟩
      exact ⟨he, below_drewN (Below.refl _ _) k⟩
    · intro wr hb
      refine (left_at a0 len cap xs wr hcap (by omega) (h.below hb)).mono ?_
      rintro e w' ⟨he, k, rfl⟩
      exact ⟨he, below_drewN hb k⟩
    · intro wr hb
      refine (pairs_at len a0 cap xs wr hcap (by omega) (by omega) (h.below hb)).mono ?_
      rintro e w' ⟨he, hw⟩
      exact ⟨he, hb.trans (hw.out.mono hb.size)⟩
    · intro wr hb
      refine (careful_at a0 len cap xs wr hcap (by omega) (h.below hb)).mono ?_
      rintro e w' ⟨he, k, rfl⟩
      exact ⟨he, below_drewN hb k⟩
  · exact keeps_long a0 len cap w (by omega)
end Go.Proofs.Ytflkbjcaajchjaa
