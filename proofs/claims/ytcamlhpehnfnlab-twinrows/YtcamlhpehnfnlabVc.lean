/-
  How a float is put to one of two sides: walks over the program.
-/
import Derived.Test.YtcamlhpehnfnlabVb
namespace Go.Proofs.Ytcamlhpehnfnlab
open Go.RowKit Tf
attribute [local go_sem] run_bits run_from raw_feq raw_fne raw_flt raw_fgt run_neg

/-- nothing but two blocks is changed -/
structure Two (g h : Nat) (w w' : World) : Prop where
  os : w'.os = w.os
  tape : w'.tape = w.tape
  output : w'.output = w.output
  size : w'.heap.size = w.heap.size
  block : ∀ k, k ≠ g → k ≠ h → w'.heap[k]? = w.heap[k]?
theorem Only.two1 {g : Nat} {w w' : World} (k : Only g w w') (h : Nat) : Two g h w w' := ⟨k.os, k.tape, k.output, k.size, fun j a _ => k.block j a⟩
theorem Only.two2 {h : Nat} {w w' : World} (k : Only h w w') (g : Nat) : Two g h w w' := ⟨k.os, k.tape, k.output, k.size, fun j _ b => k.block j b⟩
theorem Two.trans {g h : Nat} {a b c : World} (x : Two g h a b) (y : Two g h b c) : Two g h a c :=
  ⟨y.os.trans x.os, y.tape.trans x.tape, y.output.trans x.output, y.size.trans x.size, fun j p q => (y.block j p q).trans (x.block j p q)⟩
theorem Two.swap {g h : Nat} {a b : World} (x : Two g h a b) : Two h g a b := ⟨x.os, x.tape, x.output, x.size, fun j p q => x.block j q p⟩

/-- two sides, in words: what they differ by, and a bound on the words -/
structure Sides (g h : Nat) (D B : Int) (w : World) : Prop where
  ne : g ≠ h
  ex : ∃ f f' : Nat → Int, w.heap[g]? = some (.cells (enc f) 32) ∧ w.heap[h]? = some (.cells (enc f') 32) ∧ valN f 150 - valN f' 150 = D ∧ (∀ i, 0 ≤ f i ∧ f i ≤ B) ∧ (∀ i, 0 ≤ f' i ∧ f' i ≤ B)
theorem Sides.swap {g h : Nat} {D B : Int} {w : World} (s : Sides g h D B w) : Sides h g (-D) B w := by
  obtain ⟨f, f', a, b, c, d, e⟩ := s.ex
  exact ⟨fun x => s.ne x.symm, f', f, b, a, by omega, e, d⟩
theorem Sides.drewN {g h : Nat} {D B : Int} {w : World} (s : Sides g h D B w) (n : Nat) : Sides g h D B (w.drewN n) := ⟨s.ne, s.ex⟩

set_option maxHeartbeats 1000000 in
theorem put_go (x : Nat) (g h : Nat) (z : Bool) (M E : Int) (w : World) (Q : World → Prop)
    (P : Hid (∀ w, Calls Try.prog 21 #[.float .f64 x] w fun e w' => e = .returned (.tuple #[.bool z, .int .u64 M, .int .i64 E]) ∧ w' = w)) (e0 : 0 ≤ E) (e1 : E ≤ 2045)
    (A : Hid (Calls Try.prog 22 #[.pointer (some ⟨if z then h else g, 0, none⟩), .int .u64 M, .int .i64 (E + 1074)] w fun e w' => e = .returned (.tuple #[]) ∧ Q w')) :
    Calls Try.prog 11 #[.pointer (some ⟨g, 0, none⟩), .pointer (some ⟨h, 0, none⟩), .float .f64 x] w fun e w' => e = .returned (.tuple #[]) ∧ Q w' := by
  cases z
  · have A' : Hid (Calls Try.prog 22 #[.pointer (some ⟨g, 0, none⟩), .int .u64 M, .int .i64 (E + 1074)] w fun e w' => e = .returned (.tuple #[]) ∧ Q w') := A
    clear A
    go_enter Try.func11, Try.ntmps11
    go_wp2_with fail
    refine (P.out _).mono ?_
    rintro e w' ⟨rfl, rfl⟩
    go_wp2_with fail
    refine A'.out.mono ?_
    rintro e w' ⟨rfl, hQ⟩
    go_wp2
    go_end0
    exact ⟨rfl, hQ⟩
  · have A' : Hid (Calls Try.prog 22 #[.pointer (some ⟨h, 0, none⟩), .int .u64 M, .int .i64 (E + 1074)] w fun e w' => e = .returned (.tuple #[]) ∧ Q w') := A
    clear A
    go_enter Try.func11, Try.ntmps11
    go_wp2_with fail
    refine (P.out _).mono ?_
    rintro e w' ⟨rfl, rfl⟩
    go_wp2_with fail
    refine A'.out.mono ?_
    rintro e w' ⟨rfl, hQ⟩
    go_wp2
    go_end0
    exact ⟨rfl, hQ⟩

theorem put_val (x : Nat) : ((wm (mg x) : Nat) : Int) * ((2 ^ (((wk (mg x) : Nat) : Int) + 1074).toNat : Nat) : Int) = ((mv (mg x) : Nat) : Int) * ((2 ^ K : Nat) : Int) := by
  have e : (((wk (mg x) : Nat) : Int) + 1074).toNat = wk (mg x) + K := by rw [K_eq]; omega
  rw [e, wm_wk, Nat.pow_add, Int.natCast_mul, Int.natCast_mul, Int.mul_assoc]

/-- A FLOAT TO ONE OF TWO SIDES -/
theorem put_at (x g h : Nat) (D B : Int) (w : World) (hx : x < 18446744073709551616) (fx : mg x < 9218868437227405312) (s : Sides g h D B w) (hB : B ≤ 1152921504606846976) :
    Calls Try.prog 11 #[.pointer (some ⟨g, 0, none⟩), .pointer (some ⟨h, 0, none⟩), .float .f64 x] w fun e w' => e = .returned (.tuple #[]) ∧ Sides g h (D + sv x * ((2 ^ K : Nat) : Int)) (B + 8589934592) w' ∧ Two g h w w' := by
  obtain ⟨f, f', a, b, c, d, e⟩ := s.ex
  have km := wm_lt (mg x)
  have kk := wk_top _ fx
  have pv := put_val x
  have P : Hid (∀ w, Calls Try.prog 21 #[.float .f64 x] w fun e w' => e = .returned (.tuple #[.bool (ng x), .int .u64 ((wm (mg x) : Nat) : Int), .int .i64 ((wk (mg x) : Nat) : Int)]) ∧ w' = w) := fun w => lparts_at x _ _ _ w hx fx rfl rfl rfl
  refine put_go x g h (ng x) _ _ w _ P (by omega) (by omega) ?_
  have hsv : sv x = if ng x then -((mv (mg x) : Nat) : Int) else ((mv (mg x) : Nat) : Int) := rfl
  cases z : ng x
  · rw [z, if_neg (by decide)] at hsv
    refine (wadd_at g f _ _ B w a d hB (by omega) (by omega) (by omega) (by omega)).mono ?_
    rintro e' w' ⟨he, f2, h1, h2, h3, h4⟩
    refine ⟨he, ⟨s.ne, f2, f', h1, ?_, ?_, h4, fun i => ?_⟩, h2.two1 h⟩
    · rw [h2.block h (fun q => s.ne q.symm)]; exact b
    · rw [h3, pv, hsv]; omega
    · have := e i; omega
  · rw [z, if_pos rfl] at hsv
    refine (wadd_at h f' _ _ B w b e hB (by omega) (by omega) (by omega) (by omega)).mono ?_
    rintro e' w' ⟨he, f2, h1, h2, h3, h4⟩
    refine ⟨he, ⟨s.ne, f, f2, ?_, h1, ?_, fun i => ?_, h4⟩, h2.two2 g⟩
    · rw [h2.block g s.ne]; exact a
    · rw [h3, pv, hsv, Int.neg_mul]; omega
    · have := d i; omega
end Go.Proofs.Ytcamlhpehnfnlab
