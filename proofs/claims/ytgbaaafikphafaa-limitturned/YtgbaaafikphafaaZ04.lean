/-
  Some of the texts of this proof, one behind the other.
-/
import Derived.WalkKit
import Derived.Below
import Derived.Deep.Draws
import Derived.Deep.RegionHeld3
import Derived.Test.YtgbaaafikphafaaRows
import Derived.Test.YtgbaaafikphafaaZ00
import Derived.Test.YtgbaaafikphafaaZ02
import Derived.Deep.RegionWith
import Derived.BigQuiet
import Derived.Test.YtgbaaafikphafaaZ03
import Derived.Deep.QuietTactic
import Derived.Deep.Quiet
import Derived.Deep.MidRow
import Derived.Deep.Cut
import Derived.Deep.CutRange
/-
  What lies in memory, and what a call leaves as it was (no program).
-/
namespace Go.Proofs.Ytgbaaafikphafaa
open Go.RowKit
theorem hid {p : Prop} (h : p) : Hid p := h
theorem heap_alloc3_new (w : World) (A B C : Obj) : (((w.alloc A).alloc B).alloc C).heap[w.heap.size + 2]? = some C := by
  have h := heap_alloc_new ((w.alloc A).alloc B) C
  have e : ((w.alloc A).alloc B).heap.size = w.heap.size + 2 := by
    show ((w.heap.push A).push B).size = _
    simp
  rwa [e] at h
theorem bl1 (w : World) (A : Obj) : Below w.heap.size w (w.alloc A) := (Below.refl _ _).alloc (Nat.le_refl _) _
theorem bl2 (w : World) (A B : Obj) : Below w.heap.size w ((w.alloc A).alloc B) := (bl1 w A).alloc (by simp) _
theorem bl3 (w : World) (A B C : Obj) : Below w.heap.size w (((w.alloc A).alloc B).alloc C) := (bl2 w A B).alloc (by simp; omega) _
/-- all blocks of W are in w as they were -/
def Ab (W w : World) : Prop := Below W.heap.size W w
theorem Ab.refl (W : World) : Ab W W := Below.refl _ _
theorem Ab.size {W w : World} (h : Ab W w) : W.heap.size ≤ w.heap.size := Below.size h
theorem Ab.drew {W w : World} (h : Ab W w) : Ab W w.drew := Below.drew h
theorem Ab.alloc {W w : World} (h : Ab W w) (o : Obj) : Ab W (w.alloc o) := Below.alloc h h.size o
theorem Ab.call {W u w : World} (h : Ab W u) (b : Below u.heap.size u w) : Ab W w := h.trans (b.mono h.size)
theorem Ab.set {W w : World} (h : Ab W w) {p : Addr} (hp : W.heap.size ≤ p.block) (u : Value) : Ab W (w.setCell p u) := Below.setCell h hp u
theorem Ab.heap {W w : World} (h : Ab W w) {g : Nat} {o : Obj} (hg : W.heap[g]? = some o) : w.heap[g]? = some o := by
  have hlt : g < W.heap.size := by
    rcases Nat.lt_or_ge g W.heap.size with h1 | h1
    · exact h1
    · rw [Array.getElem?_eq_none h1] at hg; cases hg
  exact (Below.block h g hlt).trans hg
theorem free_row {w : World} {g : Nat} {cs : Array Value} {T : TypeId} (h : w.heap[g]? = some (.cells cs T (0, 0))) (k : Nat) : w.frozen? ⟨g, k, none⟩ = false := by
  simp [World.frozen?, h]
theorem heap_at (w : World) (o : Obj) (k : Nat) (h : k = w.heap.size) : (w.alloc o).heap[k]? = some o := by
  rw [h]; exact heap_alloc_new w o
theorem heap_drew (w : World) (k : Nat) : w.drew.heap[k]? = w.heap[k]? := rfl
theorem Ab.trans {a b c : World} (h : Ab a b) (k : Ab b c) : Ab a c := h.call k
theorem Ab.setRow {W w : World} (h : Ab W w) {g : Nat} (hg : W.heap.size ≤ g) (cs : Array Value) : Ab W (w.setRow g cs) :=
  ⟨h.os, h.tape, h.output, by simpa using Below.size h, fun k hk => by rw [setRow_other _ _ _ _ (by omega)]; exact Below.block h k hk⟩
/-- as Ab, but for block g, which is a row of n cells of type T -/
def Abx (W : World) (g n : Nat) (T : TypeId) (w : World) : Prop :=
  (w.os = W.os ∧ w.tape = W.tape ∧ w.output = W.output ∧ W.heap.size ≤ w.heap.size ∧ ∀ k, k < W.heap.size → k ≠ g → w.heap[k]? = W.heap[k]?) ∧ ∃ cs : Array Value, cs.size = n ∧ w.heap[g]? = some (.cells cs T)
/-- what lies in a cell -/
def rv (w : World) (g k : Nat) : Value := (w.cell? ⟨g, k, none⟩).getD (.bool false)
theorem Ab.x {W w : World} (h : Ab W w) {g n : Nat} {T : TypeId} {cs : Array Value} (hn : cs.size = n) (hg : W.heap[g]? = some (.cells cs T)) : Abx W g n T w :=
  ⟨⟨Below.os h, Below.tape h, Below.output h, Below.size h, fun k hk _ => Below.block h k hk⟩, cs, hn, h.heap hg⟩
theorem Abx.drew {W w : World} {g n : Nat} {T : TypeId} (h : Abx W g n T w) : Abx W g n T w.drew := h
theorem Abx.alloc {W w : World} {g n : Nat} {T : TypeId} (h : Abx W g n T w) (o : Obj) : Abx W g n T (w.alloc o) := by
  obtain ⟨⟨h1, h2, h3, h4, h5⟩, cs, h6, h7⟩ := h
  refine ⟨⟨h1, h2, h3, by simp; omega, fun k hk hne => (Below.heap_alloc _ _ _ (by omega)).trans (h5 k hk hne)⟩, cs, h6, (Below.heap_alloc _ _ _ (lt_of_block h7)).trans h7⟩
theorem Abx.call {W u w : World} {g n : Nat} {T : TypeId} (h : Abx W g n T u) (b : Below u.heap.size u w) : Abx W g n T w := by
  obtain ⟨⟨h1, h2, h3, h4, h5⟩, cs, h6, h7⟩ := h
  exact ⟨⟨b.os.trans h1, b.tape.trans h2, b.output.trans h3, Nat.le_trans h4 b.size, fun k hk hne => (b.block k (by omega)).trans (h5 k hk hne)⟩, cs, h6, (b.block g (lt_of_block h7)).trans h7⟩
theorem one_set {w : World} {g k : Nat} {cs : Array Value} {v : Value} {T : TypeId} (h : w.heap[g]? = some (.cells cs T)) : (w.setCell ⟨g, k, none⟩ v).heap[g]? = some (.cells (cs.setIfInBounds k v) T) := by
  show (w.heap.modify g _)[g]? = _
  rw [Array.getElem?_modify, if_pos rfl, h]
  rfl
theorem Abx.set {W w : World} {g n : Nat} {T : TypeId} (h : Abx W g n T w) (k : Nat) (v : Value) : Abx W g n T (w.setCell ⟨g, k, none⟩ v) := by
  obtain ⟨⟨h1, h2, h3, h4, h5⟩, cs, h6, h7⟩ := h
  refine ⟨⟨h1, h2, h3, by simpa [World.setCell] using h4, fun i hi hne => (Below.heap_setCell _ _ _ _ hne).trans (h5 i hi hne)⟩, cs.setIfInBounds k v, by simpa using h6, one_set h7⟩
theorem Abx.heap {W w : World} {g n : Nat} {T : TypeId} (h : Abx W g n T w) {k : Nat} {o : Obj} (hne : k ≠ g) (hk : W.heap[k]? = some o) : w.heap[k]? = some o := by
  have hlt : k < W.heap.size := by
    rcases Nat.lt_or_ge k W.heap.size with h1 | h1
    · exact h1
    · rw [Array.getElem?_eq_none h1] at hk; cases hk
  exact (h.1.2.2.2.2 k hlt hne).trans hk
theorem Abx.free {W w : World} {g n : Nat} {T : TypeId} (h : Abx W g n T w) (k : Nat) : w.frozen? ⟨g, k, none⟩ = false := by
  obtain ⟨_, cs, _, h7⟩ := h
  exact free_row h7 k
theorem Abx.some {W w : World} {g n : Nat} {T : TypeId} (h : Abx W g n T w) {k : Nat} (hk : k < n) : w.cell? ⟨g, k, none⟩ = some (rv w g k) := by
  obtain ⟨_, cs, h6, h7⟩ := h
  have e := cell_of_row w g k cs T (0, 0) h7
  rw [Array.getElem?_eq_getElem (by omega)] at e
  unfold rv
  rw [e]
  rfl
theorem Abx.ab {w0 W w : World} {g n : Nat} {T : TypeId} (h : Abx W g n T w) (a : Ab w0 W) (hg : w0.heap.size ≤ g) : Ab w0 w := by
  obtain ⟨⟨h1, h2, h3, h4, h5⟩, _⟩ := h
  exact ⟨h1.trans a.os, h2.trans a.tape, h3.trans a.output, Nat.le_trans (Below.size a) h4, fun k hk => (h5 k (Nat.lt_of_lt_of_le hk (Below.size a)) (by omega)).trans (a.block k hk)⟩
theorem set3 {W w : World} {g : Nat} {x y z : Value} {T : TypeId} (h : Abx W g 3 T w) :
    (((w.setCell ⟨g, 0, none⟩ x).setCell ⟨g, 1, none⟩ y).setCell ⟨g, 2, none⟩ z).heap[g]? = some (.cells #[x, y, z] T) := by
  obtain ⟨_, cs, h6, h⟩ := h
  obtain ⟨a, b, c, rfl⟩ : ∃ a b c, cs = #[a, b, c] := by
    rcases cs with ⟨l⟩
    match l, h6 with
    | [a, b, c], _ => exact ⟨a, b, c, rfl⟩
  have h1 := one_set (v := x) (k := 0) h
  have h2 := one_set (v := y) (k := 1) h1
  have h3 := one_set (v := z) (k := 2) h2
  simpa using h3
theorem Ab.setk {W w : World} (h : Ab W w) {g k : Nat} (hp : W.heap.size ≤ g) (u : Value) : Ab W (w.setCell ⟨g, k, none⟩ u) := Below.setCell h hp u
/-- a point that was laid just ahead of a call -/
theorem Ab.drewN {W w : World} (h : Ab W w) (k : Nat) : Ab W (w.drewN k) := by
  induction k with
  | zero => exact h
  | succ k ih => exact ih.drew
theorem newrow {u w1 : World} {c : Array Value} {T : TypeId} (b : Below (u.alloc (.cells c T)).drew.heap.size (u.alloc (.cells c T)).drew w1) : w1.heap[u.heap.size]? = some (.cells c T) :=
  (b.block _ (by show u.heap.size < (u.alloc _).heap.size; simp)).trans (heap_alloc_new u _)
theorem newrow' {u w1 : World} {c : Array Value} {T : TypeId} (b : Below (u.alloc (.cells c T)).heap.size (u.alloc (.cells c T)) w1) : w1.heap[u.heap.size]? = some (.cells c T) :=
  (b.block _ (by simp)).trans (heap_alloc_new u _)
theorem rowfacts {w : World} {g : Nat} {x y z : Value} {T : TypeId} (r : w.heap[g]? = some (.cells #[x, y, z] T)) : (w.frozen? ⟨g, 0, none⟩ = false ∧ w.frozen? ⟨g, 1, none⟩ = false ∧ w.frozen? ⟨g, 2, none⟩ = false) ∧ w.cell? ⟨g, 0, none⟩ = some x ∧ w.cell? ⟨g, 1, none⟩ = some y ∧ w.cell? ⟨g, 2, none⟩ = some z :=
  ⟨⟨free_row r 0, free_row r 1, free_row r 2⟩, cell_of_row _ _ 0 _ _ _ r, cell_of_row _ _ 1 _ _ _ r, cell_of_row _ _ 2 _ _ _ r⟩
theorem row3 {w : World} {g : Nat} {a b c x y z : Value} {T : TypeId} (h : w.heap[g]? = some (.cells #[a, b, c] T)) :
    (((w.setCell ⟨g, 0, none⟩ x).setCell ⟨g, 1, none⟩ y).setCell ⟨g, 2, none⟩ z).heap[g]? = some (.cells #[x, y, z] T) := by
  have h1 := one_set (v := x) (k := 0) h
  have h2 := one_set (v := y) (k := 1) h1
  have h3 := one_set (v := z) (k := 2) h2
  simpa using h3
end Go.Proofs.Ytgbaaafikphafaa

/-
  What the calls of package bits, and the small helpers of the statements, return: walks over the program.
-/
namespace Go.Proofs.Ytgbaaafikphafaa
open Go.RowKit Tf

theorem run_bits (b : Nat) (w : World) : (callFunc 23 #[.float .f64 b]).run Try.prog w = .ok (.value (.int .u64 b)) w := by
  rw [run_callFunc_extern (e := Extern.MathFloatBits.float64bits) Try.func23 (by kernel_rfl) (by kernel_rfl) (by kernel_rfl) (by kernel_rfl)]
  rfl
theorem run_from (n : Int) (w : World) : (callFunc 25 #[.int .u64 n]).run Try.prog w = .ok (.value (.float .f64 n.toNat)) w := by
  rw [run_callFunc_extern (e := Extern.MathFloatBits.float64frombits) Try.func25 (by kernel_rfl) (by kernel_rfl) (by kernel_rfl) (by kernel_rfl)]
  rfl
theorem raw_feq (a b : Nat) : (FloatKind.f64.format.order a b == some Ordering.eq) = feq a b := rfl
theorem raw_fne (a b : Nat) : (FloatKind.f64.format.order a b != some Ordering.eq) = !feq a b := rfl
theorem raw_flt (a b : Nat) : (FloatKind.f64.format.order a b == some Ordering.lt) = flt a b := rfl
theorem raw_fgt (a b : Nat) : (FloatKind.f64.format.order a b == some Ordering.gt) = fgt a b := rfl
attribute [local go_sem] run_bits run_from raw_feq raw_fne raw_flt raw_fgt

theorem ret_int {k : IntKind} {a b : Int} (h : a = b) : Ending.returned (.int k a) = .returned (.int k b) := by rw [h]
theorem ret_bool {a b : Bool} (h : a = b) : Ending.returned (.bool a) = .returned (.bool b) := by rw [h]
theorem ret_flt {a b : Nat} (h : a = b) : Ending.returned (.float .f64 a) = .returned (.float .f64 b) := by rw [h]

set_option maxHeartbeats 400000 in
theorem magnitudeBits_any (x : Nat) (w : World) (hx : x < 18446744073709551616) :
    Calls Try.prog 24 #[.float .f64 x] w fun e w' => e = .returned (.int .u64 (mg x : Nat)) ∧ w' = w := by
  go_enter Try.func24, Try.ntmps24
  go_wp2
  go_ret
  exact ⟨ret_int (andNot_sign x hx), rfl⟩
set_option maxHeartbeats 400000 in
theorem place_any (x : Nat) (w : World) (hx : x < 18446744073709551616) :
    Calls Try.prog 26 #[.float .f64 x] w fun e w' => e = .returned (.int .u64 (placeB x : Nat)) ∧ w' = w := by
  have hs := and_sign x hx
  cases hn : ng x
  · rw [hn] at hs
    have hl := lt_of_ng hn
    have ho : Hid (bits .or .u64 (x : Int) 9223372036854775808 = ((x + 9223372036854775808 : Nat) : Int)) := or_sign x hl
    have hp : Hid (placeB x = x + 9223372036854775808) := by unfold placeB; rw [hn]; rfl
    go_enter Try.func26, Try.ntmps26
    go_wp2
    go_ret
    exact ⟨ret_int (by rw [ho.out, hp.out]), rfl⟩
  · rw [hn] at hs
    have ho : Hid (bits .xor .u64 IntKind.u64.max (x : Int) = ((18446744073709551615 - x : Nat) : Int)) := not_all x hx
    have hp : Hid (placeB x = 18446744073709551615 - x) := by unfold placeB; rw [hn]; rfl
    go_enter Try.func26, Try.ntmps26
    go_wp2
    go_ret
    exact ⟨ret_int (by rw [hp.out]; exact ho.out), rfl⟩
set_option maxHeartbeats 400000 in
theorem isNaN_any (x : Nat) (w : World) (hx : x < 18446744073709551616) :
    Calls Try.prog 16 #[.float .f64 x] w fun e w' => e = .returned (.bool (isN x)) ∧ w' = w := by
  go_enter Try.func16, Try.ntmps16
  go_wp2_with (go_at_call 24; refine (magnitudeBits_any _ _ hx).mono ?_; rintro e w' ⟨rfl, rfl⟩)
  go_ret
  exact ⟨ret_bool (by unfold isN; exact decide_eq_decide.2 (by omega)), rfl⟩
set_option maxHeartbeats 400000 in
theorem quietNaN_any (w : World) :
    Calls Try.prog 17 #[] w fun e w' => e = .returned (.float .f64 quiet) ∧ w' = w := by
  go_enter Try.func17, Try.ntmps17
  go_wp2
  go_ret
  exact ⟨rfl, rfl⟩

theorem feq_zero (x : Nat) (hx : x < 18446744073709551616) : feq x 0 = decide (mg x = 0) := by
  have h := feq_rk x 0 hx (by omega)
  have e : rk 0 = 0 := by decide
  have n : isN 0 = false := by decide
  rw [h, e, n]
  cases hN : isN x
  · unfold rk
    cases ng x <;> simp
  · have := isN_true.1 hN
    have : ¬ mg x = 0 := by omega
    simp [this]

theorem magnitudeBits_at (x m : Nat) (w : World) (hx : x < 18446744073709551616) (hm : Hid (mg x = m)) :
    Calls Try.prog 24 #[.float .f64 x] w fun e w' => e = .returned (.int .u64 (m : Nat)) ∧ w' = w := by
  have := magnitudeBits_any x w hx
  rwa [hm.out] at this
set_option maxHeartbeats 1000000 in
set_option maxRecDepth 100000 in
theorem canon_any (x : Nat) (w : World) (hx : x < 18446744073709551616) :
    Calls Try.prog 9 #[.float .f64 x] w fun e w' => e = .returned (.float .f64 (canonB x)) ∧ w' = w := by
  have hc : Hid (canonB x = if isN x then quiet else if mg x = 0 then 0 else x) := rfl
  have hz := feq_zero x hx
  cases hN : isN x
  · have HN := hid hN
    by_cases c : mg x = 0
    · have H : Hid (mg x = 0) := c
      rw [c] at hz; simp only [decide_true] at hz
      clear c
      go_enter Try.func9, Try.ntmps9
      go_wp2_with (first | (go_at_call 16; refine (isNaN_any _ _ hx).mono ?_; rintro e w' ⟨rfl, rfl⟩) | (go_at_call 17; refine (quietNaN_any _).mono ?_; rintro e w' ⟨rfl, rfl⟩))
      go_ret
      exact ⟨ret_flt (by rw [hc.out, HN.out, H.out]; rfl), rfl⟩
    · simp only [c, decide_false] at hz
      go_enter Try.func9, Try.ntmps9
      go_wp2_with (first | (go_at_call 16; refine (isNaN_any _ _ hx).mono ?_; rintro e w' ⟨rfl, rfl⟩) | (go_at_call 17; refine (quietNaN_any _).mono ?_; rintro e w' ⟨rfl, rfl⟩))
      go_ret
      exact ⟨ret_flt (by rw [hc.out, HN.out, if_neg c]; rfl), rfl⟩
  · have HN := hid hN
    go_enter Try.func9, Try.ntmps9
    go_wp2_with (first | (go_at_call 16; refine (isNaN_any _ _ hx).mono ?_; rintro e w' ⟨rfl, rfl⟩) | (go_at_call 17; refine (quietNaN_any _).mono ?_; rintro e w' ⟨rfl, rfl⟩))
    go_ret
    exact ⟨ret_flt (by rw [hc.out, HN.out]; rfl), rfl⟩

end Go.Proofs.Ytgbaaafikphafaa

/-
  What Down, Ulp, Order, Max, Min and Between of package bits return, and the small helpers of the statements: walks over the program.
-/
namespace Go.Proofs.Ytgbaaafikphafaa
open Go.RowKit Tf
attribute [local go_sem] run_bits run_from raw_feq raw_fne raw_flt raw_fgt

theorem xor_lt (x : Nat) (h : x < 2 ^ 63) : x ^^^ 2 ^ 63 = x + 2 ^ 63 := by
  apply Nat.eq_of_testBit_eq
  intro i
  rw [Nat.testBit_xor, Nat.testBit_two_pow, Nat.add_comm x]
  by_cases c : i = 63
  · subst c
    rw [Nat.testBit_two_pow_add_eq]
    have : x.testBit 63 = false := Nat.testBit_lt_two_pow h
    simp [this]
  · by_cases c2 : i < 63
    · rw [Nat.testBit_two_pow_add_gt c2]
      have : ¬ 63 = i := by omega
      simp [this]
    · have h1 : x.testBit i = false := Nat.testBit_lt_two_pow (Nat.lt_of_lt_of_le h (Nat.pow_le_pow_right (by omega) (by omega)))
      have h2 : (2 ^ 63 + x).testBit i = false := Nat.testBit_lt_two_pow (Nat.lt_of_lt_of_le (show 2 ^ 63 + x < 2 ^ 64 by omega) (Nat.pow_le_pow_right (by omega) (by omega)))
      have : ¬ 63 = i := by omega
      rw [h1, h2]; simp [this]
theorem negFloat_eq (x : Nat) (hx : x < 18446744073709551616) : Op.negFloat .f64 x = negB x := by
  unfold Op.negFloat negB
  rw [show FloatKind.f64.format.exponentBits + FloatKind.f64.format.fractionBits = 63 from rfl]
  cases h : ng x
  · have := lt_of_ng h
    rw [xor_lt x (by omega)]; simp only [Bool.false_eq_true, if_false]
  · have := ge_of_ng h
    have e := xor_lt (x - 9223372036854775808) (by omega)
    rw [show x - 9223372036854775808 + 2 ^ 63 = x by omega] at e
    have e2 : x ^^^ 2 ^ 63 = x - 9223372036854775808 := by
      rw (occs := .pos [1]) [← e]
      rw [Nat.xor_assoc, Nat.xor_self, Nat.xor_zero]
    rw [e2]; simp only [if_true]
theorem run_neg (b : Nat) : Op.unary .neg (.float .f64 b) = pure (.float .f64 (Op.negFloat .f64 b)) := rfl
attribute [local go_sem] run_neg

theorem isN_negB (x : Nat) (hx : x < 18446744073709551616) : isN (negB x) = isN x := by
  unfold isN negB
  cases h : ng x
  · have := lt_of_ng h
    have e : mg (x + 9223372036854775808) = mg x := by unfold mg; omega
    simp [e]
  · have := ge_of_ng h
    have e : mg (x - 9223372036854775808) = mg x := by unfold mg; omega
    simp [e]

theorem feq_self_succ (m : Nat) (h : m < 9218868437227405312) : feq (m + 1) m = false := by
  rw [feq_rk (m + 1) m (by omega) (by omega)]
  unfold rk
  rw [ng_of_lt (show m + 1 < 9223372036854775808 by omega), ng_of_lt (show m < 9223372036854775808 by omega), mg_of_lt (show m + 1 < 9223372036854775808 by omega), mg_of_lt (show m < 9223372036854775808 by omega)]
  have : decide (((m + 1 : Nat) : Int) = (m : Int)) = false := by simp; omega
  simp only [Bool.false_eq_true, if_false, this, Bool.and_false]
theorem sub_top : Ieee.double.sub 9218868437227405312 9218868437227405311 = some 9218868437227405312 :=
  sub_inf_fin _ _ (by decide) (by decide) (by decide)

end Go.Proofs.Ytgbaaafikphafaa

/-
  What Order, Max, Min and Between of package bits return, and the small helpers of the statements: walks over the program.
-/
namespace Go.Proofs.Ytgbaaafikphafaa
open Go.RowKit Tf
attribute [local go_sem] run_bits run_from raw_feq raw_fne raw_flt raw_fgt run_neg

def sameB (a b : Nat) : Bool := decide (a = b)

set_option maxHeartbeats 400000 in
theorem rawSame_any (a b : Nat) (w : World) :
    Calls Try.prog 15 #[.float .f64 a, .float .f64 b] w fun e w' => e = .returned (.bool (sameB a b)) ∧ w' = w := by
  go_enter Try.func15, Try.ntmps15
  go_wp2
  go_ret
  refine ⟨ret_bool ?_, rfl⟩
  unfold sameB
  by_cases h : a = b
  · subst h; simp
  · have : ¬ (a : Int) = (b : Int) := by omega
    simp only [h, decide_false, beq_eq_false_iff_ne, ne_eq, this, not_false_eq_true]
set_option maxHeartbeats 400000 in
theorem order_at (a b p q : Nat) (w : World) (ha : a < 18446744073709551616) (hb : b < 18446744073709551616) (hp : Hid (placeB a = p)) (hq : Hid (placeB b = q)) :
    Calls Try.prog 18 #[.float .f64 a, .float .f64 b] w fun e w' => e = .returned (.int .i64 (if p < q then -1 else if q < p then 1 else 0)) ∧ w' = w := by
  have pa : ∀ w, Calls Try.prog 26 #[.float .f64 a] w fun e w' => e = .returned (.int .u64 (p : Nat)) ∧ w' = w := by
    intro w; rw [← hp.out]; exact place_any a w ha
  have pb : ∀ w, Calls Try.prog 26 #[.float .f64 b] w fun e w' => e = .returned (.int .u64 (q : Nat)) ∧ w' = w := by
    intro w; rw [← hq.out]; exact place_any b w hb
  have PA := hid pa
  have PB := hid pb
  clear pa pb
  by_cases c1 : p < q
  · rw [if_pos c1]
    go_enter Try.func18, Try.ntmps18
    go_wp2_with fail
    refine (PA.out _).mono ?_
    rintro e w' ⟨rfl, rfl⟩
    go_wp2_with fail
    refine (PB.out _).mono ?_
    rintro e w' ⟨rfl, rfl⟩
    go_wp2
    go_ret
    exact ⟨rfl, rfl⟩
  · rw [if_neg c1]
    by_cases c2 : q < p
    · rw [if_pos c2]
      go_enter Try.func18, Try.ntmps18
      go_wp2_with fail
      refine (PA.out _).mono ?_
      rintro e w' ⟨rfl, rfl⟩
      go_wp2_with fail
      refine (PB.out _).mono ?_
      rintro e w' ⟨rfl, rfl⟩
      go_wp2
      go_ret
      exact ⟨rfl, rfl⟩
    · rw [if_neg c2]
      go_enter Try.func18, Try.ntmps18
      go_wp2_with fail
      refine (PA.out _).mono ?_
      rintro e w' ⟨rfl, rfl⟩
      go_wp2_with fail
      refine (PB.out _).mono ?_
      rintro e w' ⟨rfl, rfl⟩
      go_wp2
      go_ret
      exact ⟨rfl, rfl⟩
theorem order_any (a b : Nat) (w : World) (ha : a < 18446744073709551616) (hb : b < 18446744073709551616) :
    Calls Try.prog 18 #[.float .f64 a, .float .f64 b] w fun e w' => e = .returned (.int .i64 (orderB a b)) ∧ w' = w :=
  order_at a b (placeB a) (placeB b) w ha hb rfl rfl
theorem orderB_at (a b : Nat) (o : Int) (w : World) (ha : a < 18446744073709551616) (hb : b < 18446744073709551616) (ho : Hid (orderB a b = o)) :
    Calls Try.prog 18 #[.float .f64 a, .float .f64 b] w fun e w' => e = .returned (.int .i64 o) ∧ w' = w := by
  rw [← ho.out]; exact order_any a b w ha hb

theorem orderB_lt (a b : Nat) : orderB a b < 0 ↔ placeB a < placeB b := by
  unfold orderB; split
  · simp_all
  · split <;> simp_all
theorem orderB_gt (a b : Nat) : 0 < orderB a b ↔ placeB b < placeB a := by
  unfold orderB; split
  · simp; omega
  · split <;> simp_all

set_option maxHeartbeats 400000 in
theorem max_any (a b : Nat) (w : World) (ha : a < 18446744073709551616) (hb : b < 18446744073709551616) :
    Calls Try.prog 12 #[.float .f64 a, .float .f64 b] w fun e w' => e = .returned (.float .f64 (maxB a b)) ∧ w' = w := by
  obtain ⟨r, hr⟩ : ∃ r, maxB a b = r := ⟨_, rfl⟩
  obtain ⟨o, ho⟩ : ∃ o, orderB a b = o := ⟨_, rfl⟩
  have h1 := orderB_lt a b
  rw [ho] at h1
  have HO : Hid (orderB a b = o) := ho
  have HR : Hid (r = if isN a || isN b then quiet else if o < 0 then b else a) := by
    show r = _
    rw [← hr]; unfold maxB; simp only [h1]
  rw [hr]
  clear hr ho h1
  cases nA : isN a
  · cases nB : isN b
    · have h := HR.out
      rw [nA, nB] at h
      simp only [Bool.or_self, Bool.false_eq_true, if_false] at h
      by_cases c : o < 0
      · have e1 : decide (o < 0) = true := by simp; omega
        rw [if_pos c] at h
        rw [h]
        clear c HR h
        go_enter Try.func12, Try.ntmps12
        go_wp2_with fail
        refine (isNaN_any a _ ha).mono ?_
        rintro e w' ⟨rfl, rfl⟩
        go_wp2_with fail
        refine (isNaN_any b _ hb).mono ?_
        rintro e w' ⟨rfl, rfl⟩
        go_wp2_with fail
        refine (orderB_at a b o _ ha hb HO).mono ?_
        rintro e w' ⟨rfl, rfl⟩
        go_wp2
        go_ret
        exact ⟨rfl, rfl⟩
      · have e1 : decide (o < 0) = false := by simp; omega
        rw [if_neg c] at h
        rw [h]
        clear c HR h
        go_enter Try.func12, Try.ntmps12
        go_wp2_with fail
        refine (isNaN_any a _ ha).mono ?_
        rintro e w' ⟨rfl, rfl⟩
        go_wp2_with fail
        refine (isNaN_any b _ hb).mono ?_
        rintro e w' ⟨rfl, rfl⟩
        go_wp2_with fail
        refine (orderB_at a b o _ ha hb HO).mono ?_
        rintro e w' ⟨rfl, rfl⟩
        go_wp2
        go_ret
        exact ⟨rfl, rfl⟩
    · have h := HR.out
      rw [nA, nB] at h
      simp only [Bool.or_true, if_true] at h
      rw [h]
      clear HR h
      go_enter Try.func12, Try.ntmps12
      go_wp2_with fail
      refine (isNaN_any a _ ha).mono ?_
      rintro e w' ⟨rfl, rfl⟩
      go_wp2_with fail
      refine (isNaN_any b _ hb).mono ?_
      rintro e w' ⟨rfl, rfl⟩
      go_wp2_with fail
      refine (quietNaN_any _).mono ?_
      rintro e w' ⟨rfl, rfl⟩
      go_wp2
      go_ret
      exact ⟨rfl, rfl⟩
  · have h := HR.out
    rw [nA] at h
    simp only [Bool.true_or, if_true] at h
    rw [h]
    clear HR h
    go_enter Try.func12, Try.ntmps12
    go_wp2_with fail
    refine (isNaN_any a _ ha).mono ?_
    rintro e w' ⟨rfl, rfl⟩
    go_wp2_with fail
    refine (quietNaN_any _).mono ?_
    rintro e w' ⟨rfl, rfl⟩
    go_wp2
    go_ret
    exact ⟨rfl, rfl⟩

theorem rk_bound (x : Nat) (h : isN x = false) : -9218868437227405312 ≤ rk x ∧ rk x ≤ 9218868437227405312 := by
  have := isN_false.1 h
  unfold rk; split <;> omega
theorem bet_none (a b : Nat) (h : isN a = true ∨ isN b = true) : betOk a b = false ∧ betB a b = 0 := by
  have : betOk a b = false := by unfold betOk; rcases h with h | h <;> simp [h]
  exact ⟨this, by unfold betB; rw [this]; rfl⟩
theorem bet_yes (a b : Nat) (ha : isN a = false) (hb : isN b = false) (h1 : -9223372036854775808 ≤ rk b - rk a) (h2 : rk b - rk a < 9223372036854775808) : betOk a b = true ∧ betB a b = rk b - rk a := by
  have : betOk a b = true := by unfold betOk betD; simp [ha, hb]; omega
  exact ⟨this, by unfold betB; rw [this]; rfl⟩
theorem bet_no (a b : Nat) (h1 : rk b - rk a < -9223372036854775808 ∨ 9223372036854775808 ≤ rk b - rk a) : betOk a b = false ∧ betB a b = 0 := by
  have : betOk a b = false := by unfold betOk betD; simp; omega
  exact ⟨this, by unfold betB; rw [this]; rfl⟩

/-- the NaN that an operation without an answer gives: its bits are drawn -/
def nanOf (w : World) (x y : Nat) : Nat := (Question.nanBits .f64 x y).cut (w.tape w.drawn (.nanBits .f64 x y))
theorem nanOf_lt (w : World) (x y : Nat) : nanOf w x y < 18446744073709551616 := by
  unfold nanOf Question.cut
  simp only []
  omega
theorem isN_nanOf (w : World) (x y : Nat) : isN (nanOf w x y) = true := by
  rw [isN_true]
  unfold nanOf Question.cut mg
  simp only []
  generalize w.tape w.drawn (Question.nanBits FloatKind.f64 x y) = t
  have hb : t / 2 % (2 ^ 52 - 1) < 2 ^ 52 - 1 := Nat.mod_lt _ (by omega)
  generalize t / 2 % (2 ^ 52 - 1) = b at *
  have ha : t % 2 = 0 ∨ t % 2 = 1 := by omega
  rcases ha with h | h <;> rw [h] <;> omega
theorem run_nan_sub {P : Program} (w : World) (t : TypeId) (x y : Nat) (h : Ieee.double.sub x y = none) :
    (binOp .sub t (.float .f64 x) (.float .f64 y)).run P w = .ok (.float .f64 (nanOf w x y)) w.drew := by
  have h' : FloatKind.f64.format.sub x y = none := h
  simp [binOp, Op.floatArith, h', nanOf, Question.forced]
theorem feq_nan (a b : Nat) (h : isN a = true ∨ isN b = true) : feq a b = false := by unfold feq; rw [order_nan a b h]; rfl
theorem flt_nan (a b : Nat) (h : isN a = true ∨ isN b = true) : flt a b = false := by unfold flt; rw [order_nan a b h]; rfl
theorem fgt_nan (a b : Nat) (h : isN a = true ∨ isN b = true) : fgt a b = false := by unfold fgt; rw [order_nan a b h]; rfl

end Go.Proofs.Ytgbaaafikphafaa

/-
  What Sum of package twin returns: walks over the program.
-/
namespace Go.Proofs.Ytgbaaafikphafaa
open Go.RowKit Tf
attribute [local go_sem] run_bits run_from raw_feq raw_fne raw_flt raw_fgt

theorem run_nan_add {P : Program} (w : World) (t : TypeId) (x y : Nat) (h : Ieee.double.add x y = none) :
    (binOp .add t (.float .f64 x) (.float .f64 y)).run P w = .ok (.float .f64 (nanOf w x y)) w.drew := by
  have h' : FloatKind.f64.format.add x y = none := h
  simp [binOp, Op.floatArith, h', nanOf, Question.forced]
theorem run_nan_mul {P : Program} (w : World) (t : TypeId) (x y : Nat) (h : Ieee.double.mul x y = none) :
    (binOp .mul t (.float .f64 x) (.float .f64 y)).run P w = .ok (.float .f64 (nanOf w x y)) w.drew := by
  have h' : FloatKind.f64.format.mul x y = none := h
  simp [binOp, Op.floatArith, h', nanOf, Question.forced]

theorem rk_pos (m : Nat) (h : m < 9223372036854775808) : rk m = m := by
  unfold rk; rw [ng_of_lt h, if_neg (by decide), mg_of_lt h]
/-- a magnitude against a finite one -/
theorem fle_mg (m c : Nat) (h : m < 9223372036854775808) (hc : c < 9218868437227405312) : (flt m c || feq m c) = decide (m ≤ c) := by
  rw [flt_rk m c (by omega) (by omega), feq_rk m c (by omega) (by omega), rk_pos m h, rk_pos c (by omega)]
  have h2 : isN c = false := isN_false.2 (by rw [mg_of_lt (by omega)]; omega)
  rw [h2]
  by_cases n : isN m = true
  · have := isN_true.1 n
    rw [mg_of_lt h] at this
    rw [n, Bool.eq_iff_iff]; simp; omega
  · have n' : isN m = false := by simpa using n
    rw [n', Bool.eq_iff_iff]; simp; omega
theorem fge_mg (m c : Nat) (h : m < 9223372036854775808) (hc : c < 9218868437227405312) : (fgt m c || feq m c) = (!isN m && decide (c ≤ m)) := by
  rw [fgt_rk m c (by omega) (by omega), feq_rk m c (by omega) (by omega), rk_pos m h, rk_pos c (by omega)]
  have h2 : isN c = false := isN_false.2 (by rw [mg_of_lt (by omega)]; omega)
  rw [h2]
  cases isN m
  · rw [Bool.eq_iff_iff]; simp; omega
  · simp
theorem flt_mg (a b : Nat) (ha : a < 9223372036854775808) (hb : b < 9223372036854775808) (na : isN a = false) (nb : isN b = false) : flt a b = decide (a < b) := by
  rw [flt_rk a b (by omega) (by omega), rk_pos a ha, rk_pos b hb, na, nb, Bool.eq_iff_iff]; simp

theorem canon_to (x r : Nat) (w : World) (hx : x < 18446744073709551616) (hr : canonB x = r) :
    Calls Try.prog 9 #[.float .f64 x] w fun e w' => e = .returned (.float .f64 r) ∧ w' = w := by
  subst hr; exact canon_any x w hx

theorem addB_comm_fin (a b : Nat) (ha : a < 18446744073709551616) (hb : b < 18446744073709551616) (fa : mg a < 9218868437227405312) (fb : mg b < 9218868437227405312) : Ieee.double.add a b = Ieee.double.add b a := by
  rw [add_d a b ha hb fa fb, add_d b a hb ha fb fa, Int.add_comm, Bool.and_comm]

end Go.Proofs.Ytgbaaafikphafaa

/-
  That the statements' own test of life answers true; each contract once more at a named answer: walks over the program.
-/
namespace Go.Proofs.Ytgbaaafikphafaa
open Go.RowKit Tf
attribute [local go_sem] run_bits run_from raw_feq raw_fne raw_flt raw_fgt run_neg

theorem canon_at (x : Nat) (r : Nat) (w : World) (hx : x < 18446744073709551616) (hr : canonB x = r) :
    Calls Try.prog 9 #[.float .f64 x] w fun e w' => e = .returned (.float .f64 r) ∧ w' = w := by
  subst hr; exact canon_any x w hx
theorem ord_at (a b : Nat) (r : Int) (w : World) (ha : a < 18446744073709551616) (hb : b < 18446744073709551616) (hr : orderB a b = r) :
    Calls Try.prog 18 #[.float .f64 a, .float .f64 b] w fun e w' => e = .returned (.int .i64 r) ∧ w' = w := by
  subst hr; exact order_any a b w ha hb
theorem max_at (a b : Nat) (r : Nat) (w : World) (ha : a < 18446744073709551616) (hb : b < 18446744073709551616) (hr : maxB a b = r) :
    Calls Try.prog 12 #[.float .f64 a, .float .f64 b] w fun e w' => e = .returned (.float .f64 r) ∧ w' = w := by
  subst hr; exact max_any a b w ha hb
end Go.Proofs.Ytgbaaafikphafaa

/-
  Sums from the left: walks over the program.
-/
namespace Go.Proofs.Ytgbaaafikphafaa
open Go.RowKit Tf
attribute [local go_sem] run_bits run_from raw_feq raw_fne raw_flt raw_fgt run_neg

/-- one addition, whatever comes of it -/
theorem add_any {P : Program} (w : World) (s q x y : Nat) (h : IsQ s q) (k : IsQ x y) : ∃ r n, (∀ t, (binOp .add t (.float .f64 s) (.float .f64 x)).run P w = .ok (.float .f64 r) (w.drewN n)) ∧ IsQ r (plB q y) := by
  cases e : Ieee.double.add s x with
  | none => exact ⟨nanOf w s x, 1, fun t => run_nan_add w t s x e, h.nan k e (nanOf_lt _ _ _) (isN_nanOf _ _ _)⟩
  | some r => exact ⟨r, 0, fun t => run_float_arith w .add t .f64 s x r e, h.add k e⟩
theorem feq_selfq (x : Nat) (hx : x < 18446744073709551616) : feq x x = !isN x := by
  rw [feq_rk x x hx hx]
  cases isN x <;> simp
/-- A LIST OF FLOATS -/
def IsFl (w : World) (a0 : Option Addr) (len : Nat) (xs : Nat → Nat) : Prop := ∀ k, k < len → xs k < 18446744073709551616 ∧ ∃ b o, a0 = some ⟨b, o, none⟩ ∧ b < w.heap.size ∧ w.cell? ⟨b, o + k, none⟩ = some (.float .f64 (xs k))
theorem IsFl.below {w w' : World} {a0 : Option Addr} {len : Nat} {xs : Nat → Nat} (h : IsFl w a0 len xs) (hb : Below w.heap.size w w') : IsFl w' a0 len xs := by
  intro k hk
  obtain ⟨h1, b, o, h2, h3, h4⟩ := h k hk
  exact ⟨h1, b, o, h2, Nat.lt_of_lt_of_le h3 hb.size, by rw [hb.cell (p := ⟨b, o + k, none⟩) h3]; exact h4⟩
end Go.Proofs.Ytgbaaafikphafaa

/-
  Sums by pairs: walks over the program.
-/
namespace Go.Proofs.Ytgbaaafikphafaa
open Go.RowKit Tf
attribute [local go_sem] run_bits run_from raw_feq raw_fne raw_flt raw_fgt run_neg

/-- a list that was laid just now -/
theorem fl_new (w : World) (T : TypeId) (c : Array Value) (xs : Nat → Nat) (n : Nat) (h : ∀ k, k < n → xs k < 18446744073709551616 ∧ c[k]? = some (.float .f64 (xs k))) : IsFl (w.alloc (.cells c T)) (some ⟨w.heap.size, 0, none⟩) n xs := by
  intro k hk
  refine ⟨(h k hk).1, w.heap.size, 0, rfl, by simp, ?_⟩
  rw [Nat.zero_add]
  have := (h k hk).2
  simp [this]
end Go.Proofs.Ytgbaaafikphafaa

/-
  Careful sums, and sums of three: walks over the program.
-/
namespace Go.Proofs.Ytgbaaafikphafaa
open Go.RowKit Tf
attribute [local go_sem] run_bits run_from raw_feq raw_fne raw_flt raw_fgt run_neg

theorem place_mg (x : Nat) : placeB (mg x) = mg x + 9223372036854775808 := by
  unfold placeB; rw [ng_of_lt (mg_lt x)]; rfl
theorem order_mg (a b : Nat) : orderB (mg a) (mg b) = if mg a < mg b then -1 else if mg b < mg a then 1 else 0 := by
  unfold orderB
  rw [place_mg, place_mg]
  by_cases h1 : mg a < mg b
  · rw [if_pos (by omega), if_pos h1]
  · rw [if_neg (by omega), if_neg h1]
    by_cases h2 : mg b < mg a
    · rw [if_pos (by omega), if_pos h2]
    · rw [if_neg (by omega), if_neg h2]
theorem key_lt (a b : Nat) (ha : a < 18446744073709551616) (hb : b < 18446744073709551616) : key b < key a ↔ mg b < mg a ∨ (mg a = mg b ∧ placeB b < placeB a) := by
  have h1 := word_eq a ha
  have h2 := word_eq b hb
  have h3 := mg_lt a
  have h4 := mg_lt b
  unfold key placeB
  revert h1 h2
  cases ng a <;> cases ng b <;> simp <;> omega
theorem lo_lt {a b : Nat} (ha : a < 18446744073709551616) (hb : b < 18446744073709551616) : loB a b < 18446744073709551616 := by unfold loB; split <;> assumption
theorem hi_lt {a b : Nat} (ha : a < 18446744073709551616) (hb : b < 18446744073709551616) : hiB a b < 18446744073709551616 := by unfold hiB; split <;> assumption
end Go.Proofs.Ytgbaaafikphafaa

/-
  What Split, Product and Add of package twin return: walks over the program.
-/
namespace Go.Proofs.Ytgbaaafikphafaa
open Go.RowKit Tf
attribute [local go_sem] run_bits run_from raw_feq raw_fne raw_flt raw_fgt

theorem mul_ok (a b p : Nat) (ha : a < 18446744073709551616) (hb : b < 18446744073709551616) (h : Ieee.double.mul a b = some p) : p < 18446744073709551616 ∧ isN p = false := by
  rcases mul_cases a b ha hb with ⟨fa, fb⟩ | h' | ⟨s, h'⟩
  · have hm := mul_d a b ha hb fa fb
    rw [h] at hm
    have hm := Option.some.inj hm
    have hl : min (rung 52 1074 (mv (mg a) * mv (mg b))) 9218868437227405312 ≤ 9218868437227405312 := Nat.min_le_right _ _
    generalize min (rung 52 1074 (mv (mg a) * mv (mg b))) 9218868437227405312 = q at *
    rw [hm, isN_false]
    cases (ng a ^^ ng b)
    · simp only [Bool.false_eq_true, if_false]; exact ⟨by omega, by rw [mg_of_lt (by omega)]; exact hl⟩
    · simp only [if_true]; exact ⟨by omega, by rw [mg_of_ge (by omega) (by omega)]; omega⟩
  · rw [h] at h'; cases h'
  · rw [h] at h'
    obtain rfl := Option.some.inj h'
    exact ⟨infW_lt s, isN_false.2 (by rw [infW_mg]; omega)⟩
theorem mg_canon (s : Nat) (n : isN s = false) : mg (canonB s) = mg s := by
  unfold canonB
  rw [n, if_neg (by decide)]
  by_cases c : mg s = 0
  · rw [if_pos c, c]; rfl
  · rw [if_neg c]

end Go.Proofs.Ytgbaaafikphafaa

/-
  The small helpers of the statements on twin, and that their own test of life answers true: walks over the program.
-/
namespace Go.Proofs.Ytgbaaafikphafaa
open Go.RowKit Tf
attribute [local go_sem] run_bits run_from raw_feq raw_fne raw_flt raw_fgt run_neg

theorem aw1 : addB 4591870180066957722 4596373779694328218 = 4599075939470750516 := by decide +kernel
theorem aw2 : sumE 4591870180066957722 4596373779694328218 = 13582856476149415936 := by decide +kernel
theorem aw3 : splitH 4728779608772575232 = 4728779608739020800 := by decide +kernel
theorem aw4 : splitL 4728779608772575232 = 4607182418800017408 := by decide +kernel
theorem aw5 : mulB 4591870180066957722 4613937818241073152 = 4599075939470750516 := by decide +kernel
theorem aw6 : prodE 4591870180066957722 4613937818241073152 = 13582856476149415936 := by decide +kernel
theorem rawSame_refl (x : Nat) (w : World) :
    Calls Try.prog 15 #[.float .f64 x, .float .f64 x] w fun e w' => e = .returned (.bool true) ∧ w' = w := by
  have h := rawSame_any x x w
  have hs : sameB x x = true := by unfold sameB; simp
  rwa [hs] at h
theorem canon_canon (x : Nat) (_hx : x < 18446744073709551616) : canonB (canonB x) = canonB x := by
  unfold canonB
  by_cases c : isN x = true
  · rw [if_pos c]; decide
  · rw [if_neg c]
    by_cases c2 : mg x = 0
    · rw [if_pos c2]; decide
    · rw [if_neg c2, if_neg c, if_neg c2]
theorem canon_rnf (v : Int) : canonB (rn false v) = rn false v := canon_rn false v
theorem canon_addB (a b : Nat) (ha : a < 18446744073709551616) (hb : b < 18446744073709551616) : canonB (addB a b) = addB a b := by
  rcases add_cases a b ha hb with ⟨h1, h2⟩ | h | ⟨s, h⟩
  · rw [addB_fin a b ha hb h1 h2, canon_rnf]
  · rw [addB_none h]; decide
  · rw [addB_some h, infW_canon, infW_canon]
theorem canon_zero : canonB 0 = 0 := by decide
theorem canon_sumE (a b : Nat) : canonB (sumE a b) = sumE a b := by
  unfold sumE; split
  · exact canon_rnf _
  · exact canon_zero
theorem canon_mulB (a b : Nat) (ha : a < 18446744073709551616) (hb : b < 18446744073709551616) : canonB (mulB a b) = mulB a b := by
  cases h : Ieee.double.mul a b with
  | none => rw [mulB_none h]; decide
  | some p => rw [mulB_some h, canon_canon p (mul_ok a b p ha hb h).1]
theorem canon_prodE (a b : Nat) : canonB (prodE a b) = prodE a b := by
  unfold prodE; split
  · exact canon_rnf _
  · exact canon_zero
theorem mulB_lt (a b : Nat) (ha : a < 18446744073709551616) (hb : b < 18446744073709551616) : mulB a b < 18446744073709551616 := by
  cases h : Ieee.double.mul a b with
  | none => rw [mulB_none h]; decide
  | some p => rw [mulB_some h]; exact canonB_lt (mul_ok a b p ha hb h).1
end Go.Proofs.Ytgbaaafikphafaa

/-
  What the reference's calls of layer 1 return: walks over the program.
-/
namespace Go.Proofs.Ytgbaaafikphafaa
open Go.RowKit Tf
attribute [local go_sem] run_bits run_from raw_feq raw_fne raw_flt raw_fgt run_neg
end Go.Proofs.Ytgbaaafikphafaa

/-
  The reference's order of floats and its sum of three: walks over the program.
-/
namespace Go.Proofs.Ytgbaaafikphafaa
open Go.RowKit Tf
attribute [local go_sem] run_bits run_from raw_feq raw_fne raw_flt raw_fgt run_neg

end Go.Proofs.Ytgbaaafikphafaa

/-
  One operation on floats, whatever comes of it; squares, areas, roots, and vectors in the one form: walks over the program.
-/
namespace Go.Proofs.Ytgbaaafikphafaa
open Go.RowKit Tf
theorem run_store_float {P : Program} {w : World} {a : Addr} {m : Mode} (k : FloatKind) (x : Nat) : (store a (.float k x) m).run P w = stored P w a (.float k x) m := run_store P w a _ m rfl
attribute [local go_sem] run_bits run_from raw_feq raw_fne raw_flt raw_fgt run_neg run_store_float
theorem mul_ql (a b : Nat) : Ieee.double.mul (qB a) b = Ieee.double.mul a b := by
  cases h : isN a
  · rw [qB_of h]
  · rw [mul_nan a b (.inl h), mul_nan _ _ (.inl (by rw [qB_isN]; exact h))]
theorem mul_qr (a b : Nat) : Ieee.double.mul a (qB b) = Ieee.double.mul a b := by rw [Go.Proofs.Ytgbaaafikphafaa.mul_comm, mul_ql, Go.Proofs.Ytgbaaafikphafaa.mul_comm]
theorem mul_any {P : Program} (w : World) (s q x y : Nat) (h : IsQ s q) (k : IsQ x y) : ∃ r n, (∀ t, (binOp .mul t (.float .f64 s) (.float .f64 x)).run P w = .ok (.float .f64 r) (w.drewN n)) ∧ IsQ r (mlB q y) := by
  have e0 : mlB q y = mlB s x := by unfold mlB; rw [← h.2, ← k.2, mul_ql, mul_qr]
  rw [e0]
  cases e : Ieee.double.mul s x with
  | none => exact ⟨nanOf w s x, 1, fun t => run_nan_mul w t s x e, nanOf_lt _ _ _, by rw [mlB_none e]; exact qB_N (isN_nanOf _ _ _)⟩
  | some r => exact ⟨r, 0, fun t => run_float_arith w .mul t .f64 s x r e, (mul_fact e h.1 k.1).1, by rw [mlB_some e]; exact qB_of (mul_fact e h.1 k.1).2⟩
theorem negB_q {x : Nat} (hx : x < 18446744073709551616) (h : isN x = false) : isN (negB x) = false := by rw [negB_isN hx]; exact h
theorem addB_q {a b c d : Nat} (hb : b < 18446744073709551616) (hd : d < 18446744073709551616) (h : qB a = qB c) (k : qB b = qB d) : addB a (negB b) = addB c (negB d) := by
  cases h1 : isN a
  · have h2 : isN c = false := by rw [← qB_isN, ← h, qB_isN]; exact h1
    rw [qB_of h1, qB_of h2] at h
    subst h
    cases h3 : isN b
    · have h4 : isN d = false := by rw [← qB_isN, ← k, qB_isN]; exact h3
      rw [qB_of h3, qB_of h4] at k
      rw [k]
    · have h4 : isN d = true := by rw [← qB_isN, ← k, qB_isN]; exact h3
      rw [addB_none (add_nan _ _ (.inr (by rw [negB_isN hb]; exact h3))), addB_none (add_nan _ _ (.inr (by rw [negB_isN hd]; exact h4)))]
  · have h2 : isN c = true := by rw [← qB_isN, ← h, qB_isN]; exact h1
    rw [addB_none (add_nan _ _ (.inl h1)), addB_none (add_nan _ _ (.inl h2))]
/-- a word whose one form is q -/
def IsC (s q : Nat) : Prop := s < 18446744073709551616 ∧ canonB s = q
theorem sub_any {P : Program} (w : World) (s q x y : Nat) (h : IsQ s q) (k : IsQ x y) : ∃ r n, (∀ t, (binOp .sub t (.float .f64 s) (.float .f64 x)).run P w = .ok (.float .f64 r) (w.drewN n)) ∧ IsC r (sbB q y) := by
  have e0 : sbB q y = addB s (negB x) := addB_q k.lt k.1 (by rw [← h.2, qB_qB]) (by rw [← k.2, qB_qB])
  rw [e0]
  have ea := sub_add s x k.1
  cases e : Ieee.double.sub s x with
  | none =>
    refine ⟨nanOf w s x, 1, fun t => run_nan_sub w t s x e, nanOf_lt _ _ _, ?_⟩
    rw [addB_none (by rw [← ea]; exact e)]
    unfold canonB; rw [if_pos (isN_nanOf _ _ _)]
  | some r =>
    rw [e] at ea
    exact ⟨r, 0, fun t => run_float_arith w .sub t .f64 s x r e, (add_facts h.1 (negB_lt' k.1) ea.symm).1, by rw [addB_some ea.symm]⟩
theorem run_nan_div {P : Program} (w : World) (t : TypeId) (x y : Nat) (h : Ieee.double.div x y = none) :
    (binOp .quo t (.float .f64 x) (.float .f64 y)).run P w = .ok (.float .f64 (nanOf w x y)) w.drew := by
  have h' : FloatKind.f64.format.div x y = none := h
  simp [binOp, Op.floatArith, h', nanOf, Question.forced]
theorem div_lt {x y r : Nat} (h : Ieee.double.div x y = some r) : r < 18446744073709551616 := Ieee.Format.div_lt Ieee.double h
theorem div_any {P : Program} (w : World) (s x : Nat) : ∃ r n, (∀ t, (binOp .quo t (.float .f64 s) (.float .f64 x)).run P w = .ok (.float .f64 r) (w.drewN n)) ∧ IsC r (dvB s x) := by
  cases e : Ieee.double.div s x with
  | none => exact ⟨nanOf w s x, 1, fun t => run_nan_div w t s x e, nanOf_lt _ _ _, by rw [dvB_none e]; unfold canonB; rw [if_pos (isN_nanOf _ _ _)]⟩
  | some r => exact ⟨r, 0, fun t => run_float_arith w .quo t .f64 s x r e, div_lt e, by rw [dvB_some e]⟩
theorem sqrt_lt {x r : Nat} (h : Ieee.double.sqrt x = some r) : r < 18446744073709551616 := Ieee.Format.sqrt_lt Ieee.double h
end Go.Proofs.Ytgbaaafikphafaa

/-
  Differences, cross products, lengths, units and gaps of vectors: walks over the program.
-/
namespace Go.Proofs.Ytgbaaafikphafaa
open Go.RowKit Tf
attribute [local go_sem] run_bits run_from raw_feq raw_fne raw_flt raw_fgt run_neg run_store_float
theorem sbB_q {a b : Nat} (hb : b < 18446744073709551616) : sbB (qB a) (qB b) = sbB a b := addB_q (qB_lt hb) hb (qB_qB a) (qB_qB b)
theorem Abx.drewN {W w : World} {g n : Nat} {T : TypeId} (h : Abx W g n T w) (k : Nat) : Abx W g n T (w.drewN k) := h
theorem W3rows (w : World) (A B C : Obj) : (((w.alloc A).alloc B).alloc C).heap[w.heap.size]? = some A ∧ (((w.alloc A).alloc B).alloc C).heap[w.heap.size + 1]? = some B ∧ (((w.alloc A).alloc B).alloc C).heap[w.heap.size + 1 + 1]? = some C := by
  refine ⟨?_, ?_, heap_alloc3_new _ _ _ _⟩
  · rw [Below.heap_alloc _ _ _ (by simp; omega)]; exact heap_alloc2_old _ _ _
  · rw [Below.heap_alloc _ _ _ (by simp)]; exact heap_alloc2_new _ _ _
end Go.Proofs.Ytgbaaafikphafaa

/-
  Units of vectors: walks over the program.
-/
namespace Go.Proofs.Ytgbaaafikphafaa
open Go.RowKit Tf
attribute [local go_sem] run_bits run_from raw_feq raw_fne raw_flt raw_fgt run_neg run_store_float
/-- is it a length by which a vector is divided? -/
def lvB (l : Nat) : Bool := fgt l 0 && !fgt l 9218868437227405311
def unB (l x : Nat) : Nat := if lvB l = true then dvB x l else 0
theorem unB_lt (l x : Nat) : unB l x < 18446744073709551616 := by
  unfold unB
  split
  · unfold dvB
    split
    · next r h => exact canon_lt (div_lt h)
    · decide
  · decide
theorem unB_canon (l x : Nat) : canonB (unB l x) = unB l x := by
  unfold unB
  split
  · exact dvB_canon x l
  · decide
end Go.Proofs.Ytgbaaafikphafaa

/-
  A region that draws its order and holds calls that make memory: one walk for all orders (no program).
-/
namespace Go.Proofs.Ytgbaaafikphafaa
open Go.RowKit
/-- the worlds in which all blocks of w are as they were, under one name -/
theorem cls (w : World) : ∃ (U : Type) (F : U → World), (∀ u, Ab w (F u)) ∧ (∀ w', Ab w w' → ∃ u, w' = F u) :=
  ⟨{u : World // Ab w u}, Subtype.val, fun u => u.2, fun w' h => ⟨⟨w', h⟩, rfl⟩⟩
theorem region_cls {P : Program} {id : Nat} {Q : Exit → Act → World → Prop} {a : Act} {w : World} {l : List Oper} {U : Type} (F : U → World) (hm : P.follows .mixedOrders = true) (hB : Region.lexB .any l.toArray = true)
    (hC : ∃ u, w.drew = F u)
    (h : wpQuiet P l.toArray (fun w' => ∃ u, w' = F u) (fun a' => ∀ w', (∃ u, w' = F u) → Q .normal a' w') l a) : (Code.region id l.toArray true).wp P Q a w :=
  wp_region_quiet (C := fun w' => ∃ u, w' = F u) hm hB hC (by simpa using h)
/-- a callee's contract, met in such a world -/
theorem calls_cls {P : Program} {f : FuncId} {args : Array Value} {U : Type} {F : U → World} {u : U} {v : Value} {w0 : World} (hF : Hid (∀ w', Ab w0 w' → ∃ u, w' = F u)) (hF1 : Hid (∀ u, Ab w0 (F u)))
    (h : Calls P f args (F u) fun e w' => e = .returned v ∧ Below (F u).heap.size (F u) w') : Calls P f args (F u) fun e w'' => e = .returned v ∧ ∃ u, w'' = F u :=
  h.mono fun _ _ ⟨he, hb⟩ => ⟨he, hF.out _ ((hF1.out u).call hb)⟩
end Go.Proofs.Ytgbaaafikphafaa

/-
  The small helpers of the statements on vectors: walks over the program.
-/
namespace Go.Proofs.Ytgbaaafikphafaa
open Go.RowKit Tf
attribute [local go_sem] run_bits run_from raw_feq raw_fne raw_flt raw_fgt run_neg run_store_float
end Go.Proofs.Ytgbaaafikphafaa

/-
  The program is awake: a walk over it.
-/
namespace Go.Proofs.Ytgbaaafikphafaa
open Go.RowKit Tf
theorem lv_v1 : lnB 4613937818241073152 4616189618054758400 0 = 4617315517961601024 := by decide +kernel
theorem lv_v2 : sbB (mlB 0 0) (mlB 0 4607182418800017408) = 0 := by decide +kernel
theorem lv_v3 : sbB (mlB 0 0) (mlB 4607182418800017408 0) = 0 := by decide +kernel
theorem lv_v4 : sbB (mlB 4607182418800017408 4607182418800017408) (mlB 0 0) = 4607182418800017408 := by decide +kernel
theorem lv_v5 : unB (lnB 13835058055282163712 0 0) 13835058055282163712 = 13830554455654793216 := by decide +kernel
theorem lv_v6 : unB (lnB 13835058055282163712 0 0) 0 = 0 := by decide +kernel
theorem lv_v7 : lnB (sbB 4607182418800017408 4607182418800017408) (sbB 4611686018427387904 4611686018427387904) (sbB 4613937818241073152 4617315517961601024) = 4611686018427387904 := by decide +kernel
theorem lv_v8 : sbB 4607182418800017408 4613937818241073152 = 13835058055282163712 := by decide +kernel
theorem lv_v9 : sbB 4611686018427387904 4611686018427387904 = 0 := by decide +kernel
theorem lv_v10 : sbB 4613937818241073152 4607182418800017408 = 4611686018427387904 := by decide +kernel
end Go.Proofs.Ytgbaaafikphafaa

/-
  The reference's differences, cross products, lengths, units and gaps of vectors: walks over the program.
-/
namespace Go.Proofs.Ytgbaaafikphafaa
open Go.RowKit Tf
attribute [local go_sem] run_bits run_from raw_feq raw_fne raw_flt raw_fgt run_neg run_store_float
end Go.Proofs.Ytgbaaafikphafaa

/-
  The reference's units of vectors, and lengths that a vector is divided by: walks over the program.
-/
namespace Go.Proofs.Ytgbaaafikphafaa
open Go.RowKit Tf
attribute [local go_sem] run_bits run_from raw_feq raw_fne raw_flt raw_fgt run_neg run_store_float
open Ieee in
theorem rtB_ng (x : Nat) : ng (rtB x) = false := by
  have key : ∀ r, double.sqrt x = some r → ng (canonB r) = false := by
    intro r h
    unfold Format.sqrt at h
    cases e : double.read x with
    | nan s f => rw [e] at h; simp [Datum.root] at h
    | infinity s =>
      rw [e] at h
      cases s
      · simp [Datum.root, Format.write] at h; subst h; decide
      · simp [Datum.root] at h
    | number s m i =>
      rw [e] at h
      unfold Datum.root at h
      dsimp only at h
      by_cases hm : m = 0
      · rw [if_pos hm] at h
        simp only [Option.map_some, Option.some.injEq, Format.write, Format.nearest, hm, if_true] at h
        subst h
        cases s <;> decide
      · rw [if_neg hm] at h
        cases s
        · simp only [Bool.false_eq_true, if_false, Option.map_some, Option.some.injEq, Format.write] at h
          subst h
          have hw : ∀ a b, double.nearest false a b ≤ 9218868437227405312 := by
            intro a b
            unfold Format.nearest
            split
            · rw [d_word]; simp
            · rw [d_word, d_inf]; simp only [Bool.false_eq_true, if_false]; exact Nat.min_le_right _ _
          generalize hq : double.nearest false _ _ = q
          have hle : q ≤ 9218868437227405312 := by rw [← hq]; exact hw _ _
          unfold canonB
          split
          · decide
          · split
            · decide
            · exact ng_of_lt (by omega)
        · simp at h
  cases h : double.sqrt x with
  | none => rw [rtB_none h]; decide
  | some r => rw [rtB_some h]; exact key r h
theorem rtB_lt (x : Nat) : rtB x < 18446744073709551616 := by
  cases h : Ieee.double.sqrt x with
  | none => rw [rtB_none h]; decide
  | some r => rw [rtB_some h]; exact canon_lt (sqrt_lt h)
/-- of a length: lives, or what class it has -/
theorem lv_class {l : Nat} (hl : l < 18446744073709551616) (hn : ng l = false) : lvB l = (classB l == 1 || classB l == 2) := by
  unfold lvB
  rw [fgt_rk l 0 hl (by decide), fgt_rk l _ hl (by decide)]
  have e1 : rk 0 = 0 := by decide
  have e2 : rk 9218868437227405311 = 9218868437227405311 := by decide
  have e3 : isN 0 = false := by decide
  have e4 : isN 9218868437227405311 = false := by decide
  have e5 : rk l = (mg l : Int) := by unfold rk; rw [hn]; rfl
  rw [e1, e2, e3, e4, e5]
  unfold classB isN
  by_cases a : mg l = 0
  · simp [a]
  · rw [if_neg a]
    by_cases b : mg l < 4503599627370496
    · rw [if_pos b]
      have : ¬ 9218868437227405312 < mg l := by omega
      simp [this]; omega
    · rw [if_neg b]
      by_cases c : mg l < 9218868437227405312
      · rw [if_pos c]
        have : ¬ 9218868437227405312 < mg l := by omega
        simp [this]; omega
      · rw [if_neg c]
        by_cases d : mg l = 9218868437227405312
        · rw [if_pos d]; simp [d]
        · rw [if_neg d]
          have : 9218868437227405312 < mg l := by omega
          simp [this]
end Go.Proofs.Ytgbaaafikphafaa
