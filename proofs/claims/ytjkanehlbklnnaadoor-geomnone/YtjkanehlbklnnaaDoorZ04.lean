/-
  Some of the texts of this proof, one behind the other.
-/
import Derived.WalkKit
import Derived.Below
import Derived.Deep.Draws
import Derived.Deep.RegionHeld3
import Derived.Test.YtjkanehlbklnnaaDoorRows
import Derived.Test.YtjkanehlbklnnaaDoorZ00
import Derived.Test.YtjkanehlbklnnaaDoorZ02
import Derived.Deep.RegionWith
import Derived.BigQuiet
import Derived.Test.YtjkanehlbklnnaaDoorZ03
import Derived.Deep.QuietTactic
import Derived.Deep.Quiet
import Derived.Deep.MidRow
import Derived.Deep.Cut
import Derived.Deep.CutRange
/-
  What lies in memory, and what a call leaves as it was (no program).
-/
namespace Go.Proofs.YtjkanehlbklnnaaDoor
open Go.RowKit
theorem hid {p : Prop} (h : p) : Hid p := h
theorem heap_alloc3_new (w : World) (A B C : Obj) : (((w.alloc A).alloc B).alloc C).heap[w.heap.size + 2]? = some C := by
  have h := heap_alloc_new ((w.alloc A).alloc B) C
  have e : ((w.alloc A).alloc B).heap.size = w.heap.size + 2 := by
    show ((w.heap.push A).push B).size = _
    simp
  rwa [e] at h
theorem bl1 (w : World) (A : Obj) : Below w.heap.size w (w.alloc A) := (Below.refl _ _).alloc (Nat.le_refl _) _
theorem bl2 (w : World) (A B : Obj) : Below w.heap.size w ((w.alloc A).alloc B) := (bl1 w A).alloc (by simp) _
theorem bl3 (w : World) (A B C : Obj) : Below w.heap.size w (((w.alloc A).alloc B).alloc C) := (bl2 w A B).alloc (by simp; omega) _
/-- all blocks of W are in w as they were -/
def Ab (W w : World) : Prop := Below W.heap.size W w
theorem Ab.refl (W : World) : Ab W W := Below.refl _ _
theorem Ab.size {W w : World} (h : Ab W w) : W.heap.size ≤ w.heap.size := Below.size h
theorem Ab.drew {W w : World} (h : Ab W w) : Ab W w.drew := Below.drew h
theorem Ab.alloc {W w : World} (h : Ab W w) (o : Obj) : Ab W (w.alloc o) := Below.alloc h h.size o
theorem Ab.call {W u w : World} (h : Ab W u) (b : Below u.heap.size u w) : Ab W w := h.trans (b.mono h.size)
theorem Ab.set {W w : World} (h : Ab W w) {p : Addr} (hp : W.heap.size ≤ p.block) (u : Value) : Ab W (w.setCell p u) := Below.setCell h hp u
theorem Ab.heap {W w : World} (h : Ab W w) {g : Nat} {o : Obj} (hg : W.heap[g]? = some o) : w.heap[g]? = some o := by
  have hlt : g < W.heap.size := by
    rcases Nat.lt_or_ge g W.heap.size with h1 | h1
    · exact h1
    · rw [Array.getElem?_eq_none h1] at hg; cases hg
  exact (Below.block h g hlt).trans hg
theorem free_row {w : World} {g : Nat} {cs : Array Value} {T : TypeId} (h : w.heap[g]? = some (.cells cs T (0, 0))) (k : Nat) : w.frozen? ⟨g, k, none⟩ = false := by
  simp [World.frozen?, h]
theorem heap_at (w : World) (o : Obj) (k : Nat) (h : k = w.heap.size) : (w.alloc o).heap[k]? = some o := by
  rw [h]; exact heap_alloc_new w o
theorem heap_drew (w : World) (k : Nat) : w.drew.heap[k]? = w.heap[k]? := rfl
theorem Ab.trans {a b c : World} (h : Ab a b) (k : Ab b c) : Ab a c := h.call k
theorem Ab.setRow {W w : World} (h : Ab W w) {g : Nat} (hg : W.heap.size ≤ g) (cs : Array Value) : Ab W (w.setRow g cs) :=
  ⟨h.os, h.tape, h.output, by simpa using Below.size h, fun k hk => by rw [setRow_other _ _ _ _ (by omega)]; exact Below.block h k hk⟩
/-- as Ab, but for block g, which is a row of n cells of type T -/
def Abx (W : World) (g n : Nat) (T : TypeId) (w : World) : Prop :=
  (w.os = W.os ∧ w.tape = W.tape ∧ w.output = W.output ∧ W.heap.size ≤ w.heap.size ∧ ∀ k, k < W.heap.size → k ≠ g → w.heap[k]? = W.heap[k]?) ∧ ∃ cs : Array Value, cs.size = n ∧ w.heap[g]? = some (.cells cs T)
/-- what lies in a cell -/
def rv (w : World) (g k : Nat) : Value := (w.cell? ⟨g, k, none⟩).getD (.bool false)
theorem Ab.x {W w : World} (h : Ab W w) {g n : Nat} {T : TypeId} {cs : Array Value} (hn : cs.size = n) (hg : W.heap[g]? = some (.cells cs T)) : Abx W g n T w :=
  ⟨⟨Below.os h, Below.tape h, Below.output h, Below.size h, fun k hk _ => Below.block h k hk⟩, cs, hn, h.heap hg⟩
theorem Abx.drew {W w : World} {g n : Nat} {T : TypeId} (h : Abx W g n T w) : Abx W g n T w.drew := h
theorem Abx.alloc {W w : World} {g n : Nat} {T : TypeId} (h : Abx W g n T w) (o : Obj) : Abx W g n T (w.alloc o) := by
  obtain ⟨⟨h1, h2, h3, h4, h5⟩, cs, h6, h7⟩ := h
  refine ⟨⟨h1, h2, h3, by simp; omega, fun k hk hne => (Below.heap_alloc _ _ _ (by omega)).trans (h5 k hk hne)⟩, cs, h6, (Below.heap_alloc _ _ _ (lt_of_block h7)).trans h7⟩
theorem Abx.call {W u w : World} {g n : Nat} {T : TypeId} (h : Abx W g n T u) (b : Below u.heap.size u w) : Abx W g n T w := by
  obtain ⟨⟨h1, h2, h3, h4, h5⟩, cs, h6, h7⟩ := h
  exact ⟨⟨b.os.trans h1, b.tape.trans h2, b.output.trans h3, Nat.le_trans h4 b.size, fun k hk hne => (b.block k (by omega)).trans (h5 k hk hne)⟩, cs, h6, (b.block g (lt_of_block h7)).trans h7⟩
theorem one_set {w : World} {g k : Nat} {cs : Array Value} {v : Value} {T : TypeId} (h : w.heap[g]? = some (.cells cs T)) : (w.setCell ⟨g, k, none⟩ v).heap[g]? = some (.cells (cs.setIfInBounds k v) T) := by
  show (w.heap.modify g _)[g]? = _
  rw [Array.getElem?_modify, if_pos rfl, h]
  rfl
theorem Abx.set {W w : World} {g n : Nat} {T : TypeId} (h : Abx W g n T w) (k : Nat) (v : Value) : Abx W g n T (w.setCell ⟨g, k, none⟩ v) := by
  obtain ⟨⟨h1, h2, h3, h4, h5⟩, cs, h6, h7⟩ := h
  refine ⟨⟨h1, h2, h3, by simpa [World.setCell] using h4, fun i hi hne => (Below.heap_setCell _ _ _ _ hne).trans (h5 i hi hne)⟩, cs.setIfInBounds k v, by simpa using h6, one_set h7⟩
theorem Abx.heap {W w : World} {g n : Nat} {T : TypeId} (h : Abx W g n T w) {k : Nat} {o : Obj} (hne : k ≠ g) (hk : W.heap[k]? = some o) : w.heap[k]? = some o := by
  have hlt : k < W.heap.size := by
    rcases Nat.lt_or_ge k W.heap.size with h1 | h1
    · exact h1
    · rw [Array.getElem?_eq_none h1] at hk; cases hk
  exact (h.1.2.2.2.2 k hlt hne).trans hk
theorem Abx.free {W w : World} {g n : Nat} {T : TypeId} (h : Abx W g n T w) (k : Nat) : w.frozen? ⟨g, k, none⟩ = false := by
  obtain ⟨_, cs, _, h7⟩ := h
  exact free_row h7 k
theorem Abx.some {W w : World} {g n : Nat} {T : TypeId} (h : Abx W g n T w) {k : Nat} (hk : k < n) : w.cell? ⟨g, k, none⟩ = some (rv w g k) := by
  obtain ⟨_, cs, h6, h7⟩ := h
  have e := cell_of_row w g k cs T (0, 0) h7
  rw [Array.getElem?_eq_getElem (by omega)] at e
  unfold rv
  rw [e]
  rfl
theorem Abx.ab {w0 W w : World} {g n : Nat} {T : TypeId} (h : Abx W g n T w) (a : Ab w0 W) (hg : w0.heap.size ≤ g) : Ab w0 w := by
  obtain ⟨⟨h1, h2, h3, h4, h5⟩, _⟩ := h
  exact ⟨h1.trans a.os, h2.trans a.tape, h3.trans a.output, Nat.le_trans (Below.size a) h4, fun k hk => (h5 k (Nat.lt_of_lt_of_le hk (Below.size a)) (by omega)).trans (a.block k hk)⟩
theorem set3 {W w : World} {g : Nat} {x y z : Value} {T : TypeId} (h : Abx W g 3 T w) :
    (((w.setCell ⟨g, 0, none⟩ x).setCell ⟨g, 1, none⟩ y).setCell ⟨g, 2, none⟩ z).heap[g]? = some (.cells #[x, y, z] T) := by
  obtain ⟨_, cs, h6, h⟩ := h
  obtain ⟨a, b, c, rfl⟩ : ∃ a b c, cs = #[a, b, c] := by
    rcases cs with ⟨l⟩
    match l, h6 with
    | [a, b, c], _ => exact ⟨a, b, c, rfl⟩
  have h1 := one_set (v := x) (k := 0) h
  have h2 := one_set (v := y) (k := 1) h1
  have h3 := one_set (v := z) (k := 2) h2
  simpa using h3
theorem Ab.setk {W w : World} (h : Ab W w) {g k : Nat} (hp : W.heap.size ≤ g) (u : Value) : Ab W (w.setCell ⟨g, k, none⟩ u) := Below.setCell h hp u
/-- a point that was laid just ahead of a call -/
theorem Ab.drewN {W w : World} (h : Ab W w) (k : Nat) : Ab W (w.drewN k) := by
  induction k with
  | zero => exact h
  | succ k ih => exact ih.drew
theorem newrow {u w1 : World} {c : Array Value} {T : TypeId} (b : Below (u.alloc (.cells c T)).drew.heap.size (u.alloc (.cells c T)).drew w1) : w1.heap[u.heap.size]? = some (.cells c T) :=
  (b.block _ (by show u.heap.size < (u.alloc _).heap.size; simp)).trans (heap_alloc_new u _)
theorem newrow' {u w1 : World} {c : Array Value} {T : TypeId} (b : Below (u.alloc (.cells c T)).heap.size (u.alloc (.cells c T)) w1) : w1.heap[u.heap.size]? = some (.cells c T) :=
  (b.block _ (by simp)).trans (heap_alloc_new u _)
theorem rowfacts {w : World} {g : Nat} {x y z : Value} {T : TypeId} (r : w.heap[g]? = some (.cells #[x, y, z] T)) : (w.frozen? ⟨g, 0, none⟩ = false ∧ w.frozen? ⟨g, 1, none⟩ = false ∧ w.frozen? ⟨g, 2, none⟩ = false) ∧ w.cell? ⟨g, 0, none⟩ = some x ∧ w.cell? ⟨g, 1, none⟩ = some y ∧ w.cell? ⟨g, 2, none⟩ = some z :=
  ⟨⟨free_row r 0, free_row r 1, free_row r 2⟩, cell_of_row _ _ 0 _ _ _ r, cell_of_row _ _ 1 _ _ _ r, cell_of_row _ _ 2 _ _ _ r⟩
theorem row3 {w : World} {g : Nat} {a b c x y z : Value} {T : TypeId} (h : w.heap[g]? = some (.cells #[a, b, c] T)) :
    (((w.setCell ⟨g, 0, none⟩ x).setCell ⟨g, 1, none⟩ y).setCell ⟨g, 2, none⟩ z).heap[g]? = some (.cells #[x, y, z] T) := by
  have h1 := one_set (v := x) (k := 0) h
  have h2 := one_set (v := y) (k := 1) h1
  have h3 := one_set (v := z) (k := 2) h2
  simpa using h3
end Go.Proofs.YtjkanehlbklnnaaDoor

/-
  What the calls of package bits, and the small helpers of the statements, return: walks over the program.
-/
namespace Go.Proofs.YtjkanehlbklnnaaDoor
open Go.RowKit Tf

theorem run_bits (b : Nat) (w : World) : (callFunc 30 #[.float .f64 b]).run Tryd.prog w = .ok (.value (.int .u64 b)) w := by
  rw [run_callFunc_extern (e := Extern.MathFloatBits.float64bits) Tryd.func30 (by kernel_rfl) (by kernel_rfl) (by kernel_rfl) (by kernel_rfl)]
  rfl
theorem run_from (n : Int) (w : World) : (callFunc 60 #[.int .u64 n]).run Tryd.prog w = .ok (.value (.float .f64 n.toNat)) w := by
  rw [run_callFunc_extern (e := Extern.MathFloatBits.float64frombits) Tryd.func60 (by kernel_rfl) (by kernel_rfl) (by kernel_rfl) (by kernel_rfl)]
  rfl
theorem raw_feq (a b : Nat) : (FloatKind.f64.format.order a b == some Ordering.eq) = feq a b := rfl
theorem raw_fne (a b : Nat) : (FloatKind.f64.format.order a b != some Ordering.eq) = !feq a b := rfl
theorem raw_flt (a b : Nat) : (FloatKind.f64.format.order a b == some Ordering.lt) = flt a b := rfl
theorem raw_fgt (a b : Nat) : (FloatKind.f64.format.order a b == some Ordering.gt) = fgt a b := rfl
attribute [local go_sem] run_bits run_from raw_feq raw_fne raw_flt raw_fgt

theorem ret_int {k : IntKind} {a b : Int} (h : a = b) : Ending.returned (.int k a) = .returned (.int k b) := by rw [h]
theorem ret_bool {a b : Bool} (h : a = b) : Ending.returned (.bool a) = .returned (.bool b) := by rw [h]
theorem ret_flt {a b : Nat} (h : a = b) : Ending.returned (.float .f64 a) = .returned (.float .f64 b) := by rw [h]

set_option maxHeartbeats 400000 in
theorem magnitudeBits_any (x : Nat) (w : World) (hx : x < 18446744073709551616) :
    Calls Tryd.prog 59 #[.float .f64 x] w fun e w' => e = .returned (.int .u64 (mg x : Nat)) ∧ w' = w := by
  go_enter Tryd.func59, Tryd.ntmps59
  go_wp2
  go_ret
  exact ⟨ret_int (andNot_sign x hx), rfl⟩
set_option maxHeartbeats 400000 in
theorem place_any (x : Nat) (w : World) (hx : x < 18446744073709551616) :
    Calls Tryd.prog 65 #[.float .f64 x] w fun e w' => e = .returned (.int .u64 (placeB x : Nat)) ∧ w' = w := by
  have hs := and_sign x hx
  cases hn : ng x
  · rw [hn] at hs
    have hl := lt_of_ng hn
    have ho : Hid (bits .or .u64 (x : Int) 9223372036854775808 = ((x + 9223372036854775808 : Nat) : Int)) := or_sign x hl
    have hp : Hid (placeB x = x + 9223372036854775808) := by unfold placeB; rw [hn]; rfl
    go_enter Tryd.func65, Tryd.ntmps65
    go_wp2
    go_ret
    exact ⟨ret_int (by rw [ho.out, hp.out]), rfl⟩
  · rw [hn] at hs
    have ho : Hid (bits .xor .u64 IntKind.u64.max (x : Int) = ((18446744073709551615 - x : Nat) : Int)) := not_all x hx
    have hp : Hid (placeB x = 18446744073709551615 - x) := by unfold placeB; rw [hn]; rfl
    go_enter Tryd.func65, Tryd.ntmps65
    go_wp2
    go_ret
    exact ⟨ret_int (by rw [hp.out]; exact ho.out), rfl⟩
set_option maxHeartbeats 400000 in
theorem isNaN_any (x : Nat) (w : World) (hx : x < 18446744073709551616) :
    Calls Tryd.prog 50 #[.float .f64 x] w fun e w' => e = .returned (.bool (isN x)) ∧ w' = w := by
  go_enter Tryd.func50, Tryd.ntmps50
  go_wp2_with (go_at_call 59; refine (magnitudeBits_any _ _ hx).mono ?_; rintro e w' ⟨rfl, rfl⟩)
  go_ret
  exact ⟨ret_bool (by unfold isN; exact decide_eq_decide.2 (by omega)), rfl⟩
set_option maxHeartbeats 400000 in
theorem quietNaN_any (w : World) :
    Calls Tryd.prog 51 #[] w fun e w' => e = .returned (.float .f64 quiet) ∧ w' = w := by
  go_enter Tryd.func51, Tryd.ntmps51
  go_wp2
  go_ret
  exact ⟨rfl, rfl⟩

theorem feq_zero (x : Nat) (hx : x < 18446744073709551616) : feq x 0 = decide (mg x = 0) := by
  have h := feq_rk x 0 hx (by omega)
  have e : rk 0 = 0 := by decide
  have n : isN 0 = false := by decide
  rw [h, e, n]
  cases hN : isN x
  · unfold rk
    cases ng x <;> simp
  · have := isN_true.1 hN
    have : ¬ mg x = 0 := by omega
    simp [this]

theorem magnitudeBits_at (x m : Nat) (w : World) (hx : x < 18446744073709551616) (hm : Hid (mg x = m)) :
    Calls Tryd.prog 59 #[.float .f64 x] w fun e w' => e = .returned (.int .u64 (m : Nat)) ∧ w' = w := by
  have := magnitudeBits_any x w hx
  rwa [hm.out] at this
set_option maxHeartbeats 1000000 in
set_option maxRecDepth 100000 in
theorem canon_any (x : Nat) (w : World) (hx : x < 18446744073709551616) :
    Calls Tryd.prog 31 #[.float .f64 x] w fun e w' => e = .returned (.float .f64 (canonB x)) ∧ w' = w := by
  have hc : Hid (canonB x = if isN x then quiet else if mg x = 0 then 0 else x) := rfl
  have hz := feq_zero x hx
  cases hN : isN x
  · have HN := hid hN
    by_cases c : mg x = 0
    · have H : Hid (mg x = 0) := c
      rw [c] at hz; simp only [decide_true] at hz
      clear c
      go_enter Tryd.func31, Tryd.ntmps31
      go_wp2_with (first | (go_at_call 50; refine (isNaN_any _ _ hx).mono ?_; rintro e w' ⟨rfl, rfl⟩) | (go_at_call 51; refine (quietNaN_any _).mono ?_; rintro e w' ⟨rfl, rfl⟩))
      go_ret
      exact ⟨ret_flt (by rw [hc.out, HN.out, H.out]; rfl), rfl⟩
    · simp only [c, decide_false] at hz
      go_enter Tryd.func31, Tryd.ntmps31
      go_wp2_with (first | (go_at_call 50; refine (isNaN_any _ _ hx).mono ?_; rintro e w' ⟨rfl, rfl⟩) | (go_at_call 51; refine (quietNaN_any _).mono ?_; rintro e w' ⟨rfl, rfl⟩))
      go_ret
      exact ⟨ret_flt (by rw [hc.out, HN.out, if_neg c]; rfl), rfl⟩
  · have HN := hid hN
    go_enter Tryd.func31, Tryd.ntmps31
    go_wp2_with (first | (go_at_call 50; refine (isNaN_any _ _ hx).mono ?_; rintro e w' ⟨rfl, rfl⟩) | (go_at_call 51; refine (quietNaN_any _).mono ?_; rintro e w' ⟨rfl, rfl⟩))
    go_ret
    exact ⟨ret_flt (by rw [hc.out, HN.out]; rfl), rfl⟩

end Go.Proofs.YtjkanehlbklnnaaDoor

/-
  What Down, Ulp, Order, Max, Min and Between of package bits return, and the small helpers of the statements: walks over the program.
-/
namespace Go.Proofs.YtjkanehlbklnnaaDoor
open Go.RowKit Tf
attribute [local go_sem] run_bits run_from raw_feq raw_fne raw_flt raw_fgt

theorem xor_lt (x : Nat) (h : x < 2 ^ 63) : x ^^^ 2 ^ 63 = x + 2 ^ 63 := by
  apply Nat.eq_of_testBit_eq
  intro i
  rw [Nat.testBit_xor, Nat.testBit_two_pow, Nat.add_comm x]
  by_cases c : i = 63
  · subst c
    rw [Nat.testBit_two_pow_add_eq]
    have : x.testBit 63 = false := Nat.testBit_lt_two_pow h
    simp [this]
  · by_cases c2 : i < 63
    · rw [Nat.testBit_two_pow_add_gt c2]
      have : ¬ 63 = i := by omega
      simp [this]
    · have h1 : x.testBit i = false := Nat.testBit_lt_two_pow (Nat.lt_of_lt_of_le h (Nat.pow_le_pow_right (by omega) (by omega)))
      have h2 : (2 ^ 63 + x).testBit i = false := Nat.testBit_lt_two_pow (Nat.lt_of_lt_of_le (show 2 ^ 63 + x < 2 ^ 64 by omega) (Nat.pow_le_pow_right (by omega) (by omega)))
      have : ¬ 63 = i := by omega
      rw [h1, h2]; simp [this]
theorem negFloat_eq (x : Nat) (hx : x < 18446744073709551616) : Op.negFloat .f64 x = negB x := by
  unfold Op.negFloat negB
  rw [show FloatKind.f64.format.exponentBits + FloatKind.f64.format.fractionBits = 63 from rfl]
  cases h : ng x
  · have := lt_of_ng h
    rw [xor_lt x (by omega)]; simp only [Bool.false_eq_true, if_false]
  · have := ge_of_ng h
    have e := xor_lt (x - 9223372036854775808) (by omega)
    rw [show x - 9223372036854775808 + 2 ^ 63 = x by omega] at e
    have e2 : x ^^^ 2 ^ 63 = x - 9223372036854775808 := by
      rw (occs := .pos [1]) [← e]
      rw [Nat.xor_assoc, Nat.xor_self, Nat.xor_zero]
    rw [e2]; simp only [if_true]
theorem run_neg (b : Nat) : Op.unary .neg (.float .f64 b) = pure (.float .f64 (Op.negFloat .f64 b)) := rfl
attribute [local go_sem] run_neg

theorem isN_negB (x : Nat) (hx : x < 18446744073709551616) : isN (negB x) = isN x := by
  unfold isN negB
  cases h : ng x
  · have := lt_of_ng h
    have e : mg (x + 9223372036854775808) = mg x := by unfold mg; omega
    simp [e]
  · have := ge_of_ng h
    have e : mg (x - 9223372036854775808) = mg x := by unfold mg; omega
    simp [e]

theorem feq_self_succ (m : Nat) (h : m < 9218868437227405312) : feq (m + 1) m = false := by
  rw [feq_rk (m + 1) m (by omega) (by omega)]
  unfold rk
  rw [ng_of_lt (show m + 1 < 9223372036854775808 by omega), ng_of_lt (show m < 9223372036854775808 by omega), mg_of_lt (show m + 1 < 9223372036854775808 by omega), mg_of_lt (show m < 9223372036854775808 by omega)]
  have : decide (((m + 1 : Nat) : Int) = (m : Int)) = false := by simp; omega
  simp only [Bool.false_eq_true, if_false, this, Bool.and_false]
theorem sub_top : Ieee.double.sub 9218868437227405312 9218868437227405311 = some 9218868437227405312 :=
  sub_inf_fin _ _ (by decide) (by decide) (by decide)

end Go.Proofs.YtjkanehlbklnnaaDoor

/-
  What Order, Max, Min and Between of package bits return, and the small helpers of the statements: walks over the program.
-/
namespace Go.Proofs.YtjkanehlbklnnaaDoor
open Go.RowKit Tf
attribute [local go_sem] run_bits run_from raw_feq raw_fne raw_flt raw_fgt run_neg

def sameB (a b : Nat) : Bool := decide (a = b)

set_option maxHeartbeats 400000 in
theorem rawSame_any (a b : Nat) (w : World) :
    Calls Tryd.prog 29 #[.float .f64 a, .float .f64 b] w fun e w' => e = .returned (.bool (sameB a b)) ∧ w' = w := by
  go_enter Tryd.func29, Tryd.ntmps29
  go_wp2
  go_ret
  refine ⟨ret_bool ?_, rfl⟩
  unfold sameB
  by_cases h : a = b
  · subst h; simp
  · have : ¬ (a : Int) = (b : Int) := by omega
    simp only [h, decide_false, beq_eq_false_iff_ne, ne_eq, this, not_false_eq_true]
set_option maxHeartbeats 400000 in
theorem order_at (a b p q : Nat) (w : World) (ha : a < 18446744073709551616) (hb : b < 18446744073709551616) (hp : Hid (placeB a = p)) (hq : Hid (placeB b = q)) :
    Calls Tryd.prog 64 #[.float .f64 a, .float .f64 b] w fun e w' => e = .returned (.int .i64 (if p < q then -1 else if q < p then 1 else 0)) ∧ w' = w := by
  have pa : ∀ w, Calls Tryd.prog 65 #[.float .f64 a] w fun e w' => e = .returned (.int .u64 (p : Nat)) ∧ w' = w := by
    intro w; rw [← hp.out]; exact place_any a w ha
  have pb : ∀ w, Calls Tryd.prog 65 #[.float .f64 b] w fun e w' => e = .returned (.int .u64 (q : Nat)) ∧ w' = w := by
    intro w; rw [← hq.out]; exact place_any b w hb
  have PA := hid pa
  have PB := hid pb
  clear pa pb
  by_cases c1 : p < q
  · rw [if_pos c1]
    go_enter Tryd.func64, Tryd.ntmps64
    go_wp2_with fail
    refine (PA.out _).mono ?_
    rintro e w' ⟨rfl, rfl⟩
    go_wp2_with fail
    refine (PB.out _).mono ?_
    rintro e w' ⟨rfl, rfl⟩
    go_wp2
    go_ret
    exact ⟨rfl, rfl⟩
  · rw [if_neg c1]
    by_cases c2 : q < p
    · rw [if_pos c2]
      go_enter Tryd.func64, Tryd.ntmps64
      go_wp2_with fail
      refine (PA.out _).mono ?_
      rintro e w' ⟨rfl, rfl⟩
      go_wp2_with fail
      refine (PB.out _).mono ?_
      rintro e w' ⟨rfl, rfl⟩
      go_wp2
      go_ret
      exact ⟨rfl, rfl⟩
    · rw [if_neg c2]
      go_enter Tryd.func64, Tryd.ntmps64
      go_wp2_with fail
      refine (PA.out _).mono ?_
      rintro e w' ⟨rfl, rfl⟩
      go_wp2_with fail
      refine (PB.out _).mono ?_
      rintro e w' ⟨rfl, rfl⟩
      go_wp2
      go_ret
      exact ⟨rfl, rfl⟩
theorem order_any (a b : Nat) (w : World) (ha : a < 18446744073709551616) (hb : b < 18446744073709551616) :
    Calls Tryd.prog 64 #[.float .f64 a, .float .f64 b] w fun e w' => e = .returned (.int .i64 (orderB a b)) ∧ w' = w :=
  order_at a b (placeB a) (placeB b) w ha hb rfl rfl
theorem orderB_at (a b : Nat) (o : Int) (w : World) (ha : a < 18446744073709551616) (hb : b < 18446744073709551616) (ho : Hid (orderB a b = o)) :
    Calls Tryd.prog 64 #[.float .f64 a, .float .f64 b] w fun e w' => e = .returned (.int .i64 o) ∧ w' = w := by
  rw [← ho.out]; exact order_any a b w ha hb

theorem orderB_lt (a b : Nat) : orderB a b < 0 ↔ placeB a < placeB b := by
  unfold orderB; split
  · simp_all
  · split <;> simp_all
theorem orderB_gt (a b : Nat) : 0 < orderB a b ↔ placeB b < placeB a := by
  unfold orderB; split
  · simp; omega
  · split <;> simp_all


theorem rk_bound (x : Nat) (h : isN x = false) : -9218868437227405312 ≤ rk x ∧ rk x ≤ 9218868437227405312 := by
  have := isN_false.1 h
  unfold rk; split <;> omega
theorem bet_none (a b : Nat) (h : isN a = true ∨ isN b = true) : betOk a b = false ∧ betB a b = 0 := by
  have : betOk a b = false := by unfold betOk; rcases h with h | h <;> simp [h]
  exact ⟨this, by unfold betB; rw [this]; rfl⟩
theorem bet_yes (a b : Nat) (ha : isN a = false) (hb : isN b = false) (h1 : -9223372036854775808 ≤ rk b - rk a) (h2 : rk b - rk a < 9223372036854775808) : betOk a b = true ∧ betB a b = rk b - rk a := by
  have : betOk a b = true := by unfold betOk betD; simp [ha, hb]; omega
  exact ⟨this, by unfold betB; rw [this]; rfl⟩
theorem bet_no (a b : Nat) (h1 : rk b - rk a < -9223372036854775808 ∨ 9223372036854775808 ≤ rk b - rk a) : betOk a b = false ∧ betB a b = 0 := by
  have : betOk a b = false := by unfold betOk betD; simp; omega
  exact ⟨this, by unfold betB; rw [this]; rfl⟩

/-- the NaN that an operation without an answer gives: its bits are drawn -/
def nanOf (w : World) (x y : Nat) : Nat := (Question.nanBits .f64 x y).cut (w.tape w.drawn (.nanBits .f64 x y))
theorem nanOf_lt (w : World) (x y : Nat) : nanOf w x y < 18446744073709551616 := by
  unfold nanOf Question.cut
  simp only []
  omega
theorem isN_nanOf (w : World) (x y : Nat) : isN (nanOf w x y) = true := by
  rw [isN_true]
  unfold nanOf Question.cut mg
  simp only []
  generalize w.tape w.drawn (Question.nanBits FloatKind.f64 x y) = t
  have hb : t / 2 % (2 ^ 52 - 1) < 2 ^ 52 - 1 := Nat.mod_lt _ (by omega)
  generalize t / 2 % (2 ^ 52 - 1) = b at *
  have ha : t % 2 = 0 ∨ t % 2 = 1 := by omega
  rcases ha with h | h <;> rw [h] <;> omega
theorem run_nan_sub {P : Program} (w : World) (t : TypeId) (x y : Nat) (h : Ieee.double.sub x y = none) :
    (binOp .sub t (.float .f64 x) (.float .f64 y)).run P w = .ok (.float .f64 (nanOf w x y)) w.drew := by
  have h' : FloatKind.f64.format.sub x y = none := h
  simp [binOp, Op.floatArith, h', nanOf, Question.forced]
theorem feq_nan (a b : Nat) (h : isN a = true ∨ isN b = true) : feq a b = false := by unfold feq; rw [order_nan a b h]; rfl
theorem flt_nan (a b : Nat) (h : isN a = true ∨ isN b = true) : flt a b = false := by unfold flt; rw [order_nan a b h]; rfl
theorem fgt_nan (a b : Nat) (h : isN a = true ∨ isN b = true) : fgt a b = false := by unfold fgt; rw [order_nan a b h]; rfl

end Go.Proofs.YtjkanehlbklnnaaDoor

/-
  What Sum of package twin returns: walks over the program.
-/
namespace Go.Proofs.YtjkanehlbklnnaaDoor
open Go.RowKit Tf
attribute [local go_sem] run_bits run_from raw_feq raw_fne raw_flt raw_fgt

theorem run_nan_add {P : Program} (w : World) (t : TypeId) (x y : Nat) (h : Ieee.double.add x y = none) :
    (binOp .add t (.float .f64 x) (.float .f64 y)).run P w = .ok (.float .f64 (nanOf w x y)) w.drew := by
  have h' : FloatKind.f64.format.add x y = none := h
  simp [binOp, Op.floatArith, h', nanOf, Question.forced]
theorem run_nan_mul {P : Program} (w : World) (t : TypeId) (x y : Nat) (h : Ieee.double.mul x y = none) :
    (binOp .mul t (.float .f64 x) (.float .f64 y)).run P w = .ok (.float .f64 (nanOf w x y)) w.drew := by
  have h' : FloatKind.f64.format.mul x y = none := h
  simp [binOp, Op.floatArith, h', nanOf, Question.forced]

set_option maxHeartbeats 400000 in
theorem abs_any (x : Nat) (w : World) (hx : x < 18446744073709551616) :
    Calls Tryd.prog 63 #[.float .f64 x] w fun e w' => e = .returned (.float .f64 (mg x)) ∧ w' = w := by
  go_enter Tryd.func63, Tryd.ntmps63
  go_wp2
  go_ret
  refine ⟨ret_flt ?_, rfl⟩
  rw [andNot_sign x hx]; rfl

theorem rk_pos (m : Nat) (h : m < 9223372036854775808) : rk m = m := by
  unfold rk; rw [ng_of_lt h, if_neg (by decide), mg_of_lt h]
/-- a magnitude against a finite one -/
theorem fle_mg (m c : Nat) (h : m < 9223372036854775808) (hc : c < 9218868437227405312) : (flt m c || feq m c) = decide (m ≤ c) := by
  rw [flt_rk m c (by omega) (by omega), feq_rk m c (by omega) (by omega), rk_pos m h, rk_pos c (by omega)]
  have h2 : isN c = false := isN_false.2 (by rw [mg_of_lt (by omega)]; omega)
  rw [h2]
  by_cases n : isN m = true
  · have := isN_true.1 n
    rw [mg_of_lt h] at this
    rw [n, Bool.eq_iff_iff]; simp; omega
  · have n' : isN m = false := by simpa using n
    rw [n', Bool.eq_iff_iff]; simp; omega
theorem fge_mg (m c : Nat) (h : m < 9223372036854775808) (hc : c < 9218868437227405312) : (fgt m c || feq m c) = (!isN m && decide (c ≤ m)) := by
  rw [fgt_rk m c (by omega) (by omega), feq_rk m c (by omega) (by omega), rk_pos m h, rk_pos c (by omega)]
  have h2 : isN c = false := isN_false.2 (by rw [mg_of_lt (by omega)]; omega)
  rw [h2]
  cases isN m
  · rw [Bool.eq_iff_iff]; simp; omega
  · simp
theorem flt_mg (a b : Nat) (ha : a < 9223372036854775808) (hb : b < 9223372036854775808) (na : isN a = false) (nb : isN b = false) : flt a b = decide (a < b) := by
  rw [flt_rk a b (by omega) (by omega), rk_pos a ha, rk_pos b hb, na, nb, Bool.eq_iff_iff]; simp

theorem canon_to (x r : Nat) (w : World) (hx : x < 18446744073709551616) (hr : canonB x = r) :
    Calls Tryd.prog 31 #[.float .f64 x] w fun e w' => e = .returned (.float .f64 r) ∧ w' = w := by
  subst hr; exact canon_any x w hx

theorem addB_comm_fin (a b : Nat) (ha : a < 18446744073709551616) (hb : b < 18446744073709551616) (fa : mg a < 9218868437227405312) (fb : mg b < 9218868437227405312) : Ieee.double.add a b = Ieee.double.add b a := by
  rw [add_d a b ha hb fa fb, add_d b a hb ha fb fa, Int.add_comm, Bool.and_comm]

end Go.Proofs.YtjkanehlbklnnaaDoor

/-
  That the statements' own test of life answers true; each contract once more at a named answer: walks over the program.
-/
namespace Go.Proofs.YtjkanehlbklnnaaDoor
open Go.RowKit Tf
attribute [local go_sem] run_bits run_from raw_feq raw_fne raw_flt raw_fgt run_neg

theorem canon_at (x : Nat) (r : Nat) (w : World) (hx : x < 18446744073709551616) (hr : canonB x = r) :
    Calls Tryd.prog 31 #[.float .f64 x] w fun e w' => e = .returned (.float .f64 r) ∧ w' = w := by
  subst hr; exact canon_any x w hx
theorem ord_at (a b : Nat) (r : Int) (w : World) (ha : a < 18446744073709551616) (hb : b < 18446744073709551616) (hr : orderB a b = r) :
    Calls Tryd.prog 64 #[.float .f64 a, .float .f64 b] w fun e w' => e = .returned (.int .i64 r) ∧ w' = w := by
  subst hr; exact order_any a b w ha hb
end Go.Proofs.YtjkanehlbklnnaaDoor

/-
  Sums from the left: walks over the program.
-/
namespace Go.Proofs.YtjkanehlbklnnaaDoor
open Go.RowKit Tf
attribute [local go_sem] run_bits run_from raw_feq raw_fne raw_flt raw_fgt run_neg

/-- one addition, whatever comes of it -/
theorem add_any {P : Program} (w : World) (s q x y : Nat) (h : IsQ s q) (k : IsQ x y) : ∃ r n, (∀ t, (binOp .add t (.float .f64 s) (.float .f64 x)).run P w = .ok (.float .f64 r) (w.drewN n)) ∧ IsQ r (plB q y) := by
  cases e : Ieee.double.add s x with
  | none => exact ⟨nanOf w s x, 1, fun t => run_nan_add w t s x e, h.nan k e (nanOf_lt _ _ _) (isN_nanOf _ _ _)⟩
  | some r => exact ⟨r, 0, fun t => run_float_arith w .add t .f64 s x r e, h.add k e⟩
theorem feq_selfq (x : Nat) (hx : x < 18446744073709551616) : feq x x = !isN x := by
  rw [feq_rk x x hx hx]
  cases isN x <;> simp
set_option maxHeartbeats 1000000 in
theorem oneNaN_at (x q : Nat) (w : World) (h : IsQ x q) :
    Calls Tryd.prog 62 #[.float .f64 x] w fun e w' => e = .returned (.float .f64 q) ∧ w' = w := by
  obtain ⟨h1, h2⟩ := h
  have C := hid (fun w => canon_at x _ w h1 rfl)
  have hf := feq_selfq x h1
  cases hN : isN x
  · rw [hN] at hf
    rw [qB_of hN] at h2
    subst h2
    clear hN h1
    go_enter Tryd.func62, Tryd.ntmps62
    go_wp2
    go_ret
    exact ⟨rfl, rfl⟩
  · rw [hN] at hf
    have hc : canonB x = q := by rw [← h2, qB_N hN]; unfold canonB; rw [hN]; rfl
    rw [hc] at C
    clear hN h1 h2 hc
    go_enter Tryd.func62, Tryd.ntmps62
    go_wp2_with fail
    refine (C.out _).mono ?_
    rintro e w' ⟨rfl, rfl⟩
    go_wp2
    go_ret
    exact ⟨rfl, rfl⟩
/-- A LIST OF FLOATS -/
def IsFl (w : World) (a0 : Option Addr) (len : Nat) (xs : Nat → Nat) : Prop := ∀ k, k < len → xs k < 18446744073709551616 ∧ ∃ b o, a0 = some ⟨b, o, none⟩ ∧ b < w.heap.size ∧ w.cell? ⟨b, o + k, none⟩ = some (.float .f64 (xs k))
theorem IsFl.below {w w' : World} {a0 : Option Addr} {len : Nat} {xs : Nat → Nat} (h : IsFl w a0 len xs) (hb : Below w.heap.size w w') : IsFl w' a0 len xs := by
  intro k hk
  obtain ⟨h1, b, o, h2, h3, h4⟩ := h k hk
  exact ⟨h1, b, o, h2, Nat.lt_of_lt_of_le h3 hb.size, by rw [hb.cell (p := ⟨b, o + k, none⟩) h3]; exact h4⟩
set_option maxHeartbeats 1000000 in
theorem inTurn_none (a0 : Option Addr) (cap : Nat) (w : World) :
    Calls Tryd.prog 54 #[.slice a0 0 cap] w fun e w' => e = .returned (.float .f64 0) ∧ w' = w := by
  go_enter Tryd.func54, Tryd.ntmps54
  go_wp2
  go_ret
  exact ⟨rfl, rfl⟩
set_option maxHeartbeats 2000000 in
theorem inTurn_one (b o cap x q : Nat) (w : World) (_hcap : (1 : Int) ≤ cap) (_hl : (cap : Int) ≤ 9223372036854775807) (h0 : w.cell? ⟨b, o, none⟩ = some (.float .f64 x)) (hx : Hid (IsQ x q)) :
    Calls Tryd.prog 54 #[.slice (some ⟨b, o, none⟩) 1 cap] w fun e w' => e = .returned (.float .f64 q) ∧ ∃ k, w' = w.drewN k := by
  have C := hid (fun w => oneNaN_at x q w hx.out)
  clear hx
  by_cases hc : cap = 1
  · go_enter Tryd.func54, Tryd.ntmps54
    go_wp2
    go_loopw [3, 15] (fun sv iv wr => sv = .float .f64 x ∧ iv = .int .i64 0 ∧ wr = w) (fun _ _ _ => 0)
    case atStart => exact ⟨rfl, rfl, rfl⟩
    case round =>
      obtain ⟨rfl, rfl, rfl⟩ := hrel
      go_wp2_with fail
      refine (C.out _).mono ?_
      rintro e w' ⟨rfl, rfl⟩
      go_wp2
      go_ret
      exact ⟨rfl, 0, rfl⟩
  · go_enter Tryd.func54, Tryd.ntmps54
    go_wp2
    go_loopw [3, 15] (fun sv iv wr => sv = .float .f64 x ∧ iv = .int .i64 0 ∧ wr = w) (fun _ _ _ => 0)
    case atStart => exact ⟨rfl, rfl, rfl⟩
    case round =>
      obtain ⟨rfl, rfl, rfl⟩ := hrel
      go_wp2_with fail
      refine (C.out _).mono ?_
      rintro e w' ⟨rfl, rfl⟩
      go_wp2
      go_ret
      exact ⟨rfl, 0, rfl⟩
set_option maxHeartbeats 4000000 in
theorem inTurn_more (b o n cap : Nat) (xs : Nat → Nat) (w : World) (hn : 1 ≤ n) (hcap : (n : Int) + 1 ≤ cap) (hl : (cap : Int) ≤ 9223372036854775807) (h : Hid (IsFl w (some ⟨b, o, none⟩) (n + 1) xs)) :
    Calls Tryd.prog 54 #[.slice (some ⟨b, o, none⟩) (n + 1 : Nat) cap] w fun e w' => e = .returned (.float .f64 (lfF xs n)) ∧ ∃ k, w' = w.drewN k := by
  have hc1 : ¬ cap = 1 := by omega
  have cells : ∀ k, k < n + 1 → ∀ j, (w.drewN j).cell? ⟨b, o + k, none⟩ = some (.float .f64 (xs k)) := by
    intro k hk j
    obtain ⟨_, b', o', e, _, h3⟩ := h.out k hk
    cases e; exact h3
  have h0 : w.cell? ⟨b, o, none⟩ = some (.float .f64 (xs 0)) := cells 0 (by omega) 0
  have HC := hid cells
  obtain ⟨x0, hx0⟩ : ∃ x, xs 0 = x := ⟨_, rfl⟩
  rw [hx0] at h0
  have HX := hid hx0
  have C := hid (fun x q w => oneNaN_at x q w)
  clear cells hx0
  go_enter Tryd.func54, Tryd.ntmps54
  go_wp2
  go_loopw [3, 15] (fun sv iv wr => ∃ k s j : Nat, k ≤ n ∧ sv = .float .f64 s ∧ iv = .int .i64 (k : Nat) ∧ wr = w.drewN j ∧ Hid (IsQ s (lfF xs k))) (fun _ iv _ => n - (intOf iv).toNat)
  case atStart => exact ⟨0, x0, 0, by omega, rfl, rfl, rfl, by rw [← HX.out]; exact IsQ.self (h.out 0 (by omega)).1⟩
  case round =>
    obtain ⟨k, s, j, hk, rfl, rfl, rfl, hq⟩ := hrel
    by_cases hlt : k < n
    · have cn := HC.out (k + 1) (by omega) j
      have cn' : (w.drewN j).cell? ⟨b, o + 1 + k, none⟩ = some (.float .f64 (xs (k + 1))) := by rw [show o + 1 + k = o + (k + 1) by omega]; exact cn
      obtain ⟨r, m, hr, hrq⟩ := add_any (P := Tryd.prog) (w.drewN j) s _ (xs (k + 1)) _ hq.out (IsQ.self (h.out (k + 1) (by omega)).1)
      rw [plB_qr] at hrq
      obtain ⟨x, hx⟩ : ∃ x, xs (k + 1) = x := ⟨_, rfl⟩
      rw [hx] at cn cn' hr
      have HQ := hid hrq
      have HL := hid hlt
      have kl : ((k : Nat) : Int) < n := by omega
      clear hx hrq hlt hq hk
      go_wp2
      refine ⟨⟨k + 1, r, _, HL.out, rfl, by simp, rfl, HQ.out⟩, by have := HL.out; simp [intOf]; omega⟩
    · have e : k = n := by omega
      subst e
      have kl : decide (((k : Nat) : Int) < (k : Nat)) = false := by simp
      have C' := hid (fun w => C.out s (lfF xs k) w hq.out)
      clear C hq hlt hk
      go_wp2_with fail
      refine (C'.out _).mono ?_
      rintro e w' ⟨rfl, rfl⟩
      go_wp2
      go_ret
      exact ⟨rfl, _, rfl⟩
/-- IN TURN -/
theorem inTurn_at (a0 : Option Addr) (len cap : Nat) (xs : Nat → Nat) (w : World) (hcap : len ≤ cap) (hl : (cap : Int) ≤ 9223372036854775807) (h : IsFl w a0 len xs) :
    Calls Tryd.prog 54 #[.slice a0 len cap] w fun e w' => e = .returned (.float .f64 (leftB xs len)) ∧ ∃ k, w' = w.drewN k := by
  by_cases h0 : len = 0
  · subst h0
    exact (inTurn_none a0 cap w).mono fun e w' ⟨he, hw⟩ => ⟨he, 0, hw⟩
  · obtain ⟨x1, b, o, rfl, _, x3⟩ := h 0 (by omega)
    have e : leftB xs len = lfF xs (len - 1) := by unfold leftB; rw [if_neg h0]
    rw [e]
    by_cases h1 : len = 1
    · subst h1
      exact inTurn_one b o cap (xs 0) _ w (by omega) hl x3 (IsQ.self x1)
    · have := inTurn_more b o (len - 1) cap xs w (by omega) (by omega) hl (by rw [show len - 1 + 1 = len by omega]; exact h)
      rw [show len - 1 + 1 = len by omega] at this
      exact this
end Go.Proofs.YtjkanehlbklnnaaDoor

/-
  Sums by pairs: walks over the program.
-/
namespace Go.Proofs.YtjkanehlbklnnaaDoor
open Go.RowKit Tf
attribute [local go_sem] run_bits run_from raw_feq raw_fne raw_flt raw_fgt run_neg

/-- a list that was laid just now -/
theorem fl_new (w : World) (T : TypeId) (c : Array Value) (xs : Nat → Nat) (n : Nat) (h : ∀ k, k < n → xs k < 18446744073709551616 ∧ c[k]? = some (.float .f64 (xs k))) : IsFl (w.alloc (.cells c T)) (some ⟨w.heap.size, 0, none⟩) n xs := by
  intro k hk
  refine ⟨(h k hk).1, w.heap.size, 0, rfl, by simp, ?_⟩
  rw [Nat.zero_add]
  have := (h k hk).2
  simp [this]
end Go.Proofs.YtjkanehlbklnnaaDoor

/-
  Careful sums, and sums of three: walks over the program.
-/
namespace Go.Proofs.YtjkanehlbklnnaaDoor
open Go.RowKit Tf
attribute [local go_sem] run_bits run_from raw_feq raw_fne raw_flt raw_fgt run_neg

theorem place_mg (x : Nat) : placeB (mg x) = mg x + 9223372036854775808 := by
  unfold placeB; rw [ng_of_lt (mg_lt x)]; rfl
theorem order_mg (a b : Nat) : orderB (mg a) (mg b) = if mg a < mg b then -1 else if mg b < mg a then 1 else 0 := by
  unfold orderB
  rw [place_mg, place_mg]
  by_cases h1 : mg a < mg b
  · rw [if_pos (by omega), if_pos h1]
  · rw [if_neg (by omega), if_neg h1]
    by_cases h2 : mg b < mg a
    · rw [if_pos (by omega), if_pos h2]
    · rw [if_neg (by omega), if_neg h2]
theorem key_lt (a b : Nat) (ha : a < 18446744073709551616) (hb : b < 18446744073709551616) : key b < key a ↔ mg b < mg a ∨ (mg a = mg b ∧ placeB b < placeB a) := by
  have h1 := word_eq a ha
  have h2 := word_eq b hb
  have h3 := mg_lt a
  have h4 := mg_lt b
  unfold key placeB
  revert h1 h2
  cases ng a <;> cases ng b <;> simp <;> omega
set_option maxHeartbeats 1000000 in
theorem behind_at (a b : Nat) (r : Bool) (w : World) (ha : a < 18446744073709551616) (hb : b < 18446744073709551616) (hr : decide (key b < key a) = r) :
    Calls Tryd.prog 61 #[.float .f64 a, .float .f64 b] w fun e w' => e = .returned (.bool r) ∧ w' = w := by
  have A := hid (fun w => abs_any a w ha)
  have B := hid (fun w => abs_any b w hb)
  have h3 := mg_lt a
  have h4 := mg_lt b
  have O := hid (fun o w h => orderB_at (mg a) (mg b) o w (by omega) (by omega) h)
  have O2 := hid (fun w => orderB_at a b _ w ha hb rfl)
  have hk := key_lt a b ha hb
  have ho := order_mg a b
  by_cases c1 : mg a < mg b
  · rw [if_pos c1] at ho
    have O' := hid (fun w => O.out _ w ho)
    have e : r = false := by rw [← hr]; exact decide_eq_false (fun x => by have := hk.1 x; omega)
    subst e
    clear O O2 hk hr ho c1 h3 h4 ha hb
    generalize mg a = ma at *
    generalize mg b = mb at *
    go_enter Tryd.func61, Tryd.ntmps61
    go_wp2_with fail
    refine (A.out _).mono ?_
    rintro e w' ⟨rfl, rfl⟩
    go_wp2_with fail
    refine (B.out _).mono ?_
    rintro e w' ⟨rfl, rfl⟩
    go_wp2_with fail
    refine (O'.out _).mono ?_
    rintro e w' ⟨rfl, rfl⟩
    go_wp2
    go_ret
    exact ⟨rfl, rfl⟩
  by_cases c2 : mg b < mg a
  · rw [if_neg c1, if_pos c2] at ho
    have O' := hid (fun w => O.out _ w ho)
    have e : r = true := by rw [← hr]; exact decide_eq_true (hk.2 (.inl c2))
    subst e
    clear O O2 hk hr ho c1 c2 h3 h4 ha hb
    generalize mg a = ma at *
    generalize mg b = mb at *
    go_enter Tryd.func61, Tryd.ntmps61
    go_wp2_with fail
    refine (A.out _).mono ?_
    rintro e w' ⟨rfl, rfl⟩
    go_wp2_with fail
    refine (B.out _).mono ?_
    rintro e w' ⟨rfl, rfl⟩
    go_wp2_with fail
    refine (O'.out _).mono ?_
    rintro e w' ⟨rfl, rfl⟩
    go_wp2
    go_ret
    exact ⟨rfl, rfl⟩
  · rw [if_neg c1, if_neg c2] at ho
    have O' := hid (fun w => O.out _ w ho)
    obtain ⟨o, ho2⟩ : ∃ o, orderB a b = o := ⟨_, rfl⟩
    have e : decide (0 < o) = r := by
      rw [← hr, ← ho2]
      refine decide_eq_decide.2 ?_
      rw [orderB_gt, hk]
      constructor
      · intro h; exact .inr ⟨by omega, h⟩
      · rintro (h | h)
        · omega
        · exact h.2
    rw [ho2] at O2
    clear O hk hr ho c1 c2 h3 h4 ha hb ho2
    generalize mg a = ma at *
    generalize mg b = mb at *
    go_enter Tryd.func61, Tryd.ntmps61
    go_wp2_with fail
    refine (A.out _).mono ?_
    rintro e w' ⟨rfl, rfl⟩
    go_wp2_with fail
    refine (B.out _).mono ?_
    rintro e w' ⟨rfl, rfl⟩
    go_wp2_with fail
    refine (O'.out _).mono ?_
    rintro e w' ⟨rfl, rfl⟩
    go_wp2_with fail
    refine (O2.out _).mono ?_
    rintro e w' ⟨rfl, rfl⟩
    go_wp2
    go_ret
    exact ⟨by first | rfl | (rw [← e]; try rfl) | skip, rfl⟩
set_option maxHeartbeats 1000000 in
theorem lesser_at (a b : Nat) (w : World) (ha : a < 18446744073709551616) (hb : b < 18446744073709551616) :
    Calls Tryd.prog 53 #[.float .f64 a, .float .f64 b] w fun e w' => e = .returned (.tuple #[.float .f64 (loB a b), .float .f64 (hiB a b)]) ∧ w' = w := by
  have B := hid (fun w => behind_at a b _ w ha hb rfl)
  unfold loB hiB
  by_cases c : key b < key a
  · rw [if_pos c, if_pos c]
    rw [decide_eq_true c] at B
    clear c
    go_enter Tryd.func53, Tryd.ntmps53
    go_wp2_with fail
    refine (B.out _).mono ?_
    rintro e w' ⟨rfl, rfl⟩
    go_wp2
    go_ret2
    exact ⟨rfl, rfl⟩
  · rw [if_neg c, if_neg c]
    rw [decide_eq_false c] at B
    clear c
    go_enter Tryd.func53, Tryd.ntmps53
    go_wp2_with fail
    refine (B.out _).mono ?_
    rintro e w' ⟨rfl, rfl⟩
    go_wp2
    go_ret2
    exact ⟨rfl, rfl⟩
theorem lo_lt {a b : Nat} (ha : a < 18446744073709551616) (hb : b < 18446744073709551616) : loB a b < 18446744073709551616 := by unfold loB; split <;> assumption
theorem hi_lt {a b : Nat} (ha : a < 18446744073709551616) (hb : b < 18446744073709551616) : hiB a b < 18446744073709551616 := by unfold hiB; split <;> assumption
set_option maxHeartbeats 2000000 in
theorem three_go (a b c a1 b1 b2 c2 a3 b3 r : Nat) (w : World)
    (L1 : Hid (∀ w, Calls Tryd.prog 53 #[.float .f64 a, .float .f64 b] w fun e w' => e = .returned (.tuple #[.float .f64 a1, .float .f64 b1]) ∧ w' = w))
    (L2 : Hid (∀ w, Calls Tryd.prog 53 #[.float .f64 b1, .float .f64 c] w fun e w' => e = .returned (.tuple #[.float .f64 b2, .float .f64 c2]) ∧ w' = w))
    (L3 : Hid (∀ w, Calls Tryd.prog 53 #[.float .f64 a1, .float .f64 b2] w fun e w' => e = .returned (.tuple #[.float .f64 a3, .float .f64 b3]) ∧ w' = w))
    (T : Hid (Calls Tryd.prog 54 #[.slice (some ⟨w.heap.size, 0, none⟩) 3 3] (w.alloc (.cells #[.float .f64 a3, .float .f64 b3, .float .f64 c2] 27)) fun e w' => e = .returned (.float .f64 r) ∧ Hid (Below w.heap.size w w'))) :
    Calls Tryd.prog 33 #[.float .f64 a, .float .f64 b, .float .f64 c] w fun e w' => e = .returned (.float .f64 r) ∧ Hid (Below w.heap.size w w') := by
  go_enter Tryd.func33, Tryd.ntmps33
  go_wp2_with fail
  refine (L1.out _).mono ?_
  rintro e w' ⟨rfl, rfl⟩
  go_wp2_with fail
  refine (L2.out _).mono ?_
  rintro e w' ⟨rfl, rfl⟩
  go_wp2_with fail
  refine (L3.out _).mono ?_
  rintro e w' ⟨rfl, rfl⟩
  go_wp2_with fail
  refine T.out.mono ?_
  rintro e w' ⟨rfl, hb⟩
  go_wp2
  go_ret
  exact ⟨rfl, hb⟩
/-- THREE -/
theorem three_at (a b c : Nat) (w : World) (ha : a < 18446744073709551616) (hb : b < 18446744073709551616) (hc : c < 18446744073709551616) :
    Calls Tryd.prog 33 #[.float .f64 a, .float .f64 b, .float .f64 c] w fun e w' => e = .returned (.float .f64 (thB a b c)) ∧ Hid (Below w.heap.size w w') := by
  have l1 := lo_lt ha hb
  have l2 := hi_lt ha hb
  have l3 := lo_lt l2 hc
  have l4 := hi_lt l2 hc
  refine three_go a b c _ _ _ _ _ _ _ w (fun w => lesser_at a b w ha hb) (fun w => lesser_at _ c w l2 hc) (fun w => lesser_at _ _ w l1 l3) ?_
  have l5 := lo_lt l1 l3
  have l6 := hi_lt l1 l3
  unfold thB
  generalize loB (loB a b) (loB (hiB a b) c) = u at *
  generalize hiB (loB a b) (loB (hiB a b) c) = v at *
  generalize hiB (hiB a b) c = z at *
  have hf : IsFl (w.alloc (.cells #[.float .f64 u, .float .f64 v, .float .f64 z] 27)) (some ⟨w.heap.size, 0, none⟩) 3 (fun j => if j = 0 then u else if j = 1 then v else z) := by
    refine fl_new w _ _ _ 3 (fun k hk => ?_)
    rcases (show k = 0 ∨ k = 1 ∨ k = 2 by omega) with rfl | rfl | rfl
    · exact ⟨l5, rfl⟩
    · exact ⟨l6, rfl⟩
    · exact ⟨l4, rfl⟩
  refine (inTurn_at _ 3 3 _ _ (Nat.le_refl _) (by decide) hf).mono ?_
  rintro e w' ⟨he, k, rfl⟩
  refine ⟨?_, below_drewN ((Below.refl _ _).alloc (Nat.le_refl _) _) k⟩
  rw [he]
  have : leftB (fun j => if j = 0 then u else if j = 1 then v else z) 3 = plB (plB (qB u) v) z := rfl
  rw [this, plB_ql]
end Go.Proofs.YtjkanehlbklnnaaDoor

/-
  What Split, Product and Add of package twin return: walks over the program.
-/
namespace Go.Proofs.YtjkanehlbklnnaaDoor
open Go.RowKit Tf
attribute [local go_sem] run_bits run_from raw_feq raw_fne raw_flt raw_fgt

theorem mul_ok (a b p : Nat) (ha : a < 18446744073709551616) (hb : b < 18446744073709551616) (h : Ieee.double.mul a b = some p) : p < 18446744073709551616 ∧ isN p = false := by
  rcases mul_cases a b ha hb with ⟨fa, fb⟩ | h' | ⟨s, h'⟩
  · have hm := mul_d a b ha hb fa fb
    rw [h] at hm
    have hm := Option.some.inj hm
    have hl : min (rung 52 1074 (mv (mg a) * mv (mg b))) 9218868437227405312 ≤ 9218868437227405312 := Nat.min_le_right _ _
    generalize min (rung 52 1074 (mv (mg a) * mv (mg b))) 9218868437227405312 = q at *
    rw [hm, isN_false]
    cases (ng a ^^ ng b)
    · simp only [Bool.false_eq_true, if_false]; exact ⟨by omega, by rw [mg_of_lt (by omega)]; exact hl⟩
    · simp only [if_true]; exact ⟨by omega, by rw [mg_of_ge (by omega) (by omega)]; omega⟩
  · rw [h] at h'; cases h'
  · rw [h] at h'
    obtain rfl := Option.some.inj h'
    exact ⟨infW_lt s, isN_false.2 (by rw [infW_mg]; omega)⟩
theorem mg_canon (s : Nat) (n : isN s = false) : mg (canonB s) = mg s := by
  unfold canonB
  rw [n, if_neg (by decide)]
  by_cases c : mg s = 0
  · rw [if_pos c, c]; rfl
  · rw [if_neg c]

end Go.Proofs.YtjkanehlbklnnaaDoor

/-
  The small helpers of the statements on twin, and that their own test of life answers true: walks over the program.
-/
namespace Go.Proofs.YtjkanehlbklnnaaDoor
open Go.RowKit Tf
attribute [local go_sem] run_bits run_from raw_feq raw_fne raw_flt raw_fgt run_neg

set_option maxHeartbeats 400000 in
theorem rawBits_any (x : Nat) (w : World) :
    Calls Tryd.prog 16 #[.float .f64 x] w fun e w' => e = .returned (.int .u64 (x : Nat)) ∧ w' = w := by
  go_enter Tryd.func16, Tryd.ntmps16
  go_wp2
  go_ret
  exact ⟨rfl, rfl⟩
theorem aw1 : addB 4591870180066957722 4596373779694328218 = 4599075939470750516 := by decide +kernel
theorem aw2 : sumE 4591870180066957722 4596373779694328218 = 13582856476149415936 := by decide +kernel
theorem aw3 : splitH 4728779608772575232 = 4728779608739020800 := by decide +kernel
theorem aw4 : splitL 4728779608772575232 = 4607182418800017408 := by decide +kernel
theorem aw5 : mulB 4591870180066957722 4613937818241073152 = 4599075939470750516 := by decide +kernel
theorem aw6 : prodE 4591870180066957722 4613937818241073152 = 13582856476149415936 := by decide +kernel
theorem rawSame_refl (x : Nat) (w : World) :
    Calls Tryd.prog 29 #[.float .f64 x, .float .f64 x] w fun e w' => e = .returned (.bool true) ∧ w' = w := by
  have h := rawSame_any x x w
  have hs : sameB x x = true := by unfold sameB; simp
  rwa [hs] at h
theorem canon_canon (x : Nat) (_hx : x < 18446744073709551616) : canonB (canonB x) = canonB x := by
  unfold canonB
  by_cases c : isN x = true
  · rw [if_pos c]; decide
  · rw [if_neg c]
    by_cases c2 : mg x = 0
    · rw [if_pos c2]; decide
    · rw [if_neg c2, if_neg c, if_neg c2]
theorem canon_rnf (v : Int) : canonB (rn false v) = rn false v := canon_rn false v
theorem canon_addB (a b : Nat) (ha : a < 18446744073709551616) (hb : b < 18446744073709551616) : canonB (addB a b) = addB a b := by
  rcases add_cases a b ha hb with ⟨h1, h2⟩ | h | ⟨s, h⟩
  · rw [addB_fin a b ha hb h1 h2, canon_rnf]
  · rw [addB_none h]; decide
  · rw [addB_some h, infW_canon, infW_canon]
theorem canon_zero : canonB 0 = 0 := by decide
theorem canon_sumE (a b : Nat) : canonB (sumE a b) = sumE a b := by
  unfold sumE; split
  · exact canon_rnf _
  · exact canon_zero
theorem canon_mulB (a b : Nat) (ha : a < 18446744073709551616) (hb : b < 18446744073709551616) : canonB (mulB a b) = mulB a b := by
  cases h : Ieee.double.mul a b with
  | none => rw [mulB_none h]; decide
  | some p => rw [mulB_some h, canon_canon p (mul_ok a b p ha hb h).1]
theorem canon_prodE (a b : Nat) : canonB (prodE a b) = prodE a b := by
  unfold prodE; split
  · exact canon_rnf _
  · exact canon_zero
theorem mulB_lt (a b : Nat) (ha : a < 18446744073709551616) (hb : b < 18446744073709551616) : mulB a b < 18446744073709551616 := by
  cases h : Ieee.double.mul a b with
  | none => rw [mulB_none h]; decide
  | some p => rw [mulB_some h]; exact canonB_lt (mul_ok a b p ha hb h).1
end Go.Proofs.YtjkanehlbklnnaaDoor

/-
  What the reference's calls of layer 1 return: walks over the program.
-/
namespace Go.Proofs.YtjkanehlbklnnaaDoor
open Go.RowKit Tf
attribute [local go_sem] run_bits run_from raw_feq raw_fne raw_flt raw_fgt run_neg
end Go.Proofs.YtjkanehlbklnnaaDoor

/-
  The reference's order of floats and its sum of three: walks over the program.
-/
namespace Go.Proofs.YtjkanehlbklnnaaDoor
open Go.RowKit Tf
attribute [local go_sem] run_bits run_from raw_feq raw_fne raw_flt raw_fgt run_neg

end Go.Proofs.YtjkanehlbklnnaaDoor

/-
  One operation on floats, whatever comes of it; squares, areas, roots, and vectors in the one form: walks over the program.
-/
namespace Go.Proofs.YtjkanehlbklnnaaDoor
open Go.RowKit Tf
theorem run_store_float {P : Program} {w : World} {a : Addr} {m : Mode} (k : FloatKind) (x : Nat) : (store a (.float k x) m).run P w = stored P w a (.float k x) m := run_store P w a _ m rfl
attribute [local go_sem] run_bits run_from raw_feq raw_fne raw_flt raw_fgt run_neg run_store_float
theorem mul_ql (a b : Nat) : Ieee.double.mul (qB a) b = Ieee.double.mul a b := by
  cases h : isN a
  · rw [qB_of h]
  · rw [mul_nan a b (.inl h), mul_nan _ _ (.inl (by rw [qB_isN]; exact h))]
theorem mul_qr (a b : Nat) : Ieee.double.mul a (qB b) = Ieee.double.mul a b := by rw [Go.Proofs.YtjkanehlbklnnaaDoor.mul_comm, mul_ql, Go.Proofs.YtjkanehlbklnnaaDoor.mul_comm]
theorem mul_any {P : Program} (w : World) (s q x y : Nat) (h : IsQ s q) (k : IsQ x y) : ∃ r n, (∀ t, (binOp .mul t (.float .f64 s) (.float .f64 x)).run P w = .ok (.float .f64 r) (w.drewN n)) ∧ IsQ r (mlB q y) := by
  have e0 : mlB q y = mlB s x := by unfold mlB; rw [← h.2, ← k.2, mul_ql, mul_qr]
  rw [e0]
  cases e : Ieee.double.mul s x with
  | none => exact ⟨nanOf w s x, 1, fun t => run_nan_mul w t s x e, nanOf_lt _ _ _, by rw [mlB_none e]; exact qB_N (isN_nanOf _ _ _)⟩
  | some r => exact ⟨r, 0, fun t => run_float_arith w .mul t .f64 s x r e, (mul_fact e h.1 k.1).1, by rw [mlB_some e]; exact qB_of (mul_fact e h.1 k.1).2⟩
theorem negB_q {x : Nat} (hx : x < 18446744073709551616) (h : isN x = false) : isN (negB x) = false := by rw [negB_isN hx]; exact h
theorem addB_q {a b c d : Nat} (hb : b < 18446744073709551616) (hd : d < 18446744073709551616) (h : qB a = qB c) (k : qB b = qB d) : addB a (negB b) = addB c (negB d) := by
  cases h1 : isN a
  · have h2 : isN c = false := by rw [← qB_isN, ← h, qB_isN]; exact h1
    rw [qB_of h1, qB_of h2] at h
    subst h
    cases h3 : isN b
    · have h4 : isN d = false := by rw [← qB_isN, ← k, qB_isN]; exact h3
      rw [qB_of h3, qB_of h4] at k
      rw [k]
    · have h4 : isN d = true := by rw [← qB_isN, ← k, qB_isN]; exact h3
      rw [addB_none (add_nan _ _ (.inr (by rw [negB_isN hb]; exact h3))), addB_none (add_nan _ _ (.inr (by rw [negB_isN hd]; exact h4)))]
  · have h2 : isN c = true := by rw [← qB_isN, ← h, qB_isN]; exact h1
    rw [addB_none (add_nan _ _ (.inl h1)), addB_none (add_nan _ _ (.inl h2))]
/-- a word whose one form is q -/
def IsC (s q : Nat) : Prop := s < 18446744073709551616 ∧ canonB s = q
theorem sub_any {P : Program} (w : World) (s q x y : Nat) (h : IsQ s q) (k : IsQ x y) : ∃ r n, (∀ t, (binOp .sub t (.float .f64 s) (.float .f64 x)).run P w = .ok (.float .f64 r) (w.drewN n)) ∧ IsC r (sbB q y) := by
  have e0 : sbB q y = addB s (negB x) := addB_q k.lt k.1 (by rw [← h.2, qB_qB]) (by rw [← k.2, qB_qB])
  rw [e0]
  have ea := sub_add s x k.1
  cases e : Ieee.double.sub s x with
  | none =>
    refine ⟨nanOf w s x, 1, fun t => run_nan_sub w t s x e, nanOf_lt _ _ _, ?_⟩
    rw [addB_none (by rw [← ea]; exact e)]
    unfold canonB; rw [if_pos (isN_nanOf _ _ _)]
  | some r =>
    rw [e] at ea
    exact ⟨r, 0, fun t => run_float_arith w .sub t .f64 s x r e, (add_facts h.1 (negB_lt' k.1) ea.symm).1, by rw [addB_some ea.symm]⟩
theorem run_nan_div {P : Program} (w : World) (t : TypeId) (x y : Nat) (h : Ieee.double.div x y = none) :
    (binOp .quo t (.float .f64 x) (.float .f64 y)).run P w = .ok (.float .f64 (nanOf w x y)) w.drew := by
  have h' : FloatKind.f64.format.div x y = none := h
  simp [binOp, Op.floatArith, h', nanOf, Question.forced]
theorem div_lt {x y r : Nat} (h : Ieee.double.div x y = some r) : r < 18446744073709551616 := Ieee.Format.div_lt Ieee.double h
theorem div_any {P : Program} (w : World) (s x : Nat) : ∃ r n, (∀ t, (binOp .quo t (.float .f64 s) (.float .f64 x)).run P w = .ok (.float .f64 r) (w.drewN n)) ∧ IsC r (dvB s x) := by
  cases e : Ieee.double.div s x with
  | none => exact ⟨nanOf w s x, 1, fun t => run_nan_div w t s x e, nanOf_lt _ _ _, by rw [dvB_none e]; unfold canonB; rw [if_pos (isN_nanOf _ _ _)]⟩
  | some r => exact ⟨r, 0, fun t => run_float_arith w .quo t .f64 s x r e, div_lt e, by rw [dvB_some e]⟩
theorem sqrt_lt {x r : Nat} (h : Ieee.double.sqrt x = some r) : r < 18446744073709551616 := Ieee.Format.sqrt_lt Ieee.double h
theorem run_sqrt (x : Nat) (w : World) : ∃ r n, (callFunc 52 #[.float .f64 x]).run Tryd.prog w = .ok (.value (.float .f64 r)) (w.drewN n) ∧ IsC r (rtB x) := by
  have e0 : Extern.MathSqrt.sqrt #[.float .f64 x] = (match FloatKind.f64.format.sqrt x with | some r => pure (.float .f64 r) | none => do pure (.float .f64 (← choose (.nanBits .f64 x x)))) := rfl
  rw [run_callFunc_extern (e := Extern.MathSqrt.sqrt) Tryd.func52 (by kernel_rfl) (by kernel_rfl) (by kernel_rfl) (by kernel_rfl), e0]
  cases e : Ieee.double.sqrt x with
  | none =>
    refine ⟨nanOf w x x, 1, ?_, nanOf_lt _ _ _, by rw [rtB_none e]; unfold canonB; rw [if_pos (isN_nanOf _ _ _)]⟩
    have h' : FloatKind.f64.format.sqrt x = none := e
    rw [h']
    simp [nanOf, Question.forced]
    rfl
  | some r =>
    refine ⟨r, 0, ?_, sqrt_lt e, by rw [rtB_some e]⟩
    have h' : FloatKind.f64.format.sqrt x = some r := e
    rw [h']
    simp
    rfl
set_option maxHeartbeats 1000000 in
theorem square_at (x : Nat) (w : World) (hx : x < 18446744073709551616) :
    Calls Tryd.prog 34 #[.float .f64 x] w fun e w' => ∃ r n, e = .returned (.float .f64 r) ∧ w' = w.drewN n ∧ IsQ r (sqB x) := by
  obtain ⟨r, n, hr, hq⟩ := mul_any (P := Tryd.prog) w x _ x _ (IsQ.self hx) (IsQ.self hx)
  have HQ : Hid (IsQ r (sqB x)) := by unfold sqB mlB; rw [← mul_ql, ← mul_qr]; exact hq
  clear hq hx
  go_enter Tryd.func34, Tryd.ntmps34
  go_wp2
  go_ret
  exact ⟨r, n, rfl, rfl, HQ.out⟩
set_option maxHeartbeats 1000000 in
theorem area_at (x y u v : Nat) (w : World) (hx : x < 18446744073709551616) (hy : y < 18446744073709551616) (hu : u < 18446744073709551616) (hv : v < 18446744073709551616) :
    Calls Tryd.prog 36 #[.float .f64 x, .float .f64 y, .float .f64 u, .float .f64 v] w fun e w' => ∃ r n, e = .returned (.float .f64 r) ∧ w' = w.drewN n ∧ IsC r (sbB (mlB x v) (mlB y u)) := by
  obtain ⟨p, n, hp, pq⟩ := mul_any (P := Tryd.prog) w x _ v _ (IsQ.self hx) (IsQ.self hv)
  obtain ⟨q, m, hq, qq⟩ := mul_any (P := Tryd.prog) (w.drewN n) y _ u _ (IsQ.self hy) (IsQ.self hu)
  obtain ⟨r, l, hr, rr⟩ := sub_any (P := Tryd.prog) (w.drewN (n + m)) p _ q _ pq qq
  rw [World.drewN_drewN] at hq hr
  have HQ : Hid (IsC r (sbB (mlB x v) (mlB y u))) := by
    have e1 : mlB x v = mlB (qB x) (qB v) := by unfold mlB; rw [mul_ql, mul_qr]
    have e2 : mlB y u = mlB (qB y) (qB u) := by unfold mlB; rw [mul_ql, mul_qr]
    rw [e1, e2]; exact rr
  clear pq qq rr hx hy hu hv
  go_enter Tryd.func36, Tryd.ntmps36
  go_wp2
  go_ret
  exact ⟨r, _, rfl, rfl, HQ.out⟩
set_option maxHeartbeats 1000000 in
theorem sqrt_at (x : Nat) (w : World) :
    Calls Tryd.prog 32 #[.float .f64 x] w fun e w' => ∃ r n, e = .returned (.float .f64 r) ∧ w' = w.drewN n ∧ IsC r (rtB x) := by
  obtain ⟨r, n, hr, hq⟩ := run_sqrt x w
  have HQ := hid hq
  clear hq
  go_enter Tryd.func32, Tryd.ntmps32
  go_wp2
  go_ret
  exact ⟨r, n, rfl, rfl, HQ.out⟩
set_option maxHeartbeats 2000000 in
theorem vcanon_at (x y z a b c : Nat) (w : World) (hx : IsC x a) (hy : IsC y b) (hz : IsC z c) :
    Calls Tryd.prog 35 #[.float .f64 x, .float .f64 y, .float .f64 z] w fun e w' => e = .returned (.agg #[.float .f64 a, .float .f64 b, .float .f64 c]) ∧ Below w.heap.size w w' := by
  obtain ⟨x1, x2⟩ := hx
  obtain ⟨y1, y2⟩ := hy
  obtain ⟨z1, z2⟩ := hz
  have CX : Hid (∀ w, Calls Tryd.prog 31 #[.float .f64 x] w fun e w' => e = .returned (.float .f64 a) ∧ w' = w) := fun w => by rw [← x2]; exact canon_any x w x1
  have CY : Hid (∀ w, Calls Tryd.prog 31 #[.float .f64 y] w fun e w' => e = .returned (.float .f64 b) ∧ w' = w) := fun w => by rw [← y2]; exact canon_any y w y1
  have CZ : Hid (∀ w, Calls Tryd.prog 31 #[.float .f64 z] w fun e w' => e = .returned (.float .f64 c) ∧ w' = w) := fun w => by rw [← z2]; exact canon_any z w z1
  have A0 := hid (bl1 w (.cells #[.float .f64 0, .float .f64 0, .float .f64 0] 30))
  have r0 := heap_alloc_new w (.cells #[.float .f64 0, .float .f64 0, .float .f64 0] 30)
  have R0 := hid r0
  clear x1 x2 y1 y2 z1 z2 r0
  go_enter Tryd.func35, Tryd.ntmps35
  go_wp2_with fail
  refine (CX.out _).mono ?_
  rintro e W ⟨rfl, hW⟩
  have r1 : W.heap[w.heap.size]? = some (.cells #[.float .f64 0, .float .f64 0, .float .f64 0] 30) := by rw [hW]; exact R0.out
  have A1 : Hid (Ab w W) := by rw [hW]; exact A0.out
  obtain ⟨⟨o0, o1, o2⟩, o3, o4, o5⟩ := rowfacts r1
  have R1 := hid r1
  clear hW r1 A0 R0
  go_wp2_with fail
  refine (CY.out _).mono ?_
  rintro e W ⟨rfl, rfl⟩
  go_wp2_with fail
  refine (CZ.out _).mono ?_
  rintro e W ⟨rfl, rfl⟩
  go_wp2
  refine bodyPost_ret ?_ rfl ⟨rfl, ?_⟩
  · exact results_cell_row Tryd.results35 _ _ w.heap.size _ _ (0, 0) _ rfl (row3 R1.out) Tryd.underlying30 rfl (by kernel_rfl)
  · exact ((Ab.setk A1.out (Nat.le_refl _) _).setk (Nat.le_refl _) _).setk (Nat.le_refl _) _
end Go.Proofs.YtjkanehlbklnnaaDoor
