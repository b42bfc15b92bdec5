/-
  Some of the texts of this proof, one behind the other.
-/
import Derived.WalkKit
import Derived.Below
import Derived.Deep.Draws
import Derived.Deep.RegionHeld3
import Derived.Test.YtjgbaenihkplpaaDoorRows
import Derived.Test.YtjgbaenihkplpaaDoorZ00
import Derived.Test.YtjgbaenihkplpaaDoorZ02
import Derived.ProofKit
import Derived.OpenShut
import Derived.WalkLawsBesides
import Derived.Stop.Joined
import Derived.Carry
import Derived.Lib.SmallJoins
import Derived.Deep.Slices
import Derived.KernelRfl
/-
  What lies in memory, and what a call leaves as it was (no program).
-/
namespace Go.Proofs.YtjgbaenihkplpaaDoor
open Go.RowKit
theorem hid {p : Prop} (h : p) : Hid p := h
theorem heap_alloc3_new (w : World) (A B C : Obj) : (((w.alloc A).alloc B).alloc C).heap[w.heap.size + 2]? = some C := by
  have h := heap_alloc_new ((w.alloc A).alloc B) C
  have e : ((w.alloc A).alloc B).heap.size = w.heap.size + 2 := by
    show ((w.heap.push A).push B).size = _
    simp
  rwa [e] at h
theorem bl1 (w : World) (A : Obj) : Below w.heap.size w (w.alloc A) := (Below.refl _ _).alloc (Nat.le_refl _) _
theorem bl2 (w : World) (A B : Obj) : Below w.heap.size w ((w.alloc A).alloc B) := (bl1 w A).alloc (by simp) _
theorem bl3 (w : World) (A B C : Obj) : Below w.heap.size w (((w.alloc A).alloc B).alloc C) := (bl2 w A B).alloc (by simp; omega) _
/-- all blocks of W are in w as they were -/
def Ab (W w : World) : Prop := Below W.heap.size W w
theorem Ab.refl (W : World) : Ab W W := Below.refl _ _
theorem Ab.size {W w : World} (h : Ab W w) : W.heap.size ≤ w.heap.size := Below.size h
theorem Ab.drew {W w : World} (h : Ab W w) : Ab W w.drew := Below.drew h
theorem Ab.alloc {W w : World} (h : Ab W w) (o : Obj) : Ab W (w.alloc o) := Below.alloc h h.size o
theorem Ab.call {W u w : World} (h : Ab W u) (b : Below u.heap.size u w) : Ab W w := h.trans (b.mono h.size)
theorem Ab.set {W w : World} (h : Ab W w) {p : Addr} (hp : W.heap.size ≤ p.block) (u : Value) : Ab W (w.setCell p u) := Below.setCell h hp u
theorem Ab.heap {W w : World} (h : Ab W w) {g : Nat} {o : Obj} (hg : W.heap[g]? = some o) : w.heap[g]? = some o := by
  have hlt : g < W.heap.size := by
    rcases Nat.lt_or_ge g W.heap.size with h1 | h1
    · exact h1
    · rw [Array.getElem?_eq_none h1] at hg; cases hg
  exact (Below.block h g hlt).trans hg
theorem free_row {w : World} {g : Nat} {cs : Array Value} {T : TypeId} (h : w.heap[g]? = some (.cells cs T (0, 0))) (k : Nat) : w.frozen? ⟨g, k, none⟩ = false := by
  simp [World.frozen?, h]
theorem heap_at (w : World) (o : Obj) (k : Nat) (h : k = w.heap.size) : (w.alloc o).heap[k]? = some o := by
  rw [h]; exact heap_alloc_new w o
theorem heap_drew (w : World) (k : Nat) : w.drew.heap[k]? = w.heap[k]? := rfl
theorem Ab.trans {a b c : World} (h : Ab a b) (k : Ab b c) : Ab a c := h.call k
theorem Ab.setRow {W w : World} (h : Ab W w) {g : Nat} (hg : W.heap.size ≤ g) (cs : Array Value) : Ab W (w.setRow g cs) :=
  ⟨h.os, h.tape, h.output, by simpa using Below.size h, fun k hk => by rw [setRow_other _ _ _ _ (by omega)]; exact Below.block h k hk⟩
/-- as Ab, but for block g, which is a row of n cells of type T -/
def Abx (W : World) (g n : Nat) (T : TypeId) (w : World) : Prop :=
  (w.os = W.os ∧ w.tape = W.tape ∧ w.output = W.output ∧ W.heap.size ≤ w.heap.size ∧ ∀ k, k < W.heap.size → k ≠ g → w.heap[k]? = W.heap[k]?) ∧ ∃ cs : Array Value, cs.size = n ∧ w.heap[g]? = some (.cells cs T)
/-- what lies in a cell -/
def rv (w : World) (g k : Nat) : Value := (w.cell? ⟨g, k, none⟩).getD (.bool false)
theorem Ab.x {W w : World} (h : Ab W w) {g n : Nat} {T : TypeId} {cs : Array Value} (hn : cs.size = n) (hg : W.heap[g]? = some (.cells cs T)) : Abx W g n T w :=
  ⟨⟨Below.os h, Below.tape h, Below.output h, Below.size h, fun k hk _ => Below.block h k hk⟩, cs, hn, h.heap hg⟩
theorem Abx.drew {W w : World} {g n : Nat} {T : TypeId} (h : Abx W g n T w) : Abx W g n T w.drew := h
theorem Abx.alloc {W w : World} {g n : Nat} {T : TypeId} (h : Abx W g n T w) (o : Obj) : Abx W g n T (w.alloc o) := by
  obtain ⟨⟨h1, h2, h3, h4, h5⟩, cs, h6, h7⟩ := h
  refine ⟨⟨h1, h2, h3, by simp; omega, fun k hk hne => (Below.heap_alloc _ _ _ (by omega)).trans (h5 k hk hne)⟩, cs, h6, (Below.heap_alloc _ _ _ (lt_of_block h7)).trans h7⟩
theorem Abx.call {W u w : World} {g n : Nat} {T : TypeId} (h : Abx W g n T u) (b : Below u.heap.size u w) : Abx W g n T w := by
  obtain ⟨⟨h1, h2, h3, h4, h5⟩, cs, h6, h7⟩ := h
  exact ⟨⟨b.os.trans h1, b.tape.trans h2, b.output.trans h3, Nat.le_trans h4 b.size, fun k hk hne => (b.block k (by omega)).trans (h5 k hk hne)⟩, cs, h6, (b.block g (lt_of_block h7)).trans h7⟩
theorem one_set {w : World} {g k : Nat} {cs : Array Value} {v : Value} {T : TypeId} (h : w.heap[g]? = some (.cells cs T)) : (w.setCell ⟨g, k, none⟩ v).heap[g]? = some (.cells (cs.setIfInBounds k v) T) := by
  show (w.heap.modify g _)[g]? = _
  rw [Array.getElem?_modify, if_pos rfl, h]
  rfl
theorem Abx.set {W w : World} {g n : Nat} {T : TypeId} (h : Abx W g n T w) (k : Nat) (v : Value) : Abx W g n T (w.setCell ⟨g, k, none⟩ v) := by
  obtain ⟨⟨h1, h2, h3, h4, h5⟩, cs, h6, h7⟩ := h
  refine ⟨⟨h1, h2, h3, by simpa [World.setCell] using h4, fun i hi hne => (Below.heap_setCell _ _ _ _ hne).trans (h5 i hi hne)⟩, cs.setIfInBounds k v, by simpa using h6, one_set h7⟩
theorem Abx.heap {W w : World} {g n : Nat} {T : TypeId} (h : Abx W g n T w) {k : Nat} {o : Obj} (hne : k ≠ g) (hk : W.heap[k]? = some o) : w.heap[k]? = some o := by
  have hlt : k < W.heap.size := by
    rcases Nat.lt_or_ge k W.heap.size with h1 | h1
    · exact h1
    · rw [Array.getElem?_eq_none h1] at hk; cases hk
  exact (h.1.2.2.2.2 k hlt hne).trans hk
theorem Abx.free {W w : World} {g n : Nat} {T : TypeId} (h : Abx W g n T w) (k : Nat) : w.frozen? ⟨g, k, none⟩ = false := by
  obtain ⟨_, cs, _, h7⟩ := h
  exact free_row h7 k
theorem Abx.some {W w : World} {g n : Nat} {T : TypeId} (h : Abx W g n T w) {k : Nat} (hk : k < n) : w.cell? ⟨g, k, none⟩ = some (rv w g k) := by
  obtain ⟨_, cs, h6, h7⟩ := h
  have e := cell_of_row w g k cs T (0, 0) h7
  rw [Array.getElem?_eq_getElem (by omega)] at e
  unfold rv
  rw [e]
  rfl
theorem Abx.ab {w0 W w : World} {g n : Nat} {T : TypeId} (h : Abx W g n T w) (a : Ab w0 W) (hg : w0.heap.size ≤ g) : Ab w0 w := by
  obtain ⟨⟨h1, h2, h3, h4, h5⟩, _⟩ := h
  exact ⟨h1.trans a.os, h2.trans a.tape, h3.trans a.output, Nat.le_trans (Below.size a) h4, fun k hk => (h5 k (Nat.lt_of_lt_of_le hk (Below.size a)) (by omega)).trans (a.block k hk)⟩
theorem set3 {W w : World} {g : Nat} {x y z : Value} {T : TypeId} (h : Abx W g 3 T w) :
    (((w.setCell ⟨g, 0, none⟩ x).setCell ⟨g, 1, none⟩ y).setCell ⟨g, 2, none⟩ z).heap[g]? = some (.cells #[x, y, z] T) := by
  obtain ⟨_, cs, h6, h⟩ := h
  obtain ⟨a, b, c, rfl⟩ : ∃ a b c, cs = #[a, b, c] := by
    rcases cs with ⟨l⟩
    match l, h6 with
    | [a, b, c], _ => exact ⟨a, b, c, rfl⟩
  have h1 := one_set (v := x) (k := 0) h
  have h2 := one_set (v := y) (k := 1) h1
  have h3 := one_set (v := z) (k := 2) h2
  simpa using h3
theorem Ab.setk {W w : World} (h : Ab W w) {g k : Nat} (hp : W.heap.size ≤ g) (u : Value) : Ab W (w.setCell ⟨g, k, none⟩ u) := Below.setCell h hp u
/-- a point that was laid just ahead of a call -/
theorem Ab.drewN {W w : World} (h : Ab W w) (k : Nat) : Ab W (w.drewN k) := by
  induction k with
  | zero => exact h
  | succ k ih => exact ih.drew
theorem newrow {u w1 : World} {c : Array Value} {T : TypeId} (b : Below (u.alloc (.cells c T)).drew.heap.size (u.alloc (.cells c T)).drew w1) : w1.heap[u.heap.size]? = some (.cells c T) :=
  (b.block _ (by show u.heap.size < (u.alloc _).heap.size; simp)).trans (heap_alloc_new u _)
theorem newrow' {u w1 : World} {c : Array Value} {T : TypeId} (b : Below (u.alloc (.cells c T)).heap.size (u.alloc (.cells c T)) w1) : w1.heap[u.heap.size]? = some (.cells c T) :=
  (b.block _ (by simp)).trans (heap_alloc_new u _)
theorem rowfacts {w : World} {g : Nat} {x y z : Value} {T : TypeId} (r : w.heap[g]? = some (.cells #[x, y, z] T)) : (w.frozen? ⟨g, 0, none⟩ = false ∧ w.frozen? ⟨g, 1, none⟩ = false ∧ w.frozen? ⟨g, 2, none⟩ = false) ∧ w.cell? ⟨g, 0, none⟩ = some x ∧ w.cell? ⟨g, 1, none⟩ = some y ∧ w.cell? ⟨g, 2, none⟩ = some z :=
  ⟨⟨free_row r 0, free_row r 1, free_row r 2⟩, cell_of_row _ _ 0 _ _ _ r, cell_of_row _ _ 1 _ _ _ r, cell_of_row _ _ 2 _ _ _ r⟩
theorem row3 {w : World} {g : Nat} {a b c x y z : Value} {T : TypeId} (h : w.heap[g]? = some (.cells #[a, b, c] T)) :
    (((w.setCell ⟨g, 0, none⟩ x).setCell ⟨g, 1, none⟩ y).setCell ⟨g, 2, none⟩ z).heap[g]? = some (.cells #[x, y, z] T) := by
  have h1 := one_set (v := x) (k := 0) h
  have h2 := one_set (v := y) (k := 1) h1
  have h3 := one_set (v := z) (k := 2) h2
  simpa using h3
end Go.Proofs.YtjgbaenihkplpaaDoor

/-
  What the calls of package bits, and the small helpers of the statements, return: walks over the program.
-/
namespace Go.Proofs.YtjgbaenihkplpaaDoor
open Go.RowKit Tf

theorem run_bits (b : Nat) (w : World) : (callFunc 32 #[.float .f64 b]).run Tryd.prog w = .ok (.value (.int .u64 b)) w := by
  rw [run_callFunc_extern (e := Extern.MathFloatBits.float64bits) Tryd.func32 (by kernel_rfl) (by kernel_rfl) (by kernel_rfl) (by kernel_rfl)]
  rfl
theorem run_from (n : Int) (w : World) : (callFunc 65 #[.int .u64 n]).run Tryd.prog w = .ok (.value (.float .f64 n.toNat)) w := by
  rw [run_callFunc_extern (e := Extern.MathFloatBits.float64frombits) Tryd.func65 (by kernel_rfl) (by kernel_rfl) (by kernel_rfl) (by kernel_rfl)]
  rfl
theorem raw_feq (a b : Nat) : (FloatKind.f64.format.order a b == some Ordering.eq) = feq a b := rfl
theorem raw_fne (a b : Nat) : (FloatKind.f64.format.order a b != some Ordering.eq) = !feq a b := rfl
theorem raw_flt (a b : Nat) : (FloatKind.f64.format.order a b == some Ordering.lt) = flt a b := rfl
theorem raw_fgt (a b : Nat) : (FloatKind.f64.format.order a b == some Ordering.gt) = fgt a b := rfl
attribute [local go_sem] run_bits run_from raw_feq raw_fne raw_flt raw_fgt

theorem ret_int {k : IntKind} {a b : Int} (h : a = b) : Ending.returned (.int k a) = .returned (.int k b) := by rw [h]
theorem ret_bool {a b : Bool} (h : a = b) : Ending.returned (.bool a) = .returned (.bool b) := by rw [h]
theorem ret_flt {a b : Nat} (h : a = b) : Ending.returned (.float .f64 a) = .returned (.float .f64 b) := by rw [h]

set_option maxHeartbeats 400000 in
theorem magnitudeBits_any (x : Nat) (w : World) (hx : x < 18446744073709551616) :
    Calls Tryd.prog 64 #[.float .f64 x] w fun e w' => e = .returned (.int .u64 (mg x : Nat)) ∧ w' = w := by
  go_enter Tryd.func64, Tryd.ntmps64
  go_wp2
  go_ret
  exact ⟨ret_int (andNot_sign x hx), rfl⟩
set_option maxHeartbeats 400000 in
theorem place_any (x : Nat) (w : World) (hx : x < 18446744073709551616) :
    Calls Tryd.prog 66 #[.float .f64 x] w fun e w' => e = .returned (.int .u64 (placeB x : Nat)) ∧ w' = w := by
  have hs := and_sign x hx
  cases hn : ng x
  · rw [hn] at hs
    have hl := lt_of_ng hn
    have ho : Hid (bits .or .u64 (x : Int) 9223372036854775808 = ((x + 9223372036854775808 : Nat) : Int)) := or_sign x hl
    have hp : Hid (placeB x = x + 9223372036854775808) := by unfold placeB; rw [hn]; rfl
    go_enter Tryd.func66, Tryd.ntmps66
    go_wp2
    go_ret
    exact ⟨ret_int (by rw [ho.out, hp.out]), rfl⟩
  · rw [hn] at hs
    have ho : Hid (bits .xor .u64 IntKind.u64.max (x : Int) = ((18446744073709551615 - x : Nat) : Int)) := not_all x hx
    have hp : Hid (placeB x = 18446744073709551615 - x) := by unfold placeB; rw [hn]; rfl
    go_enter Tryd.func66, Tryd.ntmps66
    go_wp2
    go_ret
    exact ⟨ret_int (by rw [hp.out]; exact ho.out), rfl⟩
set_option maxHeartbeats 400000 in
theorem isNaN_any (x : Nat) (w : World) (hx : x < 18446744073709551616) :
    Calls Tryd.prog 38 #[.float .f64 x] w fun e w' => e = .returned (.bool (isN x)) ∧ w' = w := by
  go_enter Tryd.func38, Tryd.ntmps38
  go_wp2_with (go_at_call 64; refine (magnitudeBits_any _ _ hx).mono ?_; rintro e w' ⟨rfl, rfl⟩)
  go_ret
  exact ⟨ret_bool (by unfold isN; exact decide_eq_decide.2 (by omega)), rfl⟩
set_option maxHeartbeats 400000 in
theorem quietNaN_any (w : World) :
    Calls Tryd.prog 39 #[] w fun e w' => e = .returned (.float .f64 quiet) ∧ w' = w := by
  go_enter Tryd.func39, Tryd.ntmps39
  go_wp2
  go_ret
  exact ⟨rfl, rfl⟩

theorem feq_zero (x : Nat) (hx : x < 18446744073709551616) : feq x 0 = decide (mg x = 0) := by
  have h := feq_rk x 0 hx (by omega)
  have e : rk 0 = 0 := by decide
  have n : isN 0 = false := by decide
  rw [h, e, n]
  cases hN : isN x
  · unfold rk
    cases ng x <;> simp
  · have := isN_true.1 hN
    have : ¬ mg x = 0 := by omega
    simp [this]

theorem magnitudeBits_at (x m : Nat) (w : World) (hx : x < 18446744073709551616) (hm : Hid (mg x = m)) :
    Calls Tryd.prog 64 #[.float .f64 x] w fun e w' => e = .returned (.int .u64 (m : Nat)) ∧ w' = w := by
  have := magnitudeBits_any x w hx
  rwa [hm.out] at this
set_option maxHeartbeats 1000000 in
set_option maxRecDepth 100000 in
theorem canon_any (x : Nat) (w : World) (hx : x < 18446744073709551616) :
    Calls Tryd.prog 37 #[.float .f64 x] w fun e w' => e = .returned (.float .f64 (canonB x)) ∧ w' = w := by
  have hc : Hid (canonB x = if isN x then quiet else if mg x = 0 then 0 else x) := rfl
  have hz := feq_zero x hx
  cases hN : isN x
  · have HN := hid hN
    by_cases c : mg x = 0
    · have H : Hid (mg x = 0) := c
      rw [c] at hz; simp only [decide_true] at hz
      clear c
      go_enter Tryd.func37, Tryd.ntmps37
      go_wp2_with (first | (go_at_call 38; refine (isNaN_any _ _ hx).mono ?_; rintro e w' ⟨rfl, rfl⟩) | (go_at_call 39; refine (quietNaN_any _).mono ?_; rintro e w' ⟨rfl, rfl⟩))
      go_ret
      exact ⟨ret_flt (by rw [hc.out, HN.out, H.out]; rfl), rfl⟩
    · simp only [c, decide_false] at hz
      go_enter Tryd.func37, Tryd.ntmps37
      go_wp2_with (first | (go_at_call 38; refine (isNaN_any _ _ hx).mono ?_; rintro e w' ⟨rfl, rfl⟩) | (go_at_call 39; refine (quietNaN_any _).mono ?_; rintro e w' ⟨rfl, rfl⟩))
      go_ret
      exact ⟨ret_flt (by rw [hc.out, HN.out, if_neg c]; rfl), rfl⟩
  · have HN := hid hN
    go_enter Tryd.func37, Tryd.ntmps37
    go_wp2_with (first | (go_at_call 38; refine (isNaN_any _ _ hx).mono ?_; rintro e w' ⟨rfl, rfl⟩) | (go_at_call 39; refine (quietNaN_any _).mono ?_; rintro e w' ⟨rfl, rfl⟩))
    go_ret
    exact ⟨ret_flt (by rw [hc.out, HN.out]; rfl), rfl⟩

end Go.Proofs.YtjgbaenihkplpaaDoor

/-
  What Down, Ulp, Order, Max, Min and Between of package bits return, and the small helpers of the statements: walks over the program.
-/
namespace Go.Proofs.YtjgbaenihkplpaaDoor
open Go.RowKit Tf
attribute [local go_sem] run_bits run_from raw_feq raw_fne raw_flt raw_fgt

theorem xor_lt (x : Nat) (h : x < 2 ^ 63) : x ^^^ 2 ^ 63 = x + 2 ^ 63 := by
  apply Nat.eq_of_testBit_eq
  intro i
  rw [Nat.testBit_xor, Nat.testBit_two_pow, Nat.add_comm x]
  by_cases c : i = 63
  · subst c
    rw [Nat.testBit_two_pow_add_eq]
    have : x.testBit 63 = false := Nat.testBit_lt_two_pow h
    simp [this]
  · by_cases c2 : i < 63
    · rw [Nat.testBit_two_pow_add_gt c2]
      have : ¬ 63 = i := by omega
      simp [this]
    · have h1 : x.testBit i = false := Nat.testBit_lt_two_pow (Nat.lt_of_lt_of_le h (Nat.pow_le_pow_right (by omega) (by omega)))
      have h2 : (2 ^ 63 + x).testBit i = false := Nat.testBit_lt_two_pow (Nat.lt_of_lt_of_le (show 2 ^ 63 + x < 2 ^ 64 by omega) (Nat.pow_le_pow_right (by omega) (by omega)))
      have : ¬ 63 = i := by omega
      rw [h1, h2]; simp [this]
theorem negFloat_eq (x : Nat) (hx : x < 18446744073709551616) : Op.negFloat .f64 x = negB x := by
  unfold Op.negFloat negB
  rw [show FloatKind.f64.format.exponentBits + FloatKind.f64.format.fractionBits = 63 from rfl]
  cases h : ng x
  · have := lt_of_ng h
    rw [xor_lt x (by omega)]; simp only [Bool.false_eq_true, if_false]
  · have := ge_of_ng h
    have e := xor_lt (x - 9223372036854775808) (by omega)
    rw [show x - 9223372036854775808 + 2 ^ 63 = x by omega] at e
    have e2 : x ^^^ 2 ^ 63 = x - 9223372036854775808 := by
      rw (occs := .pos [1]) [← e]
      rw [Nat.xor_assoc, Nat.xor_self, Nat.xor_zero]
    rw [e2]; simp only [if_true]
theorem run_neg (b : Nat) : Op.unary .neg (.float .f64 b) = pure (.float .f64 (Op.negFloat .f64 b)) := rfl
attribute [local go_sem] run_neg

theorem isN_negB (x : Nat) (hx : x < 18446744073709551616) : isN (negB x) = isN x := by
  unfold isN negB
  cases h : ng x
  · have := lt_of_ng h
    have e : mg (x + 9223372036854775808) = mg x := by unfold mg; omega
    simp [e]
  · have := ge_of_ng h
    have e : mg (x - 9223372036854775808) = mg x := by unfold mg; omega
    simp [e]

theorem feq_self_succ (m : Nat) (h : m < 9218868437227405312) : feq (m + 1) m = false := by
  rw [feq_rk (m + 1) m (by omega) (by omega)]
  unfold rk
  rw [ng_of_lt (show m + 1 < 9223372036854775808 by omega), ng_of_lt (show m < 9223372036854775808 by omega), mg_of_lt (show m + 1 < 9223372036854775808 by omega), mg_of_lt (show m < 9223372036854775808 by omega)]
  have : decide (((m + 1 : Nat) : Int) = (m : Int)) = false := by simp; omega
  simp only [Bool.false_eq_true, if_false, this, Bool.and_false]
theorem sub_top : Ieee.double.sub 9218868437227405312 9218868437227405311 = some 9218868437227405312 :=
  sub_inf_fin _ _ (by decide) (by decide) (by decide)

end Go.Proofs.YtjgbaenihkplpaaDoor

/-
  What Order, Max, Min and Between of package bits return, and the small helpers of the statements: walks over the program.
-/
namespace Go.Proofs.YtjgbaenihkplpaaDoor
open Go.RowKit Tf
attribute [local go_sem] run_bits run_from raw_feq raw_fne raw_flt raw_fgt run_neg

def sameB (a b : Nat) : Bool := decide (a = b)

set_option maxHeartbeats 400000 in
theorem rawSame_any (a b : Nat) (w : World) :
    Calls Tryd.prog 13 #[.float .f64 a, .float .f64 b] w fun e w' => e = .returned (.bool (sameB a b)) ∧ w' = w := by
  go_enter Tryd.func13, Tryd.ntmps13
  go_wp2
  go_ret
  refine ⟨ret_bool ?_, rfl⟩
  unfold sameB
  by_cases h : a = b
  · subst h; simp
  · have : ¬ (a : Int) = (b : Int) := by omega
    simp only [h, decide_false, beq_eq_false_iff_ne, ne_eq, this, not_false_eq_true]
set_option maxHeartbeats 400000 in
theorem order_at (a b p q : Nat) (w : World) (ha : a < 18446744073709551616) (hb : b < 18446744073709551616) (hp : Hid (placeB a = p)) (hq : Hid (placeB b = q)) :
    Calls Tryd.prog 40 #[.float .f64 a, .float .f64 b] w fun e w' => e = .returned (.int .i64 (if p < q then -1 else if q < p then 1 else 0)) ∧ w' = w := by
  have pa : ∀ w, Calls Tryd.prog 66 #[.float .f64 a] w fun e w' => e = .returned (.int .u64 (p : Nat)) ∧ w' = w := by
    intro w; rw [← hp.out]; exact place_any a w ha
  have pb : ∀ w, Calls Tryd.prog 66 #[.float .f64 b] w fun e w' => e = .returned (.int .u64 (q : Nat)) ∧ w' = w := by
    intro w; rw [← hq.out]; exact place_any b w hb
  have PA := hid pa
  have PB := hid pb
  clear pa pb
  by_cases c1 : p < q
  · rw [if_pos c1]
    go_enter Tryd.func40, Tryd.ntmps40
    go_wp2_with fail
    refine (PA.out _).mono ?_
    rintro e w' ⟨rfl, rfl⟩
    go_wp2_with fail
    refine (PB.out _).mono ?_
    rintro e w' ⟨rfl, rfl⟩
    go_wp2
    go_ret
    exact ⟨rfl, rfl⟩
  · rw [if_neg c1]
    by_cases c2 : q < p
    · rw [if_pos c2]
      go_enter Tryd.func40, Tryd.ntmps40
      go_wp2_with fail
      refine (PA.out _).mono ?_
      rintro e w' ⟨rfl, rfl⟩
      go_wp2_with fail
      refine (PB.out _).mono ?_
      rintro e w' ⟨rfl, rfl⟩
      go_wp2
      go_ret
      exact ⟨rfl, rfl⟩
    · rw [if_neg c2]
      go_enter Tryd.func40, Tryd.ntmps40
      go_wp2_with fail
      refine (PA.out _).mono ?_
      rintro e w' ⟨rfl, rfl⟩
      go_wp2_with fail
      refine (PB.out _).mono ?_
      rintro e w' ⟨rfl, rfl⟩
      go_wp2
      go_ret
      exact ⟨rfl, rfl⟩
theorem order_any (a b : Nat) (w : World) (ha : a < 18446744073709551616) (hb : b < 18446744073709551616) :
    Calls Tryd.prog 40 #[.float .f64 a, .float .f64 b] w fun e w' => e = .returned (.int .i64 (orderB a b)) ∧ w' = w :=
  order_at a b (placeB a) (placeB b) w ha hb rfl rfl
theorem orderB_at (a b : Nat) (o : Int) (w : World) (ha : a < 18446744073709551616) (hb : b < 18446744073709551616) (ho : Hid (orderB a b = o)) :
    Calls Tryd.prog 40 #[.float .f64 a, .float .f64 b] w fun e w' => e = .returned (.int .i64 o) ∧ w' = w := by
  rw [← ho.out]; exact order_any a b w ha hb

theorem orderB_lt (a b : Nat) : orderB a b < 0 ↔ placeB a < placeB b := by
  unfold orderB; split
  · simp_all
  · split <;> simp_all
theorem orderB_gt (a b : Nat) : 0 < orderB a b ↔ placeB b < placeB a := by
  unfold orderB; split
  · simp; omega
  · split <;> simp_all

set_option maxHeartbeats 400000 in
theorem max_any (a b : Nat) (w : World) (ha : a < 18446744073709551616) (hb : b < 18446744073709551616) :
    Calls Tryd.prog 20 #[.float .f64 a, .float .f64 b] w fun e w' => e = .returned (.float .f64 (maxB a b)) ∧ w' = w := by
  obtain ⟨r, hr⟩ : ∃ r, maxB a b = r := ⟨_, rfl⟩
  obtain ⟨o, ho⟩ : ∃ o, orderB a b = o := ⟨_, rfl⟩
  have h1 := orderB_lt a b
  rw [ho] at h1
  have HO : Hid (orderB a b = o) := ho
  have HR : Hid (r = if isN a || isN b then quiet else if o < 0 then b else a) := by
    show r = _
    rw [← hr]; unfold maxB; simp only [h1]
  rw [hr]
  clear hr ho h1
  cases nA : isN a
  · cases nB : isN b
    · have h := HR.out
      rw [nA, nB] at h
      simp only [Bool.or_self, Bool.false_eq_true, if_false] at h
      by_cases c : o < 0
      · have e1 : decide (o < 0) = true := by simp; omega
        rw [if_pos c] at h
        rw [h]
        clear c HR h
        go_enter Tryd.func20, Tryd.ntmps20
        go_wp2_with fail
        refine (isNaN_any a _ ha).mono ?_
        rintro e w' ⟨rfl, rfl⟩
        go_wp2_with fail
        refine (isNaN_any b _ hb).mono ?_
        rintro e w' ⟨rfl, rfl⟩
        go_wp2_with fail
        refine (orderB_at a b o _ ha hb HO).mono ?_
        rintro e w' ⟨rfl, rfl⟩
        go_wp2
        go_ret
        exact ⟨rfl, rfl⟩
      · have e1 : decide (o < 0) = false := by simp; omega
        rw [if_neg c] at h
        rw [h]
        clear c HR h
        go_enter Tryd.func20, Tryd.ntmps20
        go_wp2_with fail
        refine (isNaN_any a _ ha).mono ?_
        rintro e w' ⟨rfl, rfl⟩
        go_wp2_with fail
        refine (isNaN_any b _ hb).mono ?_
        rintro e w' ⟨rfl, rfl⟩
        go_wp2_with fail
        refine (orderB_at a b o _ ha hb HO).mono ?_
        rintro e w' ⟨rfl, rfl⟩
        go_wp2
        go_ret
        exact ⟨rfl, rfl⟩
    · have h := HR.out
      rw [nA, nB] at h
      simp only [Bool.or_true, if_true] at h
      rw [h]
      clear HR h
      go_enter Tryd.func20, Tryd.ntmps20
      go_wp2_with fail
      refine (isNaN_any a _ ha).mono ?_
      rintro e w' ⟨rfl, rfl⟩
      go_wp2_with fail
      refine (isNaN_any b _ hb).mono ?_
      rintro e w' ⟨rfl, rfl⟩
      go_wp2_with fail
      refine (quietNaN_any _).mono ?_
      rintro e w' ⟨rfl, rfl⟩
      go_wp2
      go_ret
      exact ⟨rfl, rfl⟩
  · have h := HR.out
    rw [nA] at h
    simp only [Bool.true_or, if_true] at h
    rw [h]
    clear HR h
    go_enter Tryd.func20, Tryd.ntmps20
    go_wp2_with fail
    refine (isNaN_any a _ ha).mono ?_
    rintro e w' ⟨rfl, rfl⟩
    go_wp2_with fail
    refine (quietNaN_any _).mono ?_
    rintro e w' ⟨rfl, rfl⟩
    go_wp2
    go_ret
    exact ⟨rfl, rfl⟩
set_option maxHeartbeats 400000 in
theorem min_any (a b : Nat) (w : World) (ha : a < 18446744073709551616) (hb : b < 18446744073709551616) :
    Calls Tryd.prog 29 #[.float .f64 a, .float .f64 b] w fun e w' => e = .returned (.float .f64 (minB a b)) ∧ w' = w := by
  obtain ⟨r, hr⟩ : ∃ r, minB a b = r := ⟨_, rfl⟩
  obtain ⟨o, ho⟩ : ∃ o, orderB a b = o := ⟨_, rfl⟩
  have h1 := orderB_gt a b
  rw [ho] at h1
  have HO : Hid (orderB a b = o) := ho
  have HR : Hid (r = if isN a || isN b then quiet else if 0 < o then b else a) := by
    show r = _
    rw [← hr]; unfold minB; simp only [h1]
  rw [hr]
  clear hr ho h1
  cases nA : isN a
  · cases nB : isN b
    · have h := HR.out
      rw [nA, nB] at h
      simp only [Bool.or_self, Bool.false_eq_true, if_false] at h
      by_cases c : 0 < o
      · have e1 : decide (0 < o) = true := by simp; omega
        rw [if_pos c] at h
        rw [h]
        clear c HR h
        go_enter Tryd.func29, Tryd.ntmps29
        go_wp2_with fail
        refine (isNaN_any a _ ha).mono ?_
        rintro e w' ⟨rfl, rfl⟩
        go_wp2_with fail
        refine (isNaN_any b _ hb).mono ?_
        rintro e w' ⟨rfl, rfl⟩
        go_wp2_with fail
        refine (orderB_at a b o _ ha hb HO).mono ?_
        rintro e w' ⟨rfl, rfl⟩
        go_wp2
        go_ret
        exact ⟨rfl, rfl⟩
      · have e1 : decide (0 < o) = false := by simp; omega
        rw [if_neg c] at h
        rw [h]
        clear c HR h
        go_enter Tryd.func29, Tryd.ntmps29
        go_wp2_with fail
        refine (isNaN_any a _ ha).mono ?_
        rintro e w' ⟨rfl, rfl⟩
        go_wp2_with fail
        refine (isNaN_any b _ hb).mono ?_
        rintro e w' ⟨rfl, rfl⟩
        go_wp2_with fail
        refine (orderB_at a b o _ ha hb HO).mono ?_
        rintro e w' ⟨rfl, rfl⟩
        go_wp2
        go_ret
        exact ⟨rfl, rfl⟩
    · have h := HR.out
      rw [nA, nB] at h
      simp only [Bool.or_true, if_true] at h
      rw [h]
      clear HR h
      go_enter Tryd.func29, Tryd.ntmps29
      go_wp2_with fail
      refine (isNaN_any a _ ha).mono ?_
      rintro e w' ⟨rfl, rfl⟩
      go_wp2_with fail
      refine (isNaN_any b _ hb).mono ?_
      rintro e w' ⟨rfl, rfl⟩
      go_wp2_with fail
      refine (quietNaN_any _).mono ?_
      rintro e w' ⟨rfl, rfl⟩
      go_wp2
      go_ret
      exact ⟨rfl, rfl⟩
  · have h := HR.out
    rw [nA] at h
    simp only [Bool.true_or, if_true] at h
    rw [h]
    clear HR h
    go_enter Tryd.func29, Tryd.ntmps29
    go_wp2_with fail
    refine (isNaN_any a _ ha).mono ?_
    rintro e w' ⟨rfl, rfl⟩
    go_wp2_with fail
    refine (quietNaN_any _).mono ?_
    rintro e w' ⟨rfl, rfl⟩
    go_wp2
    go_ret
    exact ⟨rfl, rfl⟩

theorem rk_bound (x : Nat) (h : isN x = false) : -9218868437227405312 ≤ rk x ∧ rk x ≤ 9218868437227405312 := by
  have := isN_false.1 h
  unfold rk; split <;> omega
theorem bet_none (a b : Nat) (h : isN a = true ∨ isN b = true) : betOk a b = false ∧ betB a b = 0 := by
  have : betOk a b = false := by unfold betOk; rcases h with h | h <;> simp [h]
  exact ⟨this, by unfold betB; rw [this]; rfl⟩
theorem bet_yes (a b : Nat) (ha : isN a = false) (hb : isN b = false) (h1 : -9223372036854775808 ≤ rk b - rk a) (h2 : rk b - rk a < 9223372036854775808) : betOk a b = true ∧ betB a b = rk b - rk a := by
  have : betOk a b = true := by unfold betOk betD; simp [ha, hb]; omega
  exact ⟨this, by unfold betB; rw [this]; rfl⟩
theorem bet_no (a b : Nat) (h1 : rk b - rk a < -9223372036854775808 ∨ 9223372036854775808 ≤ rk b - rk a) : betOk a b = false ∧ betB a b = 0 := by
  have : betOk a b = false := by unfold betOk betD; simp; omega
  exact ⟨this, by unfold betB; rw [this]; rfl⟩

/-- the NaN that an operation without an answer gives: its bits are drawn -/
def nanOf (w : World) (x y : Nat) : Nat := (Question.nanBits .f64 x y).cut (w.tape w.drawn (.nanBits .f64 x y))
theorem nanOf_lt (w : World) (x y : Nat) : nanOf w x y < 18446744073709551616 := by
  unfold nanOf Question.cut
  simp only []
  omega
theorem isN_nanOf (w : World) (x y : Nat) : isN (nanOf w x y) = true := by
  rw [isN_true]
  unfold nanOf Question.cut mg
  simp only []
  generalize w.tape w.drawn (Question.nanBits FloatKind.f64 x y) = t
  have hb : t / 2 % (2 ^ 52 - 1) < 2 ^ 52 - 1 := Nat.mod_lt _ (by omega)
  generalize t / 2 % (2 ^ 52 - 1) = b at *
  have ha : t % 2 = 0 ∨ t % 2 = 1 := by omega
  rcases ha with h | h <;> rw [h] <;> omega
theorem run_nan_sub {P : Program} (w : World) (t : TypeId) (x y : Nat) (h : Ieee.double.sub x y = none) :
    (binOp .sub t (.float .f64 x) (.float .f64 y)).run P w = .ok (.float .f64 (nanOf w x y)) w.drew := by
  have h' : FloatKind.f64.format.sub x y = none := h
  simp [binOp, Op.floatArith, h', nanOf, Question.forced]
theorem feq_nan (a b : Nat) (h : isN a = true ∨ isN b = true) : feq a b = false := by unfold feq; rw [order_nan a b h]; rfl
theorem flt_nan (a b : Nat) (h : isN a = true ∨ isN b = true) : flt a b = false := by unfold flt; rw [order_nan a b h]; rfl
theorem fgt_nan (a b : Nat) (h : isN a = true ∨ isN b = true) : fgt a b = false := by unfold fgt; rw [order_nan a b h]; rfl

end Go.Proofs.YtjgbaenihkplpaaDoor

/-
  What Sum of package twin returns: walks over the program.
-/
namespace Go.Proofs.YtjgbaenihkplpaaDoor
open Go.RowKit Tf
attribute [local go_sem] run_bits run_from raw_feq raw_fne raw_flt raw_fgt

theorem run_nan_add {P : Program} (w : World) (t : TypeId) (x y : Nat) (h : Ieee.double.add x y = none) :
    (binOp .add t (.float .f64 x) (.float .f64 y)).run P w = .ok (.float .f64 (nanOf w x y)) w.drew := by
  have h' : FloatKind.f64.format.add x y = none := h
  simp [binOp, Op.floatArith, h', nanOf, Question.forced]
theorem run_nan_mul {P : Program} (w : World) (t : TypeId) (x y : Nat) (h : Ieee.double.mul x y = none) :
    (binOp .mul t (.float .f64 x) (.float .f64 y)).run P w = .ok (.float .f64 (nanOf w x y)) w.drew := by
  have h' : FloatKind.f64.format.mul x y = none := h
  simp [binOp, Op.floatArith, h', nanOf, Question.forced]

set_option maxHeartbeats 400000 in
theorem abs_any (x : Nat) (w : World) (hx : x < 18446744073709551616) :
    Calls Tryd.prog 106 #[.float .f64 x] w fun e w' => e = .returned (.float .f64 (mg x)) ∧ w' = w := by
  go_enter Tryd.func106, Tryd.ntmps106
  go_wp2
  go_ret
  refine ⟨ret_flt ?_, rfl⟩
  rw [andNot_sign x hx]; rfl

theorem rk_pos (m : Nat) (h : m < 9223372036854775808) : rk m = m := by
  unfold rk; rw [ng_of_lt h, if_neg (by decide), mg_of_lt h]
/-- a magnitude against a finite one -/
theorem fle_mg (m c : Nat) (h : m < 9223372036854775808) (hc : c < 9218868437227405312) : (flt m c || feq m c) = decide (m ≤ c) := by
  rw [flt_rk m c (by omega) (by omega), feq_rk m c (by omega) (by omega), rk_pos m h, rk_pos c (by omega)]
  have h2 : isN c = false := isN_false.2 (by rw [mg_of_lt (by omega)]; omega)
  rw [h2]
  by_cases n : isN m = true
  · have := isN_true.1 n
    rw [mg_of_lt h] at this
    rw [n, Bool.eq_iff_iff]; simp; omega
  · have n' : isN m = false := by simpa using n
    rw [n', Bool.eq_iff_iff]; simp; omega
theorem fge_mg (m c : Nat) (h : m < 9223372036854775808) (hc : c < 9218868437227405312) : (fgt m c || feq m c) = (!isN m && decide (c ≤ m)) := by
  rw [fgt_rk m c (by omega) (by omega), feq_rk m c (by omega) (by omega), rk_pos m h, rk_pos c (by omega)]
  have h2 : isN c = false := isN_false.2 (by rw [mg_of_lt (by omega)]; omega)
  rw [h2]
  cases isN m
  · rw [Bool.eq_iff_iff]; simp; omega
  · simp
theorem flt_mg (a b : Nat) (ha : a < 9223372036854775808) (hb : b < 9223372036854775808) (na : isN a = false) (nb : isN b = false) : flt a b = decide (a < b) := by
  rw [flt_rk a b (by omega) (by omega), rk_pos a ha, rk_pos b hb, na, nb, Bool.eq_iff_iff]; simp

theorem canon_to (x r : Nat) (w : World) (hx : x < 18446744073709551616) (hr : canonB x = r) :
    Calls Tryd.prog 37 #[.float .f64 x] w fun e w' => e = .returned (.float .f64 r) ∧ w' = w := by
  subst hr; exact canon_any x w hx

theorem addB_comm_fin (a b : Nat) (ha : a < 18446744073709551616) (hb : b < 18446744073709551616) (fa : mg a < 9218868437227405312) (fb : mg b < 9218868437227405312) : Ieee.double.add a b = Ieee.double.add b a := by
  rw [add_d a b ha hb fa fb, add_d b a hb ha fb fa, Int.add_comm, Bool.and_comm]

end Go.Proofs.YtjgbaenihkplpaaDoor

/-
  That the statements' own test of life answers true; each contract once more at a named answer: walks over the program.
-/
namespace Go.Proofs.YtjgbaenihkplpaaDoor
open Go.RowKit Tf
attribute [local go_sem] run_bits run_from raw_feq raw_fne raw_flt raw_fgt run_neg

theorem canon_at (x : Nat) (r : Nat) (w : World) (hx : x < 18446744073709551616) (hr : canonB x = r) :
    Calls Tryd.prog 37 #[.float .f64 x] w fun e w' => e = .returned (.float .f64 r) ∧ w' = w := by
  subst hr; exact canon_any x w hx
theorem ord_at (a b : Nat) (r : Int) (w : World) (ha : a < 18446744073709551616) (hb : b < 18446744073709551616) (hr : orderB a b = r) :
    Calls Tryd.prog 40 #[.float .f64 a, .float .f64 b] w fun e w' => e = .returned (.int .i64 r) ∧ w' = w := by
  subst hr; exact order_any a b w ha hb
theorem max_at (a b : Nat) (r : Nat) (w : World) (ha : a < 18446744073709551616) (hb : b < 18446744073709551616) (hr : maxB a b = r) :
    Calls Tryd.prog 20 #[.float .f64 a, .float .f64 b] w fun e w' => e = .returned (.float .f64 r) ∧ w' = w := by
  subst hr; exact max_any a b w ha hb
theorem min_at (a b : Nat) (r : Nat) (w : World) (ha : a < 18446744073709551616) (hb : b < 18446744073709551616) (hr : minB a b = r) :
    Calls Tryd.prog 29 #[.float .f64 a, .float .f64 b] w fun e w' => e = .returned (.float .f64 r) ∧ w' = w := by
  subst hr; exact min_any a b w ha hb
end Go.Proofs.YtjgbaenihkplpaaDoor

/-
  Sums from the left: walks over the program.
-/
namespace Go.Proofs.YtjgbaenihkplpaaDoor
open Go.RowKit Tf
attribute [local go_sem] run_bits run_from raw_feq raw_fne raw_flt raw_fgt run_neg

/-- one addition, whatever comes of it -/
theorem add_any {P : Program} (w : World) (s q x y : Nat) (h : IsQ s q) (k : IsQ x y) : ∃ r n, (∀ t, (binOp .add t (.float .f64 s) (.float .f64 x)).run P w = .ok (.float .f64 r) (w.drewN n)) ∧ IsQ r (plB q y) := by
  cases e : Ieee.double.add s x with
  | none => exact ⟨nanOf w s x, 1, fun t => run_nan_add w t s x e, h.nan k e (nanOf_lt _ _ _) (isN_nanOf _ _ _)⟩
  | some r => exact ⟨r, 0, fun t => run_float_arith w .add t .f64 s x r e, h.add k e⟩
theorem feq_selfq (x : Nat) (hx : x < 18446744073709551616) : feq x x = !isN x := by
  rw [feq_rk x x hx hx]
  cases isN x <;> simp
set_option maxHeartbeats 1000000 in
theorem oneNaN_at (x q : Nat) (w : World) (h : IsQ x q) :
    Calls Tryd.prog 104 #[.float .f64 x] w fun e w' => e = .returned (.float .f64 q) ∧ w' = w := by
  obtain ⟨h1, h2⟩ := h
  have C := hid (fun w => canon_at x _ w h1 rfl)
  have hf := feq_selfq x h1
  cases hN : isN x
  · rw [hN] at hf
    rw [qB_of hN] at h2
    subst h2
    clear hN h1
    go_enter Tryd.func104, Tryd.ntmps104
    go_wp2
    go_ret
    exact ⟨rfl, rfl⟩
  · rw [hN] at hf
    have hc : canonB x = q := by rw [← h2, qB_N hN]; unfold canonB; rw [hN]; rfl
    rw [hc] at C
    clear hN h1 h2 hc
    go_enter Tryd.func104, Tryd.ntmps104
    go_wp2_with fail
    refine (C.out _).mono ?_
    rintro e w' ⟨rfl, rfl⟩
    go_wp2
    go_ret
    exact ⟨rfl, rfl⟩
/-- A LIST OF FLOATS -/
def IsFl (w : World) (a0 : Option Addr) (len : Nat) (xs : Nat → Nat) : Prop := ∀ k, k < len → xs k < 18446744073709551616 ∧ ∃ b o, a0 = some ⟨b, o, none⟩ ∧ b < w.heap.size ∧ w.cell? ⟨b, o + k, none⟩ = some (.float .f64 (xs k))
theorem IsFl.below {w w' : World} {a0 : Option Addr} {len : Nat} {xs : Nat → Nat} (h : IsFl w a0 len xs) (hb : Below w.heap.size w w') : IsFl w' a0 len xs := by
  intro k hk
  obtain ⟨h1, b, o, h2, h3, h4⟩ := h k hk
  exact ⟨h1, b, o, h2, Nat.lt_of_lt_of_le h3 hb.size, by rw [hb.cell (p := ⟨b, o + k, none⟩) h3]; exact h4⟩
set_option maxHeartbeats 1000000 in
theorem inTurn_none (a0 : Option Addr) (cap : Nat) (w : World) :
    Calls Tryd.prog 100 #[.slice a0 0 cap] w fun e w' => e = .returned (.float .f64 0) ∧ w' = w := by
  go_enter Tryd.func100, Tryd.ntmps100
  go_wp2
  go_ret
  exact ⟨rfl, rfl⟩
set_option maxHeartbeats 2000000 in
theorem inTurn_one (b o cap x q : Nat) (w : World) (_hcap : (1 : Int) ≤ cap) (_hl : (cap : Int) ≤ 9223372036854775807) (h0 : w.cell? ⟨b, o, none⟩ = some (.float .f64 x)) (hx : Hid (IsQ x q)) :
    Calls Tryd.prog 100 #[.slice (some ⟨b, o, none⟩) 1 cap] w fun e w' => e = .returned (.float .f64 q) ∧ ∃ k, w' = w.drewN k := by
  have C := hid (fun w => oneNaN_at x q w hx.out)
  clear hx
  by_cases hc : cap = 1
  · go_enter Tryd.func100, Tryd.ntmps100
    go_wp2
    go_loopw [3, 15] (fun sv iv wr => sv = .float .f64 x ∧ iv = .int .i64 0 ∧ wr = w) (fun _ _ _ => 0)
    case atStart => exact ⟨rfl, rfl, rfl⟩
    case round =>
      obtain ⟨rfl, rfl, rfl⟩ := hrel
      go_wp2_with fail
      refine (C.out _).mono ?_
      rintro e w' ⟨rfl, rfl⟩
      go_wp2
      go_ret
      exact ⟨rfl, 0, rfl⟩
  · go_enter Tryd.func100, Tryd.ntmps100
    go_wp2
    go_loopw [3, 15] (fun sv iv wr => sv = .float .f64 x ∧ iv = .int .i64 0 ∧ wr = w) (fun _ _ _ => 0)
    case atStart => exact ⟨rfl, rfl, rfl⟩
    case round =>
      obtain ⟨rfl, rfl, rfl⟩ := hrel
      go_wp2_with fail
      refine (C.out _).mono ?_
      rintro e w' ⟨rfl, rfl⟩
      go_wp2
      go_ret
      exact ⟨rfl, 0, rfl⟩
set_option maxHeartbeats 4000000 in
theorem inTurn_more (b o n cap : Nat) (xs : Nat → Nat) (w : World) (hn : 1 ≤ n) (hcap : (n : Int) + 1 ≤ cap) (hl : (cap : Int) ≤ 9223372036854775807) (h : Hid (IsFl w (some ⟨b, o, none⟩) (n + 1) xs)) :
    Calls Tryd.prog 100 #[.slice (some ⟨b, o, none⟩) (n + 1 : Nat) cap] w fun e w' => e = .returned (.float .f64 (lfF xs n)) ∧ ∃ k, w' = w.drewN k := by
  have hc1 : ¬ cap = 1 := by omega
  have cells : ∀ k, k < n + 1 → ∀ j, (w.drewN j).cell? ⟨b, o + k, none⟩ = some (.float .f64 (xs k)) := by
    intro k hk j
    obtain ⟨_, b', o', e, _, h3⟩ := h.out k hk
    cases e; exact h3
  have h0 : w.cell? ⟨b, o, none⟩ = some (.float .f64 (xs 0)) := cells 0 (by omega) 0
  have HC := hid cells
  obtain ⟨x0, hx0⟩ : ∃ x, xs 0 = x := ⟨_, rfl⟩
  rw [hx0] at h0
  have HX := hid hx0
  have C := hid (fun x q w => oneNaN_at x q w)
  clear cells hx0
  go_enter Tryd.func100, Tryd.ntmps100
  go_wp2
  go_loopw [3, 15] (fun sv iv wr => ∃ k s j : Nat, k ≤ n ∧ sv = .float .f64 s ∧ iv = .int .i64 (k : Nat) ∧ wr = w.drewN j ∧ Hid (IsQ s (lfF xs k))) (fun _ iv _ => n - (intOf iv).toNat)
  case atStart => exact ⟨0, x0, 0, by omega, rfl, rfl, rfl, by rw [← HX.out]; exact IsQ.self (h.out 0 (by omega)).1⟩
  case round =>
    obtain ⟨k, s, j, hk, rfl, rfl, rfl, hq⟩ := hrel
    by_cases hlt : k < n
    · have cn := HC.out (k + 1) (by omega) j
      have cn' : (w.drewN j).cell? ⟨b, o + 1 + k, none⟩ = some (.float .f64 (xs (k + 1))) := by rw [show o + 1 + k = o + (k + 1) by omega]; exact cn
      obtain ⟨r, m, hr, hrq⟩ := add_any (P := Tryd.prog) (w.drewN j) s _ (xs (k + 1)) _ hq.out (IsQ.self (h.out (k + 1) (by omega)).1)
      rw [plB_qr] at hrq
      obtain ⟨x, hx⟩ : ∃ x, xs (k + 1) = x := ⟨_, rfl⟩
      rw [hx] at cn cn' hr
      have HQ := hid hrq
      have HL := hid hlt
      have kl : ((k : Nat) : Int) < n := by omega
      clear hx hrq hlt hq hk
      go_wp2
      refine ⟨⟨k + 1, r, _, HL.out, rfl, by simp, rfl, HQ.out⟩, by have := HL.out; simp [intOf]; omega⟩
    · have e : k = n := by omega
      subst e
      have kl : decide (((k : Nat) : Int) < (k : Nat)) = false := by simp
      have C' := hid (fun w => C.out s (lfF xs k) w hq.out)
      clear C hq hlt hk
      go_wp2_with fail
      refine (C'.out _).mono ?_
      rintro e w' ⟨rfl, rfl⟩
      go_wp2
      go_ret
      exact ⟨rfl, _, rfl⟩
/-- IN TURN -/
theorem inTurn_at (a0 : Option Addr) (len cap : Nat) (xs : Nat → Nat) (w : World) (hcap : len ≤ cap) (hl : (cap : Int) ≤ 9223372036854775807) (h : IsFl w a0 len xs) :
    Calls Tryd.prog 100 #[.slice a0 len cap] w fun e w' => e = .returned (.float .f64 (leftB xs len)) ∧ ∃ k, w' = w.drewN k := by
  by_cases h0 : len = 0
  · subst h0
    exact (inTurn_none a0 cap w).mono fun e w' ⟨he, hw⟩ => ⟨he, 0, hw⟩
  · obtain ⟨x1, b, o, rfl, _, x3⟩ := h 0 (by omega)
    have e : leftB xs len = lfF xs (len - 1) := by unfold leftB; rw [if_neg h0]
    rw [e]
    by_cases h1 : len = 1
    · subst h1
      exact inTurn_one b o cap (xs 0) _ w (by omega) hl x3 (IsQ.self x1)
    · have := inTurn_more b o (len - 1) cap xs w (by omega) (by omega) hl (by rw [show len - 1 + 1 = len by omega]; exact h)
      rw [show len - 1 + 1 = len by omega] at this
      exact this
end Go.Proofs.YtjgbaenihkplpaaDoor

/-
  Seas among the inputs of a statement: how they are read (no walk).
-/
namespace Go.Proofs.YtjgbaenihkplpaaDoor
open Go.ChangeShapes Go.WideShapes Go.ChangeAt Go.WideMaps Go.WideElems Go.RowKit Go.Deep
/-- a list of whole numbers lies there -/
def IsIn (w : World) (a0 : Option Addr) (len : Nat) (xs : Nat → Int) : Prop := ∀ k, k < len → (-9223372036854775808 ≤ xs k ∧ xs k ≤ 9223372036854775807) ∧ ∃ b o, a0 = some ⟨b, o, none⟩ ∧ b < w.heap.size ∧ w.cell? ⟨b, o + k, none⟩ = some (.int .i64 (xs k))
theorem IsIn.below {w w' : World} {a0 : Option Addr} {len : Nat} {xs : Nat → Int} (h : IsIn w a0 len xs) (hb : Below w.heap.size w w') : IsIn w' a0 len xs := by
  intro k hk
  obtain ⟨h1, b, o, h2, h3, h4⟩ := h k hk
  exact ⟨h1, b, o, h2, Nat.lt_of_lt_of_le h3 hb.size, by rw [hb.cell (p := ⟨b, o + k, none⟩) h3]; exact h4⟩
theorem trod_flt0 {H : Type} {enc : TypeId × Value → H} {P : Program} {w : World} {base : Nat} {spare : Nat → Bool} {held : Bool} {t : TypeId} {fuel : Nat} {v : Value} {x : DataW H × List MemPlace} (ht : P.underlying t = some (.float .f64)) (h : DataW.trod enc P w base spare held fuel t [v] = some x) :
    ∃ b, v = .float .f64 b ∧ (Lit.float .f64 b).wf = true := by
  cases fuel with
  | zero => simp [DataW.trod] at h
  | succ n =>
    unfold DataW.trod at h
    rw [ht] at h
    split at h <;> simp_all
theorem trod_flt12 {H : Type} {enc : TypeId × Value → H} {P : Program} {w : World} {base : Nat} {spare : Nat → Bool} {held : Bool} {t : TypeId} {fuel : Nat} {v : Value} {x : DataW H × List MemPlace} (ht : P.underlying t = some (.float .f64)) (h : DataW.trod enc P w base spare held fuel t [v] = some x) :
    ∃ b, v = .float .f64 b ∧ b < 18446744073709551616 := by
  obtain ⟨k, e, wf⟩ := trod_flt0 ht h
  exact ⟨k, e, by simpa [Lit.wf] using wf⟩
theorem trod_int12 {H : Type} {enc : TypeId × Value → H} {P : Program} {w : World} {base : Nat} {spare : Nat → Bool} {held : Bool} {t : TypeId} {fuel : Nat} {v : Value} {x : DataW H × List MemPlace} (ht : P.underlying t = some (.int .i64)) (h : DataW.trod enc P w base spare held fuel t [v] = some x) :
    ∃ b, v = .int .i64 b ∧ (-9223372036854775808 ≤ b ∧ b ≤ 9223372036854775807) := by
  obtain ⟨k, e, _, wf⟩ := DataW.trod_int ht h
  simp at e
  simp only [Lit.wf, Bool.and_eq_true, decide_eq_true_eq] at wf
  have q1 : IntKind.i64.min = -9223372036854775808 := by decide
  have q2 : IntKind.i64.max = 9223372036854775807 := by decide
  rw [q1, q2] at wf
  exact ⟨k, e, wf⟩
theorem add_off12 (b off j : Nat) : (⟨b, off, none⟩ : Addr).add j = ⟨b, off + j, none⟩ := by
  by_cases c : j = 0
  · subst c; simp [Addr.add]
  · simp [Addr.add, c]
theorem cell_block12 {w : World} {a : Addr} {v : Value} (h : w.cell? a = some v) : a.block < w.heap.size := by
  by_cases c : a.block < w.heap.size
  · exact c
  · exfalso
    have : w.heap[a.block]? = none := by simp; omega
    simp [World.cell?, this] at h
theorem pick_fn {α : Type} {n : Nat} {R : Nat → α → Prop} (d : α) (h : ∀ i, i < n → ∃ x, R i x) : ∃ f : Nat → α, ∀ i, i < n → R i (f i) := by
  have : ∀ i, ∃ x, i < n → R i x := fun i => by
    by_cases c : i < n
    · obtain ⟨x, h1⟩ := h i c
      exact ⟨x, fun _ => h1⟩
    · exact ⟨d, fun h => absurd h c⟩
  exact ⟨fun i => (this i).choose, fun i hi => (this i).choose_spec hi⟩
theorem fl_open12 {H : Type} {enc : TypeId × Value → H} {W : World} {cs : List Value} {fuel : Nat} {x : DataW H × List MemPlace}
    (hf : DataW.trod enc Tryd.prog W 0 (fun _ => true) true fuel 22 cs = some x) : ∃ a0 len cap xs, cs = [.slice a0 len cap] ∧ IsFl W a0 len xs ∧ len ≤ cap ∧ cap ≤ maxLen := by
  rcases open_slice1 Tryd.underlying22 (by kernel_rfl) hf with ⟨hcs, _⟩ | ⟨a, l, c, m, n, V, D, Pl, hcs, _, hl, hm, hmm, _, hx⟩
  · exact ⟨none, 0, 0, fun _ => 0, hcs, fun k hk => by omega, Nat.le_refl _, Nat.zero_le _⟩
  · simp only [if_true] at hmm
    have each : ∀ i, i < l → ∃ x : Nat, W.cell? (a.add i) = some (.float .f64 x) ∧ x < 18446744073709551616 := by
      intro i hi
      obtain ⟨h1, h2⟩ := hx i (by omega)
      obtain ⟨x, e, wx⟩ := trod_flt12 Tryd.underlying28 h2
      rw [e] at h1
      exact ⟨x, h1, wx⟩
    obtain ⟨f, hf⟩ := pick_fn 0 each
    refine ⟨some a, l, c, f, hcs, fun k hk => ⟨(hf k hk).2, ?_⟩, hl, hm⟩
    have h0 := (hf k hk).1
    have z := (hf 0 (by omega)).1
    obtain ⟨b, off, spot⟩ := a
    have hspot : spot = none := by simpa [Addr.add] using World.cell?_spot z
    subst hspot
    rw [add_off12] at h0
    exact ⟨b, off, rfl, cell_block12 h0, h0⟩
theorem in_open12 {H : Type} {enc : TypeId × Value → H} {W : World} {cs : List Value} {fuel : Nat} {x : DataW H × List MemPlace}
    (hf : DataW.trod enc Tryd.prog W 0 (fun _ => true) true fuel 23 cs = some x) : ∃ a0 len cap xs, cs = [.slice a0 len cap] ∧ IsIn W a0 len xs ∧ len ≤ cap ∧ cap ≤ maxLen := by
  rcases open_slice1 Tryd.underlying23 (by kernel_rfl) hf with ⟨hcs, _⟩ | ⟨a, l, c, m, n, V, D, Pl, hcs, _, hl, hm, hmm, _, hx⟩
  · exact ⟨none, 0, 0, fun _ => 0, hcs, fun k hk => by omega, Nat.le_refl _, Nat.zero_le _⟩
  · simp only [if_true] at hmm
    have each : ∀ i, i < l → ∃ x : Int, W.cell? (a.add i) = some (.int .i64 x) ∧ (-9223372036854775808 ≤ x ∧ x ≤ 9223372036854775807) := by
      intro i hi
      obtain ⟨h1, h2⟩ := hx i (by omega)
      obtain ⟨x, e, wx⟩ := trod_int12 Tryd.underlying2 h2
      rw [e] at h1
      exact ⟨x, h1, wx⟩
    obtain ⟨f, hf⟩ := pick_fn 0 each
    refine ⟨some a, l, c, f, hcs, fun k hk => ⟨(hf k hk).2, ?_⟩, hl, hm⟩
    have h0 := (hf k hk).1
    have z := (hf 0 (by omega)).1
    obtain ⟨b, off, spot⟩ := a
    have hspot : spot = none := by simpa [Addr.add] using World.cell?_spot z
    subst hspot
    rw [add_off12] at h0
    exact ⟨b, off, rfl, cell_block12 h0, h0⟩
/-- a sea's lists, as a walk is told of them -/
structure SeaAt (w : World) (pb : Option Addr) (lb cb : Nat) (B : Nat → Nat) (pw : Option Addr) (lw cw : Nat) (Wt : Nat → Int) (pt : Option Addr) (lt ct : Nat) (Tr : Nat → Int) (ps : Option Addr) (ls cs : Nat) (Sp : Nat → Nat) : Prop where
  bed : IsFl w pb lb B
  water : IsIn w pw lw Wt
  tracer : IsIn w pt lt Tr
  speed : IsFl w ps ls Sp
  lens : (lb ≤ cb ∧ cb ≤ maxLen) ∧ (lw ≤ cw ∧ cw ≤ maxLen) ∧ (lt ≤ ct ∧ ct ≤ maxLen) ∧ (ls ≤ cs ∧ cs ≤ maxLen)
theorem SeaAt.to {w w' : World} {pb : Option Addr} {lb cb : Nat} {B : Nat → Nat} {pw : Option Addr} {lw cw : Nat} {Wt : Nat → Int} {pt : Option Addr} {lt ct : Nat} {Tr : Nat → Int} {ps : Option Addr} {ls cs : Nat} {Sp : Nat → Nat} (h : SeaAt w pb lb cb B pw lw cw Wt pt lt ct Tr ps ls cs Sp) (a : Ab w w') : SeaAt w' pb lb cb B pw lw cw Wt pt lt ct Tr ps ls cs Sp :=
  ⟨h.bed.below a, h.water.below a, h.tracer.below a, h.speed.below a, h.lens⟩
set_option maxRecDepth 100000 in
theorem sea_cells {H : Type} {enc : TypeId × Value → H} {W : World} {n : Nat} {v0 v1 v2 v3 v4 v5 : Value} {x : DataW H × List MemPlace} (h : DataW.trod enc Tryd.prog W 0 (fun _ => true) true n 25 [v0, v1, v2, v3, v4, v5] = some x) :
    ∃ pb lb cb B pw lw cw Wt pt lt ct Tr ps ls cs Sp sky st, (v0 = .slice pb lb cb ∧ v1 = .slice pw lw cw ∧ v2 = .slice pt lt ct ∧ v3 = .slice ps ls cs ∧ v4 = .int .i64 sky ∧ v5 = .int .i64 st) ∧ SeaAt W pb lb cb B pw lw cw Wt pt lt ct Tr ps ls cs Sp := by
  have k0 : Tryd.prog.cellsOf 22 = 1 := by kernel_rfl
  have k1 : Tryd.prog.cellsOf 23 = 1 := by kernel_rfl
  have k2 : Tryd.prog.cellsOf 2 = 1 := by kernel_rfl
  have k3 : Tryd.prog.cellsOf 3 = 1 := by kernel_rfl
  obtain ⟨xs, m, _, hx, hlen, hn, hel⟩ := DataW.trod_struct Tryd.underlying25 h
  match xs, hn with
  | [x0, x1, x2, x3, x4, x5], _ =>
    have h0 := hel 0 _ rfl
    have h1 := hel 1 _ rfl
    have h2 := hel 2 _ rfl
    have h3 := hel 3 _ rfl
    have h4 := hel 4 _ rfl
    have h5 := hel 5 _ rfl
    simp [k0, k1, k2, k3] at h0 h1 h2 h3 h4 h5
    obtain ⟨pb, lb, cb, B, e0, i0, j0⟩ := fl_open12 h0
    obtain ⟨pw, lw, cw, Wt, e1, i1, j1⟩ := in_open12 h1
    obtain ⟨pt, lt, ct, Tr, e2, i2, j2⟩ := in_open12 h2
    obtain ⟨ps, ls, cs, Sp, e3, i3, j3⟩ := fl_open12 h3
    obtain ⟨sky, e4, _⟩ := trod_int12 Tryd.underlying2 h4
    obtain ⟨st, e5, _⟩ := trod_int12 Tryd.underlying3 h5
    simp at e0 e1 e2 e3
    exact ⟨pb, lb, cb, B, pw, lw, cw, Wt, pt, lt, ct, Tr, ps, ls, cs, Sp, sky, st, ⟨e0, e1, e2, e3, e4, e5⟩, ⟨i0, i1, i2, i3, j0, j1, j2, j3⟩⟩
theorem array8' {c : Array Value} (h : c.size = 8) : ∃ v0 v1 v2 v3 v4 v5 v6 v7, c = #[v0, v1, v2, v3, v4, v5, v6, v7] := by
  rcases c with ⟨l⟩
  match l, h with
  | [v0, v1, v2, v3, v4, v5, v6, v7], _ => exact ⟨v0, v1, v2, v3, v4, v5, v6, v7, rfl⟩
set_option maxRecDepth 100000 in
theorem ask12_open {H : Type} {enc : TypeId × Value → H} {W : World} {r : Reach} {b0 : Nat} {v : Value} {d : DataW H} {p : List MemPlace} (hv : Value.okWide Tryd.prog W r b0 27 v) (h : DataW.Trod enc Tryd.prog W 0 (fun _ => true) true 27 v d p) :
    ∃ side lim pb lb cb B pw lw cw Wt pt lt ct Tr ps ls cs Sp sky st, v = .agg #[.int .i64 side, .int .i64 lim, .slice pb lb cb, .slice pw lw cw, .slice pt lt ct, .slice ps ls cs, .int .i64 sky, .int .i64 st] ∧ (-9223372036854775808 ≤ side ∧ side ≤ 9223372036854775807) ∧ (-9223372036854775808 ≤ lim ∧ lim ≤ 9223372036854775807) ∧ SeaAt W pb lb cb B pw lw cw Wt pt lt ct Tr ps ls cs Sp := by
  have hC : Tryd.prog.cellsOf 27 = 8 := by kernel_rfl
  obtain ⟨cs, rfl, hsz⟩ := okWide_struct Tryd.underlying27 hv
  obtain ⟨v0, v1, v2, v3, v4, v5, v6, v7, rfl⟩ := array8' (hsz.trans hC)
  obtain ⟨fuel, hf⟩ := h
  have hf' : DataW.trod enc Tryd.prog W 0 (fun _ => true) true fuel 27 [v0, v1, v2, v3, v4, v5, v6, v7] = some (d, p) := by simpa [Value.cells] using hf
  have k0 : Tryd.prog.cellsOf 25 = 6 := by kernel_rfl
  have k3 : Tryd.prog.cellsOf 3 = 1 := by kernel_rfl
  obtain ⟨xs, m, _, hx, hlen, hn, hel⟩ := DataW.trod_struct Tryd.underlying27 hf'
  match xs, hn with
  | [x0, x1, x2], _ =>
    have h0 := hel 0 _ rfl
    have h1 := hel 1 _ rfl
    have h2 := hel 2 _ rfl
    simp [k0, k3] at h0 h1 h2
    obtain ⟨side, rfl, i0⟩ := trod_int12 Tryd.underlying3 h0
    obtain ⟨lim, rfl, i1⟩ := trod_int12 Tryd.underlying3 h1
    obtain ⟨pb, lb, cb, B, pw, lw, cw, Wt, pt, lt, ct, Tr, ps, ls, cs, Sp, sky, st, ⟨rfl, rfl, rfl, rfl, rfl, rfl⟩, hs⟩ := sea_cells h2
    exact ⟨side, lim, pb, lb, cb, B, pw, lw, cw, Wt, pt, lt, ct, Tr, ps, ls, cs, Sp, sky, st, rfl, i0, i1, hs⟩
end Go.Proofs.YtjgbaenihkplpaaDoor

/-
  The cube in whole numbers: faces, ways, middles of cells, what lies beside, what turns do. No program here.
-/
namespace Go.Proofs.YtjgbaenihkplpaaDoor.Cu

abbrev P3 := Int × Int × Int
def cC : Nat → P3
  | 0 => (1, 0, 0) | 1 => (0, 1, 0) | 2 => (-1, 0, 0) | 3 => (0, -1, 0) | 4 => (0, 0, 1) | _ => (0, 0, -1)
def cR : Nat → P3
  | 0 => (0, 1, 0) | 1 => (-1, 0, 0) | 2 => (0, -1, 0) | 3 => (1, 0, 0) | 4 => (0, 1, 0) | _ => (0, 1, 0)
def cU : Nat → P3
  | 0 => (0, 0, 1) | 1 => (0, 0, 1) | 2 => (0, 0, 1) | 3 => (0, 0, 1) | 4 => (-1, 0, 0) | _ => (1, 0, 0)
def pl (p q : P3) : P3 := (p.1 + q.1, p.2.1 + q.2.1, p.2.2 + q.2.2)
def sc (k : Int) (p : P3) : P3 := (k * p.1, k * p.2.1, k * p.2.2)
def dt (p q : P3) : Int := p.1 * q.1 + p.2.1 * q.2.1 + p.2.2 * q.2.2
def cx (p q : P3) : P3 := (p.2.1 * q.2.2 - p.2.2 * q.2.1, p.2.2 * q.1 - p.1 * q.2.2, p.1 * q.2.1 - p.2.1 * q.1)
def wy (f s : Nat) : P3 := match s with
  | 0 => cR f | 1 => cU f | 2 => sc (-1) (cR f) | _ => sc (-1) (cU f)
def md (n f i j : Nat) : P3 := pl (sc n (cC f)) (pl (sc (2 * i + 1 - n) (cR f)) (sc (2 * j + 1 - n) (cU f)))

def nf (f s : Nat) : Nat := ([[1, 4, 3, 5], [2, 4, 0, 5], [3, 4, 1, 5], [0, 4, 2, 5], [1, 2, 3, 0], [1, 0, 3, 2]].getD f []).getD s 0
def ns (f s : Nat) : Nat := ([[0, 1, 2, 3], [0, 2, 2, 2], [0, 3, 2, 1], [0, 0, 2, 0], [3, 3, 3, 3], [1, 1, 1, 1]].getD f []).getD s 0
def prp (f k : Nat) : Nat := ([[1, 3, 4, 5], [0, 2, 4, 5], [1, 3, 4, 5], [0, 2, 4, 5], [0, 1, 2, 3], [0, 1, 2, 3]].getD f []).getD k 0
def tf (t f : Nat) : Nat := 380319425767034651462742130351987831951998700252786447139717355724362488049523496525576634289033474629561857545492763398801376904 / 8 ^ (6 * t + f) % 8
def tq (t f : Nat) : Nat := 2838088073491958674951531746272454093836057379317522041577493744960660895088548981516253706794912565892561912777780962420230455296 / 8 ^ (6 * t + f) % 8
def rX (t : Nat) : P3 := cC (t / 4)
def rY (t : Nat) : P3 := cC (prp (t / 4) (t % 4))
def rZ (t : Nat) : P3 := cx (rX t) (rY t)
def ro (t : Nat) (p : P3) : P3 := pl (pl (sc p.1 (rX t)) (sc p.2.1 (rY t))) (sc p.2.2 (rZ t))
/-- the turn that is turn t and then turn u -/
def aft (u t : Nat) : Nat := 1838785560903083491882944074522291168528621995628052174074935484170963243557792820641851446867052506590857924970631457007051177209089474122049985957868860826374531110598046756388485078809558413311561533769618631134509822940183235878709046399388785167043652054866194418809871231720928653611197317446018368559689239310007227234390856843488321432173806158969924906962616647714790573689130421284080817811622731970782968290897629129351746371971065318390962470879510821561971903093642063664326347241898499135141634135105756307791262713098621344282602027984473098463129840699759491058233189250385727017168099058425694295169015858327316048712937900611062907030396919466292444209236061864573971541039386576435052958808398669144885884962830828009673501965162062598478789559400637517290401426150521143382351487413956371149668089169812744083248451353527903218875336117417248800 / 32 ^ (24 * u + t) % 32

theorem six {f : Nat} (h : f < 6) : f = 0 ∨ f = 1 ∨ f = 2 ∨ f = 3 ∨ f = 4 ∨ f = 5 := by omega
theorem four {s : Nat} (h : s < 4) : s = 0 ∨ s = 1 ∨ s = 2 ∨ s = 3 := by omega

theorem nf_lt : ∀ f < 6, ∀ s < 4, nf f s < 6 ∧ ns f s < 4 := by decide +kernel
theorem tf_lt : ∀ t < 24, ∀ f < 6, tf t f < 6 ∧ tq t f < 4 := by decide +kernel
theorem prp_lt : ∀ f < 6, ∀ k < 4, prp f k < 6 := by decide +kernel
theorem wy_back : ∀ f < 6, ∀ s < 4, sc (-1) (wy f s) = wy f ((s + 2) % 4) ∧ cC f = wy (nf f s) ((ns f s + 2) % 4) := by decide +kernel
theorem wy_on : ∀ f < 6, ∀ s < 4, cC (nf f s) = wy f s ∧ sc (-1) (cC f) = wy (nf f s) (ns f s) ∧ wy (nf f s) ((ns f s + 1) % 4) = wy f ((s + 1) % 4) := by decide +kernel
theorem wy_inj : ∀ f < 6, ∀ s < 4, ∀ r < 4, wy f r = wy f s → r = s := by decide +kernel
theorem ro_tab : ∀ t < 24, ∀ f < 6, ro t (cC f) = cC (tf t f) ∧ ro t (cR f) = wy (tf t f) (tq t f) ∧ ro t (cU f) = wy (tf t f) ((tq t f + 1) % 4) := by decide +kernel
theorem nf_tf : ∀ t < 24, ∀ f < 6, ∀ s < 4, nf (tf t f) ((s + tq t f) % 4) = tf t (nf f s) ∧ ns (tf t f) ((s + tq t f) % 4) = (ns f s + tq t (nf f s)) % 4 := by decide +kernel
theorem aft_tab : ∀ u < 24, ∀ t < 24, aft u t < 24 ∧ rX (aft u t) = ro u (rX t) ∧ rY (aft u t) = ro u (rY t) ∧ rZ (aft u t) = ro u (rZ t) := by decide +kernel
theorem rot_inj : ∀ t < 24, ∀ k < 24, rX k = rX t → rY k = rY t → k = t := by decide +kernel
theorem tf_aft : ∀ u < 24, ∀ t < 24, ∀ f < 6, tf (aft u t) f = tf u (tf t f) ∧ tq (aft u t) f = (tq t f + tq u (tf t f)) % 4 := by decide +kernel
theorem aft_assoc : ∀ v < 24, ∀ u < 24, ∀ t < 24, aft v (aft u t) = aft (aft v u) t := by decide +kernel
theorem aft_zero : ∀ t < 24, aft 0 t = t ∧ aft t 0 = t := by decide +kernel
/-- the turn that undoes a turn -/
def und (t : Nat) : Nat := 974254908513008594817366965742537760 / 32 ^ t % 32
theorem und_tab : ∀ t < 24, und t < 24 ∧ ∀ k < 24, (aft k t = 0 ↔ k = und t) ∧ (aft t k = 0 ↔ k = und t) := by decide +kernel
theorem tf_zero : ∀ f < 6, tf 0 f = f ∧ tq 0 f = 0 := by decide +kernel
theorem tf_inj : ∀ t < 24, ∀ f < 6, ∀ g < 6, tf t f = tf t g → f = g := by decide +kernel
end Go.Proofs.YtjgbaenihkplpaaDoor.Cu
