/-
  Some of the texts of this proof, one behind the other.
-/
import Derived.WalkKit
import Derived.Laws.StructEq
import Derived.Test.YtdigecacmibkpaaGreatDoorTie
import Derived.Test.YtdigecacmibkpaaGreatDoorCards
import Derived.ProofKit
import Derived.LaidMore
import Derived.OpenShut
import Derived.Stop.Joined
import Derived.Carry
import Derived.Lib.SmallJoins
import Derived.WalkLawsBesides
import Derived.Test.YtdigecacmibkpaaGreatDoorSa07
namespace Go.Proofs.YtdigecacmibkpaaGreatDoor
open Go.RowKit Cu
/-- as Ab, but for the three blocks from g on, which are points -/
def A3 (W : World) (g : Nat) (w : World) : Prop :=
  (w.os = W.os ∧ w.tape = W.tape ∧ w.output = W.output ∧ W.heap.size ≤ w.heap.size ∧ ∀ k, k < W.heap.size → (k < g ∨ g + 3 ≤ k) → w.heap[k]? = W.heap[k]?) ∧
  ∀ j, j < 3 → ∃ a b c : Value, w.heap[g + j]? = some (.cells #[a, b, c] 123)
theorem Ab.a3 {W w : World} (h : Ab W w) {g : Nat} (hg : ∀ j, j < 3 → ∃ a b c : Value, W.heap[g + j]? = some (.cells #[a, b, c] 123)) : A3 W g w :=
  ⟨⟨Below.os h, Below.tape h, Below.output h, Below.size h, fun k hk _ => Below.block h k hk⟩, fun j hj => by obtain ⟨a, b, c, e⟩ := hg j hj; exact ⟨a, b, c, h.heap e⟩⟩
theorem A3.drew {W w : World} {g : Nat} (a : A3 W g w) : A3 W g w.drew := a
theorem A3.call {W u w : World} {g : Nat} (a : A3 W g u) (b : Below u.heap.size u w) : A3 W g w := by
  obtain ⟨⟨h1, h2, h3, h4, h5⟩, h6⟩ := a
  refine ⟨⟨b.os.trans h1, b.tape.trans h2, b.output.trans h3, Nat.le_trans h4 b.size, fun k hk hne => (b.block k (by omega)).trans (h5 k hk hne)⟩, fun j hj => ?_⟩
  obtain ⟨x, y, z, e⟩ := h6 j hj
  exact ⟨x, y, z, (b.block _ (lt_of_block e)).trans e⟩
theorem A3.set {W w : World} {g : Nat} (a : A3 W g w) (i : Nat) (hi : i < 3) (k : Nat) (v : Value) : A3 W g (w.setCell ⟨g + i, k, none⟩ v) := by
  obtain ⟨⟨h1, h2, h3, h4, h5⟩, h6⟩ := a
  refine ⟨⟨h1, h2, h3, by simpa [World.setCell] using h4, fun l hl hne => (Below.heap_setCell _ _ _ _ (by show l ≠ g + i; omega)).trans (h5 l hl hne)⟩, fun j hj => ?_⟩
  obtain ⟨x, y, z, e⟩ := h6 j hj
  by_cases hji : j = i
  · subst hji
    obtain ⟨p, q, r, e2⟩ := set_k (a := x) (b := y) (c := z) (v := v) k
    have o := one_set (k := k) (v := v) e
    rw [e2] at o
    exact ⟨p, q, r, o⟩
  · exact ⟨x, y, z, (Below.heap_setCell _ _ _ _ (by show g + j ≠ g + i; omega)).trans e⟩
theorem A3.heap {W w : World} {g k : Nat} {o : Obj} (a : A3 W g w) (n1 : k < g ∨ g + 3 ≤ k) (hk : W.heap[k]? = some o) : w.heap[k]? = some o := by
  have hlt : k < W.heap.size := by
    rcases Nat.lt_or_ge k W.heap.size with h1 | h1
    · exact h1
    · rw [Array.getElem?_eq_none h1] at hk; cases hk
  exact (a.1.2.2.2.2 k hlt n1).trans hk
theorem A3.ab {w0 W w : World} {g : Nat} (a : A3 W g w) (b : Ab w0 W) (hg : w0.heap.size ≤ g) : Ab w0 w := by
  obtain ⟨⟨h1, h2, h3, h4, h5⟩, _⟩ := a
  exact ⟨h1.trans b.os, h2.trans b.tape, h3.trans b.output, Nat.le_trans (Below.size b) h4, fun k hk => (h5 k (Nat.lt_of_lt_of_le hk (Below.size b)) (by omega)).trans (b.block k hk)⟩
end Go.Proofs.YtdigecacmibkpaaGreatDoor

namespace Go.Proofs.YtdigecacmibkpaaGreatDoor
open Go.RowKit Cu
theorem A3.set1 {W w : World} {g : Nat} (a : A3 W g w) (k : Nat) (v : Value) : A3 W g (w.setCell ⟨g + 1, k, none⟩ v) := a.set 1 (by omega) k v
theorem A3.set2 {W w : World} {g : Nat} (a : A3 W g w) (k : Nat) (v : Value) : A3 W g (w.setCell ⟨g + 1 + 1, k, none⟩ v) := a.set 2 (by omega) k v
end Go.Proofs.YtdigecacmibkpaaGreatDoor

namespace Go.Proofs.YtdigecacmibkpaaGreatDoor
open Go.RowKit Cu
theorem W3 {W w1 : World} {A B C : Obj} (h : ((w1.alloc A).alloc B).alloc C = W) : W.heap[w1.heap.size]? = some A ∧ Ab w1 W := by
  subst h
  refine ⟨?_, bl3 _ _ _ _⟩
  rw [Below.heap_alloc _ _ _ (by simp; omega)]
  exact heap_alloc2_old _ _ _
end Go.Proofs.YtdigecacmibkpaaGreatDoor

namespace Go.Proofs.YtdigecacmibkpaaGreatDoor
open Cu
def mm (e : P3) (f s : Nat) : P3 := pl e (sc (-1) (wy f s))
def gI (n : Nat) (e : P3) (f s : Nat) : Int := dt (mm e f s) (cR f) + n - 1
def gJ (n : Nat) (e : P3) (f s : Nat) : Int := dt (mm e f s) (cU f) + n - 1
def gd (n : Nat) (e : P3) (f s : Nat) : Int := cN n f ((gI n e f s).tdiv 2) ((gJ n e f s).tdiv 2)
end Go.Proofs.YtdigecacmibkpaaGreatDoor

namespace Go.Proofs.YtdigecacmibkpaaGreatDoor
open Go.RowKit Cu Tf
def rA (n T t : Nat) : Int := (gN n T t).1
theorem rA_end {n t : Nat} (hn : 1 ≤ n) (ht : t < 24 * n * n) : rA n (24 * n * n) t = (eE n t : Nat) := by
  have k := gT_end hn (t_cell ht) (s := t % 4) (by omega)
  rw [gT_nat, if_pos ⟨t_cell ht, by omega⟩, show 4 * (t / 4) + t % 4 = t by omega] at k
  unfold rA
  rw [k]
/-- the document's net with the edges of T sides -/
def RE (B n T N4 rb ab : Nat) (es : Value) (w : World) : Prop :=
  w.heap[rb]? = some (.cells #[.int .i64 n, es, .slice (some ⟨ab, 0, none⟩) N4 N4] 121) ∧ w.ownsRow B 84 4 es (eN n T) (edL n T) ∧ w.rowIs ab 3 N4 (fun t => .int .i64 (rA n T t)) ∧ (B ≤ rb ∧ B ≤ ab ∧ rb ≠ ab) ∧ es.ownBlock ≠ some rb ∧ es.ownBlock ≠ some ab
theorem RE.to {B n T N4 rb ab : Nat} {es : Value} {w w' : World} (h : RE B n T N4 rb ab es w) (a : Ab w w') : RE B n T N4 rb ab es w' := by
  obtain ⟨h1, h2, h3, h4, h5⟩ := h
  refine ⟨a.heap h1, ?_, rowIs.ab h3 a, h4, h5⟩
  exact h2.kept (row := none) ⟨Below.os a, Below.tape a, Below.output a, Below.size a, fun k hk _ => Below.block a k hk⟩ (by cases es.ownBlock <;> simp)
theorem RE.cells {B n T N4 rb ab : Nat} {es : Value} {w : World} (h : RE B n T N4 rb ab es w) :
    w.cell? ⟨rb, 0, none⟩ = some (.int .i64 n) ∧ w.cell? ⟨rb, 1, none⟩ = some es ∧ w.cell? ⟨rb, 2, none⟩ = some (.slice (some ⟨ab, 0, none⟩) N4 N4) ∧ w.frozen? ⟨rb, 1, none⟩ = false :=
  ⟨cell_of_row _ _ 0 _ _ _ h.1, cell_of_row _ _ 1 _ _ _ h.1, cell_of_row _ _ 2 _ _ _ h.1, free_row h.1 1⟩
end Go.Proofs.YtdigecacmibkpaaGreatDoor

namespace Go.Proofs.YtdigecacmibkpaaGreatDoor
open Tf

/-- the places between the least of 32 bits and the least of 64 -/
def K2 : Nat := 925
end Go.Proofs.YtdigecacmibkpaaGreatDoor

namespace Go.Proofs.YtdigecacmibkpaaGreatDoor
open Tf

/-- the places between the least of 16 bits and the least of 64 -/
def H2 : Nat := 1050
/-! how the code makes the bits of 16 -/
end Go.Proofs.YtdigecacmibkpaaGreatDoor

namespace Go.Proofs.YtdigecacmibkpaaGreatDoor
open Tf

theorem rne_near (n g : Nat) (hg : 0 < g) : 2 * n ≤ 2 * (rne n g * g) + g ∧ 2 * (rne n g * g) ≤ 2 * n + g ∧ ((2 * n = 2 * (rne n g * g) + g ∨ 2 * (rne n g * g) = 2 * n + g) → rne n g % 2 = 0) := by
  have h := Nat.div_add_mod n g
  have hm := Nat.mod_lt n hg
  rw [Nat.mul_comm] at h
  unfold rne
  by_cases c : g < 2 * (n % g) ∨ (g = 2 * (n % g) ∧ n / g % 2 = 1)
  · rw [if_pos c, Nat.add_mul, Nat.one_mul]
    generalize n / g * g = P at *
    omega
  · rw [if_neg c, Nat.add_zero]
    generalize n / g * g = P at *
    omega
/-- at most a half away, at a half even -/
theorem even_near (x : Nat) : 2 * (sv x - cq .even x * one) ≤ one ∧ -(one : Int) ≤ 2 * (sv x - cq .even x * one) ∧ ((2 * (sv x - cq .even x * one) = one ∨ 2 * (sv x - cq .even x * one) = -(one : Int)) → cq .even x % 2 = 0) := by
  have h := rne_near (mv (mg x)) one one_pos
  unfold sv cq
  rw [cutq_even]
  generalize hq : rne (mv (mg x)) one = q at *
  have hp : ((q * one : Nat) : Int) = (q : Int) * (one : Int) := Int.natCast_mul ..
  cases ng x
  · simp only [Bool.false_eq_true, if_false]
    rw [← hp]
    generalize q * one = Q at *
    omega
  · simp only [if_true, Int.neg_mul]
    rw [← hp]
    generalize q * one = Q at *
    omega
theorem R_exact (v : Int) (r : Nat) (h : mv r = v.natAbs) (hr : r ≤ 9218868437227405312) : R v = if v < 0 then -(r : Int) else (r : Int) := by
  unfold R
  rw [← h, rung_mv, Nat.min_eq_left hr]
theorem R_mv (r : Nat) (hr : r ≤ 9218868437227405312) : R (mv r : Int) = r ∧ R (-(mv r : Int)) = -(r : Int) := by
  refine ⟨?_, ?_⟩
  · rw [R_exact _ r (by rw [Int.natAbs_natCast]) hr, if_neg (by omega)]
  · rw [R_exact _ r (by rw [Int.natAbs_neg, Int.natAbs_natCast]) hr]
    by_cases c : r = 0
    · subst c; rw [mv_zero]; simp
    · have := (@mv_lt 0 r).2 (by omega)
      rw [mv_zero] at this
      rw [if_pos (by omega)]

/-- both are of 64 bits just where x is -/
theorem cOk_wOk (way : Ieee.Toward) (x : Nat) (hx : x < 18446744073709551616) : cOk way x = wOk x := by
  cases n : isN x
  · by_cases c : 4841369599423283200 ≤ mg x
    · by_cases fx : mg x < 9218868437227405312
      · obtain ⟨q, hq⟩ := whole_great (mg x) c
        rw [← wOk_itV way x hx n]
        have h := itV_fin way x hx fx
        have e : itV way x = x := by
          have h3 := h.2.2
          rw [hq, cutq_mul _ _ _ _ one_pos, ← hq] at h3
          have h4 := mv_inj.1 h3
          have w1 := word_eq x hx
          have w2 := word_eq (itV way x) (itV_lt way x)
          rw [h4, h.1] at w2
          rw [w2]; exact w1.symm
        rw [e]
      · rw [← wOk_itV way x hx n, itV_inf way x hx (by have := isN_false.1 n; omega)]
    · have h1 : wOk x = true := by
        rw [wOk_rk x hx, n]
        have hr : rk x = mg x ∨ rk x = -(mg x : Int) := by unfold rk; split <;> simp
        rw [decide_eq_true (by omega), decide_eq_true (by omega)]; rfl
      have e : mv 4841369599423283200 = 2 ^ 52 * one := mv_from_one 52 _ (by decide)
      have hl : mv (mg x) < 2 ^ 52 * one := by rw [← e]; exact mv_lt.2 (by omega)
      have hq : mv (mg x) / one < 2 ^ 52 := (Nat.div_lt_iff_lt_mul one_pos).2 hl
      have hc := cutq_le way (ng x) (mv (mg x)) one
      have h2 : cOk way x = true := by
        unfold cOk fin
        have h3 : -9223372036854775808 ≤ cq way x ∧ cq way x < 9223372036854775808 := by
          unfold cq
          generalize cutq way (ng x) (mv (mg x)) one = Q at *
          split <;> omega
        rw [decide_eq_true (by omega), decide_eq_true h3.1, decide_eq_true h3.2]; rfl
      rw [h1, h2]
  · rw [(cOk_nan way n).1, (wOk_nan hx n).1]
end Go.Proofs.YtdigecacmibkpaaGreatDoor

namespace Go.Proofs.YtdigecacmibkpaaGreatDoor
open Go.RowKit Tf
attribute [local go_sem] run_bits run_from raw_feq raw_fne raw_flt raw_fgt run_neg

/-- the ends; the answer -/
def clampM (most : Int) : Int := if most < 0 then 0 else most
def clampB (x : Nat) (most : Int) : Int :=
  if isN x then 0 else if cOk .even x then min (max (cI .even x) (-clampM most)) (clampM most) else if fgt x 0 then clampM most else -clampM most

set_option maxHeartbeats 1000000 in
theorem clamp_nan (x : Nat) (most : Int) (n : isN x = true) (w : World) (hx : x < 18446744073709551616) :
    Calls Tryz.prog 72 #[.float .f64 x, .int .i64 most] w fun e w' => e = .returned (.int .i64 (0)) ∧ ∃ n, w' = w.drewN n := by
  go_enter Tryz.func72, Tryz.ntmps72
  go_wp2_with fail
  refine (cIsNaN_any x _ hx).mono ?_
  rintro e w' ⟨rfl, rfl⟩
  go_wp2
  go_ret
  exact ⟨rfl, 0, rfl⟩
set_option maxHeartbeats 1000000 in
theorem clamp_pos (x : Nat) (most : Int) (m : Int) (n : isN x = false) (hm : (if most < 0 then 0 else most) = m) (_m0 : 0 ≤ m) (_m1 : m ≤ 9223372036854775807) (hi : cI .even x = 0) (ho : cOk .even x = false) (g : fgt x 0 = true) (w : World) (hx : x < 18446744073709551616) :
    Calls Tryz.prog 72 #[.float .f64 x, .int .i64 most] w fun e w' => e = .returned (.int .i64 (m)) ∧ ∃ n, w' = w.drewN n := by
  go_enter Tryz.func72, Tryz.ntmps72
  go_wp2_with fail
  refine (cIsNaN_any x _ hx).mono ?_
  rintro e w' ⟨rfl, rfl⟩
  go_wp2_with fail
  refine (round_at x 0 false _ hx hi ho).mono ?_
  rintro e w' ⟨rfl, k, rfl⟩
  go_wp2
  go_ret
  exact ⟨rfl, k, rfl⟩
set_option maxHeartbeats 1000000 in
theorem clamp_neg (x : Nat) (most : Int) (m : Int) (n : isN x = false) (hm : (if most < 0 then 0 else most) = m) (m0 : 0 ≤ m) (m1 : m ≤ 9223372036854775807) (hi : cI .even x = 0) (ho : cOk .even x = false) (g : fgt x 0 = false) (w : World) (hx : x < 18446744073709551616) :
    Calls Tryz.prog 72 #[.float .f64 x, .int .i64 most] w fun e w' => e = .returned (.int .i64 (-m)) ∧ ∃ n, w' = w.drewN n := by
  go_enter Tryz.func72, Tryz.ntmps72
  go_wp2_with fail
  refine (cIsNaN_any x _ hx).mono ?_
  rintro e w' ⟨rfl, rfl⟩
  go_wp2_with fail
  refine (round_at x 0 false _ hx hi ho).mono ?_
  rintro e w' ⟨rfl, k, rfl⟩
  go_wp2
  go_ret
  exact ⟨rfl, k, rfl⟩
set_option maxHeartbeats 1000000 in
theorem clamp_lo (x : Nat) (most : Int) (m : Int) (n : isN x = false) (hm : (if most < 0 then 0 else most) = m) (m0 : 0 ≤ m) (m1 : m ≤ 9223372036854775807) (i : Int) (hi : cI .even x = i) (ho : cOk .even x = true) (c : i < -m) (w : World) (hx : x < 18446744073709551616) :
    Calls Tryz.prog 72 #[.float .f64 x, .int .i64 most] w fun e w' => e = .returned (.int .i64 (-m)) ∧ ∃ n, w' = w.drewN n := by
  go_enter Tryz.func72, Tryz.ntmps72
  go_wp2_with fail
  refine (cIsNaN_any x _ hx).mono ?_
  rintro e w' ⟨rfl, rfl⟩
  go_wp2_with fail
  refine (round_at x i true _ hx hi ho).mono ?_
  rintro e w' ⟨rfl, k, rfl⟩
  go_wp2
  go_ret
  exact ⟨rfl, k, rfl⟩
set_option maxHeartbeats 1000000 in
theorem clamp_hi (x : Nat) (most : Int) (m : Int) (n : isN x = false) (hm : (if most < 0 then 0 else most) = m) (m0 : 0 ≤ m) (m1 : m ≤ 9223372036854775807) (i : Int) (hi : cI .even x = i) (ho : cOk .even x = true) (c : m < i) (w : World) (hx : x < 18446744073709551616) :
    Calls Tryz.prog 72 #[.float .f64 x, .int .i64 most] w fun e w' => e = .returned (.int .i64 (m)) ∧ ∃ n, w' = w.drewN n := by
  go_enter Tryz.func72, Tryz.ntmps72
  go_wp2_with fail
  refine (cIsNaN_any x _ hx).mono ?_
  rintro e w' ⟨rfl, rfl⟩
  go_wp2_with fail
  refine (round_at x i true _ hx hi ho).mono ?_
  rintro e w' ⟨rfl, k, rfl⟩
  go_wp2
  go_ret
  exact ⟨rfl, k, rfl⟩
set_option maxHeartbeats 1000000 in
theorem clamp_in (x : Nat) (most : Int) (m : Int) (n : isN x = false) (hm : (if most < 0 then 0 else most) = m) (m0 : 0 ≤ m) (m1 : m ≤ 9223372036854775807) (i : Int) (hi : cI .even x = i) (ho : cOk .even x = true) (c : -m ≤ i) (c' : i ≤ m) (w : World) (hx : x < 18446744073709551616) :
    Calls Tryz.prog 72 #[.float .f64 x, .int .i64 most] w fun e w' => e = .returned (.int .i64 (i)) ∧ ∃ n, w' = w.drewN n := by
  go_enter Tryz.func72, Tryz.ntmps72
  go_wp2_with fail
  refine (cIsNaN_any x _ hx).mono ?_
  rintro e w' ⟨rfl, rfl⟩
  go_wp2_with fail
  refine (round_at x i true _ hx hi ho).mono ?_
  rintro e w' ⟨rfl, k, rfl⟩
  go_wp2
  go_ret
  exact ⟨rfl, k, rfl⟩

theorem clamp_at (x : Nat) (most r : Int) (w : World) (hx : x < 18446744073709551616) (hm : most ≤ 9223372036854775807) (hr : clampB x most = r) :
    Calls Tryz.prog 72 #[.float .f64 x, .int .i64 most] w fun e w' => e = .returned (.int .i64 r) ∧ ∃ n, w' = w.drewN n := by
  subst hr
  unfold clampB
  have hm' : (if most < 0 then 0 else most) = clampM most := rfl
  have m0 : 0 ≤ clampM most := by unfold clampM; split <;> omega
  have m1 : clampM most ≤ 9223372036854775807 := by unfold clampM; split <;> omega
  generalize clampM most = m at *
  cases n : isN x
  · rw [if_neg (by decide)]
    cases ho : cOk .even x
    · have hi : cI .even x = 0 := by unfold cI; rw [ho]; rfl
      rw [if_neg (by decide)]
      cases g : fgt x 0
      · rw [if_neg (by decide)]; exact clamp_neg x most m n hm' m0 m1 hi ho g w hx
      · rw [if_pos rfl]; exact clamp_pos x most m n hm' m0 m1 hi ho g w hx
    · rw [if_pos rfl]
      by_cases c : cI .even x < -m
      · rw [show min (max (cI .even x) (-m)) m = -m by omega]
        exact clamp_lo x most m n hm' m0 m1 _ rfl ho c w hx
      · by_cases c2 : m < cI .even x
        · rw [show min (max (cI .even x) (-m)) m = m by omega]
          exact clamp_hi x most m n hm' m0 m1 _ rfl ho c2 w hx
        · rw [show min (max (cI .even x) (-m)) m = cI .even x by omega]
          exact clamp_in x most m n hm' m0 m1 _ rfl ho (by omega) (by omega) w hx
  · rw [if_pos rfl]; exact clamp_nan x most n w hx
end Go.Proofs.YtdigecacmibkpaaGreatDoor

namespace Go.Proofs.YtdigecacmibkpaaGreatDoor
open Tf

theorem sv_le_iff (x y : Nat) : sv x ≤ sv y ↔ rk x ≤ rk y := by
  have := sv_lt_iff y x
  omega
theorem cq_even_mono {x y : Nat} (h : sv x ≤ sv y) : cq .even x ≤ cq .even y := by
  by_cases c : cq .even x ≤ cq .even y
  · exact c
  · exfalso
    obtain ⟨a1, a2, a3⟩ := even_near x
    obtain ⟨b1, b2, b3⟩ := even_near y
    have o := onep
    have e : (cq .even y + 1) * one ≤ cq .even x * one := Int.mul_le_mul_of_nonneg_right (by omega) (by omega)
    rw [Int.add_mul, Int.one_mul] at e
    have p1 := a3 (.inr (by omega))
    have p2 := b3 (.inl (by omega))
    have e2 : cq .even x * one = (cq .even y + 1) * one := by rw [Int.add_mul, Int.one_mul]; omega
    have := Int.eq_of_mul_eq_mul_right (by omega) e2
    omega

/-- what has no rank below the least whole number of 64 bits, and none above the greatest -/
theorem cOk_rk (way : Ieee.Toward) (x : Nat) (hx : x < 18446744073709551616) (n : isN x = false) : cOk way x = (decide (-4890909195324358656 ≤ rk x) && decide (rk x < 4890909195324358656)) := by
  rw [cOk_wOk way x hx, wOk_rk x hx, n]; simp
theorem fgt_zero (x : Nat) (hx : x < 18446744073709551616) (n : isN x = false) : fgt x 0 = decide (0 < rk x) := by
  have e : rk 0 = 0 := by decide
  have n0 : isN 0 = false := by decide
  rw [fgt_rk x 0 hx (by decide), n, n0, e]; simp
theorem cI_eq (way : Ieee.Toward) (x : Nat) (h : cOk way x = true) : cI way x = cq way x := by unfold cI; rw [h, if_pos rfl]

theorem clampM_nonneg (most : Int) : 0 ≤ clampM most := by unfold clampM; split <;> omega
theorem clampB_num (x : Nat) (most : Int) (hx : x < 18446744073709551616) (n : isN x = false) :
    clampB x most = if rk x < -4890909195324358656 then -clampM most else if rk x < 4890909195324358656 then min (max (cq .even x) (-clampM most)) (clampM most) else clampM most := by
  have hm := clampM_nonneg most
  have hk := cOk_rk .even x hx n
  have hg := fgt_zero x hx n
  unfold clampB
  rw [n, if_neg (by decide)]
  by_cases c1 : rk x < -4890909195324358656
  · have o : cOk .even x = false := by rw [hk, decide_eq_false (by omega)]; rfl
    rw [if_pos c1, o, hg, if_neg (by decide), decide_eq_false (by omega), if_neg (by decide)]
  · rw [if_neg c1]
    by_cases c2 : rk x < 4890909195324358656
    · have o : cOk .even x = true := by rw [hk, decide_eq_true (by omega), decide_eq_true c2]; rfl
      rw [if_pos c2, o, if_pos rfl, cI_eq .even x o]
    · have o : cOk .even x = false := by rw [hk, decide_eq_false c2, Bool.and_false]
      rw [if_neg c2, o, hg, if_neg (by decide), decide_eq_true (by omega), if_pos rfl]
theorem clampB_mono (x y : Nat) (most : Int) (hx : x < 18446744073709551616) (hy : y < 18446744073709551616) (nx : isN x = false) (ny : isN y = false) (h : rk x ≤ rk y) : clampB x most ≤ clampB y most := by
  have hm := clampM_nonneg most
  have hc := cq_even_mono ((sv_le_iff x y).2 h)
  rw [clampB_num x most hx nx, clampB_num y most hy ny]
  repeat' split
  all_goals omega

end Go.Proofs.YtdigecacmibkpaaGreatDoor

namespace Go.Proofs.YtdigecacmibkpaaGreatDoor.Ref2
open Go.RowKit Tf
attribute [local go_sem] run_bits run_from raw_feq raw_fne raw_flt raw_fgt run_neg

/-- too great for 64 bits -/
def gr (m e : Nat) : Bool := decide (m ≠ 0) && (decide (11 < e) || decide (9223372036854775808 / 2 ^ e < m))
end Go.Proofs.YtdigecacmibkpaaGreatDoor.Ref2

namespace Go.Proofs.YtdigecacmibkpaaGreatDoor.Ref2
open Go.RowKit Tf
attribute [local go_sem] run_bits run_from raw_feq raw_fne raw_flt raw_fgt run_neg

/-- how many bits -/
def bl (m : Nat) : Nat := if m = 0 then 0 else m.log2 + 1
end Go.Proofs.YtdigecacmibkpaaGreatDoor.Ref2

namespace Go.Proofs.YtdigecacmibkpaaGreatDoor
open Go.RowKit Cu Tf
attribute [local go_sem] run_store_float
/-- the document's net of side n lies in block rb -/
def RefOf (n rb : Nat) (w : World) : Prop := ∃ ab eb cap, w.heap[rb]? = some (.cells #[.int .i64 n, .slice (some ⟨eb, 0, none⟩) (12 * n * n) cap, .slice (some ⟨ab, 0, none⟩) (24 * n * n) (24 * n * n)] 121) ∧ EG w n eb ∧ w.rowIs ab 3 (24 * n * n) (fun t => .int .i64 (eE n t : Nat))
theorem RefOf.to {n rb : Nat} {w w' : World} (h : RefOf n rb w) (a : Ab w w') : RefOf n rb w' := by
  obtain ⟨ab, eb, cap, h1, h2, h3⟩ := h
  exact ⟨ab, eb, cap, a.heap h1, h2.to a, rowIs.ab h3 a⟩
theorem RE.all {B n rb ab : Nat} {es : Value} {w : World} (hn : 1 ≤ n) (h : RE B n (24 * n * n) (24 * n * n) rb ab es w) : RefOf n rb w := by
  obtain ⟨h1, h2, h3, h4, h5, h6⟩ := h
  have hh := h2
  have hpos : 0 < 12 * n * n := Nat.mul_pos (by omega) (by omega)
  rw [eN_all hn] at hh
  rcases hh.2 with ⟨rfl, h0⟩ | ⟨g, cap, cur, rfl, hb, hg, k1, k2, k3, k4⟩
  · omega
  · refine ⟨ab, g, cap, h1, ⟨lt_of_block hg, fun t ht hl => ?_⟩, h3.congr (fun t ht => by rw [rA_end hn ht])⟩
    have hc : ∀ j < 4, ∀ u, (edV n t)[j]? = some u → w.cell? ⟨g, eN n t * 4 + j, none⟩ = some u := by
      intro j hj u hu
      have := hh.cells (g := g) rfl (eN n t * 4 + j) u (by rw [edL_at ht hl hj]; exact hu)
      have ha : (⟨g, 0, none⟩ : Addr).add (eN n t * 4 + j) = ⟨g, eN n t * 4 + j, none⟩ := by unfold Addr.add; split <;> simp_all
      rwa [ha] at this
    exact ⟨hc 0 (by omega) _ rfl, hc 1 (by omega) _ rfl, hc 2 (by omega) _ rfl, hc 3 (by omega) _ rfl⟩
end Go.Proofs.YtdigecacmibkpaaGreatDoor

namespace Go.Proofs.YtdigecacmibkpaaGreatDoor
open Go.RowKit Cu Tf
attribute [local go_sem] run_store_float
theorem RefOf.c0 {n rb : Nat} {w : World} (h : RefOf n rb w) : w.cell? ⟨rb, 0, none⟩ = some (.int .i64 n) := by
  obtain ⟨ab, eb, cap, h1, -⟩ := h
  exact cell_of_row _ _ 0 _ _ _ h1
end Go.Proofs.YtdigecacmibkpaaGreatDoor

namespace Go.Proofs.YtdigecacmibkpaaGreatDoor.Sh
/-- a quotient against its parts -/
theorem div_two {a z : Int} (hz : 0 < z) : z * (a / z) ≤ a ∧ a < z * (a / z) + z := by
  have h1 := Int.mul_ediv_add_emod a z
  have h2 := Int.emod_nonneg a (show z ≠ 0 by omega)
  have h3 := Int.emod_lt_of_pos a hz
  constructor <;> omega
/-- all of them together -/
def sumN (f : Nat → Int) : Nat → Int
  | 0 => 0
  | n + 1 => sumN f n + f n
theorem sumN_nn {f : Nat → Int} : ∀ {n : Nat}, (∀ i, i < n → 0 ≤ f i) → 0 ≤ sumN f n
  | 0, _ => by show (0 : Int) ≤ 0; omega
  | n + 1, h => by
    show 0 ≤ sumN f n + f n
    have a := sumN_nn (n := n) (fun i hi => h i (by omega))
    have b := h n (by omega)
    omega
theorem sumN_mono {f : Nat → Int} {n : Nat} (h : ∀ i, i < n → 0 ≤ f i) : ∀ {m : Nat}, m ≤ n → sumN f m ≤ sumN f n := by
  intro m hm
  induction n with
  | zero => obtain rfl : m = 0 := by omega
            omega
  | succ n ih =>
    by_cases e : m = n + 1
    · subst e; omega
    · have a := ih (fun i hi => h i (by omega)) (by omega)
      have b := h n (by omega)
      show sumN f m ≤ sumN f n + f n
      omega
end Go.Proofs.YtdigecacmibkpaaGreatDoor.Sh

namespace Go.Proofs.YtdigecacmibkpaaGreatDoor
namespace Rv
open Sh
/-! ### the order -/
/-! ### a step of rivers -/
/-- waters or tracers that can be -/
def okV (n : Nat) (f : Nat → Int) : Prop := (∀ c, c < n → 0 ≤ f c) ∧ sumN f n ≤ 4503599627370496
theorem elem_le {f : Nat → Int} {n c : Nat} (h : ∀ i, i < n → 0 ≤ f i) (hc : c < n) : f c ≤ sumN f n := by
  have a := sumN_mono h (m := c + 1) (by omega)
  have b := sumN_nn (f := f) (n := c) (fun i hi => h i (by omega))
  have e : sumN f (c + 1) = sumN f c + f c := rfl
  omega
theorem okV.b {n : Nat} {f : Nat → Int} (h : okV n f) {c : Nat} (hc : c < n) : 0 ≤ f c ∧ f c ≤ 4503599627370496 := ⟨h.1 c hc, by have := elem_le h.1 hc; have := h.2; omega⟩
section
variable {n : Nat} {dn : Nat → Int} {sh : Int → Nat → Bool} {X : (Nat → Int) × (Nat → Int)}
end
end Rv
end Go.Proofs.YtdigecacmibkpaaGreatDoor

namespace Go.Proofs.YtdigecacmibkpaaGreatDoor
open Tf Ieee
def Hi (h x : Nat) : Prop := mg x = 0 ∨ (238690780250636288 ≤ mg x ∧ mg x ≤ h)
theorem Hi.md {h x : Nat} (k : Hi h x) (hh : h + 4503599627370496 < 9218868437227405312) : Md x := by
  rcases k with k | k
  · exact .inl k
  · exact .inr ⟨by omega, by omega⟩
theorem mv_52 {r : Nat} (h : 238690780250636288 ≤ r) : ∃ q, mv r = q * 4503599627370496 := by
  unfold mv mag
  have e : (2 : Nat) ^ 52 = 4503599627370496 := by decide
  rw [if_neg (by omega), e]
  obtain ⟨j, hj⟩ : ∃ j, r / 4503599627370496 - 1 = 52 + j := ⟨r / 4503599627370496 - 1 - 52, by omega⟩
  rw [hj, Nat.pow_add, e]
  exact ⟨(4503599627370496 + r % 4503599627370496) * 2 ^ j, by rw [← Nat.mul_assoc, Nat.mul_right_comm]⟩
theorem Hi.sv {h x : Nat} (k : Hi h x) : ∃ q : Int, sv x = q * 4503599627370496 := by
  unfold Tf.sv
  rcases k with k | k
  · rw [k, mv_zero]; exact ⟨0, by cases ng x <;> rfl⟩
  · obtain ⟨q, hq⟩ := mv_52 k.1
    rw [hq]
    cases ng x
    · exact ⟨q, by simp⟩
    · exact ⟨-q, by simp; omega⟩
/-- a number that is no less than nothing -/
def Ps (h x : Nat) : Prop := Hi h x ∧ x < 9223372036854775808
theorem Ps.lt {h x : Nat} (k : Ps h x) : x < 18446744073709551616 := by have := k.2; omega
theorem Ps.ng {h x : Nat} (k : Ps h x) : Tf.ng x = false := ng_of_lt k.2
theorem Ps.mg {h x : Nat} (k : Ps h x) : Tf.mg x = x := mg_of_lt k.2
/-- from 1e-100 to 1e100, or nought -/
def In1 (x : Nat) : Prop := mg x = 0 ∨ (3110860544497550640 ≤ mg x ∧ mg x ≤ 6103021453049119613)
theorem In1.hi {x : Nat} (k : In1 x) : Hi 6103021453049119613 x := by
  rcases k with k | k
  · exact .inl k
  · exact .inr ⟨by omega, k.2⟩
theorem In1.md {x : Nat} (k : In1 x) : Md x := k.hi.md (by omega)
theorem pr_lo : mv 1599789920352257571 * 2 ^ K ≤ mv 3110860544497550640 * mv 3110860544497550640 := by decide +kernel
theorem pr_hi : mv 6103021453049119613 * mv 6103021453049119613 ≤ mv 7613934262404594417 * 2 ^ K := by decide +kernel
theorem pr_lg : 2 ^ (52 + K) ≤ mv 3110860544497550640 * mv 3110860544497550640 := by decide +kernel
theorem rung_ge' {d r V : Nat} (h : mv r * 2 ^ d ≤ V) : r ≤ rung 52 d V := rung_ge (by omega) h
theorem rung_le' {d r V : Nat} (h : V ≤ mv r * 2 ^ d) : rung 52 d V ≤ r := rung_le (by omega) h
theorem pr_rung {V : Nat} (h1 : mv 3110860544497550640 * mv 3110860544497550640 ≤ V) (h2 : V ≤ mv 6103021453049119613 * mv 6103021453049119613) :
    52 + 1074 ≤ V.log2 ∧ 1599789920352257571 ≤ rung 52 1074 V ∧ rung 52 1074 V ≤ 7613934262404594417 := by
  have hV : 2 ^ (52 + K) ≤ V := Nat.le_trans pr_lg h1
  have h0 : V ≠ 0 := by have := Nat.two_pow_pos (52 + K); omega
  refine ⟨?_, ?_, ?_⟩
  · have := (Nat.le_log2 h0).2 hV
    exact this
  · exact rung_ge' (d := K) (Nat.le_trans pr_lo h1)
  · exact rung_le' (d := K) (Nat.le_trans h2 pr_hi)
theorem In1.far {x y : Nat} (kx : In1 x) (ky : In1 y) : Far x y := by
  rcases kx with kx | kx
  · exact .inl (.inl kx)
  · rcases ky with ky | ky
    · exact .inl (.inr ky)
    · obtain ⟨a, b, c⟩ := pr_rung (Nat.mul_le_mul (mv_le.2 kx.1) (mv_le.2 ky.1)) (Nat.mul_le_mul (mv_le.2 kx.2) (mv_le.2 ky.2))
      exact .inr ⟨a, by omega⟩
end Go.Proofs.YtdigecacmibkpaaGreatDoor

namespace Go.Proofs.YtdigecacmibkpaaGreatDoor
open Tf Ieee
/-- a product of two floats that aren't below nothing -/
theorem ml_word {a b : Nat} (ha : a < 9218868437227405312) (hb : b < 9218868437227405312) : mlB a b = min (rung 52 1074 (mv a * mv b)) 9218868437227405312 := by
  have ma : mg a = a := mg_of_lt (by omega)
  have mb : mg b = b := mg_of_lt (by omega)
  rw [mul_w (by omega) (by omega) (by omega) (by omega), ng_of_lt (by omega), ng_of_lt (by omega), ma, mb]
  simp only [Bool.xor_self, Bool.false_eq_true, if_false]
/-- Superbee above nothing -/
def sbee (a b : Nat) : Nat := max (min (mlB 4611686018427387904 a) b) (min a (mlB 4611686018427387904 b))
end Go.Proofs.YtdigecacmibkpaaGreatDoor

namespace Go.Proofs.YtdigecacmibkpaaGreatDoor
open Tf Ieee
/-- a whole number as a float -/
def fw (n : Int) : Nat := rn false (n * one)
theorem R_one : R one = 4607182418800017408 := (R_mv 4607182418800017408 (by decide)).1
theorem mv_2_63 : mv 4890909195324358656 = 9223372036854775808 * one := by
  have h := mv_from_one 63 4890909195324358656 (by decide)
  have e : (2 : Nat) ^ 63 = 9223372036854775808 := by decide
  rw [e] at h
  exact h
theorem R_max : R (9223372036854775808 * one) = 4890909195324358656 := by
  have h := (R_mv 4890909195324358656 (by decide)).1
  rw [mv_2_63, Int.natCast_mul] at h
  exact h
theorem rn_nn {v : Int} (h : 0 ≤ v) : rn false v = (R v).toNat := by
  unfold rn R
  generalize min (rung 52 0 v.natAbs) 9218868437227405312 = m
  by_cases z : v = 0
  · rw [if_pos z, if_neg (by decide), if_neg (by omega), Int.toNat_natCast]
  · rw [if_neg z, decide_eq_false (by omega), if_neg (by decide), if_neg (by omega), Int.toNat_natCast]
theorem fw_R {n : Int} (h : 0 ≤ n) : fw n = (R (n * one)).toNat := rn_nn (Int.mul_nonneg h (Int.le_of_lt onep))
theorem fw_in {n : Int} (h1 : 1 ≤ n) (h2 : n ≤ 9223372036854775807) : 4607182418800017408 ≤ fw n ∧ fw n ≤ 4890909195324358656 := by
  have a := R_mono (Int.mul_le_mul_of_nonneg_right h1 (Int.le_of_lt onep))
  have b := R_mono (Int.mul_le_mul_of_nonneg_right (show n ≤ 9223372036854775808 by omega) (Int.le_of_lt onep))
  rw [Int.one_mul, R_one] at a
  rw [R_max] at b
  rw [fw_R (by omega)]
  omega
end Go.Proofs.YtdigecacmibkpaaGreatDoor

namespace Go.Proofs.YtdigecacmibkpaaGreatDoor
open Tf Ieee
theorem fle_of {x y : Nat} (hx : x < 18446744073709551616) (hy : y < 18446744073709551616) (nx : isN x = false) (ny : isN y = false) : (flt x y || feq x y) = decide (rk x ≤ rk y) := by
  rw [flt_rk x y hx hy, feq_rk x y hx hy, nx, ny]
  by_cases c : rk x < rk y
  · rw [decide_eq_true c, decide_eq_true (p := rk x ≤ rk y) (by omega)]; rfl
  · rw [decide_eq_false c]
    by_cases d : rk x = rk y
    · rw [decide_eq_true d, decide_eq_true (p := rk x ≤ rk y) (by omega)]; rfl
    · rw [decide_eq_false d, decide_eq_false (p := rk x ≤ rk y) (by omega)]; rfl
theorem fge_of {x y : Nat} (hx : x < 18446744073709551616) (hy : y < 18446744073709551616) (nx : isN x = false) (ny : isN y = false) : (fgt x y || feq x y) = decide (rk y ≤ rk x) := by
  rw [fgt_rk x y hx hy, feq_rk x y hx hy, nx, ny]
  by_cases c : rk y < rk x
  · rw [decide_eq_true c, decide_eq_true (p := rk y ≤ rk x) (by omega)]; rfl
  · rw [decide_eq_false c]
    by_cases d : rk x = rk y
    · rw [decide_eq_true d, decide_eq_true (p := rk y ≤ rk x) (by omega)]; rfl
    · rw [decide_eq_false d, decide_eq_false (p := rk y ≤ rk x) (by omega)]; rfl
end Go.Proofs.YtdigecacmibkpaaGreatDoor

namespace Go.Proofs.YtdigecacmibkpaaGreatDoor
open Tf
namespace Ss
/-- a float that lies from lo to hi, and isn't -0 -/
def btw (x lo hi : Nat) : Bool := (fgt x lo || feq x lo) && (flt x hi || feq x hi) && decide (x ≠ 9223372036854775808)
/-- the first of n places at which p is true; -1 -/
def fp (p : Nat → Bool) (n : Nat) : Int := match (List.range n).find? p with
  | some i => (i : Int)
  | none => -1
theorem fp_hit {p : Nat → Bool} {n k : Nat} (h : ∀ i, i < k → p i = false) (hk : p k = true) (hn : k < n) : fp p n = (k : Nat) := by
  have e : (List.range n).find? p = some k := by
    rw [List.find?_range_eq_some]
    exact ⟨hk, List.mem_range.2 hn, fun j hj => by rw [h j hj]; rfl⟩
  unfold fp
  rw [e]
theorem fp_none {p : Nat → Bool} {n : Nat} (h : ∀ i, i < n → p i = false) : fp p n = -1 := by
  have e : (List.range n).find? p = none := by
    rw [List.find?_eq_none]
    intro x hx
    rw [h x (List.mem_range.1 hx)]
    decide
  unfold fp
  rw [e]
theorem fp_cases (p : Nat → Bool) (n : Nat) : (fp p n = -1 ∧ ∀ i, i < n → p i = false) ∨ ∃ k, k < n ∧ fp p n = (k : Nat) ∧ p k = true ∧ ∀ i, i < k → p i = false := by
  cases e : (List.range n).find? p with
  | none =>
    refine .inl ⟨by unfold fp; rw [e], fun i hi => ?_⟩
    have := List.find?_eq_none.1 e i (List.mem_range.2 hi)
    cases q : p i with
    | false => rfl
    | true => exact absurd q this
  | some k =>
    obtain ⟨h1, h2, h3⟩ := List.find?_range_eq_some.1 e
    refine .inr ⟨k, List.mem_range.1 h2, by unfold fp; rw [e], h1, fun i hi => ?_⟩
    have := h3 i hi
    cases q : p i with
    | false => rfl
    | true => rw [q] at this; cases this
theorem fp_neg {p : Nat → Bool} {n : Nat} (h : fp p n < 0) : ∀ i, i < n → p i = false := by
  rcases fp_cases p n with ⟨_, q⟩ | ⟨k, _, e, _⟩
  · exact q
  · omega
theorem fp_ge (p : Nat → Bool) (n : Nat) : -1 ≤ fp p n ∧ fp p n < n := by
  rcases fp_cases p n with ⟨e, _⟩ | ⟨k, hk, e, _⟩ <;> omega
/-- a bed, a speed that can't be -/
def bB (B : Nat → Nat) (i : Nat) : Bool := !btw (B i) 13920626448202203136 4697254411347427328
def bS (S : Nat → Nat) (i : Nat) : Bool := !btw (S i) 13875590451928498176 4652218415073722368
/-- water that can't be, with what is there already -/
def bQ (W : Nat → Int) (th : Int) (i : Nat) : Bool := decide (W i < 0) || decide (4503599627370496 - (th + Sh.sumN W i) < W i)
/-- the place of the first fault of a sea of N cells, and its error -/
def chN (N : Nat) (lb lw lt ls : Nat) (B : Nat → Nat) (W T : Nat → Int) (S : Nat → Nat) (sky st : Int) : Int × Int :=
  if lb ≠ N then (0, 12) else if lw ≠ N then (1, 12) else if lt ≠ N then (2, 12) else if ls ≠ 2 * N then (3, 12)
  else if 0 ≤ fp (bB B) N then (fp (bB B) N, 13)
  else if sky < 0 ∨ 4503599627370496 < sky then (0, 17)
  else if 0 ≤ fp (bQ W sky) N then (fp (bQ W sky) N, 14)
  else if 0 ≤ fp (bQ T 0) N then (fp (bQ T 0) N, 15)
  else if 0 ≤ fp (bS S) (2 * N) then (fp (bS S) (2 * N), 16)
  else if st < 0 ∨ 4611686018427387904 < st then (0, 1) else (0, 0)
/-- what Check answers -/
def chk (side : Int) (lb lw lt ls : Nat) (B : Nat → Nat) (W T : Nat → Int) (S : Nat → Nat) (sky st : Int) : Int × Int :=
  if 1 ≤ side ∧ side ≤ 32 then chN (6 * side.toNat * side.toNat) lb lw lt ls B W T S sky st else (0, 10)
/-- numbers that can be a sea of N cells -/
def okN (N : Nat) (B : Nat → Nat) (W T : Nat → Int) (S : Nat → Nat) (sky st : Int) : Prop :=
  (∀ i, i < N → bB B i = false) ∧ (0 ≤ sky ∧ sky ≤ 4503599627370496) ∧ ((∀ i, i < N → 0 ≤ W i) ∧ sky + Sh.sumN W N ≤ 4503599627370496) ∧ Rv.okV N T ∧ (∀ i, i < 2 * N → bS S i = false) ∧ 0 ≤ st ∧ st ≤ 4611686018427387904
theorem bQ_none {W : Nat → Int} {th : Int} {n : Nat} (ht : th ≤ 4503599627370496) : (∀ i, i < n → bQ W th i = false) ↔ (∀ i, i < n → 0 ≤ W i) ∧ th + Sh.sumN W n ≤ 4503599627370496 := by
  constructor
  · intro h
    have f : ∀ i, i < n → 0 ≤ W i ∧ th + Sh.sumN W i + W i ≤ 4503599627370496 := fun i hi => by
      have := h i hi
      unfold bQ at this
      rw [Bool.or_eq_false_iff, decide_eq_false_iff_not, decide_eq_false_iff_not] at this
      omega
    refine ⟨fun i hi => (f i hi).1, ?_⟩
    cases n with
    | zero => show th + 0 ≤ _; omega
    | succ m =>
      have := (f m (by omega)).2
      show th + (Sh.sumN W m + W m) ≤ _
      omega
  · rintro ⟨h1, h2⟩ i hi
    have m := Sh.sumN_mono h1 (m := i + 1) (by omega)
    have e : Sh.sumN W (i + 1) = Sh.sumN W i + W i := rfl
    have := h1 i hi
    unfold bQ
    rw [Bool.or_eq_false_iff, decide_eq_false_iff_not, decide_eq_false_iff_not]
    omega
/-- a sea can be just if Check finds nothing -/
theorem chN_ok {N lb lw lt ls : Nat} {B : Nat → Nat} {W T : Nat → Int} {S : Nat → Nat} {sky st : Int} :
    (chN N lb lw lt ls B W T S sky st).2 = 0 ↔ (lb = N ∧ lw = N ∧ lt = N ∧ ls = 2 * N) ∧ okN N B W T S sky st := by
  unfold chN
  by_cases h1 : lb = N
  · rw [if_neg (by omega)]
    by_cases h2 : lw = N
    · rw [if_neg (by omega)]
      by_cases h3 : lt = N
      · rw [if_neg (by omega)]
        by_cases h4 : ls = 2 * N
        · rw [if_neg (by omega)]
          by_cases h5 : 0 ≤ fp (bB B) N
          · rw [if_pos h5]
            refine ⟨fun q => by simp at q, fun q => ?_⟩
            rw [fp_none q.2.1] at h5
            omega
          · rw [if_neg h5]
            have k5 := fp_neg (p := bB B) (n := N) (by omega)
            by_cases h6 : sky < 0 ∨ 4503599627370496 < sky
            · rw [if_pos h6]
              refine ⟨fun q => by simp at q, fun q => ?_⟩
              have := q.2.2.1
              omega
            · rw [if_neg h6]
              by_cases h7 : 0 ≤ fp (bQ W sky) N
              · rw [if_pos h7]
                refine ⟨fun q => by simp at q, fun q => ?_⟩
                rw [fp_none ((bQ_none (by omega)).2 q.2.2.2.1)] at h7
                omega
              · rw [if_neg h7]
                have k7 := (bQ_none (by omega)).1 (fp_neg (p := bQ W sky) (n := N) (by omega))
                by_cases h8 : 0 ≤ fp (bQ T 0) N
                · rw [if_pos h8]
                  refine ⟨fun q => by simp at q, fun q => ?_⟩
                  rw [fp_none ((bQ_none (by omega)).2 ⟨q.2.2.2.2.1.1, by have := q.2.2.2.2.1.2; omega⟩)] at h8
                  omega
                · rw [if_neg h8]
                  have k8 := (bQ_none (th := 0) (by omega)).1 (fp_neg (p := bQ T 0) (n := N) (by omega))
                  by_cases h9 : 0 ≤ fp (bS S) (2 * N)
                  · rw [if_pos h9]
                    refine ⟨fun q => by simp at q, fun q => ?_⟩
                    rw [fp_none q.2.2.2.2.2.1] at h9
                    omega
                  · rw [if_neg h9]
                    have k9 := fp_neg (p := bS S) (n := 2 * N) (by omega)
                    by_cases h10 : st < 0 ∨ 4611686018427387904 < st
                    · rw [if_pos h10]
                      refine ⟨fun q => by simp at q, fun q => ?_⟩
                      have := q.2.2.2.2.2.2
                      omega
                    · rw [if_neg h10]
                      exact ⟨fun _ => ⟨⟨h1, h2, h3, h4⟩, k5, ⟨by omega, by omega⟩, k7, ⟨k8.1, by have := k8.2; omega⟩, k9, by omega, by omega⟩, fun _ => rfl⟩
        · rw [if_pos h4]
          exact ⟨fun q => by simp at q, fun q => absurd q.1.2.2.2 h4⟩
      · rw [if_pos h3]
        exact ⟨fun q => by simp at q, fun q => absurd q.1.2.2.1 h3⟩
    · rw [if_pos h2]
      exact ⟨fun q => by simp at q, fun q => absurd q.1.2.1 h2⟩
  · rw [if_pos h1]
    exact ⟨fun q => by simp at q, fun q => absurd q.1.1 h1⟩
theorem chN_zero {N lb lw lt ls : Nat} {B : Nat → Nat} {W T : Nat → Int} {S : Nat → Nat} {sky st : Int} (h : (lb = N ∧ lw = N ∧ lt = N ∧ ls = 2 * N) ∧ okN N B W T S sky st) : chN N lb lw lt ls B W T S sky st = (0, 0) := by
  obtain ⟨⟨rfl, rfl, rfl, rfl⟩, o1, o2, o3, o4, o5, o6⟩ := h
  unfold chN
  rw [if_neg (by omega), if_neg (by omega), if_neg (by omega), if_neg (by omega), if_neg (by rw [fp_none o1]; omega), if_neg (by omega), if_neg (by rw [fp_none ((bQ_none (by omega)).2 o3)]; omega), if_neg (by rw [fp_none ((bQ_none (by omega)).2 ⟨o4.1, by have := o4.2; omega⟩)]; omega), if_neg (by rw [fp_none o5]; omega), if_neg (by omega)]
/-- whether a rain can be, in n cells -/
def rB (n : Int) (r : Int × Int × Int × Int) : Bool := decide (0 ≤ r.1) && decide (r.1 < n) && decide (-4503599627370496 ≤ r.2.1) && decide (r.2.1 ≤ 4503599627370496) && decide (0 ≤ r.2.2.1) && decide (r.2.2.1 ≤ r.2.2.2)
/-- what Plan answers -/
def plE (sd : Int) (dt gr dr : Nat) (lim : Int) (lr : Nat) (R : Nat → Int × Int × Int × Int) : Int :=
  if ¬ (1 ≤ sd ∧ sd ≤ 32) then 10
  else if ¬ (btw dt 0 4652218415073722368 = true ∧ feq dt 0 = false ∧ btw gr 0 4652218415073722368 = true ∧ btw dr 0 4652218415073722368 = true ∧ (0 ≤ lim ∧ lim ≤ 3)) then 11
  else if ¬ (lr ≤ 1024 ∧ ∀ k, k < lr → rB ((6 * sd.toNat * sd.toNat : Nat) : Int) (R k) = true) then 18 else 0
/-- the same numbers -/
def eqL {α : Type} [DecidableEq α] (n m : Nat) (f g : Nat → α) : Bool := decide (n = m ∧ ∀ i, i < n → f i = g i)
end Ss
end Go.Proofs.YtdigecacmibkpaaGreatDoor

namespace Go.Proofs.YtdigecacmibkpaaGreatDoor
open Tf Ieee
/-- Leer above nothing, ahead of the look whether it is finite -/
def leer (a b : Nat) : Nat := dvB (mlB (mlB 4611686018427387904 a) b) (plB a b)
end Go.Proofs.YtdigecacmibkpaaGreatDoor

namespace Go.Proofs.YtdigecacmibkpaaGreatDoor
open Tf Ieee
theorem canon_nn {r : Nat} (h : r ≤ 9218868437227405312) : canonB r = r := by
  have mr : mg r = r := mg_of_lt (by omega)
  unfold canonB
  rw [mr, if_neg (by unfold isN; rw [mr]; simp; omega)]
  split <;> omega
theorem ml_nn {x y : Nat} (hx : x ≤ 9218868437227405312) (hy : y ≤ 9218868437227405312) (x0 : 0 < x) (y0 : 0 < y) : mlB x y ≤ 9218868437227405312 := by
  have mx : mg x = x := mg_of_lt (by omega)
  have my : mg y = y := mg_of_lt (by omega)
  have nx : ng x = false := ng_of_lt (by omega)
  have ny : ng y = false := ng_of_lt (by omega)
  have hi : infW (false ^^ false) = 9218868437227405312 := by decide
  by_cases cx : x = 9218868437227405312
  · by_cases cy : y = 9218868437227405312
    · have e := mul_ii x y (by omega) (by omega) (by omega) (by omega)
      rw [mlB_some e, nx, ny, hi]
      exact Nat.le_refl _
    · have e := mul_if x y (by omega) (by omega) (by omega) (by omega)
      rw [if_neg (by omega)] at e
      rw [mlB_some e, nx, ny, hi]
      exact Nat.le_refl _
  · by_cases cy : y = 9218868437227405312
    · have e := mul_fi x y (by omega) (by omega) (by omega) (by omega)
      rw [if_neg (by omega)] at e
      rw [mlB_some e, nx, ny, hi]
      exact Nat.le_refl _
    · rw [ml_word (by omega) (by omega)]
      exact Nat.min_le_right _ _
end Go.Proofs.YtdigecacmibkpaaGreatDoor

namespace Go.Proofs.YtdigecacmibkpaaGreatDoor
open Tf Ieee
theorem R_pos {v : Int} (h : 0 < v) : 1 ≤ R v := by
  have := R_mono (show (1 : Int) ≤ v by omega)
  rwa [show R 1 = 1 by decide +kernel] at this
theorem R_top (v : Int) : R v ≤ 9218868437227405312 := by
  unfold R
  have := Nat.min_le_right (rung 52 0 v.natAbs) 9218868437227405312
  split <;> omega
/-- how high the level lies above the bed -/
theorem hi_val {l b : Nat} (hl : l < 18446744073709551616) (hb : b < 18446744073709551616) (nl : isN l = false) (nb : isN b = false) (h : rk b < rk l) :
    sbB l b = if mg l < 9218868437227405312 ∧ mg b < 9218868437227405312 then (R (sv l - sv b)).toNat else 9218868437227405312 := by
  have wl := word_eq l hl
  have wb := word_eq b hb
  have hml := isN_false.1 nl
  have hmb := isN_false.1 nb
  unfold sbB
  have hn := negB_lt' hb
  have mn := negB_mg hb
  by_cases c : mg l < 9218868437227405312
  · by_cases d : mg b < 9218868437227405312
    · rw [if_pos ⟨c, d⟩, addB_fin l (negB b) hl hn c (by omega), negB_sv hb, rn_nn]
      · rfl
      · have := (sv_lt_iff b l).2 h
        omega
    · rw [if_neg (by omega), addB_some (add_fi l (negB b) hn c (by omega)), negB_ng hb]
      cases g : ng b
      · exfalso
        have e : rk b = 9218868437227405312 := by unfold rk; rw [g, show mg b = 9218868437227405312 by omega]; rfl
        have := rk_bound l nl
        omega
      · decide
  · rw [if_neg (by omega)]
    have e : mg l = 9218868437227405312 := by omega
    have gl : ng l = false := by
      cases g : ng l
      · rfl
      · exfalso
        have e3 : rk l = -9218868437227405312 := by unfold rk; rw [g, e]; rfl
        have := rk_bound b nb
        omega
    by_cases d : mg b < 9218868437227405312
    · rw [addB_some (add_if l (negB b) hl e (by omega)), gl]; decide
    · have e2 : mg b = 9218868437227405312 := by omega
      have gb : ng b = true := by
        cases g : ng b
        · exfalso
          have e3 : rk b = 9218868437227405312 := by unfold rk; rw [g, e2]; rfl
          have := rk_bound l nl
          omega
        · rfl
      rw [addB_some (r := infW false) (by rw [add_ii l (negB b) hl hn e (by omega), negB_ng hb, gl, gb]; rfl)]
      decide
theorem hi_in {l b : Nat} (hl : l < 18446744073709551616) (hb : b < 18446744073709551616) (nl : isN l = false) (nb : isN b = false) (h : rk b < rk l) : 0 < sbB l b ∧ sbB l b ≤ 9218868437227405312 := by
  rw [hi_val hl hb nl nb h]
  split
  · have := (sv_lt_iff b l).2 h
    have := R_pos (v := sv l - sv b) (by omega)
    have := R_top (sv l - sv b)
    omega
  · omega
theorem clamp_zero : clampB 0 4503599627370496 = 0 := by decide +kernel
theorem clamp_in11 {x : Nat} (h : x ≤ 9218868437227405312) : 0 ≤ clampB x 4503599627370496 ∧ clampB x 4503599627370496 ≤ 4503599627370496 := by
  have n : isN x = false := isN_false.2 (by rw [mg_of_lt (by omega)]; exact h)
  refine ⟨?_, ?_⟩
  · have := clampB_mono 0 x 4503599627370496 (by decide) (by omega) (by decide) n (by rw [rk_pos x (by omega), show rk 0 = 0 by decide]; omega)
    rwa [clamp_zero] at this
  · rw [clampB_num x _ (by omega) n, show clampM 4503599627370496 = 4503599627370496 by decide]
    split
    · omega
    · split <;> omega
/-- what is filled in -/
def fil (b : Nat) (a : Int) (l : Nat) : Int := if fgt l b = true ∧ 1 ≤ a then clampB (mlB (sbB l b) (fw a)) 4503599627370496 else 0
theorem fil_yes {b : Nat} {a : Int} {l : Nat} (h : fgt l b = true) (ha : 1 ≤ a) : fil b a l = clampB (mlB (sbB l b) (fw a)) 4503599627370496 := by unfold fil; rw [if_pos ⟨h, ha⟩]
theorem fil_no {b : Nat} {a : Int} {l : Nat} (h : fgt l b = false ∨ a < 1) : fil b a l = 0 := by
  unfold fil
  rw [if_neg]
  rintro ⟨h1, h2⟩
  rcases h with h | h
  · rw [h] at h1; exact absurd h1 (by decide)
  · omega
theorem fgt_iff {l b : Nat} (hl : l < 18446744073709551616) (hb : b < 18446744073709551616) : fgt l b = true ↔ isN l = false ∧ isN b = false ∧ rk b < rk l := by
  rw [fgt_rk l b hl hb]
  cases isN l <;> cases isN b <;> simp
theorem fil_prod {b : Nat} {a : Int} {l : Nat} (hl : l < 18446744073709551616) (hb : b < 18446744073709551616) (h : fgt l b = true) (ha : 1 ≤ a) (a2 : a ≤ 9223372036854775807) : mlB (sbB l b) (fw a) ≤ 9218868437227405312 := by
  obtain ⟨nl, nb, k⟩ := (fgt_iff hl hb).1 h
  have i := hi_in hl hb nl nb k
  have f := fw_in ha a2
  exact ml_nn i.2 (by omega) i.1 (by omega)
theorem fil_in {b : Nat} {a : Int} {l : Nat} (hl : l < 18446744073709551616) (hb : b < 18446744073709551616) (a2 : a ≤ 9223372036854775807) : 0 ≤ fil b a l ∧ fil b a l ≤ 4503599627370496 := by
  by_cases h : fgt l b = true ∧ 1 ≤ a
  · rw [fil_yes h.1 h.2]
    exact clamp_in11 (fil_prod hl hb h.1 h.2 a2)
  · unfold fil
    rw [if_neg h]
    omega
end Go.Proofs.YtdigecacmibkpaaGreatDoor

namespace Go.Proofs.YtdigecacmibkpaaGreatDoor
open Tf Ieee
/-- above nothing; below nothing -/
def ps (a : Nat) : Bool := decide (0 < a ∧ a ≤ 9218868437227405312)
def ns (a : Nat) : Bool := decide (9223372036854775808 < a ∧ a ≤ 18442240474082181120)
/-- Leer above nothing -/
def lr (a b : Nat) : Nat := if leer a b < 9218868437227405312 then leer a b else 0
/-- the slope of two that are above nothing -/
def lm (k : Int) (a b : Nat) : Nat := if k = 1 then min a b else if k = 2 then sbee a b else if k = 3 then lr a b else 0
/-- the opposite; of nothing: nothing -/
def op (x : Nat) : Nat := if x = 0 then 0 else x + 9223372036854775808
end Go.Proofs.YtdigecacmibkpaaGreatDoor

namespace Go.Proofs.YtdigecacmibkpaaGreatDoor
open Tf Ieee Cu
/-- a side that is turned -/
def tnT (n r t : Nat) : Nat := 4 * tnC n r (t / 4) + (t % 4 + tnS n r (t / 4)) % 4
theorem tnT_dec (n r t : Nat) : tnT n r t / 4 = tnC n r (t / 4) ∧ tnT n r t % 4 = (t % 4 + tnS n r (t / 4)) % 4 := by unfold tnT; omega
theorem tnT_lt {n r t : Nat} (hn : 1 ≤ n) (ht : t < 24 * n * n) (hr : r < 24) : tnT n r t < 24 * n * n := by
  have g := turned_geo (k := t / 4) hn rfl (t_cell ht) (show t % 4 < 4 by omega) hr (t_cell ht)
  exact t_lt g.1.1 (by omega)
theorem mt_tn {n r t : Nat} (hn : 1 ≤ n) (ht : t < 24 * n * n) (hr : r < 24) : mt n (tnT n r t) = tnT n r (mt n t) := by
  have g := turned_geo (k := t / 4) hn rfl (t_cell ht) (show t % 4 < 4 by omega) hr (t_cell ht)
  have d := tnT_dec n r t
  have m := mt_dec hn ht
  unfold mt
  rw [d.1, d.2, g.2.1, g.2.2.1]
  show _ = tnT n r (mt n t)
  unfold tnT
  rw [m.1, m.2]
end Go.Proofs.YtdigecacmibkpaaGreatDoor

namespace Go.Proofs.YtdigecacmibkpaaGreatDoor
open Go.RowKit Cu Tf
theorem W64_of {a : Int} (h : -9223372036854775808 ≤ a ∧ a ≤ 9223372036854775807) : W64 a := h
end Go.Proofs.YtdigecacmibkpaaGreatDoor

namespace Go.Proofs.YtdigecacmibkpaaGreatDoor
open Go.RowKit Cu Tf
theorem gAround_n {n gb c s : Nat} {w : World} (hn : 1 ≤ n ∧ n ≤ 32) (hc : c < 6 * n * n) (hs : s < 4) (g : GridOf n gb w) :
    Calls Tryz.prog 92 #[.pointer (some ⟨gb, 0, none⟩), .int .i64 c, .int .i64 s] w fun e w' => e = .returned (.tuple #[.int .i64 (eE n (4 * c + s) : Nat), .int .i64 (eS n (4 * c + s))]) ∧ Below w.heap.size w w' := by
  have h12 := n12 hn
  have h := gAround_at (c := c) (s := s) (W64_of (by omega)) (W64_of (by omega)) g
  rw [gT_end hn.1 hc hs] at h
  exact h
theorem tn_lt9 {n t c : Nat} (hn : 1 ≤ n) (hc : c < 6 * n * n) (ht : t < 24) : tnC n t c < 6 * n * n ∧ tnS n t c < 4 := by
  obtain ⟨h1, h2, h3, -⟩ := dec_lt hn hc
  obtain ⟨t1, t2⟩ := tf_lt t ht _ h1
  exact ⟨Pn_lt t1 h2 h3, t2⟩
end Go.Proofs.YtdigecacmibkpaaGreatDoor

namespace Go.Proofs.YtdigecacmibkpaaGreatDoor
open Go.ChangeShapes Go.WideShapes Go.ChangeAt Go.WideMaps Go.WideElems Go.RowKit Cu

theorem own : ownKnob Tryz.prog.godebug = none := by kernel_rfl
theorem gFrames : Tryz.prog.globalNamed "tarn/cube.frames" = some 1 := by kernel_rfl
theorem tFrames : (Tryz.prog.globals[1]?).map (·.type) = some 145 := by kernel_rfl
theorem door_met (os : Os) (args : Array Value) : laidMetH Tryz.prog [("tarn/cube.frames", Rows.laid_tarn_cube_frames)] ((World.doorLaid Tryz.prog 400 os).forCall (fun _ _ => 0) ⟨#[], args, []⟩).memory :=
  laidMetH_of_parts3 (fuel := 8) (laidMet_of_run' 8 (by kernel_rfl) (by kernel_rfl)) (by kernel_rfl) (by kernel_rfl)
set_option maxRecDepth 100000 in
theorem pt_data {H : Type} {enc : TypeId × Value → H} {w : World} {base fuel : Nat} {spare : Nat → Bool} {held : Bool} {cs : List Value} {x : DataW H × List MemPlace} (h : DataW.trod enc Tryz.prog w base spare held fuel 107 cs = some x)
    (a b c : Int) (e : x.1 = .agg [.lit (.int .i64 a), .lit (.int .i64 b), .lit (.int .i64 c)]) : cs = [.int .i64 a, .int .i64 b, .int .i64 c] := by
  have k3 : Tryz.prog.cellsOf 3 = 1 := by kernel_rfl
  have kp : Tryz.prog.cellsOf 107 = 3 := by kernel_rfl
  obtain ⟨xs, m, _, hx, hlen, hn, hel⟩ := DataW.trod_array Tryz.underlying107 h
  rw [hx] at e
  match xs, hn, cs, hlen.trans kp with
  | [x0, x1, x2], _, [c0, c1, c2], _ =>
    have h0 := hel 0 (by decide)
    have h1 := hel 1 (by decide)
    have h2 := hel 2 (by decide)
    simp [k3] at h0 h1 h2
    obtain ⟨n0, e0, f0, _⟩ := DataW.trod_int Tryz.underlying3 h0
    obtain ⟨n1, e1, f1, _⟩ := DataW.trod_int Tryz.underlying3 h1
    obtain ⟨n2, e2, f2, _⟩ := DataW.trod_int Tryz.underlying3 h2
    simp at e0 e1 e2
    simp [f0, f1, f2] at e
    rw [e0, e1, e2, e.1, e.2.1, e.2.2]
set_option maxRecDepth 100000 in
theorem frame_data {H : Type} {enc : TypeId × Value → H} {w : World} {base fuel : Nat} {spare : Nat → Bool} {held : Bool} {cs : List Value} {x : DataW H × List MemPlace} (h : DataW.trod enc Tryz.prog w base spare held fuel 144 cs = some x)
    (p q r : P3) (e : x.1 = .agg [.agg [.lit (.int .i64 p.1), .lit (.int .i64 p.2.1), .lit (.int .i64 p.2.2)], .agg [.lit (.int .i64 q.1), .lit (.int .i64 q.2.1), .lit (.int .i64 q.2.2)], .agg [.lit (.int .i64 r.1), .lit (.int .i64 r.2.1), .lit (.int .i64 r.2.2)]]) :
    cs = [.int .i64 p.1, .int .i64 p.2.1, .int .i64 p.2.2, .int .i64 q.1, .int .i64 q.2.1, .int .i64 q.2.2, .int .i64 r.1, .int .i64 r.2.1, .int .i64 r.2.2] := by
  have kp : Tryz.prog.cellsOf 107 = 3 := by kernel_rfl
  have kf : Tryz.prog.cellsOf 144 = 9 := by kernel_rfl
  obtain ⟨xs, m, _, hx, hlen, hn, hel⟩ := DataW.trod_struct Tryz.underlying144 h
  rw [hx] at e
  match xs, hn, cs, hlen.trans kf with
  | [x0, x1, x2], _, [c0, c1, c2, c3, c4, c5, c6, c7, c8], _ =>
    have h0 := hel 0 _ rfl
    have h1 := hel 1 _ rfl
    have h2 := hel 2 _ rfl
    simp [kp] at h0 h1 h2
    simp at e
    have e0 := pt_data h0 _ _ _ e.1
    have e1 := pt_data h1 _ _ _ e.2.1
    have e2 := pt_data h2 _ _ _ e.2.2
    simp at e0 e1 e2
    simp [e0, e1, e2]
set_option maxRecDepth 100000 in
theorem table_data {H : Type} {enc : TypeId × Value → H} {w : World} {base fuel : Nat} {spare : Nat → Bool} {held : Bool} {cs : List Value} {x : DataW H × List MemPlace} (h : DataW.trod enc Tryz.prog w base spare held fuel 145 cs = some x)
    (e : x.1 = Rows.laid_tarn_cube_frames) : ∀ f, f < 6 → (cs.drop (f * 9)).take 9 = [.int .i64 (cC f).1, .int .i64 (cC f).2.1, .int .i64 (cC f).2.2, .int .i64 (cR f).1, .int .i64 (cR f).2.1, .int .i64 (cR f).2.2, .int .i64 (cU f).1, .int .i64 (cU f).2.1, .int .i64 (cU f).2.2] := by
  have kf : Tryz.prog.cellsOf 144 = 9 := by kernel_rfl
  obtain ⟨xs, m, _, hx, hlen, hn, hel⟩ := DataW.trod_array Tryz.underlying145 h
  rw [hx] at e
  intro f hf
  have h0 := hel f hf
  rw [kf] at h0
  match xs, hn with
  | [x0, x1, x2, x3, x4, x5], _ =>
    simp only [List.map_cons, List.map_nil, Rows.laid_tarn_cube_frames, DataW.agg.injEq, List.cons.injEq] at e
    rcases six hf with rfl | rfl | rfl | rfl | rfl | rfl
    · exact frame_data h0 (cC 0) (cR 0) (cU 0) e.1
    · exact frame_data h0 (cC 1) (cR 1) (cU 1) e.2.1
    · exact frame_data h0 (cC 2) (cR 2) (cU 2) e.2.2.1
    · exact frame_data h0 (cC 3) (cR 3) (cU 3) e.2.2.2.1
    · exact frame_data h0 (cC 4) (cR 4) (cU 4) e.2.2.2.2.1
    · exact frame_data h0 (cC 5) (cR 5) (cU 5) e.2.2.2.2.2.1
/-- WHAT THE CONDITION GIVES THE WALKS -/
theorem of_laid {W : World} (h : laidMetH Tryz.prog [("tarn/cube.frames", Rows.laid_tarn_cube_frames)] W) : Fr W := by
  rw [MakeChecks.laidMetH_plain _ _ _ (by kernel_rfl)] at h
  obtain ⟨ps, ⟨g0, t0, cs0, f0, p0, q0, hg0, ht0, hv0, hd0, _⟩, _⟩ := h
  obtain rfl := Option.some.inj (gFrames.symm.trans hg0)
  obtain rfl := Option.some.inj (tFrames.symm.trans ht0)
  have T := table_data hd0 rfl
  have C := World.var?_cell hg0 hv0
  have K : ∀ f, f < 6 → ∀ k, k < 9 → W.cell? ⟨1, f * 9 + k, none⟩ = ((cs0.toList.drop (f * 9)).take 9)[k]? := by
    intro f hf k hk
    rw [C, List.getElem?_take, if_pos hk, List.getElem?_drop]
    simp
  have N : ∀ f, f < 6 → Fr9 W f := by
    intro f hf
    have K := K f hf
    rw [T f hf] at K
    exact ⟨⟨K 0 (by omega), K 1 (by omega), K 2 (by omega)⟩, ⟨K 3 (by omega), K 4 (by omega), K 5 (by omega)⟩, ⟨K 6 (by omega), K 7 (by omega), K 8 (by omega)⟩⟩
  refine ⟨?_, N⟩
  have c0 := (N 0 (by omega)).1.1
  rcases Nat.lt_or_ge 1 W.heap.size with h1 | h1
  · exact h1
  · rw [World.cell?, Array.getElem?_eq_none h1] at c0; cases c0
end Go.Proofs.YtdigecacmibkpaaGreatDoor

namespace Go.Proofs.YtdigecacmibkpaaGreatDoor
open Go.RowKit Cu
theorem group_pure {n M c t u : Nat} (hn : 1 ≤ n) (hM : 6 * n * n = M) (hc : c < M) (ht : t < 24) (hu : u < 24) :
    (tnC n t c < M ∧ tnS n t c < 4 ∧ tnS n u (tnC n t c) < 4) ∧ tnC n (aft u t) c = tnC n u (tnC n t c) ∧ tnS n (aft u t) c = (tnS n t c + tnS n u (tnC n t c)) % 4 := by
  subst hM
  obtain ⟨f, a, b, hf, ha, hb, rfl⟩ := Pn_ex (s := 0) hn hc (by omega)
  obtain ⟨t1, t2⟩ := tf_lt t ht f hf
  obtain ⟨u1, u2⟩ := tf_lt u hu _ t1
  obtain ⟨c1, c2⟩ := tn_Pn (s := 0) ht hf (by omega) ha hb
  have hq : (0 + tq t f) % 4 < 4 := by omega
  obtain ⟨d1, d2⟩ := tn_Pn hu t1 hq ha hb
  obtain ⟨e1, e2⟩ := tn_Pn (s := 0) (aft_tab u hu t ht).1 hf (by omega) ha hb
  obtain ⟨g1, g2⟩ := tf_aft u hu t ht f hf
  rw [c1, c2, d1, d2, e1, e2, g1, g2]
  refine ⟨⟨Pn_lt t1 ha hb, t2, u2⟩, ?_, rfl⟩
  rw [show (0 + (tq t f + tq u (tf t f)) % 4) % 4 = ((0 + tq t f) % 4 + tq u (tf t f)) % 4 by omega]
end Go.Proofs.YtdigecacmibkpaaGreatDoor
