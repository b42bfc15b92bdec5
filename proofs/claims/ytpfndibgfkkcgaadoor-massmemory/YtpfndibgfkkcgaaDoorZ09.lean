/-
  Some of the texts of this proof, one behind the other.
-/
import Derived.BigQuiet
import Derived.Deep.QuietTactic
import Derived.StillTail
import Derived.BigRegion
import Derived.Test.YtpfndibgfkkcgaaDoorTie
import Derived.Test.YtpfndibgfkkcgaaDoorCards
import Derived.ProofKit
import Derived.LaidMore
import Derived.OpenShut
import Derived.Stop.Joined
import Derived.Carry
import Derived.Lib.SmallJoins
import Derived.WalkLawsBesides
import Derived.Test.YtpfndibgfkkcgaaDoorZ08
namespace Go.Proofs.YtpfndibgfkkcgaaDoor
open Go.RowKit Go.Deep Cu
namespace Ms
open Sh
set_option maxRecDepth 100000 in
set_option maxHeartbeats 4000000 in
theorem signs_at (n : Int) (w : World) (h : W64 n) : Calls Tryd.prog 38 #[.int .i64 n] w fun e w' => e = .returned (.int .u64 (sgW n)) ∧ w' = w := by
  unfold W64 at h
  obtain ⟨h1, h2⟩ := h
  by_cases c : n < 0
  · have e : n / 9223372036854775808 = -1 := by omega
    have e2 : sgW n = 18446744073709551615 := if_pos c
    rw [e2]
    go_enter Tryd.func38, Tryd.ntmps38
    go_wp2
    go_ret
    exact ⟨rfl, rfl⟩
  · have e : n / 9223372036854775808 = 0 := by omega
    have e2 : sgW n = 0 := if_neg c
    rw [e2]
    go_enter Tryd.func38, Tryd.ntmps38
    go_wp2
    go_ret
    exact ⟨rfl, rfl⟩
/-- the two blocks of a call of plus -/
def PlW (w wr : World) (y : Int) : Prop := wr.heap[w.heap.size]? = some (.cells #[.int .u64 (hiW y), .int .u64 (loW y)] 51) ∧ wr.heap[w.heap.size + 1]? = some (.cells #[.int .u64 0, .int .u64 0] 51) ∧ Below w.heap.size w wr
theorem frz2 {w : World} {b : Nat} {v1 v2 : Value} {T : TypeId} (h : w.heap[b]? = some (.cells #[v1, v2] T)) (k : Nat) : w.frozen? ⟨b, k, none⟩ = false := by
  have r : w.rowIs b T 2 (fun k => (#[v1, v2] : Array Value).getD k (.bool false)) := ⟨_, h, rfl, fun i hi => by
    match i, hi with
    | 0, _ => rfl
    | 1, _ => rfl⟩
  exact r.frozen k
theorem two_set {w : World} {b : Nat} {v1 v2 : Value} {T : TypeId} (h : w.heap[b]? = some (.cells #[v1, v2] T)) (a c : Value) : ((w.setCell ⟨b, 0, none⟩ a).setCell ⟨b, 1, none⟩ c).heap[b]? = some (.cells #[a, c] T) := one_set (one_set h)
theorem PlW.drewN {w wr : World} {y : Int} (h : PlW w wr y) (q : Nat) : PlW w (wr.drewN q) y := ⟨by simpa using h.1, by simpa using h.2.1, Ab.drewN h.2.2 q⟩
theorem PlW.put {w wr : World} {y : Int} (h : PlW w wr y) (z : Int) : PlW w ((wr.setCell ⟨w.heap.size, 0, none⟩ (.int .u64 (hiW z))).setCell ⟨w.heap.size, 1, none⟩ (.int .u64 (loW z))) z :=
  ⟨one_set (one_set h.1), by rw [Below.heap_setCell _ _ _ _ (by simp), Below.heap_setCell _ _ _ _ (by simp)]; exact h.2.1, Ab.setk (Ab.setk h.2.2 (Nat.le_refl _) _) (Nat.le_refl _) _⟩
set_option maxRecDepth 100000 in
set_option maxHeartbeats 8000000 in
theorem plus_at (p : Option Addr) (n c : Nat) (f : Nat → Int) (x : Int) (w : World) (hn : n ≤ 9223372036854775807) (hf : Hid (IsI w p n f)) :
    Calls Tryd.prog 21 #[.agg #[.int .u64 (hiW x), .int .u64 (loW x)], .slice p n c] w fun e w' => e = .returned (.agg #[.int .u64 (hiW (x + sumN f n)), .int .u64 (loW (x + sumN f n))]) ∧ Below w.heap.size w w' := by
  have P0 : Hid (PlW w ((w.alloc (.cells #[.int .u64 (hiW x), .int .u64 (loW x)] 51)).alloc (.cells #[.int .u64 0, .int .u64 0] 51)) x) := ⟨heap_alloc2_old _ _ _, heap_alloc2_new _ _ _, bl2 _ _ _⟩
  go_enter Tryd.func21, Tryd.ntmps21
  go_wp2
  go_loopw [13] (fun kv wr => ∃ k : Nat, k ≤ n ∧ kv = .int .i64 (k : Nat) ∧ PlW w wr (x + sumN f k)) (fun kv _ => n - (intOf kv).toNat)
  case atStart =>
    refine ⟨0, by omega, rfl, ?_⟩
    rw [show x + sumN f 0 = x from Int.add_zero x]
    exact P0.out
  case round =>
    obtain ⟨k, hk, rfl, r1⟩ := hrel
    have R1 := hid r1
    clear r1 P0
    by_cases hlt : k < n
    · have hI := hf.out k hlt
      obtain ⟨hI1, b, o, rfl, hb, hc⟩ := hI
      have hw : W64 (f k) := hI1
      have c0 : wr.cell? ⟨b, o + k, none⟩ = some (.int .i64 (f k)) := by rw [← hc]; exact World.cell?_of_block (Below.block R1.out.2.2 b hb)
      have x0 := cell_of_row _ _ 0 _ _ _ R1.out.1
      have x1 := cell_of_row _ _ 1 _ _ _ R1.out.1
      have z0 := frz2 R1.out.1 0
      have z1 := frz2 R1.out.1 1
      have E1 : Hid (x + sumN f (k + 1) = x + sumN f k + f k) := by
        show x + (sumN f k + f k) = _
        omega
      have HL := hid hlt
      have kI : (k : Int) < n := by omega
      have nI : (n : Int) ≤ 9223372036854775807 := by omega
      generalize x + sumN f k = y at *
      generalize f k = q at *
      obtain ⟨cy, hcy⟩ : ∃ c, (loW y + wd q + 0) / 18446744073709551616 = c := ⟨_, rfl⟩
      have pc := plus_carry (x := y) hw
      have ph := plus_high (x := y) hw
      rw [hcy] at pc ph
      have A1 := run_add (loW y) (wd q) 0 (loW (y + q)) cy (loW_in y).1 (wd_in hw).1 (by omega) (by omega) (plus_low hw) hcy
      have A2 := run_add (hiW y) (sgW q) cy (hiW (y + q)) _ (hiW_in y).1 (sgW_in q).1 pc.1 pc.2 ph rfl
      have SG := hid (fun u => signs_at q u hw)
      have hwr := wd_wrap hw
      have y1 := loW_in y
      have y2 := hiW_in y
      have y3 := loW_in (y + q)
      have y4 := hiW_in (y + q)
      have y5 := wd_in hw
      have y6 := sgW_in q
      generalize (hiW y + sgW q + cy) / 18446744073709551616 = o2 at *
      clear hcy ph hI1 hc hf hw
      generalize hiW y = hy at *
      generalize loW y = ly at *
      generalize sgW q = sq at *
      generalize wd q = wq at *
      go_wp2_with fail
      go_quiet (first | (go_at_call 38; refine Calls.quiet_of_same (SG.out _)))
      go_wp2
      refine ⟨⟨k + 1, by have := HL.out; omega, by simp, ?_⟩, by have := HL.out; simp [intOf]; omega⟩
      rw [E1.out]
      exact (R1.out.drewN nq).put _
    · obtain rfl : k = n := by omega
      have x0 := cell_of_row _ _ 0 _ _ _ R1.out.1
      have x1 := cell_of_row _ _ 1 _ _ _ R1.out.1
      have z0 := frz2 R1.out.2.1 0
      have z1 := frz2 R1.out.2.1 1
      have v0 := cell_of_row _ _ 0 _ _ _ R1.out.2.1
      have v1 := cell_of_row _ _ 1 _ _ _ R1.out.2.1
      have y3 := loW_in (x + sumN f k)
      have y4 := hiW_in (x + sumN f k)
      obtain ⟨y, hy⟩ : ∃ y, x + sumN f k = y := ⟨_, rfl⟩
      rw [hy] at x0 x1 y3 y4
      have HY := hid hy
      clear hy
      go_wp2
      rw [HY.out]
      refine bodyPost_ret ?_ rfl ⟨rfl, ?_⟩
      · exact results_cell_row Tryd.results21 _ _ (w.heap.size + 1) _ _ (0, 0) _ rfl (two_set R1.out.2.1 _ _) Tryd.underlying51 rfl (by kernel_rfl)
      · exact Ab.setk (Ab.setk R1.out.2.2 (Nat.le_succ _) _) (Nat.le_succ _) _
set_option maxRecDepth 100000 in
set_option maxHeartbeats 8000000 in
theorem minus_at (x q : Int) (w : World) (hw : W64 q) :
    Calls Tryd.prog 34 #[.agg #[.int .u64 (hiW x), .int .u64 (loW x)], .int .i64 q] w fun e w' => e = .returned (.agg #[.int .u64 (hiW (x - q)), .int .u64 (loW (x - q))]) ∧ Below w.heap.size w w' := by
  have P0 : Hid (PlW w ((w.alloc (.cells #[.int .u64 (hiW x), .int .u64 (loW x)] 51)).alloc (.cells #[.int .u64 0, .int .u64 0] 51)) x) := ⟨heap_alloc2_old _ _ _, heap_alloc2_new _ _ _, bl2 _ _ _⟩
  obtain ⟨cy, hcy⟩ : ∃ c, bo (loW x) (wd q + 0) = c := ⟨_, rfl⟩
  have pc := bo_in (loW x) (wd q + 0)
  have ph := minus_high (x := x) hw
  rw [hcy] at pc ph
  have A1 := run_sub (loW x) (wd q) 0 (loW (x - q)) cy (loW_in x).1 (wd_in hw).1 (wd_in hw).2 (by omega) (by omega) (minus_low hw) hcy
  have A2 := run_sub (hiW x) (sgW q) cy (hiW (x - q)) _ (hiW_in x).1 (sgW_in q).1 (sgW_in q).2 pc.1 pc.2 ph rfl
  have SG := hid (fun u => signs_at q u hw)
  have hwr := wd_wrap hw
  have y1 := loW_in x
  have y2 := hiW_in x
  have y3 := loW_in (x - q)
  have y4 := hiW_in (x - q)
  have y5 := wd_in hw
  have y6 := sgW_in q
  generalize bo (hiW x) (sgW q + cy) = o2 at *
  clear hcy ph hw
  generalize loW (x - q) = lz at *
  generalize hiW (x - q) = hz at *
  generalize sgW q = sq at *
  generalize wd q = wq at *
  go_enter Tryd.func34, Tryd.ntmps34
  go_upto_region 1 with fail
  generalize World.alloc _ _ = W at *
  have x0 := cell_of_row _ _ 0 _ _ _ P0.out.1
  have x1 := cell_of_row _ _ 1 _ _ _ P0.out.1
  have v0 := cell_of_row _ _ 0 _ _ _ P0.out.2.1
  have v1 := cell_of_row _ _ 1 _ _ _ P0.out.2.1
  have z0 := frz2 P0.out.2.1 0
  have z1 := frz2 P0.out.2.1 1
  go_wp2_with fail
  go_quiet (first | (go_at_call 38; refine Calls.quiet_of_same (SG.out _)))
  go_wp2
  refine bodyPost_ret ?_ rfl ⟨rfl, ?_⟩
  · exact results_cell_row Tryd.results34 _ _ (w.heap.size + 1) _ _ (0, 0) _ rfl (two_set (P0.out.drewN nq).2.1 _ _) Tryd.underlying51 rfl (by kernel_rfl)
  · exact Ab.setk (Ab.setk (P0.out.drewN nq).2.2 (Nat.le_succ _) _) (Nat.le_succ _) _
set_option maxRecDepth 100000 in
set_option maxHeartbeats 8000000 in
theorem short_go (x s : Int) (sg : Int) (ok : Bool) (w : World) (hs : IntKind.i64.wrap (loW x) = s) (hok : (hiW x == sg) = ok) (SG : Hid (∀ u, Calls Tryd.prog 38 #[.int .i64 s] u fun e w' => e = .returned (.int .u64 sg) ∧ w' = u)) :
    Calls Tryd.prog 22 #[.agg #[.int .u64 (hiW x), .int .u64 (loW x)]] w fun e w' => e = .returned (.tuple #[.int .i64 s, .bool ok]) ∧ Below w.heap.size w w' := by
  have P0 : Hid ((w.alloc (.cells #[.int .u64 (hiW x), .int .u64 (loW x)] 51)).heap[w.heap.size]? = some (.cells #[.int .u64 (hiW x), .int .u64 (loW x)] 51)) := heap_alloc_new _ _
  have B0 : Hid (Ab w (w.alloc (.cells #[.int .u64 (hiW x), .int .u64 (loW x)] 51))) := bl1 _ _
  have y1 := loW_in x
  have y2 := hiW_in x
  generalize hiW x = hx at *
  generalize loW x = lx at *
  go_enter Tryd.func22, Tryd.ntmps22
  go_upto_region 1 with fail
  generalize World.alloc _ _ = W at *
  have x0 := cell_of_row _ _ 0 _ _ _ P0.out
  have x1 := cell_of_row _ _ 1 _ _ _ P0.out
  go_wp2_with fail
  go_quiet (first | (go_at_call 38; refine Calls.quiet_of_same (SG.out _)))
  go_wp2
  go_ret2
  exact ⟨rfl, Ab.drewN B0.out nq⟩
/-- A NUMBER OF 128 BITS AS ONE OF 64: it is one -/
theorem short_yes (x : Int) (w : World) (h : W64 x) : Calls Tryd.prog 22 #[.agg #[.int .u64 (hiW x), .int .u64 (loW x)]] w fun e w' => e = .returned (.tuple #[.int .i64 x, .bool true]) ∧ Below w.heap.size w w' := by
  obtain ⟨e1, e2⟩ := sh_of h
  have e3 := sh_wrap x
  rw [e1] at e2 e3
  exact short_go x x (sgW x) true w e3 (by rw [e2]; simp) (fun u => signs_at x u h)
theorem short_no (x : Int) (w : World) (h : ¬ W64 x) (a : -170141183460469231731687303715884105728 ≤ x) (b : x < 170141183460469231731687303715884105728) : Calls Tryd.prog 22 #[.agg #[.int .u64 (hiW x), .int .u64 (loW x)]] w fun e w' => e = .returned (.tuple #[.int .i64 (sh x), .bool false]) ∧ Below w.heap.size w w' :=
  short_go x (sh x) (sgW (sh x)) false w (sh_wrap x) (beq_eq_false_iff_ne.2 (sh_no h a b)) (fun u => signs_at _ u (sh_in x))
set_option maxRecDepth 100000 in
set_option maxHeartbeats 8000000 in
theorem total_go (pw : Option Addr) (lw cw : Nat) (pm : Option Addr) (lm cm : Nat) (h1 l1 h2 l2 s : Int) (ok : Bool) (w : World)
    (C1 : Hid (Calls Tryd.prog 21 #[.agg #[.int .u64 0, .int .u64 0], .slice pw lw cw] w fun e w' => e = .returned (.agg #[.int .u64 h1, .int .u64 l1]) ∧ Below w.heap.size w w'))
    (C2 : Hid (∀ u, Ab w u → Calls Tryd.prog 21 #[.agg #[.int .u64 h1, .int .u64 l1], .slice pm lm cm] u fun e w' => e = .returned (.agg #[.int .u64 h2, .int .u64 l2]) ∧ Below u.heap.size u w'))
    (C3 : Hid (∀ u, Calls Tryd.prog 22 #[.agg #[.int .u64 h2, .int .u64 l2]] u fun e w' => e = .returned (.tuple #[.int .i64 s, .bool ok]) ∧ Below u.heap.size u w')) :
    Calls Tryd.prog 10 #[.slice pw lw cw, .slice pm lm cm] w fun e w' => e = .returned (.tuple #[.int .i64 (if ok then s else 0), .int .i64 (if ok then 0 else 20)]) ∧ Below w.heap.size w w' := by
  cases ok
  · go_enter Tryd.func10, Tryd.ntmps10
    go_wp2_with fail
    refine C1.out.mono ?_
    rintro e9 w1 ⟨rfl, b1⟩
    have B1 : Hid (Ab w w1) := b1
    clear b1
    go_wp2_with fail
    refine (C2.out _ B1.out).mono ?_
    rintro e9 w2 ⟨rfl, b1⟩
    have B2 : Hid (Ab w w2) := B1.out.call b1
    clear b1
    go_wp2_with fail
    refine (C3.out _).mono ?_
    rintro e9 w3 ⟨rfl, b1⟩
    have B3 : Hid (Ab w w3) := B2.out.call b1
    clear b1
    go_wp2
    go_ret2
    exact ⟨rfl, B3.out⟩
  · go_enter Tryd.func10, Tryd.ntmps10
    go_wp2_with fail
    refine C1.out.mono ?_
    rintro e9 w1 ⟨rfl, b1⟩
    have B1 : Hid (Ab w w1) := b1
    clear b1
    go_wp2_with fail
    refine (C2.out _ B1.out).mono ?_
    rintro e9 w2 ⟨rfl, b1⟩
    have B2 : Hid (Ab w w2) := B1.out.call b1
    clear b1
    go_wp2_with fail
    refine (C3.out _).mono ?_
    rintro e9 w3 ⟨rfl, b1⟩
    have B3 : Hid (Ab w w3) := B2.out.call b1
    clear b1
    go_wp2
    go_ret2
    exact ⟨rfl, B3.out⟩
/-- TOTAL -/
theorem totalC : TotalC := by
  intro pw lw cw W pm lm cm M w hlw hlm iW iM
  have C1 := plus_at pw lw cw W 0 w (by omega) iW
  have C2 : ∀ u, Ab w u → _ := fun u (hu : Ab w u) => plus_at pm lm cm M (0 + sumN W lw) u (by omega) (iM.below hu)
  rw [Int.zero_add] at C1 C2
  have s1 := sum_in (f := W) (l := lw) (fun k hk => (iW k hk).1)
  have s2 := sum_in (f := M) (l := lm) (fun k hk => (iM k hk).1)
  constructor
  · intro h
    exact total_go pw lw cw pm lm cm _ _ _ _ _ true w C1 C2 (fun u => short_yes _ u h)
  · intro h
    exact total_go pw lw cw pm lm cm _ _ _ _ _ false w C1 C2 (fun u => short_no _ u h (by omega) (by omega))
end Ms
end Go.Proofs.YtpfndibgfkkcgaaDoor

namespace Go.Proofs.YtpfndibgfkkcgaaDoor
open Go.RowKit Go.Deep Cu
namespace Ms
open Sh
/-- sums in a block -/
def SumsAt (w : World) (g m : Nat) (X : Nat → Int) : Prop := w.rowIs g 51 (m * 2) (fun i => .int .u64 (if i % 2 = 0 then hiW (X (i / 2)) else loW (X (i / 2))))
theorem SumsAt.c0 {w : World} {g m k : Nat} {X : Nat → Int} (h : SumsAt w g m X) (hk : k < m) : w.cell? ⟨g, k * 2, none⟩ = some (.int .u64 (hiW (X k))) := by
  have e := h.cell (i := k * 2) (by omega)
  rw [e]
  have h1 : k * 2 % 2 = 0 := by omega
  have h2 : k * 2 / 2 = k := by omega
  simp [h1, h2]
theorem SumsAt.c1 {w : World} {g m k : Nat} {X : Nat → Int} (h : SumsAt w g m X) (hk : k < m) : w.cell? ⟨g, k * 2 + 1, none⟩ = some (.int .u64 (loW (X k))) := by
  have e := h.cell (i := k * 2 + 1) (by omega)
  rw [e]
  have h1 : (k * 2 + 1) % 2 = 1 := by omega
  have h2 : (k * 2 + 1) / 2 = k := by omega
  simp [h1, h2]
theorem SumsAt.to {w w' : World} {g m : Nat} {X : Nat → Int} (h : SumsAt w g m X) (a : Ab w w') : SumsAt w' g m X := rowIs.ab h a
theorem SumsAt.frz {w : World} {g m : Nat} {X : Nat → Int} (h : SumsAt w g m X) (k : Nat) : w.frozen? ⟨g, k, none⟩ = false := World.rowIs.frozen h k
/-- one number changed -/
def updX (X : Nat → Int) (c : Nat) (x : Int) (i : Nat) : Int := if i = c then x else X i
theorem SumsAt.put {w : World} {g m c : Nat} {X : Nat → Int} (h : SumsAt w g m X) (x : Int) : SumsAt ((w.setCell ⟨g, c * 2, none⟩ (.int .u64 (hiW x))).setCell ⟨g, c * 2 + 1, none⟩ (.int .u64 (loW x))) g m (updX X c x) := by
  refine ((World.rowIs.set h (c * 2) (.int .u64 (hiW x))).set (c * 2 + 1) (.int .u64 (loW x))).congr (fun i _ => ?_)
  have q1 : (c * 2) / 2 = c := by omega
  have q2 : (c * 2 + 1) / 2 = c := by omega
  have q3 : (c * 2 + 1) % 2 = 1 := by omega
  have q4 : (c * 2) % 2 = 0 := by omega
  unfold updX
  by_cases e1 : i = c * 2 + 1
  · subst e1
    simp [q2, q3]
  · by_cases e2 : i = c * 2
    · subst e2; simp [q1, q4]
    · have e3 : i / 2 ≠ c := by omega
      simp [e1, e2, e3]
theorem SumsAt.congr {w : World} {g m : Nat} {X Y : Nat → Int} (h : SumsAt w g m X) (e : ∀ c, c < m → X c = Y c) : SumsAt w g m Y :=
  World.rowIs.congr h (fun i hi => by rw [e (i / 2) (by omega)])
theorem row_ownW {B g cap n : Nat} {F : Nat → Value} {x : Nat → Int} {w : World} (h : w.rowIs g 2 cap F) (hB : B ≤ g) (hn : n ≤ cap) (hc : cap ≤ maxLen) (hF : ∀ i, i < n → F i = .int .i64 (x i)) : Own B (.slice (some ⟨g, 0, none⟩) n cap) ((List.range n).map x) w := by
  obtain ⟨c, hb, hs, hf⟩ := h
  refine ⟨by simp, .inr ⟨g, cap, c, by simp, hB, hb, by simpa using hn, hc, by omega, ?_⟩⟩
  apply List.ext_getElem?
  intro i
  rw [List.getElem?_take, List.length_map, List.length_range]
  by_cases hi : i < n
  · have e := hf i (by omega)
    rw [hF i hi] at e
    rw [if_pos (by omega)]
    rw [← Array.getElem?_toList] at e
    rw [e]
    simp [hi]
  · rw [if_neg (by omega), List.getElem?_eq_none (by simp; omega)]
/-- a cell can have that -/
def gd (x : Int) : Prop := 0 ≤ x ∧ x ≤ 9223372036854775807
set_option maxRecDepth 100000 in
set_option maxHeartbeats 8000000 in
theorem held_at (g m : Nat) (X : Nat → Int) (w : World) (hm : m ≤ 65536) (S : Hid (SumsAt w g m X)) (hX : Hid (∀ k, k < m → -170141183460469231731687303715884105728 ≤ X k ∧ X k < 170141183460469231731687303715884105728)) :
    Calls Tryd.prog 35 #[.slice (some ⟨g, 0, none⟩) m m] w fun e w' => Below w.heap.size w w' ∧ (((∀ k, k < m → gd (X k)) ∧ ∃ v, e = .returned (.tuple #[v, .int .i64 0]) ∧ Own w.heap.size v ((List.range m).map X) w') ∨ ((¬ ∀ k, k < m → gd (X k)) ∧ e = .returned (.tuple #[.slice none 0 0, .int .i64 20]))) := by
  have MK := run_make_row' (P := Tryd.prog) 22 2 (.int .i64 0) 8 Tryd.underlying22 info64 rfl .i64 .i64 m (by omega) (by omega) w
  have MB := hid hm
  clear hm
  obtain ⟨ob, hob⟩ : ∃ b, w.heap.size = b := ⟨_, rfl⟩
  have RW : Hid ((w.alloc (.cells (madeCells #[.int .i64 0] m) 2)).rowIs ob 2 m (fun _ => .int .i64 0)) := by
    have h := World.rowIs_made w (.int .i64 0) m 2
    rw [hob] at h
    exact h
  have A0 : Hid (Ab w (w.alloc (.cells (madeCells #[.int .i64 0] m) 2))) := bl1 w _
  have HO : Hid (w.heap.size ≤ ob) := Nat.le_of_eq hob
  generalize w.alloc (.cells (madeCells #[.int .i64 0] m) 2) = wm at *
  go_enter Tryd.func35, Tryd.ntmps35
  go_wp2
  clear MK hob
  go_loopw [14] (fun iv wr => ∃ k : Nat, k ≤ m ∧ iv = .int .i64 (k : Nat) ∧ Ab w wr ∧ wr.rowIs ob 2 m (fun i => .int .i64 (if i < k then X i else 0)) ∧ ∀ j, j < k → gd (X j)) (fun iv _ => m - (intOf iv).toNat)
  case atStart => exact ⟨0, by omega, rfl, A0.out, RW.out.congr (fun i _ => by simp), fun j hj => absurd hj (by omega)⟩
  case round =>
    obtain ⟨k, hk, rfl, a1, r1, g1⟩ := hrel
    have AR := hid a1
    have RR := hid r1
    have GR := hid g1
    clear a1 r1 g1 A0 RW
    by_cases hkm : k < m
    · have HK := hid hkm
      have kI : (k : Int) < m := by omega
      have kB : (k : Int) ≤ 65536 := by have := MB.out; omega
      have s1 := S.out.to AR.out
      have x0 := s1.c0 hkm
      have x1 := s1.c1 hkm
      have y1 := loW_in (X k)
      have y2 := hiW_in (X k)
      have HR := hX.out k hkm
      obtain ⟨x, hx⟩ : ∃ x, X k = x := ⟨_, rfl⟩
      rw [hx] at x0 x1 y1 y2 HR
      have HX := hid hx
      clear hx s1 hkm hk
      by_cases w1 : W64 x
      · have C := hid (fun u => short_yes x u w1)
        have wI := w1
        unfold W64 at wI
        go_wp2_with fail
        refine (C.out _).mono ?_
        rintro e9 v1 ⟨rfl, b1⟩
        have A1 : Hid (Ab w v1) := ((AR.out : Ab w wr).trans (bl1 wr _)).call b1
        have R1 := hid (rowIs.ab (rowIs.ab RR.out (bl1 wr _)) b1)
        have f1 := R1.out.cell (i := k) HK.out
        have f2 := R1.out.frozen k
        clear b1 C x0 x1 AR RR
        by_cases p : 0 ≤ x
        · have d : decide (x < 0) = false := decide_eq_false (by omega)
          have G1 : Hid (gd (X k)) := by rw [HX.out]; exact ⟨p, wI.2⟩
          clear p
          go_wp2
          refine ⟨⟨k + 1, by have := HK.out; omega, by simp, Ab.setk A1.out HO.out _, (R1.out.set k (.int .i64 x)).congr (fun i _ => ?_), fun j hj => ?_⟩, by have := HK.out; simp [intOf]; omega⟩
          · by_cases e : i = k
            · subst e; simp [HX.out]
            · have e3 : (i < k + 1) ↔ i < k := by omega
              simp [e, e3]
          · by_cases e : j = k
            · subst e; exact G1.out
            · exact GR.out j (by omega)
        · have d : decide (x < 0) = true := decide_eq_true (by omega)
          have G1 : Hid (¬ gd (X k)) := by rw [HX.out]; exact fun h => p h.1
          clear p
          go_wp2
          go_ret2
          exact ⟨A1.out, .inr ⟨fun h => G1.out (h k HK.out), rfl⟩⟩
      · have C := hid (fun u => short_no x u w1 HR.1 HR.2)
        have G1 : Hid (¬ gd (X k)) := by rw [HX.out]; exact fun h => w1 ⟨by have := h.1; omega, h.2⟩
        clear w1 HR
        go_wp2_with fail
        refine (C.out _).mono ?_
        rintro e9 v1 ⟨rfl, b1⟩
        have A1 : Hid (Ab w v1) := ((AR.out : Ab w wr).trans (bl1 wr _)).call b1
        have R1 := hid (rowIs.ab (rowIs.ab RR.out (bl1 wr _)) b1)
        clear b1 C x0 x1 AR RR
        go_wp2
        go_ret2
        exact ⟨A1.out, .inr ⟨fun h => G1.out (h k HK.out), rfl⟩⟩
    · obtain rfl : k = m := by omega
      go_wp2
      go_ret2
      exact ⟨AR.out, .inl ⟨GR.out, _, rfl, row_ownW RR.out HO.out (Nat.le_refl _) (by unfold maxLen; have := MB.out; omega) (fun i hi => by simp [hi])⟩⟩
end Ms
end Go.Proofs.YtpfndibgfkkcgaaDoor

namespace Go.Proofs.YtpfndibgfkkcgaaDoor
open Go.RowKit
/-- each of the first n operations waits for earlier ones alone, and asks earlier ones alone whether it is wanted -/
def backB (md : Region.Mode) (ops : Array Oper) (n : Nat) : Bool :=
  (List.range n).all fun i => match ops[i]? with
    | some o => o.after.all (fun e => !Region.binds md e || decide (e.on < i)) && (match o.guard with | none => true | some (j, _) => decide (j < n))
    | none => true
/-- the first n are done, no other -/
def finA (m n : Nat) : Array Bool := Array.replicate n true ++ Array.replicate (m - n) false
theorem back_spec {md : Region.Mode} {ops : Array Oper} {n : Nat} (h : backB md ops n = true) {i : Nat} {o : Oper} (hi : i < n) (ho : ops[i]? = some o) :
    (∀ e ∈ o.after, Region.binds md e = true → e.on < i) ∧ (∀ j b, o.guard = some (j, b) → j < n) := by
  have a := List.all_eq_true.1 h i (List.mem_range.2 hi)
  simp only [ho, Bool.and_eq_true] at a
  refine ⟨fun e he hb => ?_, fun j b hg => ?_⟩
  · have := Array.all_eq_true_iff_forall_mem.1 a.1 e he
    simpa [hb] using this
  · have := a.2
    rw [hg] at this
    simpa using this
theorem getD_tf {l : Array Bool} {i : Nat} (h : i < l.size) (d d' : Bool) : l.getD i d = l.getD i d' := by simp [h]
theorem wpAny_more {P : Program} {md : Region.Mode} {ops : Array Oper} {Q : Exit → Act → World → Prop} : ∀ (g k : Nat) (listed : Array Bool) (a : Act) (w : World), wpAny P md ops Q g listed a w → wpAny P md ops Q (g + k) listed a w
  | 0, 0, _, _, _, h => h
  | 0, k + 1, listed, a, w, h => by
    rw [Nat.zero_add]
    exact ⟨fun _ => h.2, fun i hi => by rw [h.1] at hi; cases hi⟩
  | g + 1, k, listed, a, w, h => by
    rw [show g + 1 + k = (g + k) + 1 by omega]
    exact ⟨h.1, fun i hi => wpOp_mono (fun a' w' h' => wpAny_more g k _ a' w' h') (h.2 i hi)⟩
section
variable {P : Program} {md : Region.Mode} {ops hd : Array Oper} {C : World → Prop} {n : Nat}
theorem ready_head (hhd : ∀ i, i < n → hd[i]? = ops[i]?) (hb : backB md ops n = true) {listed lh : Array Bool} (hl : lh.size = n) (hls : n ≤ listed.size) (he : ∀ i, i < n → lh.getD i true = listed.getD i true) {i : Nat} (hi : i < n) :
    i ∈ Region.ready md hd lh ↔ i ∈ Region.ready md ops listed := by
  rw [mem_ready, mem_ready, he i hi, hhd i hi]
  refine and_congr Iff.rfl (exists_congr fun o => and_congr_right fun ho => forall_congr' fun e => forall_congr' fun hm => forall_congr' fun hbd => ?_)
  have lt := (back_spec hb hi ho).1 e hm hbd
  rw [getD_tf (d := false) (d' := true) (by omega), getD_tf (l := listed) (d := false) (d' := true) (by omega), he _ (by omega)]
theorem some_ready (hsz : n ≤ ops.size) (hb : backB md ops n = true) {listed : Array Bool} (hls : n ≤ listed.size) :
    (∀ i, i < n → listed.getD i true = true) ∨ ∃ i, i < n ∧ i ∈ Region.ready md ops listed := by
  have key : ∀ k, k ≤ n → (∀ i, i < k → listed.getD i true = true) ∨ ∃ i, i < n ∧ i ∈ Region.ready md ops listed := by
    intro k
    induction k with
    | zero => exact fun _ => .inl (fun i hi => by omega)
    | succ k ih =>
      intro hk
      rcases ih (by omega) with h | h
      · cases c : listed.getD k true
        · right
          refine ⟨k, by omega, mem_ready.2 ⟨c, ops[k]'(by omega), by simp, fun e he hbd => ?_⟩⟩
          have lt := (back_spec hb (i := k) (o := ops[k]'(by omega)) (by omega) (by simp)).1 e he hbd
          rw [getD_tf (d := false) (d' := true) (by omega)]
          exact h _ lt
        · left
          intro i hi
          by_cases e : i = k
          · rw [e]; exact c
          · exact h i (by omega)
      · exact .inr h
  exact key n (Nat.le_refl _)
theorem qOp_head (hhd : ∀ i, i < n → hd[i]? = ops[i]?) (hb : backB md ops n = true) {i : Nat} (hi : i < n) {K : Act → Prop} {a : Act} (h : qOp P hd C i K a) : qOp P ops C i K a := by
  unfold qOp at *
  rw [hhd i hi] at h
  cases ho : ops[i]? with
  | none => rw [ho] at h; exact h
  | some o =>
    rw [ho] at h
    have e : Region.wanted o (yielded hd a.tmps) = Region.wanted o (yielded ops a.tmps) := by
      unfold Region.wanted
      cases hg : o.guard with
      | none => rfl
      | some jb =>
        obtain ⟨j, b⟩ := jb
        have lt := (back_spec hb hi ho).2 j b hg
        show (yielded hd a.tmps j == some b) = (yielded ops a.tmps j == some b)
        unfold yielded
        rw [hhd j lt]
    simp only [e] at h
    exact h
theorem fin_of {listed : Array Bool} (hn : n < ops.size) (inv : HeadInv md ops n listed) (h : ∀ i, i < n → listed.getD i true = true) : listed = finA ops.size n := by
  have s := inv.size
  unfold finA
  refine Array.ext (by simp; omega) fun i h1 h2 => ?_
  by_cases c : i < n
  · have := h i c
    rw [Array.getElem_append_left (by simpa using c)]
    simp [h1] at this
    simpa using this
  · have := inv.tail i (by omega) (by omega)
    rw [Array.getElem_append_right (by simp; omega)]
    simp [h1] at this
    simpa using this
theorem wpAny_of_headQ {g : Nat} {Q1 : Act → Prop} {Q' : Exit → Act → World → Prop} (hhd : ∀ i, i < n → hd[i]? = ops[i]?) (hsz : hd.size = n) (hn : n < ops.size) (hb : backB md ops n = true) (hs : Region.sinkB md ops n = true) (hc : Region.chainB md ops n = true)
    (hL : ∀ a w, C w → Q1 a → wpAny P md ops Q' g (finA ops.size n) a w) :
    ∀ (fuel : Nat) (listed lh : Array Bool) (a : Act) (w : World), C w → HeadInv md ops n listed → lh.size = n → (∀ i, i < n → lh.getD i true = listed.getD i true) →
      wpAnyQ P md hd C Q1 fuel lh a → wpAny P md ops Q' (fuel + g) listed a w := by
  intro fuel
  induction fuel with
  | zero =>
    intro listed lh a w hC inv hl he h
    have hls : n ≤ listed.size := by rw [inv.size]; omega
    rcases some_ready (by omega) hb hls with all | ⟨i, hi, hr⟩
    · rw [Nat.zero_add, fin_of hn inv all]
      exact hL a w hC h.2
    · have := (ready_head hhd hb hl hls he hi).2 hr
      rw [h.1] at this
      cases this
  | succ fuel ih =>
    intro listed lh a w hC inv hl he h
    have hls : n ≤ listed.size := by rw [inv.size]; omega
    rcases some_ready (by omega) hb hls with all | ⟨i0, hi0, hr0⟩
    · have no : Region.ready md hd lh = [] := by
        rw [List.eq_nil_iff_forall_not_mem]
        intro i hi
        obtain ⟨u, o, ho, _⟩ := mem_ready.1 hi
        have lt : i < n := by rw [← hsz]; exact (Array.getElem?_eq_some_iff.1 ho).1
        rw [he i lt, all i lt] at u
        cases u
      rw [Nat.add_comm (fuel + 1) g, fin_of hn inv all]
      exact wpAny_more g (fuel + 1) _ a w (hL a w hC (h.1 no))
    · rw [show fuel + 1 + g = (fuel + g) + 1 by omega]
      refine ⟨fun h0 => (by rw [h0] at hr0; cases hr0), fun i hi => ?_⟩
      have lt : i < n := by
        by_cases c : i < n
        · exact c
        · exact absurd hi (tail_waits hs hc hn inv _ i0 rfl hi0 (mem_ready.1 hr0).1 i (by omega))
      have hq := qOp_head hhd hb lt (h.2 i ((ready_head hhd hb hl hls he lt).2 hi))
      refine wpOp_of_qOp hC (fun a' w' hC' h' => ih _ _ a' w' hC' (inv.set hi lt) (by simp [hl]) (fun j hj => ?_) h') hq
      by_cases e : i = j
      · subst e
        simp [hl, lt, show i < listed.size by omega]
      · rw [getD_set_ne true e, getD_set_ne true e, he j hj]
end
/-- what is asked of the region's text -/
def tailB (ops : Array Oper) (n : Nat) : Bool :=
  decide (n < ops.size) && backB .any ops n && Region.sinkB .any ops n && Region.chainB .any ops n && Region.seqB .any ops (ops.size - n) n (finA ops.size n)
theorem region_tail {P : Program} {id : Nat} {Q : Exit → Act → World → Prop} {a : Act} {w : World} {l : List Oper} {U : Type} (n : Nat) (F : U → World) (hm : P.follows .mixedOrders = true) (hB : Region.lexB .any (l.take n).toArray = true) (hT : tailB l.toArray n = true)
    (hC : ∃ u, w.drew = F u)
    (h : wpQuiet P (l.take n).toArray (fun w' => ∃ u, w' = F u) (fun a' => ∀ w', (∃ u, w' = F u) → wpList P l.toArray Q (l.drop n) a' w') (l.take n) a) : (Code.region id l.toArray true).wp P Q a w := by
  simp only [tailB, Bool.and_eq_true, decide_eq_true_eq] at hT
  obtain ⟨⟨⟨⟨hn, hb⟩, hs⟩, hc⟩, hq⟩ := hT
  have hn' : n < l.length := by simpa using hn
  have htl : (l.take n).toArray.size = n := by simp; omega
  have hdl : (l.drop n).length = l.toArray.size - n := by simp
  refine wp_region_any hm ?_
  simp only [Region.lexB, Bool.and_eq_true] at hB
  have H := wpAnyQ_lex (P := P) (C := fun w' => ∃ u, w' = F u) (md := .any) hB.1 (l.take n) 0 (Array.replicate (l.take n).toArray.size false) a (by simp) (by simpa using hB.2) h
  have inv0 : HeadInv .any l.toArray n (Array.replicate l.toArray.size false) :=
    ⟨by simp, fun j oj _ hl => (by rw [getD_replicate_false] at hl; cases hl), fun t _ ht => getD_in (by simpa using ht) (getD_replicate_false _ _)⟩
  have := wpAny_of_headQ (P := P) (Q' := Q) (g := l.toArray.size - n) (hd := (l.take n).toArray) (ops := l.toArray) (fun i hi => by simp [hi]) htl hn hb hs hc
    (fun a' w' hC' h' => by
      have := wpAny_of_seq (P := P) (md := .any) (ops := l.toArray) (Q' := Q) (l.drop n) n (finA l.toArray.size n) a' w' (fun j => by simp) (by rw [hdl]; exact hq) (h' w' hC')
      rwa [hdl] at this)
    (l.take n).length _ _ a w.drew hC inv0 (by simpa using htl) (fun i hi => by
      rw [getD_in (listed := Array.replicate l.toArray.size false) (by simp; omega) (getD_replicate_false _ _)]
      exact getD_in (by rw [Array.size_replicate]; omega) (getD_replicate_false _ _)) H
  have e : (l.take n).length + (l.toArray.size - n) = l.toArray.size := by simp; omega
  rw [e] at this
  exact this
end Go.Proofs.YtpfndibgfkkcgaaDoor

namespace Go.Proofs.YtpfndibgfkkcgaaDoor
open Go.RowKit Go.Deep Cu
namespace Ms
open Sh
theorem infoW : (Tryd.prog.info? 51).map (fun i => (i.zero, i.size, i.bytes)) = some (some (.agg #[.int .u64 0, .int .u64 0]), 2, 16) := by kernel_rfl
theorem made_w (w : World) (N : Nat) : SumsAt (w.alloc (.cells (madeCells #[.int .u64 0, .int .u64 0] (N * 2)) 51)) w.heap.size N (fun _ => 0) := by
  refine ⟨_, heap_alloc_new _ _, size_madeCells _ _, fun i hi => ?_⟩
  have h2 : i % 2 = 0 ∨ i % 2 = 1 := by omega
  have e1 : hiW 0 = 0 := rfl
  have e2 : loW 0 = 0 := rfl
  rcases h2 with h2 | h2 <;> simp [madeCells, hi, h2, e1, e2]
/-- a number more -/
theorem plus_one (b : Nat) (y q : Int) (u : World) (hq : W64 q) (h : u.heap[b]? = some (.cells #[.int .i64 q] 2)) :
    Calls Tryd.prog 21 #[.agg #[.int .u64 (hiW y), .int .u64 (loW y)], .slice (some ⟨b, 0, none⟩) 1 1] u fun e w' => e = .returned (.agg #[.int .u64 (hiW (y + q)), .int .u64 (loW (y + q))]) ∧ Below u.heap.size u w' := by
  have i : IsI u (some ⟨b, 0, none⟩) 1 (fun _ => q) := fun k hk => by
    obtain rfl : k = 0 := by omega
    exact ⟨hq, b, 0, rfl, lt_of_block h, cell_of_row _ _ 0 _ _ _ h⟩
  have := plus_at (some ⟨b, 0, none⟩) 1 1 (fun _ => q) y u (by omega) i
  rw [show sumN (fun _ => q) 1 = q by show (0 : Int) + q = q; omega] at this
  exact this
theorem own_low {B C : Nat} {v : Value} {l : List Int} {w : World} (h : Own B v l w) (hc : C ≤ B) : Own C v l w := by
  refine ⟨h.1, ?_⟩
  rcases h.2 with h0 | ⟨g, cap, cur, e, hb', hg, h1, h2, h3, h4⟩
  · exact .inl h0
  · exact .inr ⟨g, cap, cur, e, Nat.le_trans hc hb', hg, h1, h2, h3, h4⟩
set_option maxRecDepth 100000 in
set_option maxHeartbeats 16000000 in
theorem move_go (gb wb wo M cw fb fo N cf : Nat) (W F : Nat → Int) (L R sL sR : Nat → Nat) (Z : Nat → Nat → Int) (w : World) (hM : M ≤ 65536) (hN : N ≤ 65536)
    (CE : Hid (∀ v, Ab w v → Calls Tryd.prog 14 #[.pointer (some ⟨gb, 0, none⟩)] v fun e w' => e = .returned (.int .i64 (M : Nat)) ∧ w' = v))
    (ED : Hid (∀ v, Ab w v → Calls Tryd.prog 15 #[.pointer (some ⟨gb, 0, none⟩)] v fun e w' => e = .returned (.int .i64 (N : Nat)) ∧ w' = v))
    (EG : Hid (∀ k : Nat, k < N → ∀ v, Ab w v → Calls Tryd.prog 19 #[.pointer (some ⟨gb, 0, none⟩), .int .i64 (k : Nat)] v fun e w' => e = .returned (.tuple #[.agg #[.int .i64 (L k : Nat), .int .i64 (sL k : Nat), .int .i64 (R k : Nat), .int .i64 (sR k : Nat)], .bool true]) ∧ Below v.heap.size v w'))
    (IW : Hid (IsI w (some ⟨wb, wo, none⟩) M W)) (IF : Hid (IsI w (some ⟨fb, fo, none⟩) N F))
    (LR : Hid (∀ k, k < N → L k < M ∧ R k < M ∧ L k ≠ R k))
    (Z0 : Hid (∀ c, c < M → Z 0 c = W c))
    (ZS : Hid (∀ k, k < N → ∀ c, c < M → Z (k + 1) c = if c = L k then Z k c - F k else if c = R k then Z k c + F k else Z k c))
    (ZB : Hid (∀ c, c < M → -170141183460469231731687303715884105728 ≤ Z N c ∧ Z N c < 170141183460469231731687303715884105728)) :
    Calls Tryd.prog 13 #[.pointer (some ⟨gb, 0, none⟩), .slice (some ⟨wb, wo, none⟩) M cw, .slice (some ⟨fb, fo, none⟩) N cf] w fun e w' => Below w.heap.size w w' ∧ (((∀ k, k < M → gd (Z N k)) ∧ ∃ v, e = .returned (.tuple #[v, .int .i64 0]) ∧ Own w.heap.size v ((List.range M).map (Z N)) w') ∨ ((¬ ∀ k, k < M → gd (Z N k)) ∧ e = .returned (.tuple #[.slice none 0 0, .int .i64 20]))) := by
  obtain ⟨i0, hi, hz0, hz1, hz2⟩ := info_parts infoW
  have MK := run_make (P := Tryd.prog) w 74 51 i0 (.agg #[.int .u64 0, .int .u64 0]) Tryd.underlying74 hi hz0 .i64 .i64 M M (by omega) (Int.le_refl _) (by rw [hz2]; omega) (by omega)
  rw [hz1] at MK
  simp only [Int.toNat_natCast] at MK
  have e0 : (Value.agg #[.int .u64 0, .int .u64 0]).cells = #[.int .u64 0, .int .u64 0] := rfl
  rw [e0] at MK
  clear hi hz0 hz1 hz2 e0
  have MB := hid hM
  have NB := hid hN
  clear hM hN
  obtain ⟨ob, hob⟩ : ∃ b, w.heap.size = b := ⟨_, rfl⟩
  have RW : Hid (SumsAt (w.alloc (.cells (madeCells #[.int .u64 0, .int .u64 0] (M * 2)) 51)) ob M (fun _ => 0)) := by rw [← hob]; exact made_w _ _
  have A0 : Hid (Ab w (w.alloc (.cells (madeCells #[.int .u64 0, .int .u64 0] (M * 2)) 51))) := bl1 w _
  have HO : Hid (w.heap.size ≤ ob) := Nat.le_of_eq hob
  generalize w.alloc (.cells (madeCells #[.int .u64 0, .int .u64 0] (M * 2)) 51) = wm at *
  go_enter Tryd.func13, Tryd.ntmps13
  go_wp2_with fail
  refine (CE.out _ (Ab.refl _)).mono ?_
  rintro e9 v9 ⟨rfl, hv9⟩
  have hv8 := hv9.symm
  subst hv8
  go_wp2_with fail
  refine (ED.out _ (Ab.refl _)).mono ?_
  rintro e9 v9 ⟨rfl, hv9⟩
  have hv8 := hv9.symm
  subst hv8
  go_wp2
  clear MK hob CE ED
  go_loopw [34] (fun iv wr => ∃ k : Nat, k ≤ M ∧ iv = .int .i64 (k : Nat) ∧ Ab w wr ∧ SumsAt wr ob M (fun c => if c < k then W c else 0)) (fun iv _ => M - (intOf iv).toNat)
  case atStart => exact ⟨0, by omega, rfl, A0.out, RW.out.congr (fun i _ => by simp)⟩
  case round =>
    obtain ⟨k, hk, rfl, a1, r1⟩ := hrel
    have AR := hid a1
    have RR := hid r1
    clear a1 r1 A0 RW
    by_cases hkm : k < M
    · have HK := hid hkm
      have kI : (k : Int) < M := by omega
      have kB : (k : Int) ≤ 65536 := by have := MB.out; omega
      obtain ⟨hq, -, hc⟩ := (IW.out.below AR.out).at0 hkm
      have x0 := RR.out.c0 hkm
      have x1 := RR.out.c1 hkm
      rw [if_neg (by omega)] at x0 x1
      obtain ⟨q, hx⟩ : ∃ x, W k = x := ⟨_, rfl⟩
      rw [hx] at hq hc
      have C := hid (plus_one wr.heap.size 0 q (wr.alloc (.cells #[.int .i64 q] 2)) hq (heap_alloc_new _ _))
      rw [Int.zero_add] at C
      have HX := hid hx
      clear hx hkm hk
      have y1 := loW_in q
      have y2 := hiW_in q
      have e1 : hiW 0 = 0 := rfl
      have e2 : loW 0 = 0 := rfl
      rw [e1] at x0 C
      rw [e2] at x1 C
      go_wp2_with fail
      refine C.out.mono ?_
      rintro e9 v1 ⟨rfl, b1⟩
      have A1 : Hid (Ab w v1) := ((AR.out : Ab w wr).trans (bl1 wr _)).call b1
      have R1 := hid ((RR.out.to (bl1 wr _)).to b1)
      have f0 := R1.out.c0 HK.out
      have f1 := R1.out.c1 HK.out
      have z0 := R1.out.frz (k * 2)
      have z1 := R1.out.frz (k * 2 + 1)
      clear b1 C x0 x1 AR RR e1 e2
      go_wp2
      refine ⟨⟨k + 1, by have := HK.out; omega, by simp, Ab.setk (Ab.setk A1.out HO.out _) HO.out _, (R1.out.put (c := k) q).congr (fun i _ => ?_)⟩, by have := HK.out; simp [intOf]; omega⟩
      unfold updX
      by_cases e : i = k
      · subst e; simp [HX.out]
      · have e3 : (i < k + 1) ↔ i < k := by omega
        simp [e, e3]
    · obtain rfl : k = M := by omega
      have RZ : Hid (SumsAt wr ob k (Z 0)) := RR.out.congr (fun c hc => by rw [if_pos hc, Z0.out c hc])
      clear RR
      go_wp2
      go_loopw [52] (fun iv wr => ∃ j : Nat, j ≤ N ∧ iv = .int .i64 (j : Nat) ∧ Ab w wr ∧ SumsAt wr ob k (Z j)) (fun iv _ => N - (intOf iv).toNat)
      case atStart => exact ⟨0, by omega, rfl, AR.out, RZ.out⟩
      case round =>
        obtain ⟨j, hj, rfl, a1, r1⟩ := hrel
        have AS := hid a1
        have RS := hid r1
        clear a1 r1 RZ AR
        by_cases hjn : j < N
        · have HJ := hid hjn
          have jI : (j : Int) < N := by omega
          have jB : (j : Int) ≤ 65536 := by have := NB.out; omega
          obtain ⟨hq, -, hc⟩ := (IF.out.below AS.out).at0 hjn
          obtain ⟨l1, l2, l3⟩ := LR.out j hjn
          have CG := hid (EG.out j hjn wr AS.out)
          have ZN := hid (ZS.out j hjn)
          obtain ⟨q, hx⟩ : ∃ x, F j = x := ⟨_, rfl⟩
          rw [hx] at hq hc ZN
          generalize L j = lc at *
          generalize R j = rc at *
          generalize sL j = sl at *
          generalize sR j = sr at *
          have LC := hid l1
          have RC := hid l2
          have NE := hid l3
          have lI : (lc : Int) < k := by omega
          have rI : (rc : Int) < k := by omega
          have kB : (k : Int) ≤ 65536 := by have := MB.out; omega
          have HQ : Hid (W64 q) := hq
          clear hx hjn hj l1 l2 l3
          go_wp2_with fail
          refine CG.out.mono ?_
          rintro e9 v1 ⟨rfl, b1⟩
          have A1 : Hid (Ab w v1) := (AS.out : Ab w wr).call b1
          have R1 := hid (RS.out.to b1)
          clear b1 CG AS RS hc
          go_wp2_with fail
          obtain ⟨V, hV⟩ : ∃ V, v1.alloc (.cells #[.int .i64 (lc : Nat), .int .i64 (sl : Nat), .int .i64 (rc : Nat), .int .i64 (sr : Nat)] 41) = V := ⟨_, rfl⟩
          rw [hV]
          obtain ⟨eb, heb⟩ : ∃ b, v1.heap.size = b := ⟨_, rfl⟩
          have EB : Hid (V.heap[eb]? = some (.cells #[.int .i64 (lc : Nat), .int .i64 (sl : Nat), .int .i64 (rc : Nat), .int .i64 (sr : Nat)] 41)) := by rw [← hV, ← heb]; exact heap_alloc_new _ _
          have AV : Hid (Ab w V) := by rw [← hV]; exact (A1.out : Ab w v1).trans (bl1 v1 _)
          have RV : Hid (SumsAt V ob k (Z j)) := by rw [← hV]; exact R1.out.to (bl1 v1 _)
          have NEB : Hid (ob ≠ eb) := by have := World.rowIs.lt R1.out; show _ ≠ _; omega
          rw [heb]
          clear hV heb A1 R1
          obtain ⟨y, hy⟩ : ∃ y, Z j lc = y := ⟨_, rfl⟩
          have HY := hid hy
          have CM := hid (fun u => minus_at y q u HQ.out)
          obtain ⟨UU, E, hF1, hF2⟩ := cls V
          have HU := hid hF2
          have HU1 := hid hF1
          have x0 : ∀ u, (E u).cell? ⟨eb, 0, none⟩ = some (.int .i64 (lc : Nat)) := fun u => cell_of_row _ _ 0 _ _ _ ((hF1 u).heap EB.out)
          have x1 : ∀ u, (E u).cell? ⟨ob, lc * 2, none⟩ = some (.int .u64 (hiW y)) := fun u => by rw [← hy]; exact (RV.out.to (hF1 u)).c0 LC.out
          have x2 : ∀ u, (E u).cell? ⟨ob, lc * 2 + 1, none⟩ = some (.int .u64 (loW y)) := fun u => by rw [← hy]; exact (RV.out.to (hF1 u)).c1 LC.out
          have DD0 := HU.out _ (Ab.refl V).drew
          have y1 := loW_in y
          have y2 := hiW_in y
          have y3 := loW_in (y - q)
          have y4 := hiW_in (y - q)
          clear hF1 hF2 hy
          refine region_tail 11 E (by kernel_rfl) (by kernel_rfl) (by kernel_rfl) DD0 ?_
          simp only [List.take_succ_cons, List.take_zero, List.drop_succ_cons, List.drop_zero]
          repeat (go_big_quiet_step (first
            | (with_reducible rfl)
            | (go_at_call 34; exact calls_cls HU HU1 (CM.out _))))
          refine wpQuiet_nil ?_
          intro vz hwz
          obtain ⟨u0, hu⟩ := hwz
          have AZ : Hid (Ab V vz) := by rw [hu]; exact HU1.out u0
          clear hu u0
          clear HU HU1 DD0 x0 x1 x2
          clear E UU
          have RZ := hid (RV.out.to AZ.out)
          have EZ := hid (Ab.heap AZ.out EB.out)
          have AW : Hid (Ab w vz) := (AV.out : Ab w V).trans AZ.out
          have f0 := RZ.out.c0 LC.out
          have f1 := RZ.out.c1 LC.out
          have z0 := RZ.out.frz (lc * 2)
          have z1 := RZ.out.frz (lc * 2 + 1)
          clear RV EB AV AZ
          go_wp2_with fail
          have R2 : Hid (SumsAt ((vz.setCell ⟨ob, lc * 2, none⟩ (.int .u64 (hiW (y - q)))).setCell ⟨ob, lc * 2 + 1, none⟩ (.int .u64 (loW (y - q)))) ob k (updX (Z j) lc (y - q))) := RZ.out.put (y - q)
          have A2 : Hid (Ab w ((vz.setCell ⟨ob, lc * 2, none⟩ (.int .u64 (hiW (y - q)))).setCell ⟨ob, lc * 2 + 1, none⟩ (.int .u64 (loW (y - q))))) := Ab.setk (Ab.setk AW.out HO.out _) HO.out _
          have E2 : Hid (((vz.setCell ⟨ob, lc * 2, none⟩ (.int .u64 (hiW (y - q)))).setCell ⟨ob, lc * 2 + 1, none⟩ (.int .u64 (loW (y - q)))).heap[eb]? = some (.cells #[.int .i64 (lc : Nat), .int .i64 (sl : Nat), .int .i64 (rc : Nat), .int .i64 (sr : Nat)] 41)) := by
            show _ = _
            rw [Below.heap_setCell _ _ _ _ (fun e => NEB.out e.symm), Below.heap_setCell _ _ _ _ (fun e => NEB.out e.symm)]
            exact EZ.out
          generalize (vz.setCell ⟨ob, lc * 2, none⟩ (.int .u64 (hiW (y - q)))).setCell ⟨ob, lc * 2 + 1, none⟩ (.int .u64 (loW (y - q))) = V2 at *
          clear RZ EZ AW f0 f1 z0 z1 CM
          have e3 : updX (Z j) lc (y - q) rc = Z j rc := by unfold updX; rw [if_neg (fun e => NE.out e.symm)]
          obtain ⟨p, hp⟩ : ∃ p, Z j rc = p := ⟨_, rfl⟩
          rw [hp] at e3
          have CP : Hid (Calls Tryd.prog 21 #[.agg #[.int .u64 (hiW p), .int .u64 (loW p)], .slice (some ⟨V2.heap.size, 0, none⟩) 1 1] (V2.alloc (.cells #[.int .i64 q] 2)).drew fun e w' => e = .returned (.agg #[.int .u64 (hiW (p + q)), .int .u64 (loW (p + q))]) ∧ Ab V2 w') :=
            (plus_one V2.heap.size p q (V2.alloc (.cells #[.int .i64 q] 2)).drew HQ.out (heap_alloc_new V2 _)).mono (fun _ _ h => ⟨h.1, Ab.call (Ab.drew (bl1 V2 _)) h.2⟩)
          have x0 := cell_of_row _ _ 2 _ _ _ E2.out
          have x1 := R2.out.c0 RC.out
          have x2 := R2.out.c1 RC.out
          rw [e3] at x1 x2
          have HP := hid hp
          have y1 := loW_in p
          have y2 := hiW_in p
          have y3 := loW_in (p + q)
          have y4 := hiW_in (p + q)
          have XE : Hid (∀ u, Ab V2 u → u.cell? ⟨eb, 2, none⟩ = some (.int .i64 (rc : Nat))) := fun u hu => cell_of_row _ _ 2 _ _ _ (hu.heap E2.out)
          have XS : Hid (∀ u, Ab V2 u → SumsAt u ob k (updX (Z j) lc (y - q))) := fun u hu => R2.out.to hu
          have XC : Hid (∀ u, Ab V2 u → u.cell? ⟨ob, rc * 2, none⟩ = some (.int .u64 (hiW p)) ∧ u.cell? ⟨ob, rc * 2 + 1, none⟩ = some (.int .u64 (loW p)) ∧ u.frozen? ⟨ob, rc * 2, none⟩ = false ∧ u.frozen? ⟨ob, rc * 2 + 1, none⟩ = false) := fun u hu => by
            have h := XS.out u hu
            have h0 := h.c0 RC.out
            have h1 := h.c1 RC.out
            rw [e3] at h0 h1
            exact ⟨h0, h1, h.frz _, h.frz _⟩
          have ol : ob < V2.heap.size := World.rowIs.lt R2.out
          have el : eb < V2.heap.size := lt_of_block E2.out
          have xa := XC.out _ (bl1 V2 (.cells #[.int .i64 q] 2))
          have xb := XE.out _ (bl1 V2 (.cells #[.int .i64 q] 2))
          have xa0 := xa.1
          have xa1 := xa.2.1
          have FIN : Hid (∀ u1, Ab V2 u1 → Ab w ((u1.setCell ⟨ob, rc * 2, none⟩ (.int .u64 (hiW (p + q)))).setCell ⟨ob, rc * 2 + 1, none⟩ (.int .u64 (loW (p + q)))) ∧ SumsAt ((u1.setCell ⟨ob, rc * 2, none⟩ (.int .u64 (hiW (p + q)))).setCell ⟨ob, rc * 2 + 1, none⟩ (.int .u64 (loW (p + q)))) ob k (Z (j + 1))) := fun u1 hu => ⟨Ab.setk (Ab.setk (Ab.trans A2.out hu) HO.out _) HO.out _, ((XS.out u1 hu).put (c := rc) (p + q)).congr (fun c hc => by
            rw [ZN.out c hc]
            unfold updX
            by_cases c1 : c = rc
            · subst c1
              rw [if_pos rfl, if_neg (fun e => NE.out e.symm), if_pos rfl, HP.out]
            · rw [if_neg c1]
              by_cases c2 : c = lc
              · subst c2
                rw [if_pos rfl, if_pos rfl, HY.out]
              · rw [if_neg c2, if_neg c2, if_neg c1])⟩
          clear hp xa e3 y1 y2
          go_region_with (go_at_call 21; refine CP.out.mono ?_; rintro e9 u1 ⟨rfl, b1⟩; have AU : Hid (Ab V2 u1) := b1; clear b1; have xe := XE.out _ AU.out; have xc := XC.out _ AU.out)
          all_goals
            go_wp2
            exact ⟨⟨j + 1, by have := HJ.out; omega, by simp, (FIN.out _ AU.out).1, (FIN.out _ AU.out).2⟩, by have := HJ.out; simp [intOf]; omega⟩
        · obtain rfl : j = N := by omega
          have C := hid (held_at ob k (Z j) wr MB.out RS.out ZB.out)
          go_wp2_with fail
          refine C.out.mono ?_
          rintro e9 v1 ⟨b1, ⟨g1, v, rfl, o1⟩ | ⟨g1, rfl⟩⟩
          · have A1 : Hid (Ab w v1) := (AS.out : Ab w wr).call b1
            have G1 := hid g1
            have O1 := hid o1
            clear g1 o1 b1 C
            go_wp2
            go_ret2
            exact ⟨A1.out, .inl ⟨G1.out, v, rfl, own_low O1.out (Below.size AS.out)⟩⟩
          · have A1 : Hid (Ab w v1) := (AS.out : Ab w wr).call b1
            have G1 := hid g1
            clear g1 b1 C
            go_wp2
            go_ret2
            exact ⟨A1.out, .inr ⟨G1.out, rfl⟩⟩
end Ms
end Go.Proofs.YtpfndibgfkkcgaaDoor

namespace Go.Proofs.YtpfndibgfkkcgaaDoor
open Go.RowKit Go.Deep Cu
namespace Ms
open Sh
set_option maxRecDepth 100000 in
set_option maxHeartbeats 4000000 in
theorem move_bad (gb M N : Nat) (pw : Option Addr) (lw cw : Nat) (pf : Option Addr) (lf cf : Nat) (w : World) (h : ¬ (lw = M ∧ lf = N))
    (CE : Hid (Calls Tryd.prog 14 #[.pointer (some ⟨gb, 0, none⟩)] w fun e w' => e = .returned (.int .i64 (M : Nat)) ∧ w' = w))
    (ED : Hid (Calls Tryd.prog 15 #[.pointer (some ⟨gb, 0, none⟩)] w fun e w' => e = .returned (.int .i64 (N : Nat)) ∧ w' = w)) :
    Calls Tryd.prog 13 #[.pointer (some ⟨gb, 0, none⟩), .slice pw lw cw, .slice pf lf cf] w fun e w' => e = .returned (.tuple #[.slice none 0 0, .int .i64 1]) ∧ Below w.heap.size w w' := by
  by_cases c1 : lw = M
  · have d2 : ((lf : Int) != (N : Int)) = true := by simp; omega
    subst c1
    clear h
    go_enter Tryd.func13, Tryd.ntmps13
    go_wp2_with fail
    refine CE.out.mono ?_
    rintro e9 v9 ⟨rfl, hv9⟩
    have hv8 := hv9.symm
    subst hv8
    go_wp2_with fail
    refine ED.out.mono ?_
    rintro e9 v9 ⟨rfl, hv9⟩
    have hv8 := hv9.symm
    subst hv8
    go_wp2
    go_ret2
    exact ⟨rfl, Below.refl _ _⟩
  · have d1 : ((lw : Int) != (M : Int)) = true := by simp; omega
    clear h c1
    go_enter Tryd.func13, Tryd.ntmps13
    go_wp2_with fail
    refine CE.out.mono ?_
    rintro e9 v9 ⟨rfl, hv9⟩
    have hv8 := hv9.symm
    subst hv8
    go_wp2
    go_ret2
    exact ⟨rfl, Below.refl _ _⟩
theorem mv_in {n c : Nat} {W F : Nat → Int} (hn : 1 ≤ n) (hc : c < 6 * n * n) (hW : ∀ k, k < 6 * n * n → W64 (W k)) (hF : ∀ k, k < 12 * n * n → W64 (F k)) : -170141183460469231731687303715884105728 ≤ mv n W F c ∧ mv n W F c < 170141183460469231731687303715884105728 := by
  have hw := hW c hc
  have ht : ∀ s, s < 4 → -9223372036854775808 ≤ tk n F (4 * c + s) ∧ tk n F (4 * c + s) ≤ 9223372036854775808 := fun s hs => by
    have h := hF _ (eE_lt hn (t_lt hc hs))
    unfold W64 at h
    unfold tk eS
    split <;> omega
  have t0 := ht 0 (by omega)
  have t1 := ht 1 (by omega)
  have t2 := ht 2 (by omega)
  have t3 := ht 3 (by omega)
  unfold W64 at hw
  show _ ≤ W c - (0 + tk n F (4 * c + 0) + tk n F (4 * c + 1) + tk n F (4 * c + 2) + tk n F (4 * c + 3)) ∧ W c - (0 + tk n F (4 * c + 0) + tk n F (4 * c + 1) + tk n F (4 * c + 2) + tk n F (4 * c + 3)) < _
  omega
theorem n6_pos {n : Nat} (hn : 1 ≤ n) : 0 < 6 * n * n := Nat.mul_pos (Nat.mul_pos (by omega) hn) hn
theorem n12_pos {n : Nat} (hn : 1 ≤ n) : 0 < 12 * n * n := Nat.mul_pos (Nat.mul_pos (by omega) hn) hn
/-- MOVE OF LISTS THAT FIT -/
theorem move_fit (n gb : Nat) (pw : Option Addr) (cw : Nat) (W : Nat → Int) (pf : Option Addr) (cf : Nat) (F : Nat → Int) (w : World) (hn : 1 ≤ n ∧ n ≤ 32) (g : GridOf n gb w) (iW : IsI w pw (6 * n * n) W) (iF : IsI w pf (12 * n * n) F) :
    Calls Tryd.prog 13 #[.pointer (some ⟨gb, 0, none⟩), .slice pw (6 * n * n) cw, .slice pf (12 * n * n) cf] w fun e w' => Below w.heap.size w w' ∧ ((can n W F ∧ ∃ v, e = .returned (.tuple #[v, .int .i64 0]) ∧ Own w.heap.size v ((List.range (6 * n * n)).map (mv n W F)) w') ∨ ((¬ can n W F) ∧ e = .returned (.tuple #[.slice none 0 0, .int .i64 20]))) := by
  obtain ⟨h1, h2⟩ := n12 hn
  obtain ⟨wb, wo, rfl⟩ := iW.some0 (n6_pos hn.1)
  obtain ⟨fb, fo, rfl⟩ := iF.some0 (n12_pos hn.1)
  have hM : 6 * n * n ≤ 65536 := by have : 12 * n * n = 2 * (6 * n * n) := by rw [show 12 = 2 * 6 from rfl, Nat.mul_assoc 2 6 n, Nat.mul_assoc 2 (6 * n) n]
                                    omega
  have LR : ∀ k, k < 12 * n * n → edT n k / 4 < 6 * n * n ∧ mt n (edT n k) / 4 < 6 * n * n ∧ edT n k / 4 ≠ mt n (edT n k) / 4 := fun k hk => by
    obtain ⟨t1, t2, t3⟩ := edT_spec hn.1 hk
    have := ends_ne hn.1 hk
    exact ⟨t_cell t1, t_cell (mt_lt hn.1 t1), by omega⟩
  refine (move_go gb wb wo (6 * n * n) cw fb fo (12 * n * n) cf W F (fun k => edT n k / 4) (fun k => mt n (edT n k) / 4) (fun k => edT n k % 4) (fun k => mt n (edT n k) % 4) (fun k c => mv n W (upF k F) c) w hM (by omega)
    (fun v hv => gCells_at (g.to hv)) (fun v hv => gEdges_at (g.to hv)) (fun k hk v hv => ?_) iW iF LR (fun c hc => mv_nil W F hn.1 hc) (fun k hk c hc => mv_up W F hn.1 hk hc) (fun c hc => ?_)).mono ?_
  · obtain ⟨t1, t2, t3⟩ := edT_spec hn.1 hk
    have e := gEdge_ok hn t1 t2 (g.to hv)
    rw [t3, ← (mt_dec hn.1 t1).1, ← (mt_dec hn.1 t1).2] at e
    exact e
  · rw [mv_all W F hn.1 hc]
    exact mv_in hn.1 hc (fun k hk => (iW k hk).1) (fun k hk => (iF k hk).1)
  · have el : (List.range (6 * n * n)).map (fun c => mv n W (upF (12 * n * n) F) c) = (List.range (6 * n * n)).map (mv n W F) := List.map_congr_left fun c hc => mv_all W F hn.1 (List.mem_range.1 hc)
    have ec : (∀ k, k < 6 * n * n → gd (mv n W (upF (12 * n * n) F) k)) ↔ can n W F :=
      ⟨fun h c hc => by have := h c hc; rw [mv_all W F hn.1 hc] at this; exact this, fun h c hc => by rw [mv_all W F hn.1 hc]; exact h c hc⟩
    rintro e w' ⟨b1, ⟨h3, v, rfl, o⟩ | ⟨h3, rfl⟩⟩
    · exact ⟨b1, .inl ⟨ec.1 h3, v, rfl, by rw [← el]; exact o⟩⟩
    · exact ⟨b1, .inr ⟨fun h => h3 (ec.2 h), rfl⟩⟩
/-- MOVE -/
theorem moveC : MoveC := by
  intro n gb pw lw cw W pf lf cf F w hn g _ _ iW iF
  refine ⟨?_, ?_, ?_⟩
  · rintro ⟨rfl, rfl⟩ hc
    refine (move_fit n gb pw cw W pf cf F w hn g iW iF).mono ?_
    rintro e w' ⟨b1, ⟨_, v, rfl, o⟩ | ⟨h3, _⟩⟩
    · exact ⟨v, rfl, b1, o⟩
    · exact absurd hc h3
  · rintro ⟨rfl, rfl⟩ hc
    refine (move_fit n gb pw cw W pf cf F w hn g iW iF).mono ?_
    rintro e w' ⟨b1, ⟨h3, _⟩ | ⟨_, rfl⟩⟩
    · exact absurd h3 hc
    · exact ⟨rfl, b1⟩
  · intro h
    exact move_bad gb (6 * n * n) (12 * n * n) pw lw cw pf lf cf w h (gCells_at g) (gEdges_at g)
end Ms
end Go.Proofs.YtpfndibgfkkcgaaDoor

namespace Go.Proofs.YtpfndibgfkkcgaaDoor
open Go.ChangeShapes Go.WideShapes Go.ChangeAt Go.WideMaps Go.WideElems Go.RowKit Cu

theorem own : ownKnob Tryd.prog.godebug = none := by kernel_rfl
theorem gFrames : Tryd.prog.globalNamed "tarn/cube.frames" = some 0 := by kernel_rfl
theorem tFrames : (Tryd.prog.globals[0]?).map (·.type) = some 102 := by kernel_rfl
theorem door_met (os : Os) (args : Array Value) : laidMetH Tryd.prog [("tarn/cube.frames", Rows.laid_tarn_cube_frames)] ((World.doorLaid Tryd.prog 400 os).forCall (fun _ _ => 0) ⟨#[], args, []⟩).memory :=
  laidMetH_of_parts3 (fuel := 8) (laidMet_of_run' 8 (by kernel_rfl) (by kernel_rfl)) (by kernel_rfl) (by kernel_rfl)
set_option maxRecDepth 100000 in
theorem pt_data {H : Type} {enc : TypeId × Value → H} {w : World} {base fuel : Nat} {spare : Nat → Bool} {held : Bool} {cs : List Value} {x : DataW H × List MemPlace} (h : DataW.trod enc Tryd.prog w base spare held fuel 94 cs = some x)
    (a b c : Int) (e : x.1 = .agg [.lit (.int .i64 a), .lit (.int .i64 b), .lit (.int .i64 c)]) : cs = [.int .i64 a, .int .i64 b, .int .i64 c] := by
  have k3 : Tryd.prog.cellsOf 3 = 1 := by kernel_rfl
  have kp : Tryd.prog.cellsOf 94 = 3 := by kernel_rfl
  obtain ⟨xs, m, _, hx, hlen, hn, hel⟩ := DataW.trod_array Tryd.underlying94 h
  rw [hx] at e
  match xs, hn, cs, hlen.trans kp with
  | [x0, x1, x2], _, [c0, c1, c2], _ =>
    have h0 := hel 0 (by decide)
    have h1 := hel 1 (by decide)
    have h2 := hel 2 (by decide)
    simp [k3] at h0 h1 h2
    obtain ⟨n0, e0, f0, _⟩ := DataW.trod_int Tryd.underlying3 h0
    obtain ⟨n1, e1, f1, _⟩ := DataW.trod_int Tryd.underlying3 h1
    obtain ⟨n2, e2, f2, _⟩ := DataW.trod_int Tryd.underlying3 h2
    simp at e0 e1 e2
    simp [f0, f1, f2] at e
    rw [e0, e1, e2, e.1, e.2.1, e.2.2]
set_option maxRecDepth 100000 in
theorem frame_data {H : Type} {enc : TypeId × Value → H} {w : World} {base fuel : Nat} {spare : Nat → Bool} {held : Bool} {cs : List Value} {x : DataW H × List MemPlace} (h : DataW.trod enc Tryd.prog w base spare held fuel 101 cs = some x)
    (p q r : P3) (e : x.1 = .agg [.agg [.lit (.int .i64 p.1), .lit (.int .i64 p.2.1), .lit (.int .i64 p.2.2)], .agg [.lit (.int .i64 q.1), .lit (.int .i64 q.2.1), .lit (.int .i64 q.2.2)], .agg [.lit (.int .i64 r.1), .lit (.int .i64 r.2.1), .lit (.int .i64 r.2.2)]]) :
    cs = [.int .i64 p.1, .int .i64 p.2.1, .int .i64 p.2.2, .int .i64 q.1, .int .i64 q.2.1, .int .i64 q.2.2, .int .i64 r.1, .int .i64 r.2.1, .int .i64 r.2.2] := by
  have kp : Tryd.prog.cellsOf 94 = 3 := by kernel_rfl
  have kf : Tryd.prog.cellsOf 101 = 9 := by kernel_rfl
  obtain ⟨xs, m, _, hx, hlen, hn, hel⟩ := DataW.trod_struct Tryd.underlying101 h
  rw [hx] at e
  match xs, hn, cs, hlen.trans kf with
  | [x0, x1, x2], _, [c0, c1, c2, c3, c4, c5, c6, c7, c8], _ =>
    have h0 := hel 0 _ rfl
    have h1 := hel 1 _ rfl
    have h2 := hel 2 _ rfl
    simp [kp] at h0 h1 h2
    simp at e
    have e0 := pt_data h0 _ _ _ e.1
    have e1 := pt_data h1 _ _ _ e.2.1
    have e2 := pt_data h2 _ _ _ e.2.2
    simp at e0 e1 e2
    simp [e0, e1, e2]
set_option maxRecDepth 100000 in
theorem table_data {H : Type} {enc : TypeId × Value → H} {w : World} {base fuel : Nat} {spare : Nat → Bool} {held : Bool} {cs : List Value} {x : DataW H × List MemPlace} (h : DataW.trod enc Tryd.prog w base spare held fuel 102 cs = some x)
    (e : x.1 = Rows.laid_tarn_cube_frames) : ∀ f, f < 6 → (cs.drop (f * 9)).take 9 = [.int .i64 (cC f).1, .int .i64 (cC f).2.1, .int .i64 (cC f).2.2, .int .i64 (cR f).1, .int .i64 (cR f).2.1, .int .i64 (cR f).2.2, .int .i64 (cU f).1, .int .i64 (cU f).2.1, .int .i64 (cU f).2.2] := by
  have kf : Tryd.prog.cellsOf 101 = 9 := by kernel_rfl
  obtain ⟨xs, m, _, hx, hlen, hn, hel⟩ := DataW.trod_array Tryd.underlying102 h
  rw [hx] at e
  intro f hf
  have h0 := hel f hf
  rw [kf] at h0
  match xs, hn with
  | [x0, x1, x2, x3, x4, x5], _ =>
    simp only [List.map_cons, List.map_nil, Rows.laid_tarn_cube_frames, DataW.agg.injEq, List.cons.injEq] at e
    rcases six hf with rfl | rfl | rfl | rfl | rfl | rfl
    · exact frame_data h0 (cC 0) (cR 0) (cU 0) e.1
    · exact frame_data h0 (cC 1) (cR 1) (cU 1) e.2.1
    · exact frame_data h0 (cC 2) (cR 2) (cU 2) e.2.2.1
    · exact frame_data h0 (cC 3) (cR 3) (cU 3) e.2.2.2.1
    · exact frame_data h0 (cC 4) (cR 4) (cU 4) e.2.2.2.2.1
    · exact frame_data h0 (cC 5) (cR 5) (cU 5) e.2.2.2.2.2.1
/-- WHAT THE CONDITION GIVES THE WALKS -/
theorem of_laid {W : World} (h : laidMetH Tryd.prog [("tarn/cube.frames", Rows.laid_tarn_cube_frames)] W) : Fr W := by
  rw [MakeChecks.laidMetH_plain _ _ _ (by kernel_rfl)] at h
  obtain ⟨ps, ⟨g0, t0, cs0, f0, p0, q0, hg0, ht0, hv0, hd0, _⟩, _⟩ := h
  obtain rfl := Option.some.inj (gFrames.symm.trans hg0)
  obtain rfl := Option.some.inj (tFrames.symm.trans ht0)
  have T := table_data hd0 rfl
  have C := World.var?_cell hg0 hv0
  have K : ∀ f, f < 6 → ∀ k, k < 9 → W.cell? ⟨0, f * 9 + k, none⟩ = ((cs0.toList.drop (f * 9)).take 9)[k]? := by
    intro f hf k hk
    rw [C, List.getElem?_take, if_pos hk, List.getElem?_drop]
    simp
  have N : ∀ f, f < 6 → Fr9 W f := by
    intro f hf
    have K := K f hf
    rw [T f hf] at K
    exact ⟨⟨K 0 (by omega), K 1 (by omega), K 2 (by omega)⟩, ⟨K 3 (by omega), K 4 (by omega), K 5 (by omega)⟩, ⟨K 6 (by omega), K 7 (by omega), K 8 (by omega)⟩⟩
  refine ⟨?_, N⟩
  have c0 := (N 0 (by omega)).1.1
  rcases Nat.lt_or_ge 0 W.heap.size with h1 | h1
  · exact h1
  · rw [World.cell?, Array.getElem?_eq_none h1] at c0; cases c0
end Go.Proofs.YtpfndibgfkkcgaaDoor
