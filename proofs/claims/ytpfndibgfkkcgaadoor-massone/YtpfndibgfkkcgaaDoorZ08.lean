/-
  Some of the texts of this proof, one behind the other.
-/
import Derived.BigQuiet
import Derived.Deep.QuietTactic
import Derived.StillTail
import Derived.BigRegion
import Derived.Test.YtpfndibgfkkcgaaDoorZ07
namespace Go.Proofs.YtpfndibgfkkcgaaDoor
open Go.RowKit Go.Deep Cu
namespace Ms
open Sh
/-- the lower word -/
def loW (x : Int) : Int := x % 18446744073709551616
/-- the upper word -/
def hiW (x : Int) : Int := x / 18446744073709551616 % 18446744073709551616
/-- a number as a word -/
def wd (n : Int) : Int := if n < 0 then n + 18446744073709551616 else n
/-- its sign as a word -/
def sgW (n : Int) : Int := if n < 0 then 18446744073709551615 else 0
theorem loW_in (x : Int) : 0 ≤ loW x ∧ loW x < 18446744073709551616 := by unfold loW; omega
theorem hiW_in (x : Int) : 0 ≤ hiW x ∧ hiW x < 18446744073709551616 := by unfold hiW; omega
theorem wd_in {n : Int} (h : W64 n) : 0 ≤ wd n ∧ wd n < 18446744073709551616 := by
  unfold W64 at h; unfold wd; split <;> omega
theorem sgW_in (n : Int) : 0 ≤ sgW n ∧ sgW n < 18446744073709551616 := by unfold sgW; split <;> omega
theorem wd_wrap {n : Int} (h : W64 n) : IntKind.u64.wrap n = wd n := by
  unfold W64 at h; unfold wd
  simp [IntKind.wrap, IntKind.bits, IntKind.signed]
  split <;> omega
theorem plus_low {x n : Int} (_h : W64 n) : (loW x + wd n + 0) % 18446744073709551616 = loW (x + n) := by
  unfold loW wd; split <;> omega
theorem plus_high {x n : Int} (_h : W64 n) : (hiW x + sgW n + (loW x + wd n + 0) / 18446744073709551616) % 18446744073709551616 = hiW (x + n) := by
  unfold hiW loW wd sgW; split <;> omega
theorem plus_carry {x n : Int} (h : W64 n) : 0 ≤ (loW x + wd n + 0) / 18446744073709551616 ∧ (loW x + wd n + 0) / 18446744073709551616 ≤ 1 := by
  have := loW_in x
  have := wd_in h
  omega
/-- what is borrowed -/
def bo (a b : Int) : Int := if a < b then 1 else 0
theorem bo_in (a b : Int) : 0 ≤ bo a b ∧ bo a b ≤ 1 := by unfold bo; split <;> omega
theorem minus_low {x n : Int} (_h : W64 n) : (loW x + 18446744073709551616 - wd n - 0) % 18446744073709551616 = loW (x - n) := by
  unfold loW wd; split <;> omega
theorem minus_high {x n : Int} (h : W64 n) : (hiW x + 18446744073709551616 - sgW n - bo (loW x) (wd n + 0)) % 18446744073709551616 = hiW (x - n) := by
  unfold W64 at h; unfold hiW loW wd sgW bo
  by_cases c : n < 0
  · rw [if_pos c, if_pos c]; split <;> omega
  · rw [if_neg c, if_neg c]; split <;> omega
/-- the lower word as a number -/
def sh (x : Int) : Int := if loW x < 9223372036854775808 then loW x else loW x - 18446744073709551616
theorem sh_in (x : Int) : W64 (sh x) := by
  have := loW_in x
  unfold W64 sh; split <;> omega
theorem sh_wrap (x : Int) : IntKind.i64.wrap (loW x) = sh x := by
  have := loW_in x
  unfold sh
  generalize loW x = y at *
  simp [IntKind.wrap, IntKind.bits, IntKind.signed]
  split <;> omega
theorem sh_of {x : Int} (h : W64 x) : sh x = x ∧ hiW x = sgW (sh x) := by
  unfold W64 at h
  have e : sh x = x := by unfold sh loW; split <;> omega
  refine ⟨e, ?_⟩
  rw [e]
  unfold hiW sgW; split <;> omega
theorem sh_no {x : Int} (h : ¬ W64 x) (a : -170141183460469231731687303715884105728 ≤ x) (b : x < 170141183460469231731687303715884105728) : hiW x ≠ sgW (sh x) := by
  unfold W64 at h
  unfold hiW sgW sh loW
  intro e
  by_cases c : x % 18446744073709551616 < 9223372036854775808
  · rw [if_pos c, if_neg (by omega)] at e; omega
  · rw [if_neg c, if_pos (by omega)] at e; omega
theorem three_a (s : String) (x y c : Nat) (hc1 : c ≤ 1) (w : World) : (Extern.MathBitsCarry.three s #[.int .u64 x, .int .u64 y, .int .u64 c]).run Tryd.prog w = .ok (x, y, c) w := by
  have h : c = 0 ∨ c = 1 := by omega
  rcases h with rfl | rfl <;> rfl
theorem run_add (x y c s o : Int) (hx : 0 ≤ x) (hy : 0 ≤ y) (hc : 0 ≤ c) (hc1 : c ≤ 1) (hs : (x + y + c) % 18446744073709551616 = s) (ho : (x + y + c) / 18446744073709551616 = o) (w : World) :
    (callFunc 37 #[.int .u64 x, .int .u64 y, .int .u64 c]).run Tryd.prog w = .ok (.value (.tuple #[.int .u64 s, .int .u64 o])) w := by
  rw [run_callFunc_extern (e := fun args => do
    let (x, y, c) ← Extern.MathBitsCarry.three "Add64" args
    pure (Extern.MathBitsCarry.pair ((x + y + c) % Extern.MathBitsCarry.m64) ((x + y + c) / Extern.MathBitsCarry.m64))) Tryd.func37 (by kernel_rfl) (by kernel_rfl) (by kernel_rfl) (by kernel_rfl)]
  obtain ⟨x, rfl⟩ : ∃ n : Nat, x = n := ⟨x.toNat, by omega⟩
  obtain ⟨y, rfl⟩ : ∃ n : Nat, y = n := ⟨y.toNat, by omega⟩
  obtain ⟨c, rfl⟩ : ∃ n : Nat, c = n := ⟨c.toNat, by omega⟩
  have e : Extern.MathBitsCarry.m64 = 18446744073709551616 := by decide
  have hp : Extern.MathBitsCarry.pair ((x + y + c) % Extern.MathBitsCarry.m64) ((x + y + c) / Extern.MathBitsCarry.m64) = .tuple #[.int .u64 s, .int .u64 o] := by
    unfold Extern.MathBitsCarry.pair
    rw [e, Int.ofNat_eq_natCast, Int.ofNat_eq_natCast]
    have h1 : (((x + y + c) % 18446744073709551616 : Nat) : Int) = s := by omega
    have h2 : (((x + y + c) / 18446744073709551616 : Nat) : Int) = o := by omega
    rw [h1, h2]
  have h4 := three_a "Add64" x y c (by omega) w
  rw [Sem.run_bind, h4, Result.andThen_ok]
  show Result.andThen (Sem.run Tryd.prog (pure (Extern.MathBitsCarry.pair ((x + y + c) % Extern.MathBitsCarry.m64) ((x + y + c) / Extern.MathBitsCarry.m64))) w) _ = _
  rw [hp]; rfl
theorem run_sub (x y c s o : Int) (hx : 0 ≤ x) (hy : 0 ≤ y) (hy1 : y < 18446744073709551616) (hc : 0 ≤ c) (hc1 : c ≤ 1) (hs : (x + 18446744073709551616 - y - c) % 18446744073709551616 = s) (ho : bo x (y + c) = o) (w : World) :
    (callFunc 45 #[.int .u64 x, .int .u64 y, .int .u64 c]).run Tryd.prog w = .ok (.value (.tuple #[.int .u64 s, .int .u64 o])) w := by
  rw [run_callFunc_extern (e := fun args => do
    let (x, y, b) ← Extern.MathBitsCarry.three "Sub64" args
    pure (Extern.MathBitsCarry.pair ((x + Extern.MathBitsCarry.m64 - y - b) % Extern.MathBitsCarry.m64) (if x < y + b then 1 else 0))) Tryd.func45 (by kernel_rfl) (by kernel_rfl) (by kernel_rfl) (by kernel_rfl)]
  obtain ⟨x, rfl⟩ : ∃ n : Nat, x = n := ⟨x.toNat, by omega⟩
  obtain ⟨y, rfl⟩ : ∃ n : Nat, y = n := ⟨y.toNat, by omega⟩
  obtain ⟨c, rfl⟩ : ∃ n : Nat, c = n := ⟨c.toNat, by omega⟩
  have e : Extern.MathBitsCarry.m64 = 18446744073709551616 := by decide
  have hp : Extern.MathBitsCarry.pair ((x + Extern.MathBitsCarry.m64 - y - c) % Extern.MathBitsCarry.m64) (if x < y + c then 1 else 0) = .tuple #[.int .u64 s, .int .u64 o] := by
    unfold Extern.MathBitsCarry.pair
    rw [e, Int.ofNat_eq_natCast, Int.ofNat_eq_natCast]
    have h1 : (((x + 18446744073709551616 - y - c) % 18446744073709551616 : Nat) : Int) = s := by omega
    have h2 : (((if x < y + c then 1 else 0) : Nat) : Int) = o := by
      unfold bo at ho
      by_cases d : x < y + c
      · rw [if_pos d]; rw [if_pos (by omega)] at ho; exact ho
      · rw [if_neg d]; rw [if_neg (by omega)] at ho; exact ho
    rw [h1, h2]
  have h4 := three_a "Sub64" x y c (by omega) w
  rw [Sem.run_bind, h4, Result.andThen_ok]
  show Result.andThen (Sem.run Tryd.prog (pure (Extern.MathBitsCarry.pair ((x + Extern.MathBitsCarry.m64 - y - c) % Extern.MathBitsCarry.m64) (if x < y + c then 1 else 0))) w) _ = _
  rw [hp]; rfl
/-- flows below a number -/
def upF (k : Nat) (F : Nat → Int) (i : Nat) : Int := if i < k then F i else 0
theorem mv_nil {n c : Nat} (W F : Nat → Int) (hn : 1 ≤ n) (hc : c < 6 * n * n) : mv n W (upF 0 F) c = W c := by
  have h := mv_back n W (fun _ => 0) c
  have g := mv_two n W (fun _ => 0) (fun i => -(fun _ => (0 : Int)) i) c
  rw [h] at g
  rw [g]
  exact mv_congr hn hc rfl (fun i _ => by simp [upF])
/-- one flow more -/
theorem mv_up {n k c : Nat} (W F : Nat → Int) (hn : 1 ≤ n) (hk : k < 12 * n * n) (hc : c < 6 * n * n) : mv n W (upF (k + 1) F) c = if c = edT n k / 4 then mv n W (upF k F) c - F k else if c = mt n (edT n k) / 4 then mv n W (upF k F) c + F k else mv n W (upF k F) c := by
  rw [← mv_one (q := F k) (mv n W (upF k F)) hn hk hc, mv_two]
  refine mv_congr hn hc rfl (fun i _ => ?_)
  unfold upF oneF
  by_cases a : i < k
  · rw [if_pos (by omega), if_pos a, if_neg (by omega)]; omega
  · by_cases b : i = k
    · subst b; rw [if_pos (by omega), if_neg (by omega), if_pos rfl]; omega
    · rw [if_neg (by omega), if_neg a, if_neg b]; omega
theorem mv_all {n c : Nat} (W F : Nat → Int) (hn : 1 ≤ n) (hc : c < 6 * n * n) : mv n W (upF (12 * n * n) F) c = mv n W F c :=
  mv_congr hn hc rfl (fun i hi => by unfold upF; rw [if_pos hi])
theorem sum_in {f : Nat → Int} : ∀ {l : Nat}, (∀ k, k < l → W64 (f k)) → -(9223372036854775808 * (l : Int)) ≤ sumN f l ∧ sumN f l ≤ 9223372036854775807 * (l : Int)
  | 0, _ => by unfold sumN; omega
  | l + 1, h => by
    have i := sum_in (l := l) (fun k hk => h k (by omega))
    have j := h l (by omega)
    unfold W64 at j
    show _ ≤ sumN f l + f l ∧ sumN f l + f l ≤ _
    omega
end Ms
end Go.Proofs.YtpfndibgfkkcgaaDoor

namespace Go.Proofs.YtpfndibgfkkcgaaDoor
open Go.RowKit Go.Deep Cu
namespace Ms
open Sh
set_option maxRecDepth 100000 in
set_option maxHeartbeats 4000000 in
theorem signs_at (n : Int) (w : World) (h : W64 n) : Calls Tryd.prog 38 #[.int .i64 n] w fun e w' => e = .returned (.int .u64 (sgW n)) ∧ w' = w := by
  unfold W64 at h
  obtain ⟨h1, h2⟩ := h
  by_cases c : n < 0
  · have e : n / 9223372036854775808 = -1 := by omega
    have e2 : sgW n = 18446744073709551615 := if_pos c
    rw [e2]
    go_enter Tryd.func38, Tryd.ntmps38
    go_wp2
    go_ret
    exact ⟨rfl, rfl⟩
  · have e : n / 9223372036854775808 = 0 := by omega
    have e2 : sgW n = 0 := if_neg c
    rw [e2]
    go_enter Tryd.func38, Tryd.ntmps38
    go_wp2
    go_ret
    exact ⟨rfl, rfl⟩
/-- the two blocks of a call of plus -/
def PlW (w wr : World) (y : Int) : Prop := wr.heap[w.heap.size]? = some (.cells #[.int .u64 (hiW y), .int .u64 (loW y)] 51) ∧ wr.heap[w.heap.size + 1]? = some (.cells #[.int .u64 0, .int .u64 0] 51) ∧ Below w.heap.size w wr
theorem frz2 {w : World} {b : Nat} {v1 v2 : Value} {T : TypeId} (h : w.heap[b]? = some (.cells #[v1, v2] T)) (k : Nat) : w.frozen? ⟨b, k, none⟩ = false := by
  have r : w.rowIs b T 2 (fun k => (#[v1, v2] : Array Value).getD k (.bool false)) := ⟨_, h, rfl, fun i hi => by
    match i, hi with
    | 0, _ => rfl
    | 1, _ => rfl⟩
  exact r.frozen k
theorem two_set {w : World} {b : Nat} {v1 v2 : Value} {T : TypeId} (h : w.heap[b]? = some (.cells #[v1, v2] T)) (a c : Value) : ((w.setCell ⟨b, 0, none⟩ a).setCell ⟨b, 1, none⟩ c).heap[b]? = some (.cells #[a, c] T) := one_set (one_set h)
theorem PlW.drewN {w wr : World} {y : Int} (h : PlW w wr y) (q : Nat) : PlW w (wr.drewN q) y := ⟨by simpa using h.1, by simpa using h.2.1, Ab.drewN h.2.2 q⟩
theorem PlW.put {w wr : World} {y : Int} (h : PlW w wr y) (z : Int) : PlW w ((wr.setCell ⟨w.heap.size, 0, none⟩ (.int .u64 (hiW z))).setCell ⟨w.heap.size, 1, none⟩ (.int .u64 (loW z))) z :=
  ⟨one_set (one_set h.1), by rw [Below.heap_setCell _ _ _ _ (by simp), Below.heap_setCell _ _ _ _ (by simp)]; exact h.2.1, Ab.setk (Ab.setk h.2.2 (Nat.le_refl _) _) (Nat.le_refl _) _⟩
set_option maxRecDepth 100000 in
set_option maxHeartbeats 8000000 in
theorem plus_at (p : Option Addr) (n c : Nat) (f : Nat → Int) (x : Int) (w : World) (hn : n ≤ 9223372036854775807) (hf : Hid (IsI w p n f)) :
    Calls Tryd.prog 21 #[.agg #[.int .u64 (hiW x), .int .u64 (loW x)], .slice p n c] w fun e w' => e = .returned (.agg #[.int .u64 (hiW (x + sumN f n)), .int .u64 (loW (x + sumN f n))]) ∧ Below w.heap.size w w' := by
  have P0 : Hid (PlW w ((w.alloc (.cells #[.int .u64 (hiW x), .int .u64 (loW x)] 51)).alloc (.cells #[.int .u64 0, .int .u64 0] 51)) x) := ⟨heap_alloc2_old _ _ _, heap_alloc2_new _ _ _, bl2 _ _ _⟩
  go_enter Tryd.func21, Tryd.ntmps21
  go_wp2
  go_loopw [13] (fun kv wr => ∃ k : Nat, k ≤ n ∧ kv = .int .i64 (k : Nat) ∧ PlW w wr (x + sumN f k)) (fun kv _ => n - (intOf kv).toNat)
  case atStart =>
    refine ⟨0, by omega, rfl, ?_⟩
    rw [show x + sumN f 0 = x from Int.add_zero x]
    exact P0.out
  case round =>
    obtain ⟨k, hk, rfl, r1⟩ := hrel
    have R1 := hid r1
    clear r1 P0
    by_cases hlt : k < n
    · have hI := hf.out k hlt
      obtain ⟨hI1, b, o, rfl, hb, hc⟩ := hI
      have hw : W64 (f k) := hI1
      have c0 : wr.cell? ⟨b, o + k, none⟩ = some (.int .i64 (f k)) := by rw [← hc]; exact World.cell?_of_block (Below.block R1.out.2.2 b hb)
      have x0 := cell_of_row _ _ 0 _ _ _ R1.out.1
      have x1 := cell_of_row _ _ 1 _ _ _ R1.out.1
      have z0 := frz2 R1.out.1 0
      have z1 := frz2 R1.out.1 1
      have E1 : Hid (x + sumN f (k + 1) = x + sumN f k + f k) := by
        show x + (sumN f k + f k) = _
        omega
      have HL := hid hlt
      have kI : (k : Int) < n := by omega
      have nI : (n : Int) ≤ 9223372036854775807 := by omega
      generalize x + sumN f k = y at *
      generalize f k = q at *
      obtain ⟨cy, hcy⟩ : ∃ c, (loW y + wd q + 0) / 18446744073709551616 = c := ⟨_, rfl⟩
      have pc := plus_carry (x := y) hw
      have ph := plus_high (x := y) hw
      rw [hcy] at pc ph
      have A1 := run_add (loW y) (wd q) 0 (loW (y + q)) cy (loW_in y).1 (wd_in hw).1 (by omega) (by omega) (plus_low hw) hcy
      have A2 := run_add (hiW y) (sgW q) cy (hiW (y + q)) _ (hiW_in y).1 (sgW_in q).1 pc.1 pc.2 ph rfl
      have SG := hid (fun u => signs_at q u hw)
      have hwr := wd_wrap hw
      have y1 := loW_in y
      have y2 := hiW_in y
      have y3 := loW_in (y + q)
      have y4 := hiW_in (y + q)
      have y5 := wd_in hw
      have y6 := sgW_in q
      generalize (hiW y + sgW q + cy) / 18446744073709551616 = o2 at *
      clear hcy ph hI1 hc hf hw
      generalize hiW y = hy at *
      generalize loW y = ly at *
      generalize sgW q = sq at *
      generalize wd q = wq at *
      go_wp2_with fail
      go_quiet (first | (go_at_call 38; refine Calls.quiet_of_same (SG.out _)))
      go_wp2
      refine ⟨⟨k + 1, by have := HL.out; omega, by simp, ?_⟩, by have := HL.out; simp [intOf]; omega⟩
      rw [E1.out]
      exact (R1.out.drewN nq).put _
    · obtain rfl : k = n := by omega
      have x0 := cell_of_row _ _ 0 _ _ _ R1.out.1
      have x1 := cell_of_row _ _ 1 _ _ _ R1.out.1
      have z0 := frz2 R1.out.2.1 0
      have z1 := frz2 R1.out.2.1 1
      have v0 := cell_of_row _ _ 0 _ _ _ R1.out.2.1
      have v1 := cell_of_row _ _ 1 _ _ _ R1.out.2.1
      have y3 := loW_in (x + sumN f k)
      have y4 := hiW_in (x + sumN f k)
      obtain ⟨y, hy⟩ : ∃ y, x + sumN f k = y := ⟨_, rfl⟩
      rw [hy] at x0 x1 y3 y4
      have HY := hid hy
      clear hy
      go_wp2
      rw [HY.out]
      refine bodyPost_ret ?_ rfl ⟨rfl, ?_⟩
      · exact results_cell_row Tryd.results21 _ _ (w.heap.size + 1) _ _ (0, 0) _ rfl (two_set R1.out.2.1 _ _) Tryd.underlying51 rfl (by kernel_rfl)
      · exact Ab.setk (Ab.setk R1.out.2.2 (Nat.le_succ _) _) (Nat.le_succ _) _
set_option maxRecDepth 100000 in
set_option maxHeartbeats 8000000 in
theorem minus_at (x q : Int) (w : World) (hw : W64 q) :
    Calls Tryd.prog 34 #[.agg #[.int .u64 (hiW x), .int .u64 (loW x)], .int .i64 q] w fun e w' => e = .returned (.agg #[.int .u64 (hiW (x - q)), .int .u64 (loW (x - q))]) ∧ Below w.heap.size w w' := by
  have P0 : Hid (PlW w ((w.alloc (.cells #[.int .u64 (hiW x), .int .u64 (loW x)] 51)).alloc (.cells #[.int .u64 0, .int .u64 0] 51)) x) := ⟨heap_alloc2_old _ _ _, heap_alloc2_new _ _ _, bl2 _ _ _⟩
  obtain ⟨cy, hcy⟩ : ∃ c, bo (loW x) (wd q + 0) = c := ⟨_, rfl⟩
  have pc := bo_in (loW x) (wd q + 0)
  have ph := minus_high (x := x) hw
  rw [hcy] at pc ph
  have A1 := run_sub (loW x) (wd q) 0 (loW (x - q)) cy (loW_in x).1 (wd_in hw).1 (wd_in hw).2 (by omega) (by omega) (minus_low hw) hcy
  have A2 := run_sub (hiW x) (sgW q) cy (hiW (x - q)) _ (hiW_in x).1 (sgW_in q).1 (sgW_in q).2 pc.1 pc.2 ph rfl
  have SG := hid (fun u => signs_at q u hw)
  have hwr := wd_wrap hw
  have y1 := loW_in x
  have y2 := hiW_in x
  have y3 := loW_in (x - q)
  have y4 := hiW_in (x - q)
  have y5 := wd_in hw
  have y6 := sgW_in q
  generalize bo (hiW x) (sgW q + cy) = o2 at *
  clear hcy ph hw
  generalize loW (x - q) = lz at *
  generalize hiW (x - q) = hz at *
  generalize sgW q = sq at *
  generalize wd q = wq at *
  go_enter Tryd.func34, Tryd.ntmps34
  go_upto_region 1 with fail
  generalize World.alloc _ _ = W at *
  have x0 := cell_of_row _ _ 0 _ _ _ P0.out.1
  have x1 := cell_of_row _ _ 1 _ _ _ P0.out.1
  have v0 := cell_of_row _ _ 0 _ _ _ P0.out.2.1
  have v1 := cell_of_row _ _ 1 _ _ _ P0.out.2.1
  have z0 := frz2 P0.out.2.1 0
  have z1 := frz2 P0.out.2.1 1
  go_wp2_with fail
  go_quiet (first | (go_at_call 38; refine Calls.quiet_of_same (SG.out _)))
  go_wp2
  refine bodyPost_ret ?_ rfl ⟨rfl, ?_⟩
  · exact results_cell_row Tryd.results34 _ _ (w.heap.size + 1) _ _ (0, 0) _ rfl (two_set (P0.out.drewN nq).2.1 _ _) Tryd.underlying51 rfl (by kernel_rfl)
  · exact Ab.setk (Ab.setk (P0.out.drewN nq).2.2 (Nat.le_succ _) _) (Nat.le_succ _) _
set_option maxRecDepth 100000 in
set_option maxHeartbeats 8000000 in
theorem short_go (x s : Int) (sg : Int) (ok : Bool) (w : World) (hs : IntKind.i64.wrap (loW x) = s) (hok : (hiW x == sg) = ok) (SG : Hid (∀ u, Calls Tryd.prog 38 #[.int .i64 s] u fun e w' => e = .returned (.int .u64 sg) ∧ w' = u)) :
    Calls Tryd.prog 22 #[.agg #[.int .u64 (hiW x), .int .u64 (loW x)]] w fun e w' => e = .returned (.tuple #[.int .i64 s, .bool ok]) ∧ Below w.heap.size w w' := by
  have P0 : Hid ((w.alloc (.cells #[.int .u64 (hiW x), .int .u64 (loW x)] 51)).heap[w.heap.size]? = some (.cells #[.int .u64 (hiW x), .int .u64 (loW x)] 51)) := heap_alloc_new _ _
  have B0 : Hid (Ab w (w.alloc (.cells #[.int .u64 (hiW x), .int .u64 (loW x)] 51))) := bl1 _ _
  have y1 := loW_in x
  have y2 := hiW_in x
  generalize hiW x = hx at *
  generalize loW x = lx at *
  go_enter Tryd.func22, Tryd.ntmps22
  go_upto_region 1 with fail
  generalize World.alloc _ _ = W at *
  have x0 := cell_of_row _ _ 0 _ _ _ P0.out
  have x1 := cell_of_row _ _ 1 _ _ _ P0.out
  go_wp2_with fail
  go_quiet (first | (go_at_call 38; refine Calls.quiet_of_same (SG.out _)))
  go_wp2
  go_ret2
  exact ⟨rfl, Ab.drewN B0.out nq⟩
/-- A NUMBER OF 128 BITS AS ONE OF 64: it is one -/
theorem short_yes (x : Int) (w : World) (h : W64 x) : Calls Tryd.prog 22 #[.agg #[.int .u64 (hiW x), .int .u64 (loW x)]] w fun e w' => e = .returned (.tuple #[.int .i64 x, .bool true]) ∧ Below w.heap.size w w' := by
  obtain ⟨e1, e2⟩ := sh_of h
  have e3 := sh_wrap x
  rw [e1] at e2 e3
  exact short_go x x (sgW x) true w e3 (by rw [e2]; simp) (fun u => signs_at x u h)
theorem short_no (x : Int) (w : World) (h : ¬ W64 x) (a : -170141183460469231731687303715884105728 ≤ x) (b : x < 170141183460469231731687303715884105728) : Calls Tryd.prog 22 #[.agg #[.int .u64 (hiW x), .int .u64 (loW x)]] w fun e w' => e = .returned (.tuple #[.int .i64 (sh x), .bool false]) ∧ Below w.heap.size w w' :=
  short_go x (sh x) (sgW (sh x)) false w (sh_wrap x) (beq_eq_false_iff_ne.2 (sh_no h a b)) (fun u => signs_at _ u (sh_in x))
set_option maxRecDepth 100000 in
set_option maxHeartbeats 8000000 in
theorem total_go (pw : Option Addr) (lw cw : Nat) (pm : Option Addr) (lm cm : Nat) (h1 l1 h2 l2 s : Int) (ok : Bool) (w : World)
    (C1 : Hid (Calls Tryd.prog 21 #[.agg #[.int .u64 0, .int .u64 0], .slice pw lw cw] w fun e w' => e = .returned (.agg #[.int .u64 h1, .int .u64 l1]) ∧ Below w.heap.size w w'))
    (C2 : Hid (∀ u, Ab w u → Calls Tryd.prog 21 #[.agg #[.int .u64 h1, .int .u64 l1], .slice pm lm cm] u fun e w' => e = .returned (.agg #[.int .u64 h2, .int .u64 l2]) ∧ Below u.heap.size u w'))
    (C3 : Hid (∀ u, Calls Tryd.prog 22 #[.agg #[.int .u64 h2, .int .u64 l2]] u fun e w' => e = .returned (.tuple #[.int .i64 s, .bool ok]) ∧ Below u.heap.size u w')) :
    Calls Tryd.prog 10 #[.slice pw lw cw, .slice pm lm cm] w fun e w' => e = .returned (.tuple #[.int .i64 (if ok then s else 0), .int .i64 (if ok then 0 else 20)]) ∧ Below w.heap.size w w' := by
  cases ok
  · go_enter Tryd.func10, Tryd.ntmps10
    go_wp2_with fail
    refine C1.out.mono ?_
    rintro e9 w1 ⟨rfl, b1⟩
    have B1 : Hid (Ab w w1) := b1
    clear b1
    go_wp2_with fail
    refine (C2.out _ B1.out).mono ?_
    rintro e9 w2 ⟨rfl, b1⟩
    have B2 : Hid (Ab w w2) := B1.out.call b1
    clear b1
    go_wp2_with fail
    refine (C3.out _).mono ?_
    rintro e9 w3 ⟨rfl, b1⟩
    have B3 : Hid (Ab w w3) := B2.out.call b1
    clear b1
    go_wp2
    go_ret2
    exact ⟨rfl, B3.out⟩
  · go_enter Tryd.func10, Tryd.ntmps10
    go_wp2_with fail
    refine C1.out.mono ?_
    rintro e9 w1 ⟨rfl, b1⟩
    have B1 : Hid (Ab w w1) := b1
    clear b1
    go_wp2_with fail
    refine (C2.out _ B1.out).mono ?_
    rintro e9 w2 ⟨rfl, b1⟩
    have B2 : Hid (Ab w w2) := B1.out.call b1
    clear b1
    go_wp2_with fail
    refine (C3.out _).mono ?_
    rintro e9 w3 ⟨rfl, b1⟩
    have B3 : Hid (Ab w w3) := B2.out.call b1
    clear b1
    go_wp2
    go_ret2
    exact ⟨rfl, B3.out⟩
/-- TOTAL -/
theorem totalC : TotalC := by
  intro pw lw cw W pm lm cm M w hlw hlm iW iM
  have C1 := plus_at pw lw cw W 0 w (by omega) iW
  have C2 : ∀ u, Ab w u → _ := fun u (hu : Ab w u) => plus_at pm lm cm M (0 + sumN W lw) u (by omega) (iM.below hu)
  rw [Int.zero_add] at C1 C2
  have s1 := sum_in (f := W) (l := lw) (fun k hk => (iW k hk).1)
  have s2 := sum_in (f := M) (l := lm) (fun k hk => (iM k hk).1)
  constructor
  · intro h
    exact total_go pw lw cw pm lm cm _ _ _ _ _ true w C1 C2 (fun u => short_yes _ u h)
  · intro h
    exact total_go pw lw cw pm lm cm _ _ _ _ _ false w C1 C2 (fun u => short_no _ u h (by omega) (by omega))
end Ms
end Go.Proofs.YtpfndibgfkkcgaaDoor

namespace Go.Proofs.YtpfndibgfkkcgaaDoor
open Go.RowKit Go.Deep Cu
namespace Ms
open Sh
/-- sums in a block -/
def SumsAt (w : World) (g m : Nat) (X : Nat → Int) : Prop := w.rowIs g 51 (m * 2) (fun i => .int .u64 (if i % 2 = 0 then hiW (X (i / 2)) else loW (X (i / 2))))
theorem SumsAt.c0 {w : World} {g m k : Nat} {X : Nat → Int} (h : SumsAt w g m X) (hk : k < m) : w.cell? ⟨g, k * 2, none⟩ = some (.int .u64 (hiW (X k))) := by
  have e := h.cell (i := k * 2) (by omega)
  rw [e]
  have h1 : k * 2 % 2 = 0 := by omega
  have h2 : k * 2 / 2 = k := by omega
  simp [h1, h2]
theorem SumsAt.c1 {w : World} {g m k : Nat} {X : Nat → Int} (h : SumsAt w g m X) (hk : k < m) : w.cell? ⟨g, k * 2 + 1, none⟩ = some (.int .u64 (loW (X k))) := by
  have e := h.cell (i := k * 2 + 1) (by omega)
  rw [e]
  have h1 : (k * 2 + 1) % 2 = 1 := by omega
  have h2 : (k * 2 + 1) / 2 = k := by omega
  simp [h1, h2]
theorem SumsAt.to {w w' : World} {g m : Nat} {X : Nat → Int} (h : SumsAt w g m X) (a : Ab w w') : SumsAt w' g m X := rowIs.ab h a
theorem SumsAt.frz {w : World} {g m : Nat} {X : Nat → Int} (h : SumsAt w g m X) (k : Nat) : w.frozen? ⟨g, k, none⟩ = false := World.rowIs.frozen h k
/-- one number changed -/
def updX (X : Nat → Int) (c : Nat) (x : Int) (i : Nat) : Int := if i = c then x else X i
theorem SumsAt.put {w : World} {g m c : Nat} {X : Nat → Int} (h : SumsAt w g m X) (x : Int) : SumsAt ((w.setCell ⟨g, c * 2, none⟩ (.int .u64 (hiW x))).setCell ⟨g, c * 2 + 1, none⟩ (.int .u64 (loW x))) g m (updX X c x) := by
  refine ((World.rowIs.set h (c * 2) (.int .u64 (hiW x))).set (c * 2 + 1) (.int .u64 (loW x))).congr (fun i _ => ?_)
  have q1 : (c * 2) / 2 = c := by omega
  have q2 : (c * 2 + 1) / 2 = c := by omega
  have q3 : (c * 2 + 1) % 2 = 1 := by omega
  have q4 : (c * 2) % 2 = 0 := by omega
  unfold updX
  by_cases e1 : i = c * 2 + 1
  · subst e1
    simp [q2, q3]
  · by_cases e2 : i = c * 2
    · subst e2; simp [q1, q4]
    · have e3 : i / 2 ≠ c := by omega
      simp [e1, e2, e3]
theorem SumsAt.congr {w : World} {g m : Nat} {X Y : Nat → Int} (h : SumsAt w g m X) (e : ∀ c, c < m → X c = Y c) : SumsAt w g m Y :=
  World.rowIs.congr h (fun i hi => by rw [e (i / 2) (by omega)])
theorem row_ownM {B g cap n : Nat} {F : Nat → Value} {x : Nat → Int} {w : World} (h : w.rowIs g 2 cap F) (hB : B ≤ g) (hn : n ≤ cap) (hc : cap ≤ maxLen) (hF : ∀ i, i < n → F i = .int .i64 (x i)) : Own B (.slice (some ⟨g, 0, none⟩) n cap) ((List.range n).map x) w := by
  obtain ⟨c, hb, hs, hf⟩ := h
  refine ⟨by simp, .inr ⟨g, cap, c, by simp, hB, hb, by simpa using hn, hc, by omega, ?_⟩⟩
  apply List.ext_getElem?
  intro i
  rw [List.getElem?_take, List.length_map, List.length_range]
  by_cases hi : i < n
  · have e := hf i (by omega)
    rw [hF i hi] at e
    rw [if_pos (by omega)]
    rw [← Array.getElem?_toList] at e
    rw [e]
    simp [hi]
  · rw [if_neg (by omega), List.getElem?_eq_none (by simp; omega)]
/-- a cell can have that -/
def gd (x : Int) : Prop := 0 ≤ x ∧ x ≤ 9223372036854775807
set_option maxRecDepth 100000 in
set_option maxHeartbeats 8000000 in
theorem held_at (g m : Nat) (X : Nat → Int) (w : World) (hm : m ≤ 65536) (S : Hid (SumsAt w g m X)) (hX : Hid (∀ k, k < m → -170141183460469231731687303715884105728 ≤ X k ∧ X k < 170141183460469231731687303715884105728)) :
    Calls Tryd.prog 35 #[.slice (some ⟨g, 0, none⟩) m m] w fun e w' => Below w.heap.size w w' ∧ (((∀ k, k < m → gd (X k)) ∧ ∃ v, e = .returned (.tuple #[v, .int .i64 0]) ∧ Own w.heap.size v ((List.range m).map X) w') ∨ ((¬ ∀ k, k < m → gd (X k)) ∧ e = .returned (.tuple #[.slice none 0 0, .int .i64 20]))) := by
  have MK := run_make_row' (P := Tryd.prog) 22 2 (.int .i64 0) 8 Tryd.underlying22 info64 rfl .i64 .i64 m (by omega) (by omega) w
  have MB := hid hm
  clear hm
  obtain ⟨ob, hob⟩ : ∃ b, w.heap.size = b := ⟨_, rfl⟩
  have RW : Hid ((w.alloc (.cells (madeCells #[.int .i64 0] m) 2)).rowIs ob 2 m (fun _ => .int .i64 0)) := by
    have h := World.rowIs_made w (.int .i64 0) m 2
    rw [hob] at h
    exact h
  have A0 : Hid (Ab w (w.alloc (.cells (madeCells #[.int .i64 0] m) 2))) := bl1 w _
  have HO : Hid (w.heap.size ≤ ob) := Nat.le_of_eq hob
  generalize w.alloc (.cells (madeCells #[.int .i64 0] m) 2) = wm at *
  go_enter Tryd.func35, Tryd.ntmps35
  go_wp2
  clear MK hob
  go_loopw [14] (fun iv wr => ∃ k : Nat, k ≤ m ∧ iv = .int .i64 (k : Nat) ∧ Ab w wr ∧ wr.rowIs ob 2 m (fun i => .int .i64 (if i < k then X i else 0)) ∧ ∀ j, j < k → gd (X j)) (fun iv _ => m - (intOf iv).toNat)
  case atStart => exact ⟨0, by omega, rfl, A0.out, RW.out.congr (fun i _ => by simp), fun j hj => absurd hj (by omega)⟩
  case round =>
    obtain ⟨k, hk, rfl, a1, r1, g1⟩ := hrel
    have AR := hid a1
    have RR := hid r1
    have GR := hid g1
    clear a1 r1 g1 A0 RW
    by_cases hkm : k < m
    · have HK := hid hkm
      have kI : (k : Int) < m := by omega
      have kB : (k : Int) ≤ 65536 := by have := MB.out; omega
      have s1 := S.out.to AR.out
      have x0 := s1.c0 hkm
      have x1 := s1.c1 hkm
      have y1 := loW_in (X k)
      have y2 := hiW_in (X k)
      have HR := hX.out k hkm
      obtain ⟨x, hx⟩ : ∃ x, X k = x := ⟨_, rfl⟩
      rw [hx] at x0 x1 y1 y2 HR
      have HX := hid hx
      clear hx s1 hkm hk
      by_cases w1 : W64 x
      · have C := hid (fun u => short_yes x u w1)
        have wI := w1
        unfold W64 at wI
        go_wp2_with fail
        refine (C.out _).mono ?_
        rintro e9 v1 ⟨rfl, b1⟩
        have A1 : Hid (Ab w v1) := ((AR.out : Ab w wr).trans (bl1 wr _)).call b1
        have R1 := hid (rowIs.ab (rowIs.ab RR.out (bl1 wr _)) b1)
        have f1 := R1.out.cell (i := k) HK.out
        have f2 := R1.out.frozen k
        clear b1 C x0 x1 AR RR
        by_cases p : 0 ≤ x
        · have d : decide (x < 0) = false := decide_eq_false (by omega)
          have G1 : Hid (gd (X k)) := by rw [HX.out]; exact ⟨p, wI.2⟩
          clear p
          go_wp2
          refine ⟨⟨k + 1, by have := HK.out; omega, by simp, Ab.setk A1.out HO.out _, (R1.out.set k (.int .i64 x)).congr (fun i _ => ?_), fun j hj => ?_⟩, by have := HK.out; simp [intOf]; omega⟩
          · by_cases e : i = k
            · subst e; simp [HX.out]
            · have e3 : (i < k + 1) ↔ i < k := by omega
              simp [e, e3]
          · by_cases e : j = k
            · subst e; exact G1.out
            · exact GR.out j (by omega)
        · have d : decide (x < 0) = true := decide_eq_true (by omega)
          have G1 : Hid (¬ gd (X k)) := by rw [HX.out]; exact fun h => p h.1
          clear p
          go_wp2
          go_ret2
          exact ⟨A1.out, .inr ⟨fun h => G1.out (h k HK.out), rfl⟩⟩
      · have C := hid (fun u => short_no x u w1 HR.1 HR.2)
        have G1 : Hid (¬ gd (X k)) := by rw [HX.out]; exact fun h => w1 ⟨by have := h.1; omega, h.2⟩
        clear w1 HR
        go_wp2_with fail
        refine (C.out _).mono ?_
        rintro e9 v1 ⟨rfl, b1⟩
        have A1 : Hid (Ab w v1) := ((AR.out : Ab w wr).trans (bl1 wr _)).call b1
        have R1 := hid (rowIs.ab (rowIs.ab RR.out (bl1 wr _)) b1)
        clear b1 C x0 x1 AR RR
        go_wp2
        go_ret2
        exact ⟨A1.out, .inr ⟨fun h => G1.out (h k HK.out), rfl⟩⟩
    · obtain rfl : k = m := by omega
      go_wp2
      go_ret2
      exact ⟨AR.out, .inl ⟨GR.out, _, rfl, row_ownM RR.out HO.out (Nat.le_refl _) (by unfold maxLen; have := MB.out; omega) (fun i hi => by simp [hi])⟩⟩
end Ms
end Go.Proofs.YtpfndibgfkkcgaaDoor

namespace Go.Proofs.YtpfndibgfkkcgaaDoor
open Go.RowKit
/-- each of the first n operations waits for earlier ones alone, and asks earlier ones alone whether it is wanted -/
def backB (md : Region.Mode) (ops : Array Oper) (n : Nat) : Bool :=
  (List.range n).all fun i => match ops[i]? with
    | some o => o.after.all (fun e => !Region.binds md e || decide (e.on < i)) && (match o.guard with | none => true | some (j, _) => decide (j < n))
    | none => true
/-- the first n are done, no other -/
def finA (m n : Nat) : Array Bool := Array.replicate n true ++ Array.replicate (m - n) false
theorem back_spec {md : Region.Mode} {ops : Array Oper} {n : Nat} (h : backB md ops n = true) {i : Nat} {o : Oper} (hi : i < n) (ho : ops[i]? = some o) :
    (∀ e ∈ o.after, Region.binds md e = true → e.on < i) ∧ (∀ j b, o.guard = some (j, b) → j < n) := by
  have a := List.all_eq_true.1 h i (List.mem_range.2 hi)
  simp only [ho, Bool.and_eq_true] at a
  refine ⟨fun e he hb => ?_, fun j b hg => ?_⟩
  · have := Array.all_eq_true_iff_forall_mem.1 a.1 e he
    simpa [hb] using this
  · have := a.2
    rw [hg] at this
    simpa using this
theorem getD_tf {l : Array Bool} {i : Nat} (h : i < l.size) (d d' : Bool) : l.getD i d = l.getD i d' := by simp [h]
theorem wpAny_more {P : Program} {md : Region.Mode} {ops : Array Oper} {Q : Exit → Act → World → Prop} : ∀ (g k : Nat) (listed : Array Bool) (a : Act) (w : World), wpAny P md ops Q g listed a w → wpAny P md ops Q (g + k) listed a w
  | 0, 0, _, _, _, h => h
  | 0, k + 1, listed, a, w, h => by
    rw [Nat.zero_add]
    exact ⟨fun _ => h.2, fun i hi => by rw [h.1] at hi; cases hi⟩
  | g + 1, k, listed, a, w, h => by
    rw [show g + 1 + k = (g + k) + 1 by omega]
    exact ⟨h.1, fun i hi => wpOp_mono (fun a' w' h' => wpAny_more g k _ a' w' h') (h.2 i hi)⟩
section
variable {P : Program} {md : Region.Mode} {ops hd : Array Oper} {C : World → Prop} {n : Nat}
theorem ready_head (hhd : ∀ i, i < n → hd[i]? = ops[i]?) (hb : backB md ops n = true) {listed lh : Array Bool} (hl : lh.size = n) (hls : n ≤ listed.size) (he : ∀ i, i < n → lh.getD i true = listed.getD i true) {i : Nat} (hi : i < n) :
    i ∈ Region.ready md hd lh ↔ i ∈ Region.ready md ops listed := by
  rw [mem_ready, mem_ready, he i hi, hhd i hi]
  refine and_congr Iff.rfl (exists_congr fun o => and_congr_right fun ho => forall_congr' fun e => forall_congr' fun hm => forall_congr' fun hbd => ?_)
  have lt := (back_spec hb hi ho).1 e hm hbd
  rw [getD_tf (d := false) (d' := true) (by omega), getD_tf (l := listed) (d := false) (d' := true) (by omega), he _ (by omega)]
theorem some_ready (hsz : n ≤ ops.size) (hb : backB md ops n = true) {listed : Array Bool} (hls : n ≤ listed.size) :
    (∀ i, i < n → listed.getD i true = true) ∨ ∃ i, i < n ∧ i ∈ Region.ready md ops listed := by
  have key : ∀ k, k ≤ n → (∀ i, i < k → listed.getD i true = true) ∨ ∃ i, i < n ∧ i ∈ Region.ready md ops listed := by
    intro k
    induction k with
    | zero => exact fun _ => .inl (fun i hi => by omega)
    | succ k ih =>
      intro hk
      rcases ih (by omega) with h | h
      · cases c : listed.getD k true
        · right
          refine ⟨k, by omega, mem_ready.2 ⟨c, ops[k]'(by omega), by simp, fun e he hbd => ?_⟩⟩
          have lt := (back_spec hb (i := k) (o := ops[k]'(by omega)) (by omega) (by simp)).1 e he hbd
          rw [getD_tf (d := false) (d' := true) (by omega)]
          exact h _ lt
        · left
          intro i hi
          by_cases e : i = k
          · rw [e]; exact c
          · exact h i (by omega)
      · exact .inr h
  exact key n (Nat.le_refl _)
theorem qOp_head (hhd : ∀ i, i < n → hd[i]? = ops[i]?) (hb : backB md ops n = true) {i : Nat} (hi : i < n) {K : Act → Prop} {a : Act} (h : qOp P hd C i K a) : qOp P ops C i K a := by
  unfold qOp at *
  rw [hhd i hi] at h
  cases ho : ops[i]? with
  | none => rw [ho] at h; exact h
  | some o =>
    rw [ho] at h
    have e : Region.wanted o (yielded hd a.tmps) = Region.wanted o (yielded ops a.tmps) := by
      unfold Region.wanted
      cases hg : o.guard with
      | none => rfl
      | some jb =>
        obtain ⟨j, b⟩ := jb
        have lt := (back_spec hb hi ho).2 j b hg
        show (yielded hd a.tmps j == some b) = (yielded ops a.tmps j == some b)
        unfold yielded
        rw [hhd j lt]
    simp only [e] at h
    exact h
theorem fin_of {listed : Array Bool} (hn : n < ops.size) (inv : HeadInv md ops n listed) (h : ∀ i, i < n → listed.getD i true = true) : listed = finA ops.size n := by
  have s := inv.size
  unfold finA
  refine Array.ext (by simp; omega) fun i h1 h2 => ?_
  by_cases c : i < n
  · have := h i c
    rw [Array.getElem_append_left (by simpa using c)]
    simp [h1] at this
    simpa using this
  · have := inv.tail i (by omega) (by omega)
    rw [Array.getElem_append_right (by simp; omega)]
    simp [h1] at this
    simpa using this
theorem wpAny_of_headQ {g : Nat} {Q1 : Act → Prop} {Q' : Exit → Act → World → Prop} (hhd : ∀ i, i < n → hd[i]? = ops[i]?) (hsz : hd.size = n) (hn : n < ops.size) (hb : backB md ops n = true) (hs : Region.sinkB md ops n = true) (hc : Region.chainB md ops n = true)
    (hL : ∀ a w, C w → Q1 a → wpAny P md ops Q' g (finA ops.size n) a w) :
    ∀ (fuel : Nat) (listed lh : Array Bool) (a : Act) (w : World), C w → HeadInv md ops n listed → lh.size = n → (∀ i, i < n → lh.getD i true = listed.getD i true) →
      wpAnyQ P md hd C Q1 fuel lh a → wpAny P md ops Q' (fuel + g) listed a w := by
  intro fuel
  induction fuel with
  | zero =>
    intro listed lh a w hC inv hl he h
    have hls : n ≤ listed.size := by rw [inv.size]; omega
    rcases some_ready (by omega) hb hls with all | ⟨i, hi, hr⟩
    · rw [Nat.zero_add, fin_of hn inv all]
      exact hL a w hC h.2
    · have := (ready_head hhd hb hl hls he hi).2 hr
      rw [h.1] at this
      cases this
  | succ fuel ih =>
    intro listed lh a w hC inv hl he h
    have hls : n ≤ listed.size := by rw [inv.size]; omega
    rcases some_ready (by omega) hb hls with all | ⟨i0, hi0, hr0⟩
    · have no : Region.ready md hd lh = [] := by
        rw [List.eq_nil_iff_forall_not_mem]
        intro i hi
        obtain ⟨u, o, ho, _⟩ := mem_ready.1 hi
        have lt : i < n := by rw [← hsz]; exact (Array.getElem?_eq_some_iff.1 ho).1
        rw [he i lt, all i lt] at u
        cases u
      rw [Nat.add_comm (fuel + 1) g, fin_of hn inv all]
      exact wpAny_more g (fuel + 1) _ a w (hL a w hC (h.1 no))
    · rw [show fuel + 1 + g = (fuel + g) + 1 by omega]
      refine ⟨fun h0 => (by rw [h0] at hr0; cases hr0), fun i hi => ?_⟩
      have lt : i < n := by
        by_cases c : i < n
        · exact c
        · exact absurd hi (tail_waits hs hc hn inv _ i0 rfl hi0 (mem_ready.1 hr0).1 i (by omega))
      have hq := qOp_head hhd hb lt (h.2 i ((ready_head hhd hb hl hls he lt).2 hi))
      refine wpOp_of_qOp hC (fun a' w' hC' h' => ih _ _ a' w' hC' (inv.set hi lt) (by simp [hl]) (fun j hj => ?_) h') hq
      by_cases e : i = j
      · subst e
        simp [hl, lt, show i < listed.size by omega]
      · rw [getD_set_ne true e, getD_set_ne true e, he j hj]
end
/-- what is asked of the region's text -/
def tailB (ops : Array Oper) (n : Nat) : Bool :=
  decide (n < ops.size) && backB .any ops n && Region.sinkB .any ops n && Region.chainB .any ops n && Region.seqB .any ops (ops.size - n) n (finA ops.size n)
theorem region_tail {P : Program} {id : Nat} {Q : Exit → Act → World → Prop} {a : Act} {w : World} {l : List Oper} {U : Type} (n : Nat) (F : U → World) (hm : P.follows .mixedOrders = true) (hB : Region.lexB .any (l.take n).toArray = true) (hT : tailB l.toArray n = true)
    (hC : ∃ u, w.drew = F u)
    (h : wpQuiet P (l.take n).toArray (fun w' => ∃ u, w' = F u) (fun a' => ∀ w', (∃ u, w' = F u) → wpList P l.toArray Q (l.drop n) a' w') (l.take n) a) : (Code.region id l.toArray true).wp P Q a w := by
  simp only [tailB, Bool.and_eq_true, decide_eq_true_eq] at hT
  obtain ⟨⟨⟨⟨hn, hb⟩, hs⟩, hc⟩, hq⟩ := hT
  have hn' : n < l.length := by simpa using hn
  have htl : (l.take n).toArray.size = n := by simp; omega
  have hdl : (l.drop n).length = l.toArray.size - n := by simp
  refine wp_region_any hm ?_
  simp only [Region.lexB, Bool.and_eq_true] at hB
  have H := wpAnyQ_lex (P := P) (C := fun w' => ∃ u, w' = F u) (md := .any) hB.1 (l.take n) 0 (Array.replicate (l.take n).toArray.size false) a (by simp) (by simpa using hB.2) h
  have inv0 : HeadInv .any l.toArray n (Array.replicate l.toArray.size false) :=
    ⟨by simp, fun j oj _ hl => (by rw [getD_replicate_false] at hl; cases hl), fun t _ ht => getD_in (by simpa using ht) (getD_replicate_false _ _)⟩
  have := wpAny_of_headQ (P := P) (Q' := Q) (g := l.toArray.size - n) (hd := (l.take n).toArray) (ops := l.toArray) (fun i hi => by simp [hi]) htl hn hb hs hc
    (fun a' w' hC' h' => by
      have := wpAny_of_seq (P := P) (md := .any) (ops := l.toArray) (Q' := Q) (l.drop n) n (finA l.toArray.size n) a' w' (fun j => by simp) (by rw [hdl]; exact hq) (h' w' hC')
      rwa [hdl] at this)
    (l.take n).length _ _ a w.drew hC inv0 (by simpa using htl) (fun i hi => by
      rw [getD_in (listed := Array.replicate l.toArray.size false) (by simp; omega) (getD_replicate_false _ _)]
      exact getD_in (by rw [Array.size_replicate]; omega) (getD_replicate_false _ _)) H
  have e : (l.take n).length + (l.toArray.size - n) = l.toArray.size := by simp; omega
  rw [e] at this
  exact this
end Go.Proofs.YtpfndibgfkkcgaaDoor

namespace Go.Proofs.YtpfndibgfkkcgaaDoor
open Go.RowKit Go.Deep Cu
namespace Ms
open Sh
theorem infoW : (Tryd.prog.info? 51).map (fun i => (i.zero, i.size, i.bytes)) = some (some (.agg #[.int .u64 0, .int .u64 0]), 2, 16) := by kernel_rfl
theorem made_w (w : World) (N : Nat) : SumsAt (w.alloc (.cells (madeCells #[.int .u64 0, .int .u64 0] (N * 2)) 51)) w.heap.size N (fun _ => 0) := by
  refine ⟨_, heap_alloc_new _ _, size_madeCells _ _, fun i hi => ?_⟩
  have h2 : i % 2 = 0 ∨ i % 2 = 1 := by omega
  have e1 : hiW 0 = 0 := rfl
  have e2 : loW 0 = 0 := rfl
  rcases h2 with h2 | h2 <;> simp [madeCells, hi, h2, e1, e2]
/-- a number more -/
theorem plus_one (b : Nat) (y q : Int) (u : World) (hq : W64 q) (h : u.heap[b]? = some (.cells #[.int .i64 q] 2)) :
    Calls Tryd.prog 21 #[.agg #[.int .u64 (hiW y), .int .u64 (loW y)], .slice (some ⟨b, 0, none⟩) 1 1] u fun e w' => e = .returned (.agg #[.int .u64 (hiW (y + q)), .int .u64 (loW (y + q))]) ∧ Below u.heap.size u w' := by
  have i : IsI u (some ⟨b, 0, none⟩) 1 (fun _ => q) := fun k hk => by
    obtain rfl : k = 0 := by omega
    exact ⟨hq, b, 0, rfl, lt_of_block h, cell_of_row _ _ 0 _ _ _ h⟩
  have := plus_at (some ⟨b, 0, none⟩) 1 1 (fun _ => q) y u (by omega) i
  rw [show sumN (fun _ => q) 1 = q by show (0 : Int) + q = q; omega] at this
  exact this
theorem own_low {B C : Nat} {v : Value} {l : List Int} {w : World} (h : Own B v l w) (hc : C ≤ B) : Own C v l w := by
  refine ⟨h.1, ?_⟩
  rcases h.2 with h0 | ⟨g, cap, cur, e, hb', hg, h1, h2, h3, h4⟩
  · exact .inl h0
  · exact .inr ⟨g, cap, cur, e, Nat.le_trans hc hb', hg, h1, h2, h3, h4⟩
set_option maxRecDepth 100000 in
set_option maxHeartbeats 16000000 in
theorem move_go (gb wb wo M cw fb fo N cf : Nat) (W F : Nat → Int) (L R sL sR : Nat → Nat) (Z : Nat → Nat → Int) (w : World) (hM : M ≤ 65536) (hN : N ≤ 65536)
    (CE : Hid (∀ v, Ab w v → Calls Tryd.prog 14 #[.pointer (some ⟨gb, 0, none⟩)] v fun e w' => e = .returned (.int .i64 (M : Nat)) ∧ w' = v))
    (ED : Hid (∀ v, Ab w v → Calls Tryd.prog 15 #[.pointer (some ⟨gb, 0, none⟩)] v fun e w' => e = .returned (.int .i64 (N : Nat)) ∧ w' = v))
    (EG : Hid (∀ k : Nat, k < N → ∀ v, Ab w v → Calls Tryd.prog 19 #[.pointer (some ⟨gb, 0, none⟩), .int .i64 (k : Nat)] v fun e w' => e = .returned (.tuple #[.agg #[.int .i64 (L k : Nat), .int .i64 (sL k : Nat), .int .i64 (R k : Nat), .int .i64 (sR k : Nat)], .bool true]) ∧ Below v.heap.size v w'))
    (IW : Hid (IsI w (some ⟨wb, wo, none⟩) M W)) (IF : Hid (IsI w (some ⟨fb, fo, none⟩) N F))
    (LR : Hid (∀ k, k < N → L k < M ∧ R k < M ∧ L k ≠ R k))
    (Z0 : Hid (∀ c, c < M → Z 0 c = W c))
    (ZS : Hid (∀ k, k < N → ∀ c, c < M → Z (k + 1) c = if c = L k then Z k c - F k else if c = R k then Z k c + F k else Z k c))
    (ZB : Hid (∀ c, c < M → -170141183460469231731687303715884105728 ≤ Z N c ∧ Z N c < 170141183460469231731687303715884105728)) :
    Calls Tryd.prog 13 #[.pointer (some ⟨gb, 0, none⟩), .slice (some ⟨wb, wo, none⟩) M cw, .slice (some ⟨fb, fo, none⟩) N cf] w fun e w' => Below w.heap.size w w' ∧ (((∀ k, k < M → gd (Z N k)) ∧ ∃ v, e = .returned (.tuple #[v, .int .i64 0]) ∧ Own w.heap.size v ((List.range M).map (Z N)) w') ∨ ((¬ ∀ k, k < M → gd (Z N k)) ∧ e = .returned (.tuple #[.slice none 0 0, .int .i64 20]))) := by
  obtain ⟨i0, hi, hz0, hz1, hz2⟩ := info_parts infoW
  have MK := run_make (P := Tryd.prog) w 74 51 i0 (.agg #[.int .u64 0, .int .u64 0]) Tryd.underlying74 hi hz0 .i64 .i64 M M (by omega) (Int.le_refl _) (by rw [hz2]; omega) (by omega)
  rw [hz1] at MK
  simp only [Int.toNat_natCast] at MK
  have e0 : (Value.agg #[.int .u64 0, .int .u64 0]).cells = #[.int .u64 0, .int .u64 0] := rfl
  rw [e0] at MK
  clear hi hz0 hz1 hz2 e0
  have MB := hid hM
  have NB := hid hN
  clear hM hN
  obtain ⟨ob, hob⟩ : ∃ b, w.heap.size = b := ⟨_, rfl⟩
  have RW : Hid (SumsAt (w.alloc (.cells (madeCells #[.int .u64 0, .int .u64 0] (M * 2)) 51)) ob M (fun _ => 0)) := by rw [← hob]; exact made_w _ _
  have A0 : Hid (Ab w (w.alloc (.cells (madeCells #[.int .u64 0, .int .u64 0] (M * 2)) 51))) := bl1 w _
  have HO : Hid (w.heap.size ≤ ob) := Nat.le_of_eq hob
  generalize w.alloc (.cells (madeCells #[.int .u64 0, .int .u64 0] (M * 2)) 51) = wm at *
  go_enter Tryd.func13, Tryd.ntmps13
  go_wp2_with fail
  refine (CE.out _ (Ab.refl _)).mono ?_
  rintro e9 v9 ⟨rfl, hv9⟩
  have hv8 := hv9.symm
  subst hv8
  go_wp2_with fail
  refine (ED.out _ (Ab.refl _)).mono ?_
  rintro e9 v9 ⟨rfl, hv9⟩
  have hv8 := hv9.symm
  subst hv8
  go_wp2
  clear MK hob CE ED
  go_loopw [34] (fun iv wr => ∃ k : Nat, k ≤ M ∧ iv = .int .i64 (k : Nat) ∧ Ab w wr ∧ SumsAt wr ob M (fun c => if c < k then W c else 0)) (fun iv _ => M - (intOf iv).toNat)
  case atStart => exact ⟨0, by omega, rfl, A0.out, RW.out.congr (fun i _ => by simp)⟩
  case round =>
    obtain ⟨k, hk, rfl, a1, r1⟩ := hrel
    have AR := hid a1
    have RR := hid r1
    clear a1 r1 A0 RW
    by_cases hkm : k < M
    · have HK := hid hkm
      have kI : (k : Int) < M := by omega
      have kB : (k : Int) ≤ 65536 := by have := MB.out; omega
      obtain ⟨hq, -, hc⟩ := (IW.out.below AR.out).at0 hkm
      have x0 := RR.out.c0 hkm
      have x1 := RR.out.c1 hkm
      rw [if_neg (by omega)] at x0 x1
      obtain ⟨q, hx⟩ : ∃ x, W k = x := ⟨_, rfl⟩
      rw [hx] at hq hc
      have C := hid (plus_one wr.heap.size 0 q (wr.alloc (.cells #[.int .i64 q] 2)) hq (heap_alloc_new _ _))
      rw [Int.zero_add] at C
      have HX := hid hx
      clear hx hkm hk
      have y1 := loW_in q
      have y2 := hiW_in q
      have e1 : hiW 0 = 0 := rfl
      have e2 : loW 0 = 0 := rfl
      rw [e1] at x0 C
      rw [e2] at x1 C
      go_wp2_with fail
      refine C.out.mono ?_
      rintro e9 v1 ⟨rfl, b1⟩
      have A1 : Hid (Ab w v1) := ((AR.out : Ab w wr).trans (bl1 wr _)).call b1
      have R1 := hid ((RR.out.to (bl1 wr _)).to b1)
      have f0 := R1.out.c0 HK.out
      have f1 := R1.out.c1 HK.out
      have z0 := R1.out.frz (k * 2)
      have z1 := R1.out.frz (k * 2 + 1)
      clear b1 C x0 x1 AR RR e1 e2
      go_wp2
      refine ⟨⟨k + 1, by have := HK.out; omega, by simp, Ab.setk (Ab.setk A1.out HO.out _) HO.out _, (R1.out.put (c := k) q).congr (fun i _ => ?_)⟩, by have := HK.out; simp [intOf]; omega⟩
      unfold updX
      by_cases e : i = k
      · subst e; simp [HX.out]
      · have e3 : (i < k + 1) ↔ i < k := by omega
        simp [e, e3]
    · obtain rfl : k = M := by omega
      have RZ : Hid (SumsAt wr ob k (Z 0)) := RR.out.congr (fun c hc => by rw [if_pos hc, Z0.out c hc])
      clear RR
      go_wp2
      go_loopw [52] (fun iv wr => ∃ j : Nat, j ≤ N ∧ iv = .int .i64 (j : Nat) ∧ Ab w wr ∧ SumsAt wr ob k (Z j)) (fun iv _ => N - (intOf iv).toNat)
      case atStart => exact ⟨0, by omega, rfl, AR.out, RZ.out⟩
      case round =>
        obtain ⟨j, hj, rfl, a1, r1⟩ := hrel
        have AS := hid a1
        have RS := hid r1
        clear a1 r1 RZ AR
        by_cases hjn : j < N
        · have HJ := hid hjn
          have jI : (j : Int) < N := by omega
          have jB : (j : Int) ≤ 65536 := by have := NB.out; omega
          obtain ⟨hq, -, hc⟩ := (IF.out.below AS.out).at0 hjn
          obtain ⟨l1, l2, l3⟩ := LR.out j hjn
          have CG := hid (EG.out j hjn wr AS.out)
          have ZN := hid (ZS.out j hjn)
          obtain ⟨q, hx⟩ : ∃ x, F j = x := ⟨_, rfl⟩
          rw [hx] at hq hc ZN
          generalize L j = lc at *
          generalize R j = rc at *
          generalize sL j = sl at *
          generalize sR j = sr at *
          have LC := hid l1
          have RC := hid l2
          have NE := hid l3
          have lI : (lc : Int) < k := by omega
          have rI : (rc : Int) < k := by omega
          have kB : (k : Int) ≤ 65536 := by have := MB.out; omega
          have HQ : Hid (W64 q) := hq
          clear hx hjn hj l1 l2 l3
          go_wp2_with fail
          refine CG.out.mono ?_
          rintro e9 v1 ⟨rfl, b1⟩
          have A1 : Hid (Ab w v1) := (AS.out : Ab w wr).call b1
          have R1 := hid (RS.out.to b1)
          clear b1 CG AS RS hc
          go_wp2_with fail
          obtain ⟨V, hV⟩ : ∃ V, v1.alloc (.cells #[.int .i64 (lc : Nat), .int .i64 (sl : Nat), .int .i64 (rc : Nat), .int .i64 (sr : Nat)] 41) = V := ⟨_, rfl⟩
          rw [hV]
          obtain ⟨eb, heb⟩ : ∃ b, v1.heap.size = b := ⟨_, rfl⟩
          have EB : Hid (V.heap[eb]? = some (.cells #[.int .i64 (lc : Nat), .int .i64 (sl : Nat), .int .i64 (rc : Nat), .int .i64 (sr : Nat)] 41)) := by rw [← hV, ← heb]; exact heap_alloc_new _ _
          have AV : Hid (Ab w V) := by rw [← hV]; exact (A1.out : Ab w v1).trans (bl1 v1 _)
          have RV : Hid (SumsAt V ob k (Z j)) := by rw [← hV]; exact R1.out.to (bl1 v1 _)
          have NEB : Hid (ob ≠ eb) := by have := World.rowIs.lt R1.out; show _ ≠ _; omega
          rw [heb]
          clear hV heb A1 R1
          obtain ⟨y, hy⟩ : ∃ y, Z j lc = y := ⟨_, rfl⟩
          have HY := hid hy
          have CM := hid (fun u => minus_at y q u HQ.out)
          obtain ⟨UU, E, hF1, hF2⟩ := cls V
          have HU := hid hF2
          have HU1 := hid hF1
          have x0 : ∀ u, (E u).cell? ⟨eb, 0, none⟩ = some (.int .i64 (lc : Nat)) := fun u => cell_of_row _ _ 0 _ _ _ ((hF1 u).heap EB.out)
          have x1 : ∀ u, (E u).cell? ⟨ob, lc * 2, none⟩ = some (.int .u64 (hiW y)) := fun u => by rw [← hy]; exact (RV.out.to (hF1 u)).c0 LC.out
          have x2 : ∀ u, (E u).cell? ⟨ob, lc * 2 + 1, none⟩ = some (.int .u64 (loW y)) := fun u => by rw [← hy]; exact (RV.out.to (hF1 u)).c1 LC.out
          have DD0 := HU.out _ (Ab.refl V).drew
          have y1 := loW_in y
          have y2 := hiW_in y
          have y3 := loW_in (y - q)
          have y4 := hiW_in (y - q)
          clear hF1 hF2 hy
          refine region_tail 11 E (by kernel_rfl) (by kernel_rfl) (by kernel_rfl) DD0 ?_
          simp only [List.take_succ_cons, List.take_zero, List.drop_succ_cons, List.drop_zero]
          repeat (go_big_quiet_step (first
            | (with_reducible rfl)
            | (go_at_call 34; exact calls_cls HU HU1 (CM.out _))))
          refine wpQuiet_nil ?_
          intro vz hwz
          obtain ⟨u0, hu⟩ := hwz
          have AZ : Hid (Ab V vz) := by rw [hu]; exact HU1.out u0
          clear hu u0
          clear HU HU1 DD0 x0 x1 x2
          clear E UU
          have RZ := hid (RV.out.to AZ.out)
          have EZ := hid (Ab.heap AZ.out EB.out)
          have AW : Hid (Ab w vz) := (AV.out : Ab w V).trans AZ.out
          have f0 := RZ.out.c0 LC.out
          have f1 := RZ.out.c1 LC.out
          have z0 := RZ.out.frz (lc * 2)
          have z1 := RZ.out.frz (lc * 2 + 1)
          clear RV EB AV AZ
          go_wp2_with fail
          have R2 : Hid (SumsAt ((vz.setCell ⟨ob, lc * 2, none⟩ (.int .u64 (hiW (y - q)))).setCell ⟨ob, lc * 2 + 1, none⟩ (.int .u64 (loW (y - q)))) ob k (updX (Z j) lc (y - q))) := RZ.out.put (y - q)
          have A2 : Hid (Ab w ((vz.setCell ⟨ob, lc * 2, none⟩ (.int .u64 (hiW (y - q)))).setCell ⟨ob, lc * 2 + 1, none⟩ (.int .u64 (loW (y - q))))) := Ab.setk (Ab.setk AW.out HO.out _) HO.out _
          have E2 : Hid (((vz.setCell ⟨ob, lc * 2, none⟩ (.int .u64 (hiW (y - q)))).setCell ⟨ob, lc * 2 + 1, none⟩ (.int .u64 (loW (y - q)))).heap[eb]? = some (.cells #[.int .i64 (lc : Nat), .int .i64 (sl : Nat), .int .i64 (rc : Nat), .int .i64 (sr : Nat)] 41)) := by
            show _ = _
            rw [Below.heap_setCell _ _ _ _ (fun e => NEB.out e.symm), Below.heap_setCell _ _ _ _ (fun e => NEB.out e.symm)]
            exact EZ.out
          generalize (vz.setCell ⟨ob, lc * 2, none⟩ (.int .u64 (hiW (y - q)))).setCell ⟨ob, lc * 2 + 1, none⟩ (.int .u64 (loW (y - q))) = V2 at *
          clear RZ EZ AW f0 f1 z0 z1 CM
          have e3 : updX (Z j) lc (y - q) rc = Z j rc := by unfold updX; rw [if_neg (fun e => NE.out e.symm)]
          obtain ⟨p, hp⟩ : ∃ p, Z j rc = p := ⟨_, rfl⟩
          rw [hp] at e3
          have CP : Hid (Calls Tryd.prog 21 #[.agg #[.int .u64 (hiW p), .int .u64 (loW p)], .slice (some ⟨V2.heap.size, 0, none⟩) 1 1] (V2.alloc (.cells #[.int .i64 q] 2)).drew fun e w' => e = .returned (.agg #[.int .u64 (hiW (p + q)), .int .u64 (loW (p + q))]) ∧ Ab V2 w') :=
            (plus_one V2.heap.size p q (V2.alloc (.cells #[.int .i64 q] 2)).drew HQ.out (heap_alloc_new V2 _)).mono (fun _ _ h => ⟨h.1, Ab.call (Ab.drew (bl1 V2 _)) h.2⟩)
          have x0 := cell_of_row _ _ 2 _ _ _ E2.out
          have x1 := R2.out.c0 RC.out
          have x2 := R2.out.c1 RC.out
          rw [e3] at x1 x2
          have HP := hid hp
          have y1 := loW_in p
          have y2 := hiW_in p
          have y3 := loW_in (p + q)
          have y4 := hiW_in (p + q)
          have XE : Hid (∀ u, Ab V2 u → u.cell? ⟨eb, 2, none⟩ = some (.int .i64 (rc : Nat))) := fun u hu => cell_of_row _ _ 2 _ _ _ (hu.heap E2.out)
          have XS : Hid (∀ u, Ab V2 u → SumsAt u ob k (updX (Z j) lc (y - q))) := fun u hu => R2.out.to hu
          have XC : Hid (∀ u, Ab V2 u → u.cell? ⟨ob, rc * 2, none⟩ = some (.int .u64 (hiW p)) ∧ u.cell? ⟨ob, rc * 2 + 1, none⟩ = some (.int .u64 (loW p)) ∧ u.frozen? ⟨ob, rc * 2, none⟩ = false ∧ u.frozen? ⟨ob, rc * 2 + 1, none⟩ = false) := fun u hu => by
            have h := XS.out u hu
            have h0 := h.c0 RC.out
            have h1 := h.c1 RC.out
            rw [e3] at h0 h1
            exact ⟨h0, h1, h.frz _, h.frz _⟩
          have ol : ob < V2.heap.size := World.rowIs.lt R2.out
          have el : eb < V2.heap.size := lt_of_block E2.out
          have xa := XC.out _ (bl1 V2 (.cells #[.int .i64 q] 2))
          have xb := XE.out _ (bl1 V2 (.cells #[.int .i64 q] 2))
          have xa0 := xa.1
          have xa1 := xa.2.1
          have FIN : Hid (∀ u1, Ab V2 u1 → Ab w ((u1.setCell ⟨ob, rc * 2, none⟩ (.int .u64 (hiW (p + q)))).setCell ⟨ob, rc * 2 + 1, none⟩ (.int .u64 (loW (p + q)))) ∧ SumsAt ((u1.setCell ⟨ob, rc * 2, none⟩ (.int .u64 (hiW (p + q)))).setCell ⟨ob, rc * 2 + 1, none⟩ (.int .u64 (loW (p + q)))) ob k (Z (j + 1))) := fun u1 hu => ⟨Ab.setk (Ab.setk (Ab.trans A2.out hu) HO.out _) HO.out _, ((XS.out u1 hu).put (c := rc) (p + q)).congr (fun c hc => by
            rw [ZN.out c hc]
            unfold updX
            by_cases c1 : c = rc
            · subst c1
              rw [if_pos rfl, if_neg (fun e => NE.out e.symm), if_pos rfl, HP.out]
            · rw [if_neg c1]
              by_cases c2 : c = lc
              · subst c2
                rw [if_pos rfl, if_pos rfl, HY.out]
              · rw [if_neg c2, if_neg c2, if_neg c1])⟩
          clear hp xa e3 y1 y2
          go_region_with (go_at_call 21; refine CP.out.mono ?_; rintro e9 u1 ⟨rfl, b1⟩; have AU : Hid (Ab V2 u1) := b1; clear b1; have xe := XE.out _ AU.out; have xc := XC.out _ AU.out)
          all_goals
            go_wp2
            exact ⟨⟨j + 1, by have := HJ.out; omega, by simp, (FIN.out _ AU.out).1, (FIN.out _ AU.out).2⟩, by have := HJ.out; simp [intOf]; omega⟩
        · obtain rfl : j = N := by omega
          have C := hid (held_at ob k (Z j) wr MB.out RS.out ZB.out)
          go_wp2_with fail
          refine C.out.mono ?_
          rintro e9 v1 ⟨b1, ⟨g1, v, rfl, o1⟩ | ⟨g1, rfl⟩⟩
          · have A1 : Hid (Ab w v1) := (AS.out : Ab w wr).call b1
            have G1 := hid g1
            have O1 := hid o1
            clear g1 o1 b1 C
            go_wp2
            go_ret2
            exact ⟨A1.out, .inl ⟨G1.out, v, rfl, own_low O1.out (Below.size AS.out)⟩⟩
          · have A1 : Hid (Ab w v1) := (AS.out : Ab w wr).call b1
            have G1 := hid g1
            clear g1 b1 C
            go_wp2
            go_ret2
            exact ⟨A1.out, .inr ⟨G1.out, rfl⟩⟩
end Ms
end Go.Proofs.YtpfndibgfkkcgaaDoor
