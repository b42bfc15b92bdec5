/-
  Some of the texts of this proof, one behind the other.
-/
import Derived.Sort.Grow
import Derived.Shelf.SlLaysF
import Derived.Shelf.SlGeneric
import Derived.Test.YtkckcohemalhiaaGreatDoorChecked
import Derived.Shelf.SlSortCmp.NoneTotal
import Derived.Test.YtkckcohemalhiaaGreatDoorRa15
namespace Go.Proofs.YtkckcohemalhiaaGreatDoor
open Go.RowKit Tf Cu Go.Deep
attribute [local go_sem] run_bits run_from raw_feq raw_fne raw_flt raw_fgt run_neg run_store_float
namespace Rv
/-- how two numbers stand to each other -/
def cpI (a b : Int) : Int := if a < b then -1 else if b < a then 1 else 0
/-- the first that is not nought -/
def orI (p r : Int) : Int := if p = 0 then r else p
/-- which of two cells runs first -/
def cf19 (B : Nat → Nat) (a b : Nat) : Int := orI (cmp3 (B b) (B a)) (cpI (a : Nat) (b : Nat))
theorem cf19_lt {B : Nat → Nat} {a b : Nat} : cf19 B a b < 0 ↔ bf (kB B) a b := by
  unfold cf19 orI cmp3 cpI bf kB
  by_cases h1 : kb (B b) < kb (B a)
  · simp [h1]
  · by_cases h2 : kb (B a) < kb (B b)
    · simp [h1, h2]
      omega
    · have h3 : kb (B a) = kb (B b) := by omega
      by_cases h4 : a < b
      · simp [h3, h4]
      · by_cases h5 : b < a
        · simp [h3, h4, h5]
        · simp [h3, h4, h5]
theorem calls_same {P : Program} {f : FuncId} {args : Array Value} {U : Type} {F : U → World} {u : U} {v : Value} (h : Calls P f args (F u) fun e w' => e = .returned v ∧ w' = F u) : Calls P f args (F u) fun e w'' => e = .returned v ∧ ∃ u, w'' = F u :=
  h.mono fun _ _ ⟨he, hb⟩ => ⟨he, u, hb⟩
/-- the worlds that differ from one by what was drawn alone -/
theorem drs (w : World) : ∃ (U : Type) (F : U → World), (∀ u, ∃ q, F u = w.drewN q) ∧ (∀ q, ∃ u, w.drewN q = F u) :=
  ⟨Nat, fun q => w.drewN q, fun u => ⟨u, rfl⟩, fun q => ⟨q, rfl⟩⟩
theorem isnan19 (x : Int) (w : World) : Calls Tryz.prog 79 #[.int .i64 x] w fun e w' => e = .returned (.bool false) ∧ w' = w := by
  have e : (x != x) = false := by simp
  go_enter Tryz.func79, Tryz.ntmps79
  go_wp2
  go_ret
  exact ⟨rfl, rfl⟩
set_option maxRecDepth 100000 in
set_option maxHeartbeats 16000000 in
theorem compareI_at (x y : Int) (w : World) : Calls Tryz.prog 57 #[.int .i64 x, .int .i64 y] w fun e w' => e = .returned (.int .i64 (cpI x y)) ∧ w' = w := by
  have NN := hid isnan19
  have H : Hid (∃ r, cpI x y = r) := ⟨_, rfl⟩
  by_cases h1 : x < y
  · have E : Hid (cpI x y = -1) := if_pos h1
    have d1 : decide (x < y) = true := decide_eq_true h1
    go_enter Tryz.func57, Tryz.ntmps57
    go_wp2_with fail
    refine (NN.out x w).mono ?_
    rintro e9 v9 ⟨rfl, hv9⟩
    have hv8 := hv9.symm
    subst hv8
    go_wp2_with fail
    refine (NN.out y w).mono ?_
    rintro e9 v9 ⟨rfl, hv9⟩
    have hv8 := hv9.symm
    subst hv8
    go_wp2
    go_ret
    exact ⟨by rw [E.out]; rfl, rfl⟩
  · have d1 : decide (x < y) = false := decide_eq_false h1
    by_cases h2 : y < x
    · have E : Hid (cpI x y = 1) := by show _ = _; unfold cpI; rw [if_neg h1, if_pos h2]
      have d2 : decide (y < x) = true := decide_eq_true h2
      clear h1
      go_enter Tryz.func57, Tryz.ntmps57
      go_wp2_with fail
      refine (NN.out x w).mono ?_
      rintro e9 v9 ⟨rfl, hv9⟩
      have hv8 := hv9.symm
      subst hv8
      go_wp2_with fail
      refine (NN.out y w).mono ?_
      rintro e9 v9 ⟨rfl, hv9⟩
      have hv8 := hv9.symm
      subst hv8
      go_wp2
      go_ret
      exact ⟨by rw [E.out]; rfl, rfl⟩
    · have E : Hid (cpI x y = 0) := by show _ = _; unfold cpI; rw [if_neg h1, if_neg h2]
      have d2 : decide (y < x) = false := decide_eq_false h2
      clear h1 h2
      go_enter Tryz.func57, Tryz.ntmps57
      go_wp2_with fail
      refine (NN.out x w).mono ?_
      rintro e9 v9 ⟨rfl, hv9⟩
      have hv8 := hv9.symm
      subst hv8
      go_wp2_with fail
      refine (NN.out y w).mono ?_
      rintro e9 v9 ⟨rfl, hv9⟩
      have hv8 := hv9.symm
      subst hv8
      go_wp2
      go_ret
      exact ⟨by rw [E.out]; rfl, rfl⟩
set_option maxRecDepth 100000 in
set_option maxHeartbeats 16000000 in
theorem or_at (p r : Int) (b : Nat) (w : World) (c0 : w.cell? ⟨b, 0, none⟩ = some (.int .i64 p)) (c1 : w.cell? ⟨b, 1, none⟩ = some (.int .i64 r)) :
    Calls Tryz.prog 56 #[.slice (some ⟨b, 0, none⟩) 2 2] w fun e w' => e = .returned (.int .i64 (orI p r)) ∧ w' = w := by
  go_enter Tryz.func56, Tryz.ntmps56
  go_wp2
  go_loopw [8] (fun iv wr => ∃ k : Nat, k ≤ 2 ∧ iv = .int .i64 (k : Nat) ∧ (0 < k → p = 0) ∧ (1 < k → r = 0) ∧ wr = w) (fun iv _ => 2 - (intOf iv).toNat)
  case atStart => exact ⟨0, by omega, rfl, fun h => absurd h (by omega), fun h => absurd h (by omega), rfl⟩
  case round =>
    obtain ⟨k, hk, rfl, g1, g2, hwr⟩ := hrel
    have hwr2 := hwr.symm
    subst hwr2
    by_cases k0 : k = 0
    · subst k0
      by_cases hp : p = 0
      · subst hp
        clear g1 g2
        go_wp2
        exact ⟨⟨1, by omega, by simp, fun _ => by first | trivial | rfl, fun h => absurd h (by omega), by first | trivial | rfl⟩, by simp [intOf]⟩
      · have E : Hid (orI p r = p) := if_neg hp
        have e1 : (p != 0) = true := by simpa using hp
        clear g1 g2 hp
        go_wp2
        go_ret
        exact ⟨by rw [E.out]; rfl, by first | trivial | rfl⟩
    · have hp := g1 (by omega)
      subst hp
      by_cases k1 : k = 1
      · subst k1
        by_cases hp : r = 0
        · subst hp
          clear g1 g2
          go_wp2
          exact ⟨⟨2, by omega, by simp, fun _ => by first | trivial | rfl, fun _ => by first | trivial | rfl, by first | trivial | rfl⟩, by simp [intOf]⟩
        · have e1 : (r != 0) = true := by simpa using hp
          clear g1 g2 hp
          go_wp2
          go_ret
          exact ⟨rfl, by first | trivial | rfl⟩
      · have k2 : k = 2 := by omega
        subst k2
        have hr := g2 (by omega)
        subst hr
        clear g1 g2
        go_wp2
        go_ret
        exact ⟨rfl, by first | trivial | rfl⟩
set_option maxRecDepth 100000 in
set_option maxHeartbeats 16000000 in
theorem clo19_at (bx qb ob lb cb : Nat) (B : Nat → Nat) (a b : Nat) (V : World) (hl : lb ≤ 65536) (ha : a < lb) (hb : b < lb) (HB : V.cell? ⟨bx, 0, none⟩ = some (.slice (some ⟨qb, ob, none⟩) lb cb)) (IB : IsFl V (some ⟨qb, ob, none⟩) lb B) :
    Calls Tryz.prog 55 #[.int .i64 (a : Nat), .int .i64 (b : Nat), .pointer (some ⟨bx, 0, none⟩)] V fun e w' => e = .returned (.int .i64 (cf19 B a b)) ∧ ∃ q os, w' = Go.Sort.grow (V.drewN q) os := by
  obtain ⟨x, hx⟩ : ∃ x, B a = x := ⟨_, rfl⟩
  obtain ⟨y, hy⟩ : ∃ x, B b = x := ⟨_, rfl⟩
  have xc := (IB.at0 ha).2.2
  have yc := (IB.at0 hb).2.2
  rw [hx] at xc
  rw [hy] at yc
  have CM := hid (fun v => compare19_at y x v (by rw [← hy]; exact (IB b hb).1) (by rw [← hx]; exact (IB a ha).1))
  have CI := hid (fun v => compareI_at (a : Nat) (b : Nat) v)
  have E1 : Hid (cf19 B a b = orI (cmp3 y x) (cpI (a : Nat) (b : Nat))) := by show _ = _; unfold cf19; rw [hx, hy]
  obtain ⟨p, hp⟩ : ∃ p, cmp3 y x = p := ⟨_, rfl⟩
  obtain ⟨r, hr⟩ : ∃ p, cpI (a : Nat) (b : Nat) = p := ⟨_, rfl⟩
  rw [hp] at CM
  rw [hr] at CI
  rw [hp, hr] at E1
  have aI : (a : Int) < lb := by omega
  have aB : (a : Int) ≤ 65536 := by omega
  have bI : (b : Int) < lb := by omega
  have bB : (b : Int) ≤ 65536 := by omega
  obtain ⟨UU, E, hF1, hF2⟩ := drs V
  have y0 : ∀ u, (E u).cell? ⟨bx, 0, none⟩ = some (.slice (some ⟨qb, ob, none⟩) lb cb) := fun u => by obtain ⟨q, h⟩ := hF1 u; rw [h]; exact HB
  have y1 : ∀ u, (E u).cell? ⟨qb, ob + a, none⟩ = some (.float .f64 x) := fun u => by obtain ⟨q, h⟩ := hF1 u; rw [h]; exact xc
  have y2 : ∀ u, (E u).cell? ⟨qb, ob + b, none⟩ = some (.float .f64 y) := fun u => by obtain ⟨q, h⟩ := hF1 u; rw [h]; exact yc
  have DD0 : ∃ u, V.drew = E u := hF2 1
  have HU1 := hid hF1
  clear hF1 hF2 hl ha hb HB IB xc yc hx hy hp hr
  go_enter Tryz.func55, Tryz.ntmps55
  go_upto_region 1 with fail
  refine region_tail 12 E (by kernel_rfl) (by kernel_rfl) (by kernel_rfl) DD0 ?_
  simp only [List.take_succ_cons, List.take_zero, List.drop_succ_cons, List.drop_zero]
  repeat (go_big_quiet_step (first
    | (go_at_call 41; exact calls_same (CM.out _))
    | (go_at_call 57; exact calls_same (CI.out _))
    | (with_reducible rfl)))
  refine wpQuiet_nil ?_
  intro z hwz
  obtain ⟨u0, hu⟩ := hwz
  have AZ : Hid (∃ q, z = V.drewN q) := by rw [hu]; exact HU1.out u0
  clear hu u0
  clear HU1 DD0 y0 y1 y2
  clear E UU
  have c0 : (z.alloc (.cells #[.int .i64 p, .int .i64 r] 3)).cell? ⟨z.heap.size, 0, none⟩ = some (.int .i64 p) := cell_of_row _ _ 0 _ _ _ (heap_alloc_new _ _)
  have c1 : (z.alloc (.cells #[.int .i64 p, .int .i64 r] 3)).cell? ⟨z.heap.size, 1, none⟩ = some (.int .i64 r) := cell_of_row _ _ 1 _ _ _ (heap_alloc_new _ _)
  have CO := hid (or_at p r z.heap.size _ c0 c1)
  clear c0 c1
  go_wp2_with fail
  refine CO.out.mono ?_
  rintro e9 v9 ⟨rfl, hv9⟩
  have hv8 := hv9.symm
  subst hv8
  go_wp2
  go_ret
  obtain ⟨q, hq⟩ := AZ.out
  exact ⟨by rw [E1.out]; rfl, q, _, by rw [hq]; exact Go.Sort.alloc_eq_grow _ _⟩
end Rv
end Go.Proofs.YtkckcohemalhiaaGreatDoor

namespace Go.Proofs.YtkckcohemalhiaaGreatDoor
namespace Rv
def sortL_ren : Go.Shelf.Ren := ⟨fun | 6 => 54 | 15 => 78 | 14 => 77 | 28 => 99 | 29 => 100 | 20 => 91 | 21 => 92 | 22 => 93 | 23 => 94 | 24 => 95 | 25 => 96 | 26 => 97 | 27 => 98 | 46 => 111 | 47 => 112 | 48 => 113 | 49 => 114 | 50 => 115 | 57 => 122 | n => n, fun | 22 => 42 | 24 => 3 | 25 => 95 | 3 => 3 | 39 => 119 | 0 => 0 | 53 => 145 | 55 => 105 | 4 => 4 | 46 => 138 | 45 => 137 | 50 => 142 | 5 => 5 | 9 => 9 | 66 => 152 | 70 => 156 | 76 => 162 | 77 => 37 | n => n, fun | n => n⟩
theorem sortL : Go.Proofs.SlLaysF.n6 Tryz.prog sortL_ren := {
  mixed := by kernel_rfl
  f6 := ⟨Tryz.f54.name, by decide, Tryz.func54.trans (congrArg some (by kernel_rfl))⟩
  f14 := ⟨Tryz.f77.name, by decide, Tryz.func77.trans (congrArg some (by kernel_rfl))⟩
  f15 := Tryz.func78.trans (congrArg some (by kernel_rfl))
  f20 := ⟨Tryz.f91.name, by decide, Tryz.func91.trans (congrArg some (by kernel_rfl))⟩
  f21 := ⟨Tryz.f92.name, by decide, Tryz.func92.trans (congrArg some (by kernel_rfl))⟩
  f22 := ⟨Tryz.f93.name, by decide, Tryz.func93.trans (congrArg some (by kernel_rfl))⟩
  f23 := ⟨Tryz.f94.name, by decide, Tryz.func94.trans (congrArg some (by kernel_rfl))⟩
  f24 := ⟨Tryz.f95.name, by decide, Tryz.func95.trans (congrArg some (by kernel_rfl))⟩
  f25 := ⟨Tryz.f96.name, by decide, Tryz.func96.trans (congrArg some (by kernel_rfl))⟩
  f26 := ⟨Tryz.f97.name, by decide, Tryz.func97.trans (congrArg some (by kernel_rfl))⟩
  f27 := ⟨Tryz.f98.name, by decide, Tryz.func98.trans (congrArg some (by kernel_rfl))⟩
  f28 := Tryz.func99.trans (congrArg some (by kernel_rfl))
  f29 := Tryz.func100.trans (congrArg some (by kernel_rfl))
  f46 := ⟨Tryz.f111.name, by decide, Tryz.func111.trans (congrArg some (by kernel_rfl))⟩
  f47 := Tryz.func112.trans (congrArg some (by kernel_rfl))
  f48 := Tryz.func113.trans (congrArg some (by kernel_rfl))
  f49 := ⟨Tryz.f114.name, by decide, Tryz.func114.trans (congrArg some (by kernel_rfl))⟩
  f50 := ⟨Tryz.f115.name, by decide, Tryz.func115.trans (congrArg some (by kernel_rfl))⟩
  f57 := ⟨Tryz.f122.name, by decide, Tryz.func122.trans (congrArg some (by kernel_rfl))⟩
  t0 := Tryz.underlying0
  a0 := Tryz.isAgg0
  z0 := Tryz.sizeOf0
  v0 := Tryz.zeroValue0
  t3 := Tryz.underlying3
  a3 := Tryz.isAgg3
  z3 := Tryz.sizeOf3
  v3 := Tryz.zeroValue3
  t4 := Tryz.underlying4
  a4 := Tryz.isAgg4
  z4 := Tryz.sizeOf4
  v4 := Tryz.zeroValue4
  t5 := Tryz.underlying5
  a5 := Tryz.isAgg5
  z5 := Tryz.sizeOf5
  v5 := Tryz.zeroValue5
  t9 := Tryz.underlying9
  a9 := Tryz.isAgg9
  z9 := Tryz.sizeOf9
  v9 := Tryz.zeroValue9
  t22 := Tryz.underlying42
  a22 := Tryz.isAgg42
  z22 := Tryz.sizeOf42
  v22 := Tryz.zeroValue42
  a24 := Tryz.isAgg3
  z24 := Tryz.sizeOf3
  t25 := Tryz.underlying95
  a25 := Tryz.isAgg95
  z25 := Tryz.sizeOf95
  v25 := Tryz.zeroValue95
  t39 := Tryz.underlying119
  a39 := Tryz.isAgg119
  z39 := Tryz.sizeOf119
  v39 := Tryz.zeroValue119
  t45 := Tryz.underlying137
  a45 := Tryz.isAgg137
  z45 := Tryz.sizeOf137
  v45 := Tryz.zeroValue137
  t46 := Tryz.underlying138
  a46 := Tryz.isAgg138
  z46 := Tryz.sizeOf138
  v46 := Tryz.zeroValue138
  t50 := Tryz.underlying142
  a50 := Tryz.isAgg142
  z50 := Tryz.sizeOf142
  v50 := Tryz.zeroValue142
  t53 := Tryz.underlying145
  a53 := Tryz.isAgg145
  z53 := Tryz.sizeOf145
  v53 := Tryz.zeroValue145
  t55 := Tryz.underlying105
  a55 := Tryz.isAgg105
  z55 := Tryz.sizeOf105
  v55 := Tryz.zeroValue105
  t66 := Tryz.underlying152
  a66 := Tryz.isAgg152
  z66 := Tryz.sizeOf152
  v66 := Tryz.zeroValue152
  t70 := Tryz.underlying156
  a70 := Tryz.isAgg156
  z70 := Tryz.sizeOf156
  v70 := Tryz.zeroValue156
  t76 := Tryz.underlying162
  a76 := Tryz.isAgg162
  z76 := Tryz.sizeOf162
  v76 := Tryz.zeroValue162
  t77 := Tryz.underlying37
  a77 := Tryz.isAgg37
  z77 := Tryz.sizeOf37
  v77 := Tryz.zeroValue37 }
end Rv
end Go.Proofs.YtkckcohemalhiaaGreatDoor

namespace Go.Proofs.YtkckcohemalhiaaGreatDoor
open Go.RowKit Tf Cu Go.Deep
attribute [local go_sem] run_bits run_from raw_feq raw_fne raw_flt raw_fgt run_neg run_store_float
namespace Rv
section
open Go.Sort Go.Shelf
/-- a cell as a value -/
def enF {k : Nat} (x : Fin (k + 1)) : Value := .int .i64 (x.val : Nat)
/-- which of two cells runs first -/
def cfF {k : Nat} (B : Nat → Nat) (x y : Fin (k + 1)) : Int := cf19 B x.val y.val
theorem ltF {k : Nat} {B : Nat → Nat} {x y : Fin (k + 1)} : ltOf (cfF B) x y = true ↔ bf (kB B) x.val y.val := by
  unfold ltOf cfF
  rw [decide_eq_true_iff]
  exact cf19_lt
theorem ltN {k : Nat} {B : Nat → Nat} {x y : Fin (k + 1)} : ltOf (cfF B) x y = false ↔ ¬ bf (kB B) x.val y.val := by
  rw [← ltF]
  cases ltOf (cfF B) x y <;> simp
theorem swoF {k : Nat} (B : Nat → Nat) : SWO (ltOf (cfF (k := k) B)) where
  irrefl x := by rw [ltN]; unfold bf; omega
  trans x y z h1 h2 := by
    rw [ltF] at *
    unfold bf at *
    omega
  ntrans x y z h1 h2 := by
    rw [ltN] at *
    unfold bf at *
    omega
theorem totF {k : Nat} (B : Nat → Nat) (x y : Fin (k + 1)) (h1 : ltOf (cfF B) x y = false) (h2 : ltOf (cfF B) y x = false) : x = y := by
  rw [ltN] at *
  unfold bf at *
  exact Fin.ext (by omega)
/-- all cells -/
def dF (k : Nat) : Array (Fin (k + 1)) := (List.finRange (k + 1)).toArray
theorem dF_size (k : Nat) : (dF k).size = k + 1 := by unfold dF; simp
theorem dF_get {k j : Nat} (h : j < k + 1) : (dF k)[j]! = ⟨j, h⟩ := by
  rw [getElem!_pos _ j (by rw [dF_size]; exact h)]
  unfold dF
  simp
/-- the cells, sorted -/
def sF (k : Nat) (B : Nat → Nat) : List (Fin (k + 1)) := (dF k).toList.mergeSort fun x y => !ltOf (cfF B) y x
theorem sF_len (k : Nat) (B : Nat → Nat) : (sF k B).length = k + 1 := by unfold sF; rw [List.length_mergeSort]; exact dF_size k
theorem sF_ord (k : Nat) (B : Nat → Nat) : (sF k B).map Fin.val = ordL (kB B) (k + 1) := by
  refine ord_one ?_
  have p0 : (sF k B).Perm (List.finRange (k + 1)) := List.mergeSort_perm _ _
  have e : (List.finRange (k + 1)).map Fin.val = List.range (k + 1) := by
    apply List.ext_getElem
    · simp
    · intro i h1 h2
      simp
  have p : ((sF k B).map Fin.val).Perm (List.range (k + 1)) := by rw [← e]; exact p0.map _
  refine ⟨?_, p⟩
  have s : (sF k B).Pairwise (fun a b => (!ltOf (cfF B) b a) = true) := List.pairwise_mergeSort (fun a b c h1 h2 => by
    have h1 : ltOf (cfF B) b a = false := by simpa using h1
    have h2 : ltOf (cfF B) c b = false := by simpa using h2
    have h3 := (swoF B).ntrans c b a h2 h1
    rw [h3]
    rfl) (fun a b => by
    cases h1 : ltOf (cfF B) b a with
    | false => rfl
    | true =>
      cases h2 : ltOf (cfF B) a b with
      | false => rfl
      | true =>
        have h3 := (swoF B).trans a b a h2 h1
        rw [(swoF B).irrefl] at h3
        cases h3) _
  have s2 : ((sF k B).map Fin.val).Pairwise (fun a b => ¬ bf (kB B) b a) := by
    rw [List.pairwise_map]
    refine s.imp ?_
    intro a b h
    have h1 : ltOf (cfF B) b a = false := by simpa using h
    exact ltN.1 h1
  have nd : ((sF k B).map Fin.val).Pairwise (fun a b => a ≠ b) := p.nodup_iff.2 List.nodup_range
  refine (s2.and nd).imp ?_
  rintro a b ⟨h1, h2⟩
  unfold bf at *
  omega
/-- the sort's worlds: all other blocks are as they were -/
theorem sw_abq {k : Nat} {V : World} {g m : Nat} {d : Array (Fin (k + 1))} {os : Array Obj} : AbQ V (fun b => b = g) (sortWorld enF V g 0 m d os) := by
  refine ⟨rfl, rfl, rfl, ?_, fun b hb hn => ?_⟩
  · simp [sortWorld, Go.Sort.grow, putRow, mapBlock, Go.Sort.ahead]
  · have e : (sortWorld enF V g 0 m d os).heap = (V.heap.modify g (onCells (putCells enF 0 d))) ++ os := rfl
    rw [e, Array.getElem?_append, if_pos (by simpa using hb), Array.getElem?_modify, if_neg (fun q => hn q.symm)]
theorem sw_row {k : Nat} {V : World} {g m : Nat} {d : Array (Fin (k + 1))} {os : Array Obj} {f : Nat → Value} (h : V.rowIs g 3 (k + 1) f) (hd : d.size = k + 1) : (sortWorld enF V g 0 m d os).rowIs g 3 (k + 1) (fun i => enF d[i]!) := by
  have hl := h.lt
  obtain ⟨c, hb, hs, hf⟩ := h
  refine ⟨putCells enF 0 d c, ?_, by simp [putCells, hs], fun i hi => ?_⟩
  · have e : (sortWorld enF V g 0 m d os).heap = (V.heap.modify g (onCells (putCells enF 0 d))) ++ os := rfl
    rw [e, Array.getElem?_append, if_pos (by simpa using hl), Array.getElem?_modify, if_pos rfl, hb]
    rfl
  · unfold putCells
    rw [Array.getElem?_mapIdx, hf i hi, Option.map_some, if_pos ⟨Nat.zero_le _, by omega⟩, Nat.sub_zero]
end
set_option maxRecDepth 100000 in
set_option maxHeartbeats 16000000 in
theorem sort19_at (gx g qb ob k cb : Nat) (B : Nat → Nat) (V : World) (hl : k + 1 ≤ 65536) (HX : V.heap[gx]? = some (.cells #[.slice (some ⟨qb, ob, none⟩) (k + 1) cb] 22)) (IB : IsFl V (some ⟨qb, ob, none⟩) (k + 1) B) (R : V.rowIs g 3 (k + 1) (fun i => .int .i64 (i : Nat))) (n1 : gx ≠ g) (n2 : qb ≠ g) :
    Calls Tryz.prog 54 #[.slice (some ⟨g, 0, none⟩) (k + 1) (k + 1), .func (.func 55) #[] #[.pointer (some ⟨gx, 0, none⟩)]] V fun e w' => e = .returned (.tuple #[]) ∧ AbQ V (fun b => b = g) w' ∧ w'.rowIs g 3 (k + 1) (fun i => .int .i64 ((ordL (kB B) (k + 1)).getD i 0 : Nat)) := by
  have eg : ∀ args w, (callFunc 55 args).run Tryz.prog w = .ok (.enter 55 args) w := enters_of Tryz.func55 (by kernel_rfl) rfl
  have hH : Go.Sort.Holds enF V g 0 (dF k) := fun j hj => by
    rw [dF_size] at hj
    rw [Nat.zero_add, dF_get hj]
    exact ⟨R.cell hj, R.frozen j⟩
  have hC : CmpLays1 Tryz.prog 55 #[.pointer (some ⟨gx, 0, none⟩)] (enF (k := k)) (cfF (k := k) B) g 0 (dF k).size V := fun m os dk _ x y => by
    have a : AbQ V (fun b => b = g) (Go.Proofs.sortWorld (enF (k := k)) V g 0 m dk os) := sw_abq
    have h := clo19_at gx qb ob (k + 1) cb B x.val y.val (Go.Proofs.sortWorld (enF (k := k)) V g 0 m dk os) hl x.isLt y.isLt (cell_of_row _ _ 0 _ _ _ (a.heap HX n1)) (a.isFl IB (fun b o e => by
      simp only [Option.some.injEq, Addr.mk.injEq] at e
      rw [← e.1]
      exact n2))
    exact h
  have hS := Any.slices_SortFunc_total sortL enF (fun _ => rfl) (cfF B) (swoF B) 55 #[.pointer (some ⟨gx, 0, none⟩)] g 0 (k + 1) (dF k) V eg hC hH R.lt (by rw [dF_size]; omega) (totF B)
  rw [dF_size] at hS
  change Calls Tryz.prog 54 _ _ _ at hS
  refine hS.mono ?_
  rintro e w' ⟨rfl, n, os, rfl⟩
  refine ⟨rfl, sw_abq, (sw_row R (d := (sF k B).toArray) (by simpa using sF_len k B)).congr (fun i hi => ?_)⟩
  rw [← sF_ord k B]
  have hi2 : i < (sF k B).length := by rw [sF_len]; exact hi
  show enF ((sF k B).toArray[i]!) = _
  rw [getElem!_pos _ i (by simpa using hi2)]
  unfold enF
  simp [List.getD, hi2]
set_option maxRecDepth 100000 in
set_option maxHeartbeats 16000000 in
theorem sort19_none (p : Option Addr) (c : Nat) (fv : Value) (V : World) : Calls Tryz.prog 54 #[.slice p 0 c, fv] V fun e w' => e = .returned (.tuple #[]) ∧ w' = V := by
  have h := AnyF.slices_SortFunc_none (P := Tryz.prog) (ρ := sortL_ren) { sortL with } p c fv V
  change Calls Tryz.prog 54 _ _ _ at h
  exact h
theorem row_ownN {B g cap n : Nat} {F : Nat → Value} {x : Nat → Int} {w : World} (h : w.rowIs g 3 cap F) (hB : B ≤ g) (hn : n ≤ cap) (hc : cap ≤ maxLen) (hF : ∀ i, i < n → F i = .int .i64 (x i)) : OT 3 B (.slice (some ⟨g, 0, none⟩) n cap) ((List.range n).map x) w := by
  obtain ⟨c, hb, hs, hf⟩ := h
  refine ⟨by simp, .inr ⟨g, cap, c, by simp, hB, hb, by simpa using hn, hc, by omega, ?_⟩⟩
  apply List.ext_getElem?
  intro i
  rw [List.getElem?_take, List.length_map, List.length_range]
  by_cases hi : i < n
  · have e := hf i (by omega)
    rw [hF i hi] at e
    rw [if_pos (by omega)]
    rw [← Array.getElem?_toList] at e
    rw [e]
    simp [hi]
  · rw [if_neg (by omega), List.getElem?_eq_none (by simp; omega)]
set_option maxRecDepth 100000 in
set_option maxHeartbeats 16000000 in
theorem ordw_go (pb : Option Addr) (lb cb : Nat) (w : World) (L : List Nat) (hl : lb ≤ 65536) (LL : L.length = lb)
    (SC : Hid (∀ V gx g, Ab w V → w.heap.size ≤ gx → gx < g → V.heap[gx]? = some (.cells #[.slice pb lb cb] 22) → V.rowIs g 3 lb (fun i => .int .i64 (i : Nat)) →
      Calls Tryz.prog 54 #[.slice (some ⟨g, 0, none⟩) lb lb, .func (.func 55) #[] #[.pointer (some ⟨gx, 0, none⟩)]] V fun e w' => e = .returned (.tuple #[]) ∧ AbQ V (fun b => b = g) w' ∧ w'.rowIs g 3 lb (fun i => .int .i64 (L.getD i 0 : Nat)))) :
    Calls Tryz.prog 16 #[.slice pb lb cb] w fun e w' => ∃ v, e = .returned v ∧ Below w.heap.size w w' ∧ OT 3 w.heap.size v ((List.range lb).map fun i => ((L.getD i 0 : Nat) : Int)) w' := by
  have A0 : Hid (Ab w (w.alloc (.cells #[.slice pb lb cb] 22))) := bl1 _ _
  have R0 : Hid ((w.alloc (.cells #[.slice pb lb cb] 22)).heap[w.heap.size]? = some (.cells #[.slice pb lb cb] 22)) := heap_alloc_new _ _
  go_enter Tryz.func16, Tryz.ntmps16
  go_upto_region 1 with fail
  generalize hW : World.alloc w _ = W0 at *
  obtain ⟨gx, hgx⟩ : ∃ g, w.heap.size = g := ⟨_, rfl⟩
  rw [hgx] at R0 ⊢
  have HGX := hid (Nat.le_of_eq hgx)
  clear hgx hW
  have MK := run_make_row' (P := Tryz.prog) 42 3 (.int .i64 0) 8 Tryz.underlying42 infoN rfl .i64 .i64 lb (by omega) (by omega) W0
  have HN := hid hl
  have x0 := cell_of_row _ _ 0 _ _ _ R0.out
  obtain ⟨g, hg⟩ : ∃ b, W0.heap.size = b := ⟨_, rfl⟩
  have RW : Hid ((W0.alloc (.cells (madeCells #[.int .i64 0] lb) 3)).rowIs g 3 lb (fun _ => .int .i64 0)) := by rw [← hg]; exact World.rowIs_made _ _ _ _
  have A1 : Hid (Ab W0 (W0.alloc (.cells (madeCells #[.int .i64 0] lb) 3))) := bl1 _ _
  have HG : Hid (gx < g) := by rw [← hg]; exact lt_of_get R0.out
  have HW : Hid (w.heap.size ≤ g) := by rw [← hg]; exact A0.out.size
  generalize hM : World.alloc W0 _ = wm at *
  clear hM hl
  go_wp2
  clear MK hg x0
  go_loopw [10] (fun iv wr => ∃ k : Nat, k ≤ lb ∧ iv = .int .i64 (k : Nat) ∧ Ab w wr ∧ wr.heap[gx]? = some (.cells #[.slice pb lb cb] 22) ∧ wr.rowIs g 3 lb (fun i => .int .i64 (if i < k then ((i : Nat) : Int) else 0))) (fun iv _ => lb - (intOf iv).toNat)
  case atStart => exact ⟨0, by omega, rfl, A0.out.trans A1.out, Ab.heap A1.out R0.out, RW.out.congr (fun i _ => by simp)⟩
  case round =>
    obtain ⟨k, hk, rfl, ar, hx, rr⟩ := hrel
    have AR := hid ar
    have RX := hid hx
    have RR := hid rr
    clear ar rr hx A0 A1 R0 RW
    by_cases hkn : k < lb
    · have HK := hid hkn
      have kI : (k : Int) < lb := by omega
      have kB : (k : Int) ≤ 65536 := by have := HN.out; omega
      have z1 := RR.out.cell (show k < lb from hkn)
      have z2 := RR.out.frozen k
      clear hkn hk
      go_wp2
      refine ⟨⟨k + 1, by have := HK.out; omega, by simp, AR.out.set HW.out _, (Below.heap_setCell _ _ _ _ (by intro e; have e2 : gx = g := e; have := HG.out; omega)).trans RX.out, (RR.out.set k _).congr (fun i _ => ?_)⟩, by have := HK.out; simp [intOf]; omega⟩
      by_cases e : i = k
      · subst e; simp
      · have e2 : (i < k + 1) ↔ i < k := by omega
        simp [e, e2]
    · have e6 : lb = k := by omega
      subst e6
      have CS := hid (SC.out wr gx g AR.out HGX.out HG.out RX.out (RR.out.congr (fun i hi => by simp [hi])))
      clear hkn hk
      go_wp2_with fail
      refine CS.out.mono ?_
      rintro e9 v9 ⟨rfl, q1, q2⟩
      have Q1 := hid q1
      have Q2 := hid q2
      clear q1 q2
      go_wp2
      go_ret
      exact ⟨_, rfl, Q1.out.ab AR.out (fun b hb e => by have := HW.out; omega), row_ownN Q2.out HW.out (Nat.le_refl _) (by unfold maxLen; have := HN.out; omega) (fun i _ => rfl)⟩
/-- WHAT Order ANSWERS -/
theorem orderC : OrderC := fun pb lb cb B w hl ib => by
  have key : ∀ V gx g, Ab w V → w.heap.size ≤ gx → gx < g → V.heap[gx]? = some (.cells #[.slice pb lb cb] 22) → V.rowIs g 3 lb (fun i => .int .i64 (i : Nat)) →
      Calls Tryz.prog 54 #[.slice (some ⟨g, 0, none⟩) lb lb, .func (.func 55) #[] #[.pointer (some ⟨gx, 0, none⟩)]] V fun e w' => e = .returned (.tuple #[]) ∧ AbQ V (fun b => b = g) w' ∧ w'.rowIs g 3 lb (fun i => .int .i64 ((ordL (kB B) lb).getD i 0 : Nat)) := fun V gx g a h1 h2 hx R => by
    cases lb with
    | zero =>
      refine (sort19_none _ _ _ V).mono ?_
      rintro e w' ⟨rfl, rfl⟩
      exact ⟨rfl, AbQ.refl _ _, R.congr (fun i hi => absurd hi (Nat.not_lt_zero i))⟩
    | succ k =>
      obtain ⟨qb, ob, rfl⟩ := ib.some0 (show 0 < k + 1 by omega)
      have hq := (ib.at0 (show 0 < k + 1 by omega)).2.1
      exact sort19_at gx g qb ob k cb B V hl hx (ib.below a) R (by omega) (by omega)
  refine (ordw_go pb lb cb w (ordL (kB B) lb) hl (ordL_len _ _) key).mono ?_
  rintro e w' ⟨v, rfl, b, o⟩
  refine ⟨v, rfl, b, ?_⟩
  have e1 : ((List.range lb).map fun i => (((ordL (kB B) lb).getD i 0 : Nat) : Int)) = (ordL (kB B) lb).map (fun c => ((c : Nat) : Int)) := by
    apply List.ext_getElem
    · simp [ordL_len]
    · intro i h1 h2
      have h3 : i < (ordL (kB B) lb).length := by simpa using h2
      simp [List.getD, h3]
  rw [e1] at o
  unfold OT at o
  unfold OwnN
  simpa [Function.comp_def] using o
end Rv
end Go.Proofs.YtkckcohemalhiaaGreatDoor
