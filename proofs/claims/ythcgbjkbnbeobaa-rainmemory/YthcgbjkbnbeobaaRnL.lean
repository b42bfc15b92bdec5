/-
  What is handed in stays: helpers (layer 18).
-/
import Derived.Test.YthcgbjkbnbeobaaRnG
import Derived.Laws.CopyOwn
import Derived.Laws.IdiomCopy
import Derived.Deep.RegionHeld3
namespace Go.Proofs.Ythcgbjkbnbeobaa
open Go.RowKit Go.Deep
namespace Rn
open Sh
/-- a rain's j-th number -/
def f4 (r : Int × Int × Int × Int) (j : Nat) : Int := if j = 0 then r.1 else if j = 1 then r.2.1 else if j = 2 then r.2.2.1 else r.2.2.2
/-- a block of so many rains -/
def RAt (w : World) (g m : Nat) (R : Nat → Int × Int × Int × Int) : Prop := w.rowIs g 29 (m * 4) (fun i => .int .i64 (f4 (R (i / 4)) (i % 4)))
theorem RAt.c {w : World} {g m k j : Nat} {R : Nat → Int × Int × Int × Int} (h : RAt w g m R) (hk : k < m) (hj : j < 4) : w.cell? ⟨g, k * 4 + j, none⟩ = some (.int .i64 (f4 (R k) j)) := by
  have e := World.rowIs.cell h (i := k * 4 + j) (by omega)
  rw [e]
  have h1 : (k * 4 + j) % 4 = j := by omega
  have h2 : (k * 4 + j) / 4 = k := by omega
  simp only [h1, h2]
theorem RAt.rn {w : World} {g m n : Nat} {R : Nat → Int × Int × Int × Int} (h : RAt w g m R) (hn : n ≤ m) (h4 : ∀ k, k < n → W4 (R k)) : IsRn w (some ⟨g, 0, none⟩) n R := fun k hk => ⟨h4 k hk, g, 0, rfl, World.rowIs.lt h, by
  rw [Nat.zero_add]
  exact ⟨RAt.c (j := 0) h (by omega) (by omega), RAt.c (j := 1) h (by omega) (by omega), RAt.c (j := 2) h (by omega) (by omega), RAt.c (j := 3) h (by omega) (by omega)⟩⟩
theorem RAt.to {w w' : World} {g m : Nat} {R : Nat → Int × Int × Int × Int} (h : RAt w g m R) (a : Ab w w') : RAt w' g m R := Sh.row_ab h a
theorem RAt.frz {w : World} {g m : Nat} {R : Nat → Int × Int × Int × Int} (h : RAt w g m R) (k : Nat) : w.frozen? ⟨g, k, none⟩ = false := World.rowIs.frozen h k
theorem RAt.congr {w : World} {g m : Nat} {R Q : Nat → Int × Int × Int × Int} (h : RAt w g m R) (e : ∀ k, k < m → R k = Q k) : RAt w g m Q := World.rowIs.congr h (fun i hi => by rw [e (i / 4) (by omega)])
theorem RAt.put {w : World} {g m c : Nat} {R : Nat → Int × Int × Int × Int} (h : RAt w g m R) (r : Int × Int × Int × Int) :
    RAt ((((w.setCell ⟨g, c * 4, none⟩ (.int .i64 r.1)).setCell ⟨g, c * 4 + 1, none⟩ (.int .i64 r.2.1)).setCell ⟨g, c * 4 + 2, none⟩ (.int .i64 r.2.2.1)).setCell ⟨g, c * 4 + 3, none⟩ (.int .i64 r.2.2.2)) g m (fun k => if k = c then r else R k) := by
  refine ((((World.rowIs.set h (c * 4) (.int .i64 r.1)).set (c * 4 + 1) (.int .i64 r.2.1)).set (c * 4 + 2) (.int .i64 r.2.2.1)).set (c * 4 + 3) (.int .i64 r.2.2.2)).congr (fun i _ => ?_)
  by_cases e : i / 4 = c
  · have q : i = c * 4 ∨ i = c * 4 + 1 ∨ i = c * 4 + 2 ∨ i = c * 4 + 3 := by omega
    rcases q with rfl | rfl | rfl | rfl
    · simp [f4]
    · simp [f4, show (c * 4 + 1) / 4 = c by omega, show (c * 4 + 1) % 4 = 1 by omega]
    · simp [f4, show (c * 4 + 2) / 4 = c by omega, show (c * 4 + 2) % 4 = 2 by omega]
    · simp [f4, show (c * 4 + 3) / 4 = c by omega, show (c * 4 + 3) % 4 = 3 by omega]
  · have n0 : i ≠ c * 4 := by omega
    have n1 : i ≠ c * 4 + 1 := by omega
    have n2 : i ≠ c * 4 + 2 := by omega
    have n3 : i ≠ c * 4 + 3 := by omega
    simp [e, n0, n1, n2, n3]
theorem made_r (w : World) (m : Nat) : RAt (w.alloc (.cells (madeCells #[.int .i64 0, .int .i64 0, .int .i64 0, .int .i64 0] (m * 4)) 29)) w.heap.size m (fun _ => (0, 0, 0, 0)) := by
  refine ⟨_, heap_alloc_new _ _, size_madeCells _ _, fun i hi => ?_⟩
  have e : ∀ j, j < 4 → (#[Value.int .i64 0, .int .i64 0, .int .i64 0, .int .i64 0] : Array Value)[j]! = .int .i64 0 := fun j hj => by
    match j, hj with
    | 0, _ => rfl
    | 1, _ => rfl
    | 2, _ => rfl
    | 3, _ => rfl
  unfold madeCells
  rw [Array.getElem?_map, Array.getElem?_range, if_pos hi]
  simp only [Option.map_some]
  rw [show (#[Value.int .i64 0, .int .i64 0, .int .i64 0, .int .i64 0] : Array Value).size = 4 from rfl, e (i % 4) (by omega)]
  simp [f4]
theorem sizeI : (Try.prog.info? 2).map (·.size) = some 1 := by kernel_rfl
theorem sizeR : (Try.prog.info? 29).map (·.size) = some 4 := by kernel_rfl
theorem take_drop18 {l m : List Value} {i : Nat} : (m ++ l.drop m.length)[i]? = if i < m.length then m[i]? else l[i]? := by
  by_cases h : i < m.length
  · rw [if_pos h, List.getElem?_append_left h]
  · rw [if_neg h, List.getElem?_append_right (by omega), List.getElem?_drop]
    congr 1
    omega
/-- the built-in copy onto a row -/
theorem copyI18 (w : World) (g L M cap : Nat) (p : Option Addr) (c : Nat) (f : Nat → Int) (x : Nat → Value) (hr : w.rowIs g 2 L x) (hM : M ≤ L) (hI : IsI w p M f) :
    ∃ w', (Builtin.copy_ #[22, 22] 3 #[.slice (some ⟨g, 0, none⟩) L cap, .slice p M c]).run Try.prog w = .ok (goInt M) w' ∧ Sh.Abo w g w' ∧ w'.rowIs g 2 L (fun i => if i < M then .int .i64 (f i) else x i) := by
  rcases Nat.eq_zero_or_pos M with h0 | h0
  · subst h0
    exact ⟨w, run_copy_none _ _ _ _ 2 _ _ _ _ _ _ Try.underlying22 sizeI (by simp), Sh.Abo.refl w g, hr.congr (fun i _ => by simp)⟩
  · obtain ⟨b0, o0, rfl⟩ := hI.some0 h0
    obtain ⟨cur, hg, hs, hx⟩ := hr
    have len : ((List.range M).map (fun i => Value.int .i64 (f i))).length = M := by simp
    have h := run_copy_row (P := Try.prog) w 22 22 3 2 g 0 L cap ⟨b0, o0, none⟩ M c cur 2 ((List.range M).map (fun i => Value.int .i64 (f i))) Try.underlying22 sizeI hg (by rw [len]; exact (Nat.min_eq_left hM).symm) ?_ (by rw [len]; omega) (by simp [Value.oneCell'])
    · rw [len] at h
      refine ⟨_, h, ⟨rfl, rfl, rfl, by simp [World.setRow], fun k _ hne => setRow_other w g k _ hne⟩, _, setRow_heap _ _ _ _ _ _ hg, ?_, fun i hi => ?_⟩
      · simp
        omega
      · rw [List.getElem?_toArray, List.take_zero, List.nil_append, Nat.zero_add]
        have e := take_drop18 (l := cur.toList) (m := (List.range M).map (fun i => Value.int .i64 (f i))) (i := i)
        rw [len] at e
        rw [e]
        dsimp only
        by_cases q : i < M
        · rw [if_pos q, if_pos q]
          simp [q]
        · rw [if_neg q, if_neg q, Array.getElem?_toList]
          exact hx i hi
    · intro j v hj
      obtain ⟨hj1, hj2⟩ := List.getElem?_eq_some_iff.1 hj
      simp at hj1 hj2
      rw [Sh.add_off, ← hj2]
      exact (hI.at0 hj1).2.2
/-- the built-in copy of elements of k cells -/
theorem run_copy_rows (P : Program) (w : World) (dT sT ty elem : TypeId) (k : Nat) (g o dLen dCap : Nat) (a : Addr) (sLen sCap : Nat) (cur : Array Value) (t : TypeId) (cs : List Value)
    (hu : P.underlying dT = some (.slice elem)) (hs : (P.info? elem).map (·.size) = some k)
    (hg : w.heap[g]? = some (.cells cur t (0, 0))) (hn : cs.length = Nat.min sLen dLen * k)
    (hsrc : ∀ j v, cs[j]? = some v → w.cell? (a.add j) = some v) (hfit : o + cs.length ≤ cur.size) (h1 : ∀ v ∈ cs, v.oneCell' = true) :
    (Builtin.copy_ #[dT, sT] ty #[.slice (some ⟨g, o, none⟩) dLen dCap, .slice (some a) sLen sCap]).run P w =
      .ok (goInt (Nat.min sLen dLen)) (w.setRow g (cur.toList.take o ++ cs ++ cur.toList.drop (o + cs.length)).toArray) := by
  have hl := run_loadCells_list (P := P) w a cs hsrc
  have hst := run_storeCells_at P g o t cs 0 cur w hg (by simpa using hfit) h1
  cases hq : P.info? elem with
  | none => simp [hq] at hs
  | some i =>
    have hi : i.size = k := by simpa [hq] using hs
    simp [Builtin.copy_, run_underlying hu, Builtin.lenOf, Builtin.firstCells, sizeOf, typeInfo, hq, hi, ← hn, hl, hst]
theorem run_copy_none' (P : Program) (w : World) (dT sT ty elem : TypeId) (d a : Option Addr) (dLen dCap sLen sCap : Nat) (hu : P.underlying dT = some (.slice elem)) (k : Nat) (hs : (P.info? elem).map (·.size) = some k) (hn : Nat.min sLen dLen = 0) :
    (Builtin.copy_ #[dT, sT] ty #[.slice d dLen dCap, .slice a sLen sCap]).run P w = .ok (goInt 0) w := by
  cases hq : P.info? elem with
  | none => simp [hq] at hs
  | some i =>
    have hl : ∀ (x : Addr), (loadCells x 0).run P w = .ok #[] w := fun x => by simpa using run_loadCells_list (P := P) w x [] (by simp)
    cases d <;> cases a <;> simp [Builtin.copy_, run_underlying hu, Builtin.lenOf, Builtin.firstCells, sizeOf, typeInfo, hq, hn, storeCells, hl]
theorem copyR18 (w : World) (g L M cap : Nat) (p : Option Addr) (c : Nat) (Q X : Nat → Int × Int × Int × Int) (hr : RAt w g L X) (hM : M ≤ L) (hI : IsRn w p M Q) :
    ∃ w', (Builtin.copy_ #[23, 23] 3 #[.slice (some ⟨g, 0, none⟩) L cap, .slice p M c]).run Try.prog w = .ok (goInt M) w' ∧ Sh.Abo w g w' ∧ RAt w' g L (fun k => if k < M then Q k else X k) := by
  rcases Nat.eq_zero_or_pos M with h0 | h0
  · subst h0
    exact ⟨w, run_copy_none' _ _ _ _ _ 29 _ _ _ _ _ _ Try.underlying23 4 sizeR (by simp), Sh.Abo.refl w g, hr.congr (fun i _ => by simp)⟩
  · obtain ⟨b0, o0, rfl⟩ := hI.some0 h0
    obtain ⟨cur, hg, hs, hx⟩ := hr
    have len : ((List.range (M * 4)).map (fun i => Value.int .i64 (f4 (Q (i / 4)) (i % 4)))).length = M * 4 := by simp
    have hmin : Nat.min M L = M := Nat.min_eq_left hM
    have h := run_copy_rows Try.prog w 23 23 3 29 4 g 0 L cap ⟨b0, o0, none⟩ M c cur 29 ((List.range (M * 4)).map (fun i => Value.int .i64 (f4 (Q (i / 4)) (i % 4)))) Try.underlying23 sizeR hg (by rw [len, hmin]) ?_ (by rw [len]; omega) (by simp [Value.oneCell'])
    · rw [len, hmin] at h
      refine ⟨_, h, ⟨rfl, rfl, rfl, by simp [World.setRow], fun k _ hne => setRow_other w g k _ hne⟩, _, setRow_heap _ _ _ _ _ _ hg, ?_, fun i hi => ?_⟩
      · simp
        omega
      · rw [List.getElem?_toArray, List.take_zero, List.nil_append, Nat.zero_add]
        have e := take_drop18 (l := cur.toList) (m := (List.range (M * 4)).map (fun i => Value.int .i64 (f4 (Q (i / 4)) (i % 4)))) (i := i)
        rw [len] at e
        rw [e]
        dsimp only
        by_cases q : i < M * 4
        · rw [if_pos q, if_pos (show i / 4 < M by omega)]
          simp [q]
        · rw [if_neg q, if_neg (show ¬ i / 4 < M by omega), Array.getElem?_toList]
          exact hx i hi
    · intro j v hj
      obtain ⟨hj1, hj2⟩ := List.getElem?_eq_some_iff.1 hj
      simp at hj1 hj2
      rw [Sh.add_off, ← hj2]
      obtain ⟨-, -, c0, c1, c2, c3⟩ := hI.at0 (k := j / 4) (by omega)
      have q : j = j / 4 * 4 ∨ j = j / 4 * 4 + 1 ∨ j = j / 4 * 4 + 2 ∨ j = j / 4 * 4 + 3 := by omega
      have r : j % 4 = j - j / 4 * 4 := by omega
      generalize j / 4 = k at *
      rcases q with rfl | rfl | rfl | rfl
      · have z : k * 4 % 4 = 0 := by omega
        rw [z]
        exact c0
      · have z : (k * 4 + 1) % 4 = 1 := by omega
        rw [z, ← Nat.add_assoc]
        exact c1
      · have z : (k * 4 + 2) % 4 = 2 := by omega
        rw [z, ← Nat.add_assoc]
        exact c2
      · have z : (k * 4 + 3) % 4 = 3 := by omega
        rw [z, ← Nat.add_assoc]
        exact c3
theorem IsRn.congr18 {w : World} {p : Option Addr} {n : Nat} {R Q : Nat → Int × Int × Int × Int} (h : IsRn w p n R) (e : ∀ k, k < n → R k = Q k) : IsRn w p n Q := fun k hk => by rw [← e k hk]; exact h k hk
theorem three_in18 (v : World) (x : Int) (hx : Sh.W64 x := by unfold Sh.W64; omega) : IsI (v.alloc (.cells #[.int .i64 x, .int .i64 x, .int .i64 x] 2)) (some ⟨v.heap.size, 0, none⟩) 3 (fun _ => x) := by
  have h := heap_alloc_new v (.cells #[.int .i64 x, .int .i64 x, .int .i64 x] 2)
  intro k hk
  match k, hk with
  | 0, _ => exact ⟨hx, _, 0, rfl, lt_of_block h, cell_of_row _ _ 0 _ _ _ h⟩
  | 1, _ => exact ⟨hx, _, 0, rfl, lt_of_block h, cell_of_row _ _ 1 _ _ _ h⟩
  | 2, _ => exact ⟨hx, _, 0, rfl, lt_of_block h, cell_of_row _ _ 2 _ _ _ h⟩
theorem rowq18 {w : World} {g cap o n : Nat} {X : Nat → Value} {x : Nat → Int} (h : w.rowIs g 2 cap X) (hn : o + n ≤ cap) (hF : ∀ i, i < n → X (o + i) = .int .i64 (x i)) (hx : ∀ i, i < n → -9223372036854775808 ≤ x i ∧ x i ≤ 9223372036854775807) : IsI w (some ⟨g, o, none⟩) n x := fun k hk => ⟨hx k hk, g, o, rfl, h.lt, by rw [h.cell (by omega), hF k hk]⟩
theorem own_w18 {B n : Nat} {v : Value} {f : Nat → Int} {w : World} (h : Sh.Own B v ((List.range n).map f) w) (hf : ∀ c, c < n → Sh.W64 (f c)) : ∃ a0 cap, v = .slice a0 n cap ∧ IsI w a0 n f := by
  obtain ⟨a0, cap, e, i⟩ := Sh.Own.in h (fun x hx => by
    obtain ⟨j, hj, rfl⟩ := List.mem_map.1 hx
    exact hf j (List.mem_range.1 hj))
  rw [List.length_map, List.length_range] at e i
  exact ⟨a0, cap, e, i.congr (fun k hk => by simp [List.getD, hk])⟩
end Rn
end Go.Proofs.Ythcgbjkbnbeobaa
