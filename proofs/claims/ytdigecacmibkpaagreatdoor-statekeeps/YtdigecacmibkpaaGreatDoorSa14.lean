/-
  Some of the texts of this proof, one behind the other.
-/
import Derived.Laws.CopyOwn
import Derived.Deep.QuietTactic
import Derived.Laws.IdiomCopy
import Derived.Deep.RegionHeld3
import Derived.Test.YtdigecacmibkpaaGreatDoorSa13
namespace Go.Proofs.YtdigecacmibkpaaGreatDoor
open Go.RowKit Tf Cu Go.Deep
attribute [local go_sem] run_bits run_from raw_feq raw_fne raw_flt raw_fgt run_neg run_store_float
namespace Fc
theorem madeCells_size16 (z : Value) (n : Nat) : (madeCells #[z] n).size = n := by
  obtain ⟨c, h1, h2⟩ := World.rowIs_made default z n 0
  have e := heap_alloc_new (default : World) (Obj.cells (madeCells #[z] n) 0)
  rw [e] at h1
  injection h1 with h1
  injection h1 with h1
  rw [h1]
  exact h2.1
theorem copy16 (pa : Option Addr) (len ca : Nat) (xs : Nat → Nat) (w : World) (hA : IsFl w pa len xs) :
    ∃ v', (Builtin.copy_ #[30, 30] 3 #[.slice (some ⟨w.heap.size, 0, none⟩) len len, .slice pa len ca]).run Tryz.prog (w.alloc (Obj.cells (madeCells #[.float .f64 0] len) 22)) = .ok (goInt len) v' ∧ Below w.heap.size w v' ∧ v'.rowIs w.heap.size 22 len (fun i => .float .f64 (xs i)) := by
  have hs : (Tryz.prog.info? 22).map (·.size) = some 1 := by kernel_rfl
  by_cases c : len = 0
  · subst c
    exact ⟨_, run_copy_none _ _ _ _ 22 _ _ _ _ _ _ Tryz.underlying30 hs (by simp), bl1 _ _, (World.rowIs_made _ _ _ _).congr (fun i hi => by omega)⟩
  · obtain ⟨-, b, o, rfl, -, -⟩ := hA 0 (by omega)
    have sz := madeCells_size16 (.float .f64 0) len
    refine ⟨_, (run_copy_row Tryz.prog (w.alloc (Obj.cells (madeCells #[.float .f64 0] len) 22)) _ _ _ 22 w.heap.size 0 len len ⟨b, o, none⟩ len ca (madeCells #[.float .f64 0] len) 22 ((List.range len).map (fun i => .float .f64 (xs i))) Tryz.underlying30 hs (heap_alloc_new _ _) (by simp) ?_ (by simp [sz]) (by simp [Value.oneCell'])).trans (by simp; rfl), ?_, ?_⟩
    · intro j v hj
      obtain ⟨hj1, hj2⟩ := List.getElem?_eq_some_iff.1 hj
      simp at hj1 hj2
      have h := hA.at0 hj1
      rw [add_off12, (bl1 w _).cell (p := ⟨b, o + j, none⟩) h.2.1, h.2.2, ← hj2]
    · exact below_setRow (bl1 _ _) (Nat.le_refl _) _
    · refine ⟨_, setRow_heap _ _ _ _ _ _ (heap_alloc_new _ _), ?_⟩
      have e : (madeCells #[Value.float .f64 0] len).toList.drop len = [] := by simp [sz]
      rw [e, List.append_nil]
      refine ⟨by simp, fun i hi => ?_⟩
      simp [hi]
set_option maxRecDepth 100000 in
set_option maxHeartbeats 4000000 in
theorem rcopied16 (pa : Option Addr) (len ca : Nat) (xs : Nat → Nat) (w : World) (hl : len ≤ 4294967296) (hA : IsFl w pa len xs) :
    Calls Tryz.prog 61 #[.slice pa len ca] w fun e w' => ∃ b, e = .returned (.slice (some ⟨b, 0, none⟩) len len) ∧ Below w.heap.size w w' ∧ w'.rowIs b 22 len (fun i => .float .f64 (xs i)) ∧ w.heap.size ≤ b := by
  have M1 : ∀ v : World, (Instr.makeSlice 30 (.int .i64 (len : Nat)) (.int .i64 (len : Nat))).run Tryz.prog v = .ok (.slice (some ⟨v.heap.size, 0, none⟩) len len) (v.alloc (Obj.cells (madeCells #[.float .f64 0] len) 22)) := fun v =>
    run_make_row' (P := Tryz.prog) 30 22 (.float .f64 0) 8 Tryz.underlying30 infoF64 rfl .i64 .i64 len (by omega) (by omega) v
  have HA := hid hA
  clear hA hl
  go_enter Tryz.func61, Tryz.ntmps61
  obtain ⟨v', CP, bv, rv⟩ := copy16 pa len ca xs w HA.out
  have BV := hid bv
  have RV := hid rv
  clear bv rv HA
  go_wp2
  go_ret
  exact ⟨_, rfl, BV.out, RV.out, Nat.le_refl _⟩
end Fc
end Go.Proofs.YtdigecacmibkpaaGreatDoor

namespace Go.Proofs.YtdigecacmibkpaaGreatDoor
open Go.RowKit Go.Deep
namespace Rn
open Sh
/-- a rain's four cells -/
def cl4 (r : Int × Int × Int × Int) : List Value := [.int .i64 r.1, .int .i64 r.2.1, .int .i64 r.2.2.1, .int .i64 r.2.2.2]
/-- a list of rains of the call's own -/
def OwnR (B : Nat) (v : Value) (l : List (Int × Int × Int × Int)) (w : World) : Prop := w.ownsRow B 60 4 v l.length (l.flatMap cl4)
theorem cl4_at : ∀ (l : List (Int × Int × Int × Int)) (k j : Nat), k < l.length → j < 4 → (l.flatMap cl4)[k * 4 + j]? = (cl4 (l.getD k (0, 0, 0, 0)))[j]?
  | [], k, _, hk, _ => absurd hk (Nat.not_lt_zero k)
  | r :: l, 0, j, _, hj => by
    rw [List.flatMap_cons, List.getElem?_append_left (by show _ < 4; omega)]
    simp [List.getD]
  | r :: l, k + 1, j, hk, hj => by
    rw [List.flatMap_cons, List.getElem?_append_right (by show 4 ≤ _; omega)]
    have e : (k + 1) * 4 + j - (cl4 r).length = k * 4 + j := by show (k + 1) * 4 + j - 4 = _; omega
    rw [e, cl4_at l k j (by simpa using hk) hj]
    simp [List.getD]
theorem OwnR.in {B : Nat} {v : Value} {l : List (Int × Int × Int × Int)} {w : World} (h : OwnR B v l w) (h4 : ∀ r ∈ l, W4 r) : ∃ a0 cap, v = .slice a0 l.length cap ∧ IsRn w a0 l.length (fun j => l.getD j (0, 0, 0, 0)) := by
  rcases h.2 with ⟨rfl, h0⟩ | ⟨g, cap, cur, rfl, hb, hg, h1, h2, h3, h5⟩
  · exact ⟨none, 0, by rw [h0], fun k hk => by omega⟩
  · refine ⟨some ⟨g, 0, none⟩, cap, rfl, fun k hk => ?_⟩
    have hx : l.getD k (0, 0, 0, 0) = l[k] := by simp [List.getD, hk]
    have cc : ∀ j, j < 4 → ∀ u, (cl4 (l.getD k (0, 0, 0, 0)))[j]? = some u → w.cell? ⟨g, k * 4 + j, none⟩ = some u := fun j hj u hu => by
      have e := h.cells (g := g) rfl (k * 4 + j) u (by rw [cl4_at l k j hk hj]; exact hu)
      rw [Sh.add_off, Nat.zero_add] at e
      exact e
    refine ⟨by dsimp only; rw [hx]; exact h4 _ (List.getElem_mem _), g, 0, rfl, lt_of_block hg, ?_, ?_, ?_, ?_⟩
    · rw [Nat.zero_add]; exact cc 0 (by omega) _ rfl
    · rw [Nat.zero_add]; exact cc 1 (by omega) _ rfl
    · rw [Nat.zero_add]; exact cc 2 (by omega) _ rfl
    · rw [Nat.zero_add]; exact cc 3 (by omega) _ rfl
theorem OwnR.to {B : Nat} {v : Value} {l : List (Int × Int × Int × Int)} {w w' : World} (h : OwnR B v l w) (hb : Ab w w') : OwnR B v l w' := by
  refine ⟨h.1, ?_⟩
  rcases h.2 with h0 | ⟨g, cap, cur, e, hb', hg, h1, h2, h3, h4⟩
  · exact .inl h0
  · exact .inr ⟨g, cap, cur, e, hb', hb.heap hg, h1, h2, h3, h4⟩
end Rn
end Go.Proofs.YtdigecacmibkpaaGreatDoor

namespace Go.Proofs.YtdigecacmibkpaaGreatDoor
open Go.RowKit Go.Deep
namespace Rn
open Sh
/-- a rain's j-th number -/
def f4 (r : Int × Int × Int × Int) (j : Nat) : Int := if j = 0 then r.1 else if j = 1 then r.2.1 else if j = 2 then r.2.2.1 else r.2.2.2
/-- a block of so many rains -/
def RAt (w : World) (g m : Nat) (R : Nat → Int × Int × Int × Int) : Prop := w.rowIs g 60 (m * 4) (fun i => .int .i64 (f4 (R (i / 4)) (i % 4)))
theorem RAt.c {w : World} {g m k j : Nat} {R : Nat → Int × Int × Int × Int} (h : RAt w g m R) (hk : k < m) (hj : j < 4) : w.cell? ⟨g, k * 4 + j, none⟩ = some (.int .i64 (f4 (R k) j)) := by
  have e := World.rowIs.cell h (i := k * 4 + j) (by omega)
  rw [e]
  have h1 : (k * 4 + j) % 4 = j := by omega
  have h2 : (k * 4 + j) / 4 = k := by omega
  simp only [h1, h2]
theorem RAt.rn {w : World} {g m n : Nat} {R : Nat → Int × Int × Int × Int} (h : RAt w g m R) (hn : n ≤ m) (h4 : ∀ k, k < n → W4 (R k)) : IsRn w (some ⟨g, 0, none⟩) n R := fun k hk => ⟨h4 k hk, g, 0, rfl, World.rowIs.lt h, by
  rw [Nat.zero_add]
  exact ⟨RAt.c (j := 0) h (by omega) (by omega), RAt.c (j := 1) h (by omega) (by omega), RAt.c (j := 2) h (by omega) (by omega), RAt.c (j := 3) h (by omega) (by omega)⟩⟩
theorem RAt.to {w w' : World} {g m : Nat} {R : Nat → Int × Int × Int × Int} (h : RAt w g m R) (a : Ab w w') : RAt w' g m R := Sh.row_ab h a
theorem RAt.congr {w : World} {g m : Nat} {R Q : Nat → Int × Int × Int × Int} (h : RAt w g m R) (e : ∀ k, k < m → R k = Q k) : RAt w g m Q := World.rowIs.congr h (fun i hi => by rw [e (i / 4) (by omega)])
theorem RAt.put {w : World} {g m c : Nat} {R : Nat → Int × Int × Int × Int} (h : RAt w g m R) (r : Int × Int × Int × Int) :
    RAt ((((w.setCell ⟨g, c * 4, none⟩ (.int .i64 r.1)).setCell ⟨g, c * 4 + 1, none⟩ (.int .i64 r.2.1)).setCell ⟨g, c * 4 + 2, none⟩ (.int .i64 r.2.2.1)).setCell ⟨g, c * 4 + 3, none⟩ (.int .i64 r.2.2.2)) g m (fun k => if k = c then r else R k) := by
  refine ((((World.rowIs.set h (c * 4) (.int .i64 r.1)).set (c * 4 + 1) (.int .i64 r.2.1)).set (c * 4 + 2) (.int .i64 r.2.2.1)).set (c * 4 + 3) (.int .i64 r.2.2.2)).congr (fun i _ => ?_)
  by_cases e : i / 4 = c
  · have q : i = c * 4 ∨ i = c * 4 + 1 ∨ i = c * 4 + 2 ∨ i = c * 4 + 3 := by omega
    rcases q with rfl | rfl | rfl | rfl
    · simp [f4]
    · simp [f4, show (c * 4 + 1) / 4 = c by omega, show (c * 4 + 1) % 4 = 1 by omega]
    · simp [f4, show (c * 4 + 2) / 4 = c by omega, show (c * 4 + 2) % 4 = 2 by omega]
    · simp [f4, show (c * 4 + 3) / 4 = c by omega, show (c * 4 + 3) % 4 = 3 by omega]
  · have n0 : i ≠ c * 4 := by omega
    have n1 : i ≠ c * 4 + 1 := by omega
    have n2 : i ≠ c * 4 + 2 := by omega
    have n3 : i ≠ c * 4 + 3 := by omega
    simp [e, n0, n1, n2, n3]
theorem sizeI : (Tryz.prog.info? 2).map (·.size) = some 1 := by kernel_rfl
theorem take_drop18 {l m : List Value} {i : Nat} : (m ++ l.drop m.length)[i]? = if i < m.length then m[i]? else l[i]? := by
  by_cases h : i < m.length
  · rw [if_pos h, List.getElem?_append_left h]
  · rw [if_neg h, List.getElem?_append_right (by omega), List.getElem?_drop]
    congr 1
    omega
/-- the built-in copy onto a row -/
theorem copyI18 (w : World) (g L M cap : Nat) (p : Option Addr) (c : Nat) (f : Nat → Int) (x : Nat → Value) (hr : w.rowIs g 2 L x) (hM : M ≤ L) (hI : IsI w p M f) :
    ∃ w', (Builtin.copy_ #[31, 31] 3 #[.slice (some ⟨g, 0, none⟩) L cap, .slice p M c]).run Tryz.prog w = .ok (goInt M) w' ∧ Sh.Abo w g w' ∧ w'.rowIs g 2 L (fun i => if i < M then .int .i64 (f i) else x i) := by
  rcases Nat.eq_zero_or_pos M with h0 | h0
  · subst h0
    exact ⟨w, run_copy_none _ _ _ _ 2 _ _ _ _ _ _ Tryz.underlying31 sizeI (by simp), Sh.Abo.refl w g, hr.congr (fun i _ => by simp)⟩
  · obtain ⟨b0, o0, rfl⟩ := hI.some0 h0
    obtain ⟨cur, hg, hs, hx⟩ := hr
    have len : ((List.range M).map (fun i => Value.int .i64 (f i))).length = M := by simp
    have h := run_copy_row (P := Tryz.prog) w 31 31 3 2 g 0 L cap ⟨b0, o0, none⟩ M c cur 2 ((List.range M).map (fun i => Value.int .i64 (f i))) Tryz.underlying31 sizeI hg (by rw [len]; exact (Nat.min_eq_left hM).symm) ?_ (by rw [len]; omega) (by simp [Value.oneCell'])
    · rw [len] at h
      refine ⟨_, h, ⟨rfl, rfl, rfl, by simp [World.setRow], fun k _ hne => setRow_other w g k _ hne⟩, _, setRow_heap _ _ _ _ _ _ hg, ?_, fun i hi => ?_⟩
      · simp
        omega
      · rw [List.getElem?_toArray, List.take_zero, List.nil_append, Nat.zero_add]
        have e := take_drop18 (l := cur.toList) (m := (List.range M).map (fun i => Value.int .i64 (f i))) (i := i)
        rw [len] at e
        rw [e]
        dsimp only
        by_cases q : i < M
        · rw [if_pos q, if_pos q]
          simp [q]
        · rw [if_neg q, if_neg q, Array.getElem?_toList]
          exact hx i hi
    · intro j v hj
      obtain ⟨hj1, hj2⟩ := List.getElem?_eq_some_iff.1 hj
      simp at hj1 hj2
      rw [Sh.add_off, ← hj2]
      exact (hI.at0 hj1).2.2
end Rn
end Go.Proofs.YtdigecacmibkpaaGreatDoor

namespace Go.Proofs.YtdigecacmibkpaaGreatDoor
open Go.RowKit Tf Cu Go.Deep
attribute [local go_sem] run_bits run_from raw_feq raw_fne raw_flt raw_fgt run_neg run_store_float
namespace Ss
theorem row_obj {w : World} {b n : Nat} {t : TypeId} {f : Nat → Value} (h : w.rowIs b t n f) : w.heap[b]? = some (.cells ((List.range n).map f).toArray t) := by
  obtain ⟨c, h1, h2, h3⟩ := h
  rw [h1]
  have e : c = ((List.range n).map f).toArray := by
    apply Array.ext_getElem?
    intro i
    by_cases hi : i < n
    · rw [h3 i hi]
      simp [hi]
    · rw [Array.getElem?_eq_none (by omega), Array.getElem?_eq_none (by simp; omega)]
  rw [e]
theorem obj_row {w : World} {b n : Nat} {t : TypeId} {f : Nat → Value} (h : w.heap[b]? = some (.cells ((List.range n).map f).toArray t)) : w.rowIs b t n f := ⟨_, h, by simp, fun i hi => by simp [hi]⟩
theorem rows_own {B g n : Nat} {t : TypeId} {F : Nat → Value} {w : World} (h : w.rowIs g t n F) (hB : B ≤ g) (hc : n ≤ maxLen) : w.ownsRow B t 1 (.slice (some ⟨g, 0, none⟩) n n) n ((List.range n).map F) := by
  obtain ⟨c, hb, hs, hf⟩ := h
  refine ⟨by simp, .inr ⟨g, n, c, rfl, hB, hb, Nat.le_refl _, hc, by omega, ?_⟩⟩
  apply List.ext_getElem?
  intro i
  by_cases hi : i < n
  · have := hf i hi
    simp [hi, this]
  · simp [hi, hs]
theorem ownG_row {B g n : Nat} {f : Nat → Nat} {w : World} (h : w.rowIs g 22 n (fun i => .float .f64 (f i))) (hB : B ≤ g) (hc : n ≤ maxLen) : OwnG B (.slice (some ⟨g, 0, none⟩) n n) ((List.range n).map f) w := by
  have q := rows_own h hB hc
  unfold OwnG
  simpa [Function.comp_def] using q
theorem own_rowI {B g n : Nat} {f : Nat → Int} {w : World} (h : w.rowIs g 2 n (fun i => .int .i64 (f i))) (hB : B ≤ g) (hc : n ≤ maxLen) : Sh.Own B (.slice (some ⟨g, 0, none⟩) n n) ((List.range n).map f) w := by
  have q := rows_own h hB hc
  unfold Sh.Own
  simpa [Function.comp_def] using q
theorem len_run {P : Program} {a : Act} {o : Oper} {x : Operand} {T E : TypeId} {p : Option Addr} {n c : Nat} (ho : o.op = .call { callee := .builtin .len, args := #[x], argTypes := #[T] }) (hu : P.underlying T = some (.slice E)) (hx : a.eval x = .slice p n c) (w : World) : (execOp a.eval o).run P w = .ok (.value (.int .i64 (n : Nat))) w := by
  have e : ∃ cs, execOp a.eval o = builtin .len #[T] o.type cs #[a.eval x] := ⟨(#[x].map fun | .const _ => true | _ => false), by
    unfold execOp
    simp only [ho, resolve, invoke, pure_bind, List.map_toArray, List.map_cons, List.map_nil]
    rfl⟩
  obtain ⟨cs, e⟩ := e
  rw [e, BigFrame.builtin_len, hx]
  have u := run_underlying hu w
  simp [go_sem, Builtin.len_, u, goInt]
theorem enter_run {P : Program} {a : Act} {o : Oper} {x : Operand} {f : FuncId} {fn : Func} {ats : Array TypeId} {v : Value} (ho : o.op = .call { callee := .value (.func f), args := #[x], argTypes := ats }) (hx : a.eval x = v) (hf : P.funcs[f]? = some fn) (hn : (fn.name == "runtime.NumGoroutine") = false) (hb : fn.body.isNone = false) (w : World) : (execOp a.eval o).run P w = .ok (.enter f #[v]) w := by
  have h1 : fn.name ≠ "runtime.NumGoroutine" := by simpa using hn
  have ef : a.eval (.func f) = .func (.func f) #[] #[] := rfl
  have e : execOp a.eval o = callFunc f #[v] := by
    unfold execOp
    simp [ho, resolve, Deferred.ofValue, invoke, ef, hx]
  obtain ⟨c, hc⟩ : ∃ c, fn.body = some c := by
    cases h : fn.body with
    | none => simp [h] at hb
    | some c => exact ⟨c, rfl⟩
  rw [e]
  simp [callFunc, hf, h1, hc]
theorem wpFree_val {P : Program} {ops : Array Oper} {W : World} {sp : Nat → Option (Obj × (Nat → Value))} {Q : Act → (Nat → Option Nat) → Prop} {o : Oper} {rest : List Oper} {k : Nat} {a : Act} {S : Nat → Option Nat} (v : Value) (hs : sp k = none) (hw : Region.wanted o (yielded ops a.tmps) = true) (hr : ∀ w, (execOp a.eval o).run P w = .ok (.value v) w)
    (h : Cf.wpFree P ops W sp Q rest (k + 1) (a.put o.dst v) S) : Cf.wpFree P ops W sp Q (o :: rest) k a S := by
  simp only [Cf.wpFree, hs]
  exact ⟨v, .inl ⟨hw, fun w _ => hr w⟩, h⟩
set_option maxRecDepth 100000 in
set_option maxHeartbeats 64000000 in
theorem rcopy20 (pb : Option Addr) (lb cb : Nat) (B : Nat → Nat) (pw : Option Addr) (lw cw : Nat) (W : Nat → Int) (pt : Option Addr) (lt ct : Nat) (T : Nat → Int) (ps : Option Addr) (ls cs : Nat) (S : Nat → Nat) (sky st : Int) (w : World) (HL : Hid (lb ≤ 131072 ∧ lw ≤ 131072 ∧ lt ≤ 131072 ∧ ls ≤ 131072)) (i1 : IsFl w pb lb B) (i2 : Sh.IsI w pw lw W) (i3 : Sh.IsI w pt lt T) (i4 : IsFl w ps ls S) :
    Calls Tryz.prog 27 #[.agg #[.slice pb lb cb, .slice pw lw cw, .slice pt lt ct, .slice ps ls cs, .int .i64 sky, .int .i64 st]] w fun e w' => ∃ v, e = .returned v ∧ Below w.heap.size w w' ∧ OwnS w.heap.size v lb lw lt ls B W T S sky st w' := by
  have I1 := hid i1
  have I2 := hid i2
  have I3 := hid i3
  have I4 := hid i4
  have M2 : ∀ v : World, (Instr.makeSlice 31 (.int .i64 (lw : Nat)) (.int .i64 (lw : Nat))).run Tryz.prog v = .ok (.slice (some ⟨v.heap.size, 0, none⟩) lw lw) (v.alloc (Obj.cells (madeCells #[.int .i64 0] lw) 2)) := fun v => run_make_row' (P := Tryz.prog) 31 2 (.int .i64 0) 8 Tryz.underlying31 info64 rfl .i64 .i64 lw (by have := HL.out; omega) (by have := HL.out; omega) v
  have M3 : ∀ v : World, (Instr.makeSlice 31 (.int .i64 (lt : Nat)) (.int .i64 (lt : Nat))).run Tryz.prog v = .ok (.slice (some ⟨v.heap.size, 0, none⟩) lt lt) (v.alloc (Obj.cells (madeCells #[.int .i64 0] lt) 2)) := fun v => run_make_row' (P := Tryz.prog) 31 2 (.int .i64 0) 8 Tryz.underlying31 info64 rfl .i64 .i64 lt (by have := HL.out; omega) (by have := HL.out; omega) v
  have AL : ∀ v : World, (Instr.alloc 33 true (.tuple #[])).run Tryz.prog v = .ok (.pointer (some ⟨v.heap.size, 0, none⟩)) (v.alloc (.cells #[.slice none 0 0, .slice none 0 0, .slice none 0 0, .slice none 0 0, .int .i64 0, .int .i64 0] 33)) := fun v => by
    simp [go_sem]
  have A0 : Hid (Ab w ((w.alloc (.cells #[.slice pb lb cb, .slice pw lw cw, .slice pt lt ct, .slice ps ls cs, .int .i64 sky, .int .i64 st] 33)).alloc (.cells #[.slice none 0 0, .slice none 0 0, .slice none 0 0, .slice none 0 0, .int .i64 0, .int .i64 0] 33))) := bl2 _ _ _
  have R0 : Hid (((w.alloc (.cells #[.slice pb lb cb, .slice pw lw cw, .slice pt lt ct, .slice ps ls cs, .int .i64 sky, .int .i64 st] 33)).alloc (.cells #[.slice none 0 0, .slice none 0 0, .slice none 0 0, .slice none 0 0, .int .i64 0, .int .i64 0] 33)).heap[w.heap.size]? = some (.cells #[.slice pb lb cb, .slice pw lw cw, .slice pt lt ct, .slice ps ls cs, .int .i64 sky, .int .i64 st] 33)) := heap_alloc2_old _ _ _
  have Q0 : Hid (((w.alloc (.cells #[.slice pb lb cb, .slice pw lw cw, .slice pt lt ct, .slice ps ls cs, .int .i64 sky, .int .i64 st] 33)).alloc (.cells #[.slice none 0 0, .slice none 0 0, .slice none 0 0, .slice none 0 0, .int .i64 0, .int .i64 0] 33)).heap[w.heap.size + 1]? = some (.cells #[.slice none 0 0, .slice none 0 0, .slice none 0 0, .slice none 0 0, .int .i64 0, .int .i64 0] 33)) := heap_alloc2_new _ _ _
  clear i1 i2 i3 i4
  go_enter Tryz.func27, Tryz.ntmps27
  go_upto_region 1 with fail
  generalize hW : World.alloc (World.alloc w _) _ = V0 at *
  obtain ⟨ga, hga⟩ : ∃ g, w.heap.size = g := ⟨_, rfl⟩
  obtain ⟨gr, hgr⟩ : ∃ g, w.heap.size + 1 = g := ⟨_, rfl⟩
  have HG : Hid (w.heap.size ≤ gr) := by show _ ≤ _; omega
  rw [hgr] at Q0 ⊢
  rw [hga] at R0 ⊢
  clear hga hgr hW
  go_cut [3] from 4 to 22 (fun s3 wx => ∃ g5 b1 b2 b3 b4, s3 = .pointer (some ⟨g5, 0, none⟩) ∧ Ab V0 wx ∧ wx.heap[g5]? = some (.cells #[.slice (some ⟨b1, 0, none⟩) lb lb, .slice (some ⟨b2, 0, none⟩) lw lw, .slice (some ⟨b3, 0, none⟩) lt lt, .slice (some ⟨b4, 0, none⟩) ls ls, .int .i64 sky, .int .i64 st] 33) ∧ wx.heap[b1]? = some (Obj.cells ((List.range lb).map (fun i => Value.float .f64 (B i))).toArray 22) ∧ wx.heap[b2]? = some (Obj.cells (madeCells #[.int .i64 0] lw) 2) ∧ wx.heap[b3]? = some (Obj.cells (madeCells #[.int .i64 0] lt) 2) ∧ wx.heap[b4]? = some (Obj.cells ((List.range ls).map (fun i => Value.float .f64 (S i))).toArray 22) ∧ (V0.heap.size ≤ b1 ∧ V0.heap.size ≤ b2 ∧ V0.heap.size ≤ b3 ∧ V0.heap.size ≤ b4 ∧ V0.heap.size ≤ g5) ∧ (b2 ≠ b3 ∧ b1 ≠ b4 ∧ b2 ≠ g5 ∧ b3 ≠ g5 ∧ b1 ≠ b2 ∧ b1 ≠ b3 ∧ b4 ≠ b2 ∧ b4 ≠ b3))
  case first =>
    obtain ⟨UU, E, hF1, hF2⟩ := cls V0.drew
    have HU := hid hF2
    have HU1 := hid hF1
    have e0 : ∀ u, (E u).cell? ⟨ga, 0, none⟩ = some (.slice pb lb cb) := fun u => cell_of_row _ _ 0 _ _ _ ((hF1 u).heap R0.out)
    have e1 : ∀ u, (E u).cell? ⟨ga, 1, none⟩ = some (.slice pw lw cw) := fun u => cell_of_row _ _ 1 _ _ _ ((hF1 u).heap R0.out)
    have e2 : ∀ u, (E u).cell? ⟨ga, 2, none⟩ = some (.slice pt lt ct) := fun u => cell_of_row _ _ 2 _ _ _ ((hF1 u).heap R0.out)
    have e3 : ∀ u, (E u).cell? ⟨ga, 3, none⟩ = some (.slice ps ls cs) := fun u => cell_of_row _ _ 3 _ _ _ ((hF1 u).heap R0.out)
    have e4 : ∀ u, (E u).cell? ⟨ga, 4, none⟩ = some (.int .i64 sky) := fun u => cell_of_row _ _ 4 _ _ _ ((hF1 u).heap R0.out)
    have e5 : ∀ u, (E u).cell? ⟨ga, 5, none⟩ = some (.int .i64 st) := fun u => cell_of_row _ _ 5 _ _ _ ((hF1 u).heap R0.out)
    have C1 : Hid (∀ v, Ab V0.drew v → Calls Tryz.prog 61 #[.slice pb lb cb] v (fun e w2 => ∃ b, e = .returned (.slice (some ⟨b, 0, none⟩) lb lb) ∧ Ab v w2 ∧ v.heap.size ≤ b ∧ w2.heap[b]? = some (Obj.cells ((List.range lb).map (fun i => Value.float .f64 (B i))).toArray 22))) := fun v a => (Fc.rcopied16 pb lb cb B v (by have := HL.out; omega) (I1.out.below (A0.out.trans ((Ab.refl V0).drew.trans a)))).mono fun e w2 h => by
      obtain ⟨b, rfl, k1, k2, k3⟩ := h
      exact ⟨b, rfl, k1, k3, row_obj k2⟩
    have C4 : Hid (∀ v, Ab V0.drew v → Calls Tryz.prog 61 #[.slice ps ls cs] v (fun e w2 => ∃ b, e = .returned (.slice (some ⟨b, 0, none⟩) ls ls) ∧ Ab v w2 ∧ v.heap.size ≤ b ∧ w2.heap[b]? = some (Obj.cells ((List.range ls).map (fun i => Value.float .f64 (S i))).toArray 22))) := fun v a => (Fc.rcopied16 ps ls cs S v (by have := HL.out; omega) (I4.out.below (A0.out.trans ((Ab.refl V0).drew.trans a)))).mono fun e w2 h => by
      obtain ⟨b, rfl, k1, k2, k3⟩ := h
      exact ⟨b, rfl, k1, k3, row_obj k2⟩
    clear hF1 hF2
    refine Cf.region_free 20 (fun k => if k = 2 then some ((Obj.cells ((List.range lb).map (fun i => Value.float .f64 (B i))).toArray 22), fun b => .slice (some ⟨b, 0, none⟩) lb lb) else if k = 6 then some ((Obj.cells (madeCells #[.int .i64 0] lw) 2), fun b => .slice (some ⟨b, 0, none⟩) lw lw) else if k = 10 then some ((Obj.cells (madeCells #[.int .i64 0] lt) 2), fun b => .slice (some ⟨b, 0, none⟩) lt lt) else if k = 13 then some ((Obj.cells ((List.range ls).map (fun i => Value.float .f64 (S i))).toArray 22), fun b => .slice (some ⟨b, 0, none⟩) ls ls) else if k = 19 then some ((.cells #[.slice none 0 0, .slice none 0 0, .slice none 0 0, .slice none 0 0, .int .i64 0, .int .i64 0] 33), fun b => .pointer (some ⟨b, 0, none⟩)) else none) (by kernel_rfl) (by kernel_rfl) (by kernel_rfl) ?_
    simp only [List.take_succ_cons, List.take_zero]
    refine Cf.wpFree_one HU (by rfl) (by rfl) ?_
    go_big_quiet_step (with_reducible rfl)
    refine wpQuiet_nil ?_
    refine Cf.wpFree_one HU (by rfl) (by rfl) ?_
    go_big_quiet_step (with_reducible rfl)
    refine wpQuiet_nil ?_
    refine Cf.wpFree_lay (ob := (Obj.cells ((List.range lb).map (fun i => Value.float .f64 (B i))).toArray 22)) (mk := fun b => .slice (some ⟨b, 0, none⟩) lb lb) (by rfl) (by kernel_rfl) ?_ ?_
    · refine Cf.lay_call (f := 61) (args := #[.slice pb lb cb]) ?_ C1.out
      intro v
      refine enter_run (x := .tmp 5) (ats := #[30]) (by rfl) (by rfl) Tryz.func61 (by kernel_rfl) (by kernel_rfl) v
    intro b1 fb1
    simp only [Act.put, List.setIfInBounds_toArray, List.set_cons_succ, List.set_cons_zero]
    refine Cf.wpFree_one HU (by rfl) (by rfl) ?_
    go_big_quiet_step (with_reducible rfl)
    refine wpQuiet_nil ?_
    refine Cf.wpFree_one HU (by rfl) (by rfl) ?_
    go_big_quiet_step (with_reducible rfl)
    refine wpQuiet_nil ?_
    refine wpFree_val (.int .i64 (lw : Nat)) (by rfl) (by kernel_rfl) (fun v => len_run (x := .tmp 8) rfl Tryz.underlying31 rfl v) ?_
    simp only [Act.put, List.setIfInBounds_toArray, List.set_cons_succ, List.set_cons_zero]
    refine Cf.wpFree_lay (ob := (Obj.cells (madeCells #[.int .i64 0] lw) 2)) (mk := fun b => .slice (some ⟨b, 0, none⟩) lw lw) (by rfl) (by kernel_rfl) ?_ ?_
    · refine Cf.lay_run (lay_make (vx := .int .i64 (lw : Nat)) (vy := .int .i64 (lw : Nat)) (ob := (Obj.cells (madeCells #[.int .i64 0] lw) 2)) (mk := fun b => .slice (some ⟨b, 0, none⟩) lw lw) rfl ?_ ?_ ?_)
      · rfl
      · rfl
      · exact M2
    intro b2 fb2
    simp only [Act.put, List.setIfInBounds_toArray, List.set_cons_succ, List.set_cons_zero]
    refine Cf.wpFree_one HU (by rfl) (by rfl) ?_
    go_big_quiet_step (with_reducible rfl)
    refine wpQuiet_nil ?_
    refine Cf.wpFree_one HU (by rfl) (by rfl) ?_
    go_big_quiet_step (with_reducible rfl)
    refine wpQuiet_nil ?_
    refine wpFree_val (.int .i64 (lt : Nat)) (by rfl) (by kernel_rfl) (fun v => len_run (x := .tmp 12) rfl Tryz.underlying31 rfl v) ?_
    simp only [Act.put, List.setIfInBounds_toArray, List.set_cons_succ, List.set_cons_zero]
    refine Cf.wpFree_lay (ob := (Obj.cells (madeCells #[.int .i64 0] lt) 2)) (mk := fun b => .slice (some ⟨b, 0, none⟩) lt lt) (by rfl) (by kernel_rfl) ?_ ?_
    · refine Cf.lay_run (lay_make (vx := .int .i64 (lt : Nat)) (vy := .int .i64 (lt : Nat)) (ob := (Obj.cells (madeCells #[.int .i64 0] lt) 2)) (mk := fun b => .slice (some ⟨b, 0, none⟩) lt lt) rfl ?_ ?_ ?_)
      · rfl
      · rfl
      · exact M3
    intro b3 fb3
    simp only [Act.put, List.setIfInBounds_toArray, List.set_cons_succ, List.set_cons_zero]
    refine Cf.wpFree_one HU (by rfl) (by rfl) ?_
    go_big_quiet_step (with_reducible rfl)
    refine wpQuiet_nil ?_
    refine Cf.wpFree_one HU (by rfl) (by rfl) ?_
    go_big_quiet_step (with_reducible rfl)
    refine wpQuiet_nil ?_
    refine Cf.wpFree_lay (ob := (Obj.cells ((List.range ls).map (fun i => Value.float .f64 (S i))).toArray 22)) (mk := fun b => .slice (some ⟨b, 0, none⟩) ls ls) (by rfl) (by kernel_rfl) ?_ ?_
    · refine Cf.lay_call (f := 61) (args := #[.slice ps ls cs]) ?_ C4.out
      intro v
      refine enter_run (x := .tmp 16) (ats := #[30]) (by rfl) (by rfl) Tryz.func61 (by kernel_rfl) (by kernel_rfl) v
    intro b4 fb4
    simp only [Act.put, List.setIfInBounds_toArray, List.set_cons_succ, List.set_cons_zero]
    refine Cf.wpFree_one HU (by rfl) (by rfl) ?_
    go_big_quiet_step (with_reducible rfl)
    refine wpQuiet_nil ?_
    refine Cf.wpFree_one HU (by rfl) (by rfl) ?_
    go_big_quiet_step (with_reducible rfl)
    refine wpQuiet_nil ?_
    refine Cf.wpFree_one HU (by rfl) (by rfl) ?_
    go_big_quiet_step (with_reducible rfl)
    refine wpQuiet_nil ?_
    refine Cf.wpFree_one HU (by rfl) (by rfl) ?_
    go_big_quiet_step (with_reducible rfl)
    refine wpQuiet_nil ?_
    refine Cf.wpFree_one HU (by rfl) (by rfl) ?_
    go_big_quiet_step (with_reducible rfl)
    refine wpQuiet_nil ?_
    refine Cf.wpFree_lay (ob := (.cells #[.slice none 0 0, .slice none 0 0, .slice none 0 0, .slice none 0 0, .int .i64 0, .int .i64 0] 33)) (mk := fun b => .pointer (some ⟨b, 0, none⟩)) (by rfl) (by kernel_rfl) ?_ ?_
    · refine Cf.lay_run (lay_alloc (ob := (.cells #[.slice none 0 0, .slice none 0 0, .slice none 0 0, .slice none 0 0, .int .i64 0, .int .i64 0] 33)) (mk := fun b => .pointer (some ⟨b, 0, none⟩)) rfl ?_)
      exact AL
    intro g5 fg5
    simp only [Act.put, List.setIfInBounds_toArray, List.set_cons_succ, List.set_cons_zero]
    refine Cf.wpFree_nil ?_
    intro wz hz
    have h1 := hz.at (i := 2) (b := b1) (ob := (Obj.cells ((List.range lb).map (fun i => Value.float .f64 (B i))).toArray 22)) (by rfl) (by rfl)
    have h2 := hz.at (i := 6) (b := b2) (ob := (Obj.cells (madeCells #[.int .i64 0] lw) 2)) (by rfl) (by rfl)
    have h3 := hz.at (i := 10) (b := b3) (ob := (Obj.cells (madeCells #[.int .i64 0] lt) 2)) (by rfl) (by rfl)
    have h4 := hz.at (i := 13) (b := b4) (ob := (Obj.cells ((List.range ls).map (fun i => Value.float .f64 (S i))).toArray 22)) (by rfl) (by rfl)
    have h5 := hz.at (i := 19) (b := g5) (ob := (.cells #[.slice none 0 0, .slice none 0 0, .slice none 0 0, .slice none 0 0, .int .i64 0, .int .i64 0] 33)) (by rfl) (by rfl)
    have n23 : b2 ≠ b3 := fb3.2 6 b2 (by rfl)
    have n14 : b1 ≠ b4 := fb4.2 2 b1 (by rfl)
    have n12 : b1 ≠ b2 := fb2.2 2 b1 (by rfl)
    have n13 : b1 ≠ b3 := fb3.2 2 b1 (by rfl)
    have n24 : b2 ≠ b4 := fb4.2 6 b2 (by rfl)
    have n34 : b3 ≠ b4 := fb4.2 10 b3 (by rfl)
    have n15 : b1 ≠ g5 := fg5.2 2 b1 (by rfl)
    have n25 : b2 ≠ g5 := fg5.2 6 b2 (by rfl)
    have n35 : b3 ≠ g5 := fg5.2 10 b3 (by rfl)
    have n45 : b4 ≠ g5 := fg5.2 13 b4 (by rfl)
    have AZ : Ab V0 wz := (Ab.refl V0).drew.trans hz.1
    have RZ := hid h5.1
    have HH := hid (And.intro h1 (And.intro h2 (And.intro h3 (And.intro h4 h5))))
    have NN := hid (And.intro n23 (And.intro n14 (And.intro n12 (And.intro n13 (And.intro n24 (And.intro n34 (And.intro n15 (And.intro n25 (And.intro n35 n45)))))))))
    have HAZ := hid AZ
    clear hz fb1 fb2 fb3 fb4 fg5 h1 h2 h3 h4 h5 n23 n14 n12 n13 n24 n34 n15 n25 n35 n45 AZ HU HU1 e0 e1 e2 e3 e4 e5 C1 C4
    clear E UU
    have t0 := cell_of_row _ _ 0 _ _ _ RZ.out
    have t1 := cell_of_row _ _ 1 _ _ _ RZ.out
    have t2 := cell_of_row _ _ 2 _ _ _ RZ.out
    have t3 := cell_of_row _ _ 3 _ _ _ RZ.out
    have t4 := cell_of_row _ _ 4 _ _ _ RZ.out
    have t5 := cell_of_row _ _ 5 _ _ _ RZ.out
    have f0 := free_row RZ.out 0
    have f1 := free_row RZ.out 1
    have f2 := free_row RZ.out 2
    have f3 := free_row RZ.out 3
    have f4 := free_row RZ.out 4
    have f5 := free_row RZ.out 5
    simp only [List.drop_succ_cons, List.drop_zero]
    go_wp2_with fail
    go_meet
    obtain ⟨⟨k1, l1⟩, ⟨k2, l2⟩, ⟨k3, l3⟩, ⟨k4, l4⟩, ⟨k5, l5⟩⟩ := HH.out
    obtain ⟨n23, n14, n12, n13, n24, n34, n15, n25, n35, n45⟩ := NN.out
    have st : ∀ (b : Nat) (o : Obj), b ≠ g5 → wz.heap[b]? = some o → ∀ x0 x1 x2 x3 x4 x5, ((((((wz.setCell ⟨g5, 0, none⟩ x0).setCell ⟨g5, 1, none⟩ x1).setCell ⟨g5, 2, none⟩ x2).setCell ⟨g5, 3, none⟩ x3).setCell ⟨g5, 4, none⟩ x4).setCell ⟨g5, 5, none⟩ x5).heap[b]? = some o := fun b o hb h x0 x1 x2 x3 x4 x5 => by
      rw [heap_set_ne hb, heap_set_ne hb, heap_set_ne hb, heap_set_ne hb, heap_set_ne hb, heap_set_ne hb]
      exact h
    refine ⟨g5, b1, b2, b3, b4, rfl, ?_, row6 k5, st b1 _ n15 k1 _ _ _ _ _ _, st b2 _ n25 k2 _ _ _ _ _ _, st b3 _ n35 k3 _ _ _ _ _ _, st b4 _ n45 k4 _ _ _ _ _ _, ⟨l1, l2, l3, l4, l5⟩, n23, n14, n25, n35, n12, n13, Ne.symm n24, Ne.symm n34⟩
    exact (((((HAZ.out.setk l5 _).setk l5 _).setk l5 _).setk l5 _).setk l5 _).setk l5 _
  case rest =>
    obtain ⟨g5, b1, b2, b3, b4, rfl, a4, r5, m1, m2, m3, m4, hl, hn⟩ := hcut
    rename World => V1
    have A1 : Hid (Ab V0 V1) := a4
    have RS := hid (A1.out.heap R0.out)
    have RQ := hid (A1.out.heap Q0.out)
    have R5 := hid r5
    have N1 := hid m1
    have N2 : Hid (V1.rowIs b2 2 lw (fun _ => .int .i64 0)) := made_row m2
    have N3 : Hid (V1.rowIs b3 2 lt (fun _ => .int .i64 0)) := made_row m3
    have N4 := hid m4
    have LL := hid hl
    have NN := hid hn
    have AW : Hid (Ab w V1) := A0.out.trans A1.out
    have GL : Hid (ga < V0.heap.size ∧ gr < V0.heap.size) := ⟨Rv.lt_of_get R0.out, Rv.lt_of_get Q0.out⟩
    clear a4 r5 m1 m2 m3 m4 hl hn M2 M3 AL
    obtain ⟨V2, CP2, a2, r2⟩ := Rn.copyI18 V1 b2 lw lw lw pw cw W _ N2.out (Nat.le_refl _) (I2.out.below AW.out)
    have A2 : Hid (Ab V0 V2) := Sh.Abo.ab a2 A1.out LL.out.2.1
    have W2 := hid r2
    have N13 := hid (Sh.rowIs_abo N3.out a2 (Ne.symm NN.out.1))
    have N11 := hid (Sh.rowIs_abo (obj_row N1.out) a2 NN.out.2.2.2.2.1)
    have N14 := hid (Sh.rowIs_abo (obj_row N4.out) a2 NN.out.2.2.2.2.2.2.1)
    have R52 := hid ((a2.2.2.2.2 g5 (Rv.lt_of_get R5.out) (Ne.symm NN.out.2.2.1)).trans R5.out)
    have RS2 := hid (A2.out.heap R0.out)
    have RQ2 := hid (A2.out.heap Q0.out)
    have AW2 : Hid (Ab w V2) := A0.out.trans A2.out
    have x0 := cell_of_row _ _ 1 _ _ _ R5.out
    have x1 := cell_of_row _ _ 1 _ _ _ RS.out
    clear a2 r2 N1 N2 N3 N4 A1 AW RQ
    go_upto_region 3 with fail
    clear x0 x1 CP2 RS R5
    obtain ⟨V3, CP3, a3, r3⟩ := Rn.copyI18 V2 b3 lt lt lt pt ct T _ N13.out (Nat.le_refl _) (I3.out.below AW2.out)
    have A3 : Hid (Ab V0 V3) := Sh.Abo.ab a3 A2.out LL.out.2.2.1
    have T3 := hid r3
    have W3 := hid (Sh.rowIs_abo W2.out a3 NN.out.1)
    have N21 := hid (Sh.rowIs_abo N11.out a3 NN.out.2.2.2.2.2.1)
    have N24 := hid (Sh.rowIs_abo N14.out a3 NN.out.2.2.2.2.2.2.2)
    have R53 := hid ((a3.2.2.2.2 g5 (Rv.lt_of_get R52.out) (Ne.symm NN.out.2.2.2.1)).trans R52.out)
    have RQ3 := hid (A3.out.heap Q0.out)
    have x0 := cell_of_row _ _ 2 _ _ _ R52.out
    have x1 := cell_of_row _ _ 2 _ _ _ RS2.out
    clear a3 r3 N11 N13 N14 W2 A2 AW2 RQ2
    go_upto_region 4 with fail
    clear x0 x1 CP3 RS2 R52
    have x0 := cell_of_row _ _ 0 _ _ _ R53.out
    have x1 := cell_of_row _ _ 1 _ _ _ R53.out
    have x2 := cell_of_row _ _ 2 _ _ _ R53.out
    have x3 := cell_of_row _ _ 3 _ _ _ R53.out
    have x4 := cell_of_row _ _ 4 _ _ _ R53.out
    have x5 := cell_of_row _ _ 5 _ _ _ R53.out
    have t0 := cell_of_row _ _ 0 _ _ _ RQ3.out
    have t1 := cell_of_row _ _ 1 _ _ _ RQ3.out
    have t2 := cell_of_row _ _ 2 _ _ _ RQ3.out
    have t3 := cell_of_row _ _ 3 _ _ _ RQ3.out
    have t4 := cell_of_row _ _ 4 _ _ _ RQ3.out
    have t5 := cell_of_row _ _ 5 _ _ _ RQ3.out
    have f0 := free_row RQ3.out 0
    have f1 := free_row RQ3.out 1
    have f2 := free_row RQ3.out 2
    have f3 := free_row RQ3.out 3
    have f4 := free_row RQ3.out 4
    have f5 := free_row RQ3.out 5
    go_wp2_with fail
    have RY := hid (row6 (x := .slice (some ⟨b1, 0, none⟩) lb lb) (y := .slice (some ⟨b2, 0, none⟩) lw lw) (z := .slice (some ⟨b3, 0, none⟩) lt lt) (p := .slice (some ⟨b4, 0, none⟩) ls ls) (q := .int .i64 sky) (r := .int .i64 st) RQ3.out)
    refine bodyPost_ret (v := .agg #[.slice (some ⟨b1, 0, none⟩) lb lb, .slice (some ⟨b2, 0, none⟩) lw lw, .slice (some ⟨b3, 0, none⟩) lt lt, .slice (some ⟨b4, 0, none⟩) ls ls, .int .i64 sky, .int .i64 st]) ?_ rfl ?_
    · exact results_cell_row Tryz.results27 _ _ gr _ _ (0, 0) _ rfl RY.out Tryz.underlying33 rfl (by kernel_rfl)
    obtain ⟨l1, l2, l3, l4, l5⟩ := LL.out
    obtain ⟨n23, n14, n25, n35, n12, n13, n42, n43⟩ := NN.out
    obtain ⟨ql, qr⟩ := GL.out
    have hg := HG.out
    have hs := A0.out.size
    have st : ∀ (b n : Nat) (t : TypeId) (f : Nat → Value), b ≠ gr → V3.rowIs b t n f → ∀ x0 x1 x2 x3 x4 x5, ((((((V3.setCell ⟨gr, 0, none⟩ x0).setCell ⟨gr, 1, none⟩ x1).setCell ⟨gr, 2, none⟩ x2).setCell ⟨gr, 3, none⟩ x3).setCell ⟨gr, 4, none⟩ x4).setCell ⟨gr, 5, none⟩ x5).rowIs b t n f := fun b n t f hb h x0 x1 x2 x3 x4 x5 => (((((h.setOther (a := ⟨gr, 0, none⟩) hb x0).setOther (a := ⟨gr, 1, none⟩) hb x1).setOther (a := ⟨gr, 2, none⟩) hb x2).setOther (a := ⟨gr, 3, none⟩) hb x3).setOther (a := ⟨gr, 4, none⟩) hb x4).setOther (a := ⟨gr, 5, none⟩) hb x5
    refine ⟨_, rfl, (((((((A0.out.trans A3.out).setk hg _).setk hg _).setk hg _).setk hg _).setk hg _).setk hg _), _, _, _, _, rfl, ?_, ?_, ?_, ?_, ?_, ?_⟩
    · exact ownG_row (st b1 _ _ _ (by omega) N21.out _ _ _ _ _ _) (by omega) (by have := HL.out; unfold maxLen; omega)
    · exact own_rowI ((st b2 _ _ _ (by omega) W3.out _ _ _ _ _ _).congr (fun i hi => by rw [if_pos hi])) (by omega) (by have := HL.out; unfold maxLen; omega)
    · exact own_rowI ((st b3 _ _ _ (by omega) T3.out _ _ _ _ _ _).congr (fun i hi => by rw [if_pos hi])) (by omega) (by have := HL.out; unfold maxLen; omega)
    · exact ownG_row (st b4 _ _ _ (by omega) N24.out _ _ _ _ _ _) (by omega) (by have := HL.out; unfold maxLen; omega)
    · intro k h1 h2
      simp only [Value.ownBlock, Option.some.injEq] at h1 h2
      omega
    · intro k h1 h2
      simp only [Value.ownBlock, Option.some.injEq] at h1 h2
      omega
end Ss
end Go.Proofs.YtdigecacmibkpaaGreatDoor
