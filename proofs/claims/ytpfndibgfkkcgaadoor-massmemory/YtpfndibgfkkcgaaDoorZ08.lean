/-
  Some of the texts of this proof, one behind the other.
-/
import Derived.Laws.CopyOwn
import Derived.Deep.RegionHeld3
import Derived.Test.YtpfndibgfkkcgaaDoorZ07
namespace Go.Proofs.YtpfndibgfkkcgaaDoor
open Go.RowKit Go.Deep Cu
namespace Ms
open Sh
theorem size1' : (Tryd.prog.info? 2).map (·.size) = some 1 := by kernel_rfl
theorem take_drop_get {l m : List Value} {i : Nat} : (m ++ l.drop m.length)[i]? = if i < m.length then m[i]? else l[i]? := by
  by_cases h : i < m.length
  · rw [if_pos h, List.getElem?_append_left h]
  · rw [if_neg h, List.getElem?_append_right (by omega), List.getElem?_drop]
    congr 1
    omega
theorem rowq {w : World} {g cap o n : Nat} {X : Nat → Value} {x : Nat → Int} (h : w.rowIs g 2 cap X) (hn : o + n ≤ cap) (hF : ∀ i, i < n → X (o + i) = .int .i64 (x i)) (hx : ∀ i, i < n → -9223372036854775808 ≤ x i ∧ x i ≤ 9223372036854775807) : IsI w (some ⟨g, o, none⟩) n x := fun k hk => ⟨hx k hk, g, o, rfl, h.lt, by rw [h.cell (by omega), hF k hk]⟩
theorem own_w {B n : Nat} {v : Value} {f : Nat → Int} {w : World} (h : Own B v ((List.range n).map f) w) (hf : ∀ c, c < n → W64 (f c)) : ∃ a0 cap, v = .slice a0 n cap ∧ IsI w a0 n f := by
  obtain ⟨a0, cap, e, i⟩ := h.in (fun x hx => by
    obtain ⟨j, hj, rfl⟩ := List.mem_map.1 hx
    exact hf j (List.mem_range.1 hj))
  rw [List.length_map, List.length_range] at e i
  exact ⟨a0, cap, e, i.congr (fun k hk => by simp [List.getD, hk])⟩
theorem own_rowM {B : Nat} {v : Value} {l : List Int} {w : World} (h : Own B v l w) (h0 : 0 < l.length) : ∃ g cap X, v = .slice (some ⟨g, 0, none⟩) l.length cap ∧ B ≤ g ∧ l.length ≤ cap ∧ cap ≤ maxLen ∧ w.rowIs g 2 cap X ∧ ∀ i, i < l.length → X i = .int .i64 (l.getD i 0) := by
  rcases h.2 with ⟨rfl, hz⟩ | ⟨g, cap, cur, e, hb, hg, h1, h2, h3, h4⟩
  · omega
  · refine ⟨g, cap, fun i => (cur[i]?).getD (.bool false), e, hb, h1, h2, ⟨cur, hg, by omega, fun i hi => ?_⟩, fun i hi => ?_⟩
    · have : i < cur.size := by omega
      simp [this]
    · have q : (cur.toList.take l.length)[i]? = (l.map (Value.int .i64))[i]? := by
        have h4' : cur.toList.take l.length = l.map (Value.int .i64) := by simpa using h4
        rw [h4']
      rw [List.getElem?_take, if_pos hi, Array.getElem?_toList] at q
      dsimp only
      rw [q]
      simp [hi, List.getD]
theorem own_twoM {B n : Nat} {v : Value} {x : Nat → Int} {w : World} (h : Own B v ((List.range n).map x) w) (h0 : 0 < n) : ∃ g cap X, v = .slice (some ⟨g, 0, none⟩) n cap ∧ B ≤ g ∧ n ≤ cap ∧ cap ≤ maxLen ∧ w.rowIs g 2 cap X ∧ ∀ i, i < n → X i = .int .i64 (x i) := by
  have e : ((List.range n).map x).length = n := by simp
  obtain ⟨g, cap, X, h1, h2, h3, h4, h5, h6⟩ := own_rowM h (by rw [e]; exact h0)
  rw [e] at h1 h3 h6
  exact ⟨g, cap, X, h1, h2, h3, h4, h5, fun i hi => by rw [h6 i hi]; simp [List.getD, hi]⟩
theorem row_ownM {B g cap n : Nat} {X : Nat → Value} {x : Nat → Int} {w : World} (h : w.rowIs g 2 cap X) (hB : B ≤ g) (hn : n ≤ cap) (hc : cap ≤ maxLen) (hF : ∀ i, i < n → X i = .int .i64 (x i)) : Own B (.slice (some ⟨g, 0, none⟩) n cap) ((List.range n).map x) w := by
  obtain ⟨c, hb, hs, hf⟩ := h
  refine ⟨by simp, .inr ⟨g, cap, c, by simp, hB, hb, by simpa using hn, hc, by omega, ?_⟩⟩
  apply List.ext_getElem?
  intro i
  rw [List.getElem?_take, List.length_map, List.length_range]
  by_cases hi : i < n
  · have e := hf i (by omega)
    rw [hF i hi] at e
    rw [if_pos (by omega)]
    rw [← Array.getElem?_toList] at e
    rw [e]
    simp [hi]
  · rw [if_neg (by omega), List.getElem?_eq_none (by simp; omega)]
/-- the built-in copy onto a row -/
theorem copyI (w : World) (g L M cap b0 o0 c : Nat) (f : Nat → Int) (x : Nat → Value) (hr : w.rowIs g 2 L x) (hM : M ≤ L) (hI : IsI w (some ⟨b0, o0, none⟩) M f) :
    ∃ w', (Builtin.copy_ #[22, 22] 3 #[.slice (some ⟨g, 0, none⟩) L cap, .slice (some ⟨b0, o0, none⟩) M c]).run Tryd.prog w = .ok (goInt M) w' ∧ Abo w g w' ∧ w'.rowIs g 2 L (fun i => if i < M then .int .i64 (f i) else x i) := by
  obtain ⟨cur, hg, hs, hx⟩ := hr
  have len : ((List.range M).map (fun i => Value.int .i64 (f i))).length = M := by simp
  have h := run_copy_row (P := Tryd.prog) w 22 22 3 2 g 0 L cap ⟨b0, o0, none⟩ M c cur 2 ((List.range M).map (fun i => Value.int .i64 (f i))) Tryd.underlying22 size1' hg (by rw [len]; exact (Nat.min_eq_left hM).symm) ?_ (by rw [len]; omega) (by simp [Value.oneCell'])
  · rw [len] at h
    refine ⟨_, h, ⟨rfl, rfl, rfl, by simp [World.setRow], fun k _ hne => setRow_other w g k _ hne⟩, _, setRow_heap _ _ _ _ _ _ hg, ?_, fun i hi => ?_⟩
    · simp
      omega
    · rw [List.getElem?_toArray, List.take_zero, List.nil_append, Nat.zero_add]
      have e := take_drop_get (l := cur.toList) (m := (List.range M).map (fun i => Value.int .i64 (f i))) (i := i)
      rw [len] at e
      rw [e]
      dsimp only
      by_cases q : i < M
      · rw [if_pos q, if_pos q]
        simp [q]
      · rw [if_neg q, if_neg q, Array.getElem?_toList]
        exact hx i hi
  · intro j v hj
    obtain ⟨hj1, hj2⟩ := List.getElem?_eq_some_iff.1 hj
    simp at hj1 hj2
    rw [add_off, ← hj2]
    exact (hI.at0 hj1).2.2
set_option maxRecDepth 100000 in
set_option maxHeartbeats 8000000 in
theorem mem_side (side : Int) (pw : Option Addr) (lw cw : Nat) (pf : Option Addr) (lf cf : Nat) (w : World)
    (AW : Hid (Calls Tryd.prog 9 #[] w fun e w' => e = .returned (.bool true) ∧ Below w.heap.size w w')) (NW : Hid (∀ v, Calls Tryd.prog 12 #[.int .i64 side] v fun e w' => e = .returned (.tuple #[.pointer none, .int .i64 10]) ∧ w' = v)) :
    Calls Tryd.prog 8 #[.int .i64 side, .slice pw lw cw, .slice pf lf cf] w fun e w' => e = .returned (.bool true) ∧ Below w.heap.size w w' := by
  go_enter Tryd.func8, Tryd.ntmps8
  go_wp2_with fail
  refine AW.out.mono ?_
  rintro e9 v0 ⟨rfl, b0⟩
  have A0 : Hid (Ab w v0) := b0
  clear b0
  go_wp2_with fail
  refine (NW.out _).mono ?_
  rintro e9 v9 ⟨rfl, hv9⟩
  have hv8 := hv9.symm
  subst hv8
  go_wp2
  go_ret
  exact ⟨rfl, A0.out⟩
set_option maxRecDepth 100000 in
set_option maxHeartbeats 8000000 in
theorem mem_great (n : Nat) (side : Int) (pw : Option Addr) (lw cw : Nat) (pf : Option Addr) (lf cf : Nat) (w : World) (hs : 8 < side)
    (AW : Hid (Calls Tryd.prog 9 #[] w fun e w' => e = .returned (.bool true) ∧ Below w.heap.size w w')) (NW : Hid (∀ v, Ab w v → Calls Tryd.prog 12 #[.int .i64 side] v fun e w' => ∃ gb, e = .returned (.tuple #[.pointer (some ⟨gb, 0, none⟩), .int .i64 0]) ∧ Ab v w' ∧ GridOf n gb w')) :
    Calls Tryd.prog 8 #[.int .i64 side, .slice pw lw cw, .slice pf lf cf] w fun e w' => e = .returned (.bool true) ∧ Below w.heap.size w w' := by
  have d0 : decide (8 < side) = true := decide_eq_true hs
  go_enter Tryd.func8, Tryd.ntmps8
  go_wp2_with fail
  refine AW.out.mono ?_
  rintro e9 v0 ⟨rfl, b0⟩
  have A0 : Hid (Ab w v0) := b0
  clear b0
  go_wp2_with fail
  refine (NW.out v0 A0.out).mono ?_
  rintro e9 v1 ⟨gb, rfl, a1, g1⟩
  have A1 : Hid (Ab w v1) := A0.out.trans a1
  have G1 := hid g1
  clear a1 g1 A0
  go_wp2
  go_ret
  exact ⟨rfl, A1.out⟩
set_option maxRecDepth 100000 in
set_option maxHeartbeats 8000000 in
theorem mem_len (n M N : Nat) (side : Int) (pw : Option Addr) (lw cw : Nat) (pf : Option Addr) (lf cf : Nat) (w : World) (hs : ¬ 8 < side) (hl : ¬ (lw = M ∧ lf = N))
    (AW : Hid (Calls Tryd.prog 9 #[] w fun e w' => e = .returned (.bool true) ∧ Below w.heap.size w w')) (NW : Hid (∀ v, Ab w v → Calls Tryd.prog 12 #[.int .i64 side] v fun e w' => ∃ gb, e = .returned (.tuple #[.pointer (some ⟨gb, 0, none⟩), .int .i64 0]) ∧ Ab v w' ∧ GridOf n gb w')) (CEL : Hid (∀ u gb, GridOf n gb u → Calls Tryd.prog 14 #[.pointer (some ⟨gb, 0, none⟩)] u fun e w' => e = .returned (.int .i64 (M : Nat)) ∧ w' = u)) (EDG : Hid (∀ u gb, GridOf n gb u → Calls Tryd.prog 15 #[.pointer (some ⟨gb, 0, none⟩)] u fun e w' => e = .returned (.int .i64 (N : Nat)) ∧ w' = u)) :
    Calls Tryd.prog 8 #[.int .i64 side, .slice pw lw cw, .slice pf lf cf] w fun e w' => e = .returned (.bool true) ∧ Below w.heap.size w w' := by
  have d0 : decide (8 < side) = false := decide_eq_false hs
  by_cases c1 : lw = M
  · have d1 : ((lw : Int) != (M : Int)) = false := by simp; omega
    have d2 : ((lf : Int) != (N : Int)) = true := by simp; omega
    clear hl c1
    go_enter Tryd.func8, Tryd.ntmps8
    go_wp2_with fail
    refine AW.out.mono ?_
    rintro e9 v0 ⟨rfl, b0⟩
    have A0 : Hid (Ab w v0) := b0
    clear b0
    go_wp2_with fail
    refine (NW.out v0 A0.out).mono ?_
    rintro e9 v1 ⟨gb, rfl, a1, g1⟩
    have A1 : Hid (Ab w v1) := A0.out.trans a1
    have G1 := hid g1
    clear a1 g1 A0
    go_wp2_with fail
    refine (CEL.out _ gb G1.out).mono ?_
    rintro e9 v9 ⟨rfl, hv9⟩
    have hv8 := hv9.symm
    subst hv8
    go_wp2_with fail
    refine (EDG.out _ gb G1.out).mono ?_
    rintro e9 v9 ⟨rfl, hv9⟩
    have hv8 := hv9.symm
    subst hv8
    go_wp2
    go_ret
    exact ⟨rfl, A1.out⟩
  · have d1 : ((lw : Int) != (M : Int)) = true := by simp; omega
    clear hl c1
    go_enter Tryd.func8, Tryd.ntmps8
    go_wp2_with fail
    refine AW.out.mono ?_
    rintro e9 v0 ⟨rfl, b0⟩
    have A0 : Hid (Ab w v0) := b0
    clear b0
    go_wp2_with fail
    refine (NW.out v0 A0.out).mono ?_
    rintro e9 v1 ⟨gb, rfl, a1, g1⟩
    have A1 : Hid (Ab w v1) := A0.out.trans a1
    have G1 := hid g1
    clear a1 g1 A0
    go_wp2_with fail
    refine (CEL.out _ gb G1.out).mono ?_
    rintro e9 v9 ⟨rfl, hv9⟩
    have hv8 := hv9.symm
    subst hv8
    go_wp2
    go_ret
    exact ⟨rfl, A1.out⟩
set_option maxRecDepth 100000 in
set_option maxHeartbeats 16000000 in
theorem mem_go (n M N wb wo cw fb fo cf len : Nat) (side er : Int) (W F D : Nat → Int) (w : World) (hw : IsI w (some ⟨wb, wo, none⟩) M W) (hf : IsI w (some ⟨fb, fo, none⟩) N F) (hl : 6 ≤ M ∧ M ≤ 6144 ∧ 12 ≤ N ∧ N ≤ 12288) (hs : ¬ 8 < side) (DW : Hid (∀ i, i < len → W64 (D i))) (LN : Hid (len ≤ 6144))
    (AW : Hid (Calls Tryd.prog 9 #[] w fun e w' => e = .returned (.bool true) ∧ Below w.heap.size w w')) (NW : Hid (∀ v, Ab w v → Calls Tryd.prog 12 #[.int .i64 side] v fun e w' => ∃ gb, e = .returned (.tuple #[.pointer (some ⟨gb, 0, none⟩), .int .i64 0]) ∧ Ab v w' ∧ GridOf n gb w')) (CEL : Hid (∀ u gb, GridOf n gb u → Calls Tryd.prog 14 #[.pointer (some ⟨gb, 0, none⟩)] u fun e w' => e = .returned (.int .i64 (M : Nat)) ∧ w' = u)) (EDG : Hid (∀ u gb, GridOf n gb u → Calls Tryd.prog 15 #[.pointer (some ⟨gb, 0, none⟩)] u fun e w' => e = .returned (.int .i64 (N : Nat)) ∧ w' = u))
    (MV : Hid (∀ v gb b1 o1 c1 b2 o2 c2, GridOf n gb v → IsI v (some ⟨b1, o1, none⟩) M W → IsI v (some ⟨b2, o2, none⟩) N F → Calls Tryd.prog 13 #[.pointer (some ⟨gb, 0, none⟩), .slice (some ⟨b1, o1, none⟩) M c1, .slice (some ⟨b2, o2, none⟩) N c2] v fun e w' => ∃ l, e = .returned (.tuple #[l, .int .i64 er]) ∧ Below v.heap.size v w' ∧ Own v.heap.size l ((List.range len).map D) w'))
    (TT : Hid (∀ v b1 c1 b2 c2, IsI v (some ⟨b1, 0, none⟩) M W → IsI v (some ⟨b2, 0, none⟩) N F → Calls Tryd.prog 10 #[.slice (some ⟨b1, 0, none⟩) M c1, .slice (some ⟨b2, 0, none⟩) N c2] v fun e w' => (∃ x y, e = .returned (.tuple #[.int .i64 x, .int .i64 y])) ∧ Below v.heap.size v w')) :
    Calls Tryd.prog 8 #[.int .i64 side, .slice (some ⟨wb, wo, none⟩) M cw, .slice (some ⟨fb, fo, none⟩) N cf] w fun e w' => e = .returned (.bool true) ∧ Below w.heap.size w w' := by
  have HW := hid hw
  have HF := hid hf
  have HL := hid hl
  have d0 : decide (8 < side) = false := decide_eq_false hs
  have d1 : ((M : Int) != (M : Int)) = false := by simp
  have d2 : ((N : Int) != (N : Int)) = false := by simp
  clear hw hf hs
  go_enter Tryd.func8, Tryd.ntmps8
  go_wp2_with fail
  refine AW.out.mono ?_
  rintro e9 v0 ⟨rfl, b0⟩
  have A0 : Hid (Ab w v0) := b0
  clear b0
  go_wp2_with fail
  refine (NW.out v0 A0.out).mono ?_
  rintro e9 v1 ⟨gb, rfl, a1, g1⟩
  have A1 : Hid (Ab w v1) := A0.out.trans a1
  have G1 := hid g1
  clear a1 g1 A0
  go_wp2_with fail
  refine (CEL.out _ gb G1.out).mono ?_
  rintro e9 v9 ⟨rfl, hv9⟩
  have hv8 := hv9.symm
  subst hv8
  go_wp2_with fail
  refine (EDG.out _ gb G1.out).mono ?_
  rintro e9 v9 ⟨rfl, hv9⟩
  have hv8 := hv9.symm
  subst hv8
  have MK1 : (Instr.makeSlice 22 (.int .i64 ((M : Int) + 3)) (.int .i64 ((M : Int) + 3))).run Tryd.prog v1 = .ok (.slice (some ⟨v1.heap.size, 0, none⟩) (M + 3) (M + 3)) (v1.alloc (Obj.cells (madeCells #[.int .i64 0] (M + 3)) 2)) := by
    have h := run_make_row' (P := Tryd.prog) 22 2 (.int .i64 0) 8 Tryd.underlying22 info64 rfl .i64 .i64 (M + 3) (by omega) (by omega) v1
    simpa using h
  have RM := hid (World.rowIs_made v1 (.int .i64 0) (M + 3) 2)
  have AM : Hid (Ab v1 (v1.alloc (Obj.cells (madeCells #[.int .i64 0] (M + 3)) 2))) := bl1 _ _
  obtain ⟨bw, hbw⟩ : ∃ b, v1.heap.size = b := ⟨_, rfl⟩
  have LW : Hid (v1.heap.size ≤ bw) := Nat.le_of_eq hbw
  rw [hbw] at RM
  go_upto_region 9 with fail
  try rw [hbw]
  generalize hV : World.alloc v1 _ = V1 at *
  clear hV hbw MK1
  have MK2 : (Instr.makeSlice 22 (.int .i64 ((N : Int) + 3)) (.int .i64 ((N : Int) + 3))).run Tryd.prog V1 = .ok (.slice (some ⟨V1.heap.size, 0, none⟩) (N + 3) (N + 3)) (V1.alloc (Obj.cells (madeCells #[.int .i64 0] (N + 3)) 2)) := by
    have h := run_make_row' (P := Tryd.prog) 22 2 (.int .i64 0) 8 Tryd.underlying22 info64 rfl .i64 .i64 (N + 3) (by omega) (by omega) V1
    simpa using h
  have RN := hid (World.rowIs_made V1 (.int .i64 0) (N + 3) 2)
  have AN : Hid (Ab V1 (V1.alloc (Obj.cells (madeCells #[.int .i64 0] (N + 3)) 2))) := bl1 _ _
  have RM2 := hid (row_ab RM.out AN.out)
  obtain ⟨bf, hbf⟩ : ∃ b, V1.heap.size = b := ⟨_, rfl⟩
  have LF : Hid (v1.heap.size ≤ bw ∧ bw < bf) := ⟨LW.out, by rw [← hbf]; exact RM.out.lt⟩
  rw [hbf] at RN
  go_upto_region 10 with fail
  try rw [hbf]
  generalize hV : World.alloc V1 _ = V2 at *
  clear hV hbf MK2 RM LW
  have A2 : Hid (Ab v1 V2) := AM.out.trans AN.out
  obtain ⟨V3, CP1, a3, r3⟩ := copyI V2 bw (M + 3) M (M + 3) wb wo cw W _ RM2.out (by omega) (HW.out.below (A1.out.trans A2.out))
  have A3 : Hid (Ab v1 V3) := Abo.ab a3 A2.out LF.out.1
  have RW3 := hid r3
  have RF3 := hid (rowIs_abo RN.out a3 (by have := LF.out; omega))
  clear a3 r3 RM2 RN AM AN A2
  go_upto_region 11 with fail
  clear CP1
  obtain ⟨V4, CP2, a4, r4⟩ := copyI V3 bf (N + 3) N (N + 3) fb fo cf F _ RF3.out (by omega) (HF.out.below (A1.out.trans A3.out))
  have A4 : Hid (Ab v1 V4) := Abo.ab a4 A3.out (by have := LF.out; omega)
  have RF4 := hid r4
  have RW4 := hid (rowIs_abo RW3.out a4 (by have := LF.out; omega))
  clear a4 r4 RW3 RF3 A3
  go_upto_region 12 with fail
  clear CP2
  go_wp2
  go_loopw [13] (fun iv wr => ∃ c : Nat, c ≤ 3 ∧ iv = .int .i64 (c : Nat) ∧ Ab v1 wr ∧ wr.rowIs bw 2 (M + 3) (fun i => .int .i64 (if i < M then W i else if i < M + c then -7 else 0)) ∧ wr.rowIs bf 2 (N + 3) (fun i => .int .i64 (if i < N then F i else if i < N + c then -7 else 0))) (fun iv _ => 3 - (intOf iv).toNat)
  case atStart =>
    refine ⟨0, by omega, rfl, A4.out, RW4.out.congr (fun i _ => ?_), RF4.out.congr (fun i _ => ?_)⟩
    · by_cases q : i < M
      · simp [q]
      · simp [q]
    · by_cases q : i < N
      · simp [q]
      · simp [q]
  case round =>
    obtain ⟨c, hc, rfl, ar, r1, r2⟩ := hrel
    have AR := hid ar
    have R1 := hid r1
    have R2 := hid r2
    clear ar r1 r2 A4 RW4 RF4
    by_cases hcn : c < 3
    · have HC := hid hcn
      have hcI : (c : Int) < 3 := by omega
      have i1 : (M : Int) + c < (M : Int) + 3 := by omega
      have i2 : (N : Int) + c < (N : Int) + 3 := by omega
      have z1 := R1.out.cell (show M + c < M + 3 by omega)
      have z2 := R1.out.frozen (M + c)
      have NE : Hid (bf ≠ bw) := by have := LF.out; show _ ≠ _; omega
      have z3 : (wr.setCell ⟨bw, M + c, none⟩ (.int .i64 (-7))).cell? ⟨bf, N + c, none⟩ = some (.int .i64 (if N + c < N then F (N + c) else if N + c < N + c then -7 else 0)) := (World.cell?_of_block (Below.heap_setCell _ _ _ _ NE.out)).trans (R2.out.cell (show N + c < N + 3 by omega))
      have z4 : (wr.setCell ⟨bw, M + c, none⟩ (.int .i64 (-7))).frozen? ⟨bf, N + c, none⟩ = false := (R2.out.setOther (a := ⟨bw, M + c, none⟩) NE.out (.int .i64 (-7))).frozen (N + c)
      obtain ⟨y1, hy1⟩ : ∃ y, Value.int .i64 (if M + c < M then W (M + c) else if M + c < M + c then -7 else 0) = y := ⟨_, rfl⟩
      obtain ⟨y2, hy2⟩ : ∃ y, Value.int .i64 (if N + c < N then F (N + c) else if N + c < N + c then -7 else 0) = y := ⟨_, rfl⟩
      rw [hy1] at z1
      rw [hy2] at z3
      clear hy1 hy2 hcn hc
      go_wp2
      refine ⟨⟨c + 1, by have := HC.out; omega, by simp, (AR.out.set LF.out.1 _).set (show v1.heap.size ≤ bf by have := LF.out; omega) _, ((R1.out.set (M + c) _).setOther (Ne.symm NE.out) _).congr (fun i _ => ?_), ((R2.out.setOther NE.out _).set (N + c) _).congr (fun i _ => ?_)⟩, by simp [intOf]; have := HC.out; omega⟩
      · by_cases e : i = M + c
        · subst e
          simp [show ¬ M + c < M by omega, show M + c < M + (c + 1) by omega]
        · have q : (i < M + (c + 1)) ↔ i < M + c := by omega
          simp [e, q]
      · by_cases e : i = N + c
        · subst e
          simp [show ¬ N + c < N by omega, show N + c < N + (c + 1) by omega]
        · have q : (i < N + (c + 1)) ↔ i < N + c := by omega
          simp [e, q]
    · obtain rfl : c = 3 := by omega
      go_upto_region 17 with fail
      have IW := hid (rowq (o := 0) (n := M) (x := W) R1.out (by omega) (fun i hi => by simp [hi]) (fun i hi => ((HW.out i hi).1)))
      have IF := hid (rowq (o := 0) (n := N) (x := F) R2.out (by omega) (fun i hi => by simp [hi]) (fun i hi => ((HF.out i hi).1)))
      have IT := hid (rowq (o := M) (n := 3) (x := fun _ => (-7 : Int)) R1.out (by omega) (fun i hi => by simp [show ¬ M + i < M by omega, show M + i < M + 3 by omega]) (fun i hi => by omega))
      have IU := hid (rowq (o := N) (n := 3) (x := fun _ => (-7 : Int)) R2.out (by omega) (fun i hi => by simp [show ¬ N + i < N by omega, show N + i < N + 3 by omega]) (fun i hi => by omega))
      have LB : Hid (bw < wr.heap.size ∧ bf < wr.heap.size) := ⟨R1.out.lt, R2.out.lt⟩
      have G5 := hid (G1.out.to AR.out)
      have AW5 := hid (A1.out.trans AR.out)
      clear R1 R2
      have m1 : ((M : Nat) : Int) ≤ ((M + 3 : Nat) : Int) := by omega
      have m2 : (M : Int) ≤ (M : Int) + 3 := by omega
      have m3 : (0 : Int) ≤ (M : Int) := by omega
      have n1 : ((N : Nat) : Int) ≤ ((N + 3 : Nat) : Int) := by omega
      have n2 : (N : Int) ≤ (N : Int) + 3 := by omega
      have n3 : (0 : Int) ≤ (N : Int) := by omega
      have AD0 := Ab.refl wr
      have AD := (Ab.refl wr).drew
      go_region_held3 (fun w' => Ab wr w') (((with_reducible (repeat (first | assumption | apply Ab.drew | apply Ab.alloc))); done)) (first
        | (go_at_call 13; refine (MV.out _ gb bw 0 (M + 3) bf 0 (N + 3) (G5.out.to (Ab.trans (Ab.refl wr) AD)) (IW.out.below (Ab.trans (Ab.refl wr) AD)) (IF.out.below (Ab.trans (Ab.refl wr) AD))).mono ?_; rintro e9 ra ⟨la, rfl, b3, o3⟩; have A3 := Ab.call AD b3; have Oa := hid o3; clear b3 o3))
      have Aa : Hid (Ab wr ra) := Ab.trans (Ab.refl wr) A3
      have Ba : Hid (Ab wr ra) := A3
      clear A3 AD AD0
      go_upto_region 18 with fail
      have AD0 := Ab.refl ra
      have AD := (Ab.refl ra).drew
      go_region_held3 (fun w' => Ab ra w') (((with_reducible (repeat (first | assumption | apply Ab.drew | apply Ab.alloc))); done)) (first
        | (go_at_call 13; refine (MV.out _ gb bw 0 (M + 3) bf 0 (N + 3) (G5.out.to (Ab.trans Aa.out AD)) (IW.out.below (Ab.trans Aa.out AD)) (IF.out.below (Ab.trans Aa.out AD))).mono ?_; rintro e9 rb ⟨lb, rfl, b3, o3⟩; have A3 := Ab.call AD b3; have Ob := hid o3; clear b3 o3))
      have Abb : Hid (Ab wr rb) := Ab.trans Aa.out A3
      have Bb : Hid (Ab ra rb) := A3
      clear A3 AD AD0
      go_upto_region 19 with fail
      have AD0 := Ab.refl rb
      have AD := (Ab.refl rb).drew
      go_region_held3 (fun w' => Ab rb w') (((with_reducible (repeat (first | assumption | apply Ab.drew | apply Ab.alloc))); done)) (first
        | (go_at_call 10; refine (TT.out _ bw (M + 3) bf (N + 3) (IW.out.below (Ab.trans Abb.out AD)) (IF.out.below (Ab.trans Abb.out AD))).mono ?_; rintro e9 rc ⟨⟨x9, y9, rfl⟩, b3⟩; have A3 := Ab.call AD b3; clear b3))
      have Ac : Hid (Ab wr rc) := Ab.trans Abb.out A3
      have Bc : Hid (Ab rb rc) := A3
      clear A3 AD AD0
      obtain ⟨pa, ca, hla, ia⟩ := own_w Oa.out DW.out
      obtain ⟨pb, cb, hlb, ib⟩ := own_w Ob.out DW.out
      have La : Hid (la = .slice pa len ca) := hla
      subst hlb
      have Ia := hid (ia.below (Bb.out.trans Bc.out))
      have Ib := hid (ib.below Bc.out)
      have Oa2 := hid (Oa.out.to (Bb.out.trans Bc.out))
      have La2 : Hid (∀ k, la.ownBlock = some k → wr.heap.size ≤ k ∧ k < ra.heap.size) := fun k hk => World.ownsRow.lt Oa.out k hk
      have Lb2 : Hid (∀ b0 o0, pb = some ⟨b0, o0, none⟩ → 0 < len → ra.heap.size ≤ b0) := fun b0 o0 e h0 => by
        obtain ⟨g, cap, X, e1, e2, -⟩ := own_twoM Ob.out h0
        injection e1 with e3
        rw [e] at e3
        injection e3 with e4
        injection e4 with e5
        rw [e5]
        exact e2
      have I3 : Hid (∀ v : World, IsI (v.alloc (.cells #[.int .i64 (-7), .int .i64 (-7), .int .i64 (-7)] 2)) (some ⟨v.heap.size, 0, none⟩) 3 (fun _ => -7)) := fun v => (lit_in v [-7, -7, -7] (fun x hx => by simp at hx; unfold W64; omega)).congr (fun k hk => by
        match k, hk with
        | 0, _ => rfl
        | 1, _ => rfl
        | 2, _ => rfl)
      have q0 : (er != er) = false := by simp
      clear ia ib Oa Ob
      rw [hla]
      clear hla
      go_wp2_with fail
      refine (same_at pa pb len ca cb D rc (by have := LN.out; omega) Ia.out Ib.out).mono ?_
      rintro e9 s0 ⟨rfl, b3⟩
      have S0 : Hid (Ab rc s0) := b3
      clear b3
      go_wp2_with fail
      refine (same_at (some ⟨bw, 0, none⟩) (some ⟨wb, wo, none⟩) M (M + 3) cw W s0 (by have := HL.out; omega) (IW.out.below (Ac.out.trans S0.out)) (HW.out.below (AW5.out.trans (Ac.out.trans S0.out)))).mono ?_
      rintro e9 s1 ⟨rfl, b3⟩
      have S1 : Hid (Ab rc s1) := S0.out.trans b3
      clear b3
      go_wp2_with fail
      refine (same_at (some ⟨bf, 0, none⟩) (some ⟨fb, fo, none⟩) N (N + 3) cf F s1 (by have := HL.out; omega) (IF.out.below (Ac.out.trans S1.out)) (HF.out.below (AW5.out.trans (Ac.out.trans S1.out)))).mono ?_
      rintro e9 s2 ⟨rfl, b3⟩
      have S2 : Hid (Ab rc s2) := S1.out.trans b3
      clear b3
      go_wp2_with fail
      refine (same_at (some ⟨bw, M, none⟩) (some ⟨s2.heap.size, 0, none⟩) 3 3 3 (fun _ => -7) (s2.alloc (.cells #[.int .i64 (-7), .int .i64 (-7), .int .i64 (-7)] 2)) (by omega) (IT.out.below (Ac.out.trans (S2.out.alloc _))) (I3.out s2)).mono ?_
      rintro e9 s3 ⟨rfl, b3⟩
      have S3 : Hid (Ab rc s3) := (S2.out.alloc _).trans b3
      clear b3
      go_wp2_with fail
      refine (same_at (some ⟨bf, N, none⟩) (some ⟨s3.heap.size, 0, none⟩) 3 3 3 (fun _ => -7) (s3.alloc (.cells #[.int .i64 (-7), .int .i64 (-7), .int .i64 (-7)] 2)) (by omega) (IU.out.below (Ac.out.trans (S3.out.alloc _))) (I3.out s3)).mono ?_
      rintro e9 V ⟨rfl, b3⟩
      have S4 : Hid (Ab rc V) := (S3.out.alloc _).trans b3
      clear b3
      have AV : Hid (Ab v1 V) := AR.out.trans (Ac.out.trans S4.out)
      have OV := hid (Oa2.out.to S4.out)
      have IbV := hid (Ib.out.below S4.out)
      have IWV := hid (IW.out.below (Ac.out.trans S4.out))
      have SZ : Hid (wr.heap.size ≤ ra.heap.size ∧ ra.heap.size ≤ V.heap.size ∧ v1.heap.size ≤ wr.heap.size) := ⟨Aa.out.size, by have h1 := Bb.out.size; have h2 := Bc.out.size; have h3 := S4.out.size; omega, AR.out.size⟩
      obtain ⟨ga, hga⟩ : ∃ ga, (∀ k, la.ownBlock = some k → k = ga) ∧ wr.heap.size ≤ ga ∧ (ga < ra.heap.size ∨ V.heap.size ≤ ga) := by
        cases h : la.ownBlock with
        | none => exact ⟨V.heap.size, fun k hk => absurd hk (by simp), by have := SZ.out; omega, .inr (Nat.le_refl _)⟩
        | some g => exact ⟨g, fun k hk => (Option.some.inj hk).symm, (La2.out g h).1, .inl (La2.out g h).2⟩
      have GA := hid hga
      clear hga S0 S1 S2 S3 Ia Ib Oa2 IT IU IF La2
      rcases Nat.eq_zero_or_pos len with h0 | h0
      · subst h0
        have GK : Hid (∀ k, (Value.slice pa 0 ca).ownBlock = some k → k = ga) := fun k hk => GA.out.1 k (by rw [La.out]; exact hk)
        have KBF : Hid (∀ q, Abo V ga q → IsI q pb 0 D) := fun q a => IsI.nil _ _ _
        have OQ : Hid (Own wr.heap.size (.slice pa 0 ca) ((List.range (0 + 0)).map (fun _ => (99 : Int))) V) := by have h := OV.out; rw [La.out] at h; exact h
        have AQ : Hid (Abo V ga V) := Abo.refl V ga
        clear OV La
        go_wp2
        go_loopw [17] (fun iv wq => iv = .int .i64 0 ∧ wq = V) (fun _ _ => 0)
        case atStart => exact ⟨rfl, rfl⟩
        case round =>
          obtain ⟨rfl, hwz⟩ := hrel
          have hwz2 := hwz.symm
          subst hwz2
          have NE : Hid (bw ≠ ga ∧ v1.heap.size ≤ ga) := by have h1 := LB.out; have h2 := GA.out.2.1; have h3 := SZ.out; exact ⟨by omega, by omega⟩
          go_wp2
          go_loopw [18, 19] (fun gv iv wq => ∃ c : Nat, c ≤ 9 ∧ iv = .int .i64 (c : Nat) ∧ Own wr.heap.size gv ((List.range (0 + c)).map (fun _ => (99 : Int))) wq ∧ Abo V ga wq ∧ ∀ k, gv.ownBlock = some k → k = ga ∨ V.heap.size ≤ k) (fun _ iv _ => 9 - (intOf iv).toNat)
          case atStart => exact ⟨0, by omega, rfl, OQ.out, AQ.out, fun k hk => .inl (GK.out k hk)⟩
          case round =>
            obtain ⟨c, hc, rfl, ow, aq, gk⟩ := hrel
            rename World => wq
            have OX := hid ow
            have AX := hid aq
            have GX := hid gk
            clear ow aq gk OQ AQ
            by_cases hcn : c < 9
            · have HC := hid hcn
              have hcI : (c : Int) < 9 := by omega
              have N1 : Hid (∀ j u, (([99] : List Int).map (Value.int .i64))[j]? = some u → (wq.alloc (.cells #[.int .i64 99] 2)).cell? ((⟨wq.heap.size, 0, none⟩ : Addr).add j) = some u) := World.news_of_block (cs := #[.int .i64 99]) (t := 2) (fr := (0, 0)) (heap_alloc_new wq _)
              have O2 := hid (Own.alloc OX.out (.cells #[.int .i64 99] 2))
              have WQ : Hid (wr.heap.size ≤ wq.heap.size ∧ V.heap.size ≤ wq.heap.size) := by have h1 := AX.out.2.2.2.1; have h2 := SZ.out; exact ⟨by omega, h1⟩
              have LS : Hid (wr.heap.size ≤ (wq.alloc (.cells #[.int .i64 99] 2)).heap.size) := Nat.le_trans WQ.out.1 (by simp)
              have LE : Hid (((List.range (0 + c)).map (fun _ => (99 : Int))).length = 0 + c) := by show _ = _; simp
              obtain ⟨nm, hnm⟩ : ∃ x, 0 + c + 1 = x := ⟨_, rfl⟩
              have NM := hid hnm
              clear hcn hc hnm
              go_wp2_with (first
                | (at_builtin; refine wpList_app rfl (.tmp 163) (.tmp 164) rfl wr.heap.size _ _ rfl O2.out ⟨wq.heap.size, 0, none⟩ 1 1 [99] rfl rfl N1.out (by decide) (by have := LE.out; have := HC.out; have := LN.out; omega) LS.out nm (by rw [LE.out]; exact NM.out) ?_; intro g1 c1 w1 o1 x1 y1 _; have O1 := hid o1; have X1 := hid x1; have Y1 := hid y1; clear o1 x1 y1))
              refine ⟨⟨c + 1, by have := HC.out; omega, by simp, ?_, ?_, fun k hk => ?_⟩, by have := HC.out; simp [intOf]; omega⟩
              · rw [← Nat.add_assoc, List.range_succ, List.map_append]
                exact O1.out
              · exact Abo.grown AX.out X1.out GX.out
              · have e : g1 = k := Option.some.inj hk
                subst e
                rcases Y1.out with h | h
                · exact GX.out _ h
                · right
                  have h1 := WQ.out.2
                  have h2 : (wq.alloc (.cells #[.int .i64 99] 2)).heap.size = wq.heap.size + 1 := by simp
                  rw [h, h2]
                  omega
            · obtain rfl : c = 9 := by omega
              obtain ⟨pg, cg, hlg, -⟩ := own_w (f := fun _ => (99 : Int)) OX.out (fun _ _ => by unfold W64; omega)
              subst hlg
              have AY : Hid (Ab v1 wq) := Abo.ab AX.out AV.out NE.out.2
              have MM := hid (MV.out wq gb wb wo cw fb fo cf (G1.out.to AY.out) (HW.out.below (A1.out.trans AY.out)) (HF.out.below (A1.out.trans AY.out)))
              have KB := hid (KBF.out wq AX.out)
              have KW := hid (isI_abo IWV.out AX.out NE.out.1)
              have le : (((0 + 9 : Nat) : Int) == (0 : Int) + 9) = true := by simp
              have lnI : (0 : Int) ≤ 6144 := by have := LN.out; omega
              have le2 : ((0 : Int) + 9 == (0 : Int) + 9) = true := by simp
              go_wp2_with fail
              refine MM.out.mono ?_
              rintro e9 v7 ⟨lh, rfl, b7, o7⟩
              have A7 : Hid (Ab wq v7) := b7
              obtain ⟨ph, ch, hlh, ih⟩ := own_w o7 DW.out
              subst hlh
              have IH := hid ih
              clear b7 o7 ih MM
              go_wp2_with fail
              refine (same_at ph pb 0 ch cb D v7 (by have := LN.out; omega) IH.out (KB.out.below A7.out)).mono ?_
              rintro e9 v8 ⟨rfl, b8⟩
              have A8 : Hid (Ab wq v8) := A7.out.trans b8
              clear b8
              go_wp2_with fail
              refine (same_at (some ⟨bw, 0, none⟩) (some ⟨wb, wo, none⟩) M (M + 3) cw W v8 (by have := HL.out; omega) (KW.out.below A8.out) (HW.out.below (A1.out.trans (AY.out.trans A8.out)))).mono ?_
              rintro e9 v10 ⟨rfl, b10⟩
              have A10 : Hid (Ab w v10) := A1.out.trans (AY.out.trans (A8.out.trans b10))
              clear b10
              go_wp2
              go_ret
              exact ⟨rfl, A10.out⟩
      · obtain ⟨g0, k0, X, hl0, lg0, nc0, mc0, rw0, hf0⟩ := own_twoM OV.out h0
        have hh := La.out
        rw [hl0] at hh
        injection hh with hh1 hh2 hh3
        have e0 : g0 = ga := GA.out.1 g0 (by rw [hl0]; rfl)
        subst e0
        rw [← hh1, ← hh3]
        have KX : Hid (len ≤ k0 ∧ k0 ≤ maxLen) := ⟨nc0, mc0⟩
        have RX := hid rw0
        have GK : Hid (∀ k, (Value.slice (some ⟨g0, 0, none⟩) len k0).ownBlock = some k → k = g0) := fun k hk => (Option.some.inj hk).symm
        have KBF : Hid (∀ q, Abo V g0 q → IsI q pb len D) := fun q a => by
          obtain ⟨b1, o1, e1⟩ := IbV.out.some0 h0
          have lb := Lb2.out b1 o1 e1 h0
          have sb := RX.out.lt
          subst e1
          refine isI_abo IbV.out a ?_
          rcases GA.out.2.2 with g | g
          · omega
          · omega
        clear hl0 lg0 nc0 mc0 rw0 hf0 hh1 hh2 hh3 OV La
        have H0 := hid h0
        clear h0
        go_wp2
        go_loopw [17] (fun iv wq => ∃ c : Nat, c ≤ len ∧ iv = .int .i64 (c : Nat) ∧ Abo V g0 wq ∧ wq.rowIs g0 2 k0 (fun i => if i < c then .int .i64 99 else X i)) (fun iv _ => len - (intOf iv).toNat)
        case atStart => exact ⟨0, by omega, rfl, Abo.refl V g0, RX.out.congr (fun i _ => by simp)⟩
        case round =>
          obtain ⟨c, hc, rfl, aq, rq⟩ := hrel
          rename World => wz
          have AZ := hid aq
          have RZ := hid rq
          clear aq rq RX
          by_cases hcn : c < len
          · have HC := hid hcn
            have hcI : (c : Int) < len := by omega
            have hcB : (c : Int) ≤ 6144 := by have := LN.out; omega
            have z1 := RZ.out.cell (show c < k0 by have := KX.out.1; omega)
            have z2 := RZ.out.frozen c
            obtain ⟨y1, hy1⟩ : ∃ y, (if c < c then Value.int .i64 99 else X c) = y := ⟨_, rfl⟩
            rw [hy1] at z1
            clear hy1 hcn hc
            go_wp2
            refine ⟨⟨c + 1, by have := HC.out; omega, by simp, Abo.trans AZ.out (abo_set _ _ _ _), (RZ.out.set c _).congr (fun i _ => ?_)⟩, by simp [intOf]; have := HC.out; omega⟩
            by_cases e : i = c
            · simp [e]
            · by_cases l : i < c
              · simp [e, l, show i < c + 1 by omega]
              · simp [e, l, show ¬ i < c + 1 by omega]
          · have e6 : len = c := by omega
            subst e6
            have OQ : Hid (Own wr.heap.size (.slice (some ⟨g0, 0, none⟩) len k0) ((List.range (len + 0)).map (fun _ => (99 : Int))) wz) := row_ownM RZ.out GA.out.2.1 KX.out.1 KX.out.2 (fun i hi => by simp [show i < len from hi])
            have AQ : Hid (Abo V g0 wz) := AZ.out
            clear RZ AZ
            have NE : Hid (bw ≠ g0 ∧ v1.heap.size ≤ g0) := by have h1 := LB.out; have h2 := GA.out.2.1; have h3 := SZ.out; exact ⟨by omega, by omega⟩
            go_wp2
            go_loopw [18, 19] (fun gv iv wq => ∃ c : Nat, c ≤ 9 ∧ iv = .int .i64 (c : Nat) ∧ Own wr.heap.size gv ((List.range (len + c)).map (fun _ => (99 : Int))) wq ∧ Abo V g0 wq ∧ ∀ k, gv.ownBlock = some k → k = g0 ∨ V.heap.size ≤ k) (fun _ iv _ => 9 - (intOf iv).toNat)
            case atStart => exact ⟨0, by omega, rfl, OQ.out, AQ.out, fun k hk => .inl (GK.out k hk)⟩
            case round =>
              obtain ⟨c, hc, rfl, ow, aq, gk⟩ := hrel
              rename World => wq
              have OX := hid ow
              have AX := hid aq
              have GX := hid gk
              clear ow aq gk OQ AQ
              by_cases hcn : c < 9
              · have HC := hid hcn
                have hcI : (c : Int) < 9 := by omega
                have N1 : Hid (∀ j u, (([99] : List Int).map (Value.int .i64))[j]? = some u → (wq.alloc (.cells #[.int .i64 99] 2)).cell? ((⟨wq.heap.size, 0, none⟩ : Addr).add j) = some u) := World.news_of_block (cs := #[.int .i64 99]) (t := 2) (fr := (0, 0)) (heap_alloc_new wq _)
                have O2 := hid (Own.alloc OX.out (.cells #[.int .i64 99] 2))
                have WQ : Hid (wr.heap.size ≤ wq.heap.size ∧ V.heap.size ≤ wq.heap.size) := by have h1 := AX.out.2.2.2.1; have h2 := SZ.out; exact ⟨by omega, h1⟩
                have LS : Hid (wr.heap.size ≤ (wq.alloc (.cells #[.int .i64 99] 2)).heap.size) := Nat.le_trans WQ.out.1 (by simp)
                have LE : Hid (((List.range (len + c)).map (fun _ => (99 : Int))).length = len + c) := by show _ = _; simp
                obtain ⟨nm, hnm⟩ : ∃ x, len + c + 1 = x := ⟨_, rfl⟩
                have NM := hid hnm
                clear hcn hc hnm
                go_wp2_with (first
                  | (at_builtin; refine wpList_app rfl (.tmp 163) (.tmp 164) rfl wr.heap.size _ _ rfl O2.out ⟨wq.heap.size, 0, none⟩ 1 1 [99] rfl rfl N1.out (by decide) (by have := LE.out; have := HC.out; have := LN.out; omega) LS.out nm (by rw [LE.out]; exact NM.out) ?_; intro g1 c1 w1 o1 x1 y1 _; have O1 := hid o1; have X1 := hid x1; have Y1 := hid y1; clear o1 x1 y1))
                refine ⟨⟨c + 1, by have := HC.out; omega, by simp, ?_, ?_, fun k hk => ?_⟩, by have := HC.out; simp [intOf]; omega⟩
                · rw [← Nat.add_assoc, List.range_succ, List.map_append]
                  exact O1.out
                · exact Abo.grown AX.out X1.out GX.out
                · have e : g1 = k := Option.some.inj hk
                  subst e
                  rcases Y1.out with h | h
                  · exact GX.out _ h
                  · right
                    have h1 := WQ.out.2
                    have h2 : (wq.alloc (.cells #[.int .i64 99] 2)).heap.size = wq.heap.size + 1 := by simp
                    rw [h, h2]
                    omega
              · obtain rfl : c = 9 := by omega
                obtain ⟨pg, cg, hlg, -⟩ := own_w (f := fun _ => (99 : Int)) OX.out (fun _ _ => by unfold W64; omega)
                subst hlg
                have AY : Hid (Ab v1 wq) := Abo.ab AX.out AV.out NE.out.2
                have MM := hid (MV.out wq gb wb wo cw fb fo cf (G1.out.to AY.out) (HW.out.below (A1.out.trans AY.out)) (HF.out.below (A1.out.trans AY.out)))
                have KB := hid (KBF.out wq AX.out)
                have KW := hid (isI_abo IWV.out AX.out NE.out.1)
                have le : (((len + 9 : Nat) : Int) == (len : Int) + 9) = true := by simp
                have lnI : (len : Int) ≤ 6144 := by have := LN.out; omega
                have le2 : ((len : Int) + 9 == (len : Int) + 9) = true := by simp
                go_wp2_with fail
                refine MM.out.mono ?_
                rintro e9 v7 ⟨lh, rfl, b7, o7⟩
                have A7 : Hid (Ab wq v7) := b7
                obtain ⟨ph, ch, hlh, ih⟩ := own_w o7 DW.out
                subst hlh
                have IH := hid ih
                clear b7 o7 ih MM
                go_wp2_with fail
                refine (same_at ph pb len ch cb D v7 (by have := LN.out; omega) IH.out (KB.out.below A7.out)).mono ?_
                rintro e9 v8 ⟨rfl, b8⟩
                have A8 : Hid (Ab wq v8) := A7.out.trans b8
                clear b8
                go_wp2_with fail
                refine (same_at (some ⟨bw, 0, none⟩) (some ⟨wb, wo, none⟩) M (M + 3) cw W v8 (by have := HL.out; omega) (KW.out.below A8.out) (HW.out.below (A1.out.trans (AY.out.trans A8.out)))).mono ?_
                rintro e9 v10 ⟨rfl, b10⟩
                have A10 : Hid (Ab w v10) := A1.out.trans (AY.out.trans (A8.out.trans b10))
                clear b10
                go_wp2
                go_ret
                exact ⟨rfl, A10.out⟩
/-- MASSMEMORY -/
theorem memory_at (MC : MoveC) (TC : TotalC) {side : Int} {pw : Option Addr} {lw cw : Nat} {W : Nat → Int} {pf : Option Addr} {lf cf : Nat} {F : Nat → Int} (w : World) (hFr : Fr w) (hw : IsI w pw lw W) (hf : IsI w pf lf F) :
    Calls Tryd.prog 8 #[.int .i64 side, .slice pw lw cw, .slice pf lf cf] w fun e w' => e = .returned (.bool true) ∧ Below w.heap.size w w' := by
  have AW := awake_at MC TC w hFr
  by_cases hs : 1 ≤ side ∧ side ≤ 32
  · obtain ⟨n, rfl⟩ := Int.eq_ofNat_of_zero_le (show 0 ≤ side by omega)
    have hn : 1 ≤ n ∧ n ≤ 32 := by omega
    have NW : ∀ v, Ab w v → Calls Tryd.prog 12 #[.int .i64 (n : Nat)] v fun e w' => ∃ gb, e = .returned (.tuple #[.pointer (some ⟨gb, 0, none⟩), .int .i64 0]) ∧ Ab v w' ∧ GridOf n gb w' := fun v a => by
      refine (new_at n v hn (hFr.to a)).mono ?_
      rintro e w' ⟨gb, rfl, a, -, g⟩
      exact ⟨gb, rfl, a, g⟩
    have CE : ∀ u gb, GridOf n gb u → Calls Tryd.prog 14 #[.pointer (some ⟨gb, 0, none⟩)] u fun e w' => e = .returned (.int .i64 (6 * n * n : Nat)) ∧ w' = u := fun u gb g => gCells_at g
    have EE : ∀ u gb, GridOf n gb u → Calls Tryd.prog 15 #[.pointer (some ⟨gb, 0, none⟩)] u fun e w' => e = .returned (.int .i64 (12 * n * n : Nat)) ∧ w' = u := fun u gb g => gEdges_at g
    by_cases h8 : 8 < (n : Int)
    · exact mem_great n (n : Nat) pw lw cw pf lf cf w h8 AW NW
    · by_cases hl : lw = 6 * n * n ∧ lf = 12 * n * n
      · obtain ⟨rfl, rfl⟩ := hl
        have p1 : 1 * 1 ≤ n * n := Nat.mul_le_mul hn.1 hn.1
        have p2 : n * n ≤ 32 * 32 := Nat.mul_le_mul hn.2 hn.2
        have qq : 6 ≤ 6 * n * n ∧ 6 * n * n ≤ 6144 ∧ 12 ≤ 12 * n * n ∧ 12 * n * n ≤ 12288 := by rw [Nat.mul_assoc, Nat.mul_assoc]; omega
        obtain ⟨wb, wo, rfl⟩ := hw.some0 (by omega)
        obtain ⟨fb, fo, rfl⟩ := hf.some0 (by omega)
        have TT : ∀ v b1 c1 b2 c2, IsI v (some ⟨b1, 0, none⟩) (6 * n * n) W → IsI v (some ⟨b2, 0, none⟩) (12 * n * n) F → Calls Tryd.prog 10 #[.slice (some ⟨b1, 0, none⟩) (6 * n * n) c1, .slice (some ⟨b2, 0, none⟩) (12 * n * n) c2] v fun e w' => (∃ x y, e = .returned (.tuple #[.int .i64 x, .int .i64 y])) ∧ Below v.heap.size v w' := fun v b1 c1 b2 c2 i1 i2 => by
          refine (total_of TC _ _ c1 W _ _ c2 F _ v (by omega) (by omega) i1 i2 rfl).mono ?_
          rintro e w' ⟨rfl, b⟩
          exact ⟨⟨_, _, rfl⟩, b⟩
        by_cases c : can n W F
        · refine mem_go n _ _ wb wo cw fb fo cf (6 * n * n) (n : Nat) 0 W F (mv n W F) w hw hf qq h8 (fun i hi => ?_) qq.2.1 AW NW CE EE ?_ TT
          · have := c i hi
            unfold W64
            omega
          · intro v gb b1 o1 c1 b2 o2 c2 g i1 i2
            refine ((MC n gb _ _ c1 W _ _ c2 F v hn g (by omega) (by omega) i1 i2).1 ⟨rfl, rfl⟩ c).mono ?_
            rintro e w' ⟨l, rfl, b, o⟩
            exact ⟨l, rfl, b, o⟩
        · refine mem_go n _ _ wb wo cw fb fo cf 0 (n : Nat) 20 W F (fun _ => 0) w hw hf qq h8 (fun i hi => absurd hi (Nat.not_lt_zero i)) (Nat.zero_le _) AW NW CE EE ?_ TT
          intro v gb b1 o1 c1 b2 o2 c2 g i1 i2
          refine ((MC n gb _ _ c1 W _ _ c2 F v hn g (by omega) (by omega) i1 i2).2.1 ⟨rfl, rfl⟩ c).mono ?_
          rintro e w' ⟨rfl, b⟩
          exact ⟨_, rfl, b, Own.new _ _⟩
      · exact mem_len n _ _ (n : Nat) pw lw cw pf lf cf w h8 hl AW NW CE EE
  · exact mem_side side pw lw cw pf lf cf w AW (fun v => new_no side v hs)
end Ms
end Go.Proofs.YtpfndibgfkkcgaaDoor

namespace Go.Proofs.YtpfndibgfkkcgaaDoor
open Go.RowKit Go.Deep Cu
namespace Ms
open Sh
/-- the lower word -/
def loW (x : Int) : Int := x % 18446744073709551616
/-- the upper word -/
def hiW (x : Int) : Int := x / 18446744073709551616 % 18446744073709551616
/-- a number as a word -/
def wd (n : Int) : Int := if n < 0 then n + 18446744073709551616 else n
/-- its sign as a word -/
def sgW (n : Int) : Int := if n < 0 then 18446744073709551615 else 0
theorem loW_in (x : Int) : 0 ≤ loW x ∧ loW x < 18446744073709551616 := by unfold loW; omega
theorem hiW_in (x : Int) : 0 ≤ hiW x ∧ hiW x < 18446744073709551616 := by unfold hiW; omega
theorem wd_in {n : Int} (h : W64 n) : 0 ≤ wd n ∧ wd n < 18446744073709551616 := by
  unfold W64 at h; unfold wd; split <;> omega
theorem sgW_in (n : Int) : 0 ≤ sgW n ∧ sgW n < 18446744073709551616 := by unfold sgW; split <;> omega
theorem wd_wrap {n : Int} (h : W64 n) : IntKind.u64.wrap n = wd n := by
  unfold W64 at h; unfold wd
  simp [IntKind.wrap, IntKind.bits, IntKind.signed]
  split <;> omega
theorem plus_low {x n : Int} (_h : W64 n) : (loW x + wd n + 0) % 18446744073709551616 = loW (x + n) := by
  unfold loW wd; split <;> omega
theorem plus_high {x n : Int} (_h : W64 n) : (hiW x + sgW n + (loW x + wd n + 0) / 18446744073709551616) % 18446744073709551616 = hiW (x + n) := by
  unfold hiW loW wd sgW; split <;> omega
theorem plus_carry {x n : Int} (h : W64 n) : 0 ≤ (loW x + wd n + 0) / 18446744073709551616 ∧ (loW x + wd n + 0) / 18446744073709551616 ≤ 1 := by
  have := loW_in x
  have := wd_in h
  omega
/-- what is borrowed -/
def bo (a b : Int) : Int := if a < b then 1 else 0
theorem bo_in (a b : Int) : 0 ≤ bo a b ∧ bo a b ≤ 1 := by unfold bo; split <;> omega
theorem minus_low {x n : Int} (_h : W64 n) : (loW x + 18446744073709551616 - wd n - 0) % 18446744073709551616 = loW (x - n) := by
  unfold loW wd; split <;> omega
theorem minus_high {x n : Int} (h : W64 n) : (hiW x + 18446744073709551616 - sgW n - bo (loW x) (wd n + 0)) % 18446744073709551616 = hiW (x - n) := by
  unfold W64 at h; unfold hiW loW wd sgW bo
  by_cases c : n < 0
  · rw [if_pos c, if_pos c]; split <;> omega
  · rw [if_neg c, if_neg c]; split <;> omega
/-- the lower word as a number -/
def sh (x : Int) : Int := if loW x < 9223372036854775808 then loW x else loW x - 18446744073709551616
theorem sh_in (x : Int) : W64 (sh x) := by
  have := loW_in x
  unfold W64 sh; split <;> omega
theorem sh_wrap (x : Int) : IntKind.i64.wrap (loW x) = sh x := by
  have := loW_in x
  unfold sh
  generalize loW x = y at *
  simp [IntKind.wrap, IntKind.bits, IntKind.signed]
  split <;> omega
theorem sh_of {x : Int} (h : W64 x) : sh x = x ∧ hiW x = sgW (sh x) := by
  unfold W64 at h
  have e : sh x = x := by unfold sh loW; split <;> omega
  refine ⟨e, ?_⟩
  rw [e]
  unfold hiW sgW; split <;> omega
theorem sh_no {x : Int} (h : ¬ W64 x) (a : -170141183460469231731687303715884105728 ≤ x) (b : x < 170141183460469231731687303715884105728) : hiW x ≠ sgW (sh x) := by
  unfold W64 at h
  unfold hiW sgW sh loW
  intro e
  by_cases c : x % 18446744073709551616 < 9223372036854775808
  · rw [if_pos c, if_neg (by omega)] at e; omega
  · rw [if_neg c, if_pos (by omega)] at e; omega
theorem three_a (s : String) (x y c : Nat) (hc1 : c ≤ 1) (w : World) : (Extern.MathBitsCarry.three s #[.int .u64 x, .int .u64 y, .int .u64 c]).run Tryd.prog w = .ok (x, y, c) w := by
  have h : c = 0 ∨ c = 1 := by omega
  rcases h with rfl | rfl <;> rfl
theorem run_add (x y c s o : Int) (hx : 0 ≤ x) (hy : 0 ≤ y) (hc : 0 ≤ c) (hc1 : c ≤ 1) (hs : (x + y + c) % 18446744073709551616 = s) (ho : (x + y + c) / 18446744073709551616 = o) (w : World) :
    (callFunc 37 #[.int .u64 x, .int .u64 y, .int .u64 c]).run Tryd.prog w = .ok (.value (.tuple #[.int .u64 s, .int .u64 o])) w := by
  rw [run_callFunc_extern (e := fun args => do
    let (x, y, c) ← Extern.MathBitsCarry.three "Add64" args
    pure (Extern.MathBitsCarry.pair ((x + y + c) % Extern.MathBitsCarry.m64) ((x + y + c) / Extern.MathBitsCarry.m64))) Tryd.func37 (by kernel_rfl) (by kernel_rfl) (by kernel_rfl) (by kernel_rfl)]
  obtain ⟨x, rfl⟩ : ∃ n : Nat, x = n := ⟨x.toNat, by omega⟩
  obtain ⟨y, rfl⟩ : ∃ n : Nat, y = n := ⟨y.toNat, by omega⟩
  obtain ⟨c, rfl⟩ : ∃ n : Nat, c = n := ⟨c.toNat, by omega⟩
  have e : Extern.MathBitsCarry.m64 = 18446744073709551616 := by decide
  have hp : Extern.MathBitsCarry.pair ((x + y + c) % Extern.MathBitsCarry.m64) ((x + y + c) / Extern.MathBitsCarry.m64) = .tuple #[.int .u64 s, .int .u64 o] := by
    unfold Extern.MathBitsCarry.pair
    rw [e, Int.ofNat_eq_natCast, Int.ofNat_eq_natCast]
    have h1 : (((x + y + c) % 18446744073709551616 : Nat) : Int) = s := by omega
    have h2 : (((x + y + c) / 18446744073709551616 : Nat) : Int) = o := by omega
    rw [h1, h2]
  have h4 := three_a "Add64" x y c (by omega) w
  rw [Sem.run_bind, h4, Result.andThen_ok]
  show Result.andThen (Sem.run Tryd.prog (pure (Extern.MathBitsCarry.pair ((x + y + c) % Extern.MathBitsCarry.m64) ((x + y + c) / Extern.MathBitsCarry.m64))) w) _ = _
  rw [hp]; rfl
theorem run_sub (x y c s o : Int) (hx : 0 ≤ x) (hy : 0 ≤ y) (hy1 : y < 18446744073709551616) (hc : 0 ≤ c) (hc1 : c ≤ 1) (hs : (x + 18446744073709551616 - y - c) % 18446744073709551616 = s) (ho : bo x (y + c) = o) (w : World) :
    (callFunc 45 #[.int .u64 x, .int .u64 y, .int .u64 c]).run Tryd.prog w = .ok (.value (.tuple #[.int .u64 s, .int .u64 o])) w := by
  rw [run_callFunc_extern (e := fun args => do
    let (x, y, b) ← Extern.MathBitsCarry.three "Sub64" args
    pure (Extern.MathBitsCarry.pair ((x + Extern.MathBitsCarry.m64 - y - b) % Extern.MathBitsCarry.m64) (if x < y + b then 1 else 0))) Tryd.func45 (by kernel_rfl) (by kernel_rfl) (by kernel_rfl) (by kernel_rfl)]
  obtain ⟨x, rfl⟩ : ∃ n : Nat, x = n := ⟨x.toNat, by omega⟩
  obtain ⟨y, rfl⟩ : ∃ n : Nat, y = n := ⟨y.toNat, by omega⟩
  obtain ⟨c, rfl⟩ : ∃ n : Nat, c = n := ⟨c.toNat, by omega⟩
  have e : Extern.MathBitsCarry.m64 = 18446744073709551616 := by decide
  have hp : Extern.MathBitsCarry.pair ((x + Extern.MathBitsCarry.m64 - y - c) % Extern.MathBitsCarry.m64) (if x < y + c then 1 else 0) = .tuple #[.int .u64 s, .int .u64 o] := by
    unfold Extern.MathBitsCarry.pair
    rw [e, Int.ofNat_eq_natCast, Int.ofNat_eq_natCast]
    have h1 : (((x + 18446744073709551616 - y - c) % 18446744073709551616 : Nat) : Int) = s := by omega
    have h2 : (((if x < y + c then 1 else 0) : Nat) : Int) = o := by
      unfold bo at ho
      by_cases d : x < y + c
      · rw [if_pos d]; rw [if_pos (by omega)] at ho; exact ho
      · rw [if_neg d]; rw [if_neg (by omega)] at ho; exact ho
    rw [h1, h2]
  have h4 := three_a "Sub64" x y c (by omega) w
  rw [Sem.run_bind, h4, Result.andThen_ok]
  show Result.andThen (Sem.run Tryd.prog (pure (Extern.MathBitsCarry.pair ((x + Extern.MathBitsCarry.m64 - y - c) % Extern.MathBitsCarry.m64) (if x < y + c then 1 else 0))) w) _ = _
  rw [hp]; rfl
/-- flows below a number -/
def upF (k : Nat) (F : Nat → Int) (i : Nat) : Int := if i < k then F i else 0
theorem mv_nil {n c : Nat} (W F : Nat → Int) (hn : 1 ≤ n) (hc : c < 6 * n * n) : mv n W (upF 0 F) c = W c := by
  have h := mv_back n W (fun _ => 0) c
  have g := mv_two n W (fun _ => 0) (fun i => -(fun _ => (0 : Int)) i) c
  rw [h] at g
  rw [g]
  exact mv_congr hn hc rfl (fun i _ => by simp [upF])
/-- one flow more -/
theorem mv_up {n k c : Nat} (W F : Nat → Int) (hn : 1 ≤ n) (hk : k < 12 * n * n) (hc : c < 6 * n * n) : mv n W (upF (k + 1) F) c = if c = edT n k / 4 then mv n W (upF k F) c - F k else if c = mt n (edT n k) / 4 then mv n W (upF k F) c + F k else mv n W (upF k F) c := by
  rw [← mv_one (q := F k) (mv n W (upF k F)) hn hk hc, mv_two]
  refine mv_congr hn hc rfl (fun i _ => ?_)
  unfold upF oneF
  by_cases a : i < k
  · rw [if_pos (by omega), if_pos a, if_neg (by omega)]; omega
  · by_cases b : i = k
    · subst b; rw [if_pos (by omega), if_neg (by omega), if_pos rfl]; omega
    · rw [if_neg (by omega), if_neg a, if_neg b]; omega
theorem mv_all {n c : Nat} (W F : Nat → Int) (hn : 1 ≤ n) (hc : c < 6 * n * n) : mv n W (upF (12 * n * n) F) c = mv n W F c :=
  mv_congr hn hc rfl (fun i hi => by unfold upF; rw [if_pos hi])
theorem sum_in {f : Nat → Int} : ∀ {l : Nat}, (∀ k, k < l → W64 (f k)) → -(9223372036854775808 * (l : Int)) ≤ sumN f l ∧ sumN f l ≤ 9223372036854775807 * (l : Int)
  | 0, _ => by unfold sumN; omega
  | l + 1, h => by
    have i := sum_in (l := l) (fun k hk => h k (by omega))
    have j := h l (by omega)
    unfold W64 at j
    show _ ≤ sumN f l + f l ∧ sumN f l + f l ≤ _
    omega
end Ms
end Go.Proofs.YtpfndibgfkkcgaaDoor
