/-
  Rains: walks over the reference (layer 18).
-/
import Derived.Test.YthcgbjkbnbeobaaRnC
namespace Go.Proofs.Ythcgbjkbnbeobaa
open Go.RowKit Go.Deep
namespace Rn
open Sh
set_option maxRecDepth 100000 in
set_option maxHeartbeats 16000000 in
theorem rvalid18 (n r1 r2 r3 r4 : Int) (w : World) :
    Calls Try.prog 11 #[.int .i64 n, .agg #[.int .i64 r1, .int .i64 r2, .int .i64 r3, .int .i64 r4]] w fun e w' => e = .returned (.bool (vB n (r1, r2, r3, r4))) ∧ Below w.heap.size w w' := by
  have A0 : Hid (Ab w (w.alloc (.cells #[.int .i64 r1, .int .i64 r2, .int .i64 r3, .int .i64 r4] 29))) := bl1 _ _
  have R0 : Hid ((w.alloc (.cells #[.int .i64 r1, .int .i64 r2, .int .i64 r3, .int .i64 r4] 29)).heap[w.heap.size]? = some (.cells #[.int .i64 r1, .int .i64 r2, .int .i64 r3, .int .i64 r4] 29)) := heap_alloc_new _ _
  have VE : Hid (vB n (r1, r2, r3, r4) = (decide (0 ≤ r1) && decide (r1 < n) && decide (-4503599627370496 ≤ r2) && decide (r2 ≤ 4503599627370496) && decide (0 ≤ r3) && decide (r3 ≤ r4))) := rfl
  cases h0 : decide (0 ≤ r1) with
  | false =>
    have KO : Hid (vB n (r1, r2, r3, r4) = false) := VE.out.trans (by rw [h0] <;> rfl)
    clear VE
    go_enter Try.func11, Try.ntmps11
    go_upto_region 1 with fail
    generalize hW : World.alloc w _ = W0 at *
    obtain ⟨gw, hgw⟩ : ∃ g, w.heap.size = g := ⟨_, rfl⟩
    rw [hgw] at R0 ⊢
    clear hgw hW
    have x0 := cell_of_row _ _ 0 _ _ _ R0.out
    have x1 := cell_of_row _ _ 1 _ _ _ R0.out
    have x2 := cell_of_row _ _ 2 _ _ _ R0.out
    have x3 := cell_of_row _ _ 3 _ _ _ R0.out
    go_wp2
    go_ret
    exact ⟨by rw [KO.out]; rfl, A0.out⟩
  | true =>
    cases h1 : decide (r1 < n) with
    | false =>
      have KO : Hid (vB n (r1, r2, r3, r4) = false) := VE.out.trans (by rw [h0, h1] <;> rfl)
      clear VE
      go_enter Try.func11, Try.ntmps11
      go_upto_region 1 with fail
      generalize hW : World.alloc w _ = W0 at *
      obtain ⟨gw, hgw⟩ : ∃ g, w.heap.size = g := ⟨_, rfl⟩
      rw [hgw] at R0 ⊢
      clear hgw hW
      have x0 := cell_of_row _ _ 0 _ _ _ R0.out
      have x1 := cell_of_row _ _ 1 _ _ _ R0.out
      have x2 := cell_of_row _ _ 2 _ _ _ R0.out
      have x3 := cell_of_row _ _ 3 _ _ _ R0.out
      go_wp2
      go_ret
      exact ⟨by rw [KO.out]; rfl, A0.out⟩
    | true =>
      cases h2 : decide (-4503599627370496 ≤ r2) with
      | false =>
        have KO : Hid (vB n (r1, r2, r3, r4) = false) := VE.out.trans (by rw [h0, h1, h2] <;> rfl)
        clear VE
        go_enter Try.func11, Try.ntmps11
        go_upto_region 1 with fail
        generalize hW : World.alloc w _ = W0 at *
        obtain ⟨gw, hgw⟩ : ∃ g, w.heap.size = g := ⟨_, rfl⟩
        rw [hgw] at R0 ⊢
        clear hgw hW
        have x0 := cell_of_row _ _ 0 _ _ _ R0.out
        have x1 := cell_of_row _ _ 1 _ _ _ R0.out
        have x2 := cell_of_row _ _ 2 _ _ _ R0.out
        have x3 := cell_of_row _ _ 3 _ _ _ R0.out
        go_wp2
        go_ret
        exact ⟨by rw [KO.out]; rfl, A0.out⟩
      | true =>
        cases h3 : decide (r2 ≤ 4503599627370496) with
        | false =>
          have KO : Hid (vB n (r1, r2, r3, r4) = false) := VE.out.trans (by rw [h0, h1, h2, h3] <;> rfl)
          clear VE
          go_enter Try.func11, Try.ntmps11
          go_upto_region 1 with fail
          generalize hW : World.alloc w _ = W0 at *
          obtain ⟨gw, hgw⟩ : ∃ g, w.heap.size = g := ⟨_, rfl⟩
          rw [hgw] at R0 ⊢
          clear hgw hW
          have x0 := cell_of_row _ _ 0 _ _ _ R0.out
          have x1 := cell_of_row _ _ 1 _ _ _ R0.out
          have x2 := cell_of_row _ _ 2 _ _ _ R0.out
          have x3 := cell_of_row _ _ 3 _ _ _ R0.out
          go_wp2
          go_ret
          exact ⟨by rw [KO.out]; rfl, A0.out⟩
        | true =>
          cases h4 : decide (0 ≤ r3) with
          | false =>
            have KO : Hid (vB n (r1, r2, r3, r4) = false) := VE.out.trans (by rw [h0, h1, h2, h3, h4] <;> rfl)
            clear VE
            go_enter Try.func11, Try.ntmps11
            go_upto_region 1 with fail
            generalize hW : World.alloc w _ = W0 at *
            obtain ⟨gw, hgw⟩ : ∃ g, w.heap.size = g := ⟨_, rfl⟩
            rw [hgw] at R0 ⊢
            clear hgw hW
            have x0 := cell_of_row _ _ 0 _ _ _ R0.out
            have x1 := cell_of_row _ _ 1 _ _ _ R0.out
            have x2 := cell_of_row _ _ 2 _ _ _ R0.out
            have x3 := cell_of_row _ _ 3 _ _ _ R0.out
            go_wp2
            go_ret
            exact ⟨by rw [KO.out]; rfl, A0.out⟩
          | true =>
            cases h5 : decide (r3 ≤ r4) with
            | false =>
              have KO : Hid (vB n (r1, r2, r3, r4) = false) := VE.out.trans (by rw [h0, h1, h2, h3, h4, h5] <;> rfl)
              clear VE
              go_enter Try.func11, Try.ntmps11
              go_upto_region 1 with fail
              generalize hW : World.alloc w _ = W0 at *
              obtain ⟨gw, hgw⟩ : ∃ g, w.heap.size = g := ⟨_, rfl⟩
              rw [hgw] at R0 ⊢
              clear hgw hW
              have x0 := cell_of_row _ _ 0 _ _ _ R0.out
              have x1 := cell_of_row _ _ 1 _ _ _ R0.out
              have x2 := cell_of_row _ _ 2 _ _ _ R0.out
              have x3 := cell_of_row _ _ 3 _ _ _ R0.out
              go_wp2
              go_ret
              exact ⟨by rw [KO.out]; rfl, A0.out⟩
            | true =>
              have KO : Hid (vB n (r1, r2, r3, r4) = true) := VE.out.trans (by rw [h0, h1, h2, h3, h4, h5] <;> rfl)
              clear VE
              go_enter Try.func11, Try.ntmps11
              go_upto_region 1 with fail
              generalize hW : World.alloc w _ = W0 at *
              obtain ⟨gw, hgw⟩ : ∃ g, w.heap.size = g := ⟨_, rfl⟩
              rw [hgw] at R0 ⊢
              clear hgw hW
              have x0 := cell_of_row _ _ 0 _ _ _ R0.out
              have x1 := cell_of_row _ _ 1 _ _ _ R0.out
              have x2 := cell_of_row _ _ 2 _ _ _ R0.out
              have x3 := cell_of_row _ _ 3 _ _ _ R0.out
              go_wp2
              go_ret
              exact ⟨by rw [KO.out]; rfl, A0.out⟩
set_option maxRecDepth 100000 in
set_option maxHeartbeats 16000000 in
theorem rless18 (a b : Int) (w : World) : Calls Try.prog 23 #[.int .i64 a, .int .i64 b] w fun e w' => e = .returned (.int .i64 (if b < a then b else a)) ∧ Below w.heap.size w w' := by
  by_cases c : b < a
  · have d : decide (b < a) = true := decide_eq_true c
    rw [if_pos c]
    go_enter Try.func23, Try.ntmps23
    go_wp2
    go_ret
    exact ⟨rfl, Below.refl _ _⟩
  · have d : decide (b < a) = false := decide_eq_false c
    rw [if_neg c]
    go_enter Try.func23, Try.ntmps23
    go_wp2
    go_ret
    exact ⟨rfl, Below.refl _ _⟩
theorem wpList_app18 {ops : Array Oper} {rest : List Oper} {o : Oper} {a : Act} {w : World} {Q : Exit → Act → World → Prop} (hgd : o.guard = none) (s x : Operand)
    (ho : o.op = .call { callee := .builtin .append, args := #[s, x], argTypes := #[22, 22] })
    (B : Nat) (v : Value) (l : List Int) (hs : a.eval s = v) (hown : Own B v l w)
    (ad : Addr) (m c : Nat) (news : List Int) (hx : a.eval x = .slice (some ad) m c) (hl : news.length = m) (hnews : ∀ j u, (news.map (Value.int .i64))[j]? = some u → w.cell? (ad.add j) = some u)
    (hm : 0 < m) (hlen : l.length + m ≤ 17592186044416) (hB : B ≤ w.heap.size) (nm : Nat) (hnm : l.length + m = nm)
    (h : ∀ g cap w', Own B (.slice (some ⟨g, 0, none⟩) nm cap) (l ++ news) w' → w.grownBy w' v.ownBlock → (v.ownBlock = some g ∨ g = w.heap.size) → B ≤ g → wpList Try.prog ops Q rest (a.put o.dst (.slice (some ⟨g, 0, none⟩) nm cap)) w') : wpList Try.prog ops Q (o :: rest) a w := by
  subst hnm
  obtain ⟨i0, hi, hz0, hz1, hz2⟩ := Sh.info_i
  refine wpList_append_lies w hgd s x _ ho B 2 i0 (.int .i64 0) 1 8 Try.underlying22 hi hz0 hz1 hz2 rfl (by decide) v l.length (l.map (Value.int .i64)) hs hown ad m c (news.map (Value.int .i64)) hx (by simpa using hl) hnews (fun u hu => by
    obtain ⟨y, _, rfl⟩ := List.mem_map.1 hu
    rfl) hm (by unfold maxLen; omega) (by omega) hB _ rfl ?_
  intro g cap w' o1 g1 e1 _
  have hb : B ≤ g := by
    rcases o1.2 with ⟨q, _⟩ | ⟨g2, _, _, q, hb, _⟩
    · cases q
    · injection q with q1 q2 q3
      injection q1 with q4
      injection q4 with q5
      omega
  refine h g cap w' ?_ g1 e1 hb
  unfold Own
  rw [List.length_append, List.map_append, hl]
  exact o1
/-- a list of the call's own, as a row -/
theorem own_row18 {B : Nat} {v : Value} {l : List Int} {w : World} (h : Own B v l w) (h0 : 0 < l.length) : ∃ g cap F, v = .slice (some ⟨g, 0, none⟩) l.length cap ∧ B ≤ g ∧ l.length ≤ cap ∧ cap ≤ maxLen ∧ w.rowIs g 2 cap F ∧ ∀ i, i < l.length → F i = .int .i64 (l.getD i 0) := by
  rcases h.2 with ⟨rfl, hz⟩ | ⟨g, cap, cur, e, hb, hg, h1, h2, h3, h4⟩
  · omega
  · refine ⟨g, cap, fun i => (cur[i]?).getD (.bool false), e, hb, h1, h2, ⟨cur, hg, by omega, fun i hi => ?_⟩, fun i hi => ?_⟩
    · have : i < cur.size := by omega
      simp [this]
    · have q : (cur.toList.take l.length)[i]? = (l.map (Value.int .i64))[i]? := by
        have h4' : cur.toList.take l.length = l.map (Value.int .i64) := by simpa using h4
        rw [h4']
      rw [List.getElem?_take, if_pos hi, Array.getElem?_toList] at q
      dsimp only
      rw [q]
      simp [hi, List.getD]
theorem own_two18 {B n : Nat} {v : Value} {x : Nat → Int} {w : World} (h : Own B v ((List.range n).map x) w) (h0 : 0 < n) : ∃ g cap F, v = .slice (some ⟨g, 0, none⟩) n cap ∧ B ≤ g ∧ n ≤ cap ∧ cap ≤ maxLen ∧ w.rowIs g 2 cap F ∧ ∀ i, i < n → F i = .int .i64 (x i) := by
  have e : ((List.range n).map x).length = n := by simp
  obtain ⟨g, cap, F, h1, h2, h3, h4, h5, h6⟩ := own_row18 h (by rw [e]; exact h0)
  rw [e] at h1 h3 h6
  exact ⟨g, cap, F, h1, h2, h3, h4, h5, fun i hi => by rw [h6 i hi]; simp [List.getD, hi]⟩
theorem row_own18 {B g cap n : Nat} {F : Nat → Value} {x : Nat → Int} {w : World} (h : w.rowIs g 2 cap F) (hB : B ≤ g) (hn : n ≤ cap) (hc : cap ≤ maxLen) (hF : ∀ i, i < n → F i = .int .i64 (x i)) : Own B (.slice (some ⟨g, 0, none⟩) n cap) ((List.range n).map x) w := by
  obtain ⟨c, hb, hs, hf⟩ := h
  refine ⟨by simp, .inr ⟨g, cap, c, by simp, hB, hb, by simpa using hn, hc, by omega, ?_⟩⟩
  apply List.ext_getElem?
  intro i
  rw [List.getElem?_take, List.length_map, List.length_range]
  by_cases hi : i < n
  · have e := hf i (by omega)
    rw [hF i hi] at e
    rw [if_pos (by omega)]
    rw [← Array.getElem?_toList] at e
    rw [e]
    simp [hi]
  · rw [if_neg (by omega), List.getElem?_eq_none (by simp; omega)]
theorem rn_skip {st : Int} {R : Nat → Int × Int × Int × Int} {X : (Nat → Int) × Int} {c : Nat} {r1 r2 r3 r4 : Int} (hr : R c = (r1, r2, r3, r4)) (h : st < r3 ∨ r4 ≤ st) : rnN st R X (c + 1) = rnN st R X c := by
  show rn1 st (R c) (rnN st R X c) = _
  refine rn1_no ?_
  rw [hr]
  unfold fallB
  rcases h with h | h
  · rw [decide_eq_false (show ¬ r3 ≤ st by omega)]
    rfl
  · rw [decide_eq_false (show ¬ st < r4 by omega), Bool.and_false]
theorem rn_fall {st : Int} {R : Nat → Int × Int × Int × Int} {X : (Nat → Int) × Int} {c k : Nat} {r2 r3 r4 sk x : Int} (hr : R c = ((k : Int), r2, r3, r4)) (h1 : ¬ st < r3) (h2 : ¬ r4 ≤ st) (hs : (rnN st R X c).2 = sk) (hx : (rnN st R X c).1 k = x) :
    (rnN st R X (c + 1)).2 = sk - dn r2 sk x ∧ ∀ i, (rnN st R X (c + 1)).1 i = if i = k then x + dn r2 sk x else (rnN st R X c).1 i := by
  have f : fallB st (R c) = true := by
    rw [hr]
    unfold fallB
    rw [decide_eq_true (show r3 ≤ st by omega), decide_eq_true (show st < r4 by omega)]
    rfl
  have e : rnN st R X (c + 1) = (fun i => if i = k then (rnN st R X c).1 i + dn r2 sk x else (rnN st R X c).1 i, sk - dn r2 sk x) := by
    show rn1 st (R c) (rnN st R X c) = _
    unfold rn1
    rw [if_pos f, hr]
    simp only [Int.toNat_natCast, hs, hx]
  rw [e]
  refine ⟨rfl, fun i => ?_⟩
  dsimp only
  by_cases q : i = k
  · rw [if_pos q, if_pos q, q, hx]
  · rw [if_neg q, if_neg q]
set_option maxRecDepth 100000 in
set_option maxHeartbeats 16000000 in
theorem rfall_no1 (pw : Option Addr) (lw cw : Nat) (s : Int) (pr : Option Addr) (lr cr : Nat) (st : Int) (w : World) (h : decide (st < 0) = true ∨ (decide (st < 0) = false ∧ decide (s < 0) = true) ∨ (decide (st < 0) = false ∧ decide (s < 0) = false ∧ decide (4503599627370496 < s) = true) ∨ (decide (st < 0) = false ∧ decide (s < 0) = false ∧ decide (4503599627370496 < s) = false ∧ decide ((1024 : Int) < (lr : Int)) = true)) :
    Calls Try.prog 13 #[.slice pw lw cw, .int .i64 s, .slice pr lr cr, .int .i64 st] w fun e w' => e = .returned (.tuple #[.slice none 0 0, .int .i64 0, .int .i64 1]) ∧ Below w.heap.size w w' := by
  rcases h with h1 | ⟨h1, h2⟩ | ⟨h1, h2, h3⟩ | ⟨h1, h2, h3, h4⟩
  · go_enter Try.func13, Try.ntmps13
    go_wp2
    go_ret3
    exact ⟨rfl, Below.refl _ _⟩
  · go_enter Try.func13, Try.ntmps13
    go_wp2
    go_ret3
    exact ⟨rfl, Below.refl _ _⟩
  · go_enter Try.func13, Try.ntmps13
    go_wp2
    go_ret3
    exact ⟨rfl, Below.refl _ _⟩
  · go_enter Try.func13, Try.ntmps13
    go_wp2
    go_ret3
    exact ⟨rfl, Below.refl _ _⟩
set_option maxRecDepth 100000 in
set_option maxHeartbeats 16000000 in
theorem rfall_no2 (pw : Option Addr) (lw cw : Nat) (W : Nat → Int) (s : Int) (pr : Option Addr) (lr cr : Nat) (st : Int) (w : World) (h1 : decide (st < 0) = false) (h2 : decide (s < 0) = false) (h3 : decide (4503599627370496 < s) = false) (hlr : lr ≤ 1024) (hlw : lw ≤ 17592186044416) (IW : Hid (IsI w pw lw W)) (HB : Hid (¬ ∀ i, i < lw → 0 ≤ W i ∧ W i ≤ 4503599627370496)) :
    Calls Try.prog 13 #[.slice pw lw cw, .int .i64 s, .slice pr lr cr, .int .i64 st] w fun e w' => e = .returned (.tuple #[.slice none 0 0, .int .i64 0, .int .i64 1]) ∧ Below w.heap.size w w' := by
  have h4 : decide ((1024 : Int) < (lr : Int)) = false := decide_eq_false (by omega)
  have HLR := hid hlr
  have HLW := hid hlw
  have O0 := hid (Sh.own_new w w.heap.size (Nat.le_refl _))
  have A0 : Hid (Ab w (w.alloc (.cells #[] 2))) := bl1 _ _
  clear hlr hlw
  go_enter Try.func13, Try.ntmps13
  go_upto_region 4 with fail
  generalize hW : World.alloc w _ = W0 at *
  obtain ⟨g0, hg0⟩ : ∃ g, w.heap.size = g := ⟨_, rfl⟩
  have HG := hid hg0
  rw [hg0] at O0 ⊢
  clear hW hg0
  go_wp2
  go_loopw [11, 12] (fun ov iv wr => ∃ c : Nat, c ≤ lw ∧ iv = .int .i64 (c : Nat) ∧ Sh.Own g0 ov ((List.range c).map W) wr ∧ Ab w wr ∧ (∀ i, i < c → 0 ≤ W i ∧ W i ≤ 4503599627370496)) (fun _ iv _ => lw - (intOf iv).toNat)
  case atStart => exact ⟨0, by omega, rfl, O0.out, A0.out, fun i hi => absurd hi (Nat.not_lt_zero i)⟩
  case round =>
    obtain ⟨c, hc, rfl, ow, ar, g1⟩ := hrel
    have AR := hid ar
    have OW := hid ow
    clear ow ar O0 A0
    have G1 := hid g1
    clear g1
    by_cases hcn : c < lw
    · have HC := hid hcn
      have hcI : (c : Int) < lw := by omega
      have hcB : (c : Int) ≤ 17592186044416 := by have := HLW.out; omega
      obtain ⟨b0, o0, rfl⟩ := IW.out.some0 (show 0 < lw by omega)
      obtain ⟨x, hx⟩ : ∃ x, W c = x := ⟨_, rfl⟩
      have at0 := (IW.out.below AR.out).at0 hcn
      rw [hx] at at0
      have xc := at0.2.2
      have XE := hid hx
      have XW := hid at0.1
      clear at0 hx hcn hc
      by_cases q1 : x < 0
      · have d1 : decide (x < 0) = true := decide_eq_true q1
        go_wp2
        go_ret3
        exact ⟨rfl, AR.out⟩
      · have d1 : decide (x < 0) = false := decide_eq_false q1
        by_cases q2 : 4503599627370496 < x
        · have d2 : decide (4503599627370496 < x) = true := decide_eq_true q2
          go_wp2
          go_ret3
          exact ⟨rfl, AR.out⟩
        · have d2 : decide (4503599627370496 < x) = false := decide_eq_false q2
          have G2 : Hid (∀ i, i < c + 1 → 0 ≤ W i ∧ W i ≤ 4503599627370496) := fun i hi => by
            by_cases l : i < c
            · exact G1.out i l
            · obtain rfl : i = c := by omega
              rw [XE.out]
              omega
          clear q1 q2
          have NX : Hid (∀ V : World, V = wr.alloc (.cells #[.int .i64 x] 2) → ∀ (j : Nat) (u : Value), ([x].map (Value.int .i64))[j]? = some u → V.cell? ((⟨wr.heap.size, 0, none⟩ : Addr).add j) = some u) := fun V hV j u hu => by
            subst hV
            rw [Sh.add_off, Nat.zero_add, cell_of_row _ _ j _ _ (0, 0) (heap_alloc_new wr _)]
            simpa using hu
          have OA := hid (Sh.Own.alloc OW.out (.cells #[.int .i64 x] 2))
          have HZ : Hid (g0 ≤ (wr.alloc (.cells #[.int .i64 x] 2)).heap.size) := by
            show _ ≤ _
            rw [size1]
            have := Below.size AR.out
            rw [HG.out] at this
            omega
          have AL : Hid (Ab w (wr.alloc (.cells #[.int .i64 x] 2))) := AR.out.trans (bl1 _ _)
          have LC : Hid (((List.range c).map W).length = c) := by show _ = _; simp
          have EN : Hid ((List.range c).map W ++ [x] = (List.range (c + 1)).map W) := by show _ = _; rw [List.range_succ, List.map_append, ← XE.out]; rfl
          go_wp2_with (at_builtin; refine wpList_app18 rfl _ _ rfl g0 _ ((List.range c).map W) rfl OA.out ⟨wr.heap.size, 0, none⟩ 1 1 [x] rfl rfl (NX.out _ rfl) (by omega) (by rw [LC.out]; have := HC.out; have := HLW.out; omega) HZ.out (c + 1) (by rw [LC.out]) ?_; intro g7 c7 w7 o7 a7 _ _; have O7 := hid o7; have A7 : Hid (Ab w w7) := (AL.out : Below _ _ _).grown a7 (by have := Below.size AL.out; omega) (fun k hk => by have := (World.ownsRow.lt OA.out k hk).1; rw [HG.out]; exact this); clear o7 a7)
          refine ⟨⟨c + 1, by have := HC.out; omega, by simp, ?_, A7.out, G2.out⟩, by have := HC.out; simp [intOf]; omega⟩
          rw [← EN.out]
          exact O7.out
    · have e6 : lw = c := by omega
      subst e6
      exact absurd G1.out HB.out
set_option maxRecDepth 100000 in
set_option maxHeartbeats 16000000 in
theorem rfall_no3 (pw : Option Addr) (lw cw : Nat) (W : Nat → Int) (s : Int) (pr : Option Addr) (lr cr : Nat) (R : Nat → Int × Int × Int × Int) (st : Int) (w : World) (h1 : decide (st < 0) = false) (h2 : decide (s < 0) = false) (h3 : decide (4503599627370496 < s) = false) (hlr : lr ≤ 1024) (hlw : lw ≤ 17592186044416) (IW : Hid (IsI w pw lw W)) (IR : Hid (IsRn w pr lr R)) (HW : Hid (∀ i, i < lw → 0 ≤ W i ∧ W i ≤ 4503599627370496)) (HB : Hid (¬ ∀ k, k < lr → vB (lw : Nat) (R k) = true)) :
    Calls Try.prog 13 #[.slice pw lw cw, .int .i64 s, .slice pr lr cr, .int .i64 st] w fun e w' => e = .returned (.tuple #[.slice none 0 0, .int .i64 0, .int .i64 1]) ∧ Below w.heap.size w w' := by
  have h4 : decide ((1024 : Int) < (lr : Int)) = false := decide_eq_false (by omega)
  have HLR := hid hlr
  have HLW := hid hlw
  have O0 := hid (Sh.own_new w w.heap.size (Nat.le_refl _))
  have A0 : Hid (Ab w (w.alloc (.cells #[] 2))) := bl1 _ _
  clear hlr hlw
  go_enter Try.func13, Try.ntmps13
  go_upto_region 4 with fail
  generalize hW : World.alloc w _ = W0 at *
  obtain ⟨g0, hg0⟩ : ∃ g, w.heap.size = g := ⟨_, rfl⟩
  have HG := hid hg0
  rw [hg0] at O0 ⊢
  clear hW hg0
  go_wp2
  go_loopw [11, 12] (fun ov iv wr => ∃ c : Nat, c ≤ lw ∧ iv = .int .i64 (c : Nat) ∧ Sh.Own g0 ov ((List.range c).map W) wr ∧ Ab w wr) (fun _ iv _ => lw - (intOf iv).toNat)
  case atStart => exact ⟨0, by omega, rfl, O0.out, A0.out⟩
  case round =>
    obtain ⟨c, hc, rfl, ow, ar⟩ := hrel
    have AR := hid ar
    have OW := hid ow
    clear ow ar O0 A0
    by_cases hcn : c < lw
    · have HC := hid hcn
      have hcI : (c : Int) < lw := by omega
      have hcB : (c : Int) ≤ 17592186044416 := by have := HLW.out; omega
      obtain ⟨b0, o0, rfl⟩ := IW.out.some0 (show 0 < lw by omega)
      obtain ⟨x, hx⟩ : ∃ x, W c = x := ⟨_, rfl⟩
      have at0 := (IW.out.below AR.out).at0 hcn
      rw [hx] at at0
      have xc := at0.2.2
      have XE := hid hx
      have XW := hid at0.1
      clear at0 hx hcn hc
      have xb := HW.out c HC.out
      rw [XE.out] at xb
      have d1 : decide (x < 0) = false := decide_eq_false (by omega)
      have d2 : decide (4503599627370496 < x) = false := decide_eq_false (by omega)
      clear xb
      have NX : Hid (∀ V : World, V = wr.alloc (.cells #[.int .i64 x] 2) → ∀ (j : Nat) (u : Value), ([x].map (Value.int .i64))[j]? = some u → V.cell? ((⟨wr.heap.size, 0, none⟩ : Addr).add j) = some u) := fun V hV j u hu => by
        subst hV
        rw [Sh.add_off, Nat.zero_add, cell_of_row _ _ j _ _ (0, 0) (heap_alloc_new wr _)]
        simpa using hu
      have OA := hid (Sh.Own.alloc OW.out (.cells #[.int .i64 x] 2))
      have HZ : Hid (g0 ≤ (wr.alloc (.cells #[.int .i64 x] 2)).heap.size) := by
        show _ ≤ _
        rw [size1]
        have := Below.size AR.out
        rw [HG.out] at this
        omega
      have AL : Hid (Ab w (wr.alloc (.cells #[.int .i64 x] 2))) := AR.out.trans (bl1 _ _)
      have LC : Hid (((List.range c).map W).length = c) := by show _ = _; simp
      have EN : Hid ((List.range c).map W ++ [x] = (List.range (c + 1)).map W) := by show _ = _; rw [List.range_succ, List.map_append, ← XE.out]; rfl
      go_wp2_with (at_builtin; refine wpList_app18 rfl _ _ rfl g0 _ ((List.range c).map W) rfl OA.out ⟨wr.heap.size, 0, none⟩ 1 1 [x] rfl rfl (NX.out _ rfl) (by omega) (by rw [LC.out]; have := HC.out; have := HLW.out; omega) HZ.out (c + 1) (by rw [LC.out]) ?_; intro g7 c7 w7 o7 a7 _ _; have O7 := hid o7; have A7 : Hid (Ab w w7) := (AL.out : Below _ _ _).grown a7 (by have := Below.size AL.out; omega) (fun k hk => by have := (World.ownsRow.lt OA.out k hk).1; rw [HG.out]; exact this); clear o7 a7)
      refine ⟨⟨c + 1, by have := HC.out; omega, by simp, ?_, A7.out⟩, by have := HC.out; simp [intOf]; omega⟩
      rw [← EN.out]
      exact O7.out
    · have e6 : lw = c := by omega
      subst e6
      have A1 := hid AR.out
      go_wp2
      go_loopw [13] (fun iv wq => ∃ c : Nat, c ≤ lr ∧ iv = .int .i64 (c : Nat) ∧ Ab wr wq ∧ (∀ k, k < c → vB (lw : Nat) (R k) = true)) (fun iv _ => lr - (intOf iv).toNat)
      case atStart => exact ⟨0, by omega, rfl, Ab.refl wr, fun i hi => absurd hi (Nat.not_lt_zero i)⟩
      case round =>
        obtain ⟨c, hc, rfl, ar, g1⟩ := hrel
        rename World => wq
        have AQ := hid ar
        clear ar AR
        have G1 := hid g1
        clear g1
        by_cases hcn : c < lr
        · have HC := hid hcn
          have hcI : (c : Int) < lr := by omega
          have hcB : (c : Int) ≤ 1024 := by have := HLR.out; omega
          obtain ⟨rb, ro, rfl⟩ := IR.out.some0 (show 0 < lr by omega)
          obtain ⟨r1, r2, r3, r4, hr⟩ : ∃ a b c' d, R c = (a, b, c', d) := ⟨_, _, _, _, rfl⟩
          have at0 := ((IR.out.below (A1.out.trans AQ.out)).at0 hcn)
          rw [hr] at at0
          have y0 := at0.2.2.1
          have y1 := at0.2.2.2.1
          have y2 := at0.2.2.2.2.1
          have y3 := at0.2.2.2.2.2
          have RE := hid hr
          have RW := hid at0.1
          clear at0 hr hcn hc
          cases vb : vB (lw : Nat) (R c) with
          | false =>
            have CV := hid (rvalid18 (lw : Nat) r1 r2 r3 r4 wq)
            rw [← RE.out, vb] at CV
            go_wp2_with fail
            refine CV.out.mono ?_
            rintro e9 v9 ⟨rfl, b9⟩
            have A9 : Hid (Ab w v9) := A1.out.trans (AQ.out.trans b9)
            clear b9
            go_wp2
            go_ret3
            exact ⟨rfl, A9.out⟩
          | true =>
            have CV := hid (rvalid18 (lw : Nat) r1 r2 r3 r4 wq)
            rw [← RE.out, vb] at CV
            have VB := hid vb
            clear vb
            go_wp2_with fail
            refine CV.out.mono ?_
            rintro e9 v9 ⟨rfl, b9⟩
            have A9 : Hid (Ab wr v9) := AQ.out.trans b9
            clear b9
            go_wp2
            refine ⟨⟨c + 1, by have := HC.out; omega, by simp, A9.out, fun k hk => ?_⟩, by have := HC.out; simp [intOf]; omega⟩
            by_cases l : k < c
            · exact G1.out k l
            · obtain rfl : k = c := by omega
              exact VB.out
        · have e6 : lr = c := by omega
          subst e6
          exact absurd G1.out HB.out
set_option maxRecDepth 100000 in
set_option maxHeartbeats 16000000 in
theorem rfall_go (pw : Option Addr) (lw cw : Nat) (W : Nat → Int) (s : Int) (pr : Option Addr) (lr cr : Nat) (R : Nat → Int × Int × Int × Int) (st : Int) (w : World) (h1 : decide (st < 0) = false) (h2 : decide (s < 0) = false) (h3 : decide (4503599627370496 < s) = false) (hlr : lr ≤ 1024) (hlw : lw ≤ 17592186044416) (IW : Hid (IsI w pw lw W)) (IR : Hid (IsRn w pr lr R)) (HW : Hid (∀ i, i < lw → 0 ≤ W i ∧ W i ≤ 4503599627370496)) (HV : Hid (∀ k, k < lr → vB (lw : Nat) (R k) = true)) (HX : Hid (∀ k, k ≤ lr → (∀ i, i < lw → 0 ≤ (rnN st R (W, s) k).1 i ∧ (rnN st R (W, s) k).1 i ≤ 4616189618054758400) ∧ 0 ≤ (rnN st R (W, s) k).2 ∧ (rnN st R (W, s) k).2 ≤ 4616189618054758400)) :
    Calls Try.prog 13 #[.slice pw lw cw, .int .i64 s, .slice pr lr cr, .int .i64 st] w fun e w' => ∃ v, e = .returned (.tuple #[v, .int .i64 (rnN st R (W, s) lr).2, .int .i64 0]) ∧ Below w.heap.size w w' ∧ Sh.Own w.heap.size v ((List.range lw).map (rnN st R (W, s) lr).1) w' := by
  have h4 : decide ((1024 : Int) < (lr : Int)) = false := decide_eq_false (by omega)
  have HLR := hid hlr
  have HLW := hid hlw
  have O0 := hid (Sh.own_new w w.heap.size (Nat.le_refl _))
  have A0 : Hid (Ab w (w.alloc (.cells #[] 2))) := bl1 _ _
  clear hlr hlw
  go_enter Try.func13, Try.ntmps13
  go_upto_region 4 with fail
  generalize hW : World.alloc w _ = W0 at *
  obtain ⟨g0, hg0⟩ : ∃ g, w.heap.size = g := ⟨_, rfl⟩
  have HG := hid hg0
  rw [hg0] at O0 ⊢
  clear hW hg0
  go_wp2
  go_loopw [11, 12] (fun ov iv wr => ∃ c : Nat, c ≤ lw ∧ iv = .int .i64 (c : Nat) ∧ Sh.Own g0 ov ((List.range c).map W) wr ∧ Ab w wr) (fun _ iv _ => lw - (intOf iv).toNat)
  case atStart => exact ⟨0, by omega, rfl, O0.out, A0.out⟩
  case round =>
    obtain ⟨c, hc, rfl, ow, ar⟩ := hrel
    have AR := hid ar
    have OW := hid ow
    clear ow ar O0 A0
    by_cases hcn : c < lw
    · have HC := hid hcn
      have hcI : (c : Int) < lw := by omega
      have hcB : (c : Int) ≤ 17592186044416 := by have := HLW.out; omega
      obtain ⟨b0, o0, rfl⟩ := IW.out.some0 (show 0 < lw by omega)
      obtain ⟨x, hx⟩ : ∃ x, W c = x := ⟨_, rfl⟩
      have at0 := (IW.out.below AR.out).at0 hcn
      rw [hx] at at0
      have xc := at0.2.2
      have XE := hid hx
      have XW := hid at0.1
      clear at0 hx hcn hc
      have xb := HW.out c HC.out
      rw [XE.out] at xb
      have d1 : decide (x < 0) = false := decide_eq_false (by omega)
      have d2 : decide (4503599627370496 < x) = false := decide_eq_false (by omega)
      clear xb
      have NX : Hid (∀ V : World, V = wr.alloc (.cells #[.int .i64 x] 2) → ∀ (j : Nat) (u : Value), ([x].map (Value.int .i64))[j]? = some u → V.cell? ((⟨wr.heap.size, 0, none⟩ : Addr).add j) = some u) := fun V hV j u hu => by
        subst hV
        rw [Sh.add_off, Nat.zero_add, cell_of_row _ _ j _ _ (0, 0) (heap_alloc_new wr _)]
        simpa using hu
      have OA := hid (Sh.Own.alloc OW.out (.cells #[.int .i64 x] 2))
      have HZ : Hid (g0 ≤ (wr.alloc (.cells #[.int .i64 x] 2)).heap.size) := by
        show _ ≤ _
        rw [size1]
        have := Below.size AR.out
        rw [HG.out] at this
        omega
      have AL : Hid (Ab w (wr.alloc (.cells #[.int .i64 x] 2))) := AR.out.trans (bl1 _ _)
      have LC : Hid (((List.range c).map W).length = c) := by show _ = _; simp
      have EN : Hid ((List.range c).map W ++ [x] = (List.range (c + 1)).map W) := by show _ = _; rw [List.range_succ, List.map_append, ← XE.out]; rfl
      go_wp2_with (at_builtin; refine wpList_app18 rfl _ _ rfl g0 _ ((List.range c).map W) rfl OA.out ⟨wr.heap.size, 0, none⟩ 1 1 [x] rfl rfl (NX.out _ rfl) (by omega) (by rw [LC.out]; have := HC.out; have := HLW.out; omega) HZ.out (c + 1) (by rw [LC.out]) ?_; intro g7 c7 w7 o7 a7 _ _; have O7 := hid o7; have A7 : Hid (Ab w w7) := (AL.out : Below _ _ _).grown a7 (by have := Below.size AL.out; omega) (fun k hk => by have := (World.ownsRow.lt OA.out k hk).1; rw [HG.out]; exact this); clear o7 a7)
      refine ⟨⟨c + 1, by have := HC.out; omega, by simp, ?_, A7.out⟩, by have := HC.out; simp [intOf]; omega⟩
      rw [← EN.out]
      exact O7.out
    · have e6 : lw = c := by omega
      subst e6
      have A1 := hid AR.out
      go_wp2
      go_loopw [13] (fun iv wq => ∃ c : Nat, c ≤ lr ∧ iv = .int .i64 (c : Nat) ∧ Ab wr wq) (fun iv _ => lr - (intOf iv).toNat)
      case atStart => exact ⟨0, by omega, rfl, Ab.refl wr⟩
      case round =>
        obtain ⟨c, hc, rfl, ar⟩ := hrel
        rename World => wq
        have AQ := hid ar
        clear ar AR
        by_cases hcn : c < lr
        · have HC := hid hcn
          have hcI : (c : Int) < lr := by omega
          have hcB : (c : Int) ≤ 1024 := by have := HLR.out; omega
          obtain ⟨rb, ro, rfl⟩ := IR.out.some0 (show 0 < lr by omega)
          obtain ⟨r1, r2, r3, r4, hr⟩ : ∃ a b c' d, R c = (a, b, c', d) := ⟨_, _, _, _, rfl⟩
          have at0 := ((IR.out.below (A1.out.trans AQ.out)).at0 hcn)
          rw [hr] at at0
          have y0 := at0.2.2.1
          have y1 := at0.2.2.2.1
          have y2 := at0.2.2.2.2.1
          have y3 := at0.2.2.2.2.2
          have RE := hid hr
          have RW := hid at0.1
          clear at0 hr hcn hc
          have CV := hid (rvalid18 (lw : Nat) r1 r2 r3 r4 wq)
          rw [← RE.out, HV.out c HC.out] at CV
          go_wp2_with fail
          refine CV.out.mono ?_
          rintro e9 v9 ⟨rfl, b9⟩
          have A9 : Hid (Ab wr v9) := AQ.out.trans b9
          clear b9
          go_wp2
          exact ⟨⟨c + 1, by have := HC.out; omega, by simp, A9.out⟩, by have := HC.out; simp [intOf]; omega⟩
        · have e6 : lr = c := by omega
          subst e6
          have A2 : Hid (Ab w wq) := A1.out.trans AQ.out
          have O2 := hid (OW.out.to AQ.out)
          obtain ⟨oa, oc, he⟩ : ∃ a0 cap, u11 = .slice a0 lw cap := by
            rcases OW.out.2 with ⟨q, h0⟩ | ⟨g, cap, cur, q, _⟩
            · refine ⟨none, 0, ?_⟩
              rw [q]
              simp at h0
              rw [h0]
            · refine ⟨some ⟨g, 0, none⟩, cap, ?_⟩
              rw [q]
              simp
          subst he
          clear OW AQ A1
          go_wp2
          go_loopw [1, 14] (fun sv iv wz => ∃ c : Nat, c ≤ lr ∧ iv = .int .i64 (c : Nat) ∧ sv = .int .i64 (rnN st R (W, s) c).2 ∧ Ab w wz ∧ Sh.Own g0 (.slice oa lw oc) ((List.range lw).map (rnN st R (W, s) c).1) wz) (fun _ iv _ => lr - (intOf iv).toNat)
          case atStart => exact ⟨0, by omega, rfl, rfl, A2.out, O2.out⟩
          case round =>
            obtain ⟨c, hc, rfl, rfl, ar, ow⟩ := hrel
            rename World => wz
            have AQ := hid ar
            have OZ := hid ow
            clear ar ow A2 O2
            obtain ⟨sk, hsk⟩ : ∃ q, (rnN st R (W, s) c).2 = q := ⟨_, rfl⟩
            have SK := hid hsk
            have hb := HX.out c hc
            rw [hsk] at hb ⊢
            have s1 := hb.2.1
            have s2 := hb.2.2
            have XB := hid hb.1
            clear hsk hb
            by_cases hcn : c < lr
            · have A1 : Hid (Ab w w) := Ab.refl w
              have HC := hid hcn
              have hcI : (c : Int) < lr := by omega
              have hcB : (c : Int) ≤ 1024 := by have := HLR.out; omega
              obtain ⟨rb, ro, rfl⟩ := IR.out.some0 (show 0 < lr by omega)
              obtain ⟨r1, r2, r3, r4, hr⟩ : ∃ a b c' d, R c = (a, b, c', d) := ⟨_, _, _, _, rfl⟩
              have at0 := ((IR.out.below (A1.out.trans AQ.out)).at0 hcn)
              rw [hr] at at0
              have y0 := at0.2.2.1
              have y1 := at0.2.2.2.1
              have y2 := at0.2.2.2.2.1
              have y3 := at0.2.2.2.2.2
              have RE := hid hr
              have RW := hid at0.1
              clear at0 hr hcn hc
              have ok := vB_iff.1 (HV.out c HC.out)
              rw [RE.out] at ok
              obtain ⟨k, rfl⟩ : ∃ k : Nat, r1 = (k : Nat) := ⟨r1.toNat, by have := ok.1; omega⟩
              have hk : k < lw := by have := ok.2.1; dsimp only at this; omega
              have HK := hid hk
              have kI : (k : Int) < lw := by omega
              have kB : (k : Int) ≤ 17592186044416 := by have := HLW.out; omega
              have ra1 := ok.2.2.1
              have ra2 := ok.2.2.2.1
              dsimp only at ra1 ra2
              obtain ⟨og, ocap, G, ge, hog, hoc, hom, row, hG⟩ := own_two18 OZ.out (show 0 < lw by omega)
              injection ge with ge1 ge2 ge3
              subst ge1 ge3
              obtain ⟨x, hx⟩ : ∃ x, (rnN st R (W, s) c).1 k = x := ⟨_, rfl⟩
              have xb := XB.out k hk
              rw [hx] at xb
              have xb1 := xb.1
              have xb2 := xb.2
              have XK : Hid (G k = .int .i64 x) := by show _ = _; rw [hG k hk, hx]
              have XE := hid hx
              have RO := hid row
              have GG := hid hG
              have BG := hid (And.intro hog (And.intro hoc hom))
              clear hx xb row hG hog hoc hom ok hk
              obtain ⟨gz, hgz⟩ : ∃ g, wz.heap.size = g := ⟨_, rfl⟩
              have OG : Hid (og < wz.heap.size) := RO.out.lt
              go_upto_region 19 with fail
              have AL : Hid (Ab wz (wz.alloc (.cells #[.int .i64 (k : Nat), .int .i64 r2, .int .i64 r3, .int .i64 r4] 29))) := bl1 _ _
              have RZ : Hid ((wz.alloc (.cells #[.int .i64 (k : Nat), .int .i64 r2, .int .i64 r3, .int .i64 r4] 29)).heap[gz]? = some (.cells #[.int .i64 (k : Nat), .int .i64 r2, .int .i64 r3, .int .i64 r4] 29)) := by rw [← hgz]; exact heap_alloc_new _ _
              generalize hW : World.alloc wz _ = V0 at *
              have RO0 := hid (row_ab RO.out AL.out)
              clear hW hgz OG y0 y1 y2 y3
              have x1 := cell_of_row _ _ 1 _ _ _ RZ.out
              have x2 := cell_of_row _ _ 2 _ _ _ RZ.out
              have x3 := cell_of_row _ _ 3 _ _ _ RZ.out
              by_cases f1 : st < r3
              · have e1 : decide (st < r3) = true := decide_eq_true f1
                have NX : Hid (rnN st R (W, s) (c + 1) = rnN st R (W, s) c) := rn_skip RE.out (.inl f1)
                go_wp2
                refine ⟨⟨c + 1, by have := HC.out; omega, by simp, by rw [NX.out, SK.out], AQ.out.trans AL.out, by rw [NX.out]; exact OZ.out.to AL.out⟩, by have := HC.out; simp [intOf]; omega⟩
              · have e1 : decide (st < r3) = false := decide_eq_false f1
                by_cases f2 : r4 ≤ st
                · have e2 : decide (r4 ≤ st) = true := decide_eq_true f2
                  have NX : Hid (rnN st R (W, s) (c + 1) = rnN st R (W, s) c) := rn_skip RE.out (.inr f2)
                  go_wp2
                  refine ⟨⟨c + 1, by have := HC.out; omega, by simp, by rw [NX.out, SK.out], AQ.out.trans AL.out, by rw [NX.out]; exact OZ.out.to AL.out⟩, by have := HC.out; simp [intOf]; omega⟩
                · have e2 : decide (r4 ≤ st) = false := decide_eq_false f2
                  have dI := dn_in (a := r2) s1 xb1
                  have dB := dn_bd (a := r2) (m := 4503599627370496) s1 xb1 ⟨ra1, ra2⟩
                  have NF := hid (rn_fall RE.out f1 f2 SK.out XE.out)
                  obtain ⟨d, hd⟩ : ∃ d, dn r2 sk x = d := ⟨_, rfl⟩
                  rw [hd] at dI dB NF
                  have DE := hid hd
                  have d1 := dI.1
                  have d2 := dI.2
                  have d3 := dB.1
                  have d4 := dB.2
                  clear hd dI dB f1 f2
                  by_cases f3 : r2 < 0
                  · have e3 : decide (r2 < 0) = true := decide_eq_true f3
                    obtain ⟨q, hq⟩ : ∃ q, (if x < -r2 then x else -r2) = q := ⟨_, rfl⟩
                    have dq : d = -q := by
                      rw [← DE.out, ← hq]
                      unfold dn
                      rw [if_pos f3]
                    have CL := hid (rless18 r2 sk V0)
                    have CM : Hid (∀ v, Calls Try.prog 23 #[.int .i64 (-r2), .int .i64 x] v fun e w' => e = .returned (.int .i64 q) ∧ Below v.heap.size v w') := fun v => by rw [← hq]; exact rless18 (-r2) x v
                    clear hq f3
                    subst dq
                    have n1 : -9223372036854775808 ≤ -r2 := by omega
                    have n2 : -r2 ≤ 9223372036854775807 := by omega
                    go_wp2_with fail
                    refine CL.out.mono ?_
                    rintro e9 v1 ⟨rfl, b1⟩
                    have AV : Hid (Ab V0 v1) := b1
                    clear b1 CL
                    have R8 := hid (Ab.heap AV.out RZ.out)
                    have x1 := cell_of_row _ _ 1 _ _ _ R8.out
                    have RO8 := hid (row_ab RO0.out AV.out)
                    have XC : Hid (∀ v, Ab v1 v → v.cell? ⟨og, k, none⟩ = some (.int .i64 x)) := fun v a => by
                      have h := (row_ab RO8.out a).cell (show k < oc by have := BG.out.2.1; have := HK.out; omega)
                      rwa [XK.out] at h
                    go_upto_region 22 with fail
                    obtain ⟨UU, E, hF1, hF2⟩ := cls v1
                    have HU := hid hF2
                    have HU1 := hid hF1
                    have e5 : ∀ u, (E u).cell? ⟨gz, 1, none⟩ = some (.int .i64 r2) := fun u => cell_of_row _ _ 1 _ _ _ ((hF1 u).heap R8.out)
                    have e6 : ∀ u, (E u).cell? ⟨gz, 0, none⟩ = some (.int .i64 (k : Nat)) := fun u => cell_of_row _ _ 0 _ _ _ ((hF1 u).heap R8.out)
                    have e7 : ∀ u, (E u).cell? ⟨og, k, none⟩ = some (.int .i64 x) := fun u => XC.out _ (hF1 u)
                    have DD0 := HU.out _ (Ab.refl v1).drew
                    clear hF1 hF2
                    refine region_cls E (by kernel_rfl) (by kernel_rfl) DD0 ?_
                    repeat (go_big_quiet_step (first | (go_at_call 23; exact calls_cls HU HU1 (CM.out _)) | (with_reducible rfl)))
                    refine wpQuiet_nil ?_
                    intro v2 hwz
                    obtain ⟨u0, hu⟩ := hwz
                    have A2 : Hid (Ab v1 v2) := by rw [hu]; exact HU1.out u0
                    clear hu u0
                    clear HU HU1 DD0 e5 e6 e7
                    clear E UU
                    have AVV : Hid (Ab V0 v2) := AV.out.trans A2.out
                    have R9 := hid (row_ab RO0.out AVV.out)
                    have xc := R9.out.cell (show k < oc by have := BG.out.2.1; have := HK.out; omega)
                    have zf := R9.out.frozen k
                    have z0 := cell_of_row _ _ 0 _ _ _ (Ab.heap AVV.out RZ.out)
                    rw [XK.out] at xc
                    go_wp2
                    refine ⟨⟨c + 1, by have := HC.out; omega, by simp, by rw [NF.out.1] <;> (congr 1; omega), (AQ.out.trans (AL.out.trans AVV.out)).set (by rw [HG.out]; exact BG.out.1) _, row_own18 (R9.out.set k _) BG.out.1 BG.out.2.1 BG.out.2.2 (fun i hi => ?_)⟩, by have := HC.out; simp [intOf]; omega⟩
                    rw [NF.out.2 i]
                    by_cases e : i = k
                    · simp [e]
                    · simp [e, GG.out i hi]
                  · have e3 : decide (r2 < 0) = false := decide_eq_false f3
                    have CL := hid (rless18 r2 sk V0)
                    have dq : (if sk < r2 then sk else r2) = d := by
                      rw [← DE.out]
                      unfold dn
                      rw [if_neg f3]
                    rw [dq] at CL
                    clear dq f3
                    go_wp2_with fail
                    refine CL.out.mono ?_
                    rintro e9 v1 ⟨rfl, b1⟩
                    have AV : Hid (Ab V0 v1) := b1
                    clear b1 CL
                    have x1 := cell_of_row _ _ 1 _ _ _ (Ab.heap AV.out RZ.out)
                    have R9 := hid (row_ab RO0.out AV.out)
                    have xc := R9.out.cell (show k < oc by have := BG.out.2.1; have := HK.out; omega)
                    have zf := R9.out.frozen k
                    have z0 := cell_of_row _ _ 0 _ _ _ (Ab.heap AV.out RZ.out)
                    rw [XK.out] at xc
                    go_wp2
                    refine ⟨⟨c + 1, by have := HC.out; omega, by simp, by rw [NF.out.1] <;> (congr 1; omega), (AQ.out.trans (AL.out.trans AV.out)).set (by rw [HG.out]; exact BG.out.1) _, row_own18 (R9.out.set k _) BG.out.1 BG.out.2.1 BG.out.2.2 (fun i hi => ?_)⟩, by have := HC.out; simp [intOf]; omega⟩
                    rw [NF.out.2 i]
                    by_cases e : i = k
                    · simp [e]
                    · simp [e, GG.out i hi]
            · have e6 : lr = c := by omega
              subst e6
              go_wp2
              go_ret3
              exact ⟨_, by rw [SK.out]; rfl, AQ.out, by rw [HG.out]; exact OZ.out⟩
/-- what the reference's Fall answers -/
theorem rfall_at (pw : Option Addr) (lw cw : Nat) (W : Nat → Int) (s : Int) (pr : Option Addr) (lr cr : Nat) (R : Nat → Int × Int × Int × Int) (st : Int) (w : World) (hlw : lw ≤ 17592186044416) (iw : IsI w pw lw W) (ir : IsRn w pr lr R) :
    (good18 lw W s lr R st → Calls Try.prog 13 #[.slice pw lw cw, .int .i64 s, .slice pr lr cr, .int .i64 st] w fun e w' => ∃ v, e = .returned (.tuple #[v, .int .i64 (rnN st R (W, s) lr).2, .int .i64 0]) ∧ Below w.heap.size w w' ∧ Sh.Own w.heap.size v ((List.range lw).map (rnN st R (W, s) lr).1) w') ∧
    (¬ good18 lw W s lr R st → Calls Try.prog 13 #[.slice pw lw cw, .int .i64 s, .slice pr lr cr, .int .i64 st] w fun e w' => e = .returned (.tuple #[.slice none 0 0, .int .i64 0, .int .i64 1]) ∧ Below w.heap.size w w') := by
  by_cases h1 : st < 0
  · exact ⟨fun g => absurd g.1 (by omega), fun _ => rfall_no1 pw lw cw s pr lr cr st w (.inl (decide_eq_true h1))⟩
  · by_cases h2 : s < 0
    · exact ⟨fun g => absurd g.2.1.1 (by omega), fun _ => rfall_no1 pw lw cw s pr lr cr st w (.inr (.inl ⟨decide_eq_false h1, decide_eq_true h2⟩))⟩
    · by_cases h3 : 4503599627370496 < s
      · exact ⟨fun g => absurd g.2.1.2 (by omega), fun _ => rfall_no1 pw lw cw s pr lr cr st w (.inr (.inr (.inl ⟨decide_eq_false h1, decide_eq_false h2, decide_eq_true h3⟩)))⟩
      · by_cases h4 : 1024 < lr
        · exact ⟨fun g => absurd g.2.2.1 (by omega), fun _ => rfall_no1 pw lw cw s pr lr cr st w (.inr (.inr (.inr ⟨decide_eq_false h1, decide_eq_false h2, decide_eq_false h3, decide_eq_true (by omega)⟩)))⟩
        · by_cases h5 : ∀ i, i < lw → 0 ≤ W i ∧ W i ≤ 4503599627370496
          · by_cases h6 : ∀ k, k < lr → vB (lw : Nat) (R k) = true
            · have g : good18 lw W s lr R st := ⟨by omega, ⟨by omega, by omega⟩, by omega, h5, fun k hk => vB_iff.1 (h6 k hk)⟩
              exact ⟨fun _ => rfall_go pw lw cw W s pr lr cr R st w (decide_eq_false h1) (decide_eq_false h2) (decide_eq_false h3) (by omega) hlw iw ir h5 h6 (fun k hk => good18_ok ⟨g.1, g.2.1, by omega, g.2.2.2.1, fun j hj => g.2.2.2.2 j (by omega)⟩), fun n => absurd g n⟩
            · exact ⟨fun g => absurd (fun k hk => vB_iff.2 (g.2.2.2.2 k hk)) h6, fun _ => rfall_no3 pw lw cw W s pr lr cr R st w (decide_eq_false h1) (decide_eq_false h2) (decide_eq_false h3) (by omega) hlw iw ir h5 h6⟩
          · exact ⟨fun g => absurd g.2.2.2.1 h5, fun _ => rfall_no2 pw lw cw W s pr lr cr st w (decide_eq_false h1) (decide_eq_false h2) (decide_eq_false h3) (by omega) hlw iw h5⟩
end Rn
end Go.Proofs.Ythcgbjkbnbeobaa
