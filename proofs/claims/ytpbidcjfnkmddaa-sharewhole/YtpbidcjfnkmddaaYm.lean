/-
  Cut: walks over the program (layer 14).
-/
import Derived.Test.YtpbidcjfnkmddaaYl
import Derived.Test.YtpbidcjfnkmddaaUl
import Derived.Lib.SliceRun
namespace Go.Proofs.Ytpbidcjfnkmddaa
open Go.RowKit Go.Deep
namespace Sh
theorem eql_nilS (w : World) (a : Option Addr) (n c : Nat) : (binOp .eql 29 (.slice a n c) (.slice none 0 0)).run Try.prog w = .ok (.bool a.isNone) w := Lib.run_eql_slice_nil w _ _ a n c 0 0 Try.underlying29
attribute [local go_sem] eql_nilS
/-- a list of the call's own, as a row -/
theorem own_rowA {B : Nat} {v : Value} {l : List Int} {w : World} (h : Own B v l w) (h0 : 0 < l.length) : ∃ g cap F, v = .slice (some ⟨g, 0, none⟩) l.length cap ∧ B ≤ g ∧ l.length ≤ cap ∧ cap ≤ maxLen ∧ w.rowIs g 2 cap F ∧ ∀ i, i < l.length → F i = .int .i64 (l.getD i 0) := by
  rcases h.2 with ⟨rfl, hz⟩ | ⟨g, cap, cur, e, hb, hg, h1, h2, h3, h4⟩
  · omega
  · refine ⟨g, cap, fun i => (cur[i]?).getD (.bool false), e, hb, h1, h2, ⟨cur, hg, by omega, fun i hi => ?_⟩, fun i hi => ?_⟩
    · have : i < cur.size := by omega
      simp [this]
    · have q : (cur.toList.take l.length)[i]? = (l.map (Value.int .i64))[i]? := by
        have h4' : cur.toList.take l.length = l.map (Value.int .i64) := by simpa using h4
        rw [h4']
      rw [List.getElem?_take, if_pos hi, Array.getElem?_toList] at q
      dsimp only
      rw [q]
      simp [hi, List.getD]
theorem own_twoA {B n : Nat} {v : Value} {x : Nat → Int} {w : World} (h : Own B v ((List.range n).map x) w) (h0 : 0 < n) : ∃ g cap F, v = .slice (some ⟨g, 0, none⟩) n cap ∧ B ≤ g ∧ n ≤ cap ∧ cap ≤ maxLen ∧ w.rowIs g 2 cap F ∧ ∀ i, i < n → F i = .int .i64 (x i) := by
  have e : ((List.range n).map x).length = n := by simp
  obtain ⟨g, cap, F, h1, h2, h3, h4, h5, h6⟩ := own_rowA h (by rw [e]; exact h0)
  rw [e] at h1 h3 h6
  exact ⟨g, cap, F, h1, h2, h3, h4, h5, fun i hi => by rw [h6 i hi]; simp [List.getD, hi]⟩
theorem row_ownA {B g cap n : Nat} {F : Nat → Value} {x : Nat → Int} {w : World} (h : w.rowIs g 2 cap F) (hB : B ≤ g) (hn : n ≤ cap) (hc : cap ≤ maxLen) (hF : ∀ i, i < n → F i = .int .i64 (x i)) : Own B (.slice (some ⟨g, 0, none⟩) n cap) ((List.range n).map x) w := by
  obtain ⟨c, hb, hs, hf⟩ := h
  refine ⟨by simp, .inr ⟨g, cap, c, by simp, hB, hb, by simpa using hn, hc, by omega, ?_⟩⟩
  apply List.ext_getElem?
  intro i
  rw [List.getElem?_take, List.length_map, List.length_range]
  by_cases hi : i < n
  · have e := hf i (by omega)
    rw [hF i hi] at e
    rw [if_pos (by omega)]
    rw [← Array.getElem?_toList] at e
    rw [e]
    simp [hi]
  · rw [if_neg (by omega), List.getElem?_eq_none (by simp; omega)]
set_option maxRecDepth 100000 in
set_option maxHeartbeats 4000000 in
theorem clone_none (n c : Nat) (w : World) : Calls Try.prog 16 #[.slice none n c] w fun e w' => e = .returned (.slice none 0 0) ∧ w' = w := by
  go_enter Try.func16, Try.ntmps16
  go_wp2
  go_ret
  exact ⟨rfl, rfl⟩
set_option maxRecDepth 100000 in
set_option maxHeartbeats 4000000 in
theorem clone_zero (p : Addr) (c : Nat) (f : Nat → Int) (w : World) : Calls Try.prog 16 #[.slice (some p) 0 c] w fun e w' => e = .returned (.slice (some ⟨w.heap.size, 0, none⟩) 0 0) ∧ w' = w.alloc (.cells #[] 2) := by
  have SR := hid (src_in (IsI.nil (w.alloc (.cells #[] 2)) (some p) f) c)
  go_enter Try.func16, Try.ntmps16
  go_wp2_with (first
    | (at_builtin; refine wpList_zero rfl (.tmp 5) (.tmp 6) rfl w.heap.size rfl (.slice (some p) 0 c) rfl SR.out ?_))
  go_ret
  exact ⟨rfl, rfl⟩
set_option maxRecDepth 100000 in
set_option maxHeartbeats 4000000 in
theorem clone_go (b o n c : Nat) (f : Nat → Int) (w : World) (h0 : 0 < n) (hn : n ≤ 65536) (hf : IsI w (some ⟨b, o, none⟩) n f) : Calls Try.prog 16 #[.slice (some ⟨b, o, none⟩) n c] w fun e w' => ∃ v, e = .returned v ∧ Below w.heap.size w w' ∧ Own w.heap.size v ((List.range n).map f) w' := by
  have O2 := hid (own_new w w.heap.size (Nat.le_refl _))
  have N1 := hid (news_in (hf.below (bl1 w (.cells #[] 2))))
  have LS : Hid (w.heap.size ≤ (w.alloc (.cells #[] 2)).heap.size) := by show _ ≤ _; simp
  have H0 := hid h0
  have HN := hid hn
  clear hf h0 hn
  go_enter Try.func16, Try.ntmps16
  go_wp2_with (first
    | (at_builtin; refine wpList_app rfl (.tmp 5) (.tmp 6) rfl w.heap.size (.slice (some ⟨w.heap.size, 0, none⟩) 0 0) [] rfl O2.out ⟨b, o, none⟩ n c ((List.range n).map f) rfl (by simp) N1.out H0.out (by have := HN.out; simp; omega) LS.out n (by simp) ?_; intro g1 c1 w1 o1 x1 y1 _; have O1 := hid o1; have X1 := hid x1; clear o1 x1 y1))
  go_ret
  refine ⟨_, rfl, Below.grown (bl1 w _ : Below _ _ _) X1.out LS.out (fun k hk => (World.ownsRow.lt O2.out k hk).1), ?_⟩
  have h := O1.out
  rw [List.nil_append] at h
  exact h
/-- A COPY OF A LIST -/
theorem clone_at (p : Option Addr) (n c : Nat) (f : Nat → Int) (w : World) (hn : n ≤ 65536) (hf : IsI w p n f) : Calls Try.prog 16 #[.slice p n c] w fun e w' => ∃ v, e = .returned v ∧ Below w.heap.size w w' ∧ Own w.heap.size v ((List.range n).map f) w' := by
  rcases Nat.eq_zero_or_pos n with h0 | h0
  · subst h0
    cases p with
    | none =>
      refine (clone_none 0 c w).mono ?_
      rintro e w' ⟨rfl, rfl⟩
      exact ⟨_, rfl, Below.refl _ _, Own.new _ _⟩
    | some a =>
      refine (clone_zero a c f w).mono ?_
      rintro e w' ⟨rfl, rfl⟩
      exact ⟨_, rfl, bl1 _ _, own_new w w.heap.size (Nat.le_refl _)⟩
  · obtain ⟨b, o, rfl⟩ := hf.some0 h0
    exact clone_go b o n c f w h0 hn hf
end Sh
end Go.Proofs.Ytpbidcjfnkmddaa
