/-
  Takes against the document's answer: the walk (layer 17).
-/
import Derived.Test.YtehadalddjbclaaTrC
namespace Go.Proofs.Ytehadalddjbclaa
open Go.RowKit Go.Deep
namespace Tr
open Sh
set_option maxRecDepth 100000 in
set_option maxHeartbeats 16000000 in
theorem takes_long (TC : TakesC) (W h : Int) (p : Option Addr) (n cp : Nat) (w : World) (hl : 65536 < n) :
    Calls Try.prog 3 #[.int .i64 W, .int .i64 h, .slice p n cp] w fun e w' => e = .returned (.bool true) ∧ Below w.heap.size w w' := by
  have LV := hid (awake17_at TC w)
  have lI : decide ((65536 : Int) < (n : Int)) = true := decide_eq_true (by omega)
  clear TC
  go_enter Try.func3, Try.ntmps3
  go_wp2_with fail
  refine LV.out.mono ?_
  rintro e w1 ⟨rfl, b1⟩
  have A1 : Hid (Ab w w1) := b1
  clear b1
  go_wp2
  go_ret
  exact ⟨rfl, A1.out⟩
set_option maxRecDepth 100000 in
set_option maxHeartbeats 16000000 in
theorem takes_go (TC : TakesC) (W h : Int) (p : Option Addr) (n cp : Nat) (f : Nat → Int) (m : Nat) (X : Nat → Int) (er : Int) (w : World) (hn : n ≤ 65536) (hm : Hid (m ≤ 65536)) (hf : IsI w p n f)
    (CT : Hid (∀ (g c : Nat) (v : World), IsI v (some ⟨g, 0, none⟩) n f → Calls Try.prog 6 #[.int .i64 W, .int .i64 h, .slice (some ⟨g, 0, none⟩) n c] v fun e w' => ∃ a0 cap, e = .returned (.tuple #[.slice a0 m cap, .int .i64 er]) ∧ Below v.heap.size v w' ∧ IsI w' a0 m X))
    (CR : Hid (∀ v, Ab w v → Calls Try.prog 7 #[.int .i64 W, .int .i64 h, .slice p n cp] v fun e w' => ∃ a0 cap, e = .returned (.tuple #[.slice a0 m cap, .int .i64 er]) ∧ Below v.heap.size v w' ∧ IsI w' a0 m X)) :
    Calls Try.prog 3 #[.int .i64 W, .int .i64 h, .slice p n cp] w fun e w' => e = .returned (.bool true) ∧ Below w.heap.size w w' := by
  have LV := hid (awake17_at TC w)
  have lI : decide ((65536 : Int) < ((n : Nat) : Int)) = false := decide_eq_false (by omega)
  have HN := hid hn
  have IW := hid hf
  clear TC hf hn
  go_enter Try.func3, Try.ntmps3
  go_wp2_with fail
  refine LV.out.mono ?_
  rintro e w1 ⟨rfl, b1⟩
  have A1 : Hid (Ab w w1) := b1
  clear b1 LV
  have OO := hid (own_new w1 w1.heap.size (Nat.le_refl _))
  have B8 : Hid (Ab w1 (w1.alloc (.cells #[] 2))) := bl1 w1 (.cells #[] 2)
  have I1 := hid (IW.out.below (A1.out.trans B8.out))
  go_wp2_with (first
    | (at_builtin; refine wpList_copy rfl (.tmp 24) (.tmp 25) rfl w1.heap.size w1.heap.size rfl OO.out p n cp f rfl I1.out HN.out (by simp) ?_; intro g1 c1 w4 i4 b4 _; have I4 := hid i4; have A4 : Hid (Ab w w4) := A1.out.trans (Below.trans (bl1 w1 (.cells #[] 2)) b4); clear i4 b4))
  clear OO B8 I1
  refine (CT.out g1 c1 w4 I4.out).mono ?_
  rintro e9 v3 ⟨a3, c3, rfl, b3, i3⟩
  have A3 : Hid (Ab w v3) := A4.out.trans b3
  have I3 := hid i3
  clear b3 i3
  go_wp2_with fail
  refine (CR.out _ A3.out).mono ?_
  rintro e9 v5 ⟨a5, c5, rfl, b5, i5⟩
  have A5 : Hid (Ab w v5) := A3.out.trans b5
  have I5 := hid i5
  have I35 := hid (I3.out.below b5)
  clear b5 i5 I3
  have ee : (er == er) = true := by simp
  go_wp2_with fail
  refine (same17_at a3 a5 m c3 c5 X v5 (by have := hm.out; omega) I35.out I5.out).mono ?_
  rintro e9 v6 ⟨rfl, b6⟩
  have A6 : Hid (Ab w v6) := A5.out.trans b6
  clear b6
  go_wp2
  go_ret
  exact ⟨rfl, A6.out⟩
theorem takes_at (TC : TakesC) (W h : Int) (p : Option Addr) (n cp : Nat) (f : Nat → Int) (w : World) (hW : W64 W) (hh : W64 h) (hf : IsI w p n f) :
    Calls Try.prog 3 #[.int .i64 W, .int .i64 h, .slice p n cp] w fun e w' => e = .returned (.bool true) ∧ Below w.heap.size w w' := by
  by_cases hl : 65536 < n
  · exact takes_long TC W h p n cp w hl
  have hn : n ≤ 65536 := by omega
  by_cases g : good17 W h n f
  · refine takes_go TC W h p n cp f n (tkA h W f) 0 w hn hn hf (fun g1 c1 v i => ((TC W h _ n c1 f v hW hh hn i).1 g).mono ?_) (fun v a => ((rtakes_at W h p n cp f v hW hh hn (hf.below a)).1 g).mono ?_)
    all_goals
      rintro e w' ⟨u, rfl, b, o⟩
      obtain ⟨a0, cap, rfl, i⟩ := tk_own17 g hh o
      exact ⟨a0, cap, rfl, b, i⟩
  · refine takes_go TC W h p n cp f 0 (fun _ => 0) 1 w hn (Nat.zero_le _) hf (fun g1 c1 v i => ((TC W h _ n c1 f v hW hh hn i).2 g).mono ?_) (fun v a => ((rtakes_at W h p n cp f v hW hh hn (hf.below a)).2 g).mono ?_)
    all_goals
      rintro e w' ⟨rfl, b⟩
      exact ⟨none, 0, rfl, b, IsI.nil _ _ _⟩
end Tr
end Go.Proofs.Ytehadalddjbclaa
