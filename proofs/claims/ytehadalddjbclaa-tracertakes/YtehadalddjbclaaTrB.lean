/-
  What goes with the water out of one cell: what is to be answered; that the program lives (layer 17).
-/
import Derived.Test.YtehadalddjbclaaZy
import Derived.Test.YtehadalddjbclaaYf
namespace Go.Proofs.Ytehadalddjbclaa
open Go.RowKit Go.Deep
namespace Tr
open Sh
set_option maxRecDepth 100000 in
set_option maxHeartbeats 4000000 in
theorem same17_at (pa pb : Option Addr) (len ca cb : Nat) (xs : Nat → Int) (w : World) (hl : len ≤ 281474976710656) (hA : IsI w pa len xs) (hB : IsI w pb len xs) :
    Calls Try.prog 8 #[.slice pa len ca, .slice pb len cb] w fun e w' => e = .returned (.bool true) ∧ Below w.heap.size w w' := by
  have HA := hid hA
  have HB := hid hB
  have HL := hid hl
  clear hA hB hl
  go_enter Try.func8, Try.ntmps8
  go_wp2
  go_loopw [5] (fun iv wr => ∃ c : Nat, c ≤ len ∧ iv = .int .i64 (c : Nat) ∧ Ab w wr) (fun iv _ => len - (intOf iv).toNat)
  case atStart => exact ⟨0, by omega, rfl, Ab.refl w⟩
  case round =>
    obtain ⟨c, hc, rfl, ar⟩ := hrel
    have AR := hid ar
    clear ar
    by_cases h : c < len
    · have HC := hid h
      obtain ⟨x, hx⟩ : ∃ x, xs c = x := ⟨_, rfl⟩
      obtain ⟨-, b1, o1, e1, l1, c1⟩ := HA.out c h
      obtain ⟨-, b2, o2, e2, l2, c2⟩ := HB.out c h
      rw [hx] at c1 c2
      have C1 := hid c1
      have C2 := hid c2
      have L1 := hid l1
      have L2 := hid l2
      have hcI : (c : Int) < len := by omega
      have hcB : (c : Int) ≤ 281474976710656 := by have := HL.out; omega
      clear c1 c2 l1 l2 hx h
      subst e1 e2
      go_upto_region 6 with fail
      obtain ⟨UU, E, hF1, hF2⟩ := cls wr
      have HU := hid hF2
      have HU1 := hid hF1
      have x1 : ∀ u, (E u).cell? ⟨b1, o1 + c, none⟩ = some (.int .i64 x) := fun u => (Below.cell (AR.out.trans (hF1 u)) L1.out).trans C1.out
      have x2 : ∀ u, (E u).cell? ⟨b2, o2 + c, none⟩ = some (.int .i64 x) := fun u => (Below.cell (AR.out.trans (hF1 u)) L2.out).trans C2.out
      have DD0 := HU.out _ (Ab.refl wr).drew
      clear hF1 hF2
      refine region_cls E (by kernel_rfl) (by kernel_rfl) DD0 ?_
      repeat (go_big_quiet_step (with_reducible rfl))
      refine wpQuiet_nil ?_
      intro z hwz
      obtain ⟨u0, hu⟩ := hwz
      have AZ : Hid (Ab w z) := by rw [hu]; exact AR.out.trans (HU1.out u0)
      clear hu u0
      clear HU HU1 DD0 x1 x2
      clear E UU
      go_wp2
      go_roundw
      case rel => exact ⟨c + 1, by have := HC.out; omega, by simp, AZ.out⟩
      case measure => simp [intOf]; have := HC.out; omega
    · have e : len = c := by omega
      subst e
      go_wp2
      go_ret
      exact ⟨rfl, AR.out⟩
/-- whether a cell's numbers can be -/
def good17 (W h : Int) (n : Nat) (f : Nat → Int) : Prop := 0 ≤ W ∧ 0 ≤ h ∧ okA W f n
/-- what the outs take -/
def tkL (W h : Int) (n : Nat) (f : Nat → Int) : List Int := (List.range n).map (tkA h W f)
/-- what Takes is to answer -/
def TakesC : Prop := ∀ (W h : Int) (p : Option Addr) (n c : Nat) (f : Nat → Int) (w : World), W64 W → W64 h → n ≤ 65536 → IsI w p n f →
    (good17 W h n f → Calls Try.prog 6 #[.int .i64 W, .int .i64 h, .slice p n c] w fun e w' => ∃ v, e = .returned (.tuple #[v, .int .i64 0]) ∧ Below w.heap.size w w' ∧ Own w.heap.size v (tkL W h n f) w') ∧
    (¬ good17 W h n f → Calls Try.prog 6 #[.int .i64 W, .int .i64 h, .slice p n c] w fun e w' => e = .returned (.tuple #[.slice none 0 0, .int .i64 1]) ∧ Below w.heap.size w w')
theorem tkL_len (W h : Int) (n : Nat) (f : Nat → Int) : (tkL W h n f).length = n := by unfold tkL; simp
theorem tk_w64 {W h : Int} {n : Nat} {f : Nat → Int} (g : good17 W h n f) (hh : W64 h) {i : Nat} (hi : i < n) : 0 ≤ tkA h W f i ∧ tkA h W f i ≤ h := ⟨tk_nn g.2.1 hh.2 g.2.2 hi, tk_in g.2.1 hh.2 g.2.2 hi⟩
theorem tk_own17 {W h : Int} {n B : Nat} {f : Nat → Int} {v : Value} {w : World} (g : good17 W h n f) (hh : W64 h) (o : Own B v (tkL W h n f) w) : ∃ a0 cap, v = .slice a0 n cap ∧ IsI w a0 n (tkA h W f) := by
  obtain ⟨a0, cap, e, i⟩ := own_in o (fun x hx => by
    unfold tkL at hx
    obtain ⟨j, hj, rfl⟩ := List.mem_map.1 hx
    have c := tk_w64 g hh (List.mem_range.1 hj)
    unfold W64 at *
    omega)
  rw [tkL_len] at e i
  exact ⟨a0, cap, e, i.congr (fun k hk => by unfold tkL; simp [List.getD, hk])⟩
def aw7 (i : Nat) : Int := if i = 0 then 3 else if i = 1 then 4 else if i = 2 then 3 else 0
theorem aw7_take : tkL 10 5 3 aw7 = [1, 2, 2] := by decide
theorem aw7_good : good17 10 5 3 aw7 := ⟨by decide, by decide, fun i _ => by unfold aw7; split <;> (try split) <;> (try split) <;> omega, by decide⟩
set_option maxRecDepth 100000 in
set_option maxHeartbeats 16000000 in
theorem awake17_at (TC : TakesC) (w : World) :
    Calls Try.prog 5 #[] w fun e w' => e = .returned (.bool true) ∧ Below w.heap.size w w' := by
  have C1 := hid ((TC 10 5 (some ⟨w.heap.size, 0, none⟩) 3 3 aw7 ((w).alloc (.cells #[.int .i64 3, .int .i64 4, .int .i64 3] 2)) (by unfold W64; omega) (by unfold W64; omega) (by omega) (aw_in w 3 4 3 (by unfold W64; omega) (by unfold W64; omega) (by unfold W64; omega) aw7 rfl rfl rfl)).1 aw7_good)
  rw [aw7_take] at C1
  have A0 : Hid (Ab w ((w).alloc (.cells #[.int .i64 3, .int .i64 4, .int .i64 3] 2))) := bl1 _ _
  clear TC
  go_enter Try.func5, Try.ntmps5
  go_wp2_with fail
  refine C1.out.mono ?_
  rintro e9 v1 ⟨v, rfl, b1, o1⟩
  obtain ⟨a0, cap, rfl, i1⟩ := own_in o1 (fun x hx => by simp at hx; unfold W64; omega)
  have A1 : Hid (Ab w v1) := A0.out.trans b1
  have I1 := hid i1
  clear b1 o1 i1 C1
  have A3 : Hid (Ab v1 ((v1).alloc (.cells #[.int .i64 1, .int .i64 2, .int .i64 2] 2))) := bl1 _ _
  have I3 : Hid (IsI ((v1).alloc (.cells #[.int .i64 1, .int .i64 2, .int .i64 2] 2)) (some ⟨v1.heap.size, 0, none⟩) 3 (fun j => [1, 2, 2].getD j 0)) := aw_in v1 1 2 2 (by unfold W64; omega) (by unfold W64; omega) (by unfold W64; omega) _ rfl rfl rfl
  have S3 := hid (same17_at a0 (some ⟨v1.heap.size, 0, none⟩) 3 cap 3 _ ((v1).alloc (.cells #[.int .i64 1, .int .i64 2, .int .i64 2] 2)) (by omega) (I1.out.below A3.out) I3.out)
  go_wp2_with fail
  refine S3.out.mono ?_
  rintro e9 v4 ⟨rfl, b4⟩
  have A4 : Hid (Ab w v4) := A1.out.trans (A3.out.trans b4)
  clear b4
  go_wp2
  go_ret
  exact ⟨rfl, A4.out⟩
end Tr
end Go.Proofs.Ytehadalddjbclaa
