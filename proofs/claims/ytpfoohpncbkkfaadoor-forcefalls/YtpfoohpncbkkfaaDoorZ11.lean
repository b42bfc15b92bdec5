/-
  Some of the texts of this proof, one behind the other.
-/
import Derived.Deep.QuietTactic
import Derived.Test.YtpfoohpncbkkfaaDoorZ10
namespace Go.Proofs.YtpfoohpncbkkfaaDoor
open Go.RowKit Tf Cu Go.Deep
namespace Fc
/-- an edge's Left -/
def eL (n i : Nat) : Nat := edT n i / 4
/-- an edge's Right -/
def eR (n i : Nat) : Nat := mt n (edT n i) / 4
/-- an edge's gap -/
def gpE (n i : Nat) : Nat := GpC n (edT n i / 4) (edT n i % 4)
/-- a cell's level -/
def lvC (n : Nat) (B : Nat → Nat) (W : Nat → Int) (c : Nat) : Nat := lvl (B c) (W c) (arC n c)
/-- a cell's depth -/
def dpC (n : Nat) (W : Nat → Int) (c : Nat) : Nat := dpB (W c) (arC n c)
/-- whether an edge is open -/
def opE (n : Nat) (B : Nat → Nat) (W : Nat → Int) (i : Nat) : Bool := opB (W (eL n i)) (W (eR n i)) (lvC n B W (eL n i)) (lvC n B W (eR n i)) (B (eL n i)) (B (eR n i))
/-- an edge's speed behind a step -/
def spE (n G dt D : Nat) (B : Nat → Nat) (W : Nat → Int) (Sp : Nat → Nat) (i : Nat) : Nat := if opE n B W i = true then spB G dt D (Sp i) (lvC n B W (eL n i)) (lvC n B W (eR n i)) (dpC n W (eL n i)) (dpC n W (eR n i)) (gpE n i) else 0
/-- whether a sea fits -/
def fit4 (n lb lw lt ls : Nat) : Prop := lb = 6 * n * n ∧ lw = 6 * n * n ∧ lt = 6 * n * n ∧ ls = 12 * n * n
/-- whether an edge and a sea are there -/
def has4 (n lb lw lt ls : Nat) (e : Int) : Prop := fit4 n lb lw lt ls ∧ inR e (12 * n * n : Nat) = true
/-- what Open is to answer -/
def OpenC : Prop := ∀ (n gb : Nat) (pb : Option Addr) (lb cb : Nat) (B : Nat → Nat) (pw : Option Addr) (lw cw : Nat) (Wt : Nat → Int) (pt : Option Addr) (lt ct : Nat) (ps : Option Addr) (ls cs : Nat) (sky st e : Int) (w : World), (1 ≤ n ∧ n ≤ 32) → GridOf n gb w → IsFl w pb lb B → IsIn w pw lw Wt → (∃ Sp, IsFl w ps ls Sp) → (-9223372036854775808 ≤ e ∧ e ≤ 9223372036854775807) →
    (has4 n lb lw lt ls e → Calls Tryd.prog 15 #[.pointer (some ⟨gb, 0, none⟩), .agg #[.slice pb lb cb, .slice pw lw cw, .slice pt lt ct, .slice ps ls cs, .int .i64 sky, .int .i64 st], .int .i64 e] w fun x w' => x = .returned (.bool (opE n B Wt e.toNat)) ∧ Below w.heap.size w w') ∧
    (¬ has4 n lb lw lt ls e → Calls Tryd.prog 15 #[.pointer (some ⟨gb, 0, none⟩), .agg #[.slice pb lb cb, .slice pw lw cw, .slice pt lt ct, .slice ps ls cs, .int .i64 sky, .int .i64 st], .int .i64 e] w fun x w' => x = .returned (.bool false) ∧ Below w.heap.size w w')
/-- what Speed is to answer -/
def SpeedC : Prop := ∀ (n gb : Nat) (sd : Int) (dt gr dr : Nat) (lim : Int) (rv : Bool) (pr : Option Addr) (lr cr : Nat) (pb : Option Addr) (lb cb : Nat) (B : Nat → Nat) (pw : Option Addr) (lw cw : Nat) (Wt : Nat → Int) (pt : Option Addr) (lt ct : Nat) (ps : Option Addr) (ls cs : Nat) (Sp : Nat → Nat) (sky st e : Int) (w : World), (1 ≤ n ∧ n ≤ 32) → GridOf n gb w → IsFl w pb lb B → IsIn w pw lw Wt → IsFl w ps ls Sp → (dt < 18446744073709551616 ∧ gr < 18446744073709551616 ∧ dr < 18446744073709551616) → (-9223372036854775808 ≤ e ∧ e ≤ 9223372036854775807) →
    (has4 n lb lw lt ls e → Calls Tryd.prog 18 #[.pointer (some ⟨gb, 0, none⟩), .agg #[.int .i64 sd, .float .f64 dt, .float .f64 gr, .float .f64 dr, .int .i64 lim, .bool rv, .slice pr lr cr], .agg #[.slice pb lb cb, .slice pw lw cw, .slice pt lt ct, .slice ps ls cs, .int .i64 sky, .int .i64 st], .int .i64 e] w fun x w' => x = .returned (.float .f64 (spE n gr dt dr B Wt Sp e.toNat)) ∧ Below w.heap.size w w') ∧
    (¬ has4 n lb lw lt ls e → Calls Tryd.prog 18 #[.pointer (some ⟨gb, 0, none⟩), .agg #[.int .i64 sd, .float .f64 dt, .float .f64 gr, .float .f64 dr, .int .i64 lim, .bool rv, .slice pr lr cr], .agg #[.slice pb lb cb, .slice pw lw cw, .slice pt lt ct, .slice ps ls cs, .int .i64 sky, .int .i64 st], .int .i64 e] w fun x w' => x = .returned (.float .f64 0) ∧ Below w.heap.size w w')
/-- what Speeds is to answer -/
def SpeedsC : Prop := ∀ (n gb : Nat) (sd : Int) (dt gr dr : Nat) (lim : Int) (rv : Bool) (pr : Option Addr) (lr cr : Nat) (pb : Option Addr) (lb cb : Nat) (B : Nat → Nat) (pw : Option Addr) (lw cw : Nat) (Wt : Nat → Int) (pt : Option Addr) (lt ct : Nat) (ps : Option Addr) (ls cs : Nat) (Sp : Nat → Nat) (sky st : Int) (w : World), (1 ≤ n ∧ n ≤ 32) → GridOf n gb w → IsFl w pb lb B → IsIn w pw lw Wt → IsFl w ps ls Sp → (dt < 18446744073709551616 ∧ gr < 18446744073709551616 ∧ dr < 18446744073709551616) →
    (fit4 n lb lw lt ls → Calls Tryd.prog 11 #[.pointer (some ⟨gb, 0, none⟩), .agg #[.int .i64 sd, .float .f64 dt, .float .f64 gr, .float .f64 dr, .int .i64 lim, .bool rv, .slice pr lr cr], .agg #[.slice pb lb cb, .slice pw lw cw, .slice pt lt ct, .slice ps ls cs, .int .i64 sky, .int .i64 st]] w fun e w' => ∃ v, e = .returned (.tuple #[v, .int .i64 0]) ∧ Below w.heap.size w w' ∧ OwnG w.heap.size v ((List.range (12 * n * n)).map (spE n gr dt dr B Wt Sp)) w') ∧
    (¬ fit4 n lb lw lt ls → Calls Tryd.prog 11 #[.pointer (some ⟨gb, 0, none⟩), .agg #[.int .i64 sd, .float .f64 dt, .float .f64 gr, .float .f64 dr, .int .i64 lim, .bool rv, .slice pr lr cr], .agg #[.slice pb lb cb, .slice pw lw cw, .slice pt lt ct, .slice ps ls cs, .int .i64 sky, .int .i64 st]] w fun e w' => e = .returned (.tuple #[.slice none 0 0, .int .i64 1]) ∧ Below w.heap.size w w')
/-- a list of the call's own, as a row -/
theorem ownG_row {B : Nat} {v : Value} {l : List Nat} {w : World} (h : OwnG B v l w) (h0 : 0 < l.length) : ∃ g cap F, v = .slice (some ⟨g, 0, none⟩) l.length cap ∧ B ≤ g ∧ l.length ≤ cap ∧ cap ≤ maxLen ∧ w.rowIs g 22 cap F ∧ ∀ i, i < l.length → F i = .float .f64 (l.getD i 0) := by
  rcases h.2 with ⟨rfl, hz⟩ | ⟨g, cap, cur, e, hb, hg, h1, h2, h3, h4⟩
  · omega
  · refine ⟨g, cap, fun i => (cur[i]?).getD (.bool false), e, hb, h1, h2, ⟨cur, hg, by omega, fun i hi => ?_⟩, fun i hi => ?_⟩
    · have : i < cur.size := by omega
      simp [this]
    · have q : (cur.toList.take l.length)[i]? = (l.map (Value.float .f64))[i]? := by
        have h4' : cur.toList.take l.length = l.map (Value.float .f64) := by simpa using h4
        rw [h4']
      rw [List.getElem?_take, if_pos hi, Array.getElem?_toList] at q
      dsimp only
      rw [q]
      simp [hi, List.getD]
theorem ownG_two {B n : Nat} {v : Value} {x : Nat → Nat} {w : World} (h : OwnG B v ((List.range n).map x) w) (h0 : 0 < n) : ∃ g cap F, v = .slice (some ⟨g, 0, none⟩) n cap ∧ B ≤ g ∧ n ≤ cap ∧ cap ≤ maxLen ∧ w.rowIs g 22 cap F ∧ ∀ i, i < n → F i = .float .f64 (x i) := by
  have e : ((List.range n).map x).length = n := by simp
  obtain ⟨g, cap, F, h1, h2, h3, h4, h5, h6⟩ := ownG_row h (by rw [e]; exact h0)
  rw [e] at h1 h3 h6
  exact ⟨g, cap, F, h1, h2, h3, h4, h5, fun i hi => by rw [h6 i hi]; simp [List.getD, hi]⟩
/-- beds and waters of the test of life, changed -/
def lvB (i : Nat) : Nat := if i = 0 then 4613937818241073152 else 0
def lvW (i : Nat) : Int := if i = 0 then 0 else lkW i
theorem lf_0 : flt (spE 1 4607182418800017408 4602678819172646912 0 (fun _ => 0) lkW (fun _ => 0) 0) 0 = true := by decide +kernel
theorem lf_1 : spE 1 4607182418800017408 4602678819172646912 0 (fun _ => 0) lkW (fun _ => 0) 1 = 0 := by decide +kernel
theorem lf_2 : opE 1 lvB lvW 0 = false := by decide +kernel
theorem lf_3 : opE 1 lvB lvW 4 = true := by decide +kernel
end Fc
end Go.Proofs.YtpfoohpncbkkfaaDoor

namespace Go.Proofs.YtpfoohpncbkkfaaDoor
open Go.RowKit Tf Cu
attribute [local go_sem] run_bits run_from raw_feq raw_fne raw_flt raw_fgt run_neg run_store_float
set_option maxRecDepth 100000 in
set_option maxHeartbeats 8000000 in
theorem long16_go (pb pw pt ps : Option Addr) (lb cb lw cw lt ct ls cs : Nat) (sky st : Int) (q : Bool) (w : World)
    (hq : (decide ((65536 : Int) < (lb : Int)) = true ∧ q = true) ∨ (decide ((65536 : Int) < (lb : Int)) = false ∧ decide ((65536 : Int) < (lw : Int)) = true ∧ q = true) ∨ (decide ((65536 : Int) < (lb : Int)) = false ∧ decide ((65536 : Int) < (lw : Int)) = false ∧ decide ((65536 : Int) < (lt : Int)) = true ∧ q = true) ∨ (decide ((65536 : Int) < (lb : Int)) = false ∧ decide ((65536 : Int) < (lw : Int)) = false ∧ decide ((65536 : Int) < (lt : Int)) = false ∧ decide ((65536 : Int) < (ls : Int)) = q)) :
    Calls Tryd.prog 20 #[.agg #[.slice pb lb cb, .slice pw lw cw, .slice pt lt ct, .slice ps ls cs, .int .i64 sky, .int .i64 st]] w fun e w' => e = .returned (.bool q) ∧ Below w.heap.size w w' := by
  have A0 : Hid (Ab w (w.alloc (.cells #[.slice pb lb cb, .slice pw lw cw, .slice pt lt ct, .slice ps ls cs, .int .i64 sky, .int .i64 st] 29))) := bl1 _ _
  have RO : Hid ((w.alloc (.cells #[.slice pb lb cb, .slice pw lw cw, .slice pt lt ct, .slice ps ls cs, .int .i64 sky, .int .i64 st] 29)).heap[w.heap.size]? = some (.cells #[.slice pb lb cb, .slice pw lw cw, .slice pt lt ct, .slice ps ls cs, .int .i64 sky, .int .i64 st] 29)) := heap_alloc_new _ _
  have s0 := cell_of_row _ _ 0 _ _ _ RO.out
  have s1 := cell_of_row _ _ 1 _ _ _ RO.out
  have s2 := cell_of_row _ _ 2 _ _ _ RO.out
  have s3 := cell_of_row _ _ 3 _ _ _ RO.out
  rcases hq with ⟨q1, rfl⟩ | ⟨q1, q2, rfl⟩ | ⟨q1, q2, q3, rfl⟩ | ⟨q1, q2, q3, q4⟩
  · go_enter Tryd.func20, Tryd.ntmps20
    go_wp2
    go_ret
    exact ⟨rfl, A0.out⟩
  · go_enter Tryd.func20, Tryd.ntmps20
    go_wp2
    go_ret
    exact ⟨rfl, A0.out⟩
  · go_enter Tryd.func20, Tryd.ntmps20
    go_wp2
    go_ret
    exact ⟨rfl, A0.out⟩
  · cases q with
    | true =>
      go_enter Tryd.func20, Tryd.ntmps20
      go_wp2
      go_ret
      exact ⟨rfl, A0.out⟩
    | false =>
      go_enter Tryd.func20, Tryd.ntmps20
      go_wp2
      go_ret
      exact ⟨rfl, A0.out⟩
theorem long16_at (pb pw pt ps : Option Addr) (lb cb lw cw lt ct ls cs : Nat) (sky st : Int) (w : World) : Calls Tryd.prog 20 #[.agg #[.slice pb lb cb, .slice pw lw cw, .slice pt lt ct, .slice ps ls cs, .int .i64 sky, .int .i64 st]] w fun e w' => e = .returned (.bool (decide (65536 < lb ∨ 65536 < lw ∨ 65536 < lt ∨ 65536 < ls))) ∧ Below w.heap.size w w' := by
  refine long16_go pb pw pt ps lb cb lw cw lt ct ls cs sky st _ w ?_
  by_cases c1 : 65536 < lb
  · exact .inl ⟨decide_eq_true (by omega), decide_eq_true (.inl c1)⟩
  · by_cases c2 : 65536 < lw
    · exact .inr (.inl ⟨decide_eq_false (by omega), decide_eq_true (by omega), decide_eq_true (.inr (.inl c2))⟩)
    · by_cases c3 : 65536 < lt
      · exact .inr (.inr (.inl ⟨decide_eq_false (by omega), decide_eq_false (by omega), decide_eq_true (by omega), decide_eq_true (.inr (.inr (.inl c3)))⟩))
      · refine .inr (.inr (.inr ⟨decide_eq_false (by omega), decide_eq_false (by omega), decide_eq_false (by omega), ?_⟩))
        by_cases c4 : 65536 < ls
        · rw [decide_eq_true (show (65536 : Int) < ls by omega), decide_eq_true (.inr (.inr (.inr c4)))]
        · rw [decide_eq_false (show ¬ (65536 : Int) < ls by omega), decide_eq_false (by omega)]
end Go.Proofs.YtpfoohpncbkkfaaDoor

namespace Go.Proofs.YtpfoohpncbkkfaaDoor
open Go.RowKit Tf Cu Go.Deep
attribute [local go_sem] run_bits run_from raw_feq raw_fne raw_flt raw_fgt run_neg run_store_float
namespace Fc
set_option maxRecDepth 100000 in
set_option maxHeartbeats 4000000 in
theorem fits16_go (gb : Nat) (pb pw pt ps : Option Addr) (lb cb lw cw lt ct ls cs : Nat) (sky st : Int) (M N : Nat) (q : Bool) (w : World)
    (hq : (((lb : Int) == (M : Int)) = false ∧ q = false) ∨ (((lb : Int) == (M : Int)) = true ∧ ((lw : Int) == (M : Int)) = false ∧ q = false) ∨ (((lb : Int) == (M : Int)) = true ∧ ((lw : Int) == (M : Int)) = true ∧ ((lt : Int) == (M : Int)) = false ∧ q = false) ∨ (((lb : Int) == (M : Int)) = true ∧ ((lw : Int) == (M : Int)) = true ∧ ((lt : Int) == (M : Int)) = true ∧ ((ls : Int) == (N : Int)) = q))
    (CC : Hid (∀ v, Ab w v → Calls Tryd.prog 36 #[(.pointer (some ⟨gb, 0, none⟩))] v fun e w' => e = .returned (.int .i64 (M : Nat)) ∧ Below v.heap.size v w'))
    (CE : Hid (∀ v, Ab w v → Calls Tryd.prog 28 #[(.pointer (some ⟨gb, 0, none⟩))] v fun e w' => e = .returned (.int .i64 (N : Nat)) ∧ Below v.heap.size v w')) :
    Calls Tryd.prog 26 #[(.pointer (some ⟨gb, 0, none⟩)), .agg #[.slice pb lb cb, .slice pw lw cw, .slice pt lt ct, .slice ps ls cs, .int .i64 sky, .int .i64 st]] w fun e w' => e = .returned (.bool q) ∧ Below w.heap.size w w' := by
  have A0 : Hid (Ab w (w.alloc (.cells #[.slice pb lb cb, .slice pw lw cw, .slice pt lt ct, .slice ps ls cs, .int .i64 sky, .int .i64 st] 29))) := bl1 _ _
  have R0 : Hid ((w.alloc (.cells #[.slice pb lb cb, .slice pw lw cw, .slice pt lt ct, .slice ps ls cs, .int .i64 sky, .int .i64 st] 29)).heap[w.heap.size]? = some (.cells #[.slice pb lb cb, .slice pw lw cw, .slice pt lt ct, .slice ps ls cs, .int .i64 sky, .int .i64 st] 29)) := heap_alloc_new _ _
  go_enter Tryd.func26, Tryd.ntmps26
  go_upto_region 1 with fail
  obtain ⟨gs, hgs⟩ : ∃ g, w.heap.size = g := ⟨_, rfl⟩
  generalize hW : World.alloc w _ = W at *
  have AW : Hid (Ab w W) := A0.out
  have RO := R0
  rw [hgs] at RO ⊢
  clear hgs hW A0 R0
  rcases hq with ⟨q1, rfl⟩ | ⟨q1, q2, rfl⟩ | ⟨q1, q2, q3, rfl⟩ | ⟨q1, q2, q3, q4⟩
  · skip
    obtain ⟨UU, E, hF1, hF2⟩ := cls W
    have HU := hid hF2
    have HU1 := hid hF1
    have HX : Hid (∀ u, Ab w (E u)) := fun u => Ab.trans AW.out (hF1 u)
    have s0 : ∀ u, (E u).cell? ⟨gs, 0, none⟩ = some (.slice pb lb cb) := fun u => cell_of_row _ _ 0 _ _ _ ((hF1 u).heap RO.out)
    have s1 : ∀ u, (E u).cell? ⟨gs, 1, none⟩ = some (.slice pw lw cw) := fun u => cell_of_row _ _ 1 _ _ _ ((hF1 u).heap RO.out)
    have s2 : ∀ u, (E u).cell? ⟨gs, 2, none⟩ = some (.slice pt lt ct) := fun u => cell_of_row _ _ 2 _ _ _ ((hF1 u).heap RO.out)
    have s3 : ∀ u, (E u).cell? ⟨gs, 3, none⟩ = some (.slice ps ls cs) := fun u => cell_of_row _ _ 3 _ _ _ ((hF1 u).heap RO.out)
    have DD0 := HU.out _ (Ab.refl W).drew
    clear hF1 hF2
    refine region_cls E (by kernel_rfl) (by kernel_rfl) DD0 ?_
    repeat (go_big_quiet_step (first
      | (with_reducible rfl)
      | (go_at_call 36; exact calls_cls HU HU1 (CC.out _ (HX.out _)))
      | (go_at_call 28; exact calls_cls HU HU1 (CE.out _ (HX.out _)))))
    refine wpQuiet_nil ?_
    intro z hwz
    obtain ⟨u0, hu⟩ := hwz
    have AZ : Hid (Ab w z) := by rw [hu]; exact HX.out u0
    clear hu u0
    clear HU HU1 HX DD0 s0 s1 s2 s3
    clear E UU
    go_wp2
    go_ret
    exact ⟨rfl, AZ.out⟩
  · skip
    obtain ⟨UU, E, hF1, hF2⟩ := cls W
    have HU := hid hF2
    have HU1 := hid hF1
    have HX : Hid (∀ u, Ab w (E u)) := fun u => Ab.trans AW.out (hF1 u)
    have s0 : ∀ u, (E u).cell? ⟨gs, 0, none⟩ = some (.slice pb lb cb) := fun u => cell_of_row _ _ 0 _ _ _ ((hF1 u).heap RO.out)
    have s1 : ∀ u, (E u).cell? ⟨gs, 1, none⟩ = some (.slice pw lw cw) := fun u => cell_of_row _ _ 1 _ _ _ ((hF1 u).heap RO.out)
    have s2 : ∀ u, (E u).cell? ⟨gs, 2, none⟩ = some (.slice pt lt ct) := fun u => cell_of_row _ _ 2 _ _ _ ((hF1 u).heap RO.out)
    have s3 : ∀ u, (E u).cell? ⟨gs, 3, none⟩ = some (.slice ps ls cs) := fun u => cell_of_row _ _ 3 _ _ _ ((hF1 u).heap RO.out)
    have DD0 := HU.out _ (Ab.refl W).drew
    clear hF1 hF2
    refine region_cls E (by kernel_rfl) (by kernel_rfl) DD0 ?_
    repeat (go_big_quiet_step (first
      | (with_reducible rfl)
      | (go_at_call 36; exact calls_cls HU HU1 (CC.out _ (HX.out _)))
      | (go_at_call 28; exact calls_cls HU HU1 (CE.out _ (HX.out _)))))
    refine wpQuiet_nil ?_
    intro z hwz
    obtain ⟨u0, hu⟩ := hwz
    have AZ : Hid (Ab w z) := by rw [hu]; exact HX.out u0
    clear hu u0
    clear HU HU1 HX DD0 s0 s1 s2 s3
    clear E UU
    go_wp2
    go_ret
    exact ⟨rfl, AZ.out⟩
  · skip
    obtain ⟨UU, E, hF1, hF2⟩ := cls W
    have HU := hid hF2
    have HU1 := hid hF1
    have HX : Hid (∀ u, Ab w (E u)) := fun u => Ab.trans AW.out (hF1 u)
    have s0 : ∀ u, (E u).cell? ⟨gs, 0, none⟩ = some (.slice pb lb cb) := fun u => cell_of_row _ _ 0 _ _ _ ((hF1 u).heap RO.out)
    have s1 : ∀ u, (E u).cell? ⟨gs, 1, none⟩ = some (.slice pw lw cw) := fun u => cell_of_row _ _ 1 _ _ _ ((hF1 u).heap RO.out)
    have s2 : ∀ u, (E u).cell? ⟨gs, 2, none⟩ = some (.slice pt lt ct) := fun u => cell_of_row _ _ 2 _ _ _ ((hF1 u).heap RO.out)
    have s3 : ∀ u, (E u).cell? ⟨gs, 3, none⟩ = some (.slice ps ls cs) := fun u => cell_of_row _ _ 3 _ _ _ ((hF1 u).heap RO.out)
    have DD0 := HU.out _ (Ab.refl W).drew
    clear hF1 hF2
    refine region_cls E (by kernel_rfl) (by kernel_rfl) DD0 ?_
    repeat (go_big_quiet_step (first
      | (with_reducible rfl)
      | (go_at_call 36; exact calls_cls HU HU1 (CC.out _ (HX.out _)))
      | (go_at_call 28; exact calls_cls HU HU1 (CE.out _ (HX.out _)))))
    refine wpQuiet_nil ?_
    intro z hwz
    obtain ⟨u0, hu⟩ := hwz
    have AZ : Hid (Ab w z) := by rw [hu]; exact HX.out u0
    clear hu u0
    clear HU HU1 HX DD0 s0 s1 s2 s3
    clear E UU
    go_wp2
    go_ret
    exact ⟨rfl, AZ.out⟩
  · skip
    obtain ⟨UU, E, hF1, hF2⟩ := cls W
    have HU := hid hF2
    have HU1 := hid hF1
    have HX : Hid (∀ u, Ab w (E u)) := fun u => Ab.trans AW.out (hF1 u)
    have s0 : ∀ u, (E u).cell? ⟨gs, 0, none⟩ = some (.slice pb lb cb) := fun u => cell_of_row _ _ 0 _ _ _ ((hF1 u).heap RO.out)
    have s1 : ∀ u, (E u).cell? ⟨gs, 1, none⟩ = some (.slice pw lw cw) := fun u => cell_of_row _ _ 1 _ _ _ ((hF1 u).heap RO.out)
    have s2 : ∀ u, (E u).cell? ⟨gs, 2, none⟩ = some (.slice pt lt ct) := fun u => cell_of_row _ _ 2 _ _ _ ((hF1 u).heap RO.out)
    have s3 : ∀ u, (E u).cell? ⟨gs, 3, none⟩ = some (.slice ps ls cs) := fun u => cell_of_row _ _ 3 _ _ _ ((hF1 u).heap RO.out)
    have DD0 := HU.out _ (Ab.refl W).drew
    clear hF1 hF2
    refine region_cls E (by kernel_rfl) (by kernel_rfl) DD0 ?_
    repeat (go_big_quiet_step (first
      | (with_reducible rfl)
      | (go_at_call 36; exact calls_cls HU HU1 (CC.out _ (HX.out _)))
      | (go_at_call 28; exact calls_cls HU HU1 (CE.out _ (HX.out _)))))
    refine wpQuiet_nil ?_
    intro z hwz
    obtain ⟨u0, hu⟩ := hwz
    have AZ : Hid (Ab w z) := by rw [hu]; exact HX.out u0
    clear hu u0
    clear HU HU1 HX DD0 s0 s1 s2 s3
    clear E UU
    go_wp2
    go_ret
    exact ⟨rfl, AZ.out⟩
/-- DOES A #[.slice pb lb cb, .slice pw lw cw, .slice pt lt ct, .slice ps ls cs, .int .i64 sky, .int .i64 st] FIT -/
theorem fits16_at {n gb : Nat} (pb pw pt ps : Option Addr) (lb cb lw cw lt ct ls cs : Nat) (sky st : Int) (q : Bool) (w : World) (g : GridOf n gb w) (hq : q = true ↔ fit4 n lb lw lt ls) :
    Calls Tryd.prog 26 #[(.pointer (some ⟨gb, 0, none⟩)), .agg #[.slice pb lb cb, .slice pw lw cw, .slice pt lt ct, .slice ps ls cs, .int .i64 sky, .int .i64 st]] w fun e w' => e = .returned (.bool q) ∧ Below w.heap.size w w' := by
  refine fits16_go gb pb pw pt ps lb cb lw cw lt ct ls cs sky st (6 * n * n) (12 * n * n) q w ?_ (fun v hv => (gCells_at (g.to hv)).mono fun _ _ h => ⟨h.1, by obtain ⟨_, rfl⟩ := h; exact Below.refl _ _⟩) (fun v hv => (gEdges_at (g.to hv)).mono fun _ _ h => ⟨h.1, by obtain ⟨_, rfl⟩ := h; exact Below.refl _ _⟩)
  unfold fit4 at hq
  generalize 6 * n * n = M at *
  generalize 12 * n * n = N at *
  have e : ∀ a b : Nat, (((a : Int) == (b : Int)) = true ↔ a = b) := fun a b => by simp; omega
  have f : ∀ a b : Nat, (((a : Int) == (b : Int)) = false ↔ a ≠ b) := fun a b => by simp; omega
  rw [e, f, e, f, e, f]
  by_cases h1 : lb = M
  · by_cases h2 : lw = M
    · by_cases h3 : lt = M
      · refine .inr (.inr (.inr ⟨h1, h2, h3, ?_⟩))
        by_cases h4 : ls = N
        · rw [hq.2 ⟨h1, h2, h3, h4⟩]; exact (e _ _).2 h4
        · have : q = false := by cases q; · rfl
                                 · exact absurd (hq.1 rfl).2.2.2 h4
          rw [this]; exact (f _ _).2 h4
      · exact .inr (.inr (.inl ⟨h1, h2, h3, by cases q; · rfl
                                               · exact absurd (hq.1 rfl).2.2.1 h3⟩))
    · exact .inr (.inl ⟨h1, h2, by cases q; · rfl
                                   · exact absurd (hq.1 rfl).2.1 h2⟩)
  · exact .inl ⟨h1, by cases q; · rfl
                       · exact absurd (hq.1 rfl).1 h1⟩
set_option maxRecDepth 100000 in
set_option maxHeartbeats 4000000 in
theorem net16_no (side : Int) (pb pw pt ps : Option Addr) (lb cb lw cw lt ct ls cs : Nat) (sky st : Int) (w : World) (h : ¬ (1 ≤ side ∧ side ≤ 32)) :
    Calls Tryd.prog 10 #[.int .i64 side, .agg #[.slice pb lb cb, .slice pw lw cw, .slice pt lt ct, .slice ps ls cs, .int .i64 sky, .int .i64 st]] w fun e w' => e = .returned (.pointer none) ∧ Below w.heap.size w w' := by
  have A0 : Hid (Ab w (w.alloc (.cells #[.slice pb lb cb, .slice pw lw cw, .slice pt lt ct, .slice ps ls cs, .int .i64 sky, .int .i64 st] 29))) := bl1 _ _
  have NO := hid (fun v => new_no side v h)
  clear h
  go_enter Tryd.func10, Tryd.ntmps10
  go_wp2_with fail
  refine Calls.mono (NO.out _) ?_
  rintro e v1 ⟨rfl, hv⟩
  have hv2 := hv.symm
  subst hv2
  go_wp2
  go_ret
  exact ⟨rfl, A0.out⟩
set_option maxRecDepth 100000 in
set_option maxHeartbeats 4000000 in
theorem net16_go (n : Nat) (pb pw pt ps : Option Addr) (lb cb lw cw lt ct ls cs : Nat) (sky st : Int) (lg q : Bool) (w : World) (hn : 1 ≤ n ∧ n ≤ 32) (hF : Fr w)
    (LG : Hid (∀ v, Calls Tryd.prog 20 #[.agg #[.slice pb lb cb, .slice pw lw cw, .slice pt lt ct, .slice ps ls cs, .int .i64 sky, .int .i64 st]] v fun e w' => e = .returned (.bool lg) ∧ Below v.heap.size v w'))
    (FT : Hid (∀ gb v, GridOf n gb v → Calls Tryd.prog 26 #[(.pointer (some ⟨gb, 0, none⟩)), .agg #[.slice pb lb cb, .slice pw lw cw, .slice pt lt ct, .slice ps ls cs, .int .i64 sky, .int .i64 st]] v fun e w' => e = .returned (.bool q) ∧ Below v.heap.size v w')) :
    Calls Tryd.prog 10 #[.int .i64 (n : Nat), .agg #[.slice pb lb cb, .slice pw lw cw, .slice pt lt ct, .slice ps ls cs, .int .i64 sky, .int .i64 st]] w fun e w' => Below w.heap.size w w' ∧ ((lg = false ∧ q = true ∧ ∃ gb, e = .returned (.pointer (some ⟨gb, 0, none⟩)) ∧ GridOf n gb w') ∨ (¬ (lg = false ∧ q = true) ∧ e = .returned (.pointer none))) := by
  have A0 : Hid (Ab w (w.alloc (.cells #[.slice pb lb cb, .slice pw lw cw, .slice pt lt ct, .slice ps ls cs, .int .i64 sky, .int .i64 st] 29))) := bl1 _ _
  have R0 : Hid ((w.alloc (.cells #[.slice pb lb cb, .slice pw lw cw, .slice pt lt ct, .slice ps ls cs, .int .i64 sky, .int .i64 st] 29)).heap[w.heap.size]? = some (.cells #[.slice pb lb cb, .slice pw lw cw, .slice pt lt ct, .slice ps ls cs, .int .i64 sky, .int .i64 st] 29)) := heap_alloc_new _ _
  have NW := hid (new_at n _ hn (hF.to A0.out))
  clear hF hn
  go_enter Tryd.func10, Tryd.ntmps10
  go_wp2_with fail
  refine NW.out.mono ?_
  rintro e W ⟨gb, rfl, a1, -, g1⟩
  have AW : Hid (Ab w W) := A0.out.trans a1
  have RO : Hid (W.heap[w.heap.size]? = some (.cells #[.slice pb lb cb, .slice pw lw cw, .slice pt lt ct, .slice ps ls cs, .int .i64 sky, .int .i64 st] 29)) := a1.heap R0.out
  have GG := hid g1
  clear a1 g1 NW A0 R0
  have c0 := cell_of_row _ _ 0 _ _ _ RO.out
  have c1 := cell_of_row _ _ 1 _ _ _ RO.out
  have c2 := cell_of_row _ _ 2 _ _ _ RO.out
  have c3 := cell_of_row _ _ 3 _ _ _ RO.out
  have c4 := cell_of_row _ _ 4 _ _ _ RO.out
  have c5 := cell_of_row _ _ 5 _ _ _ RO.out
  go_wp2_with fail
  refine (LG.out _).mono ?_
  rintro e9 v1 ⟨rfl, k1⟩
  have A1 : Hid (Ab w v1) := AW.out.call k1
  have R1 : Hid (v1.heap[w.heap.size]? = some (.cells #[.slice pb lb cb, .slice pw lw cw, .slice pt lt ct, .slice ps ls cs, .int .i64 sky, .int .i64 st] 29)) := Ab.heap k1 RO.out
  have G1 := hid (GG.out.to k1)
  clear k1 AW RO GG c0 c1 c2 c3 c4 c5 LG
  cases lg
  · have c0 := cell_of_row _ _ 0 _ _ _ R1.out
    have c1 := cell_of_row _ _ 1 _ _ _ R1.out
    have c2 := cell_of_row _ _ 2 _ _ _ R1.out
    have c3 := cell_of_row _ _ 3 _ _ _ R1.out
    have c4 := cell_of_row _ _ 4 _ _ _ R1.out
    have c5 := cell_of_row _ _ 5 _ _ _ R1.out
    go_wp2_with fail
    refine (FT.out gb _ G1.out).mono ?_
    rintro e9 v2 ⟨rfl, k1⟩
    have A2 : Hid (Ab w v2) := A1.out.call k1
    have G2 := hid (G1.out.to k1)
    clear k1 A1 G1 R1 c0 c1 c2 c3 c4 c5 FT
    cases q
    · go_wp2
      go_ret
      exact ⟨A2.out, rfl⟩
    · go_wp2
      go_ret
      exact ⟨A2.out, gb, rfl, G2.out⟩
  · go_wp2
    go_ret
    exact ⟨A1.out, .inr ⟨by simp, rfl⟩⟩
/-- THE NET OF A SIDE, where a sea fits it -/
theorem net16_yes (n : Nat) (pb pw pt ps : Option Addr) (lb cb lw cw lt ct ls cs : Nat) (sky st : Int) (w : World) (hF : Fr w) (hn : 1 ≤ n ∧ n ≤ 32) (hf : fit4 n lb lw lt ls) :
    Calls Tryd.prog 10 #[.int .i64 (n : Nat), .agg #[.slice pb lb cb, .slice pw lw cw, .slice pt lt ct, .slice ps ls cs, .int .i64 sky, .int .i64 st]] w fun e w' => Below w.heap.size w w' ∧ ∃ gb, e = .returned (.pointer (some ⟨gb, 0, none⟩)) ∧ GridOf n gb w' := by
  have lg : decide (65536 < lb ∨ 65536 < lw ∨ 65536 < lt ∨ 65536 < ls) = false := by
    obtain ⟨h1, h2, h3, h4⟩ := hf
    have h5 := n12 hn
    exact decide_eq_false (by omega)
  refine (net16_go n pb pw pt ps lb cb lw cw lt ct ls cs sky st _ true w hn hF (fun v => long16_at pb pw pt ps lb cb lw cw lt ct ls cs sky st v) (fun gb v g => fits16_at pb pw pt ps lb cb lw cw lt ct ls cs sky st true v g (by simp [hf]))).mono ?_
  rintro e w' ⟨b, ⟨_, _, gb, rfl, g⟩ | ⟨h, _⟩⟩
  · exact ⟨b, gb, rfl, g⟩
  · exact absurd ⟨lg, rfl⟩ h
/-- AND WHERE NONE DOES -/
theorem net16_nil (side : Int) (pb pw pt ps : Option Addr) (lb cb lw cw lt ct ls cs : Nat) (sky st : Int) (w : World) (hF : Fr w) (h : ¬ ∃ n : Nat, side = (n : Int) ∧ (1 ≤ n ∧ n ≤ 32) ∧ fit4 n lb lw lt ls) :
    Calls Tryd.prog 10 #[.int .i64 side, .agg #[.slice pb lb cb, .slice pw lw cw, .slice pt lt ct, .slice ps ls cs, .int .i64 sky, .int .i64 st]] w fun e w' => e = .returned (.pointer none) ∧ Below w.heap.size w w' := by
  by_cases hs : 1 ≤ side ∧ side ≤ 32
  · obtain ⟨n, rfl⟩ : ∃ n : Nat, side = n := ⟨side.toNat, by omega⟩
    have hn : 1 ≤ n ∧ n ≤ 32 := by omega
    have hf : ¬ fit4 n lb lw lt ls := fun hf => h ⟨n, rfl, hn, hf⟩
    refine (net16_go n pb pw pt ps lb cb lw cw lt ct ls cs sky st _ false w hn hF (fun v => long16_at pb pw pt ps lb cb lw cw lt ct ls cs sky st v) (fun gb v g => fits16_at pb pw pt ps lb cb lw cw lt ct ls cs sky st false v g (by simp [hf]))).mono ?_
    rintro e w' ⟨b, ⟨_, h2, _⟩ | ⟨_, rfl⟩⟩
    · cases h2
    · exact ⟨rfl, b⟩
  · exact net16_no side pb pw pt ps lb cb lw cw lt ct ls cs sky st w hs
/-- an edge of the net -/
theorem edge16 {n gb k : Nat} {v : World} (hn : 1 ≤ n ∧ n ≤ 32) (hk : k < 12 * n * n) (g : GridOf n gb v) : Calls Tryd.prog 14 #[.pointer (some ⟨gb, 0, none⟩), .int .i64 (k : Nat)] v fun e w' => e = .returned (.tuple #[.agg #[.int .i64 (eL n k : Nat), .int .i64 (edT n k % 4 : Nat), .int .i64 (eR n k : Nat), .int .i64 (mt n (edT n k) % 4 : Nat)], .bool true]) ∧ Below v.heap.size v w' := by
  obtain ⟨t1, t2, t3⟩ := edT_spec hn.1 hk
  have e := gEdge_ok hn t1 t2 g
  rw [t3, ← (mt_dec hn.1 t1).1, ← (mt_dec hn.1 t1).2] at e
  exact e
theorem ends16 {n k : Nat} (hn : 1 ≤ n) (hk : k < 12 * n * n) : eL n k < 6 * n * n ∧ eR n k < 6 * n * n ∧ eL n k ≠ eR n k := by
  obtain ⟨t1, t2, t3⟩ := edT_spec hn hk
  refine ⟨t_cell t1, t_cell (mt_lt hn t1), ?_⟩
  have h := (mt_dec hn t1).1
  have h2 : edT n k / 4 < mt n (edT n k) / 4 := by rw [h]; exact of_decide_eq_true t2
  unfold eL eR
  omega
theorem n6_16 {n : Nat} (hn : 1 ≤ n ∧ n ≤ 32) : 6 * n * n ≤ 65536 ∧ 12 * n * n ≤ 65536 ∧ 0 < 6 * n * n ∧ 0 < 12 * n * n := by
  have h := n12 hn
  omega
end Fc
end Go.Proofs.YtpfoohpncbkkfaaDoor

namespace Go.Proofs.YtpfoohpncbkkfaaDoor
open Go.RowKit Tf Cu Go.Deep
attribute [local go_sem] run_bits run_from raw_feq raw_fne raw_flt raw_fgt run_neg run_store_float
namespace Fc
set_option maxRecDepth 100000 in
set_option maxHeartbeats 64000000 in
theorem lake16_at {gb : Nat} (w : World) (g : GridOf 1 gb w) :
    Calls Tryd.prog 25 #[.pointer (some ⟨gb, 0, none⟩)] w fun e w' => ∃ b1 b2 b3 b4, e = .returned (.agg #[.slice (some ⟨b1, 0, none⟩) 6 6, .slice (some ⟨b2, 0, none⟩) 6 6, .slice (some ⟨b3, 0, none⟩) 6 6, .slice (some ⟨b4, 0, none⟩) 12 12, .int .i64 0, .int .i64 0]) ∧ Below w.heap.size w w' ∧ w'.rowIs b1 22 6 (fun _ => .float .f64 0) ∧ w'.rowIs b2 2 6 (fun i => .int .i64 (lkW i)) ∧ w'.rowIs b3 2 6 (fun _ => .int .i64 0) ∧ w'.rowIs b4 22 12 (fun _ => .float .f64 0) ∧ ((w.heap.size ≤ b1 ∧ w.heap.size ≤ b2 ∧ w.heap.size ≤ b3 ∧ w.heap.size ≤ b4) ∧ b1 ≠ b2 ∧ b1 ≠ b4 ∧ b2 ≠ b4 ∧ b3 ≠ b4 ∧ b3 ≠ b2) := by
  have CC : Hid (∀ v, Ab w v → Calls Tryd.prog 36 #[.pointer (some ⟨gb, 0, none⟩)] v fun e w' => e = .returned (.int .i64 6) ∧ w' = v) := fun v hv => gCells_at (g.to hv)
  have CE : Hid (∀ v, Ab w v → Calls Tryd.prog 28 #[.pointer (some ⟨gb, 0, none⟩)] v fun e w' => e = .returned (.int .i64 12) ∧ w' = v) := fun v hv => gEdges_at (g.to hv)
  have M1 : ∀ v : World, (Instr.makeSlice 26 (.int .i64 6) (.int .i64 6)).run Tryd.prog v = .ok (.slice (some ⟨v.heap.size, 0, none⟩) 6 6) (v.alloc (Obj.cells (madeCells #[.float .f64 0] 6) 22)) := fun v => by
    exact run_make_row' (P := Tryd.prog) 26 22 (.float .f64 0) 8 Tryd.underlying26 infoF64 rfl .i64 .i64 6 (by omega) (by omega) v
  have M2 : ∀ v : World, (Instr.makeSlice 27 (.int .i64 6) (.int .i64 6)).run Tryd.prog v = .ok (.slice (some ⟨v.heap.size, 0, none⟩) 6 6) (v.alloc (Obj.cells (madeCells #[.int .i64 0] 6) 2)) := fun v => by
    exact run_make_row' (P := Tryd.prog) 27 2 (.int .i64 0) 8 Tryd.underlying27 info64 rfl .i64 .i64 6 (by omega) (by omega) v
  have M3 : ∀ v : World, (Instr.makeSlice 26 (.int .i64 12) (.int .i64 12)).run Tryd.prog v = .ok (.slice (some ⟨v.heap.size, 0, none⟩) 12 12) (v.alloc (Obj.cells (madeCells #[.float .f64 0] 12) 22)) := fun v => by
    exact run_make_row' (P := Tryd.prog) 26 22 (.float .f64 0) 8 Tryd.underlying26 infoF64 rfl .i64 .i64 12 (by omega) (by omega) v
  have AL : ∀ v : World, (Instr.alloc 29 true (.tuple #[])).run Tryd.prog v = .ok (.pointer (some ⟨v.heap.size, 0, none⟩)) (v.alloc (.cells #[.slice none 0 0, .slice none 0 0, .slice none 0 0, .slice none 0 0, .int .i64 0, .int .i64 0] 29)) := fun v => by
    simp [go_sem]
  have A0 : Hid (Ab w (w.alloc (.cells #[.slice none 0 0, .slice none 0 0, .slice none 0 0, .slice none 0 0, .int .i64 0, .int .i64 0] 29))) := bl1 _ _
  go_enter Tryd.func25, Tryd.ntmps25
  go_wp2_with fail
  refine (CC.out _ A0.out).mono ?_
  rintro e9 vq ⟨rfl, hvq⟩
  have hvq2 := hvq.symm
  subst hvq2
  go_wp2_with fail
  refine (CE.out _ A0.out).mono ?_
  rintro e9 vq ⟨rfl, hvq⟩
  have hvq2 := hvq.symm
  subst hvq2
  go_upto_region 4 with fail
  generalize hW : World.alloc w _ = W at *
  go_cut [4] from 22 to 31 (fun s4 wx => ∃ g4 b1 b2 b3 b4, s4 = .pointer (some ⟨g4, 0, none⟩) ∧ Ab W wx ∧ wx.heap[g4]? = some (.cells #[.slice (some ⟨b1, 0, none⟩) 6 6, .slice (some ⟨b2, 0, none⟩) 6 6, .slice (some ⟨b3, 0, none⟩) 6 6, .slice (some ⟨b4, 0, none⟩) 12 12, .int .i64 0, .int .i64 0] 29) ∧ wx.heap[b1]? = some (Obj.cells (madeCells #[.float .f64 0] 6) 22) ∧ wx.heap[b2]? = some (Obj.cells (madeCells #[.int .i64 0] 6) 2) ∧ wx.heap[b3]? = some (Obj.cells (madeCells #[.int .i64 0] 6) 2) ∧ wx.heap[b4]? = some (Obj.cells (madeCells #[.float .f64 0] 12) 22) ∧ W.heap.size ≤ g4 ∧ W.heap.size ≤ b1 ∧ W.heap.size ≤ b2 ∧ W.heap.size ≤ b3 ∧ W.heap.size ≤ b4 ∧ g4 ≠ b1 ∧ g4 ≠ b2 ∧ g4 ≠ b3 ∧ g4 ≠ b4 ∧ b1 ≠ b2 ∧ b1 ≠ b3 ∧ b1 ≠ b4 ∧ b2 ≠ b3 ∧ b2 ≠ b4 ∧ b3 ≠ b4)
  case first =>
    obtain ⟨UU, E, hF1, hF2⟩ := cls W.drew
    have HU := hid hF2
    clear hF1 hF2
    refine region_free 11 (fun k => if k = 1 then some ((Obj.cells (madeCells #[.float .f64 0] 6) 22), fun b => .slice (some ⟨b, 0, none⟩) 6 6) else if k = 3 then some ((Obj.cells (madeCells #[.int .i64 0] 6) 2), fun b => .slice (some ⟨b, 0, none⟩) 6 6) else if k = 5 then some ((Obj.cells (madeCells #[.int .i64 0] 6) 2), fun b => .slice (some ⟨b, 0, none⟩) 6 6) else if k = 8 then some ((Obj.cells (madeCells #[.float .f64 0] 12) 22), fun b => .slice (some ⟨b, 0, none⟩) 12 12) else if k = 10 then some ((.cells #[.slice none 0 0, .slice none 0 0, .slice none 0 0, .slice none 0 0, .int .i64 0, .int .i64 0] 29), fun b => .pointer (some ⟨b, 0, none⟩)) else none) (by kernel_rfl) (by kernel_rfl) (by kernel_rfl) ?_
    simp only [List.take_succ_cons, List.take_zero]
    refine wpFree_one HU (by rfl) (by rfl) ?_
    go_big_quiet_step (with_reducible rfl)
    refine wpQuiet_nil ?_
    refine wpFree_lay (ob := (Obj.cells (madeCells #[.float .f64 0] 6) 22)) (mk := fun b => .slice (some ⟨b, 0, none⟩) 6 6) (by rfl) (by kernel_rfl) ?_ ?_
    · refine lay_make (vx := .int .i64 6) (vy := .int .i64 6) (ob := (Obj.cells (madeCells #[.float .f64 0] 6) 22)) (mk := fun b => .slice (some ⟨b, 0, none⟩) 6 6) rfl ?_ ?_ ?_
      · rfl
      · rfl
      · exact M1
    intro b1 fb1
    simp only [Act.put, List.setIfInBounds_toArray, List.set_cons_succ, List.set_cons_zero]
    refine wpFree_one HU (by rfl) (by rfl) ?_
    go_big_quiet_step (with_reducible rfl)
    refine wpQuiet_nil ?_
    refine wpFree_lay (ob := (Obj.cells (madeCells #[.int .i64 0] 6) 2)) (mk := fun b => .slice (some ⟨b, 0, none⟩) 6 6) (by rfl) (by kernel_rfl) ?_ ?_
    · refine lay_make (vx := .int .i64 6) (vy := .int .i64 6) (ob := (Obj.cells (madeCells #[.int .i64 0] 6) 2)) (mk := fun b => .slice (some ⟨b, 0, none⟩) 6 6) rfl ?_ ?_ ?_
      · rfl
      · rfl
      · exact M2
    intro b2 fb2
    simp only [Act.put, List.setIfInBounds_toArray, List.set_cons_succ, List.set_cons_zero]
    refine wpFree_one HU (by rfl) (by rfl) ?_
    go_big_quiet_step (with_reducible rfl)
    refine wpQuiet_nil ?_
    refine wpFree_lay (ob := (Obj.cells (madeCells #[.int .i64 0] 6) 2)) (mk := fun b => .slice (some ⟨b, 0, none⟩) 6 6) (by rfl) (by kernel_rfl) ?_ ?_
    · refine lay_make (vx := .int .i64 6) (vy := .int .i64 6) (ob := (Obj.cells (madeCells #[.int .i64 0] 6) 2)) (mk := fun b => .slice (some ⟨b, 0, none⟩) 6 6) rfl ?_ ?_ ?_
      · rfl
      · rfl
      · exact M2
    intro b3 fb3
    simp only [Act.put, List.setIfInBounds_toArray, List.set_cons_succ, List.set_cons_zero]
    refine wpFree_one HU (by rfl) (by rfl) ?_
    go_big_quiet_step (with_reducible rfl)
    refine wpQuiet_nil ?_
    refine wpFree_one HU (by rfl) (by rfl) ?_
    go_big_quiet_step (with_reducible rfl)
    refine wpQuiet_nil ?_
    refine wpFree_lay (ob := (Obj.cells (madeCells #[.float .f64 0] 12) 22)) (mk := fun b => .slice (some ⟨b, 0, none⟩) 12 12) (by rfl) (by kernel_rfl) ?_ ?_
    · refine lay_make (vx := .int .i64 12) (vy := .int .i64 12) (ob := (Obj.cells (madeCells #[.float .f64 0] 12) 22)) (mk := fun b => .slice (some ⟨b, 0, none⟩) 12 12) rfl ?_ ?_ ?_
      · rfl
      · rfl
      · exact M3
    intro b4 fb4
    simp only [Act.put, List.setIfInBounds_toArray, List.set_cons_succ, List.set_cons_zero]
    refine wpFree_one HU (by rfl) (by rfl) ?_
    go_big_quiet_step (with_reducible rfl)
    refine wpQuiet_nil ?_
    refine wpFree_lay (ob := (.cells #[.slice none 0 0, .slice none 0 0, .slice none 0 0, .slice none 0 0, .int .i64 0, .int .i64 0] 29)) (mk := fun b => .pointer (some ⟨b, 0, none⟩)) (by rfl) (by kernel_rfl) ?_ ?_
    · refine lay_alloc (ob := (.cells #[.slice none 0 0, .slice none 0 0, .slice none 0 0, .slice none 0 0, .int .i64 0, .int .i64 0] 29)) (mk := fun b => .pointer (some ⟨b, 0, none⟩)) rfl ?_
      · exact AL
    intro g4 fg4
    simp only [Act.put, List.setIfInBounds_toArray, List.set_cons_succ, List.set_cons_zero]

    refine wpFree_nil ?_
    intro wz hz
    have h1 := hz.at (i := 1) (b := b1) (ob := (Obj.cells (madeCells #[.float .f64 0] 6) 22)) (by rfl) (by rfl)
    have h2 := hz.at (i := 3) (b := b2) (ob := (Obj.cells (madeCells #[.int .i64 0] 6) 2)) (by rfl) (by rfl)
    have h3 := hz.at (i := 5) (b := b3) (ob := (Obj.cells (madeCells #[.int .i64 0] 6) 2)) (by rfl) (by rfl)
    have h4 := hz.at (i := 8) (b := b4) (ob := (Obj.cells (madeCells #[.float .f64 0] 12) 22)) (by rfl) (by rfl)
    have h5 := hz.at (i := 10) (b := g4) (ob := (.cells #[.slice none 0 0, .slice none 0 0, .slice none 0 0, .slice none 0 0, .int .i64 0, .int .i64 0] 29)) (by rfl) (by rfl)
    have n12 : b1 ≠ b2 := fb2.2 1 b1 (by rfl)
    have n13 : b1 ≠ b3 := fb3.2 1 b1 (by rfl)
    have n14 : b1 ≠ b4 := fb4.2 1 b1 (by rfl)
    have n15 : b1 ≠ g4 := fg4.2 1 b1 (by rfl)
    have n23 : b2 ≠ b3 := fb3.2 3 b2 (by rfl)
    have n24 : b2 ≠ b4 := fb4.2 3 b2 (by rfl)
    have n25 : b2 ≠ g4 := fg4.2 3 b2 (by rfl)
    have n34 : b3 ≠ b4 := fb4.2 5 b3 (by rfl)
    have n35 : b3 ≠ g4 := fg4.2 5 b3 (by rfl)
    have n45 : b4 ≠ g4 := fg4.2 8 b4 (by rfl)
    have AZ : Ab W wz := (Ab.refl W).drew.trans hz.1
    have RZ := hid h5.1
    have HH := hid (And.intro h1 (And.intro h2 (And.intro h3 (And.intro h4 h5))))
    have NN := hid (And.intro n12 (And.intro n13 (And.intro n14 (And.intro n15 (And.intro n23 (And.intro n24 (And.intro n25 (And.intro n34 (And.intro n35 n45)))))))))
    have HAZ := hid AZ
    clear hz fb1 fb2 fb3 fb4 fg4 h1 h2 h3 h4 h5 n12 n13 n14 n15 n23 n24 n25 n34 n35 n45 AZ HU
    clear E UU
    have t0 := cell_of_row _ _ 0 _ _ _ RZ.out
    have t1 := cell_of_row _ _ 1 _ _ _ RZ.out
    have t2 := cell_of_row _ _ 2 _ _ _ RZ.out
    have t3 := cell_of_row _ _ 3 _ _ _ RZ.out
    have t4 := cell_of_row _ _ 4 _ _ _ RZ.out
    have t5 := cell_of_row _ _ 5 _ _ _ RZ.out
    have f0 := free_row RZ.out 0
    have f1 := free_row RZ.out 1
    have f2 := free_row RZ.out 2
    have f3 := free_row RZ.out 3
    have f4 := free_row RZ.out 4
    have f5 := free_row RZ.out 5
    simp only [List.drop_succ_cons, List.drop_zero]
    go_wp2_with fail
    go_meet
    obtain ⟨⟨k1, l1⟩, ⟨k2, l2⟩, ⟨k3, l3⟩, ⟨k4, l4⟩, ⟨k5, l5⟩⟩ := HH.out
    obtain ⟨n12, n13, n14, n15, n23, n24, n25, n34, n35, n45⟩ := NN.out
    have st : ∀ (b : Nat) (o : Obj), b ≠ g4 → wz.heap[b]? = some o → ∀ x0 x1 x2 x3 x4 x5, ((((((wz.setCell ⟨g4, 0, none⟩ x0).setCell ⟨g4, 1, none⟩ x1).setCell ⟨g4, 2, none⟩ x2).setCell ⟨g4, 3, none⟩ x3).setCell ⟨g4, 4, none⟩ x4).setCell ⟨g4, 5, none⟩ x5).heap[b]? = some o := fun b o hb h x0 x1 x2 x3 x4 x5 => by
      rw [heap_set_ne hb, heap_set_ne hb, heap_set_ne hb, heap_set_ne hb, heap_set_ne hb, heap_set_ne hb]
      exact h
    refine ⟨g4, b1, b2, b3, b4, rfl, ?_, row6 k5, st b1 _ n15 k1 _ _ _ _ _ _, st b2 _ n25 k2 _ _ _ _ _ _, st b3 _ n35 k3 _ _ _ _ _ _, st b4 _ n45 k4 _ _ _ _ _ _, l5, l1, l2, l3, l4, Ne.symm n15, Ne.symm n25, Ne.symm n35, Ne.symm n45, n12, n13, n14, n23, n24, n34⟩
    exact (((((HAZ.out.setk l5 _).setk l5 _).setk l5 _).setk l5 _).setk l5 _).setk l5 _
  case rest =>
    obtain ⟨g4, b1, b2, b3, b4, rfl, a4, r4, m1, m2, m3, m4, l5, l1, l2, l3, l4, n51, n52, n53, n54, n12, n13, n14, n23, n24, n34⟩ := hcut
    obtain ⟨gd, hgd⟩ : ∃ x, w.heap.size = x := ⟨_, rfl⟩
    have HL : Hid (gd + 1 ≤ b1 ∧ gd + 1 ≤ b2 ∧ gd + 1 ≤ b3 ∧ gd + 1 ≤ b4 ∧ gd + 1 ≤ g4) := by
      rw [← hW, size1] at l1 l2 l3 l4 l5
      rw [← hgd]
      exact ⟨l1, l2, l3, l4, l5⟩
    have NN : Hid (g4 ≠ b2 ∧ b1 ≠ b2 ∧ b3 ≠ b2 ∧ b4 ≠ b2 ∧ b1 ≠ b4 ∧ b3 ≠ b4) := ⟨n52, n12, Ne.symm n23, Ne.symm n24, n14, n34⟩
    have ZR : Hid (W.heap[gd]? = some (.cells #[.slice none 0 0, .slice none 0 0, .slice none 0 0, .slice none 0 0, .int .i64 0, .int .i64 0] 29)) := by rw [← hW, ← hgd]; exact heap_alloc_new _ _
    have AWW : Hid (Ab w W) := A0.out
    have FI := hid (show LkI w gd g4 b1 b2 b3 b4 0 wc from ⟨AWW.out.trans a4, r4, Ab.heap a4 ZR.out, made_row m1, (made_row m2).congr (fun i _ => by simp), made_row m3, made_row m4⟩)
    have HG := hid g
    have HN : Hid (w.heap.size = gd) := hgd
    rw [hgd]
    clear a4 r4 m1 m2 m3 m4 l1 l2 l3 l4 l5 n51 n52 n53 n54 n12 n13 n14 n23 n24 n34 hgd hW ZR AWW g CC CE M1 M2 M3 AL A0
    go_wp2
    go_loopw [5] (fun iv wr => ∃ c : Nat, c ≤ 6 ∧ iv = .int .i64 (c : Nat) ∧ LkI w gd g4 b1 b2 b3 b4 c wr) (fun iv _ => 6 - (intOf iv).toNat)
    case atStart => exact ⟨0, by omega, rfl, FI.out⟩
    case round =>
      obtain ⟨c, hc, rfl, F⟩ := hrel
      clear FI
      have FF := hid F
      clear F
      by_cases hc6 : c < 6
      · have hc' : (c : Int) < 6 := by omega
        have HC6 := hid hc6
        have AR : Hid (∀ v, Ab w v → Calls Tryd.prog 17 #[.pointer (some ⟨gb, 0, none⟩), .int .i64 (c : Nat)] v fun e w' => e = .returned (.int .i64 1431655765) ∧ Below v.heap.size v w') := fun v hv => by
          have h := gArea_ok (n := 1) (by decide) hc6 (HG.out.to hv)
          rwa [ar13 c hc6] at h
        clear hc6
        go_upto_region 8 with fail
        obtain ⟨UU, E, hF1, hF2⟩ := cls wr
        have HU := hid hF2
        have HU1 := hid hF1
        have x1 : ∀ u, (E u).cell? ⟨g4, 1, none⟩ = some (.slice (some ⟨b2, 0, none⟩) 6 6) := fun u => cell_of_row _ _ 1 _ _ _ (FF.out.to (hF1 u)).2.1
        have HX : Hid (∀ u, Ab w (E u)) := fun u => (FF.out.to (hF1 u)).1
        have DD0 := HU.out _ (Ab.refl wr).drew
        clear hF1 hF2
        refine region_tail 7 E (by kernel_rfl) (by kernel_rfl) (by kernel_rfl) DD0 ?_
        simp only [List.take_succ_cons, List.take_zero, List.drop_succ_cons, List.drop_zero]
        repeat (go_big_quiet_step (first
          | (with_reducible rfl)
          | (go_at_call 17; exact calls_cls HU HU1 (AR.out _ (HX.out _)))))
        refine wpQuiet_nil ?_
        intro vz hwz
        obtain ⟨u0, hu⟩ := hwz
        have AZ : Hid (Ab wr vz) := by rw [hu]; exact HU1.out u0
        clear hu u0
        clear HU HU1 HX DD0 x1
        clear E UU
        have FZ := hid (FF.out.to AZ.out)
        have z1 := FZ.out.2.2.2.2.1.cell HC6.out
        have z2 := FZ.out.2.2.2.2.1.frozen c
        go_upto_region 9 with fail
        have F2 := hid (FZ.out.set NN.out HL.out c 1431655765 (by rw [HN.out]; exact Nat.le_refl _))
        clear z1 z2 FZ FF AZ
        generalize World.setCell vz _ _ = v2 at *
        by_cases c1 : c = 1
        · subst c1
          have y1 := cell_of_row _ _ 1 _ _ _ F2.out.2.1
          have p1 : v2.cell? ⟨b2, 1, none⟩ = some (.int .i64 1431655765) := by rw [F2.out.2.2.2.2.1.cell HC6.out]; simp
          have p2 := F2.out.2.2.2.2.1.frozen 1
          go_upto_region 10 with fail
          clear y1 p1 p2
          obtain ⟨UU, E, hF1, hF2⟩ := cls v2
          have HU := hid hF2
          have HU1 := hid hF1
          have x1 : ∀ u, (E u).cell? ⟨g4, 1, none⟩ = some (.slice (some ⟨b2, 0, none⟩) 6 6) := fun u => cell_of_row _ _ 1 _ _ _ ((hF1 u).heap F2.out.2.1)
          have x2 : ∀ u, (E u).cell? ⟨b2, 1, none⟩ = some (.int .i64 1431655765) := fun u => by rw [(rowIs.ab F2.out.2.2.2.2.1 (hF1 u)).cell HC6.out]; simp
          have DD0 := HU.out _ (Ab.refl v2).drew
          clear hF1 hF2
          refine region_tail 10 E (by kernel_rfl) (by kernel_rfl) (by kernel_rfl) DD0 ?_
          simp only [List.take_succ_cons, List.take_zero, List.drop_succ_cons, List.drop_zero]
          repeat (go_big_quiet_step (with_reducible rfl))
          refine wpQuiet_nil ?_
          intro vz hwz
          obtain ⟨u0, hu⟩ := hwz
          have AZ : Hid (Ab v2 vz) := by rw [hu]; exact HU1.out u0
          clear hu u0
          clear HU HU1 DD0 x1 x2
          clear E UU
          have F3 := hid (F2.out.to2 AZ.out)
          have z1 := F3.out.2.2.2.2.1.cell HC6.out
          have z2 := F3.out.2.2.2.2.1.frozen 1
          go_wp2
          refine ⟨⟨2, by omega, by simp, ?_⟩, by simp [intOf]⟩
          exact (F3.out.set NN.out HL.out 1 2863311530 (by rw [HN.out]; exact Nat.le_refl _)).fin (fun i => by
            by_cases e : i = 1
            · simp [e, lkW]
            · by_cases e2 : i < 1
              · have : i < 2 := by omega
                simp [e, e2, this]
              · have : ¬ i < 2 := by omega
                simp [e, e2, this])
        · have c2 : ((c : Int) == 1) = false := by rw [beq_eq_false_iff_ne]; omega
          go_wp2
          refine ⟨⟨c + 1, by have := HC6.out; omega, by simp, ?_⟩, by simp [intOf]; have := HC6.out; omega⟩
          exact F2.out.fin (fun i => by
            by_cases e : i = c
            · subst e
              simp [lkW, c1]
            · by_cases l : i < c
              · simp [e, l, show i < c + 1 by omega]
              · simp [e, l, show ¬ i < c + 1 by omega])
      · have e6 : c = 6 := by omega
        subst e6
        have s0 := cell_of_row _ _ 0 _ _ _ FF.out.2.1
        have s1 := cell_of_row _ _ 1 _ _ _ FF.out.2.1
        have s2 := cell_of_row _ _ 2 _ _ _ FF.out.2.1
        have s3 := cell_of_row _ _ 3 _ _ _ FF.out.2.1
        have s4 := cell_of_row _ _ 4 _ _ _ FF.out.2.1
        have s5 := cell_of_row _ _ 5 _ _ _ FF.out.2.1
        have RZ := FF.out.2.2.1
        have t0 := cell_of_row _ _ 0 _ _ _ RZ
        have t1 := cell_of_row _ _ 1 _ _ _ RZ
        have t2 := cell_of_row _ _ 2 _ _ _ RZ
        have t3 := cell_of_row _ _ 3 _ _ _ RZ
        have t4 := cell_of_row _ _ 4 _ _ _ RZ
        have t5 := cell_of_row _ _ 5 _ _ _ RZ
        have f0 := free_row RZ 0
        have f1 := free_row RZ 1
        have f2 := free_row RZ 2
        have f3 := free_row RZ 3
        have f4 := free_row RZ 4
        have f5 := free_row RZ 5
        have ROW := hid (row6 (x := .slice (some ⟨b1, 0, none⟩) 6 6) (y := .slice (some ⟨b2, 0, none⟩) 6 6) (z := .slice (some ⟨b3, 0, none⟩) 6 6) (p := .slice (some ⟨b4, 0, none⟩) 12 12) (q := .int .i64 0) (r := .int .i64 0) RZ)
        clear RZ
        go_wp2
        have BN : Hid (b1 ≠ gd ∧ b2 ≠ gd ∧ b3 ≠ gd ∧ b4 ≠ gd) := by
          have := HL.out
          exact ⟨by omega, by omega, by omega, by omega⟩
        have G1 := FF.out.2.2.2.1
        have G2 := FF.out.2.2.2.2.1
        have G3 := FF.out.2.2.2.2.2.1
        have G4 := FF.out.2.2.2.2.2.2
        have GA := FF.out.1
        refine bodyPost_ret ?_ rfl ⟨b1, b2, b3, b4, rfl, ?_, ?_, ?_, ?_, ?_, ?_⟩
        · exact results_cell_row Tryd.results25 _ _ gd _ _ (0, 0) _ rfl ROW.out Tryd.underlying29 rfl (by kernel_rfl)
        · exact (((((GA.setk (by rw [HN.out]; omega) _).setk (by rw [HN.out]; omega) _).setk (by rw [HN.out]; omega) _).setk (by rw [HN.out]; omega) _).setk (by rw [HN.out]; omega) _).setk (by rw [HN.out]; omega) _
        · exact (((((G1.setOther BN.out.1 _).setOther BN.out.1 _).setOther BN.out.1 _).setOther BN.out.1 _).setOther BN.out.1 _).setOther BN.out.1 _
        · exact ((((((G2.congr (fun i hi => by simp [hi])).setOther BN.out.2.1 _).setOther BN.out.2.1 _).setOther BN.out.2.1 _).setOther BN.out.2.1 _).setOther BN.out.2.1 _).setOther BN.out.2.1 _
        · exact (((((G3.setOther BN.out.2.2.1 _).setOther BN.out.2.2.1 _).setOther BN.out.2.2.1 _).setOther BN.out.2.2.1 _).setOther BN.out.2.2.1 _).setOther BN.out.2.2.1 _
        · exact (((((G4.setOther BN.out.2.2.2 _).setOther BN.out.2.2.2 _).setOther BN.out.2.2.2 _).setOther BN.out.2.2.2 _).setOther BN.out.2.2.2 _).setOther BN.out.2.2.2 _
        · have := HL.out
          exact ⟨⟨by rw [HN.out]; omega, by rw [HN.out]; omega, by rw [HN.out]; omega, by rw [HN.out]; omega⟩, NN.out.2.1, NN.out.2.2.2.2.1, Ne.symm NN.out.2.2.2.1, NN.out.2.2.2.2.2, NN.out.2.2.1⟩
end Fc
end Go.Proofs.YtpfoohpncbkkfaaDoor

namespace Go.Proofs.YtpfoohpncbkkfaaDoor
open Go.RowKit Tf Cu Go.Deep
attribute [local go_sem] run_bits run_from raw_feq raw_fne raw_flt raw_fgt run_neg run_store_float
namespace Fc
theorem lvW_in (i : Nat) : -9223372036854775808 ≤ lvW i ∧ lvW i ≤ 9223372036854775807 := by
  unfold lvW lkW
  split
  · omega
  · split <;> omega
theorem same16 (x : Nat) (v : World) : Calls Tryd.prog 12 #[.float .f64 x, .float .f64 x] v fun e w' => e = .returned (.bool true) ∧ w' = v := by
  go_enter Tryd.func12, Tryd.ntmps12
  go_wp2
  go_ret
  exact ⟨rfl, rfl⟩
set_option maxRecDepth 100000 in
set_option maxHeartbeats 8000000 in
theorem lives16_at (OC : OpenC) (SC : SpeedsC) (w : World) (hF : Fr w) : Calls Tryd.prog 9 #[] w fun e w' => e = .returned (.bool true) ∧ Below w.heap.size w w' := by
  have NW := hid (new_at 1 w (by omega) hF)
  have HA := hid SC
  have HO := hid OC
  clear hF SC OC
  go_enter Tryd.func9, Tryd.ntmps9
  go_wp2_with fail
  refine NW.out.mono ?_
  rintro e v1 ⟨gb, rfl, a1, -, g1⟩
  have AW1 : Hid (Ab w v1) := a1
  have G1 : Hid (GridOf 1 gb v1) := g1
  clear a1 g1 NW
  have LK := hid (lake16_at v1 G1.out)
  go_wp2_with fail
  refine LK.out.mono ?_
  rintro e v2 ⟨b1, b2, b3, b4, rfl, k2, r1, r2, r3, r4, nb⟩
  have AV : Hid (Ab v1 (v2.alloc (.cells #[.slice (some ⟨b1, 0, none⟩) 6 6, .slice (some ⟨b2, 0, none⟩) 6 6, .slice (some ⟨b3, 0, none⟩) 6 6, .slice (some ⟨b4, 0, none⟩) 12 12, .int .i64 0, .int .i64 0] 29))) := Ab.alloc (show Ab v1 v2 from k2) _
  have SR : Hid ((v2.alloc (.cells #[.slice (some ⟨b1, 0, none⟩) 6 6, .slice (some ⟨b2, 0, none⟩) 6 6, .slice (some ⟨b3, 0, none⟩) 6 6, .slice (some ⟨b4, 0, none⟩) 12 12, .int .i64 0, .int .i64 0] 29)).heap[v2.heap.size]? = some (.cells #[.slice (some ⟨b1, 0, none⟩) 6 6, .slice (some ⟨b2, 0, none⟩) 6 6, .slice (some ⟨b3, 0, none⟩) 6 6, .slice (some ⟨b4, 0, none⟩) 12 12, .int .i64 0, .int .i64 0] 29)) := heap_alloc_new _ _
  have R1 := hid (r1.alloc (.cells #[.slice (some ⟨b1, 0, none⟩) 6 6, .slice (some ⟨b2, 0, none⟩) 6 6, .slice (some ⟨b3, 0, none⟩) 6 6, .slice (some ⟨b4, 0, none⟩) 12 12, .int .i64 0, .int .i64 0] 29))
  have R2 := hid (r2.alloc (.cells #[.slice (some ⟨b1, 0, none⟩) 6 6, .slice (some ⟨b2, 0, none⟩) 6 6, .slice (some ⟨b3, 0, none⟩) 6 6, .slice (some ⟨b4, 0, none⟩) 12 12, .int .i64 0, .int .i64 0] 29))
  have R4 := hid (r4.alloc (.cells #[.slice (some ⟨b1, 0, none⟩) 6 6, .slice (some ⟨b2, 0, none⟩) 6 6, .slice (some ⟨b3, 0, none⟩) 6 6, .slice (some ⟨b4, 0, none⟩) 12 12, .int .i64 0, .int .i64 0] 29))
  have NB : Hid (((v1.heap.size ≤ b1 ∧ v1.heap.size ≤ b2 ∧ v1.heap.size ≤ b3 ∧ v1.heap.size ≤ b4) ∧ b1 ≠ b2 ∧ b1 ≠ b4 ∧ b2 ≠ b4 ∧ b3 ≠ b4 ∧ b3 ≠ b2) ∧ v2.heap.size ≠ b1 ∧ v2.heap.size ≠ b2) := ⟨nb, by have := r1.lt; omega, by have := r2.lt; omega⟩
  clear k2 r1 r2 r3 r4 nb LK
  go_upto_region 5 with fail
  obtain ⟨gs, hgs⟩ : ∃ x, v2.heap.size = x := ⟨_, rfl⟩
  generalize hV : v2.alloc (.cells #[.slice (some ⟨b1, 0, none⟩) 6 6, .slice (some ⟨b2, 0, none⟩) 6 6, .slice (some ⟨b3, 0, none⟩) 6 6, .slice (some ⟨b4, 0, none⟩) 12 12, .int .i64 0, .int .i64 0] 29) = V at *
  rw [hgs] at SR NB
  rw [hgs]
  clear hV hgs
  have c0 := cell_of_row _ _ 0 _ _ _ SR.out
  have c1 := cell_of_row _ _ 1 _ _ _ SR.out
  have c2 := cell_of_row _ _ 2 _ _ _ SR.out
  have c3 := cell_of_row _ _ 3 _ _ _ SR.out
  have c4 := cell_of_row _ _ 4 _ _ _ SR.out
  have c5 := cell_of_row _ _ 5 _ _ _ SR.out
  have I1 := hid (rowIs.fl (f := fun _ => 0) R1.out (fun _ _ => by decide))
  have I2 := hid (rowIs.in R2.out (fun i _ => by unfold lkW; split <;> omega))
  have I4 := hid (rowIs.fl (f := fun _ => 0) R4.out (fun _ _ => by decide))
  have AL := hid ((HA.out 1 gb 1 4602678819172646912 4607182418800017408 0 0 false none 0 0 (some ⟨b1, 0, none⟩) 6 6 (fun _ => 0) (some ⟨b2, 0, none⟩) 6 6 lkW (some ⟨b3, 0, none⟩) 6 6 (some ⟨b4, 0, none⟩) 12 12 (fun _ => 0) 0 0 V (by omega) (G1.out.to AV.out) I1.out I2.out I4.out ⟨by decide, by decide, by decide⟩).1 ⟨rfl, rfl, rfl, rfl⟩)
  go_wp2_with fail
  refine AL.out.mono ?_
  rintro e9 v3 ⟨u, rfl, k3, o3⟩
  obtain ⟨bl, cap, Fl, rfl, hB, h1, h2, rl, hf⟩ := ownG_two (n := 12) o3 (by omega)
  have A3 : Hid (Ab v1 v3) := AV.out.call k3
  have S3 := hid (Ab.heap k3 SR.out)
  have T1 := hid (rowIs.ab R1.out k3)
  have T2 := hid (rowIs.ab R2.out k3)
  have T4 := hid (rowIs.ab R4.out k3)
  have N3 : Hid (bl ≠ b1 ∧ bl ≠ b2) := ⟨by have := R1.out.lt; omega, by have := R2.out.lt; omega⟩
  obtain ⟨l0, hl0⟩ : ∃ x, spE 1 4607182418800017408 4602678819172646912 0 (fun _ => 0) lkW (fun _ => 0) 0 = x := ⟨_, rfl⟩
  have d0 : flt l0 0 = true := by rw [← hl0]; exact lf_0
  have E0 : Hid (v3.cell? ⟨bl, 0, none⟩ = some (.float .f64 l0)) := by
    have h := rl.cell (i := 0) (by omega)
    rw [hf 0 (by omega), hl0] at h
    exact h
  have E1 : Hid (v3.cell? ⟨bl, 1, none⟩ = some (.float .f64 0)) := by
    have h := rl.cell (i := 1) (by omega)
    rw [hf 1 (by omega), lf_1] at h
    exact h
  clear o3 hB h2 rl hf k3 AL hl0 I1 I2 I4 R1 R2 R4 SR AV c0 c1 c2 c3 c4 c5
  have c0 := cell_of_row _ _ 0 _ _ _ S3.out
  have x1 := E1.out
  go_wp2_with fail
  refine (same16 0 _).mono ?_
  rintro e9 v4 ⟨rfl, hv⟩
  have hv2 := hv.symm
  subst hv2
  clear c0 x1
  have c0 := cell_of_row _ _ 0 _ _ _ S3.out
  have y1 := T1.out.cell (i := 0) (by decide)
  have z1 := T1.out.frozen 0
  go_upto_region 10 with fail
  clear c0 y1 z1
  have S4 : Hid ((v3.setCell ⟨b1, 0, none⟩ (.float .f64 4613937818241073152)).heap[gs]? = some (.cells #[.slice (some ⟨b1, 0, none⟩) 6 6, .slice (some ⟨b2, 0, none⟩) 6 6, .slice (some ⟨b3, 0, none⟩) 6 6, .slice (some ⟨b4, 0, none⟩) 12 12, .int .i64 0, .int .i64 0] 29)) := by show _ = _; rw [heap_set_ne NB.out.2.1]; exact S3.out
  have A4 : Hid (Ab v1 (v3.setCell ⟨b1, 0, none⟩ (.float .f64 4613937818241073152))) := A3.out.setk NB.out.1.1.1 _
  have U1 := hid ((T1.out.set 0 (.float .f64 4613937818241073152)).congr (g := fun i => .float .f64 (lvB i)) (fun i _ => by unfold lvB; by_cases e : i = 0 <;> simp [e]))
  have U2 := hid (T2.out.setOther (a := ⟨b1, 0, none⟩) (Ne.symm NB.out.1.2.1) (.float .f64 4613937818241073152))
  have U4 := hid (T4.out.setOther (a := ⟨b1, 0, none⟩) (Ne.symm NB.out.1.2.2.1) (.float .f64 4613937818241073152))
  have F0 : Hid ((v3.setCell ⟨b1, 0, none⟩ (.float .f64 4613937818241073152)).cell? ⟨bl, 0, none⟩ = some (.float .f64 l0)) := by
    show _ = _
    rw [← E0.out]
    exact World.cell?_of_block (Below.heap_setCell _ _ _ _ N3.out.1)
  clear S3 A3 T1 T2 T4 E0 E1
  generalize World.setCell v3 _ _ = v5 at *
  have c0 := cell_of_row _ _ 1 _ _ _ S4.out
  have y1 := U2.out.cell (i := 0) (by decide)
  have z1 := U2.out.frozen 0
  go_upto_region 11 with fail
  clear c0 y1 z1
  have S5 : Hid ((v5.setCell ⟨b2, 0, none⟩ (.int .i64 0)).heap[gs]? = some (.cells #[.slice (some ⟨b1, 0, none⟩) 6 6, .slice (some ⟨b2, 0, none⟩) 6 6, .slice (some ⟨b3, 0, none⟩) 6 6, .slice (some ⟨b4, 0, none⟩) 12 12, .int .i64 0, .int .i64 0] 29)) := by show _ = _; rw [heap_set_ne NB.out.2.2]; exact S4.out
  have A5 : Hid (Ab v1 (v5.setCell ⟨b2, 0, none⟩ (.int .i64 0))) := A4.out.setk NB.out.1.1.2.1 _
  have V1 := hid (U1.out.setOther (a := ⟨b2, 0, none⟩) NB.out.1.2.1 (.int .i64 0))
  have V2 := hid ((U2.out.set 0 (.int .i64 0)).congr (g := fun i => .int .i64 (lvW i)) (fun i _ => by unfold lvW; by_cases e : i = 0 <;> simp [e]))
  have H0 : Hid ((v5.setCell ⟨b2, 0, none⟩ (.int .i64 0)).cell? ⟨bl, 0, none⟩ = some (.float .f64 l0)) := by
    show _ = _
    rw [← F0.out]
    exact World.cell?_of_block (Below.heap_setCell _ _ _ _ N3.out.2)
  have V4 := hid (U4.out.setOther (a := ⟨b2, 0, none⟩) (Ne.symm NB.out.1.2.2.2.1) (.int .i64 0))
  clear S4 A4 U1 U2 U4 F0 N3
  generalize World.setCell v5 _ _ = v6 at *
  have J1 : Hid (∀ v, Ab v6 v → IsFl v (some ⟨b1, 0, none⟩) 6 lvB) := fun v hv => rowIs.fl (rowIs.ab V1.out hv) (fun i _ => by unfold lvB; split <;> decide)
  have J2 : Hid (∀ v, Ab v6 v → IsIn v (some ⟨b2, 0, none⟩) 6 lvW) := fun v hv => rowIs.in (rowIs.ab V2.out hv) (fun i _ => lvW_in i)
  have J4 : Hid (∀ v, Ab v6 v → ∃ Sp, IsFl v (some ⟨b4, 0, none⟩) 12 Sp) := fun v hv => ⟨fun _ => 0, rowIs.fl (rowIs.ab V4.out hv) (fun i _ => by decide)⟩
  have O1 : Hid (∀ v, Ab v6 v → Calls Tryd.prog 15 #[.pointer (some ⟨gb, 0, none⟩), .agg #[.slice (some ⟨b1, 0, none⟩) 6 6, .slice (some ⟨b2, 0, none⟩) 6 6, .slice (some ⟨b3, 0, none⟩) 6 6, .slice (some ⟨b4, 0, none⟩) 12 12, .int .i64 0, .int .i64 0], .int .i64 0] v fun x w' => x = .returned (.bool false) ∧ Below v.heap.size v w') := fun v hv => by
    have h := (HO.out 1 gb (some ⟨b1, 0, none⟩) 6 6 lvB (some ⟨b2, 0, none⟩) 6 6 lvW (some ⟨b3, 0, none⟩) 6 6 (some ⟨b4, 0, none⟩) 12 12 0 0 0 v (by omega) (G1.out.to (A5.out.trans hv)) (J1.out v hv) (J2.out v hv) (J4.out v hv) (by omega)).1 ⟨⟨rfl, rfl, rfl, rfl⟩, by decide⟩
    rw [show (0 : Int).toNat = 0 from rfl, lf_2] at h
    exact h
  have O2 : Hid (∀ v, Ab v6 v → Calls Tryd.prog 15 #[.pointer (some ⟨gb, 0, none⟩), .agg #[.slice (some ⟨b1, 0, none⟩) 6 6, .slice (some ⟨b2, 0, none⟩) 6 6, .slice (some ⟨b3, 0, none⟩) 6 6, .slice (some ⟨b4, 0, none⟩) 12 12, .int .i64 0, .int .i64 0], .int .i64 4] v fun x w' => x = .returned (.bool true) ∧ Below v.heap.size v w') := fun v hv => by
    have h := (HO.out 1 gb (some ⟨b1, 0, none⟩) 6 6 lvB (some ⟨b2, 0, none⟩) 6 6 lvW (some ⟨b3, 0, none⟩) 6 6 (some ⟨b4, 0, none⟩) 12 12 0 0 4 v (by omega) (G1.out.to (A5.out.trans hv)) (J1.out v hv) (J2.out v hv) (J4.out v hv) (by omega)).1 ⟨⟨rfl, rfl, rfl, rfl⟩, by decide⟩
    rw [show (4 : Int).toNat = 4 from rfl, lf_3] at h
    exact h
  have x0 := H0.out
  have c0 := cell_of_row _ _ 0 _ _ _ S5.out
  have c1 := cell_of_row _ _ 1 _ _ _ S5.out
  have c2 := cell_of_row _ _ 2 _ _ _ S5.out
  have c3 := cell_of_row _ _ 3 _ _ _ S5.out
  have c4 := cell_of_row _ _ 4 _ _ _ S5.out
  have c5 := cell_of_row _ _ 5 _ _ _ S5.out
  go_wp2_with fail
  refine (O1.out _ (Ab.refl _)).mono ?_
  rintro e9 v7 ⟨rfl, k7⟩
  have A7 : Hid (Ab v6 v7) := k7
  have S7 := hid (Ab.heap k7 S5.out)
  clear k7 c0 c1 c2 c3 c4 c5 x0
  have c0 := cell_of_row _ _ 0 _ _ _ S7.out
  have c1 := cell_of_row _ _ 1 _ _ _ S7.out
  have c2 := cell_of_row _ _ 2 _ _ _ S7.out
  have c3 := cell_of_row _ _ 3 _ _ _ S7.out
  have c4 := cell_of_row _ _ 4 _ _ _ S7.out
  have c5 := cell_of_row _ _ 5 _ _ _ S7.out
  go_wp2_with fail
  refine (O2.out _ A7.out).mono ?_
  rintro e9 v8 ⟨rfl, k8⟩
  have A8 : Hid (Ab v6 v8) := A7.out.call k8
  clear k8 c0 c1 c2 c3 c4 c5
  go_wp2
  go_ret
  exact ⟨rfl, AW1.out.trans (A5.out.trans A8.out)⟩
end Fc
end Go.Proofs.YtpfoohpncbkkfaaDoor
