/-
  For every two floats, of any bits, and every whole number of 64 bits, the call of the statement on order returns true and leaves its arguments as they were.
-/
import Derived.Test.YtpncpbpdbdlamaaRows
import Derived.Test.YtpncpbpdbdlamaaWt
import Derived.Test.YtpncpbpdbdlamaaPo
import Derived.ProofKit
import Derived.OpenShut
import Derived.WalkLawsBesides
namespace Go.Proofs.Ytpncpbpdbdlamaa.convOrderDone
open Go.ChangeShapes Go.WideShapes Go.ChangeAt Go.RowKit

theorem own : ownKnob Try.prog.godebug = none := by kernel_rfl

open Tf
attribute [local go_sem] run_bits run_from raw_feq raw_fne raw_flt raw_fgt run_neg
set_option maxHeartbeats 2000000 in
theorem no (x y : Nat) (most : Int) (w : World) (c1 : flt x y = false) (c2 : feq x y = false) :
    Calls Try.prog 7 #[.float .f64 x, .float .f64 y, .int .i64 most] w fun e w' => e = .returned (.bool true) ∧ ∃ n, w' = w.drewN n := by
  go_enter Try.func7, Try.ntmps7
  go_wp2_with fail
  refine (awake_any _).mono ?_
  rintro e w' ⟨rfl, k, rfl⟩
  go_wp2
  go_ret
  exact ⟨rfl, _, rfl⟩

set_option maxHeartbeats 2000000 in
theorem cF (x y : Nat) (most : Int) (w : World) (hx : x < 18446744073709551616) (hy : y < 18446744073709551616) (hm : most ≤ 9223372036854775807) (hc : (flt x y || feq x y) = true) (n m f g : Int) (f1 g1 : Bool) (a3 : Hid (cI .down x = f)) (a4 : Hid (cOk .down x = f1)) (b3 : Hid (cI .down y = g)) (b4 : Hid (cOk .down y = g1)) (i j : Int) (hi : Hid (clampB x most = i)) (hj : Hid (clampB y most = j)) (hij : i ≤ j) (s t c d : Nat) (u v a b : Nat) (hs : Hid (to32B x = s)) (ls : s < 4294967296) (ht : Hid (to32B y = t)) (lt : t < 4294967296) (hu : Hid (to16B x = u)) (lu : u < 65536) (hv : Hid (to16B y = v)) (lv : v < 65536) (hcc : Hid (from32B s = c)) (hdd : Hid (from32B t = d)) (haa : Hid (from16B u = a)) (hbb : Hid (from16B v = b)) (o1 : (flt c d || feq c d) = true) (o2 : (flt a b || feq a b) = true) (q : Bool) (a1 : Hid (cI .even x = n)) (a2 : Hid (cOk .even x = false)) (b1 : Hid (cI .even y = m)) (b2 : Hid (cOk .even y = q))  :
    Calls Try.prog 7 #[.float .f64 x, .float .f64 y, .int .i64 most] w fun e w' => e = .returned (.bool true) ∧ ∃ n, w' = w.drewN n := by
  go_enter Try.func7, Try.ntmps7
  go_wp2_with fail
  refine (awake_any _).mono ?_
  rintro e w' ⟨rfl, k, rfl⟩
  go_wp2_with fail
  refine (round_at x n false _ hx a1.out a2.out).mono ?_
  rintro e w' ⟨rfl, k, rfl⟩
  go_wp2_with fail
  refine (round_at y m q _ hy b1.out b2.out).mono ?_
  rintro e w' ⟨rfl, k, rfl⟩
  go_wp2_with fail
  refine (floor_at x f f1 _ hx a3.out a4.out).mono ?_
  rintro e w' ⟨rfl, k, rfl⟩
  go_wp2_with fail
  refine (floor_at y g g1 _ hy b3.out b4.out).mono ?_
  rintro e w' ⟨rfl, k, rfl⟩
  go_wp2_with fail
  refine (clamp_at x most i _ hx hm hi.out).mono ?_
  rintro e w' ⟨rfl, k, rfl⟩
  go_wp2_with fail
  refine (clamp_at y most j _ hy hm hj.out).mono ?_
  rintro e w' ⟨rfl, k, rfl⟩
  go_wp2_with fail
  refine (to32_all x s _ hx hs.out).mono ?_
  rintro e w' ⟨rfl, rfl⟩
  go_wp2_with fail
  refine (from32_at (s : Int) c _ (by omega) (by omega) (by rw [Int.toNat_natCast]; exact hcc.out)).mono ?_
  rintro e w' ⟨rfl, k, rfl⟩
  go_wp2_with fail
  refine (to32_all y t _ hy ht.out).mono ?_
  rintro e w' ⟨rfl, rfl⟩
  go_wp2_with fail
  refine (from32_at (t : Int) d _ (by omega) (by omega) (by rw [Int.toNat_natCast]; exact hdd.out)).mono ?_
  rintro e w' ⟨rfl, k, rfl⟩
  go_wp2_with fail
  refine (to16_at x u _ hx hu.out).mono ?_
  rintro e w' ⟨rfl, rfl⟩
  go_wp2_with fail
  refine (from16_at (u : Int) a _ (by omega) (by omega) (by rw [Int.toNat_natCast]; exact haa.out)).mono ?_
  rintro e w' ⟨rfl, rfl⟩
  go_wp2_with fail
  refine (to16_at y v _ hy hv.out).mono ?_
  rintro e w' ⟨rfl, rfl⟩
  go_wp2_with fail
  refine (from16_at (v : Int) b _ (by omega) (by omega) (by rw [Int.toNat_natCast]; exact hbb.out)).mono ?_
  rintro e w' ⟨rfl, rfl⟩
  go_wp2
  go_ret
  exact ⟨rfl, _, rfl⟩

set_option maxHeartbeats 2000000 in
theorem cTF (x y : Nat) (most : Int) (w : World) (hx : x < 18446744073709551616) (hy : y < 18446744073709551616) (hm : most ≤ 9223372036854775807) (hc : (flt x y || feq x y) = true) (n m f g : Int) (f1 g1 : Bool) (a3 : Hid (cI .down x = f)) (a4 : Hid (cOk .down x = f1)) (b3 : Hid (cI .down y = g)) (b4 : Hid (cOk .down y = g1)) (i j : Int) (hi : Hid (clampB x most = i)) (hj : Hid (clampB y most = j)) (hij : i ≤ j) (s t c d : Nat) (u v a b : Nat) (hs : Hid (to32B x = s)) (ls : s < 4294967296) (ht : Hid (to32B y = t)) (lt : t < 4294967296) (hu : Hid (to16B x = u)) (lu : u < 65536) (hv : Hid (to16B y = v)) (lv : v < 65536) (hcc : Hid (from32B s = c)) (hdd : Hid (from32B t = d)) (haa : Hid (from16B u = a)) (hbb : Hid (from16B v = b)) (o1 : (flt c d || feq c d) = true) (o2 : (flt a b || feq a b) = true) (a1 : Hid (cI .even x = n)) (a2 : Hid (cOk .even x = true)) (b1 : Hid (cI .even y = m)) (b2 : Hid (cOk .even y = false))  :
    Calls Try.prog 7 #[.float .f64 x, .float .f64 y, .int .i64 most] w fun e w' => e = .returned (.bool true) ∧ ∃ n, w' = w.drewN n := by
  go_enter Try.func7, Try.ntmps7
  go_wp2_with fail
  refine (awake_any _).mono ?_
  rintro e w' ⟨rfl, k, rfl⟩
  go_wp2_with fail
  refine (round_at x n true _ hx a1.out a2.out).mono ?_
  rintro e w' ⟨rfl, k, rfl⟩
  go_wp2_with fail
  refine (round_at y m false _ hy b1.out b2.out).mono ?_
  rintro e w' ⟨rfl, k, rfl⟩
  go_wp2_with fail
  refine (floor_at x f f1 _ hx a3.out a4.out).mono ?_
  rintro e w' ⟨rfl, k, rfl⟩
  go_wp2_with fail
  refine (floor_at y g g1 _ hy b3.out b4.out).mono ?_
  rintro e w' ⟨rfl, k, rfl⟩
  go_wp2_with fail
  refine (clamp_at x most i _ hx hm hi.out).mono ?_
  rintro e w' ⟨rfl, k, rfl⟩
  go_wp2_with fail
  refine (clamp_at y most j _ hy hm hj.out).mono ?_
  rintro e w' ⟨rfl, k, rfl⟩
  go_wp2_with fail
  refine (to32_all x s _ hx hs.out).mono ?_
  rintro e w' ⟨rfl, rfl⟩
  go_wp2_with fail
  refine (from32_at (s : Int) c _ (by omega) (by omega) (by rw [Int.toNat_natCast]; exact hcc.out)).mono ?_
  rintro e w' ⟨rfl, k, rfl⟩
  go_wp2_with fail
  refine (to32_all y t _ hy ht.out).mono ?_
  rintro e w' ⟨rfl, rfl⟩
  go_wp2_with fail
  refine (from32_at (t : Int) d _ (by omega) (by omega) (by rw [Int.toNat_natCast]; exact hdd.out)).mono ?_
  rintro e w' ⟨rfl, k, rfl⟩
  go_wp2_with fail
  refine (to16_at x u _ hx hu.out).mono ?_
  rintro e w' ⟨rfl, rfl⟩
  go_wp2_with fail
  refine (from16_at (u : Int) a _ (by omega) (by omega) (by rw [Int.toNat_natCast]; exact haa.out)).mono ?_
  rintro e w' ⟨rfl, rfl⟩
  go_wp2_with fail
  refine (to16_at y v _ hy hv.out).mono ?_
  rintro e w' ⟨rfl, rfl⟩
  go_wp2_with fail
  refine (from16_at (v : Int) b _ (by omega) (by omega) (by rw [Int.toNat_natCast]; exact hbb.out)).mono ?_
  rintro e w' ⟨rfl, rfl⟩
  go_wp2
  go_ret
  exact ⟨rfl, _, rfl⟩

set_option maxHeartbeats 2000000 in
theorem cTT (x y : Nat) (most : Int) (w : World) (hx : x < 18446744073709551616) (hy : y < 18446744073709551616) (hm : most ≤ 9223372036854775807) (hc : (flt x y || feq x y) = true) (n m f g : Int) (f1 g1 : Bool) (a3 : Hid (cI .down x = f)) (a4 : Hid (cOk .down x = f1)) (b3 : Hid (cI .down y = g)) (b4 : Hid (cOk .down y = g1)) (i j : Int) (hi : Hid (clampB x most = i)) (hj : Hid (clampB y most = j)) (hij : i ≤ j) (s t c d : Nat) (u v a b : Nat) (hs : Hid (to32B x = s)) (ls : s < 4294967296) (ht : Hid (to32B y = t)) (lt : t < 4294967296) (hu : Hid (to16B x = u)) (lu : u < 65536) (hv : Hid (to16B y = v)) (lv : v < 65536) (hcc : Hid (from32B s = c)) (hdd : Hid (from32B t = d)) (haa : Hid (from16B u = a)) (hbb : Hid (from16B v = b)) (o1 : (flt c d || feq c d) = true) (o2 : (flt a b || feq a b) = true) (a1 : Hid (cI .even x = n)) (a2 : Hid (cOk .even x = true)) (b1 : Hid (cI .even y = m)) (b2 : Hid (cOk .even y = true)) (k1 : n ≤ m) (k2 : f ≤ g) :
    Calls Try.prog 7 #[.float .f64 x, .float .f64 y, .int .i64 most] w fun e w' => e = .returned (.bool true) ∧ ∃ n, w' = w.drewN n := by
  go_enter Try.func7, Try.ntmps7
  go_wp2_with fail
  refine (awake_any _).mono ?_
  rintro e w' ⟨rfl, k, rfl⟩
  go_wp2_with fail
  refine (round_at x n true _ hx a1.out a2.out).mono ?_
  rintro e w' ⟨rfl, k, rfl⟩
  go_wp2_with fail
  refine (round_at y m true _ hy b1.out b2.out).mono ?_
  rintro e w' ⟨rfl, k, rfl⟩
  go_wp2_with fail
  refine (floor_at x f f1 _ hx a3.out a4.out).mono ?_
  rintro e w' ⟨rfl, k, rfl⟩
  go_wp2_with fail
  refine (floor_at y g g1 _ hy b3.out b4.out).mono ?_
  rintro e w' ⟨rfl, k, rfl⟩
  go_wp2_with fail
  refine (clamp_at x most i _ hx hm hi.out).mono ?_
  rintro e w' ⟨rfl, k, rfl⟩
  go_wp2_with fail
  refine (clamp_at y most j _ hy hm hj.out).mono ?_
  rintro e w' ⟨rfl, k, rfl⟩
  go_wp2_with fail
  refine (to32_all x s _ hx hs.out).mono ?_
  rintro e w' ⟨rfl, rfl⟩
  go_wp2_with fail
  refine (from32_at (s : Int) c _ (by omega) (by omega) (by rw [Int.toNat_natCast]; exact hcc.out)).mono ?_
  rintro e w' ⟨rfl, k, rfl⟩
  go_wp2_with fail
  refine (to32_all y t _ hy ht.out).mono ?_
  rintro e w' ⟨rfl, rfl⟩
  go_wp2_with fail
  refine (from32_at (t : Int) d _ (by omega) (by omega) (by rw [Int.toNat_natCast]; exact hdd.out)).mono ?_
  rintro e w' ⟨rfl, k, rfl⟩
  go_wp2_with fail
  refine (to16_at x u _ hx hu.out).mono ?_
  rintro e w' ⟨rfl, rfl⟩
  go_wp2_with fail
  refine (from16_at (u : Int) a _ (by omega) (by omega) (by rw [Int.toNat_natCast]; exact haa.out)).mono ?_
  rintro e w' ⟨rfl, rfl⟩
  go_wp2_with fail
  refine (to16_at y v _ hy hv.out).mono ?_
  rintro e w' ⟨rfl, rfl⟩
  go_wp2_with fail
  refine (from16_at (v : Int) b _ (by omega) (by omega) (by rw [Int.toNat_natCast]; exact hbb.out)).mono ?_
  rintro e w' ⟨rfl, rfl⟩
  go_wp2
  go_ret
  exact ⟨rfl, _, rfl⟩

theorem walk (a0 : Nat) (a1 : Nat) (a2 : Int) (w0 : (Lit.float .f64 a0).wf = true) (w1 : (Lit.float .f64 a1).wf = true) (w2 : (Lit.int .i64 a2).wf = true) (w : World) :
    Calls Try.prog 7 #[.float .f64 a0, .float .f64 a1, .int .i64 a2] w fun e w' => e = .returned (.bool true) ∧ Grown w w' := by
  have hx := lit_lt w0
  have hy := lit_lt w1
  have hm := w2
  simp only [Lit.wf, Bool.and_eq_true, decide_eq_true_eq] at hm
  have q2 : IntKind.i64.max = 9223372036854775807 := by decide
  rw [q2] at hm
  have key : Calls Try.prog 7 #[.float .f64 a0, .float .f64 a1, .int .i64 a2] w fun e w' => e = .returned (.bool true) ∧ ∃ n, w' = w.drewN n := by
    cases hc : (flt a0 a1 || feq a0 a1)
    · rw [Bool.or_eq_false_iff] at hc
      exact no a0 a1 a2 w hc.1 hc.2
    · have hc' := hc
      rw [flt_rk a0 a1 hx hy, feq_rk a0 a1 hx hy] at hc'
      have hnn : isN a0 = false ∧ isN a1 = false ∧ rk a0 ≤ rk a1 := by
        cases n0 : isN a0
        · cases n1 : isN a1
          · rw [n0, n1] at hc'
            simp only [Bool.not_false, Bool.and_self, Bool.true_and, Bool.or_eq_true, decide_eq_true_eq] at hc'
            exact ⟨rfl, rfl, by omega⟩
          · rw [n1] at hc'; simp at hc'
        · rw [n0] at hc'; simp at hc'
      obtain ⟨n0, n1, hr⟩ := hnn
      have hs := (sv_le_iff a0 a1).2 hr
      have le3 : ∀ c d, c < 18446744073709551616 → d < 18446744073709551616 → isN c = false → isN d = false → rk c ≤ rk d → (flt c d || feq c d) = true := by
        intro c d hc hd nc nd h
        rw [flt_rk c d hc hd, feq_rk c d hc hd, nc, nd]
        simp only [Bool.not_false, Bool.and_self, Bool.true_and, Bool.or_eq_true, decide_eq_true_eq]
        omega
      have N32 : ∀ x, isN x = false → isN (from32B (to32B x)) = false := fun x n => by rw [over32 x n]; exact (word_parts _ _ (E32_le _ (t32_le x))).2.2.1
      have N16 : ∀ x, isN x = false → isN (from16B (to16B x)) = false := fun x n => by rw [over16 x n]; exact (word_parts _ _ (E16_le _ (t16_le x))).2.2.1
      have o1 := le3 _ _ (from32B_lt (to32B a0)) (from32B_lt (to32B a1)) (N32 a0 n0) (N32 a1 n1) (over32_mono a0 a1 n0 n1 hr)
      have o2 := le3 _ _ (from16B_lt (to16B a0)) (from16B_lt (to16B a1)) (N16 a0 n0) (N16 a1 n1) (over16_mono a0 a1 n0 n1 hr)
      have hij := clampB_mono a0 a1 a2 hx hy n0 n1 hr
      cases p : cOk .even a0
      · exact cF a0 a1 a2 w hx hy hm.2 hc _ _ _ _ _ _ rfl rfl rfl rfl _ _ rfl rfl hij _ _ _ _ _ _ _ _ rfl (to32B_lt _) rfl (to32B_lt _) rfl (to16B_lt _) rfl (to16B_lt _) rfl rfl rfl rfl o1 o2 _ rfl p rfl rfl
      · cases q : cOk .even a1
        · exact cTF a0 a1 a2 w hx hy hm.2 hc _ _ _ _ _ _ rfl rfl rfl rfl _ _ rfl rfl hij _ _ _ _ _ _ _ _ rfl (to32B_lt _) rfl (to32B_lt _) rfl (to16B_lt _) rfl (to16B_lt _) rfl rfl rfl rfl o1 o2 rfl p rfl q
        · have p2 : cOk .down a0 = true := by rw [cOk_wOk .down a0 hx, ← cOk_wOk .even a0 hx]; exact p
          have q2 : cOk .down a1 = true := by rw [cOk_wOk .down a1 hy, ← cOk_wOk .even a1 hy]; exact q
          have k1 := cq_even_mono hs
          have k2 := cq_down_mono hs
          exact cTT a0 a1 a2 w hx hy hm.2 hc _ _ _ _ _ _ (cI_eq .down a0 p2) rfl (cI_eq .down a1 q2) rfl _ _ rfl rfl hij _ _ _ _ _ _ _ _ rfl (to32B_lt _) rfl (to32B_lt _) rfl (to16B_lt _) rfl (to16B_lt _) rfl rfl rfl rfl o1 o2 (cI_eq .even a0 p) p (cI_eq .even a1 q) q k1 k2
  exact key.mono fun e w' ⟨h1, n, h2⟩ => ⟨h1, by rw [h2]; exact Grown.refl _⟩

set_option maxRecDepth 100000 in
theorem lifted (os : Os) (started : os.Started) (H : Type) (enc : TypeId × Value → H) :
    ReturnsInHanded {} Try.checked os 7 .any (Rows.convOrderSpec.pre6 enc Try.prog Try.f7 Rows.convOrderRow.domain false) (Rows.convOrderSpec.post enc Try.prog Try.f7 false true false false) := by
  refine returnsInHanded_of_change (C := Try.checked) own started (by kernel_rfl) Try.func7
    (ChangeSpec.witness6 (enc := enc) (C := Try.checked) false ⟨#[], #[.float .f64 0, .float .f64 0, .int .i64 0], []⟩ 8 (by kernel_rfl) (by kernel_rfl) (by kernel_rfl) (by kernel_rfl)) ?_
  intro W base args ds gs before hval0 hW hcnd _
  have hval : ∀ (j : Nat) t v, Try.f7.params[j]? = some t → args[j]? = some v → Value.okWide Try.prog W .any base t v := hval0
  have hW' := hW
  obtain ⟨p, q, hA0, hV, rfl, hfz, hnd⟩ := hW
  have hA : DataW.TrodAll enc Try.prog W 0 (fun _ => true) true Try.f7.params.toList args.toList ds p := hA0
  rw [Try.params7] at hA hval
  obtain ⟨v0, vs0, d0, ds0, p0, q0, hargs, rfl, rfl, h0, r0⟩ := trodAll_cons hA
  obtain ⟨v1, vs1, d1, ds1, p1, q1, rfl, rfl, rfl, h1, r1⟩ := trodAll_cons r0
  obtain ⟨v2, vs2, d2, ds2, p2, q2, rfl, rfl, rfl, h2, r2⟩ := trodAll_cons r1
  obtain ⟨rfl, rfl, rfl⟩ := trodAll_nil r2
  obtain rfl : args = #[v0, v1, v2] := by cases args; simp_all
  obtain ⟨rfl, rfl⟩ := trodVars_none hV
  obtain ⟨a0, rfl, rfl, rfl, w0⟩ := open_float Try.underlying24 (hval 0 24 v0 rfl rfl) h0
  obtain ⟨a1, rfl, rfl, rfl, w1⟩ := open_float Try.underlying24 (hval 1 24 v1 rfl rfl) h1
  obtain ⟨a2, rfl, rfl, rfl, w2⟩ := open_int Try.underlying2 (hval 2 2 v2 rfl rfl) h2
  clear hA0 hval0
  simp only [List.append_nil] at hW'
  refine (walk a0 a1 a2 w0 w1 w2 W).mono fun e W' ⟨he, hg⟩ => ?_
  subst he
  exact ⟨_, rfl, post_of_same (pa := []) (pv := []) hW' (fun _ _ _ => (trodAll_cons_mk (shut_bool Try.underlying4 _) trodAll_mk0)) (fun sp _ => (trodAll_cons_mk (shut_float Try.underlying24 w0) (trodAll_cons_mk (shut_float Try.underlying24 w1) (trodAll_cons_mk (shut_int Try.underlying2 w2) trodAll_mk0)))) (fun _ _ => rfl) rfl
    (hg.frame _) hg.2.1 (ok_one (by kernel_rfl) rfl (okWide_bool_mk Try.underlying4 _))⟩

theorem over : Rows.convOrderRow.holds Try.pinned (OpenSpec.ofChange Rows.convOrderSpec) :=
  OpenClaim.holds_of_wide 7 Try.f7 rfl rfl rfl rfl rfl rfl rfl ⟨rfl, rfl, rfl, rfl, rfl⟩ rfl rfl rfl rfl rfl (by kernel_rfl) Try.func7 (by kernel_rfl)
    (of_decide_eq_true (by kernel_rfl)) (by unfold Func.isWrapper; first | (rw [if_pos (by decide +kernel)]; kernel_rfl) | (rw [if_neg (by decide +kernel)]; exact ⟨rfl, rfl⟩))
    (fun os started H enc _ => lifted os started H enc)

end Go.Proofs.Ytpncpbpdbdlamaa.convOrderDone
namespace Go.Proofs.Ytpncpbpdbdlamaa
theorem convOrder_holds : Rows.ConvOrderSaid := convOrderDone.over
#print axioms convOrder_holds
end Go.Proofs.Ytpncpbpdbdlamaa
