/-
  Some of the texts of this proof, one behind the other.
-/
import Derived.Test.YthdcfhaeiekpcaaY09
import Derived.Test.YthdcfhaeiekpcaaY08
import Derived.Test.YthdcfhaeiekpcaaY04
import Derived.Deep.QuietTactic
/-
  FromInt, To32, To16, From32 and From16 of the reference of layer 2 answer what the code's do: walks over the program.
-/
namespace Go.Proofs.Ythdcfhaeiekpcaa.Ref2
open Go.RowKit Tf
attribute [local go_sem] run_bits run_from raw_feq raw_fne raw_flt raw_fgt run_neg

theorem rung_units (p m : Nat) (e least : Int) (he : -1074 ≤ e) (hl : -1074 ≤ least) : rung p (least + 1074).toNat (m * 2 ^ (e + 1074).toNat) = rung p (least - e).toNat (m * 2 ^ (e - least).toNat) := by
  obtain ⟨c, hc⟩ : ∃ c : Nat, min e least + 1074 = (c : Int) := ⟨(min e least + 1074).toNat, by omega⟩
  have h1 : (least + 1074).toNat = (least - e).toNat + c := by omega
  have h2 : (e + 1074).toNat = (e - least).toNat + c := by omega
  rw [h1, h2, Nat.pow_add, ← Nat.mul_assoc, rung_scale]

theorem small52 (m : Nat) (e : Int) (r : Nat) (w : World) (hm : m ≤ 9223372036854775808) (e0 : -1074 ≤ e) (e1 : e ≤ 900) (hr : min (rung 52 0 (m * 2 ^ (e + 1074).toNat)) 9218868437227405312 = r) :
    Calls Try.prog 24 #[.int .u64 (m : Nat), .int .i64 e, .int .i64 52, .int .i64 (-1074), .int .u64 9218868437227405312] w fun e w' => e = .returned (.int .u64 (r : Nat)) ∧ w' = w := by
  refine small_at m 52 9218868437227405312 e (-1074) r w hm (.inr e0) (by decide) (by omega) (by omega) (by decide) (by decide) (fun u hu => by omega) ?_
  have h1 : ((-1074 : Int) - e).toNat = 0 := by omega
  have h2 : (e - (-1074)).toNat = (e + 1074).toNat := by omega
  rw [h1, h2]; exact hr
theorem small23 (m : Nat) (e : Int) (r : Nat) (w : World) (hm : m < 9007199254740992) (e0 : -1074 ≤ e) (e1 : e ≤ 971) (hr : min (rung 23 K2 (m * 2 ^ (e + 1074).toNat)) 2139095040 = r) :
    Calls Try.prog 24 #[.int .u64 (m : Nat), .int .i64 e, .int .i64 23, .int .i64 (-149), .int .u64 2139095040] w fun e w' => e = .returned (.int .u64 (r : Nat)) ∧ w' = w := by
  refine small_at m 23 2139095040 e (-149) r w (by omega) (.inl (by omega)) (by decide) (by omega) (by omega) (by decide) (by decide) (fun u hu => by omega) ?_
  have h := rung_units 23 m e (-149) e0 (by decide)
  have h1 : ((-149 : Int) + 1074).toNat = K2 := by rw [K2_eq]; decide
  rw [h1] at h
  rw [← h]; exact hr
theorem small10 (m : Nat) (e : Int) (r : Nat) (w : World) (hm : m < 9007199254740992) (e0 : -1074 ≤ e) (e1 : e ≤ 971) (hr : min (rung 10 H2 (m * 2 ^ (e + 1074).toNat)) 31744 = r) :
    Calls Try.prog 24 #[.int .u64 (m : Nat), .int .i64 e, .int .i64 10, .int .i64 (-24), .int .u64 31744] w fun e w' => e = .returned (.int .u64 (r : Nat)) ∧ w' = w := by
  refine small_at m 10 31744 e (-24) r w (by omega) (.inl (by omega)) (by decide) (by omega) (by omega) (by decide) (by decide) (fun u hu => by omega) ?_
  have h := rung_units 10 m e (-24) e0 (by decide)
  have h1 : ((-24 : Int) + 1074).toNat = H2 := by rw [H2_eq]; decide
  rw [h1] at h
  rw [← h]; exact hr

set_option maxHeartbeats 1000000 in
theorem fi_pos (i : Int) (m r : Nat) (w : World) (h : ¬ i < 0) (hi : IntKind.u64.wrap i = (m : Int)) (hw : IntKind.u64.wrap (r : Int) = (r : Int)) (S : Hid (∀ w, Calls Try.prog 24 #[.int .u64 (m : Nat), .int .i64 0, .int .i64 52, .int .i64 (-1074), .int .u64 9218868437227405312] w fun e w' => e = .returned (.int .u64 (r : Nat)) ∧ w' = w)) :
    Calls Try.prog 18 #[.int .i64 i] w fun e w' => e = .returned (.float .f64 r) ∧ w' = w := by
  go_enter Try.func18, Try.ntmps18
  go_wp2_with fail
  refine (S.out _).mono ?_
  rintro e w' ⟨rfl, rfl⟩
  go_wp2_with fail
  refine (from_at (r : Int) r _ (by omega)).mono ?_
  rintro e w' ⟨rfl, rfl⟩
  go_wp2
  go_ret
  exact ⟨rfl, rfl⟩

set_option maxHeartbeats 1000000 in
theorem fi_neg (i : Int) (a m r s : Nat) (w : World) (h : i < 0) (hi : IntKind.u64.wrap i = (a : Int)) (ha : IntKind.u64.wrap (-(a : Int)) = (m : Int)) (hw : IntKind.u64.wrap (9223372036854775808 + (r : Int)) = (s : Int)) (S : Hid (∀ w, Calls Try.prog 24 #[.int .u64 (m : Nat), .int .i64 0, .int .i64 52, .int .i64 (-1074), .int .u64 9218868437227405312] w fun e w' => e = .returned (.int .u64 (r : Nat)) ∧ w' = w)) :
    Calls Try.prog 18 #[.int .i64 i] w fun e w' => e = .returned (.float .f64 s) ∧ w' = w := by
  go_enter Try.func18, Try.ntmps18
  go_wp2_with fail
  refine (S.out _).mono ?_
  rintro e w' ⟨rfl, rfl⟩
  go_wp2_with fail
  refine (from_at (s : Int) s _ (by omega)).mono ?_
  rintro e w' ⟨rfl, rfl⟩
  go_wp2
  go_ret
  exact ⟨rfl, rfl⟩

theorem refFromInt_at (i : Int) (r : Nat) (w : World) (i0 : -9223372036854775808 ≤ i) (i1 : i ≤ 9223372036854775807) (hr : rn false (i * one) = r) :
    Calls Try.prog 18 #[.int .i64 i] w fun e w' => e = .returned (.float .f64 r) ∧ w' = w := by
  have hK : (1074 : Nat) = K := rfl
  have hab : (i * (one : Int)).natAbs = i.natAbs * one := by rw [Int.natAbs_mul, Int.natAbs_natCast]
  have ho : ((0 : Int) + 1074).toNat = K := by rw [K_eq]; decide
  have hs := fun w => small52 i.natAbs 0 _ w (by omega) (by decide) (by decide) rfl
  rw [ho, ← one_pow] at hs
  have hlt : min (rung 52 0 (i.natAbs * one)) 9218868437227405312 ≤ 9218868437227405312 := Nat.min_le_right _ _
  have hp := onep
  have hrn : rn false (i * one) = if i < 0 then 9223372036854775808 + min (rung 52 0 (i.natAbs * one)) 9218868437227405312 else min (rung 52 0 (i.natAbs * one)) 9218868437227405312 := by
    unfold rn
    rw [hab]
    have h2 : (if i * (one : Int) = 0 then false else decide (i * (one : Int) < 0)) = decide (i < 0) := by
      by_cases c : i = 0
      · subst c; simp
      · have c' : ¬ i * (one : Int) = 0 := by rw [Int.mul_eq_zero]; omega
        rw [if_neg c']
        have : i * (one : Int) < 0 ↔ i < 0 := by
          have : i * (one : Int) < 0 * (one : Int) ↔ i < 0 := Int.mul_lt_mul_right hp
          rwa [Int.zero_mul] at this
        exact decide_eq_decide.2 this
    rw [h2]
    by_cases c : i < 0
    · rw [decide_eq_true c, if_pos rfl, if_pos c]
    · rw [decide_eq_false c, if_neg (by decide), if_neg c]
  rw [hrn] at hr
  generalize min (rung 52 0 (i.natAbs * one)) 9218868437227405312 = q at *
  by_cases c : i < 0
  · rw [if_pos c] at hr
    subst hr
    have w1 : IntKind.u64.wrap i = ((18446744073709551616 - i.natAbs : Nat) : Int) := by
      simp [IntKind.wrap, IntKind.bits, IntKind.signed]; omega
    have w2 : IntKind.u64.wrap (-((18446744073709551616 - i.natAbs : Nat) : Int)) = (i.natAbs : Int) := by
      simp [IntKind.wrap, IntKind.bits, IntKind.signed]; omega
    exact fi_neg i _ _ q (9223372036854775808 + q) w c w1 w2 (by rw [wrap_id] <;> omega) hs
  · rw [if_neg c] at hr
    subst hr
    exact fi_pos i i.natAbs q w c (by rw [wrap_id] <;> omega) (by rw [wrap_id] <;> omega) hs
end Go.Proofs.Ythdcfhaeiekpcaa.Ref2

/-
  Depths, levels and fills of the reference: what it returns (walks).
-/
namespace Go.Proofs.Ythdcfhaeiekpcaa
open Go.RowKit Tf
attribute [local go_sem] run_bits run_from raw_feq raw_fne raw_flt raw_fgt run_neg
theorem rdepth_no11 (n a : Int) (w : World) (h : n < 1 ∨ a < 1) :
    Calls Try.prog 10 #[.int .i64 n, .int .i64 a] w fun e w' => e = .returned (.float .f64 0) ∧ w' = w := by
  by_cases c : n < 1
  · go_enter Try.func10, Try.ntmps10
    go_wp2
    go_ret
    exact ⟨rfl, rfl⟩
  · have d : a < 1 := by omega
    clear h
    go_enter Try.func10, Try.ntmps10
    go_wp2
    go_ret
    exact ⟨rfl, rfl⟩
theorem rdepth_yes11 (n a : Int) (w : World) (h1 : 1 ≤ n) (h2 : 1 ≤ a) (n2 : n ≤ 9223372036854775807) (a2 : a ≤ 9223372036854775807) :
    Calls Try.prog 10 #[.int .i64 n, .int .i64 a] w fun e w' => e = .returned (.float .f64 (dpB n a)) ∧ ∃ k, w' = w.drewN k := by
  obtain ⟨r, k, hr, hc⟩ := div_any (P := Try.prog) w (fw n) (fw a)
  have e := isC_eq hc (by rw [← dp_of h1 h2]; have := dp_in h1 h2 n2 a2; omega) (by rw [← dp_of h1 h2]; have := dp_in h1 h2 n2 a2; omega)
  rw [dp_of h1 h2, ← e]
  clear e hc
  have F1 := hid (Ref2.refFromInt_at n _ w (by omega) n2 rfl)
  have F2 := hid (Ref2.refFromInt_at a _ w (by omega) a2 rfl)
  rw [show rn false (n * one) = fw n from rfl] at F1
  rw [show rn false (a * one) = fw a from rfl] at F2
  generalize fw n = x at *
  generalize fw a = y at *
  go_enter Try.func10, Try.ntmps10
  go_wp2_with fail
  refine F1.out.mono ?_
  rintro e w' ⟨rfl, rfl⟩
  go_wp2_with fail
  refine F2.out.mono ?_
  rintro e w' ⟨rfl, rfl⟩
  go_wp2
  go_ret
  exact ⟨rfl, k, rfl⟩
theorem rdepth_at11 (n a : Int) (w : World) (n2 : n ≤ 9223372036854775807) (a2 : a ≤ 9223372036854775807) :
    Calls Try.prog 10 #[.int .i64 n, .int .i64 a] w fun e w' => e = .returned (.float .f64 (dpB n a)) ∧ ∃ k, w' = w.drewN k := by
  by_cases c : n < 1 ∨ a < 1
  · rw [dp_zero c]
    exact (rdepth_no11 n a w c).mono fun _ _ h => ⟨h.1, 0, h.2⟩
  · exact rdepth_yes11 n a w (by omega) (by omega) n2 a2
theorem rlevel_at11 (b : Nat) (n a : Int) (w : World) (hb : b < 18446744073709551616) (n2 : n ≤ 9223372036854775807) (a2 : a ≤ 9223372036854775807) :
    Calls Try.prog 12 #[.float .f64 b, .int .i64 n, .int .i64 a] w fun e w' => e = .returned (.float .f64 (lvl b n a)) ∧ ∃ k, w' = w.drewN k := by
  have D := hid (rdepth_at11 n a w n2 a2)
  have e0 : lvl b n a = addB b (dpB n a) := rfl
  rw [e0]
  have hd : dpB n a < 18446744073709551616 := by have := dp_le n2 a2; omega
  clear e0
  generalize dpB n a = d at *
  have AD : Hid (∀ k : Nat, ∃ r m, (∀ t, (binOp .add t (.float .f64 b) (.float .f64 d)).run Try.prog (w.drewN k) = .ok (.float .f64 r) ((w.drewN k).drewN m)) ∧ IsC r (addB b d)) := fun k => add_can _ b d hb hd
  generalize addB b d = y at *
  go_enter Try.func12, Try.ntmps12
  go_wp2_with fail
  refine D.out.mono ?_
  rintro e w' ⟨rfl, k, rfl⟩
  obtain ⟨r, m, hr, hc⟩ := AD.out k
  have C := hid (refCanon_any r (w.drewN (k + m)))
  rw [hc.2] at C
  go_wp2_with fail
  refine C.out.mono ?_
  rintro e w' ⟨rfl, rfl⟩
  go_wp2
  go_ret
  exact ⟨rfl, k + m, rfl⟩
theorem rfill_no11 (b : Nat) (a : Int) (l : Nat) (w : World) (h : fgt l b = false ∨ a < 1) :
    Calls Try.prog 14 #[.float .f64 b, .int .i64 a, .float .f64 l] w fun e w' => e = .returned (.int .i64 0) ∧ w' = w := by
  cases c : fgt l b
  · clear h
    go_enter Try.func14, Try.ntmps14
    go_wp2
    go_ret
    exact ⟨rfl, rfl⟩
  · have d : a < 1 := by simpa [c] using h
    clear h
    go_enter Try.func14, Try.ntmps14
    go_wp2
    go_ret
    exact ⟨rfl, rfl⟩
theorem rfill_yes11 (b : Nat) (a : Int) (l : Nat) (w : World) (hb : b < 18446744073709551616) (hl : l < 18446744073709551616) (h : fgt l b = true) (a1 : 1 ≤ a) (a2 : a ≤ 9223372036854775807) :
    Calls Try.prog 14 #[.float .f64 b, .int .i64 a, .float .f64 l] w fun e w' => e = .returned (.int .i64 (fil b a l)) ∧ ∃ k, w' = w.drewN k := by
  obtain ⟨n1, n2, k0⟩ := (fgt_iff hl hb).1 h
  have hi := hi_in hl hb n1 n2 k0
  have hp := fil_prod hl hb h a1 a2
  rw [fil_yes h a1]
  obtain ⟨r, k, hr, hc⟩ := sub_any (P := Try.prog) w l (qB l) b (qB b) (IsQ.self hl) (IsQ.self hb)
  have q1 : qB l = l := by unfold qB; rw [if_neg (by rw [n1]; exact Bool.false_ne_true)]
  have q2 : qB b = b := by unfold qB; rw [if_neg (by rw [n2]; exact Bool.false_ne_true)]
  rw [q1, q2] at hc
  obtain rfl := isC_eq hc hi.1 hi.2
  have F := hid (Ref2.refFromInt_at a _ (w.drewN k) (by omega) a2 rfl)
  rw [show rn false (a * one) = fw a from rfl] at F
  have fa := fw_in a1 a2
  obtain ⟨p, m, hm, hq⟩ := mul_any (P := Try.prog) (w.drewN k) (sbB l b) (qB (sbB l b)) (fw a) (qB (fw a)) (IsQ.self (by omega)) (IsQ.self (by omega))
  have q3 : qB (sbB l b) = sbB l b := by unfold qB; rw [if_neg (by rw [isN_false.2 (by have := mg_nn11 hi.2; omega)]; exact Bool.false_ne_true)]
  have q4 : qB (fw a) = fw a := by unfold qB; rw [if_neg (by rw [isN_false.2 (by have := mg_nn11 (show fw a ≤ 9218868437227405312 by omega); omega)]; exact Bool.false_ne_true)]
  rw [q3, q4] at hq
  obtain rfl := isQ_eq hq hp
  have C := hid (Ref2.refClamp_at (mlB (sbB l b) (fw a)) 4503599627370496 _ (w.drewN (k + m)) (by omega) (by decide) rfl)
  generalize clampB (mlB (sbB l b) (fw a)) 4503599627370496 = z at *
  clear hq hc q1 q2 q3 q4 hp hi fa
  generalize mlB (sbB l b) (fw a) = y at *
  generalize sbB l b = d at *
  generalize fw a = f at *
  go_enter Try.func14, Try.ntmps14
  go_wp2_with fail
  refine F.out.mono ?_
  rintro e w' ⟨rfl, rfl⟩
  go_wp2_with fail
  refine C.out.mono ?_
  rintro e w' ⟨rfl, rfl⟩
  go_wp2
  go_ret
  exact ⟨rfl, k + m, rfl⟩
theorem rfill_at11 (b : Nat) (a : Int) (l : Nat) (w : World) (hb : b < 18446744073709551616) (hl : l < 18446744073709551616) (a2 : a ≤ 9223372036854775807) :
    Calls Try.prog 14 #[.float .f64 b, .int .i64 a, .float .f64 l] w fun e w' => e = .returned (.int .i64 (fil b a l)) ∧ ∃ k, w' = w.drewN k := by
  by_cases c : fgt l b = false ∨ a < 1
  · rw [fil_no c]
    exact (rfill_no11 b a l w c).mono fun _ _ h => ⟨h.1, 0, h.2⟩
  · have h : fgt l b = true := by cases k : fgt l b; exact absurd (.inl k) c; rfl
    exact rfill_yes11 b a l w hb hl h (by omega) a2
end Go.Proofs.Ythdcfhaeiekpcaa

/-
  Depths, levels and fills against the document's answer, of a list of rows: the walk.
-/
namespace Go.Proofs.Ythdcfhaeiekpcaa
open Go.RowKit Tf
attribute [local go_sem] run_bits run_from raw_feq raw_fne raw_flt raw_fgt run_neg run_store_float
/-- a bed, a water, an area and a level from there on -/
def OpAt (w : World) (b o : Nat) : Prop := ∃ (p : Nat) (n a : Int) (l : Nat), (w.cell? ⟨b, o, none⟩ = some (.float .f64 p) ∧ w.cell? ⟨b, o + 1, none⟩ = some (.int .i64 n) ∧ w.cell? ⟨b, o + 2, none⟩ = some (.int .i64 a) ∧ w.cell? ⟨b, o + 3, none⟩ = some (.float .f64 l)) ∧ p < 18446744073709551616 ∧ n ≤ 9223372036854775807 ∧ a ≤ 9223372036854775807 ∧ l < 18446744073709551616
theorem same_below11 (x : Nat) (v : World) : Calls Try.prog 8 #[.float .f64 x, .float .f64 x] v fun e w' => e = .returned (.bool true) ∧ Below v.heap.size v w' := by
  have h := rawSame_any x x v
  rw [show sameB x x = true by unfold sameB; exact decide_eq_true rfl] at h
  exact h.mono fun _ _ ⟨he, hw⟩ => ⟨he, by rw [hw]; exact Below.refl _ _⟩
set_option maxRecDepth 100000 in
set_option maxHeartbeats 16000000 in
theorem all11_go (b off len cap : Nat) (w : World) (hcap : len ≤ cap) (_hl : (cap : Int) ≤ 9223372036854775807) (hlen : (len : Int) ≤ 1048576) (hb : b < w.heap.size) (hc : ∀ k, k < len → OpAt w b (off + k * 4)) :
    Calls Try.prog 3 #[.slice (some ⟨b, off, none⟩) len cap] w fun e w' => e = .returned (.bool true) ∧ Below w.heap.size w w' := by
  have AWK := hid (awake11_at w)
  have HC := hid hc
  have HB := hid hb
  clear hc hb
  go_enter Try.func3, Try.ntmps3
  go_wp2_with fail
  refine AWK.out.mono ?_
  rintro e w1 ⟨rfl, j1, rfl⟩
  have A1 : Hid (Ab w (w.drewN j1)) := Ab.drewN (Ab.refl w) _
  go_wp2
  go_loopw [3, 4] (fun ov iv wr => ov = .bool true ∧ ∃ k : Nat, k ≤ len ∧ iv = .int .i64 (k : Nat) ∧ Ab w wr) (fun _ iv _ => len - (intOf iv).toNat)
  case atStart => exact ⟨rfl, 0, by omega, rfl, A1.out⟩
  case round =>
    obtain ⟨rfl, k, hk, rfl, A⟩ := hrel
    by_cases hkl : k < len
    · have hk' : (k : Int) < len := by omega
      obtain ⟨p, n, a, l, ⟨c0, c1, c2, c3⟩, hp, hn, ha, hl⟩ := HC.out k hkl
      have d0 : wr.cell? ⟨b, off + k * 4, none⟩ = some (.float .f64 p) := (Below.cell A (by exact HB.out)).trans c0
      have d1 : wr.cell? ⟨b, off + k * 4 + 1, none⟩ = some (.int .i64 n) := (Below.cell A (by exact HB.out)).trans c1
      have d2 : wr.cell? ⟨b, off + k * 4 + 2, none⟩ = some (.int .i64 a) := (Below.cell A (by exact HB.out)).trans c2
      have d3 : wr.cell? ⟨b, off + k * 4 + 3, none⟩ = some (.float .f64 l) := (Below.cell A (by exact HB.out)).trans c3
      have D1 : Hid (∀ v : World, Calls Try.prog 9 #[.int .i64 n, .int .i64 a] v fun e w' => e = .returned (.float .f64 (dpB n a)) ∧ Below v.heap.size v w') := fun v => (depth_at n a v hn ha).mono fun _ _ h => ⟨h.1, by obtain ⟨_, j, rfl⟩ := h; exact below_drewN (Below.refl _ _) j⟩
      have D2 : Hid (∀ v : World, Calls Try.prog 10 #[.int .i64 n, .int .i64 a] v fun e w' => e = .returned (.float .f64 (dpB n a)) ∧ Below v.heap.size v w') := fun v => (rdepth_at11 n a v hn ha).mono fun _ _ h => ⟨h.1, by obtain ⟨_, j, rfl⟩ := h; exact below_drewN (Below.refl _ _) j⟩
      have L1 : Hid (∀ v : World, Calls Try.prog 11 #[.float .f64 p, .int .i64 n, .int .i64 a] v fun e w' => e = .returned (.float .f64 (lvl p n a)) ∧ Below v.heap.size v w') := fun v => (level_at p n a v hp hn ha).mono fun _ _ h => ⟨h.1, by obtain ⟨_, j, rfl⟩ := h; exact below_drewN (Below.refl _ _) j⟩
      have L2 : Hid (∀ v : World, Calls Try.prog 12 #[.float .f64 p, .int .i64 n, .int .i64 a] v fun e w' => e = .returned (.float .f64 (lvl p n a)) ∧ Below v.heap.size v w') := fun v => (rlevel_at11 p n a v hp hn ha).mono fun _ _ h => ⟨h.1, by obtain ⟨_, j, rfl⟩ := h; exact below_drewN (Below.refl _ _) j⟩
      have G1 : Hid (∀ v : World, Calls Try.prog 13 #[.float .f64 p, .int .i64 a, .float .f64 l] v fun e w' => e = .returned (.int .i64 (fil p a l)) ∧ Below v.heap.size v w') := fun v => (fill_at p a l v hp hl ha).mono fun _ _ h => ⟨h.1, by obtain ⟨_, j, rfl⟩ := h; exact below_drewN (Below.refl _ _) j⟩
      have G2 : Hid (∀ v : World, Calls Try.prog 14 #[.float .f64 p, .int .i64 a, .float .f64 l] v fun e w' => e = .returned (.int .i64 (fil p a l)) ∧ Below v.heap.size v w') := fun v => (rfill_at11 p a l v hp hl ha).mono fun _ _ h => ⟨h.1, by obtain ⟨_, j, rfl⟩ := h; exact below_drewN (Below.refl _ _) j⟩
      generalize dpB n a = x at *
      generalize lvl p n a = y at *
      generalize fil p a l = z at *
      have SS := hid same_below11
      have AA := hid A
      have HK := hid hkl
      have kl : (k : Int) + 1 ≤ 9223372036854775807 := by omega
      clear c0 c1 c2 c3 A hkl hp hn ha hl
      go_upto_region 8 with fail
      generalize hW : World.alloc wr _ = W
      obtain ⟨ga, hga⟩ : ∃ g, wr.heap.size = g := ⟨_, rfl⟩
      have RO0 : Hid (W.heap[ga]? = some (.cells #[.float .f64 p, .int .i64 n, .int .i64 a, .float .f64 l] 26)) := by rw [← hW, ← hga]; exact heap_alloc_new _ _
      have AW0 : Hid (Ab w W) := by rw [← hW]; exact AA.out.alloc _
      rw [hga]
      clear hW hga d0 d1 d2 d3 AA
      obtain ⟨UU, E, hF1, hF2⟩ := cls W
      have HU := hid hF2
      have HU1 := hid hF1
      have x0 : ∀ u, (E u).cell? ⟨ga, 0, none⟩ = some (.float .f64 p) := fun u => cell_of_row _ _ 0 _ _ _ ((hF1 u).heap RO0.out)
      have x1 : ∀ u, (E u).cell? ⟨ga, 1, none⟩ = some (.int .i64 n) := fun u => cell_of_row _ _ 1 _ _ _ ((hF1 u).heap RO0.out)
      have x2 : ∀ u, (E u).cell? ⟨ga, 2, none⟩ = some (.int .i64 a) := fun u => cell_of_row _ _ 2 _ _ _ ((hF1 u).heap RO0.out)
      have x3 : ∀ u, (E u).cell? ⟨ga, 3, none⟩ = some (.float .f64 l) := fun u => cell_of_row _ _ 3 _ _ _ ((hF1 u).heap RO0.out)
      have D := HU.out _ (Ab.refl W).drew
      clear hF1 hF2
      refine region_cls E (by kernel_rfl) (by kernel_rfl) D ?_
      repeat (go_big_quiet_step (first
        | (with_reducible rfl)
        | (go_at_call 9; exact calls_cls HU HU1 (D1.out _))
        | (go_at_call 10; exact calls_cls HU HU1 (D2.out _))
        | (go_at_call 11; exact calls_cls HU HU1 (L1.out _))
        | (go_at_call 12; exact calls_cls HU HU1 (L2.out _))
        | (go_at_call 13; exact calls_cls HU HU1 (G1.out _))
        | (go_at_call 14; exact calls_cls HU HU1 (G2.out _))
        | (go_at_call 8; exact calls_cls HU HU1 (SS.out _ _))))
      refine wpQuiet_nil ?_
      intro wz hwz
      obtain ⟨u, hu⟩ := hwz
      have bz : Ab W wz := by rw [hu]; exact HU1.out u
      have AZ : Hid (Ab w wz) := AW0.out.trans bz
      have HK2 := HK.out
      clear hu u bz
      clear HU HU1 D x0 x1 x2 x3
      clear E UU
      go_wp2
      go_roundw
      case rel => exact ⟨by simp, k + 1, by omega, by simp, AZ.out⟩
      case measure => simp [intOf]; omega
    · have e : k = len := by omega
      subst e
      have AA := hid A
      clear A
      go_wp2
      go_ret
      exact ⟨rfl, AA.out⟩
set_option maxHeartbeats 4000000 in
theorem all11_far (a0 : Option Addr) (len cap : Nat) (w : World) (hlen : (1048576 : Int) < (len : Int)) :
    Calls Try.prog 3 #[.slice a0 len cap] w fun e w' => e = .returned (.bool true) ∧ Below w.heap.size w w' := by
  have AWK := hid (awake11_at w)
  go_enter Try.func3, Try.ntmps3
  go_wp2_with fail
  refine AWK.out.mono ?_
  rintro e w1 ⟨rfl, j1, rfl⟩
  go_wp2
  go_ret
  exact ⟨rfl, below_drewN (Below.refl _ _) _⟩
set_option maxHeartbeats 4000000 in
theorem all11_none (a0 : Option Addr) (cap : Nat) (w : World) :
    Calls Try.prog 3 #[.slice a0 0 cap] w fun e w' => e = .returned (.bool true) ∧ Below w.heap.size w w' := by
  have AWK := hid (awake11_at w)
  go_enter Try.func3, Try.ntmps3
  go_wp2_with fail
  refine AWK.out.mono ?_
  rintro e w1 ⟨rfl, j1, rfl⟩
  go_wp2
  go_loopw [3, 4] (fun ov iv wr => ov = .bool true ∧ iv = .int .i64 0 ∧ wr = w.drewN j1) (fun _ _ _ => 0)
  case atStart => exact ⟨rfl, rfl, rfl⟩
  case round =>
    obtain ⟨rfl, rfl, rfl⟩ := hrel
    go_wp2
    go_ret
    exact ⟨rfl, below_drewN (Below.refl _ _) _⟩
end Go.Proofs.Ythdcfhaeiekpcaa
