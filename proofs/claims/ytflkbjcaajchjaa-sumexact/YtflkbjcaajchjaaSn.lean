/-
  The statement on exact sums: by plain numbers, and a walk over the program.
-/
import Derived.Test.YtflkbjcaajchjaaSl
import Derived.Test.YtflkbjcaajchjaaSq
namespace Go.Proofs.Ytflkbjcaajchjaa
open Go.RowKit Tf
attribute [local go_sem] run_bits run_from raw_feq raw_fne raw_flt raw_fgt run_neg

theorem foi (n : Int) : floatOfInt .f64 n = rn false (n * one) := ofInt_d n
/-- a float that is a whole number -/
def IsW (x : Nat) (m : Int) : Prop := x < 18446744073709551616 ∧ mg x < 9218868437227405312 ∧ sv x = m * one
theorem wh_D (n : Int) (h : n.natAbs ≤ 9007199254740992) : isD (n * one) ∧ (n * (one : Int)).natAbs < top := by
  have hab : (n * (one : Int)).natAbs = n.natAbs * one := by rw [Int.natAbs_mul, Int.natAbs_natCast]
  obtain ⟨r, hr, hr2⟩ := rep_one n.natAbs h
  refine ⟨⟨r, by rw [hab]; exact hr⟩, ?_⟩
  rw [hab, ← hr]
  exact mv_lt.2 (by omega)
theorem wh_rn (n : Int) (h : n.natAbs ≤ 9007199254740992) : IsW (rn false (n * one)) n := by
  obtain ⟨h1, h2⟩ := wh_D n h
  obtain ⟨h3, h4⟩ := rn_exact false _ h1 h2
  exact ⟨rn_lt _ _, h3, h4⟩
theorem w_pl {x y : Nat} {m n : Int} (hx : IsW x m) (hy : IsW y n) (h : (m + n).natAbs ≤ 9007199254740992) : IsW (plB x y) (m + n) := by
  obtain ⟨h1, h2⟩ := wh_D (m + n) h
  have e : sv x + sv y = (m + n) * one := by rw [hx.2.2, hy.2.2, Int.add_mul]
  have := pl_exact hx.1 hy.1 hx.2.1 hy.2.1 (by rw [e]; exact h1) (by rw [e]; exact h2)
  rw [e] at this
  exact this
theorem w_feq {x y : Nat} {m : Int} (hx : IsW x m) (hy : IsW y m) : feq x y = true := feq_of_sv hx.1 hy.1 hx.2.1 hy.2.1 (by rw [hx.2.2, hy.2.2])
theorem w_q {x : Nat} {m : Int} (hx : IsW x m) : qB x = x := qB_of (isN_fin hx.2.1)
def zS (z : Nat → Int) (o : Nat) : Nat → Int
  | 0 => 0
  | n + 1 => zS z o n + z (o + n)
theorem zS_add (z : Nat → Int) (o a b : Nat) : zS z o (a + b) = zS z o a + zS z (o + a) b := by
  induction b with
  | zero => show _ = _ + 0; rw [Nat.add_zero, Int.add_zero]
  | succ b ih =>
    show zS z o (a + b) + z (o + (a + b)) = zS z o a + (zS z (o + a) b + z (o + a + b))
    rw [ih, Nat.add_assoc]; omega
theorem zS_bd (z : Nat → Int) (o n : Nat) (h : ∀ j, (z j).natAbs < 1099511627776) : (zS z o n).natAbs ≤ n * 1099511627776 := by
  induction n with
  | zero => show (0 : Int).natAbs ≤ _; omega
  | succ n ih =>
    have := h (o + n)
    show (zS z o n + z (o + n)).natAbs ≤ _
    omega
theorem w_left {z : Nat → Int} {fl : Nat → Nat} (hb : ∀ j, (z j).natAbs < 1099511627776) (hw : ∀ j, IsW (fl j) (z j)) (n : Nat) (hn : n < 4096) : IsW (lfF fl n) (zS z 0 (n + 1)) := by
  induction n with
  | zero =>
    show IsW (qB (fl 0)) (0 + z (0 + 0))
    rw [w_q (hw 0), Int.zero_add]; exact hw 0
  | succ n ih =>
    have h1 := zS_bd z 0 (n + 1 + 1) hb
    have h2 := ih (by omega)
    have := w_pl h2 (hw (n + 1)) (by
      have e : zS z 0 (n + 1 + 1) = zS z 0 (n + 1) + z (0 + (n + 1)) := rfl
      rw [Nat.zero_add] at e
      rw [← e]; omega)
    show IsW (plB (lfF fl n) (fl (n + 1))) (zS z 0 (n + 1) + z (0 + (n + 1)))
    rw [Nat.zero_add]; exact this
theorem w_leftB {z : Nat → Int} {fl : Nat → Nat} (hb : ∀ j, (z j).natAbs < 1099511627776) (hw : ∀ j, IsW (fl j) (z j)) (n : Nat) (hn : n ≤ 4096) : IsW (leftB fl n) (zS z 0 n) := by
  unfold leftB
  by_cases c : n = 0
  · subst c
    rw [if_pos rfl]
    exact ⟨by decide, by decide, by rw [sv0]; show (0 : Int) = 0 * _; rw [Int.zero_mul]⟩
  · rw [if_neg c]
    have := w_left hb hw (n - 1) (by omega)
    rw [show n - 1 + 1 = n by omega] at this
    exact this
theorem w_pairs {z : Nat → Int} {fl : Nat → Nat} (hb : ∀ j, (z j).natAbs < 1099511627776) (hw : ∀ j, IsW (fl j) (z j)) : ∀ (n o : Nat), n ≤ 4096 → IsW (prB fl o n) (zS z o n) := by
  intro n
  induction n using Nat.strongRecOn with
  | ind n ih =>
    intro o hn
    by_cases h0 : n = 0
    · subst h0; rw [prB_zero]; exact ⟨by decide, by decide, by rw [sv0]; show (0 : Int) = 0 * _; rw [Int.zero_mul]⟩
    by_cases h1 : n = 1
    · subst h1
      rw [prB_one, w_q (hw o)]
      show IsW _ (0 + z (o + 0))
      rw [Int.zero_add, Nat.add_zero]; exact hw o
    rw [prB_more fl o n (by omega)]
    have e : zS z o n = zS z o ((n + 1) / 2) + zS z (o + (n + 1) / 2) (n - (n + 1) / 2) := by
      rw [← zS_add]; congr 1; omega
    have hbd := zS_bd z o n hb
    rw [e] at hbd ⊢
    exact w_pl (ih _ (by omega) o (by omega)) (ih _ (by omega) _ (by omega)) (by omega)
theorem w_caS {z : Nat → Int} {fl : Nat → Nat} (hb : ∀ j, (z j).natAbs < 1099511627776) (hw : ∀ j, IsW (fl j) (z j)) (n : Nat) (hn : n ≤ 4096) : IsW (caS fl n) (zS z 0 n) ∧ caC fl n = 0 := by
  induction n with
  | zero => exact ⟨(⟨by decide, by decide, by rw [sv0, Int.zero_mul]⟩ : IsW 0 0), rfl⟩
  | succ n ih =>
    obtain ⟨h1, h2⟩ := ih (by omega)
    have hbd := zS_bd z 0 (n + 1) hb
    have e : zS z 0 (n + 1) = zS z 0 n + z n := by show zS z 0 n + z (0 + n) = _; rw [Nat.zero_add]
    rw [e] at hbd ⊢
    have hs : addB (caS fl n) (fl n) = rn false ((zS z 0 n + z n) * one) := by
      rw [addB_fin _ _ h1.1 (hw n).1 h1.2.1 (hw n).2.1, h1.2.2, (hw n).2.2, Int.add_mul]
    have hW := wh_rn (zS z 0 n + z n) (by omega)
    rw [← hs] at hW
    refine ⟨hW, ?_⟩
    show plB (caC fl n) (sumE (caS fl n) (fl n)) = 0
    have hE : sumE (caS fl n) (fl n) = 0 := by
      unfold sumE
      rw [if_pos hW.2.1, hW.2.2, h1.2.2, (hw n).2.2, ← Int.add_mul, Int.sub_self, rn_zero]; rfl
    rw [h2, hE]; decide
theorem w_care {z : Nat → Int} {fl : Nat → Nat} (hb : ∀ j, (z j).natAbs < 1099511627776) (hw : ∀ j, IsW (fl j) (z j)) (n : Nat) (hn : n ≤ 4096) : IsW (careB fl n) (zS z 0 n) := by
  obtain ⟨h1, h2⟩ := w_caS hb hw n hn
  have hbd := zS_bd z 0 n hb
  have h0 : IsW 0 0 := ⟨by decide, by decide, by rw [sv0, Int.zero_mul]⟩
  unfold careB
  rw [h2]
  have := w_pl h1 h0 (by omega)
  rw [Int.add_zero] at this
  exact this
theorem w_three {z : Nat → Int} {fl : Nat → Nat} (hb : ∀ j, (z j).natAbs < 1099511627776) (hw : ∀ j, IsW (fl j) (z j)) (i j k : Nat) : IsW (thB (fl i) (fl j) (fl k)) (z i + z j + z k) := by
  obtain ⟨u, v, y, e, hp⟩ := th_perm (fl i) (fl j) (fl k)
  have key : ∀ a b c, IsW (plB (plB (fl a) (fl b)) (fl c)) (z a + z b + z c) := by
    intro a b c
    have h1 := hb a
    have h2 := hb b
    have h3 := hb c
    exact w_pl (w_pl (hw a) (hw b) (by omega)) (hw c) (by omega)
  rw [e]
  rcases hp with ⟨rfl, rfl, rfl⟩ | ⟨rfl, rfl, rfl⟩ | ⟨rfl, rfl, rfl⟩ | ⟨rfl, rfl, rfl⟩ | ⟨rfl, rfl, rfl⟩ | ⟨rfl, rfl, rfl⟩
  · exact key i j k
  · have := key i k j; rw [show z i + z j + z k = z i + z k + z j by omega]; exact this
  · have := key j i k; rw [show z i + z j + z k = z j + z i + z k by omega]; exact this
  · have := key j k i; rw [show z i + z j + z k = z j + z k + z i by omega]; exact this
  · have := key k i j; rw [show z i + z j + z k = z k + z i + z j by omega]; exact this
  · have := key k j i; rw [show z i + z j + z k = z k + z j + z i by omega]; exact this
theorem tmod40 (v : Int) : (v.tmod 1099511627776).natAbs < 1099511627776 := by
  rw [Int.natAbs_tmod]
  exact Nat.mod_lt _ (by decide)
/-- A LIST OF WHOLE NUMBERS -/
def IsIn (w : World) (a0 : Option Addr) (len : Nat) (ns : Nat → Int) : Prop := ∀ k, k < len → (-9223372036854775808 ≤ ns k ∧ ns k ≤ 9223372036854775807) ∧ ∃ b o, a0 = some ⟨b, o, none⟩ ∧ b < w.heap.size ∧ w.cell? ⟨b, o + k, none⟩ = some (.int .i64 (ns k))
set_option maxHeartbeats 1000000 in
theorem whole_at (v n : Int) (w : World) (_h0 : -9223372036854775808 ≤ v) (_h1 : v ≤ 9223372036854775807) (hn : v.tmod 1099511627776 = n) :
    Calls Try.prog 20 #[.int .i64 v] w fun e w' => e = .returned (.int .i64 n) ∧ w' = w := by
  go_enter Try.func20, Try.ntmps20
  go_wp2
  go_ret
  exact ⟨by first | rfl | (rw [← hn]; try rfl) | skip, rfl⟩
theorem own_push (B : Nat) (v : Value) (w : World) (fl : Nat → Nat) (i : Nat) (h : OwnF B v ((List.range i).map fl ++ (List.range 1).map (fun _ => fl i)) w) : OwnF B v ((List.range (i + 1)).map fl) w := by
  have e : (List.range (i + 1)).map fl = (List.range i).map fl ++ (List.range 1).map (fun _ => fl i) := by
    rw [List.range_succ, List.map_append]; rfl
  rw [e]; exact h
theorem own_list {B : Nat} {v : Value} {w : World} {fl : Nat → Nat} {n : Nat} (h : OwnF B v ((List.range n).map fl) w) (hf : ∀ j, fl j < 18446744073709551616) :
    ∃ a0 cap, v = .slice a0 n cap ∧ n ≤ cap ∧ (cap : Int) ≤ 9223372036854775807 ∧ IsFl w a0 n fl := by
  obtain ⟨a0, cap, h1, h2, h3, _, h5⟩ := own_fl h (by
    intro x hm
    simp at hm
    obtain ⟨j, _, rfl⟩ := hm
    exact hf j)
  have e : ((List.range n).map fl).length = n := by simp
  rw [e] at h1 h2 h5
  refine ⟨a0, cap, h1, h2, h3, fun k hk => ?_⟩
  have := h5 k hk
  have e2 : ((List.range n).map fl).getD k 0 = fl k := by simp [hk]
  simp only [e2] at this
  exact this
set_option maxHeartbeats 8000000 in
set_option maxRecDepth 100000 in
theorem ex_go (a0 : Option Addr) (len cap : Nat) (ns z : Nat → Int) (fl : Nat → Nat) (w : World) (hl : (len : Int) ≤ 4096) (hcap : (len : Int) ≤ cap) (h : Hid (IsIn w a0 len ns)) (HZ : Hid (∀ j, (ns j).tmod 1099511627776 = z j)) (HB : Hid (∀ j, (z j).natAbs < 1099511627776)) (HF : Hid (∀ j, fl j = rn false (z j * one))) (HW : Hid (∀ j, IsW (fl j) (z j))) :
    Calls Try.prog 5 #[.slice a0 len cap] w fun e w' => e = .returned (.bool true) ∧ Hid (Below w.heap.size w w') := by
  have WA := hid whole_at
  have ONE1 : Hid (∀ x, x < 18446744073709551616 → ∀ k, k < 1 → x < 18446744073709551616 ∧ #[Value.float .f64 x][k]? = some (.float .f64 x)) := by
    intro x hx k hk; obtain rfl : k = 0 := by omega
    exact ⟨hx, rfl⟩
  go_enter Try.func5, Try.ntmps5
  go_wp2_with fail
  refine (lives_any _).mono ?_
  rintro e w0 ⟨rfl, b0⟩
  go_wp2
  go_loopw [3, 4, 5] (fun lv ev iv wr => ∃ i : Nat, i ≤ len ∧ iv = .int .i64 (i : Nat) ∧ ev = .int .i64 (zS z 0 i) ∧ Hid (OwnF w.heap.size lv ((List.range i).map fl) wr) ∧ Hid (Below w.heap.size w wr)) (fun _ _ iv _ => len - (intOf iv).toNat)
  case atStart => exact ⟨0, by omega, rfl, rfl, own_nil _ _, b0⟩
  case round =>
    clear b0
    obtain ⟨i, hi, rfl, rfl, ho, hb⟩ := hrel
    by_cases hlt : i < len
    · obtain ⟨⟨n0, n1⟩, b, o, ea, hbs, cx⟩ := h.out i hlt
      subst ea
      have cx2 : wr.cell? ⟨b, o + i, none⟩ = some (.int .i64 (ns i)) := (hb.out.cell (p := ⟨b, o + i, none⟩) hbs).trans cx
      have W1 := hid (fun w => WA.out (ns i) (z i) w n0 n1 (HZ.out i))
      have zb := HB.out i
      have tb := zS_bd z 0 i HB.out
      have hcv := fun (w : World) => run_convert_int_float (P := Try.prog) w 2 25 .i64 .f64 (z i) (by kernel_rfl) (by kernel_rfl)
      rw [foi, ← HF.out i] at hcv
      have hfi := (HW.out i).1
      have eS : Hid (zS z 0 (i + 1) = zS z 0 i + z i) := by show zS z 0 i + z (0 + i) = _; rw [Nat.zero_add]
      obtain ⟨v, hv⟩ : ∃ v, ns i = v := ⟨_, rfl⟩
      rw [hv] at W1 cx2 cx
      obtain ⟨zi, hzi⟩ : ∃ v, z i = v := ⟨_, rfl⟩
      rw [hzi] at W1 zb hcv eS
      obtain ⟨T, hT⟩ : ∃ v, zS z 0 i = v := ⟨_, rfl⟩
      rw [hT] at tb eS ⊢
      have il : (i : Int) < len := by omega
      have icap : (i : Int) < cap := by omega
      have z1 : -1099511627776 < zi := by omega
      have z2 : zi < 1099511627776 := by omega
      have t1 : -4503599627370496 ≤ T := by omega
      have t2 : T ≤ 4503599627370496 := by omega
      have HI : Hid (i < len) := hlt
      have HL : Hid (i < 4096) := by show i < 4096; omega
      have HBS := hid hbs
      have HCX := hid cx
      have HFI := hid hfi
      clear hv hzi hT zb tb hlt hi hbs cx hfi h HB HW WA
      go_wp2_with fail
      refine (W1.out _).mono ?_
      rintro e w' ⟨rfl, rfl⟩
      go_wp2_with (at_builtin; refine wpList_app rfl (.tmp 19) (.tmp 26) rfl w _ ((List.range i).map fl) rfl (ho.out.alloc _) (hb.out.alloc hb.out.size _) (some ⟨w'.heap.size, 0, none⟩) 1 1 (fun _ => fl i) rfl (fun h => by cases h) (Nat.le_refl _) (fl_new w' _ _ _ 1 (ONE1.out (fl i) HFI.out)) (by have := HL.out; simp; omega) ?_; intro v2 w2 o2 d2; have O2 := hid (own_push _ _ _ _ _ o2); have B2 := hid d2; have cx3 : w2.cell? ⟨b, o + i, none⟩ = some (.int .i64 v) := (d2.cell (p := ⟨b, o + i, none⟩) HBS.out).trans HCX.out; clear o2 d2)
      refine (W1.out _).mono ?_
      rintro e w'' ⟨rfl, rfl⟩
      go_wp2
      refine ⟨⟨i + 1, HI.out, by simp, by rw [eS.out], O2, B2⟩, by have := HI.out; simp [intOf]; omega⟩
    · obtain rfl : i = len := by omega
      obtain ⟨V, hV⟩ : ∃ V, wr = V := ⟨_, rfl⟩
      rw [hV] at ho hb
      rw [hV]
      clear hV
      have hf64 : ∀ j, fl j < 18446744073709551616 := fun j => (HW.out j).1
      obtain ⟨a2, cap2, rfl, m1, m2, m3⟩ := own_list ho.out hf64
      have il : decide (((i : Nat) : Int) < (i : Nat)) = false := by simp
      have tb := zS_bd z 0 i HB.out
      have hcv := fun (w : World) => run_convert_int_float (P := Try.prog) w 2 25 .i64 .f64 (zS z 0 i) (by kernel_rfl) (by kernel_rfl)
      rw [foi] at hcv
      have hT := wh_rn (zS z 0 i) (by omega)
      obtain ⟨y, hy⟩ : ∃ y, rn false (zS z 0 i * (one : Int)) = y := ⟨_, rfl⟩
      rw [hy] at hcv hT
      have f1 : feq (leftB fl i) y = true := w_feq (w_leftB HB.out HW.out i (by omega)) hT
      have f2 : feq (prB fl 0 i) y = true := w_feq (w_pairs HB.out HW.out i 0 (by omega)) hT
      have f3 : feq (careB fl i) y = true := w_feq (w_care HB.out HW.out i (by omega)) hT
      have L := hid (fun w' (hb' : Below V.heap.size V w') => left_at a2 i cap2 fl w' m1 m2 (m3.below hb'))
      have P := hid (fun w' (hb' : Below V.heap.size V w') => pairs_at i a2 cap2 fl w' m1 m2 (by omega) (m3.below hb'))
      have C := hid (fun w' (hb' : Below V.heap.size V w') => careful_at a2 i cap2 fl w' m1 m2 (m3.below hb'))
      obtain ⟨l, hl'⟩ : ∃ l, leftB fl i = l := ⟨_, rfl⟩
      obtain ⟨p, hp'⟩ : ∃ l, prB fl 0 i = l := ⟨_, rfl⟩
      obtain ⟨c, hc'⟩ : ∃ l, careB fl i = l := ⟨_, rfl⟩
      rw [hl'] at f1 L
      rw [hp'] at f2 P
      rw [hc'] at f3 C
      obtain ⟨T, hT'⟩ : ∃ v, zS z 0 i = v := ⟨_, rfl⟩
      rw [hT'] at hcv tb ⊢
      have t1 : -4503599627370496 ≤ T := by omega
      have t2 : T ≤ 4503599627370496 := by omega
      have M := hid (⟨m1, m2, m3⟩ : _ ∧ _ ∧ _)
      clear hl' hp' hc' hT' hT hy tb m1 m2 m3 ho hi hlt
      go_wp2
      go_loopw [7] (fun jv wz => ∃ j : Nat, j ≤ i ∧ jv = .int .i64 (j : Nat) ∧ Hid (Below V.heap.size V wz)) (fun jv _ => i - (intOf jv).toNat)
      case atStart => exact ⟨0, by omega, rfl, Below.refl _ _⟩
      case round =>
        obtain ⟨j, hj, rfl, hbz⟩ := hrel
        by_cases hgo : j + 2 < i
        · obtain ⟨U, F, hne, hF1, hF2⟩ := cls V V.heap.size
          obtain ⟨_, b2, o2, ha2, _, _⟩ := M.out.2.2 j (by omega)
          subst ha2
          have cl : ∀ k, k < i → ∀ u, (F u).cell? ⟨b2, o2 + k, none⟩ = some (.float .f64 (fl k)) := by
            intro k hk u
            obtain ⟨_, b', o', e, _, hc⟩ := (M.out.2.2.below (hF1 u)) k hk
            cases e; exact hc
          obtain ⟨_, b, o, ha, hbs, _⟩ := h.out j (by omega)
          subst ha
          have cz : ∀ k, k < i → ∀ u, (F u).cell? ⟨b, o + k, none⟩ = some (.int .i64 (ns k)) := by
            intro k hk u
            obtain ⟨_, b', o', e, hb', hc⟩ := h.out k hk
            cases e
            exact ((bthen hb.out (hF1 u)).cell (p := ⟨b, o + k, none⟩) hb').trans hc
          have l0 := cl j (by omega)
          have l1 := cl (j + 1) (by omega)
          have l2 := cl (j + 2) (by omega)
          have x0 := cz j (by omega)
          have x1 := cz (j + 1) (by omega)
          have x2 := cz (j + 2) (by omega)
          have T3 := hid (fun u => (three_at (fl j) (fl (j + 1)) (fl (j + 2)) (F u) (HW.out _).1 (HW.out _).1 (HW.out _).1).mono (fun _ _ ⟨he, hw⟩ => (⟨he, bthen (hF1 u) hw.out⟩ : _ ∧ Hid (Below V.heap.size V _))))
          have W0 := hid (fun w => WA.out (ns j) (z j) w (h.out j (by omega)).1.1 (h.out j (by omega)).1.2 (HZ.out j))
          have W1 := hid (fun w => WA.out (ns (j + 1)) (z (j + 1)) w (h.out (j + 1) (by omega)).1.1 (h.out (j + 1) (by omega)).1.2 (HZ.out _))
          have W2 := hid (fun w => WA.out (ns (j + 2)) (z (j + 2)) w (h.out (j + 2) (by omega)).1.1 (h.out (j + 2) (by omega)).1.2 (HZ.out _))
          have hz0 := HB.out j
          have hz1 := HB.out (j + 1)
          have hz2 := HB.out (j + 2)
          have ft := w_feq (w_three HB.out HW.out j (j + 1) (j + 2)) (wh_rn (z j + z (j + 1) + z (j + 2)) (by omega))
          have hcv2 := fun (w : World) => run_convert_int_float (P := Try.prog) w 2 25 .i64 .f64 (z j + z (j + 1) + z (j + 2)) (by kernel_rfl) (by kernel_rfl)
          rw [foi] at hcv2
          obtain ⟨y2, hy2⟩ : ∃ y, rn false ((z j + z (j + 1) + z (j + 2)) * (one : Int)) = y := ⟨_, rfl⟩
          rw [hy2] at hcv2 ft
          obtain ⟨t, ht⟩ : ∃ t, thB (fl j) (fl (j + 1)) (fl (j + 2)) = t := ⟨_, rfl⟩
          rw [ht] at T3 ft
          obtain ⟨q0, hq0⟩ : ∃ y, fl j = y := ⟨_, rfl⟩
          obtain ⟨q1, hq1⟩ : ∃ y, fl (j + 1) = y := ⟨_, rfl⟩
          obtain ⟨q2, hq2⟩ : ∃ y, fl (j + 2) = y := ⟨_, rfl⟩
          rw [hq0] at T3 l0
          rw [hq1] at T3 l1
          rw [hq2] at T3 l2
          obtain ⟨r0, hr0⟩ : ∃ y, ns j = y := ⟨_, rfl⟩
          obtain ⟨r1, hr1⟩ : ∃ y, ns (j + 1) = y := ⟨_, rfl⟩
          obtain ⟨r2, hr2⟩ : ∃ y, ns (j + 2) = y := ⟨_, rfl⟩
          rw [hr0] at W0 x0
          rw [hr1] at W1 x1
          rw [hr2] at W2 x2
          obtain ⟨s0, hs0⟩ : ∃ y, z j = y := ⟨_, rfl⟩
          obtain ⟨s1, hs1⟩ : ∃ y, z (j + 1) = y := ⟨_, rfl⟩
          obtain ⟨s2, hs2⟩ : ∃ y, z (j + 2) = y := ⟨_, rfl⟩
          rw [hs0] at W0 hz0 hcv2
          rw [hs1] at W1 hz1 hcv2
          rw [hs2] at W2 hz2 hcv2
          have a0 : -1099511627776 < s0 := by omega
          have a1 : s0 < 1099511627776 := by omega
          have a2 : -1099511627776 < s1 := by omega
          have a3 : s1 < 1099511627776 := by omega
          have a4 : -1099511627776 < s2 := by omega
          have a5 : s2 < 1099511627776 := by omega
          have KK : Hid (j + 2 < i) := hgo
          have g5 : (j : Int) + 2 < (i : Nat) := by omega
          have g6 : (j : Int) + 2 < (cap : Nat) := by omega
          have g8 : (j : Int) + 2 < (cap2 : Nat) := by have := M.out.1; omega
          have HF2 := hid hF2
          have HF1 := hid hF1
          have D := HF2.out _ hbz.out.drew
          clear hy2 ht hq0 hq1 hq2 hr0 hr1 hr2 hs0 hs1 hs2 hz0 hz1 hz2 hF1 hF2 cl cz hgo hj M h HB HW HZ HF WA L P C f1 f2 f3 hcv hbs ONE1
          go_wp2_with fail
          refine region_cls F (by kernel_rfl) (by kernel_rfl) D ?_
          repeat (go_big_quiet_step (first
            | (go_at_call 17; exact calls_cls HF2 (T3.out _))
            | (go_at_call_of 20 (Value.int .i64 r0); exact (W0.out _).mono (fun _ _ ⟨he, hw⟩ => ⟨he, _, hw⟩))
            | (go_at_call_of 20 (Value.int .i64 r1); exact (W1.out _).mono (fun _ _ ⟨he, hw⟩ => ⟨he, _, hw⟩))
            | (go_at_call_of 20 (Value.int .i64 r2); exact (W2.out _).mono (fun _ _ ⟨he, hw⟩ => ⟨he, _, hw⟩))))
          refine wpQuiet_nil ?_
          intro wz hwz
          obtain ⟨u, rfl⟩ := hwz
          have HB' : Hid (Below V.heap.size V (F u)) := HF1.out u
          go_wp2
          refine ⟨⟨j + 1, by have := KK.out; omega, by simp, HB'⟩, by have := KK.out; simp [intOf]; omega⟩
        · have g5 : decide ((j : Int) + 2 < (i : Nat)) = false := by simp; omega
          have g5' : decide (j + 2 < i) = false := by simp; omega
          have g7 : (j : Int) ≤ 4096 := by omega
          clear hgo hj
          go_wp2_with fail
          refine (L.out _ hbz.out).mono ?_
          rintro e w4 ⟨rfl, ⟨k4, rfl⟩⟩
          have B4 : Hid (Below V.heap.size V (wr.drewN k4)) := below_drewN hbz.out k4
          clear hbz
          go_wp2_with fail
          refine (P.out _ B4.out).mono ?_
          rintro e w5 ⟨rfl, b5⟩
          have B5 : Hid (Below V.heap.size V w5) := bthen B4.out b5.out
          clear b5 B4
          go_wp2_with fail
          refine (C.out _ B5.out).mono ?_
          rintro e w6 ⟨rfl, ⟨k6, rfl⟩⟩
          have B6 : Hid (Below V.heap.size V (w5.drewN k6)) := below_drewN B5.out k6
          clear B5
          go_wp2
          go_ret
          exact ⟨rfl, bthen hb.out B6.out⟩
set_option maxHeartbeats 1000000 in
theorem ex_long (a0 : Option Addr) (len cap : Nat) (w : World) (hl : 4096 < (len : Int)) :
    Calls Try.prog 5 #[.slice a0 len cap] w fun e w' => e = .returned (.bool true) ∧ Hid (Below w.heap.size w w') := by
  go_enter Try.func5, Try.ntmps5
  go_wp2_with fail
  refine (lives_any _).mono ?_
  rintro e w0 ⟨rfl, b0⟩
  go_wp2
  go_ret
  exact ⟨rfl, b0⟩
/-- EXACT SUMS -/
theorem ex_walk (a0 : Option Addr) (len cap : Nat) (ns : Nat → Int) (w : World) (hcap : len ≤ cap) (h : IsIn w a0 len ns) :
    Calls Try.prog 5 #[.slice a0 len cap] w fun e w' => e = .returned (.bool true) ∧ Hid (Below w.heap.size w w') := by
  by_cases hl : len ≤ 4096
  · refine ex_go a0 len cap ns (fun j => (ns j).tmod 1099511627776) (fun j => rn false ((ns j).tmod 1099511627776 * one)) w (by omega) (by omega) h (fun _ => rfl) (fun j => tmod40 (ns j)) (fun _ => rfl) (fun j => wh_rn _ ?_)
    have := tmod40 (ns j)
    omega
  · exact ex_long a0 len cap w (by omega)
end Go.Proofs.Ytflkbjcaajchjaa
