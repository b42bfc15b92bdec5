/-
  For every list of whole numbers, of any length that can lie in memory, the call of the statement on rows of Add returns true and leaves the list as it was.
-/
import Derived.Test.YtcamlhpehnfnlabRows
import Derived.Test.YtcamlhpehnfnlabVf
import Derived.Test.YtcamlhpehnfnlabVg
import Derived.Deep.Cut
import Derived.ProofKit
import Derived.OpenShut
import Derived.Below
import Derived.Carry
import Derived.Deep.Slices
import Derived.Deep.QuietTactic
import Derived.BigQuiet
import Derived.WalkLawsBesides
namespace Go.Proofs.Ytcamlhpehnfnlab.twinRowsDone
open Go.ChangeShapes Go.WideShapes Go.ChangeAt Go.RowKit Go.Deep Tf

theorem own : ownKnob Try.prog.godebug = none := by kernel_rfl
theorem laidOut : laidOutB Try.prog = true := by kernel_rfl

theorem trod_int1 {H : Type} {enc : TypeId × Value → H} {P : Program} {w : World} {base : Nat} {spare : Nat → Bool} {held : Bool} {t : TypeId} {k : IntKind} {fuel : Nat} {v : Value} {x : DataW H × List MemPlace} (ht : P.underlying t = some (.int k)) (h : DataW.trod enc P w base spare held fuel t [v] = some x) :
    ∃ b, v = .int k b ∧ (Lit.int k b).wf = true := by
  cases fuel with
  | zero => simp [DataW.trod] at h
  | succ n =>
    unfold DataW.trod at h
    rw [ht] at h
    split at h <;> simp_all
theorem cell_block {w : World} {a : Addr} {v : Value} (h : w.cell? a = some v) : a.block < w.heap.size := by
  by_cases c : a.block < w.heap.size
  · exact c
  · exfalso
    have : w.heap[a.block]? = none := by simp; omega
    simp [World.cell?, this] at h

/-- what the walk is told of the list: it is nil, or it leads to so many whole numbers -/
def IsInts (w : World) (a : Option Addr) (len cap : Nat) : Prop :=
  len = 0 ∨
  ∃ b off, a = some ⟨b, off, none⟩ ∧ b < w.heap.size ∧ len ≤ cap ∧ cap ≤ maxLen ∧
    ∀ i, i < len → ∃ x : Int, w.cell? ⟨b, off + i, none⟩ = some (.int .i64 x) ∧ -9223372036854775808 ≤ x ∧ x ≤ 9223372036854775807

theorem tmod53 (v : Int) : (v.tmod 9007199254740992).natAbs < 9007199254740992 := by
  rw [Int.natAbs_tmod]
  exact Nat.mod_lt _ (by decide)
theorem foi (n : Int) : floatOfInt .f64 n = rn false (n * one) := ofInt_d n
theorem below_start (w : World) (n : Nat) (o o' : Obj) : Below w.heap.size w (((w.drewN n).alloc o).alloc o') := (below_drewN (Below.refl _ _) n).trans (below_new (w.drewN n) o o')

/-- an array by value into a new variable -/
theorem wpList_alloc_row {P : Program} {ops : Array Oper} {rest : List Oper} {o : Oper} {a : Act} {w : World} {Q : Exit → Act → World → Prop} (hgd : o.guard = none) (ty : TypeId) (ho : o.op = .alloc ty) (c : Array Value) (hz : ∀ w, (zeroValue ty).run P w = .ok (.agg c) w)
    (h : wpList P ops Q rest (a.put o.dst (.pointer (some ⟨w.heap.size, 0, none⟩))) (w.alloc (.cells c ty))) : wpList P ops Q (o :: rest) a w := by
  refine wpList_plain hgd fun K hK => ?_
  have hr : (execOp a.eval o).run P w = .ok (.value (.pointer (some ⟨w.heap.size, 0, none⟩))) (w.alloc (.cells c ty)) := by
    unfold execOp
    simp [ho, hz, go_sem]
  unfold Oper.wp
  rw [hr, Oper.upon_value]
  exact hK _ _ h

theorem enc_one (f : Nat → Int) : (enc f).all (·.oneCell') = true := by
  rw [Array.all_eq_true]; intro j hj; simp [enc]; rfl
/-- what holds ahead of a round -/
structure At (w : World) (len k h l : Nat) (S : Int) (wr : World) : Prop where
  k1 : k ≤ len
  k2 : k ≤ 1000
  inv : Inv k h l S
  sides : Sides w.heap.size (w.heap.size + 1) (S * ((2 ^ K : Nat) : Int) * ((2 ^ K : Nat) : Int)) (k * 8589934592) wr
  below : Below w.heap.size w wr

set_option maxHeartbeats 4000000 in
theorem walk (a0 : Option Addr) (len cap : Nat) (w : World) (h0 : IsInts w a0 len cap) :
    Calls Try.prog 4 #[.slice a0 len cap] w fun e w' => e = .returned (.bool true) ∧ Below w.heap.size w w' := by
  have AW := hid awake_any
  have hz := fun (w : World) => zero_words w
  rcases h0 with rfl | ⟨b, off, rfl, hb, hl, hm, hcells⟩
  · go_enter Try.func4, Try.ntmps4
    go_wp2_with fail
    refine (AW.out _).mono ?_
    rintro e w' ⟨rfl, n0, rfl⟩
    go_wp2
    go_loop [7] (fun iv => iv = .int .i64 0) (fun _ => 0)
    case atStart => rfl
    case round =>
      subst hrel
      go_wp2
      go_ret
      exact ⟨rfl, below_start _ _ _ _⟩
  · unfold maxLen at hm
    have HC := hid hcells
    clear hcells
    go_enter Try.func4, Try.ntmps4
    go_wp2_with fail
    refine (AW.out _).mono ?_
    rintro e w' ⟨rfl, n0, rfl⟩
    clear AW
    go_wp2
    go_loopw [3, 4, 7] (fun hv lv iv wr => ∃ (k h l : Nat) (S : Int), hv = .float .f64 h ∧ lv = .float .f64 l ∧ iv = .int .i64 k ∧ Hid (At w len k h l S wr)) (fun _ _ iv _ => len - (intOf iv).toNat)
    case atStart =>
      refine ⟨0, 0, 0, 0, rfl, rfl, rfl, by omega, by omega, inv_zero, ?_, below_start _ _ _ _⟩
      have s0 := sides_new (w.drewN n0)
      rw [Int.zero_mul, Int.zero_mul]
      exact s0
    case round =>
      obtain ⟨k, h, l, S, rfl, rfl, rfl, H⟩ := hrel
      by_cases hlt : k < len ∧ k < 1000
      · obtain ⟨v, hv, v0, v1⟩ := HC.out k hlt.1
        have cx : wr.cell? ⟨b, off + k, none⟩ = some (.int .i64 v) := by rw [H.out.below.cell (p := ⟨b, off + k, none⟩) hb]; exact hv
        have hn := tmod53 v
        obtain ⟨n, en⟩ : ∃ n, v.tmod 9007199254740992 = n := ⟨_, rfl⟩
        rw [en] at hn
        have I2 := hid (H.out.inv.step n hn hlt.2)
        obtain ⟨fx, ex⟩ := int_float n (by omega)
        have lx := rn_lt false (n * one)
        have hcv := fun (w : World) => run_convert_int_float (P := Try.prog) w 2 22 .i64 .f64 n (by kernel_rfl) (by kernel_rfl)
        rw [foi n] at hcv
        obtain ⟨x, hx⟩ : ∃ x, rn false (n * one) = x := ⟨_, rfl⟩
        rw [hx] at hcv fx ex lx I2
        obtain ⟨h2, hh2⟩ : ∃ r, addH h l x = r := ⟨_, rfl⟩
        obtain ⟨l2, hl2⟩ : ∃ r, addL h l x = r := ⟨_, rfl⟩
        rw [hh2, hl2] at I2
        have AD := hid (fun w => add_at h l x h2 l2 w H.out.inv.l1 H.out.inv.l2 lx hh2 hl2)
        have FH := hid (fun w => lfinite_at h2 true w I2.out.l1 (by unfold fin; exact decide_eq_true I2.out.f1))
        have FL := hid (fun w => lfinite_at l2 true w I2.out.l2 (by unfold fin; exact decide_eq_true I2.out.f2))
        have PX := hid (fun g h D B w s b => put_at x g h D B w lx fx s b)
        have PH := hid (fun g h D B w s b => put_at h2 g h D B w I2.out.l1 I2.out.f1 s b)
        have PL := hid (fun g h D B w s b => put_at l2 g h D B w I2.out.l2 I2.out.f2 s b)
        have EX := hid ex
        have d1 : (k : Int) < len := by omega
        have d2 : (k : Int) < 1000 := by omega
        have HL := hid hlt
        clear hv hn hx hh2 hl2 lx fx ex hlt
        go_wp2_with fail
        refine (AD.out _).mono ?_
        rintro e w' ⟨rfl, n1, rfl⟩
        go_wp2_with fail
        refine (PX.out w.heap.size (w.heap.size + 1) _ _ _ (H.out.sides.drewN n1) (by have := H.out.k2; omega)).mono ?_
        rintro e W2 ⟨rfl, s2, t2⟩
        have B2 := hid (t2.below (below_drewN H.out.below n1) (Nat.le_refl _) (by omega))
        obtain ⟨f, f', y1, y2, y3, y4, y5⟩ := s2.ex
        have Y1 := hid y1
        have Y2 := hid y2
        have Y3 := hid y3
        have Y4 := hid y4
        have Y5 := hid y5
        clear s2 t2 y1 y2 y3 y4 y5 AD PX
        go_wp2_with fail
        refine (FH.out _).mono ?_
        rintro e w' ⟨rfl, rfl⟩
        go_wp2_with fail
        refine (FL.out _).mono ?_
        rintro e w' ⟨rfl, rfl⟩
        clear FH FL
        go_upto_region 15 with fail
        rename_i K hK
        apply wp_region_lit
        refine wpList_load_row rfl 32 _ rfl w.heap.size rfl 32 (enc f) (0, 0) _ Y1.out Try.underlying32 rfl (by rw [enc_size]; exact size_words) ?_
        refine wpList_alloc_row rfl 32 rfl (enc fun _ => 0) zero_words ?_
        refine wpList_store_row rfl 32 _ _ rfl w'.heap.size (enc f) rfl rfl 32 (enc fun _ => 0) (heap_alloc_new _ _) (by rw [enc_size]; exact size_words) (by rw [enc_size, enc_size]) (enc_one f) ?_
        apply wpList_nil
        refine hK _ _ ?_
        clear hK K
        rw [World.setRow_alloc_new]
        go_upto_region 16 with fail
        rename_i K hK
        apply wp_region_lit
        have Y2' := hid (show (w'.alloc (.cells (enc f) 32)).heap[w.heap.size + 1]? = some (.cells (enc f') 32) by rw [Below.heap_alloc _ _ _ (row_lt _ _ _ Y2.out)]; exact Y2.out)
        refine wpList_load_row rfl 32 _ rfl (w.heap.size + 1) rfl 32 (enc f') (0, 0) _ Y2'.out Try.underlying32 rfl (by rw [enc_size]; exact size_words) ?_
        refine wpList_alloc_row rfl 32 rfl (enc fun _ => 0) zero_words ?_
        refine wpList_store_row rfl 32 _ _ rfl (w'.alloc (.cells (enc f) 32)).heap.size (enc f') rfl rfl 32 (enc fun _ => 0) (heap_alloc_new _ _) (by rw [enc_size]; exact size_words) (by rw [enc_size, enc_size]) (enc_one f') ?_
        apply wpList_nil
        refine hK _ _ ?_
        clear hK K
        rw [World.setRow_alloc_new]
        have S3 : Hid (Sides w'.heap.size (w'.heap.size + 1) (S * ((2 ^ K : Nat) : Int) * ((2 ^ K : Nat) : Int) + sv x * ((2 ^ K : Nat) : Int)) (k * 8589934592 + 8589934592) ((w'.alloc (.cells (enc f) 32)).alloc (.cells (enc f') 32))) :=
          ⟨by omega, f, f', heap_alloc2_old _ _ _, heap_alloc2_new _ _ _, Y3.out, Y4.out, Y5.out⟩
        have S4 : Hid (Sides w.heap.size (w.heap.size + 1) (S * ((2 ^ K : Nat) : Int) * ((2 ^ K : Nat) : Int) + sv x * ((2 ^ K : Nat) : Int)) (k * 8589934592 + 8589934592) ((w'.alloc (.cells (enc f) 32)).alloc (.cells (enc f') 32))) :=
          Sides.below (w := w') ⟨by omega, f, f', Y1.out, Y2.out, Y3.out, Y4.out, Y5.out⟩ (below_new _ _ _)
        have B4 : Hid (Below w.heap.size w ((w'.alloc (.cells (enc f) 32)).alloc (.cells (enc f') 32))) := B2.out.trans ((below_new w' _ _).mono B2.out.size)
        have hsz : ((w'.alloc (.cells (enc f) 32)).alloc (.cells (enc f') 32)).heap.size = w'.heap.size + 2 := by simp
        have hs1 : (w'.alloc (.cells (enc f) 32)).heap.size = w'.heap.size + 1 := by simp
        have low : Hid (w.heap.size + 1 < w'.heap.size) := row_lt _ _ _ Y2.out
        obtain ⟨W4, hW4⟩ : ∃ W, W = (w'.alloc (.cells (enc f) 32)).alloc (.cells (enc f') 32) := ⟨_, rfl⟩
        rw [hs1]
        rw [← hW4] at S3 S4 B4 hsz ⊢
        clear hW4 Y1 Y2 Y2' Y3 Y4 Y5 B2 hs1
        obtain ⟨o, ho⟩ : ∃ o, w'.heap.size = o := ⟨_, rfl⟩
        rw [ho] at S3 hsz low ⊢
        clear ho
        go_wp2_with fail
        refine (PH.out (o + 1) o _ _ _ S3.out.swap (by have := H.out.k2; omega)).mono ?_
        rintro e W5 ⟨rfl, s5, t5⟩
        have S5 := hid s5
        have T5 := hid t5
        clear s5 t5 S3
        go_wp2_with fail
        refine (PL.out (o + 1) o _ _ _ S5.out (by have := H.out.k2; omega)).mono ?_
        rintro e W6 ⟨rfl, s6, t6⟩
        have T6 := hid (T5.out.trans t6)
        have B6 := hid (T6.out.below B4.out (by have := low.out; omega) (by have := low.out; omega))
        have S6 : Hid (Sides w.heap.size (w.heap.size + 1) (S * ((2 ^ K : Nat) : Int) * ((2 ^ K : Nat) : Int) + sv x * ((2 ^ K : Nat) : Int)) (k * 8589934592 + 8589934592) W6) := by
          obtain ⟨p, p', q1, q2, q3, q4, q5⟩ := S4.out.ex
          have := low.out
          exact ⟨by omega, p, p', by rw [T6.out.block _ (by omega) (by omega)]; exact q1, by rw [T6.out.block _ (by omega) (by omega)]; exact q2, q3, q4, q5⟩
        obtain ⟨p, p', x1, x2, x3, x4, x5⟩ := s6.ex
        have hv : valN p' 150 = valN p 150 := by
          obtain ⟨M, L, eM, eL, eS, _⟩ := I2.out.sum
          rw [eM, eL, EX.out] at x3
          have e1 : M = S + n - L := by omega
          rw [e1, Int.sub_mul, Int.add_mul, Int.sub_mul, Int.add_mul] at x3
          generalize S * ((2 ^ K : Nat) : Int) * ((2 ^ K : Nat) : Int) = z1 at *
          generalize n * ((2 ^ K : Nat) : Int) * ((2 ^ K : Nat) : Int) = z2 at *
          generalize L * ((2 ^ K : Nat) : Int) * ((2 ^ K : Nat) : Int) = z3 at *
          omega
        have eqw := words_eq (dig (valN p 150))
        have hgd := words_guard
        have C1 : Hid (Calls Try.prog 13 #[.pointer (some ⟨o, 0, none⟩)] W6 fun r w' => r = .returned (.agg (enc (dig (valN p 150)))) ∧ Below W6.heap.size W6 w') :=
          carried_at _ p' _ W6 _ x2 x5 (by have := H.out.k2; omega) hv
        have C2 : Hid (∀ W7, Below W6.heap.size W6 W7 → Calls Try.prog 13 #[.pointer (some ⟨o + 1, 0, none⟩)] W7 fun r w' => r = .returned (.agg (enc (dig (valN p 150)))) ∧ Below W7.heap.size W7 w') := by
          intro W7 b7
          exact carried_at _ p _ W7 _ (by rw [b7.block _ (row_lt _ _ _ x1)]; exact x1) x4 (by have := H.out.k2; omega) rfl
        clear s6 t6 x1 x2 x3 x4 x5 hv S5 T5 T6 S4 B4 PH PL
        generalize dig (valN p 150) = d at *
        go_wp2_with fail
        refine C1.out.mono ?_
        rintro e W7 ⟨rfl, b7⟩
        have B7 := hid b7
        clear b7
        go_wp2_with fail
        refine (C2.out W7 B7.out).mono ?_
        rintro e W8 ⟨rfl, b8⟩
        have B8 : Hid (Below W6.heap.size W6 W8) := B7.out.trans (b8.mono B7.out.size)
        clear b8 C1 C2 B7
        go_wp2
        go_roundw
        case rel =>
          refine ⟨k + 1, h2, l2, S + n, rfl, rfl, by go_num, ?_⟩
          have hk := HL.out
          refine ⟨by omega, by omega, I2.out, ?_, B6.out.trans (B8.out.mono (Nat.le_trans B6.out.size (Nat.le_refl _)))⟩
          have := S6.out.below B8.out
          rw [EX.out] at this
          have e1 : (S + n) * ((2 ^ K : Nat) : Int) * ((2 ^ K : Nat) : Int) = S * ((2 ^ K : Nat) : Int) * ((2 ^ K : Nat) : Int) + n * ((2 ^ K : Nat) : Int) * ((2 ^ K : Nat) : Int) := by rw [Int.add_mul, Int.add_mul]
          have e2 : (((k + 1 : Nat) : Int) * 8589934592) = (k : Int) * 8589934592 + 8589934592 := by omega
          rw [e1, e2]
          exact this
        case measure =>
          have hk := HL.out
          simp [intOf]; omega
      · have HB := hid H.out.below
        by_cases c : k < len
        · obtain ⟨q, hq⟩ : ∃ q : Int, ((k : Nat) : Int) = q := ⟨_, rfl⟩
          have d1 : q < len := by omega
          have d2 : decide (q < 1000) = false := decide_eq_false (by omega)
          rw [hq]
          clear H hlt c hq HC hz hb hl hm
          go_wp2
          go_ret
          refine ⟨rfl, ?_⟩
          exact HB.out
        · have e : k = len := by have := H.out.k1; omega
          subst e
          clear H hlt c
          go_wp2
          go_ret
          exact ⟨rfl, HB.out⟩

theorem add_off (b off j : Nat) : (⟨b, off, none⟩ : Addr).add j = ⟨b, off + j, none⟩ := by
  by_cases c : j = 0
  · subst c; simp [Addr.add]
  · simp [Addr.add, c]
theorem ints_open {H : Type} {enc : TypeId × Value → H} {W : World} {a0 : Option Addr} {len0 cap0 : Nat} {fuel : Nat} {x : DataW H × List MemPlace}
    (hf : DataW.trod enc Try.prog W 0 (fun _ => true) true fuel 29 [.slice a0 len0 cap0] = some x) : IsInts W a0 len0 cap0 := by
  rcases open_slice1 Try.underlying29 (by kernel_rfl) hf with ⟨hcs, _⟩ | ⟨a, l, c, m, n, V, D, Pl, hcs, _, hl, hm, hmm, _, hx⟩
  · simp at hcs
    obtain ⟨rfl, rfl, rfl⟩ := hcs
    exact .inl rfl
  · simp at hcs
    obtain ⟨rfl, rfl, rfl⟩ := hcs
    by_cases z : len0 = 0
    · exact .inl z
    · simp only [if_true] at hmm
      have each : ∀ i, i < m → ∃ x : Int, W.cell? (a.add i) = some (.int .i64 x) ∧ -9223372036854775808 ≤ x ∧ x ≤ 9223372036854775807 := by
        intro i hi
        obtain ⟨h1, h2⟩ := hx i hi
        obtain ⟨x, e, wx⟩ := trod_int1 Try.underlying2 h2
        rw [e] at h1
        simp only [Lit.wf, Bool.and_eq_true, decide_eq_true_eq] at wx
        have q1 : IntKind.i64.min = -9223372036854775808 := by decide
        have q2 : IntKind.i64.max = 9223372036854775807 := by decide
        rw [q1, q2] at wx
        exact ⟨x, h1, wx.1, wx.2⟩
      obtain ⟨b, off, spot⟩ := a
      obtain ⟨x, c0, _⟩ := each 0 (by omega)
      have hspot : spot = none := by simpa [Addr.add] using World.cell?_spot c0
      subst hspot
      have hb : b < W.heap.size := by rw [add_off] at c0; exact cell_block c0
      refine .inr ⟨b, off, rfl, hb, hl, hm, fun i hi => ?_⟩
      have := each i (by omega)
      simpa only [add_off] using this

set_option maxRecDepth 100000 in
theorem lifted (os : Os) (started : os.Started) (H : Type) (enc : TypeId × Value → H) :
    ReturnsInHanded {} Try.checked os 4 .any (Rows.twinRowsSpec.pre6 enc Try.prog Try.f4 Rows.twinRowsRow.domain false) (Rows.twinRowsSpec.post enc Try.prog Try.f4 false true false false) := by
  refine returnsInHanded_of_change (C := Try.checked) own started (by kernel_rfl) Try.func4
    (ChangeSpec.witness6 (enc := enc) (C := Try.checked) false ⟨#[], #[.slice none 0 0], []⟩ 8 (by kernel_rfl) (by kernel_rfl) (by kernel_rfl) (by kernel_rfl)) ?_
  intro W base args ds gs before hval0 hW hcnd _
  have hval : ∀ (j : Nat) t v, Try.f4.params[j]? = some t → args[j]? = some v → Value.okWide Try.prog W .any base t v := hval0
  have hW' := hW
  obtain ⟨p, q, hA0, hV, rfl, hfz, hnd⟩ := hW
  have hA : DataW.TrodAll enc Try.prog W 0 (fun _ => true) true Try.f4.params.toList args.toList ds p := hA0
  rw [Try.params4] at hA hval
  obtain ⟨v0, vs0, d0, ds0, p0, q0, hargs, rfl, rfl, h0, r0⟩ := trodAll_cons hA
  obtain ⟨rfl, rfl, rfl⟩ := trodAll_nil r0
  obtain rfl : args = #[v0] := by cases args; simp_all
  obtain ⟨rfl, rfl⟩ := trodVars_none hV
  obtain ⟨a0, len0, cap0, rfl⟩ := okWide_slice Try.underlying29 (hval 0 29 v0 rfl rfl)
  have k0 := h0
  have lt0 : ∀ x ∈ p0, x.block < W.heap.size := by obtain ⟨m, hm⟩ := k0; exact DataW.trod_lt m _ _ _ hm
  have w0 : IsInts W a0 len0 cap0 := by
    obtain ⟨fuel, hf⟩ := h0
    exact ints_open hf
  clear hA0 hval0
  refine (walk a0 len0 cap0 W w0).mono fun e W' ⟨he, bel⟩ => ?_
  subst he
  exact ⟨_, rfl, _, _, _, [], _, [], hW', trodAll_mk1 (shut_bool Try.underlying4 _), (trodAll_cons_mk (Below.trod laidOut (by kernel_rfl) (of_decide_eq_true (by kernel_rfl)) k0 bel lt0) trodAll_mk0), rfl, bel.frame _, fun h => by cases h⟩

theorem over : Rows.twinRowsRow.holds Try.pinned (OpenSpec.ofChange Rows.twinRowsSpec) :=
  OpenClaim.holds_of_wide 4 Try.f4 rfl rfl rfl rfl rfl rfl rfl ⟨rfl, rfl, rfl, rfl, rfl⟩ rfl rfl rfl rfl rfl (by kernel_rfl) Try.func4 (by kernel_rfl)
    (of_decide_eq_true (by kernel_rfl)) (by unfold Func.isWrapper; first | (rw [if_pos (by decide +kernel)]; kernel_rfl) | (rw [if_neg (by decide +kernel)]; exact ⟨rfl, rfl⟩))
    (fun os started H enc _ => lifted os started H enc)

end Go.Proofs.Ytcamlhpehnfnlab.twinRowsDone
namespace Go.Proofs.Ytcamlhpehnfnlab
theorem twinRows_holds : Rows.TwinRowsSaid := twinRowsDone.over
#print axioms twinRows_holds
end Go.Proofs.Ytcamlhpehnfnlab
