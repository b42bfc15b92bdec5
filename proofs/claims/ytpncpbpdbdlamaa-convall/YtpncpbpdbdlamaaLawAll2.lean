/-
  For every list of arguments, of any bits and any length that can lie in memory, the call of the statement on all of package conv against the document's answers returns true and leaves the list as it was.
-/
import Derived.Test.YtpncpbpdbdlamaaWl
namespace Go.Proofs.Ytpncpbpdbdlamaa.convAllDone
open Go.ChangeShapes Go.WideShapes Go.ChangeAt Go.RowKit Go.Deep Tf Ref2

theorem trod_float {H : Type} {enc : TypeId × Value → H} {P : Program} {w : World} {base : Nat} {spare : Nat → Bool} {held : Bool} {t : TypeId} {fuel : Nat} {v : Value} {x : DataW H × List MemPlace} (ht : P.underlying t = some (.float .f64)) (h : DataW.trod enc P w base spare held fuel t [v] = some x) :
    ∃ b, v = .float .f64 b ∧ (Lit.float .f64 b).wf = true := by
  cases fuel with
  | zero => simp [DataW.trod] at h
  | succ n =>
    unfold DataW.trod at h
    rw [ht] at h
    split at h <;> simp_all
theorem trod_int1 {H : Type} {enc : TypeId × Value → H} {P : Program} {w : World} {base : Nat} {spare : Nat → Bool} {held : Bool} {t : TypeId} {fuel : Nat} {k : IntKind} {v : Value} {x : DataW H × List MemPlace} (ht : P.underlying t = some (.int k)) (h : DataW.trod enc P w base spare held fuel t [v] = some x) :
    ∃ n, v = .int k n ∧ (Lit.int k n).wf = true := by
  cases fuel with
  | zero => simp [DataW.trod] at h
  | succ n =>
    unfold DataW.trod at h
    rw [ht] at h
    split at h <;> simp_all
theorem add_off (b off j : Nat) : (⟨b, off, none⟩ : Addr).add j = ⟨b, off + j, none⟩ := by
  by_cases c : j = 0
  · subst c; simp [Addr.add]
  · simp [Addr.add, c]

theorem rows_open {H : Type} {enc : TypeId × Value → H} {W : World} {a0 : Option Addr} {len0 cap0 : Nat} {fuel : Nat} {x : DataW H × List MemPlace}
    (hf : DataW.trod enc Try.prog W 0 (fun _ => true) true fuel 22 [.slice a0 len0 cap0] = some x) : IsRows W a0 len0 cap0 := by
  rcases open_slice Try.underlying22 hf with ⟨hcs, _⟩ | ⟨a, l, c, m, n, D, Pl, hcs, _, hl, hm, hmm, _, hx⟩
  · simp at hcs
    obtain ⟨rfl, rfl, rfl⟩ := hcs
    exact .inl rfl
  · simp at hcs
    obtain ⟨rfl, rfl, rfl⟩ := hcs
    by_cases z : len0 = 0
    · exact .inl z
    · simp only [if_true] at hmm
      have ce : Try.prog.cellsOf 28 = 5 := by kernel_rfl
      have each : ∀ i, i < m → ∃ (x h32 h16 : Nat) (most i' : Int),
          W.cell? (a.add (i * 5)) = some (.float .f64 x) ∧ W.cell? (a.add (i * 5 + 1)) = some (.int .i64 most) ∧ W.cell? (a.add (i * 5 + 2)) = some (.int .i64 i') ∧ W.cell? (a.add (i * 5 + 3)) = some (.int .u32 (h32 : Nat)) ∧ W.cell? (a.add (i * 5 + 4)) = some (.int .u16 (h16 : Nat)) ∧
          x < 18446744073709551616 ∧ most ≤ 9223372036854775807 ∧ -9223372036854775808 ≤ i' ∧ i' ≤ 9223372036854775807 ∧ h32 < 4294967296 ∧ h16 < 65536 := by
        intro i hi
        obtain ⟨cs', h1, h2⟩ := hx i hi
        rw [ce] at h1
        obtain ⟨_, hlen, hcell⟩ := World.cells?_some h1
        obtain ⟨xs, k, hk, hxy, _, hxl, hf⟩ := DataW.trod_struct Try.underlying28 h2
        match xs, hxl, cs', hlen with
        | [y0, y1, y2, y3, y4], _, [v0, v1, v2, v3, v4], _ =>
          have g0 := hf 0 _ rfl
          have g1 := hf 1 _ rfl
          have g2 := hf 2 _ rfl
          have g3 := hf 3 _ rfl
          have g4 := hf 4 _ rfl
          have k0 : Try.prog.cellsOf 24 = 1 := by kernel_rfl
          have k1 : Try.prog.cellsOf 2 = 1 := by kernel_rfl
          have k3 : Try.prog.cellsOf 25 = 1 := by kernel_rfl
          have k4 : Try.prog.cellsOf 26 = 1 := by kernel_rfl
          simp [k0] at g0
          simp [k1] at g1 g2
          simp [k3] at g3
          simp [k4] at g4
          obtain ⟨x, rfl, wx⟩ := trod_float Try.underlying24 g0
          obtain ⟨most, rfl, wm⟩ := trod_int1 Try.underlying2 g1
          obtain ⟨i', rfl, wi'⟩ := trod_int1 Try.underlying2 g2
          obtain ⟨h32, rfl, w32⟩ := trod_int1 Try.underlying25 g3
          obtain ⟨h16, rfl, w16⟩ := trod_int1 Try.underlying26 g4
          have e0 := hcell 0 (by omega)
          have e1 := hcell 1 (by omega)
          have e2 := hcell 2 (by omega)
          have e3 := hcell 3 (by omega)
          have e4 := hcell 4 (by omega)
          rw [add_add] at e0 e1 e2 e3 e4
          simp only [Lit.wf, Bool.and_eq_true, decide_eq_true_eq] at wm wi' w32 w16
          have q1 : IntKind.i64.min = -9223372036854775808 := by decide
          have q2 : IntKind.i64.max = 9223372036854775807 := by decide
          have q3 : IntKind.u32.min = 0 := by decide
          have q4 : IntKind.u32.max = 4294967295 := by decide
          have q5 : IntKind.u16.min = 0 := by decide
          have q6 : IntKind.u16.max = 65535 := by decide
          rw [q1, q2] at wm wi'
          rw [q3, q4] at w32
          rw [q5, q6] at w16
          obtain ⟨b32, rfl⟩ : ∃ b : Nat, h32 = b := ⟨h32.toNat, by omega⟩
          obtain ⟨b16, rfl⟩ : ∃ b : Nat, h16 = b := ⟨h16.toNat, by omega⟩
          exact ⟨x, b32, b16, most, i', by simpa using e0, by simpa using e1, by simpa using e2, by simpa using e3, by simpa using e4, lit_lt wx, by omega, by omega, by omega, by omega, by omega⟩
      obtain ⟨b, off, spot⟩ := a
      obtain ⟨x, h32, h16, most, i', c0, _⟩ := each 0 (by omega)
      have hspot : spot = none := by simpa [Addr.add] using World.cell?_spot c0
      subst hspot
      have hb : b < W.heap.size := by rw [add_off] at c0; exact cell_block c0
      refine .inr ⟨b, off, rfl, hb, hl, hm, fun i hi => ?_⟩
      have := each i (by omega)
      simp only [add_off] at this
      simpa only [RowAt, Nat.add_assoc] using this

set_option maxRecDepth 100000 in
theorem lifted (os : Os) (started : os.Started) (H : Type) (enc : TypeId × Value → H) :
    ReturnsInHanded {} Try.checked os 3 .any (Rows.convAllSpec.pre6 enc Try.prog Try.f3 Rows.convAllRow.domain false) (Rows.convAllSpec.post enc Try.prog Try.f3 false true false false) := by
  refine returnsInHanded_of_change (C := Try.checked) own started (by kernel_rfl) Try.func3
    (ChangeSpec.witness6 (enc := enc) (C := Try.checked) false ⟨#[], #[.slice none 0 0], []⟩ 8 (by kernel_rfl) (by kernel_rfl) (by kernel_rfl) (by kernel_rfl)) ?_
  intro W base args ds gs before hval0 hW hcnd _
  have hval : ∀ (j : Nat) t v, Try.f3.params[j]? = some t → args[j]? = some v → Value.okWide Try.prog W .any base t v := hval0
  have hW' := hW
  obtain ⟨p, q, hA0, hV, rfl, hfz, hnd⟩ := hW
  have hA : DataW.TrodAll enc Try.prog W 0 (fun _ => true) true Try.f3.params.toList args.toList ds p := hA0
  rw [Try.params3] at hA hval
  obtain ⟨v0, vs0, d0, ds0, p0, q0, hargs, rfl, rfl, h0, r0⟩ := trodAll_cons hA
  obtain ⟨rfl, rfl, rfl⟩ := trodAll_nil r0
  obtain rfl : args = #[v0] := by cases args; simp_all
  obtain ⟨rfl, rfl⟩ := trodVars_none hV
  obtain ⟨a0, len0, cap0, rfl⟩ := okWide_slice Try.underlying22 (hval 0 22 v0 rfl rfl)
  have k0 := h0
  have lt0 : ∀ x ∈ p0, x.block < W.heap.size := by obtain ⟨m, hm⟩ := k0; exact DataW.trod_lt m _ _ _ hm
  have w0 : IsRows W a0 len0 cap0 := by
    obtain ⟨fuel, hf⟩ := h0
    exact rows_open (by simpa [Value.cells] using hf)
  clear hA0 hval0
  refine (walk a0 len0 cap0 W w0).mono fun e W' ⟨he, bel⟩ => ?_
  subst he
  exact ⟨_, rfl, _, _, _, [], _, [], hW', trodAll_mk1 (shut_bool Try.underlying4 _), (trodAll_cons_mk (Below.trod laidOut (by kernel_rfl) (of_decide_eq_true (by kernel_rfl)) k0 bel lt0) trodAll_mk0), rfl, bel.frame _, fun h => by cases h⟩

theorem over : Rows.convAllRow.holds Try.pinned (OpenSpec.ofChange Rows.convAllSpec) :=
  OpenClaim.holds_of_wide 3 Try.f3 rfl rfl rfl rfl rfl rfl rfl ⟨rfl, rfl, rfl, rfl, rfl⟩ rfl rfl rfl rfl rfl (by kernel_rfl) Try.func3 (by kernel_rfl)
    (of_decide_eq_true (by kernel_rfl)) (by unfold Func.isWrapper; first | (rw [if_pos (by decide +kernel)]; kernel_rfl) | (rw [if_neg (by decide +kernel)]; exact ⟨rfl, rfl⟩))
    (fun os started H enc _ => lifted os started H enc)

end Go.Proofs.Ytpncpbpdbdlamaa.convAllDone
namespace Go.Proofs.Ytpncpbpdbdlamaa
theorem convAll_holds : Rows.ConvAllSaid := convAllDone.over
#print axioms convAll_holds
end Go.Proofs.Ytpncpbpdbdlamaa
