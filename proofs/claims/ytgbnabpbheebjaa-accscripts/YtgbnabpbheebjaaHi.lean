/-
  The statement on scripts of calls: a walk over the program.
-/
import Derived.Test.YtgbnabpbheebjaaHh
import Derived.Deep.Cut
import Derived.Deep.CutRange
import Derived.Deep.RegionWith
import Derived.BigQuiet
import Derived.Deep.Quiet
namespace Go.Proofs.Ytgbnabpbheebjaa
open Go.RowKit Tf
attribute [local go_sem] run_bits run_from raw_feq raw_fne raw_flt raw_fgt

/-- the worlds in which all older blocks are as they were, under one name -/
theorem cls (w : World) (n : Nat) : ∃ (U : Type) (F : U → World), Nonempty U ∧ (∀ u, Below n w (F u)) ∧ (∀ w', Below n w w' → ∃ u, w' = F u) :=
  ⟨{u : World // Below n w u}, Subtype.val, ⟨⟨w, Below.refl _ _⟩⟩, fun u => u.2, fun w' h => ⟨⟨w', h⟩, rfl⟩⟩
theorem region_cls {P : Program} {id : Nat} {Q : Exit → Act → World → Prop} {a : Act} {w : World} {l : List Oper} {U : Type} (F : U → World) (hm : P.follows .mixedOrders = true) (hB : Region.lexB .any l.toArray = true)
    (hC : ∃ u, w.drew = F u)
    (h : wpQuiet P l.toArray (fun w' => ∃ u, w' = F u) (fun a' => ∀ w', (∃ u, w' = F u) → Q .normal a' w') l a) : (Code.region id l.toArray true).wp P Q a w :=
  wp_region_quiet (C := fun w' => ∃ u, w' = F u) hm hB hC (by simpa using h)
theorem calls_cls {P : Program} {f : FuncId} {args : Array Value} {w : World} {U : Type} {F : U → World} {v : Value} {n : Nat} {w0 : World} (hF : Hid (∀ w', Below n w0 w' → ∃ u, w' = F u))
    (h : Calls P f args w fun e w' => e = .returned v ∧ Hid (Below n w0 w')) : Calls P f args w fun e w'' => e = .returned v ∧ ∃ u, w'' = F u :=
  h.mono fun _ _ ⟨he, hb⟩ => ⟨he, hF.out _ hb.out⟩
theorem run_store_flt {P : Program} (w : World) (a : Addr) (k : FloatKind) (b : Nat) (m : Mode) : (store a (.float k b) m).run P w = stored P w a (.float k b) m := run_store P w a _ m rfl
attribute [local go_sem] run_store_flt
/-- one call of a script, in memory -/
def OpAt (w : World) (b o : Nat) : Prop := ∃ (K W V : Int) (x y : Nat), w.cell? ⟨b, o, none⟩ = some (.int .i64 K) ∧ w.cell? ⟨b, o + 1, none⟩ = some (.int .i64 W) ∧ w.cell? ⟨b, o + 2, none⟩ = some (.int .i64 V) ∧ w.cell? ⟨b, o + 3, none⟩ = some (.float .f64 x) ∧ w.cell? ⟨b, o + 4, none⟩ = some (.float .f64 y) ∧ x < 18446744073709551616 ∧ y < 18446744073709551616 ∧ (-9223372036854775808 ≤ W ∧ W ≤ 9223372036854775807) ∧ (-9223372036854775808 ≤ V ∧ V ≤ 9223372036854775807)
theorem rel0 (w w1 : World) (hb : Below w.heap.size w w1) (W : World) (hW : W = (((((w1.alloc (.cells (encA S0) 56)).alloc (.cells (encA S0) 56)).alloc (.cells #[pt w1.heap.size, pt (w1.heap.size + 1), .pointer none] 24)).alloc (.cells (encR (fun _ => 0) 0 false false false false) 59)).alloc (.cells (encR (fun _ => 0) 0 false false false false) 59)).alloc (.cells #[pt (w1.heap.size + 3), pt (w1.heap.size + 4), .pointer none] 27)) :
    Rel w W ⟨w1.heap.size, w1.heap.size + 1, w1.heap.size + 2, w1.heap.size + 3, w1.heap.size + 4, w1.heap.size + 5⟩ (fun _ => S0) (fun _ => S0) W := by
  have hs := hb.size
  have z1 : ∀ a, (w1.alloc a).heap.size = w1.heap.size + 1 := fun a => by simp
  have z2 : ∀ a b, ((w1.alloc a).alloc b).heap.size = w1.heap.size + 2 := fun a b => by simp
  have z3 : ∀ a b c, (((w1.alloc a).alloc b).alloc c).heap.size = w1.heap.size + 3 := fun a b c => by simp
  have z4 : ∀ a b c d, ((((w1.alloc a).alloc b).alloc c).alloc d).heap.size = w1.heap.size + 4 := fun a b c d => by simp
  have z5 : ∀ a b c d e, (((((w1.alloc a).alloc b).alloc c).alloc d).alloc e).heap.size = w1.heap.size + 5 := fun a b c d e => by simp
  have z6 : W.heap.size = w1.heap.size + 6 := by rw [hW]; simp
  have r4 := ref0 (((w1.alloc (.cells (encA S0) 56)).alloc (.cells (encA S0) 56)).alloc (.cells #[pt w1.heap.size, pt (w1.heap.size + 1), .pointer none] 24))
  have r5 := ref0 ((((w1.alloc (.cells (encA S0) 56)).alloc (.cells (encA S0) 56)).alloc (.cells #[pt w1.heap.size, pt (w1.heap.size + 1), .pointer none] 24)).alloc (.cells (encR (fun _ => 0) 0 false false false false) 59))
  rw [z3] at r4
  rw [z4] at r5
  have bl : Below w.heap.size w W := by
    rw [hW]
    exact (((((hb.alloc hs _).alloc (by rw [z1]; omega) _).alloc (by rw [z2]; omega) _).alloc (by rw [z3]; omega) _).alloc (by rw [z4]; omega) _).alloc (by rw [z5]; omega) _
  refine ⟨⟨Nat.le_refl _, fun _ _ _ => rfl⟩, bl, ⟨hs, by simp only []; omega, by simp only []; omega, by simp only []; omega, by simp only []; omega, by simp only []; omega, by rw [z6]; simp only []; omega⟩, ?_, ?_, ?_, ?_, ?_, ?_, fun _ => good0, fun _ => good0, fun _ _ => rfl, fun _ _ => rfl⟩
  · show IsAcc _ S0 W
    rw [hW]
    exact ((((IsAcc.alloc (heap_alloc_new _ _) _).alloc _).alloc _).alloc _).alloc _
  · show IsAcc _ S0 W
    rw [hW]
    have : IsAcc (w1.heap.size + 1) S0 ((w1.alloc (.cells (encA S0) 56)).alloc (.cells (encA S0) 56)) := by
      have h := heap_alloc_new (w1.alloc (.cells (encA S0) 56)) (.cells (encA S0) 56)
      rw [z1] at h; exact h
    exact (((this.alloc _).alloc _).alloc _).alloc _
  · show IsRef _ S0 W
    rw [hW]
    refine r4.of_block ?_
    rw [Below.heap_alloc _ _ _ (by rw [z5]; omega), Below.heap_alloc _ _ _ (by rw [z4]; omega)]
  · show IsRef _ S0 W
    rw [hW]
    refine r5.of_block ?_
    rw [Below.heap_alloc _ _ _ (by rw [z5]; omega)]
  · show W.heap[w1.heap.size + 2]? = _
    rw [hW, Below.heap_alloc _ _ _ (by rw [z5]; omega), Below.heap_alloc _ _ _ (by rw [z4]; omega), Below.heap_alloc _ _ _ (by rw [z3]; omega)]
    have h := heap_alloc_new ((w1.alloc (.cells (encA S0) 56)).alloc (.cells (encA S0) 56)) (.cells #[pt w1.heap.size, pt (w1.heap.size + 1), .pointer none] 24)
    rw [z2] at h; exact h
  · show W.heap[w1.heap.size + 5]? = _
    rw [hW]
    have h := heap_alloc_new (((((w1.alloc (.cells (encA S0) 56)).alloc (.cells (encA S0) 56)).alloc (.cells #[pt w1.heap.size, pt (w1.heap.size + 1), .pointer none] 24)).alloc (.cells (encR (fun _ => 0) 0 false false false false) 59)).alloc (.cells (encR (fun _ => 0) 0 false false false false) 59)) (.cells #[pt (w1.heap.size + 3), pt (w1.heap.size + 4), .pointer none] 27)
    rw [z5] at h; exact h
set_option maxHeartbeats 8000000 in
set_option maxRecDepth 100000 in
theorem scr_go (b off len cap : Nat) (w : World) (hl : (len : Int) ≤ 65536) (l0 : (0 : Int) < len) (hcap : (len : Int) ≤ cap) (HC : Hid (b < w.heap.size ∧ ∀ i, i < len → OpAt w b (off + i * 5))) :
    Calls Try.prog 3 #[.slice (some ⟨b, off, none⟩) len cap] w fun e w' => e = .returned (.bool true) ∧ Below w.heap.size w w' := by
  have AW := hid awake_any
  have gl : decide (65536 < (len : Int)) = false := by simp; omega
  go_enter Try.func3, Try.ntmps3
  go_wp2_with fail
  refine (AW.out _).mono ?_
  rintro e w1 ⟨rfl, b1⟩
  go_wp2_with fail
  refine (new_go _).mono ?_
  rintro e w2 ⟨rfl, rfl⟩
  go_wp2_with fail
  refine (new_go _).mono ?_
  rintro e w3 ⟨rfl, rfl⟩
  go_wp2_with fail
  refine (rnew_go _).mono ?_
  rintro e w4 ⟨rfl, rfl⟩
  go_wp2_with fail
  refine (rnew_go _).mono ?_
  rintro e w5 ⟨rfl, rfl⟩
  go_wp2
  obtain ⟨W, hW⟩ : ∃ W, W = (((((w1.alloc (.cells (encA S0) 56)).alloc (.cells (encA S0) 56)).alloc (.cells #[pt w1.heap.size, pt (w1.heap.size + 1), .pointer none] 24)).alloc (.cells (encR (fun _ => 0) 0 false false false false) 59)).alloc (.cells (encR (fun _ => 0) 0 false false false false) 59)).alloc (.cells #[pt (w1.heap.size + 3), pt (w1.heap.size + 4), .pointer none] 27) := ⟨_, rfl⟩
  have R0 := rel0 w w1 b1.out W hW
  have hW' : ((((((w1.alloc (.cells (encA S0) 56)).alloc (.cells (encA S0) 56)).alloc (.cells #[.pointer (some ⟨w1.heap.size, 0, none⟩), .pointer (some ⟨w1.heap.size + 1, 0, none⟩), .pointer none] 24)).alloc (.cells (encR (fun _ => 0) 0 false false false false) 59)).alloc (.cells (encR (fun _ => 0) 0 false false false false) 59)).alloc (.cells #[.pointer (some ⟨w1.heap.size + 1 + 1 + 1, 0, none⟩), .pointer (some ⟨w1.heap.size + 1 + 1 + 1 + 1, 0, none⟩), .pointer none] 27)) = W := hW.symm
  rw [hW']
  obtain ⟨g5, hg5⟩ : ∃ g, w1.heap.size + 1 + 1 + 1 + 1 + 1 = g := ⟨_, rfl⟩
  rw [hg5]
  obtain ⟨g2, hg2⟩ : ∃ g, w1.heap.size + 1 + 1 = g := ⟨_, rfl⟩
  rw [hg2]
  obtain ⟨B, hB⟩ : ∃ B : Bk, B = ⟨w1.heap.size, w1.heap.size + 1, w1.heap.size + 2, w1.heap.size + 3, w1.heap.size + 4, w1.heap.size + 5⟩ := ⟨_, rfl⟩
  rw [← hB] at R0
  have e2 : B.la = g2 := by rw [hB]; exact hg2
  have e5 : B.lb = g5 := by rw [hB]; exact hg5
  have HR0 := hid R0
  have HE := hid (⟨e2, e5⟩ : B.la = g2 ∧ B.lb = g5)
  clear R0 hW hW' hg5 hg2 hB e2 e5 b1
  go_loopw [6] (fun iv wr => ∃ i : Nat, i ≤ len ∧ iv = .int .i64 (i : Nat) ∧ ∃ T, Hid (Rel w wr B T T wr)) (fun iv _ => len - (intOf iv).toNat)
  case atStart => exact ⟨0, by omega, rfl, _, HR0⟩
  case round =>
    clear HR0
    obtain ⟨i, hi, rfl, T, hr⟩ := hrel
    by_cases hlt : i < len
    · obtain ⟨K, Wv, Vv, x, y, c0, c1, c2, c3, c4, hx, hy, hw3, hv3⟩ := HC.out.2 i hlt
      have bel := hr.out.bel
      have hb := HC.out.1
      have d0 : wr.cell? ⟨b, off + i * 5, none⟩ = some (.int .i64 K) := by rw [bel.cell (p := ⟨b, off + i * 5, none⟩) hb]; exact c0
      have d1 : wr.cell? ⟨b, off + i * 5 + 1, none⟩ = some (.int .i64 Wv) := by rw [bel.cell (p := ⟨b, off + i * 5 + 1, none⟩) hb]; exact c1
      have d2 : wr.cell? ⟨b, off + i * 5 + 2, none⟩ = some (.int .i64 Vv) := by rw [bel.cell (p := ⟨b, off + i * 5 + 2, none⟩) hb]; exact c2
      have d3 : wr.cell? ⟨b, off + i * 5 + 3, none⟩ = some (.float .f64 x) := by rw [bel.cell (p := ⟨b, off + i * 5 + 3, none⟩) hb]; exact c3
      have d4 : wr.cell? ⟨b, off + i * 5 + 4, none⟩ = some (.float .f64 y) := by rw [bel.cell (p := ⟨b, off + i * 5 + 4, none⟩) hb]; exact c4
      have u0 : ∀ k : Int, 0 ≤ IntKind.u64.wrap k := fun k => by rw [u64wr]; omega
      have u1 : ∀ k : Int, (IntKind.u64.wrap k).tmod 3 = (IntKind.u64.wrap k) % 3 := fun k => Int.tmod_eq_emod_of_nonneg (u0 k)
      obtain ⟨kw, hkw⟩ : ∃ kw : Nat, (IntKind.u64.wrap Wv).tmod 3 = (kw : Int) := ⟨((IntKind.u64.wrap Wv) % 3).toNat, by rw [u1]; have := u0 Wv; omega⟩
      obtain ⟨kv, hkv⟩ : ∃ kv : Nat, (IntKind.u64.wrap Vv).tmod 3 = (kv : Int) := ⟨((IntKind.u64.wrap Vv) % 3).toNat, by rw [u1]; have := u0 Vv; omega⟩
      have kw3 : (kw : Int) < 3 := by rw [← hkw, u1]; have := u0 Wv; omega
      have kv3 : (kv : Int) < 3 := by rw [← hkv, u1]; have := u0 Vv; omega
      have HI : Hid (i < len) := hlt
      have il : (i : Int) < len := by omega
      have icap : (i : Int) < cap := by omega
      have R1 : Hid (Rel w (wr.alloc (.cells #[.int .i64 K, .int .i64 Wv, .int .i64 Vv, .float .f64 x, .float .f64 y] 32)) B T T (wr.alloc (.cells #[.int .i64 K, .int .i64 Wv, .int .i64 Vv, .float .f64 x, .float .f64 y] 32))) := (hr.out.below ((Below.refl _ _).alloc (Nat.le_refl _) _)).base
      have HX := hid hx
      have HY := hid hy
      clear u0 u1 c0 c1 c2 c3 c4 hlt hi bel hb hx hy
      go_upto_region 13 with fail
      go_step
      go_step
      go_step
      go_step
      go_step
      go_step
      go_step
      go_step
      obtain ⟨V, hV⟩ : ∃ V, wr.alloc (.cells #[.int .i64 K, .int .i64 Wv, .int .i64 Vv, .float .f64 x, .float .f64 y] 32) = V := ⟨_, rfl⟩
      obtain ⟨q, hq⟩ : ∃ q, wr.heap.size = q := ⟨_, rfl⟩
      have v0 : V.cell? ⟨q, 0, none⟩ = some (.int .i64 K) := by rw [← hV, ← hq, World.cell?_alloc_at _ _ _ _ rfl]; rfl
      have v3 : V.cell? ⟨q, 3, none⟩ = some (.float .f64 x) := by rw [← hV, ← hq, World.cell?_alloc_at _ _ _ _ rfl]; rfl
      have v4 : V.cell? ⟨q, 4, none⟩ = some (.float .f64 y) := by rw [← hV, ← hq, World.cell?_alloc_at _ _ _ _ rfl]; rfl
      have qV : B.lb < q ∧ q < V.heap.size := by rw [← hV, ← hq]; exact ⟨hr.out.d.2.2.2.2.2.2, by simp⟩
      rw [hV] at R1
      rw [hV, hq]
      have HQ := hid qV
      have ca : V.cell? ⟨g2, kw, none⟩ = some (pa B kw) := by rw [← HE.out.1]; exact R1.out.ca kw (by omega)
      have ca' : V.cell? ⟨g2, kv, none⟩ = some (pa B kv) := by rw [← HE.out.1]; exact R1.out.ca kv (by omega)
      have KC : Hid (∀ (T' U' : Nat → AS) (z : World), Rel w V B T' U' z → z.cell? ⟨g5, kw, none⟩ = some (pb B kw) ∧ z.cell? ⟨g5, kv, none⟩ = some (pb B kv) ∧ z.cell? ⟨q, 3, none⟩ = some (.float .f64 x) ∧ z.cell? ⟨q, 4, none⟩ = some (.float .f64 y)) := by
        intro T' U' z hz
        rw [← HE.out.2]
        exact ⟨hz.cb kw (by omega), hz.cb kv (by omega), (hz.co q 3 HQ.out.1 HQ.out.2).trans v3, (hz.co q 4 HQ.out.1 HQ.out.2).trans v4⟩
      clear hV hq hr d0 d1 d2 d3 d4 qV
      go_cut [10, 11] from 28 to 148 (fun s10 s11 wx => ∃ (e : Int) (T' : Nat → AS), s10 = .int .i64 e ∧ s11 = .int .i64 e ∧ Hid (Rel w V B T' T' wx))
      case first =>
        have R2 : Hid (Rel w V B T T V.drew) := R1.out.below (Below.refl _ _).drew
        by_cases k1 : K = 1
        · subst k1
          go_upto_region 16 with fail
          go_cut [10] from 28 to 148 (fun s10 wx => s10 = .int .i64 (eOne T kw) ∧ Hid (Rel w V B (nOne (fun S => stepA S x) T kw) T wx))
          case first =>
            go_region_with (go_at_call 12; refine (addA w V B T T kw x HX.out _ R2.out).mono ?_; rintro e z1 ⟨rfl, r1⟩)
            all_goals (try go_wp2_with fail)
            all_goals go_meet
            all_goals exact ⟨rfl, r1⟩
          case rest =>
            obtain ⟨rfl, r1⟩ := hcut
            obtain ⟨y1, y2, y3, y4⟩ := KC.out _ _ wc r1.out
            have r2 : Hid (Rel w V B _ T wc.drew) := r1.out.below (Below.refl _ _).drew
            clear r1 ca ca' KC R1 R2 v0 v3 v4
            go_wp2_with fail
            go_region_with (go_at_call 13; refine (addR w V B _ T kw x HX.out _ r2.out).mono ?_; rintro e z2 ⟨rfl, r3⟩)
            all_goals (try go_wp2_with fail)
            all_goals go_meet
            all_goals exact ⟨_, _, rfl, rfl, r3⟩
        by_cases k2 : K = 2
        · subst k2
          go_upto_region 19 with fail
          go_cut [10] from 28 to 148 (fun s10 wx => s10 = .int .i64 (eOne T kw) ∧ Hid (Rel w V B (nOne (fun S => stepP S x y) T kw) T wx))
          case first =>
            go_region_with (go_at_call 14; refine (prodA w V B T T kw x y HX.out HY.out _ R2.out).mono ?_; rintro e z1 ⟨rfl, r1⟩)
            all_goals (try go_wp2_with fail)
            all_goals go_meet
            all_goals exact ⟨rfl, r1⟩
          case rest =>
            obtain ⟨rfl, r1⟩ := hcut
            obtain ⟨y1, y2, y3, y4⟩ := KC.out _ _ wc r1.out
            have r2 : Hid (Rel w V B _ T wc.drew) := r1.out.below (Below.refl _ _).drew
            clear r1 ca ca' KC R1 R2 v0 v3 v4
            go_wp2_with fail
            go_region_with (go_at_call 15; refine (prodR w V B _ T kw x y HX.out HY.out _ r2.out).mono ?_; rintro e z2 ⟨rfl, r3⟩)
            all_goals (try go_wp2_with fail)
            all_goals go_meet
            all_goals exact ⟨_, _, rfl, rfl, r3⟩
        by_cases k3 : K = 3
        · subst k3
          go_upto_region 22 with fail
          go_cut [10] from 28 to 148 (fun s10 wx => s10 = .int .i64 (eMer T kw kv) ∧ Hid (Rel w V B (nMer T kw kv) T wx))
          case first =>
            go_region_with (go_at_call 16; refine (merA w V B T T kw kv _ R2.out).mono ?_; rintro e z1 ⟨rfl, r1⟩)
            all_goals (try go_wp2_with fail)
            all_goals go_meet
            all_goals exact ⟨rfl, r1⟩
          case rest =>
            obtain ⟨rfl, r1⟩ := hcut
            obtain ⟨y1, y2, y3, y4⟩ := KC.out _ _ wc r1.out
            have r2 : Hid (Rel w V B _ T wc.drew) := r1.out.below (Below.refl _ _).drew
            clear r1 ca ca' KC R1 R2 v0 v3 v4
            go_wp2_with fail
            go_region_with (go_at_call 17; refine (merR w V B _ T kw kv _ r2.out).mono ?_; rintro e z2 ⟨rfl, r3⟩)
            all_goals (try go_wp2_with fail)
            all_goals go_meet
            all_goals exact ⟨_, _, rfl, rfl, r3⟩
        have n1 : (K == 1) = false := by rw [beq_eq_false_iff_ne]; exact k1
        have n2 : (K == 2) = false := by rw [beq_eq_false_iff_ne]; exact k2
        have n3 : (K == 3) = false := by rw [beq_eq_false_iff_ne]; exact k3
        clear R2 KC ca ca'
        go_wp2_with fail
        go_meet
        exact ⟨_, _, rfl, rfl, R1⟩
      case rest =>
        obtain ⟨ev, T', rfl, rfl, hc⟩ := hcut
        clear ca ca' KC R1 v0 v3 v4 HQ hkw hkv kw3 kv3 HX HY
        obtain ⟨U, F, hne, hF1, hF2⟩ := cls wc wc.heap.size
        have HF := hid hF2
        have HF1 := hid hF1
        have FR : Hid (∀ u, Rel w V B T' T' (F u)) := fun u => hc.out.below (hF1 u)
        clear hF1 hF2
        by_cases h200 : i < 200
        · have gl1 : (i : Int) < 200 := by omega
          go_wp2
          go_loopw [12] (fun kv wr2 => ∃ k : Nat, k ≤ 3 ∧ kv = .int .i64 (k : Nat) ∧ Hid (Below wc.heap.size wc wr2)) (fun kv _ => 3 - (intOf kv).toNat)
          case atStart => exact ⟨0, by omega, rfl, Below.refl _ _⟩
          case round =>
            obtain ⟨k, hk, rfl, hb2⟩ := hrel
            by_cases hk3 : k < 3
            · have kl : (k : Int) < 3 := by omega
              have D := HF.out _ hb2.out.drew
              have cA : ∀ u, (F u).cell? ⟨g2, k, none⟩ = some (pa B k) := fun u => by rw [← HE.out.1]; exact (FR.out u).ca k hk3
              have cB : ∀ u, (F u).cell? ⟨g5, k, none⟩ = some (pb B k) := fun u => by rw [← HE.out.2]; exact (FR.out u).cb k hk3
              have N1 := hid (fun u => cntA w V B T' T' k (F u) (FR.out u))
              have N2 := hid (fun u => cntR w V B T' T' k (F u) (FR.out u))
              have L1 := hid (fun u => (vluA w V B T' T' k (F u) (FR.out u)).mono (fun _ _ ⟨he, hw⟩ => (⟨he, (HF1.out u).trans (hw.out.mono (HF1.out u).size)⟩ : _ ∧ Hid (Below wc.heap.size wc _))))
              have L2 := hid (fun u => (vluR w V B T' T' k (F u) (FR.out u)).mono (fun _ _ ⟨he, hw⟩ => (⟨he, (HF1.out u).trans (hw.out.mono (HF1.out u).size)⟩ : _ ∧ Hid (Below wc.heap.size wc _))))
              have SS := hid same_self
              obtain ⟨cn, hcn⟩ : ∃ c, cnt T' k = c := ⟨_, rfl⟩
              obtain ⟨vn, hvn⟩ : ∃ c, vlu T' k = c := ⟨_, rfl⟩
              rw [hcn] at N1 N2
              rw [hvn] at L1 L2
              obtain ⟨pA, hpA⟩ : ∃ p, pa B k = p := ⟨_, rfl⟩
              obtain ⟨pB, hpB⟩ : ∃ p, pb B k = p := ⟨_, rfl⟩
              rw [hpA] at cA N1 L1
              rw [hpB] at cB N2 L2
              have KK : Hid (k < 3) := hk3
              clear hcn hvn hpA hpB hk3 hk FR hc
              go_wp2_with fail
              refine region_cls F (by kernel_rfl) (by kernel_rfl) D ?_
              repeat (go_big_quiet_step (first
                | (go_at_call 18; exact (N1.out _).mono (fun _ _ ⟨he, hw⟩ => ⟨he, _, hw⟩))
                | (go_at_call 19; exact (N2.out _).mono (fun _ _ ⟨he, hw⟩ => ⟨he, _, hw⟩))
                | (go_at_call 21; exact calls_cls HF (L1.out _))
                | (go_at_call 22; exact calls_cls HF (L2.out _))
                | (go_at_call 20; exact (SS.out _ _).mono (fun _ _ ⟨he, hw⟩ => ⟨he, _, hw⟩))))
              refine wpQuiet_nil ?_
              intro wz hwz
              obtain ⟨u, rfl⟩ := hwz
              have HB' : Hid (Below wc.heap.size wc (F u)) := HF1.out u
              go_wp2
              exact ⟨⟨k + 1, KK.out, by simp, HB'⟩, by have := KK.out; simp [intOf]; omega⟩
            · obtain rfl : k = 3 := by omega
              have RR : Hid (Rel w _ B T' T' _) := (hc.out.below hb2.out).base
              clear hb2 hk hk3
              go_wp2
              exact ⟨⟨i + 1, HI.out, by simp, T', RR⟩, by have := HI.out; simp [intOf]; omega⟩
        · have gl1 : decide ((i : Int) < 200) = false := by simp; omega
          have gl1' : decide (i < 200) = false := by simp; omega
          by_cases hlast : i + 1 = len
          · have gl2 : ((i : Int) == (len : Int) - 1) = true := by simp; omega
            go_wp2
            go_loopw [12] (fun kv wr2 => ∃ k : Nat, k ≤ 3 ∧ kv = .int .i64 (k : Nat) ∧ Hid (Below wc.heap.size wc wr2)) (fun kv _ => 3 - (intOf kv).toNat)
            case atStart => exact ⟨0, by omega, rfl, Below.refl _ _⟩
            case round =>
              obtain ⟨k, hk, rfl, hb2⟩ := hrel
              by_cases hk3 : k < 3
              · have kl : (k : Int) < 3 := by omega
                have D := HF.out _ hb2.out.drew
                have cA : ∀ u, (F u).cell? ⟨g2, k, none⟩ = some (pa B k) := fun u => by rw [← HE.out.1]; exact (FR.out u).ca k hk3
                have cB : ∀ u, (F u).cell? ⟨g5, k, none⟩ = some (pb B k) := fun u => by rw [← HE.out.2]; exact (FR.out u).cb k hk3
                have N1 := hid (fun u => cntA w V B T' T' k (F u) (FR.out u))
                have N2 := hid (fun u => cntR w V B T' T' k (F u) (FR.out u))
                have L1 := hid (fun u => (vluA w V B T' T' k (F u) (FR.out u)).mono (fun _ _ ⟨he, hw⟩ => (⟨he, (HF1.out u).trans (hw.out.mono (HF1.out u).size)⟩ : _ ∧ Hid (Below wc.heap.size wc _))))
                have L2 := hid (fun u => (vluR w V B T' T' k (F u) (FR.out u)).mono (fun _ _ ⟨he, hw⟩ => (⟨he, (HF1.out u).trans (hw.out.mono (HF1.out u).size)⟩ : _ ∧ Hid (Below wc.heap.size wc _))))
                have SS := hid same_self
                obtain ⟨cn, hcn⟩ : ∃ c, cnt T' k = c := ⟨_, rfl⟩
                obtain ⟨vn, hvn⟩ : ∃ c, vlu T' k = c := ⟨_, rfl⟩
                rw [hcn] at N1 N2
                rw [hvn] at L1 L2
                obtain ⟨pA, hpA⟩ : ∃ p, pa B k = p := ⟨_, rfl⟩
                obtain ⟨pB, hpB⟩ : ∃ p, pb B k = p := ⟨_, rfl⟩
                rw [hpA] at cA N1 L1
                rw [hpB] at cB N2 L2
                have KK : Hid (k < 3) := hk3
                clear hcn hvn hpA hpB hk3 hk FR hc
                go_wp2_with fail
                refine region_cls F (by kernel_rfl) (by kernel_rfl) D ?_
                repeat (go_big_quiet_step (first
                  | (go_at_call 18; exact (N1.out _).mono (fun _ _ ⟨he, hw⟩ => ⟨he, _, hw⟩))
                  | (go_at_call 19; exact (N2.out _).mono (fun _ _ ⟨he, hw⟩ => ⟨he, _, hw⟩))
                  | (go_at_call 21; exact calls_cls HF (L1.out _))
                  | (go_at_call 22; exact calls_cls HF (L2.out _))
                  | (go_at_call 20; exact (SS.out _ _).mono (fun _ _ ⟨he, hw⟩ => ⟨he, _, hw⟩))))
                refine wpQuiet_nil ?_
                intro wz hwz
                obtain ⟨u, rfl⟩ := hwz
                have HB' : Hid (Below wc.heap.size wc (F u)) := HF1.out u
                go_wp2
                exact ⟨⟨k + 1, KK.out, by simp, HB'⟩, by have := KK.out; simp [intOf]; omega⟩
              · obtain rfl : k = 3 := by omega
                have RR : Hid (Rel w _ B T' T' _) := (hc.out.below hb2.out).base
                clear hb2 hk hk3
                go_wp2
                exact ⟨⟨i + 1, HI.out, by simp, T', RR⟩, by have := HI.out; simp [intOf]; omega⟩
          · have gl2 : ((i : Int) == (len : Int) - 1) = false := by rw [beq_eq_false_iff_ne]; omega
            go_wp2
            go_loopw [12] (fun kv wr2 => kv = .int .i64 0 ∧ wr2 = wc) (fun _ _ => 0)
            case atStart => exact ⟨rfl, rfl⟩
            case round =>
              obtain ⟨rfl, rfl⟩ := hrel
              go_wp2
              exact ⟨⟨i + 1, HI.out, by simp, T', hc.out.base⟩, by have := HI.out; simp [intOf]; omega⟩
    · obtain rfl : i = len := by omega
      have jl : decide (((i : Nat) : Int) < (i : Nat)) = false := by simp
      have BB := hid hr.out.bel
      clear hlt hi hr
      go_wp2
      go_ret
      exact ⟨rfl, BB.out⟩
end Go.Proofs.Ytgbnabpbheebjaa
