/-
  Some of the texts of this proof, one behind the other.
-/
import Derived.BigQuiet
import Derived.Deep.QuietTactic
import Derived.Test.YtapklbfcjgpkdaaDoorZ11
namespace Go.Proofs.YtapklbfcjgpkdaaDoor
open Go.RowKit Go.Deep Cu
namespace Ms
open Sh
theorem IsBig.ab {w w' : World} {b k : Nat} {S : Int} (h : IsBig w b k S) (a : Ab w w') : IsBig w' b k S := by
  obtain ⟨i0, i1, i2, i3, R, hh⟩ := h
  exact ⟨i0, i1, i2, i3, a.heap R, hh⟩
theorem IsBig.fresh (w : World) : IsBig (w.alloc (.cells #[.int .u64 0, .int .u64 0, .int .u64 0, .int .u64 0] 74)) w.heap.size 0 0 := ⟨0, 0, 0, 0, heap_alloc_new _ _, by omega, by omega, by omega, by omega, by omega⟩
theorem Abo.to {u v w : World} {g : Nat} (h : Abo u g v) (a : Ab v w) : Abo u g w := by
  obtain ⟨h1, h2, h3, h4, h5⟩ := h
  exact ⟨a.os.trans h1, a.tape.trans h2, a.output.trans h3, Nat.le_trans h4 a.size, fun i hi hne => (a.block i (by omega)).trans (h5 i hi hne)⟩
theorem own_abo {B : Nat} {v : Value} {l : List Int} {u w : World} {g : Nat} (h : Own B v l u) (a : Abo u g w) (hg : ∀ k, v.ownBlock = some k → k ≠ g) : Own B v l w := by
  refine ⟨h.1, ?_⟩
  rcases h.2 with h0 | ⟨k, cap, cur, e, hb, hk, r⟩
  · exact .inl h0
  · refine .inr ⟨k, cap, cur, e, hb, ?_, r⟩
    rw [a.2.2.2.2 k (lt_of_block hk) (hg k (by rw [e]; rfl))]
    exact hk
theorem own_lt {B : Nat} {v : Value} {l : List Int} {w : World} (h : Own B v l w) : ∀ k, v.ownBlock = some k → k < w.heap.size := fun k hk => (World.ownsRow.lt h k hk).2
set_option maxRecDepth 100000 in
set_option maxHeartbeats 8000000 in
theorem rmove_nil (pw pf : Option Addr) (lw cw lf cf : Nat) (w : World) :
    Calls Tryd.prog 8 #[.pointer none, .slice pw lw cw, .slice pf lf cf] w fun e w' => e = .returned (.tuple #[.slice none 0 0, .int .i64 2]) ∧ w' = w := by
  go_enter Tryd.func8, Tryd.ntmps8
  go_wp2
  go_ret2
  exact ⟨rfl, rfl⟩
set_option maxRecDepth 100000 in
set_option maxHeartbeats 8000000 in
theorem rmove_arg (rb M N lw cw lf cf : Nat) (pw pf : Option Addr) (w : World)
    (CC : Hid (∀ v, Ab w v → Calls Tryd.prog 29 #[.pointer (some ⟨rb, 0, none⟩)] v fun e w' => e = .returned (.int .i64 (M : Nat)) ∧ w' = v)) (CE : Hid (∀ v, Ab w v → Calls Tryd.prog 30 #[.pointer (some ⟨rb, 0, none⟩)] v fun e w' => e = .returned (.int .i64 (N : Nat)) ∧ w' = v))
    (hq : ¬ (lw = M ∧ lf = N)) :
    Calls Tryd.prog 8 #[.pointer (some ⟨rb, 0, none⟩), .slice pw lw cw, .slice pf lf cf] w fun e w' => e = .returned (.tuple #[.slice none 0 0, .int .i64 1]) ∧ w' = w := by
  by_cases c1 : lw = M
  · have d1 : ((lw : Int) != (M : Int)) = false := by simp; omega
    have d2 : ((lf : Int) != (N : Int)) = true := by simp; omega
    clear hq c1
    go_enter Tryd.func8, Tryd.ntmps8
    go_wp2_with fail
    refine (CC.out _ (Ab.refl w)).mono ?_
    rintro e9 v1 ⟨rfl, hv⟩
    have hv2 := hv.symm
    subst hv2
    go_wp2_with fail
    refine (CE.out _ (Ab.refl w)).mono ?_
    rintro e9 v2 ⟨rfl, hv⟩
    have hv2 := hv.symm
    subst hv2
    go_wp2
    go_ret2
    exact ⟨rfl, by first | trivial | rfl⟩
  · have d1 : ((lw : Int) != (M : Int)) = true := by simp; omega
    clear hq c1
    go_enter Tryd.func8, Tryd.ntmps8
    go_wp2_with fail
    refine (CC.out _ (Ab.refl w)).mono ?_
    rintro e9 v1 ⟨rfl, hv⟩
    have hv2 := hv.symm
    subst hv2
    go_wp2
    go_ret2
    exact ⟨rfl, by first | trivial | rfl⟩
set_option maxRecDepth 100000 in
set_option maxHeartbeats 16000000 in
theorem rmove_go (rb M N wb wo cw fb fo cf : Nat) (W F D sg : Nat → Int) (P : Nat → Nat → Int) (E : Nat → Nat) (w : World) (hl : M ≤ 65536 ∧ N ≤ 65536) (hw : IsI w (some ⟨wb, wo, none⟩) M W) (hf : IsI w (some ⟨fb, fo, none⟩) N F)
    (CC : Hid (∀ v, Ab w v → Calls Tryd.prog 29 #[.pointer (some ⟨rb, 0, none⟩)] v fun e w' => e = .returned (.int .i64 (M : Nat)) ∧ w' = v)) (CE : Hid (∀ v, Ab w v → Calls Tryd.prog 30 #[.pointer (some ⟨rb, 0, none⟩)] v fun e w' => e = .returned (.int .i64 (N : Nat)) ∧ w' = v))
    (ARD : Hid (∀ v c s, Ab w v → c < M → s < 4 → Calls Tryd.prog 32 #[.pointer (some ⟨rb, 0, none⟩), .int .i64 (c : Nat), .int .i64 (s : Nat)] v fun e w' => e = .returned (.tuple #[.int .i64 (E (4 * c + s) : Nat), .int .i64 (sg (4 * c + s))]) ∧ Below v.heap.size v w'))
    (TT : Hid (∀ t, t < 4 * M → E t < N ∧ (sg t = 1 ∨ sg t = -1)))
    (PZ : Hid (∀ c, P c 0 = W c)) (PS : Hid (∀ c s, s < 4 → P c (s + 1) = P c s - sg (4 * c + s) * F (E (4 * c + s)))) (PD : Hid (∀ c, P c 4 = D c)) :
    Calls Tryd.prog 8 #[.pointer (some ⟨rb, 0, none⟩), .slice (some ⟨wb, wo, none⟩) M cw, .slice (some ⟨fb, fo, none⟩) N cf] w fun e w' => Below w.heap.size w w' ∧ ((∃ v, e = .returned (.tuple #[v, .int .i64 0]) ∧ Own w.heap.size v ((List.range M).map D) w' ∧ ∀ c, c < M → 0 ≤ D c ∧ D c ≤ 9223372036854775807) ∨ (e = .returned (.tuple #[.slice none 0 0, .int .i64 20]) ∧ ¬ ∀ c, c < M → 0 ≤ D c ∧ D c ≤ 9223372036854775807)) := by
  have HW := hid hw
  have HF := hid hf
  have HL := hid hl
  clear hw hf hl
  have d1 : ((M : Int) != (M : Int)) = false := by simp
  have d2 : ((N : Int) != (N : Int)) = false := by simp
  have o0 := hid (own_new w w.heap.size (Nat.le_refl _))
  have B0 := hid (bl1 w (.cells #[] 2))
  go_enter Tryd.func8, Tryd.ntmps8
  go_wp2_with fail
  refine (CC.out _ (Ab.refl w)).mono ?_
  rintro e9 v1 ⟨rfl, hv⟩
  have hv2 := hv.symm
  subst hv2
  go_wp2_with fail
  refine (CE.out _ (Ab.refl w)).mono ?_
  rintro e9 v2 ⟨rfl, hv⟩
  have hv2 := hv.symm
  subst hv2
  go_upto_region 6 with fail
  generalize hV : World.alloc w _ = V at *
  obtain ⟨gq, hgq⟩ : ∃ g, w.heap.size = g := ⟨_, rfl⟩
  clear CC CE
  go_wp2
  go_loopw [8, 9] (fun ov iv wr => ∃ c : Nat, c ≤ M ∧ iv = .int .i64 (c : Nat) ∧ Own w.heap.size ov ((List.range c).map D) wr ∧ Ab w wr ∧ ∀ i, i < c → 0 ≤ D i ∧ D i ≤ 9223372036854775807) (fun _ iv _ => M - (intOf iv).toNat)
  case atStart => exact ⟨0, by omega, rfl, o0.out, B0.out, fun i hi => absurd hi (Nat.not_lt_zero i)⟩
  case round =>
    obtain ⟨c, hc, rfl, ow, ar, gg⟩ := hrel
    have OX := hid ow
    have AR := hid ar
    have GG := hid gg
    clear ow ar gg o0 B0 hgq hV
    by_cases hcn : c < M
    · have HC := hid hcn
      have hcI : (c : Int) < M := by omega
      have hcB : (c : Int) ≤ 65536 := by have := HL.out; omega
      obtain ⟨x, hx⟩ : ∃ x, W c = x := ⟨_, rfl⟩
      have BB := hid (IsBig.fresh wr)
      have AB : Hid (Ab wr (wr.alloc (.cells #[.int .u64 0, .int .u64 0, .int .u64 0, .int .u64 0] 74))) := bl1 _ _
      have OB := hid (Own.alloc OX.out (.cells #[.int .u64 0, .int .u64 0, .int .u64 0, .int .u64 0] 74))
      obtain ⟨b, hb⟩ : ∃ b, wr.heap.size = b := ⟨_, rfl⟩
      have LB : Hid (w.heap.size ≤ b ∧ ∀ k, Value.ownBlock _ = some k → k ≠ b) := ⟨by have := AR.out.size; omega, fun k hk => by have := own_lt OX.out k hk; omega⟩
      rw [hb] at BB
      have CW := hid (fun v (a : Ab w v) => ((HW.out.below a).at0 hcn))
      rw [hx] at CW
      have XE := hid hx
      clear hx hcn hc
      go_upto_region 10 with fail
      try rw [hb]
      generalize hQ : World.alloc wr _ = Q at *
      clear hQ hb
      have xc := (CW.out Q (AR.out.trans AB.out)).2.2
      have CA := hid (badd_at b 0 0 x Q BB.out (by omega) (CW.out Q (AR.out.trans AB.out)).1)
      go_wp2_with fail
      refine CA.out.mono ?_
      rintro e9 v3 ⟨rfl, a3, b3⟩
      have A3 := hid a3
      have B3 : Hid (IsBig v3 b 1 (P c 0)) := by rw [PZ.out, XE.out]; rw [Int.zero_add] at b3; exact b3
      clear a3 b3 CA xc BB
      go_wp2
      go_loopw [11] (fun iv w6 => ∃ s : Nat, s ≤ 4 ∧ iv = .int .i64 (s : Nat) ∧ Abo Q b w6 ∧ IsBig w6 b (s + 1) (P c s)) (fun iv _ => 4 - (intOf iv).toNat)
      case atStart => exact ⟨0, by omega, rfl, A3.out, B3.out⟩
      case round =>
        obtain ⟨s, hs, rfl, ax, bx⟩ := hrel
        rename World => w6
        have AX := hid ax
        have BX := hid bx
        clear ax bx A3 B3
        have AV : Hid (Ab w w6) := Abo.ab AX.out (AR.out.trans AB.out) LB.out.1
        by_cases hs4 : s < 4
        · have HS := hid hs4
          have hsI : (s : Int) < 4 := by omega
          have AC := hid (ARD.out w6 c s AV.out HC.out hs4)
          have tt := TT.out (4 * c + s) (by have := HC.out; omega)
          have ps := PS.out c s hs4
          obtain ⟨te, hte⟩ : ∃ e, E (4 * c + s) = e := ⟨_, rfl⟩
          obtain ⟨ts, hts⟩ : ∃ e, sg (4 * c + s) = e := ⟨_, rfl⟩
          rw [hte, hts] at AC tt ps
          obtain ⟨y, hy⟩ : ∃ y, F te = y := ⟨_, rfl⟩
          rw [hy] at ps
          have CY := hid (fun v (a : Ab w v) => ((HF.out.below a).at0 tt.1))
          rw [hy] at CY
          have teI : (te : Int) < N := by have := tt.1; omega
          have HP := hid ps
          have HT := hid tt.2
          clear tt ps hte hts hy hs4
          go_wp2_with fail
          refine AC.out.mono ?_
          rintro e9 v8 ⟨rfl, b8⟩
          have A8 : Hid (Ab w6 v8) := b8
          have AX8 := hid (Abo.to AX.out b8)
          have B8 := hid (BX.out.ab b8)
          clear b8 AC
          have yc := (CY.out v8 (AV.out.trans A8.out)).2.2
          have yw := hid (CY.out v8 (AV.out.trans A8.out)).1
          by_cases q : ts = 1
          · have g : (ts == 1) = true := by simp [q]
            have CT := hid (btake_at b (s + 1) _ y v8 B8.out (by have := HS.out; omega) yw.out)
            have QE : Hid (P c s - y = P c (s + 1)) := by show _ = _; rw [HP.out, q, Int.one_mul]
            clear q
            go_wp2_with fail
            refine CT.out.mono ?_
            rintro e9 v9 ⟨rfl, a9, b9⟩
            have A9 := hid (Abo.trans AX8.out a9)
            have B9 := hid b9
            clear a9 b9 CT
            go_wp2
            exact ⟨⟨s + 1, by have := HS.out; omega, by simp, A9.out, by have h := B9.out; rwa [QE.out] at h⟩, by have := HS.out; simp [intOf]; omega⟩
          · have g : (ts == 1) = false := by simp [q]
            have CT := hid (badd_at b (s + 1) _ y v8 B8.out (by have := HS.out; omega) yw.out)
            have QE : Hid (P c s + y = P c (s + 1)) := by show _ = _; rw [HP.out, HT.out.resolve_left q]; omega
            clear q
            go_wp2_with fail
            refine CT.out.mono ?_
            rintro e9 v9 ⟨rfl, a9, b9⟩
            have A9 := hid (Abo.trans AX8.out a9)
            have B9 := hid b9
            clear a9 b9 CT
            go_wp2
            exact ⟨⟨s + 1, by have := HS.out; omega, by simp, A9.out, by have h := B9.out; rwa [QE.out] at h⟩, by have := HS.out; simp [intOf]; omega⟩
        · obtain rfl : s = 4 := by omega
          obtain ⟨y, hy⟩ : ∃ y, D c = y := ⟨_, rfl⟩
          have BY : Hid (IsBig w6 b 5 y) := by have h := BX.out; rwa [PD.out, hy] at h
          have YE := hid hy
          have OW := hid (own_abo OB.out AX.out LB.out.2)
          clear hy BX
          have VL := hid (value_at b 5 y w6 BY.out (by omega))
          by_cases r : 0 ≤ y ∧ y ≤ 9223372036854775807
          · have V1 := hid (VL.out.1 ⟨by omega, r.2⟩)
            have g : decide (y < 0) = false := decide_eq_false (by omega)
            have y0 := r.1
            have y1 := r.2
            have RR := hid r
            clear r VL
            go_wp2_with fail
            refine V1.out.mono ?_
            rintro e9 v9 ⟨rfl, b9⟩
            have A9 : Hid (Ab w6 v9) := b9
            have O9 := hid (OW.out.to b9)
            clear b9 V1
            have AA := hid (AV.out.trans A9.out)
            have N1 : Hid (∀ j u, (([y] : List Int).map (Value.int .i64))[j]? = some u → (v9.alloc (.cells #[.int .i64 y] 2)).cell? ((⟨v9.heap.size, 0, none⟩ : Addr).add j) = some u) := World.news_of_block (cs := #[.int .i64 y]) (t := 2) (fr := (0, 0)) (heap_alloc_new v9 _)
            have O2 := hid (Own.alloc O9.out (.cells #[.int .i64 y] 2))
            have LS : Hid (w.heap.size ≤ (v9.alloc (.cells #[.int .i64 y] 2)).heap.size) := Nat.le_trans AA.out.size (by simp)
            have LE : Hid (((List.range c).map D).length = c) := by show _ = _; simp
            go_wp2_with (first
              | (at_builtin; refine wpList_app rfl (.tmp 81) (.tmp 83) rfl w.heap.size _ _ rfl O2.out ⟨v9.heap.size, 0, none⟩ 1 1 [y] rfl rfl N1.out (by decide) (by have := LE.out; have := HC.out; have := HL.out; omega) LS.out (c + 1) (by rw [LE.out]) ?_; intro g1 c1 w1 o1 x1 y1 _; have O1 := hid o1; have X1 := hid x1; clear o1 x1 y1))
            refine ⟨⟨c + 1, by have := HC.out; omega, by simp, ?_, ?_, fun i hi => ?_⟩, by have := HC.out; simp [intOf]; omega⟩
            · rw [List.range_succ, List.map_append]
              have h := O1.out
              simp only [List.map_cons, List.map_nil, YE.out]
              exact h
            · exact Below.grown (Ab.trans AA.out (bl1 v9 _) : Below _ _ _) X1.out LS.out (fun k hk => (World.ownsRow.lt O9.out k hk).1)
            · by_cases l : i < c
              · exact GG.out i l
              · obtain rfl : i = c := by omega
                rw [YE.out]
                exact RR.out
          · have NB : Hid (¬ ∀ c, c < M → 0 ≤ D c ∧ D c ≤ 9223372036854775807) := fun h => r (by have k := h c HC.out; rwa [YE.out] at k)
            by_cases q : W64 y
            · have V1 := hid (VL.out.1 q)
              have g : decide (y < 0) = true := decide_eq_true (by have := q.2; omega)
              clear r VL q
              go_wp2_with fail
              refine V1.out.mono ?_
              rintro e9 v9 ⟨rfl, b9⟩
              have A9 : Hid (Ab w6 v9) := b9
              clear b9 V1
              go_wp2
              go_ret2
              exact ⟨AV.out.trans A9.out, Or.inr ⟨rfl, NB.out⟩⟩
            · have V1 := hid (VL.out.2 q)
              clear r VL q
              go_wp2_with fail
              refine V1.out.mono ?_
              rintro e9 v9 ⟨rfl, b9⟩
              have A9 : Hid (Ab w6 v9) := b9
              clear b9 V1
              go_wp2
              go_ret2
              exact ⟨AV.out.trans A9.out, Or.inr ⟨rfl, NB.out⟩⟩
    · have e6 : M = c := by omega
      subst e6
      go_wp2
      go_ret2
      exact ⟨AR.out, Or.inl ⟨_, rfl, OX.out, GG.out⟩⟩
end Ms
end Go.Proofs.YtapklbfcjgpkdaaDoor

namespace Go.Proofs.YtapklbfcjgpkdaaDoor
open Go.RowKit Go.Deep Cu
namespace Ms
open Sh
set_option maxRecDepth 100000 in
set_option maxHeartbeats 8000000 in
theorem exact_bad (side : Int) (pw : Option Addr) (lw cw : Nat) (pf : Option Addr) (lf cf : Nat) (w : World) (MN : MoveN)
    (AW : Hid (Calls Tryd.prog 4 #[] w fun e w' => e = .returned (.bool true) ∧ Below w.heap.size w w'))
    (NW : Hid (∀ v, Calls Tryd.prog 6 #[.int .i64 side] v fun e w' => e = .returned (.tuple #[.pointer none, .int .i64 10]) ∧ w' = v)) (NR : Hid (∀ v, Calls Tryd.prog 7 #[.int .i64 side] v fun e w' => e = .returned (.tuple #[.pointer none, .int .i64 10]) ∧ w' = v)) :
    Calls Tryd.prog 3 #[.int .i64 side, .slice pw lw cw, .slice pf lf cf] w fun e w' => e = .returned (.bool true) ∧ Below w.heap.size w w' := by
  have HN := hid MN
  clear MN
  go_enter Tryd.func3, Tryd.ntmps3
  go_wp2_with fail
  refine AW.out.mono ?_
  rintro e9 v0 ⟨rfl, b0⟩
  have A0 : Hid (Ab w v0) := b0
  clear b0
  go_wp2_with fail
  refine (HN.out pw lw cw pf lf cf v0).mono ?_
  rintro e9 v1 ⟨rfl, b1⟩
  have A1 : Hid (Ab w v1) := A0.out.trans b1
  clear b1 A0
  go_wp2_with fail
  refine (NW.out _).mono ?_
  rintro e9 v9 ⟨rfl, hv9⟩
  have hv8 := hv9.symm
  subst hv8
  go_wp2_with fail
  refine (NR.out _).mono ?_
  rintro e9 v9 ⟨rfl, hv9⟩
  have hv8 := hv9.symm
  subst hv8
  go_wp2_with fail
  refine (HN.out pw lw cw pf lf cf v1).mono ?_
  rintro e9 v2 ⟨rfl, b2⟩
  have A2 : Hid (Ab w v2) := A1.out.trans b2
  clear b2 A1
  go_wp2_with fail
  refine (rmove_nil pw pf lw cw lf cf v2).mono ?_
  rintro e9 v9 ⟨rfl, hv9⟩
  have hv8 := hv9.symm
  subst hv8
  have SS := hid (same_at none none 0 0 0 (fun _ => 0) v2 (by omega) (IsI.nil _ _ _) (IsI.nil _ _ _))
  go_wp2_with fail
  refine SS.out.mono ?_
  rintro e9 v3 ⟨rfl, b3⟩
  have A3 : Hid (Ab w v3) := A2.out.trans b3
  clear b3 SS
  go_wp2
  go_ret
  exact ⟨rfl, A3.out⟩
set_option maxRecDepth 100000 in
set_option maxHeartbeats 8000000 in
theorem exact_go (n len : Nat) (side er : Int) (pw : Option Addr) (lw cw : Nat) (pf : Option Addr) (lf cf : Nat) (D : Nat → Int) (w : World) (MN : MoveN) (hl : len ≤ 65536)
    (AW : Hid (Calls Tryd.prog 4 #[] w fun e w' => e = .returned (.bool true) ∧ Below w.heap.size w w'))
    (NW : Hid (∀ v, Ab w v → Calls Tryd.prog 6 #[.int .i64 side] v fun e w' => ∃ gb, e = .returned (.tuple #[.pointer (some ⟨gb, 0, none⟩), .int .i64 0]) ∧ Ab v w' ∧ GridOf n gb w'))
    (NR : Hid (∀ v, Calls Tryd.prog 7 #[.int .i64 side] v fun e w' => ∃ rb, e = .returned (.tuple #[.pointer (some ⟨rb, 0, none⟩), .int .i64 0]) ∧ Ab v w' ∧ RefOf n rb w'))
    (M4 : Hid (∀ v gb, Ab w v → GridOf n gb v → Calls Tryd.prog 5 #[.pointer (some ⟨gb, 0, none⟩), .slice pw lw cw, .slice pf lf cf] v fun e w' => ∃ p cap, e = .returned (.tuple #[.slice p len cap, .int .i64 er]) ∧ Below v.heap.size v w' ∧ IsI w' p len D))
    (R4 : Hid (∀ v rb, Ab w v → RefOf n rb v → Calls Tryd.prog 8 #[.pointer (some ⟨rb, 0, none⟩), .slice pw lw cw, .slice pf lf cf] v fun e w' => ∃ p cap, e = .returned (.tuple #[.slice p len cap, .int .i64 er]) ∧ Below v.heap.size v w' ∧ IsI w' p len D)) :
    Calls Tryd.prog 3 #[.int .i64 side, .slice pw lw cw, .slice pf lf cf] w fun e w' => e = .returned (.bool true) ∧ Below w.heap.size w w' := by
  have HN := hid MN
  have HL := hid hl
  have d1 : (er == er) = true := by simp
  clear MN hl
  go_enter Tryd.func3, Tryd.ntmps3
  go_wp2_with fail
  refine AW.out.mono ?_
  rintro e9 v0 ⟨rfl, b0⟩
  have A0 : Hid (Ab w v0) := b0
  clear b0
  go_wp2_with fail
  refine (HN.out pw lw cw pf lf cf v0).mono ?_
  rintro e9 v1 ⟨rfl, b1⟩
  have A1 : Hid (Ab w v1) := A0.out.trans b1
  clear b1 A0
  go_wp2_with fail
  refine (NW.out _ A1.out).mono ?_
  rintro e9 v2 ⟨gb, rfl, a2, g2⟩
  have A2 : Hid (Ab w v2) := A1.out.trans a2
  have G2 := hid g2
  clear a2 g2 A1
  go_wp2_with fail
  refine (NR.out _).mono ?_
  rintro e9 v3 ⟨rb, rfl, a3, r3⟩
  have A3 : Hid (Ab w v3) := A2.out.trans a3
  have G3 := hid (G2.out.to a3)
  have R3 := hid r3
  clear a3 r3 A2 G2
  go_wp2_with fail
  refine (M4.out _ gb A3.out G3.out).mono ?_
  rintro e9 v4 ⟨p4, c4, rfl, b4, i4⟩
  have A4 : Hid (Ab v3 v4) := b4
  have I4 := hid i4
  clear b4 i4
  go_wp2_with fail
  refine (R4.out _ rb (A3.out.trans A4.out) (R3.out.to A4.out)).mono ?_
  rintro e9 v5 ⟨p5, c5, rfl, b5, i5⟩
  have A5 : Hid (Ab v4 v5) := b5
  have SS := hid (same_at p4 p5 len c4 c5 D v5 (by have := HL.out; omega) (I4.out.below b5) i5)
  clear b5 i5
  go_wp2_with fail
  refine SS.out.mono ?_
  rintro e9 v6 ⟨rfl, b6⟩
  have A6 : Hid (Ab w v6) := A3.out.trans (A4.out.trans (A5.out.trans b6))
  clear b6 SS
  go_wp2
  go_ret
  exact ⟨rfl, A6.out⟩
/-- MASSEXACT -/
theorem exact_at (MC : MoveC) (MN : MoveN) (TC : TotalC) {side : Int} {pw : Option Addr} {lw cw : Nat} {W : Nat → Int} {pf : Option Addr} {lf cf : Nat} {F : Nat → Int} (w : World) (hFr : Fr w) (hw : IsI w pw lw W) (hf : IsI w pf lf F) (lw2 : lw ≤ 9223372036854775807) (lf2 : lf ≤ 9223372036854775807) :
    Calls Tryd.prog 3 #[.int .i64 side, .slice pw lw cw, .slice pf lf cf] w fun e w' => e = .returned (.bool true) ∧ Below w.heap.size w w' := by
  have AW := awake_at MC TC w hFr
  by_cases hs : 1 ≤ side ∧ side ≤ 32
  · obtain ⟨n, rfl⟩ := Int.eq_ofNat_of_zero_le (show 0 ≤ side by omega)
    have hn : 1 ≤ n ∧ n ≤ 32 := by omega
    have NW : ∀ v, Ab w v → Calls Tryd.prog 6 #[.int .i64 (n : Nat)] v fun e w' => ∃ gb, e = .returned (.tuple #[.pointer (some ⟨gb, 0, none⟩), .int .i64 0]) ∧ Ab v w' ∧ GridOf n gb w' := fun v a => by
      refine (new_at n v hn (hFr.to a)).mono ?_
      rintro e w' ⟨gb, rfl, a, -, g⟩
      exact ⟨gb, rfl, a, g⟩
    have NR : ∀ v, Calls Tryd.prog 7 #[.int .i64 (n : Nat)] v fun e w' => ∃ rb, e = .returned (.tuple #[.pointer (some ⟨rb, 0, none⟩), .int .i64 0]) ∧ Ab v w' ∧ RefOf n rb w' := fun v => by
      refine (rnew_at n v hn).mono ?_
      rintro e w' ⟨rb, ab, es, rfl, a, re⟩
      exact ⟨rb, rfl, a, RE.all hn.1 re⟩
    have CC : ∀ rb v, RefOf n rb v → ∀ u, Ab v u → Calls Tryd.prog 29 #[.pointer (some ⟨rb, 0, none⟩)] u fun e w' => e = .returned (.int .i64 (6 * n * n : Nat)) ∧ w' = u := fun rb v r u a => rCells_at hn (r.to a)
    have CE : ∀ rb v, RefOf n rb v → ∀ u, Ab v u → Calls Tryd.prog 30 #[.pointer (some ⟨rb, 0, none⟩)] u fun e w' => e = .returned (.int .i64 (12 * n * n : Nat)) ∧ w' = u := fun rb v r u a => rEdges_at (r.to a)
    by_cases f : fit2 n lw lf
    · have f' := f
      obtain ⟨rfl, rfl⟩ := f'
      have p1 : 0 < n * n := Nat.mul_pos (by omega) (by omega)
      have p2 : n * n ≤ 32 * 32 := Nat.mul_le_mul hn.2 hn.2
      have q1 : 0 < 6 * n * n ∧ 6 * n * n ≤ 6144 ∧ 0 < 12 * n * n ∧ 12 * n * n ≤ 12288 := by rw [Nat.mul_assoc, Nat.mul_assoc]; omega
      obtain ⟨wb, wo, rfl⟩ := hw.some0 q1.1
      obtain ⟨fb, fo, rfl⟩ := hf.some0 q1.2.2.1
      have RG : ∀ v rb, Ab w v → RefOf n rb v → Calls Tryd.prog 8 #[.pointer (some ⟨rb, 0, none⟩), .slice (some ⟨wb, wo, none⟩) (6 * n * n) cw, .slice (some ⟨fb, fo, none⟩) (12 * n * n) cf] v fun e w' => Below v.heap.size v w' ∧ ((∃ l, e = .returned (.tuple #[l, .int .i64 0]) ∧ Own v.heap.size l ((List.range (6 * n * n)).map (mv n W F)) w' ∧ can n W F) ∨ (e = .returned (.tuple #[.slice none 0 0, .int .i64 20]) ∧ ¬ can n W F)) := fun v rb a r => by
        refine rmove_go rb _ _ wb wo cw fb fo cf W F (mv n W F) (eS n) (fun c s => W c - sumN (fun i => tk n F (4 * c + i)) s) (eE n) v ⟨by omega, by omega⟩ (hw.below a) (hf.below a) (CC rb v r) (CE rb v r) ?_ ?_ ?_ ?_ (fun c => rfl)
        · intro u c s au hc hs
          exact rAround_ok hn hc hs (r.to au)
        · intro t ht
          have ht' : t < 24 * n * n := by rw [show 24 * n * n = 4 * (6 * n * n) by rw [Nat.mul_assoc, Nat.mul_assoc]; omega]; exact ht
          exact ⟨eE_lt hn.1 ht', by unfold eS; split <;> simp⟩
        · intro c
          exact Int.sub_zero _
        · intro c s _
          show W c - (sumN (fun i => tk n F (4 * c + i)) s + tk n F (4 * c + s)) = _
          unfold tk
          omega
      by_cases c : can n W F
      · refine exact_go n (6 * n * n) (n : Nat) 0 _ _ cw _ _ cf (mv n W F) w MN (by omega) AW NW NR ?_ ?_
        · intro v gb a g
          refine ((MC n gb _ _ cw W _ _ cf F v hn g lw2 lf2 (hw.below a) (hf.below a)).1 f c).mono ?_
          rintro e w' ⟨l, rfl, b, o⟩
          obtain ⟨a0, cap, rfl, i⟩ := own_mv o c
          exact ⟨a0, cap, rfl, b, i⟩
        · intro v rb a r
          refine (RG v rb a r).mono ?_
          rintro e w' ⟨b, ⟨l, rfl, o, -⟩ | ⟨rfl, nc⟩⟩
          · obtain ⟨a0, cap, rfl, i⟩ := own_mv o c
            exact ⟨a0, cap, rfl, b, i⟩
          · exact absurd c nc
      · refine exact_go n 0 (n : Nat) 20 _ _ cw _ _ cf (fun _ => 0) w MN (by omega) AW NW NR ?_ ?_
        · intro v gb a g
          refine ((MC n gb _ _ cw W _ _ cf F v hn g lw2 lf2 (hw.below a) (hf.below a)).2.1 f c).mono ?_
          rintro e w' ⟨rfl, b⟩
          exact ⟨none, 0, rfl, b, IsI.nil _ _ _⟩
        · intro v rb a r
          refine (RG v rb a r).mono ?_
          rintro e w' ⟨b, ⟨l, rfl, o, c2⟩ | ⟨rfl, nc⟩⟩
          · exact absurd c2 c
          · exact ⟨none, 0, rfl, b, IsI.nil _ _ _⟩
    · refine exact_go n 0 (n : Nat) 1 _ _ cw _ _ cf (fun _ => 0) w MN (by omega) AW NW NR ?_ ?_
      · intro v gb a g
        refine ((MC n gb _ _ cw W _ _ cf F v hn g lw2 lf2 (hw.below a) (hf.below a)).2.2 f).mono ?_
        rintro e w' ⟨rfl, b⟩
        exact ⟨none, 0, rfl, b, IsI.nil _ _ _⟩
      · intro v rb a r
        refine (rmove_arg rb _ _ lw cw lf cf pw pf v (CC rb v r) (CE rb v r) f).mono ?_
        rintro e w' ⟨rfl, rfl⟩
        exact ⟨none, 0, rfl, Below.refl _ _, IsI.nil _ _ _⟩
  · exact exact_bad side pw lw cw pf lf cf w MN AW (fun v => new_no side v hs) (fun v => rnew_no side v hs)
end Ms
end Go.Proofs.YtapklbfcjgpkdaaDoor

namespace Go.Proofs.YtapklbfcjgpkdaaDoor
open Go.RowKit Go.Deep Cu
namespace Ms
open Sh
/-- the lower word -/
def loW (x : Int) : Int := x % 18446744073709551616
/-- the upper word -/
def hiW (x : Int) : Int := x / 18446744073709551616 % 18446744073709551616
/-- a number as a word -/
def wd (n : Int) : Int := if n < 0 then n + 18446744073709551616 else n
/-- its sign as a word -/
def sgW (n : Int) : Int := if n < 0 then 18446744073709551615 else 0
theorem loW_in (x : Int) : 0 ≤ loW x ∧ loW x < 18446744073709551616 := by unfold loW; omega
theorem hiW_in (x : Int) : 0 ≤ hiW x ∧ hiW x < 18446744073709551616 := by unfold hiW; omega
theorem wd_in {n : Int} (h : W64 n) : 0 ≤ wd n ∧ wd n < 18446744073709551616 := by
  unfold W64 at h; unfold wd; split <;> omega
theorem sgW_in (n : Int) : 0 ≤ sgW n ∧ sgW n < 18446744073709551616 := by unfold sgW; split <;> omega
theorem wd_wrap {n : Int} (h : W64 n) : IntKind.u64.wrap n = wd n := by
  unfold W64 at h; unfold wd
  simp [IntKind.wrap, IntKind.bits, IntKind.signed]
  split <;> omega
theorem plus_low {x n : Int} (_h : W64 n) : (loW x + wd n + 0) % 18446744073709551616 = loW (x + n) := by
  unfold loW wd; split <;> omega
theorem plus_high {x n : Int} (_h : W64 n) : (hiW x + sgW n + (loW x + wd n + 0) / 18446744073709551616) % 18446744073709551616 = hiW (x + n) := by
  unfold hiW loW wd sgW; split <;> omega
theorem plus_carry {x n : Int} (h : W64 n) : 0 ≤ (loW x + wd n + 0) / 18446744073709551616 ∧ (loW x + wd n + 0) / 18446744073709551616 ≤ 1 := by
  have := loW_in x
  have := wd_in h
  omega
/-- what is borrowed -/
def bo (a b : Int) : Int := if a < b then 1 else 0
theorem bo_in (a b : Int) : 0 ≤ bo a b ∧ bo a b ≤ 1 := by unfold bo; split <;> omega
theorem minus_low {x n : Int} (_h : W64 n) : (loW x + 18446744073709551616 - wd n - 0) % 18446744073709551616 = loW (x - n) := by
  unfold loW wd; split <;> omega
theorem minus_high {x n : Int} (h : W64 n) : (hiW x + 18446744073709551616 - sgW n - bo (loW x) (wd n + 0)) % 18446744073709551616 = hiW (x - n) := by
  unfold W64 at h; unfold hiW loW wd sgW bo
  by_cases c : n < 0
  · rw [if_pos c, if_pos c]; split <;> omega
  · rw [if_neg c, if_neg c]; split <;> omega
/-- the lower word as a number -/
def sh (x : Int) : Int := if loW x < 9223372036854775808 then loW x else loW x - 18446744073709551616
theorem sh_in (x : Int) : W64 (sh x) := by
  have := loW_in x
  unfold W64 sh; split <;> omega
theorem sh_wrap (x : Int) : IntKind.i64.wrap (loW x) = sh x := by
  have := loW_in x
  unfold sh
  generalize loW x = y at *
  simp [IntKind.wrap, IntKind.bits, IntKind.signed]
  split <;> omega
theorem sh_of {x : Int} (h : W64 x) : sh x = x ∧ hiW x = sgW (sh x) := by
  unfold W64 at h
  have e : sh x = x := by unfold sh loW; split <;> omega
  refine ⟨e, ?_⟩
  rw [e]
  unfold hiW sgW; split <;> omega
theorem sh_no {x : Int} (h : ¬ W64 x) (a : -170141183460469231731687303715884105728 ≤ x) (b : x < 170141183460469231731687303715884105728) : hiW x ≠ sgW (sh x) := by
  unfold W64 at h
  unfold hiW sgW sh loW
  intro e
  by_cases c : x % 18446744073709551616 < 9223372036854775808
  · rw [if_pos c, if_neg (by omega)] at e; omega
  · rw [if_neg c, if_pos (by omega)] at e; omega
theorem three_a (s : String) (x y c : Nat) (hc1 : c ≤ 1) (w : World) : (Extern.MathBitsCarry.three s #[.int .u64 x, .int .u64 y, .int .u64 c]).run Tryd.prog w = .ok (x, y, c) w := by
  have h : c = 0 ∨ c = 1 := by omega
  rcases h with rfl | rfl <;> rfl
theorem run_add (x y c s o : Int) (hx : 0 ≤ x) (hy : 0 ≤ y) (hc : 0 ≤ c) (hc1 : c ≤ 1) (hs : (x + y + c) % 18446744073709551616 = s) (ho : (x + y + c) / 18446744073709551616 = o) (w : World) :
    (callFunc 36 #[.int .u64 x, .int .u64 y, .int .u64 c]).run Tryd.prog w = .ok (.value (.tuple #[.int .u64 s, .int .u64 o])) w := by
  rw [run_callFunc_extern (e := fun args => do
    let (x, y, c) ← Extern.MathBitsCarry.three "Add64" args
    pure (Extern.MathBitsCarry.pair ((x + y + c) % Extern.MathBitsCarry.m64) ((x + y + c) / Extern.MathBitsCarry.m64))) Tryd.func36 (by kernel_rfl) (by kernel_rfl) (by kernel_rfl) (by kernel_rfl)]
  obtain ⟨x, rfl⟩ : ∃ n : Nat, x = n := ⟨x.toNat, by omega⟩
  obtain ⟨y, rfl⟩ : ∃ n : Nat, y = n := ⟨y.toNat, by omega⟩
  obtain ⟨c, rfl⟩ : ∃ n : Nat, c = n := ⟨c.toNat, by omega⟩
  have e : Extern.MathBitsCarry.m64 = 18446744073709551616 := by decide
  have hp : Extern.MathBitsCarry.pair ((x + y + c) % Extern.MathBitsCarry.m64) ((x + y + c) / Extern.MathBitsCarry.m64) = .tuple #[.int .u64 s, .int .u64 o] := by
    unfold Extern.MathBitsCarry.pair
    rw [e, Int.ofNat_eq_natCast, Int.ofNat_eq_natCast]
    have h1 : (((x + y + c) % 18446744073709551616 : Nat) : Int) = s := by omega
    have h2 : (((x + y + c) / 18446744073709551616 : Nat) : Int) = o := by omega
    rw [h1, h2]
  have h4 := three_a "Add64" x y c (by omega) w
  rw [Sem.run_bind, h4, Result.andThen_ok]
  show Result.andThen (Sem.run Tryd.prog (pure (Extern.MathBitsCarry.pair ((x + y + c) % Extern.MathBitsCarry.m64) ((x + y + c) / Extern.MathBitsCarry.m64))) w) _ = _
  rw [hp]; rfl
theorem run_sub (x y c s o : Int) (hx : 0 ≤ x) (hy : 0 ≤ y) (hy1 : y < 18446744073709551616) (hc : 0 ≤ c) (hc1 : c ≤ 1) (hs : (x + 18446744073709551616 - y - c) % 18446744073709551616 = s) (ho : bo x (y + c) = o) (w : World) :
    (callFunc 39 #[.int .u64 x, .int .u64 y, .int .u64 c]).run Tryd.prog w = .ok (.value (.tuple #[.int .u64 s, .int .u64 o])) w := by
  rw [run_callFunc_extern (e := fun args => do
    let (x, y, b) ← Extern.MathBitsCarry.three "Sub64" args
    pure (Extern.MathBitsCarry.pair ((x + Extern.MathBitsCarry.m64 - y - b) % Extern.MathBitsCarry.m64) (if x < y + b then 1 else 0))) Tryd.func39 (by kernel_rfl) (by kernel_rfl) (by kernel_rfl) (by kernel_rfl)]
  obtain ⟨x, rfl⟩ : ∃ n : Nat, x = n := ⟨x.toNat, by omega⟩
  obtain ⟨y, rfl⟩ : ∃ n : Nat, y = n := ⟨y.toNat, by omega⟩
  obtain ⟨c, rfl⟩ : ∃ n : Nat, c = n := ⟨c.toNat, by omega⟩
  have e : Extern.MathBitsCarry.m64 = 18446744073709551616 := by decide
  have hp : Extern.MathBitsCarry.pair ((x + Extern.MathBitsCarry.m64 - y - c) % Extern.MathBitsCarry.m64) (if x < y + c then 1 else 0) = .tuple #[.int .u64 s, .int .u64 o] := by
    unfold Extern.MathBitsCarry.pair
    rw [e, Int.ofNat_eq_natCast, Int.ofNat_eq_natCast]
    have h1 : (((x + 18446744073709551616 - y - c) % 18446744073709551616 : Nat) : Int) = s := by omega
    have h2 : (((if x < y + c then 1 else 0) : Nat) : Int) = o := by
      unfold bo at ho
      by_cases d : x < y + c
      · rw [if_pos d]; rw [if_pos (by omega)] at ho; exact ho
      · rw [if_neg d]; rw [if_neg (by omega)] at ho; exact ho
    rw [h1, h2]
  have h4 := three_a "Sub64" x y c (by omega) w
  rw [Sem.run_bind, h4, Result.andThen_ok]
  show Result.andThen (Sem.run Tryd.prog (pure (Extern.MathBitsCarry.pair ((x + Extern.MathBitsCarry.m64 - y - c) % Extern.MathBitsCarry.m64) (if x < y + c then 1 else 0))) w) _ = _
  rw [hp]; rfl
/-- flows below a number -/
def upF (k : Nat) (F : Nat → Int) (i : Nat) : Int := if i < k then F i else 0
theorem mv_nil {n c : Nat} (W F : Nat → Int) (hn : 1 ≤ n) (hc : c < 6 * n * n) : mv n W (upF 0 F) c = W c := by
  have h := mv_back n W (fun _ => 0) c
  have g := mv_two n W (fun _ => 0) (fun i => -(fun _ => (0 : Int)) i) c
  rw [h] at g
  rw [g]
  exact mv_congr hn hc rfl (fun i _ => by simp [upF])
/-- one flow more -/
theorem mv_up {n k c : Nat} (W F : Nat → Int) (hn : 1 ≤ n) (hk : k < 12 * n * n) (hc : c < 6 * n * n) : mv n W (upF (k + 1) F) c = if c = edT n k / 4 then mv n W (upF k F) c - F k else if c = mt n (edT n k) / 4 then mv n W (upF k F) c + F k else mv n W (upF k F) c := by
  rw [← mv_one (q := F k) (mv n W (upF k F)) hn hk hc, mv_two]
  refine mv_congr hn hc rfl (fun i _ => ?_)
  unfold upF oneF
  by_cases a : i < k
  · rw [if_pos (by omega), if_pos a, if_neg (by omega)]; omega
  · by_cases b : i = k
    · subst b; rw [if_pos (by omega), if_neg (by omega), if_pos rfl]; omega
    · rw [if_neg (by omega), if_neg a, if_neg b]; omega
theorem mv_all {n c : Nat} (W F : Nat → Int) (hn : 1 ≤ n) (hc : c < 6 * n * n) : mv n W (upF (12 * n * n) F) c = mv n W F c :=
  mv_congr hn hc rfl (fun i hi => by unfold upF; rw [if_pos hi])
theorem sum_in {f : Nat → Int} : ∀ {l : Nat}, (∀ k, k < l → W64 (f k)) → -(9223372036854775808 * (l : Int)) ≤ sumN f l ∧ sumN f l ≤ 9223372036854775807 * (l : Int)
  | 0, _ => by unfold sumN; omega
  | l + 1, h => by
    have i := sum_in (l := l) (fun k hk => h k (by omega))
    have j := h l (by omega)
    unfold W64 at j
    show _ ≤ sumN f l + f l ∧ sumN f l + f l ≤ _
    omega
end Ms
end Go.Proofs.YtapklbfcjgpkdaaDoor

namespace Go.Proofs.YtapklbfcjgpkdaaDoor
open Go.RowKit Go.Deep Cu
namespace Ms
open Sh
set_option maxRecDepth 100000 in
set_option maxHeartbeats 4000000 in
theorem signs_at (n : Int) (w : World) (h : W64 n) : Calls Tryd.prog 37 #[.int .i64 n] w fun e w' => e = .returned (.int .u64 (sgW n)) ∧ w' = w := by
  unfold W64 at h
  obtain ⟨h1, h2⟩ := h
  by_cases c : n < 0
  · have e : n / 9223372036854775808 = -1 := by omega
    have e2 : sgW n = 18446744073709551615 := if_pos c
    rw [e2]
    go_enter Tryd.func37, Tryd.ntmps37
    go_wp2
    go_ret
    exact ⟨rfl, rfl⟩
  · have e : n / 9223372036854775808 = 0 := by omega
    have e2 : sgW n = 0 := if_neg c
    rw [e2]
    go_enter Tryd.func37, Tryd.ntmps37
    go_wp2
    go_ret
    exact ⟨rfl, rfl⟩
/-- the two blocks of a call of plus -/
def PlW (w wr : World) (y : Int) : Prop := wr.heap[w.heap.size]? = some (.cells #[.int .u64 (hiW y), .int .u64 (loW y)] 43) ∧ wr.heap[w.heap.size + 1]? = some (.cells #[.int .u64 0, .int .u64 0] 43) ∧ Below w.heap.size w wr
theorem frz2 {w : World} {b : Nat} {v1 v2 : Value} {T : TypeId} (h : w.heap[b]? = some (.cells #[v1, v2] T)) (k : Nat) : w.frozen? ⟨b, k, none⟩ = false := by
  have r : w.rowIs b T 2 (fun k => (#[v1, v2] : Array Value).getD k (.bool false)) := ⟨_, h, rfl, fun i hi => by
    match i, hi with
    | 0, _ => rfl
    | 1, _ => rfl⟩
  exact r.frozen k
theorem two_set {w : World} {b : Nat} {v1 v2 : Value} {T : TypeId} (h : w.heap[b]? = some (.cells #[v1, v2] T)) (a c : Value) : ((w.setCell ⟨b, 0, none⟩ a).setCell ⟨b, 1, none⟩ c).heap[b]? = some (.cells #[a, c] T) := one_set (one_set h)
theorem PlW.drewN {w wr : World} {y : Int} (h : PlW w wr y) (q : Nat) : PlW w (wr.drewN q) y := ⟨by simpa using h.1, by simpa using h.2.1, Ab.drewN h.2.2 q⟩
theorem PlW.put {w wr : World} {y : Int} (h : PlW w wr y) (z : Int) : PlW w ((wr.setCell ⟨w.heap.size, 0, none⟩ (.int .u64 (hiW z))).setCell ⟨w.heap.size, 1, none⟩ (.int .u64 (loW z))) z :=
  ⟨one_set (one_set h.1), by rw [Below.heap_setCell _ _ _ _ (by simp), Below.heap_setCell _ _ _ _ (by simp)]; exact h.2.1, Ab.setk (Ab.setk h.2.2 (Nat.le_refl _) _) (Nat.le_refl _) _⟩
set_option maxRecDepth 100000 in
set_option maxHeartbeats 8000000 in
theorem plus_at (p : Option Addr) (n c : Nat) (f : Nat → Int) (x : Int) (w : World) (hn : n ≤ 9223372036854775807) (hf : Hid (IsI w p n f)) :
    Calls Tryd.prog 14 #[.agg #[.int .u64 (hiW x), .int .u64 (loW x)], .slice p n c] w fun e w' => e = .returned (.agg #[.int .u64 (hiW (x + sumN f n)), .int .u64 (loW (x + sumN f n))]) ∧ Below w.heap.size w w' := by
  have P0 : Hid (PlW w ((w.alloc (.cells #[.int .u64 (hiW x), .int .u64 (loW x)] 43)).alloc (.cells #[.int .u64 0, .int .u64 0] 43)) x) := ⟨heap_alloc2_old _ _ _, heap_alloc2_new _ _ _, bl2 _ _ _⟩
  go_enter Tryd.func14, Tryd.ntmps14
  go_wp2
  go_loopw [13] (fun kv wr => ∃ k : Nat, k ≤ n ∧ kv = .int .i64 (k : Nat) ∧ PlW w wr (x + sumN f k)) (fun kv _ => n - (intOf kv).toNat)
  case atStart =>
    refine ⟨0, by omega, rfl, ?_⟩
    rw [show x + sumN f 0 = x from Int.add_zero x]
    exact P0.out
  case round =>
    obtain ⟨k, hk, rfl, r1⟩ := hrel
    have R1 := hid r1
    clear r1 P0
    by_cases hlt : k < n
    · have hI := hf.out k hlt
      obtain ⟨hI1, b, o, rfl, hb, hc⟩ := hI
      have hw : W64 (f k) := hI1
      have c0 : wr.cell? ⟨b, o + k, none⟩ = some (.int .i64 (f k)) := by rw [← hc]; exact World.cell?_of_block (Below.block R1.out.2.2 b hb)
      have x0 := cell_of_row _ _ 0 _ _ _ R1.out.1
      have x1 := cell_of_row _ _ 1 _ _ _ R1.out.1
      have z0 := frz2 R1.out.1 0
      have z1 := frz2 R1.out.1 1
      have E1 : Hid (x + sumN f (k + 1) = x + sumN f k + f k) := by
        show x + (sumN f k + f k) = _
        omega
      have HL := hid hlt
      have kI : (k : Int) < n := by omega
      have nI : (n : Int) ≤ 9223372036854775807 := by omega
      generalize x + sumN f k = y at *
      generalize f k = q at *
      obtain ⟨cy, hcy⟩ : ∃ c, (loW y + wd q + 0) / 18446744073709551616 = c := ⟨_, rfl⟩
      have pc := plus_carry (x := y) hw
      have ph := plus_high (x := y) hw
      rw [hcy] at pc ph
      have A1 := run_add (loW y) (wd q) 0 (loW (y + q)) cy (loW_in y).1 (wd_in hw).1 (by omega) (by omega) (plus_low hw) hcy
      have A2 := run_add (hiW y) (sgW q) cy (hiW (y + q)) _ (hiW_in y).1 (sgW_in q).1 pc.1 pc.2 ph rfl
      have SG := hid (fun u => signs_at q u hw)
      have hwr := wd_wrap hw
      have y1 := loW_in y
      have y2 := hiW_in y
      have y3 := loW_in (y + q)
      have y4 := hiW_in (y + q)
      have y5 := wd_in hw
      have y6 := sgW_in q
      generalize (hiW y + sgW q + cy) / 18446744073709551616 = o2 at *
      clear hcy ph hI1 hc hf hw
      generalize hiW y = hy at *
      generalize loW y = ly at *
      generalize sgW q = sq at *
      generalize wd q = wq at *
      go_wp2_with fail
      go_quiet (first | (go_at_call 37; refine Calls.quiet_of_same (SG.out _)))
      go_wp2
      refine ⟨⟨k + 1, by have := HL.out; omega, by simp, ?_⟩, by have := HL.out; simp [intOf]; omega⟩
      rw [E1.out]
      exact (R1.out.drewN nq).put _
    · obtain rfl : k = n := by omega
      have x0 := cell_of_row _ _ 0 _ _ _ R1.out.1
      have x1 := cell_of_row _ _ 1 _ _ _ R1.out.1
      have z0 := frz2 R1.out.2.1 0
      have z1 := frz2 R1.out.2.1 1
      have v0 := cell_of_row _ _ 0 _ _ _ R1.out.2.1
      have v1 := cell_of_row _ _ 1 _ _ _ R1.out.2.1
      have y3 := loW_in (x + sumN f k)
      have y4 := hiW_in (x + sumN f k)
      obtain ⟨y, hy⟩ : ∃ y, x + sumN f k = y := ⟨_, rfl⟩
      rw [hy] at x0 x1 y3 y4
      have HY := hid hy
      clear hy
      go_wp2
      rw [HY.out]
      refine bodyPost_ret ?_ rfl ⟨rfl, ?_⟩
      · exact results_cell_row Tryd.results14 _ _ (w.heap.size + 1) _ _ (0, 0) _ rfl (two_set R1.out.2.1 _ _) Tryd.underlying43 rfl (by kernel_rfl)
      · exact Ab.setk (Ab.setk R1.out.2.2 (Nat.le_succ _) _) (Nat.le_succ _) _
set_option maxRecDepth 100000 in
set_option maxHeartbeats 8000000 in
theorem minus_at (x q : Int) (w : World) (hw : W64 q) :
    Calls Tryd.prog 16 #[.agg #[.int .u64 (hiW x), .int .u64 (loW x)], .int .i64 q] w fun e w' => e = .returned (.agg #[.int .u64 (hiW (x - q)), .int .u64 (loW (x - q))]) ∧ Below w.heap.size w w' := by
  have P0 : Hid (PlW w ((w.alloc (.cells #[.int .u64 (hiW x), .int .u64 (loW x)] 43)).alloc (.cells #[.int .u64 0, .int .u64 0] 43)) x) := ⟨heap_alloc2_old _ _ _, heap_alloc2_new _ _ _, bl2 _ _ _⟩
  obtain ⟨cy, hcy⟩ : ∃ c, bo (loW x) (wd q + 0) = c := ⟨_, rfl⟩
  have pc := bo_in (loW x) (wd q + 0)
  have ph := minus_high (x := x) hw
  rw [hcy] at pc ph
  have A1 := run_sub (loW x) (wd q) 0 (loW (x - q)) cy (loW_in x).1 (wd_in hw).1 (wd_in hw).2 (by omega) (by omega) (minus_low hw) hcy
  have A2 := run_sub (hiW x) (sgW q) cy (hiW (x - q)) _ (hiW_in x).1 (sgW_in q).1 (sgW_in q).2 pc.1 pc.2 ph rfl
  have SG := hid (fun u => signs_at q u hw)
  have hwr := wd_wrap hw
  have y1 := loW_in x
  have y2 := hiW_in x
  have y3 := loW_in (x - q)
  have y4 := hiW_in (x - q)
  have y5 := wd_in hw
  have y6 := sgW_in q
  generalize bo (hiW x) (sgW q + cy) = o2 at *
  clear hcy ph hw
  generalize loW (x - q) = lz at *
  generalize hiW (x - q) = hz at *
  generalize sgW q = sq at *
  generalize wd q = wq at *
  go_enter Tryd.func16, Tryd.ntmps16
  go_upto_region 1 with fail
  generalize World.alloc _ _ = W at *
  have x0 := cell_of_row _ _ 0 _ _ _ P0.out.1
  have x1 := cell_of_row _ _ 1 _ _ _ P0.out.1
  have v0 := cell_of_row _ _ 0 _ _ _ P0.out.2.1
  have v1 := cell_of_row _ _ 1 _ _ _ P0.out.2.1
  have z0 := frz2 P0.out.2.1 0
  have z1 := frz2 P0.out.2.1 1
  go_wp2_with fail
  go_quiet (first | (go_at_call 37; refine Calls.quiet_of_same (SG.out _)))
  go_wp2
  refine bodyPost_ret ?_ rfl ⟨rfl, ?_⟩
  · exact results_cell_row Tryd.results16 _ _ (w.heap.size + 1) _ _ (0, 0) _ rfl (two_set (P0.out.drewN nq).2.1 _ _) Tryd.underlying43 rfl (by kernel_rfl)
  · exact Ab.setk (Ab.setk (P0.out.drewN nq).2.2 (Nat.le_succ _) _) (Nat.le_succ _) _
set_option maxRecDepth 100000 in
set_option maxHeartbeats 8000000 in
theorem short_go (x s : Int) (sg : Int) (ok : Bool) (w : World) (hs : IntKind.i64.wrap (loW x) = s) (hok : (hiW x == sg) = ok) (SG : Hid (∀ u, Calls Tryd.prog 37 #[.int .i64 s] u fun e w' => e = .returned (.int .u64 sg) ∧ w' = u)) :
    Calls Tryd.prog 35 #[.agg #[.int .u64 (hiW x), .int .u64 (loW x)]] w fun e w' => e = .returned (.tuple #[.int .i64 s, .bool ok]) ∧ Below w.heap.size w w' := by
  have P0 : Hid ((w.alloc (.cells #[.int .u64 (hiW x), .int .u64 (loW x)] 43)).heap[w.heap.size]? = some (.cells #[.int .u64 (hiW x), .int .u64 (loW x)] 43)) := heap_alloc_new _ _
  have B0 : Hid (Ab w (w.alloc (.cells #[.int .u64 (hiW x), .int .u64 (loW x)] 43))) := bl1 _ _
  have y1 := loW_in x
  have y2 := hiW_in x
  generalize hiW x = hx at *
  generalize loW x = lx at *
  go_enter Tryd.func35, Tryd.ntmps35
  go_upto_region 1 with fail
  generalize World.alloc _ _ = W at *
  have x0 := cell_of_row _ _ 0 _ _ _ P0.out
  have x1 := cell_of_row _ _ 1 _ _ _ P0.out
  go_wp2_with fail
  go_quiet (first | (go_at_call 37; refine Calls.quiet_of_same (SG.out _)))
  go_wp2
  go_ret2
  exact ⟨rfl, Ab.drewN B0.out nq⟩
/-- A NUMBER OF 128 BITS AS ONE OF 64: it is one -/
theorem short_yes (x : Int) (w : World) (h : W64 x) : Calls Tryd.prog 35 #[.agg #[.int .u64 (hiW x), .int .u64 (loW x)]] w fun e w' => e = .returned (.tuple #[.int .i64 x, .bool true]) ∧ Below w.heap.size w w' := by
  obtain ⟨e1, e2⟩ := sh_of h
  have e3 := sh_wrap x
  rw [e1] at e2 e3
  exact short_go x x (sgW x) true w e3 (by rw [e2]; simp) (fun u => signs_at x u h)
theorem short_no (x : Int) (w : World) (h : ¬ W64 x) (a : -170141183460469231731687303715884105728 ≤ x) (b : x < 170141183460469231731687303715884105728) : Calls Tryd.prog 35 #[.agg #[.int .u64 (hiW x), .int .u64 (loW x)]] w fun e w' => e = .returned (.tuple #[.int .i64 (sh x), .bool false]) ∧ Below w.heap.size w w' :=
  short_go x (sh x) (sgW (sh x)) false w (sh_wrap x) (beq_eq_false_iff_ne.2 (sh_no h a b)) (fun u => signs_at _ u (sh_in x))
set_option maxRecDepth 100000 in
set_option maxHeartbeats 8000000 in
theorem total_go (pw : Option Addr) (lw cw : Nat) (pm : Option Addr) (lm cm : Nat) (h1 l1 h2 l2 s : Int) (ok : Bool) (w : World)
    (C1 : Hid (Calls Tryd.prog 14 #[.agg #[.int .u64 0, .int .u64 0], .slice pw lw cw] w fun e w' => e = .returned (.agg #[.int .u64 h1, .int .u64 l1]) ∧ Below w.heap.size w w'))
    (C2 : Hid (∀ u, Ab w u → Calls Tryd.prog 14 #[.agg #[.int .u64 h1, .int .u64 l1], .slice pm lm cm] u fun e w' => e = .returned (.agg #[.int .u64 h2, .int .u64 l2]) ∧ Below u.heap.size u w'))
    (C3 : Hid (∀ u, Calls Tryd.prog 35 #[.agg #[.int .u64 h2, .int .u64 l2]] u fun e w' => e = .returned (.tuple #[.int .i64 s, .bool ok]) ∧ Below u.heap.size u w')) :
    Calls Tryd.prog 12 #[.slice pw lw cw, .slice pm lm cm] w fun e w' => e = .returned (.tuple #[.int .i64 (if ok then s else 0), .int .i64 (if ok then 0 else 20)]) ∧ Below w.heap.size w w' := by
  cases ok
  · go_enter Tryd.func12, Tryd.ntmps12
    go_wp2_with fail
    refine C1.out.mono ?_
    rintro e9 w1 ⟨rfl, b1⟩
    have B1 : Hid (Ab w w1) := b1
    clear b1
    go_wp2_with fail
    refine (C2.out _ B1.out).mono ?_
    rintro e9 w2 ⟨rfl, b1⟩
    have B2 : Hid (Ab w w2) := B1.out.call b1
    clear b1
    go_wp2_with fail
    refine (C3.out _).mono ?_
    rintro e9 w3 ⟨rfl, b1⟩
    have B3 : Hid (Ab w w3) := B2.out.call b1
    clear b1
    go_wp2
    go_ret2
    exact ⟨rfl, B3.out⟩
  · go_enter Tryd.func12, Tryd.ntmps12
    go_wp2_with fail
    refine C1.out.mono ?_
    rintro e9 w1 ⟨rfl, b1⟩
    have B1 : Hid (Ab w w1) := b1
    clear b1
    go_wp2_with fail
    refine (C2.out _ B1.out).mono ?_
    rintro e9 w2 ⟨rfl, b1⟩
    have B2 : Hid (Ab w w2) := B1.out.call b1
    clear b1
    go_wp2_with fail
    refine (C3.out _).mono ?_
    rintro e9 w3 ⟨rfl, b1⟩
    have B3 : Hid (Ab w w3) := B2.out.call b1
    clear b1
    go_wp2
    go_ret2
    exact ⟨rfl, B3.out⟩
/-- TOTAL -/
theorem totalC : TotalC := by
  intro pw lw cw W pm lm cm M w hlw hlm iW iM
  have C1 := plus_at pw lw cw W 0 w (by omega) iW
  have C2 : ∀ u, Ab w u → _ := fun u (hu : Ab w u) => plus_at pm lm cm M (0 + sumN W lw) u (by omega) (iM.below hu)
  rw [Int.zero_add] at C1 C2
  have s1 := sum_in (f := W) (l := lw) (fun k hk => (iW k hk).1)
  have s2 := sum_in (f := M) (l := lm) (fun k hk => (iM k hk).1)
  constructor
  · intro h
    exact total_go pw lw cw pm lm cm _ _ _ _ _ true w C1 C2 (fun u => short_yes _ u h)
  · intro h
    exact total_go pw lw cw pm lm cm _ _ _ _ _ false w C1 C2 (fun u => short_no _ u h (by omega) (by omega))
end Ms
end Go.Proofs.YtapklbfcjgpkdaaDoor

namespace Go.Proofs.YtapklbfcjgpkdaaDoor
open Go.RowKit Go.Deep Cu
namespace Ms
open Sh
/-- sums in a block -/
def SumsAt (w : World) (g m : Nat) (X : Nat → Int) : Prop := w.rowIs g 43 (m * 2) (fun i => .int .u64 (if i % 2 = 0 then hiW (X (i / 2)) else loW (X (i / 2))))
theorem SumsAt.c0 {w : World} {g m k : Nat} {X : Nat → Int} (h : SumsAt w g m X) (hk : k < m) : w.cell? ⟨g, k * 2, none⟩ = some (.int .u64 (hiW (X k))) := by
  have e := h.cell (i := k * 2) (by omega)
  rw [e]
  have h1 : k * 2 % 2 = 0 := by omega
  have h2 : k * 2 / 2 = k := by omega
  simp [h1, h2]
theorem SumsAt.c1 {w : World} {g m k : Nat} {X : Nat → Int} (h : SumsAt w g m X) (hk : k < m) : w.cell? ⟨g, k * 2 + 1, none⟩ = some (.int .u64 (loW (X k))) := by
  have e := h.cell (i := k * 2 + 1) (by omega)
  rw [e]
  have h1 : (k * 2 + 1) % 2 = 1 := by omega
  have h2 : (k * 2 + 1) / 2 = k := by omega
  simp [h1, h2]
theorem SumsAt.to {w w' : World} {g m : Nat} {X : Nat → Int} (h : SumsAt w g m X) (a : Ab w w') : SumsAt w' g m X := rowIs.ab h a
theorem SumsAt.frz {w : World} {g m : Nat} {X : Nat → Int} (h : SumsAt w g m X) (k : Nat) : w.frozen? ⟨g, k, none⟩ = false := World.rowIs.frozen h k
/-- one number changed -/
def updX (X : Nat → Int) (c : Nat) (x : Int) (i : Nat) : Int := if i = c then x else X i
theorem SumsAt.put {w : World} {g m c : Nat} {X : Nat → Int} (h : SumsAt w g m X) (x : Int) : SumsAt ((w.setCell ⟨g, c * 2, none⟩ (.int .u64 (hiW x))).setCell ⟨g, c * 2 + 1, none⟩ (.int .u64 (loW x))) g m (updX X c x) := by
  refine ((World.rowIs.set h (c * 2) (.int .u64 (hiW x))).set (c * 2 + 1) (.int .u64 (loW x))).congr (fun i _ => ?_)
  have q1 : (c * 2) / 2 = c := by omega
  have q2 : (c * 2 + 1) / 2 = c := by omega
  have q3 : (c * 2 + 1) % 2 = 1 := by omega
  have q4 : (c * 2) % 2 = 0 := by omega
  unfold updX
  by_cases e1 : i = c * 2 + 1
  · subst e1
    simp [q2, q3]
  · by_cases e2 : i = c * 2
    · subst e2; simp [q1, q4]
    · have e3 : i / 2 ≠ c := by omega
      simp [e1, e2, e3]
theorem SumsAt.congr {w : World} {g m : Nat} {X Y : Nat → Int} (h : SumsAt w g m X) (e : ∀ c, c < m → X c = Y c) : SumsAt w g m Y :=
  World.rowIs.congr h (fun i hi => by rw [e (i / 2) (by omega)])
theorem row_ownM {B g cap n : Nat} {F : Nat → Value} {x : Nat → Int} {w : World} (h : w.rowIs g 2 cap F) (hB : B ≤ g) (hn : n ≤ cap) (hc : cap ≤ maxLen) (hF : ∀ i, i < n → F i = .int .i64 (x i)) : Own B (.slice (some ⟨g, 0, none⟩) n cap) ((List.range n).map x) w := by
  obtain ⟨c, hb, hs, hf⟩ := h
  refine ⟨by simp, .inr ⟨g, cap, c, by simp, hB, hb, by simpa using hn, hc, by omega, ?_⟩⟩
  apply List.ext_getElem?
  intro i
  rw [List.getElem?_take, List.length_map, List.length_range]
  by_cases hi : i < n
  · have e := hf i (by omega)
    rw [hF i hi] at e
    rw [if_pos (by omega)]
    rw [← Array.getElem?_toList] at e
    rw [e]
    simp [hi]
  · rw [if_neg (by omega), List.getElem?_eq_none (by simp; omega)]
/-- a cell can have that -/
def gd (x : Int) : Prop := 0 ≤ x ∧ x ≤ 9223372036854775807
set_option maxRecDepth 100000 in
set_option maxHeartbeats 8000000 in
theorem held_at (g m : Nat) (X : Nat → Int) (w : World) (hm : m ≤ 65536) (S : Hid (SumsAt w g m X)) (hX : Hid (∀ k, k < m → -170141183460469231731687303715884105728 ≤ X k ∧ X k < 170141183460469231731687303715884105728)) :
    Calls Tryd.prog 17 #[.slice (some ⟨g, 0, none⟩) m m] w fun e w' => Below w.heap.size w w' ∧ (((∀ k, k < m → gd (X k)) ∧ ∃ v, e = .returned (.tuple #[v, .int .i64 0]) ∧ Own w.heap.size v ((List.range m).map X) w') ∨ ((¬ ∀ k, k < m → gd (X k)) ∧ e = .returned (.tuple #[.slice none 0 0, .int .i64 20]))) := by
  have MK := run_make_row' (P := Tryd.prog) 22 2 (.int .i64 0) 8 Tryd.underlying22 info64 rfl .i64 .i64 m (by omega) (by omega) w
  have MB := hid hm
  clear hm
  obtain ⟨ob, hob⟩ : ∃ b, w.heap.size = b := ⟨_, rfl⟩
  have RW : Hid ((w.alloc (.cells (madeCells #[.int .i64 0] m) 2)).rowIs ob 2 m (fun _ => .int .i64 0)) := by
    have h := World.rowIs_made w (.int .i64 0) m 2
    rw [hob] at h
    exact h
  have A0 : Hid (Ab w (w.alloc (.cells (madeCells #[.int .i64 0] m) 2))) := bl1 w _
  have HO : Hid (w.heap.size ≤ ob) := Nat.le_of_eq hob
  generalize w.alloc (.cells (madeCells #[.int .i64 0] m) 2) = wm at *
  go_enter Tryd.func17, Tryd.ntmps17
  go_wp2
  clear MK hob
  go_loopw [14] (fun iv wr => ∃ k : Nat, k ≤ m ∧ iv = .int .i64 (k : Nat) ∧ Ab w wr ∧ wr.rowIs ob 2 m (fun i => .int .i64 (if i < k then X i else 0)) ∧ ∀ j, j < k → gd (X j)) (fun iv _ => m - (intOf iv).toNat)
  case atStart => exact ⟨0, by omega, rfl, A0.out, RW.out.congr (fun i _ => by simp), fun j hj => absurd hj (by omega)⟩
  case round =>
    obtain ⟨k, hk, rfl, a1, r1, g1⟩ := hrel
    have AR := hid a1
    have RR := hid r1
    have GR := hid g1
    clear a1 r1 g1 A0 RW
    by_cases hkm : k < m
    · have HK := hid hkm
      have kI : (k : Int) < m := by omega
      have kB : (k : Int) ≤ 65536 := by have := MB.out; omega
      have s1 := S.out.to AR.out
      have x0 := s1.c0 hkm
      have x1 := s1.c1 hkm
      have y1 := loW_in (X k)
      have y2 := hiW_in (X k)
      have HR := hX.out k hkm
      obtain ⟨x, hx⟩ : ∃ x, X k = x := ⟨_, rfl⟩
      rw [hx] at x0 x1 y1 y2 HR
      have HX := hid hx
      clear hx s1 hkm hk
      by_cases w1 : W64 x
      · have C := hid (fun u => short_yes x u w1)
        have wI := w1
        unfold W64 at wI
        go_wp2_with fail
        refine (C.out _).mono ?_
        rintro e9 v1 ⟨rfl, b1⟩
        have A1 : Hid (Ab w v1) := ((AR.out : Ab w wr).trans (bl1 wr _)).call b1
        have R1 := hid (rowIs.ab (rowIs.ab RR.out (bl1 wr _)) b1)
        have f1 := R1.out.cell (i := k) HK.out
        have f2 := R1.out.frozen k
        clear b1 C x0 x1 AR RR
        by_cases p : 0 ≤ x
        · have d : decide (x < 0) = false := decide_eq_false (by omega)
          have G1 : Hid (gd (X k)) := by rw [HX.out]; exact ⟨p, wI.2⟩
          clear p
          go_wp2
          refine ⟨⟨k + 1, by have := HK.out; omega, by simp, Ab.setk A1.out HO.out _, (R1.out.set k (.int .i64 x)).congr (fun i _ => ?_), fun j hj => ?_⟩, by have := HK.out; simp [intOf]; omega⟩
          · by_cases e : i = k
            · subst e; simp [HX.out]
            · have e3 : (i < k + 1) ↔ i < k := by omega
              simp [e, e3]
          · by_cases e : j = k
            · subst e; exact G1.out
            · exact GR.out j (by omega)
        · have d : decide (x < 0) = true := decide_eq_true (by omega)
          have G1 : Hid (¬ gd (X k)) := by rw [HX.out]; exact fun h => p h.1
          clear p
          go_wp2
          go_ret2
          exact ⟨A1.out, .inr ⟨fun h => G1.out (h k HK.out), rfl⟩⟩
      · have C := hid (fun u => short_no x u w1 HR.1 HR.2)
        have G1 : Hid (¬ gd (X k)) := by rw [HX.out]; exact fun h => w1 ⟨by have := h.1; omega, h.2⟩
        clear w1 HR
        go_wp2_with fail
        refine (C.out _).mono ?_
        rintro e9 v1 ⟨rfl, b1⟩
        have A1 : Hid (Ab w v1) := ((AR.out : Ab w wr).trans (bl1 wr _)).call b1
        have R1 := hid (rowIs.ab (rowIs.ab RR.out (bl1 wr _)) b1)
        clear b1 C x0 x1 AR RR
        go_wp2
        go_ret2
        exact ⟨A1.out, .inr ⟨fun h => G1.out (h k HK.out), rfl⟩⟩
    · obtain rfl : k = m := by omega
      go_wp2
      go_ret2
      exact ⟨AR.out, .inl ⟨GR.out, _, rfl, row_ownM RR.out HO.out (Nat.le_refl _) (by unfold maxLen; have := MB.out; omega) (fun i hi => by simp [hi])⟩⟩
end Ms
end Go.Proofs.YtapklbfcjgpkdaaDoor
