/-
  Some of the texts of this proof, one behind the other.
-/
import Derived.Test.YtdigecacmibkpaaGreatDoorSa12
namespace Go.Proofs.YtdigecacmibkpaaGreatDoor
open Go.RowKit Tf Cu Go.Deep
attribute [local go_sem] run_bits run_from raw_feq raw_fne raw_flt raw_fgt run_neg run_store_float
namespace Ss
def AllF (l : List Value) : Prop := ∀ i (h : i < l.length), ∃ y, l[i] = .float .f64 y
def AllI (l : List Value) : Prop := ∀ i (h : i < l.length), ∃ y, l[i] = .int .i64 y
theorem AllF.set {l : List Value} (h : AllF l) (c y : Nat) : AllF (l.set c (.float .f64 y)) := fun i hi => by
  rw [List.length_set] at hi
  by_cases e : c = i
  · subst e; exact ⟨y, by simp⟩
  · obtain ⟨z, hz⟩ := h i hi
    exact ⟨z, by rw [List.getElem_set_ne e]; exact hz⟩
theorem AllI.set {l : List Value} (h : AllI l) (c : Nat) (y : Int) : AllI (l.set c (.int .i64 y)) := fun i hi => by
  rw [List.length_set] at hi
  by_cases e : c = i
  · subst e; exact ⟨y, by simp⟩
  · obtain ⟨z, hz⟩ := h i hi
    exact ⟨z, by rw [List.getElem_set_ne e]; exact hz⟩
theorem K20.to {V : World} {B : Nat} {P : Nat → Prop} {l1 l2 l3 l4 : List Value} {v1 v2 v3 v4 : Value} {w w' : World} (h : K20 V B P l1 l2 l3 l4 v1 v2 v3 v4 w) (a : Ab w w') : K20 V B P l1 l2 l3 l4 v1 v2 v3 v4 w' := by
  obtain ⟨q, h1, h2, h3, h4, d, p⟩ := h
  exact ⟨q.to a, h1.to a, h2.to a, h3.to a, h4.to a, d, p⟩
set_option maxRecDepth 100000 in
theorem rawFrom20 (x : Int) (w : World) :
    Calls Tryz.prog 48 #[.int .u64 x] w fun e w' => e = .returned (.float .f64 x.toNat) ∧ w' = w := by
  go_enter Tryz.func48, Tryz.ntmps48
  go_wp2
  go_ret
  exact ⟨rfl, rfl⟩
set_option maxRecDepth 100000 in
set_option maxHeartbeats 64000000 in
theorem spoil_at (p1 : Option Addr) (n1 c1 : Nat) (p2 : Option Addr) (n2 c2 : Nat) (p3 : Option Addr) (n3 c3 : Nat) (p4 : Option Addr) (n4 c4 : Nat) (sky st : Int) (l1 l2 l3 l4 : List Value) (M : Nat) (P : Nat → Prop) (w : World) (HB : Hid (n1 ≤ 131072 ∧ n2 ≤ 131072 ∧ n3 ≤ 131072 ∧ n4 ≤ 131072)) (hM : M ≤ w.heap.size) (LN : Hid (l1.length = n1 ∧ l2.length = n2 ∧ l3.length = n3 ∧ l4.length = n4)) (AL : Hid (AllF l1 ∧ AllI l2 ∧ AllI l3 ∧ AllF l4)) (hK : K20 w M P l1 l2 l3 l4 (.slice p1 n1 c1) (.slice p2 n2 c2) (.slice p3 n3 c3) (.slice p4 n4 c4) w) (hP : ∀ k, P k → k < w.heap.size) :
    Calls Tryz.prog 18 #[.agg #[.slice p1 n1 c1, .slice p2 n2 c2, .slice p3 n3 c3, .slice p4 n4 c4, .int .i64 sky, .int .i64 st]] w fun e w' => e = .returned (.tuple #[]) ∧ Rv.AbQ w P w' := by
  have RB : Hid (∀ (x : Nat) (v : World), Calls Tryz.prog 49 #[.float .f64 x] v fun e w' => e = .returned (.int .u64 ((x : Nat) : Int)) ∧ Below v.heap.size v w') := fun x v => (rawBits20 x v).mono fun _ _ h => ⟨h.1, by rw [h.2]; exact Below.refl _ _⟩
  have RF : Hid (∀ (x : Int) (v : World), Calls Tryz.prog 48 #[.int .u64 x] v fun e w' => e = .returned (.float .f64 x.toNat) ∧ Below v.heap.size v w') := fun x v => (rawFrom20 x v).mono fun _ _ h => ⟨h.1, by rw [h.2]; exact Below.refl _ _⟩
  have SZ : Hid (∀ (v : World) (O : Obj), (v.alloc O).heap.size = v.heap.size + 1) := fun v O => by show (v.heap.push O).size = _; simp
  have A0 : Ab w (w.alloc (.cells #[.slice p1 n1 c1, .slice p2 n2 c2, .slice p3 n3 c3, .slice p4 n4 c4, .int .i64 sky, .int .i64 st] 33)) := bl1 _ _
  have AW : Hid (Rv.AbQ w P (w.alloc (.cells #[.slice p1 n1 c1, .slice p2 n2 c2, .slice p3 n3 c3, .slice p4 n4 c4, .int .i64 sky, .int .i64 st] 33))) := (Rv.AbQ.refl w P).to A0
  have R0 : Hid ((w.alloc (.cells #[.slice p1 n1 c1, .slice p2 n2 c2, .slice p3 n3 c3, .slice p4 n4 c4, .int .i64 sky, .int .i64 st] 33)).heap[w.heap.size]? = some (.cells #[.slice p1 n1 c1, .slice p2 n2 c2, .slice p3 n3 c3, .slice p4 n4 c4, .int .i64 sky, .int .i64 st] 33)) := heap_alloc_new _ _
  have NG : Hid (¬ P w.heap.size) := fun h => by have := hP _ h; omega
  have KK : Hid (K20 (w.alloc (.cells #[.slice p1 n1 c1, .slice p2 n2 c2, .slice p3 n3 c3, .slice p4 n4 c4, .int .i64 sky, .int .i64 st] 33)) M P l1 l2 l3 l4 (.slice p1 n1 c1) (.slice p2 n2 c2) (.slice p3 n3 c3) (.slice p4 n4 c4) (w.alloc (.cells #[.slice p1 n1 c1, .slice p2 n2 c2, .slice p3 n3 c3, .slice p4 n4 c4, .int .i64 sky, .int .i64 st] 33))) := by
    obtain ⟨q, h1, h2, h3, h4, d, q1, q2, q3, q4⟩ := hK
    have f : ∀ (t : TypeId) (v : Value) (l : List Value), OV t M v l w → (∀ k, v.ownBlock = some k → P k ∨ w.heap.size ≤ k) → ∀ k, v.ownBlock = some k → P k ∨ (w.alloc (.cells #[.slice p1 n1 c1, .slice p2 n2 c2, .slice p3 n3 c3, .slice p4 n4 c4, .int .i64 sky, .int .i64 st] 33)).heap.size ≤ k := fun t v l o hp k hk => by
      rcases hp k hk with h | h
      · exact .inl h
      · have := (o.blk hk).2
        omega
    exact ⟨Rv.AbQ.refl _ _, h1.to A0, h2.to A0, h3.to A0, h4.to A0, d, f _ _ _ h1 q1, f _ _ _ h2 q2, f _ _ _ h3 q3, f _ _ _ h4 q4⟩
  have MB : Hid (M ≤ (w.alloc (.cells #[.slice p1 n1 c1, .slice p2 n2 c2, .slice p3 n3 c3, .slice p4 n4 c4, .int .i64 sky, .int .i64 st] 33)).heap.size) := by have := A0.size; show _ ≤ _; omega
  clear hK hP hM A0
  go_enter Tryz.func18, Tryz.ntmps18
  go_upto_region 1 with fail
  generalize hW : World.alloc w _ = V0 at *
  obtain ⟨gs, hgs⟩ : ∃ g, w.heap.size = g := ⟨_, rfl⟩
  rw [hgs] at R0 NG ⊢
  clear hgs hW
  go_wp2
  go_loopw [2] (fun iv wr => ∃ (c : Nat) (l1 l2 l3 l4 : List Value), c ≤ n1 ∧ iv = .int .i64 (c : Nat) ∧ (l1.length = n1 ∧ l2.length = n2 ∧ l3.length = n3 ∧ l4.length = n4) ∧ (AllF l1 ∧ AllI l2 ∧ AllI l3 ∧ AllF l4) ∧ K20 V0 M P l1 l2 l3 l4 (.slice p1 n1 c1) (.slice p2 n2 c2) (.slice p3 n3 c3) (.slice p4 n4 c4) wr) (fun iv _ => n1 - (intOf iv).toNat)
  case atStart => exact ⟨0, l1, l2, l3, l4, by omega, rfl, LN.out, AL.out, KK.out⟩
  case round =>
    obtain ⟨c, l1, l2, l3, l4, hc, rfl, hlen, hall, hk⟩ := hrel
    have KQ := hid hk
    have HE := hid hlen
    have HA := hid hall
    clear hk hlen hall KK LN AL
    have BX := hid (KQ.out.1.heap R0.out NG.out)
    have x0 := cell_of_row _ _ 0 _ _ _ BX.out
    by_cases hcN : c < n1
    · have HC := hid hcN
      have hcI : (c : Int) < n1 := by omega
      have hcB : (c : Int) ≤ 131072 := by have := HB.out; omega
      obtain ⟨g, cap, ev, xc, xf, hs⟩ := KQ.out.set1 (c := c) (by have := HE.out; omega)
      obtain ⟨y, hy⟩ := HA.out.1 c (by have := HE.out; omega)
      rw [HE.out.1] at ev
      injection ev with ev1 ev2 ev3
      subst ev1
      rw [hy] at xc
      have XC := hid xc
      have GL : Hid (g < wr.heap.size) := by
        rcases Nat.lt_or_ge g wr.heap.size with h | h
        · exact h
        · have q := XC.out
          simp [World.cell?, Array.getElem?_eq_none h] at q
      clear hs hcN hc xc xf hy ev2 ev3
      go_upto_region 4 with fail
      clear x0
      obtain ⟨UU, E, hF1, hF2⟩ := cls wr
      have HU := hid hF2
      have HU1 := hid hF1
      have e1 : ∀ u, (E u).cell? ⟨gs, 0, none⟩ = some (.slice (some ⟨g, 0, none⟩) n1 c1) := fun u => cell_of_row _ _ 0 _ _ _ ((hF1 u).heap BX.out)
      have e2 : ∀ u, (E u).cell? ⟨g, c, none⟩ = some (.float .f64 y) := fun u => (Below.cell (hF1 u) GL.out).trans XC.out
      have DD0 := HU.out _ (Ab.refl wr).drew
      clear hF1 hF2
      refine region_tail 12 E (by kernel_rfl) (by kernel_rfl) (by kernel_rfl) DD0 ?_
      simp only [List.take_succ_cons, List.take_zero, List.drop_succ_cons, List.drop_zero]
      repeat (go_big_quiet_step (first | (with_reducible rfl) | (go_at_call 49; exact calls_cls HU HU1 (RB.out _ _)) | (go_at_call 48; exact calls_cls HU HU1 (RF.out _ _))))
      refine wpQuiet_nil ?_
      intro vz hwz
      obtain ⟨u0, hu⟩ := hwz
      have AZ : Hid (Ab wr vz) := by rw [hu]; exact HU1.out u0
      clear hu u0
      clear HU HU1 DD0 e1 e2
      clear E UU
      have KZ := hid (KQ.out.to AZ.out)
      obtain ⟨g2, cap2, ev, xc, xf, hs⟩ := KZ.out.set1 (c := c) (by have := HE.out; have := HC.out; omega)
      injection ev with ev1 ev2 ev3
      injection ev1 with ev4
      injection ev4 with ev5
      subst ev5
      obtain ⟨zc, hzc⟩ : ∃ z, l1[c]'(by have := HE.out; have := HC.out; omega) = z := ⟨_, rfl⟩
      rw [hzc] at xc
      have HZ := hid hs
      clear hs ev2 ev3 hzc
      go_wp2
      exact ⟨⟨c + 1, (l1.set c _), l2, l3, l4, by have := HC.out; omega, by simp, by have := HE.out; simpa using this, ⟨HA.out.1.set c _, HA.out.2.1, HA.out.2.2.1, HA.out.2.2.2⟩, HZ.out _⟩, by have := HC.out; simp [intOf]; omega⟩
    · have e6 : n1 = c := by omega
      have E6 := hid e6
      have hcI : ¬ ((c : Int) < (n1 : Int)) := by omega
      have d9 : decide (c < n1) = false := decide_eq_false hcN
      have KK := hid KQ.out
      have LN := hid HE.out
      have AL := hid HA.out
      clear hcN hc e6 KQ HE HA
      go_wp2
      go_loopw [3] (fun iv wr => ∃ (c : Nat) (l1 l2 l3 l4 : List Value), c ≤ n4 ∧ iv = .int .i64 (c : Nat) ∧ (l1.length = n1 ∧ l2.length = n2 ∧ l3.length = n3 ∧ l4.length = n4) ∧ (AllF l1 ∧ AllI l2 ∧ AllI l3 ∧ AllF l4) ∧ K20 V0 M P l1 l2 l3 l4 (.slice p1 n1 c1) (.slice p2 n2 c2) (.slice p3 n3 c3) (.slice p4 n4 c4) wr) (fun iv _ => n4 - (intOf iv).toNat)
      case atStart => exact ⟨0, l1, l2, l3, l4, by omega, rfl, LN.out, AL.out, KK.out⟩
      case round =>
        obtain ⟨c, l1, l2, l3, l4, hc, rfl, hlen, hall, hk⟩ := hrel
        have KQ := hid hk
        have HE := hid hlen
        have HA := hid hall
        clear hk hlen hall KK LN AL
        have BX := hid (KQ.out.1.heap R0.out NG.out)
        have x0 := cell_of_row _ _ 3 _ _ _ BX.out
        by_cases hcN : c < n4
        · have HC := hid hcN
          have hcI : (c : Int) < n4 := by omega
          have hcB : (c : Int) ≤ 131072 := by have := HB.out; omega
          obtain ⟨g, cap, ev, xc, xf, hs⟩ := KQ.out.set4 (c := c) (by have := HE.out; omega)
          obtain ⟨y, hy⟩ := HA.out.2.2.2 c (by have := HE.out; omega)
          rw [HE.out.2.2.2] at ev
          injection ev with ev1 ev2 ev3
          subst ev1
          rw [hy] at xc
          have XC := hid xc
          have GL : Hid (g < wr.heap.size) := by
            rcases Nat.lt_or_ge g wr.heap.size with h | h
            · exact h
            · have q := XC.out
              simp [World.cell?, Array.getElem?_eq_none h] at q
          clear hs hcN hc xc xf hy ev2 ev3
          go_upto_region 8 with fail
          clear x0
          obtain ⟨UU, E, hF1, hF2⟩ := cls wr
          have HU := hid hF2
          have HU1 := hid hF1
          have e1 : ∀ u, (E u).cell? ⟨gs, 3, none⟩ = some (.slice (some ⟨g, 0, none⟩) n4 c4) := fun u => cell_of_row _ _ 3 _ _ _ ((hF1 u).heap BX.out)
          have e2 : ∀ u, (E u).cell? ⟨g, c, none⟩ = some (.float .f64 y) := fun u => (Below.cell (hF1 u) GL.out).trans XC.out
          have DD0 := HU.out _ (Ab.refl wr).drew
          clear hF1 hF2
          refine region_tail 12 E (by kernel_rfl) (by kernel_rfl) (by kernel_rfl) DD0 ?_
          simp only [List.take_succ_cons, List.take_zero, List.drop_succ_cons, List.drop_zero]
          repeat (go_big_quiet_step (first | (with_reducible rfl) | (go_at_call 49; exact calls_cls HU HU1 (RB.out _ _)) | (go_at_call 48; exact calls_cls HU HU1 (RF.out _ _))))
          refine wpQuiet_nil ?_
          intro vz hwz
          obtain ⟨u0, hu⟩ := hwz
          have AZ : Hid (Ab wr vz) := by rw [hu]; exact HU1.out u0
          clear hu u0
          clear HU HU1 DD0 e1 e2
          clear E UU
          have KZ := hid (KQ.out.to AZ.out)
          obtain ⟨g2, cap2, ev, xc, xf, hs⟩ := KZ.out.set4 (c := c) (by have := HE.out; have := HC.out; omega)
          injection ev with ev1 ev2 ev3
          injection ev1 with ev4
          injection ev4 with ev5
          subst ev5
          obtain ⟨zc, hzc⟩ : ∃ z, l4[c]'(by have := HE.out; have := HC.out; omega) = z := ⟨_, rfl⟩
          rw [hzc] at xc
          have HZ := hid hs
          clear hs ev2 ev3 hzc
          go_wp2
          exact ⟨⟨c + 1, l1, l2, l3, (l4.set c _), by have := HC.out; omega, by simp, by have := HE.out; simpa using this, ⟨HA.out.1, HA.out.2.1, HA.out.2.2.1, HA.out.2.2.2.set c _⟩, HZ.out _⟩, by have := HC.out; simp [intOf]; omega⟩
        · have e6 : n4 = c := by omega
          have E6 := hid e6
          have hcI : ¬ ((c : Int) < (n4 : Int)) := by omega
          have d9 : decide (c < n4) = false := decide_eq_false hcN
          have KK := hid KQ.out
          have LN := hid HE.out
          have AL := hid HA.out
          clear hcN hc e6 KQ HE HA
          go_wp2
          go_loopw [4] (fun iv wr => ∃ (c : Nat) (l1 l2 l3 l4 : List Value), c ≤ n2 ∧ iv = .int .i64 (c : Nat) ∧ (l1.length = n1 ∧ l2.length = n2 ∧ l3.length = n3 ∧ l4.length = n4) ∧ (AllF l1 ∧ AllI l2 ∧ AllI l3 ∧ AllF l4) ∧ K20 V0 M P l1 l2 l3 l4 (.slice p1 n1 c1) (.slice p2 n2 c2) (.slice p3 n3 c3) (.slice p4 n4 c4) wr) (fun iv _ => n2 - (intOf iv).toNat)
          case atStart => exact ⟨0, l1, l2, l3, l4, by omega, rfl, LN.out, AL.out, KK.out⟩
          case round =>
            obtain ⟨c, l1, l2, l3, l4, hc, rfl, hlen, hall, hk⟩ := hrel
            have KQ := hid hk
            have HE := hid hlen
            have HA := hid hall
            clear hk hlen hall KK LN AL
            have BX := hid (KQ.out.1.heap R0.out NG.out)
            have x0 := cell_of_row _ _ 1 _ _ _ BX.out
            by_cases hcN : c < n2
            · have HC := hid hcN
              have hcI : (c : Int) < n2 := by omega
              have hcB : (c : Int) ≤ 131072 := by have := HB.out; omega
              obtain ⟨g, cap, ev, xc, xf, hs⟩ := KQ.out.set2 (c := c) (by have := HE.out; omega)
              obtain ⟨y, hy⟩ := HA.out.2.1 c (by have := HE.out; omega)
              rw [HE.out.2.1] at ev
              injection ev with ev1 ev2 ev3
              subst ev1
              rw [hy] at xc
              have XC := hid xc
              have GL : Hid (g < wr.heap.size) := by
                rcases Nat.lt_or_ge g wr.heap.size with h | h
                · exact h
                · have q := XC.out
                  simp [World.cell?, Array.getElem?_eq_none h] at q
              clear hs hcN hc xc xf hy ev2 ev3
              go_upto_region 12 with fail
              clear x0
              obtain ⟨UU, E, hF1, hF2⟩ := cls wr
              have HU := hid hF2
              have HU1 := hid hF1
              have e1 : ∀ u, (E u).cell? ⟨gs, 1, none⟩ = some (.slice (some ⟨g, 0, none⟩) n2 c2) := fun u => cell_of_row _ _ 1 _ _ _ ((hF1 u).heap BX.out)
              have e2 : ∀ u, (E u).cell? ⟨g, c, none⟩ = some (.int .i64 y) := fun u => (Below.cell (hF1 u) GL.out).trans XC.out
              have DD0 := HU.out _ (Ab.refl wr).drew
              clear hF1 hF2
              refine region_tail 10 E (by kernel_rfl) (by kernel_rfl) (by kernel_rfl) DD0 ?_
              simp only [List.take_succ_cons, List.take_zero, List.drop_succ_cons, List.drop_zero]
              repeat (go_big_quiet_step (with_reducible rfl))
              refine wpQuiet_nil ?_
              intro vz hwz
              obtain ⟨u0, hu⟩ := hwz
              have AZ : Hid (Ab wr vz) := by rw [hu]; exact HU1.out u0
              clear hu u0
              clear HU HU1 DD0 e1 e2
              clear E UU
              have KZ := hid (KQ.out.to AZ.out)
              obtain ⟨g2, cap2, ev, xc, xf, hs⟩ := KZ.out.set2 (c := c) (by have := HE.out; have := HC.out; omega)
              injection ev with ev1 ev2 ev3
              injection ev1 with ev4
              injection ev4 with ev5
              subst ev5
              obtain ⟨zc, hzc⟩ : ∃ z, l2[c]'(by have := HE.out; have := HC.out; omega) = z := ⟨_, rfl⟩
              rw [hzc] at xc
              have HZ := hid hs
              clear hs ev2 ev3 hzc
              go_wp2
              exact ⟨⟨c + 1, l1, (l2.set c _), l3, l4, by have := HC.out; omega, by simp, by have := HE.out; simpa using this, ⟨HA.out.1, HA.out.2.1.set c _, HA.out.2.2.1, HA.out.2.2.2⟩, HZ.out _⟩, by have := HC.out; simp [intOf]; omega⟩
            · have e6 : n2 = c := by omega
              have E6 := hid e6
              have hcI : ¬ ((c : Int) < (n2 : Int)) := by omega
              have d9 : decide (c < n2) = false := decide_eq_false hcN
              have KK := hid KQ.out
              have LN := hid HE.out
              have AL := hid HA.out
              clear hcN hc e6 KQ HE HA
              go_wp2
              go_loopw [5] (fun iv wr => ∃ (c : Nat) (l1 l2 l3 l4 : List Value), c ≤ n3 ∧ iv = .int .i64 (c : Nat) ∧ (l1.length = n1 ∧ l2.length = n2 ∧ l3.length = n3 ∧ l4.length = n4) ∧ (AllF l1 ∧ AllI l2 ∧ AllI l3 ∧ AllF l4) ∧ K20 V0 M P l1 l2 l3 l4 (.slice p1 n1 c1) (.slice p2 n2 c2) (.slice p3 n3 c3) (.slice p4 n4 c4) wr) (fun iv _ => n3 - (intOf iv).toNat)
              case atStart => exact ⟨0, l1, l2, l3, l4, by omega, rfl, LN.out, AL.out, KK.out⟩
              case round =>
                obtain ⟨c, l1, l2, l3, l4, hc, rfl, hlen, hall, hk⟩ := hrel
                have KQ := hid hk
                have HE := hid hlen
                have HA := hid hall
                clear hk hlen hall KK LN AL
                have BX := hid (KQ.out.1.heap R0.out NG.out)
                have x0 := cell_of_row _ _ 2 _ _ _ BX.out
                by_cases hcN : c < n3
                · have HC := hid hcN
                  have hcI : (c : Int) < n3 := by omega
                  have hcB : (c : Int) ≤ 131072 := by have := HB.out; omega
                  obtain ⟨g, cap, ev, xc, xf, hs⟩ := KQ.out.set3 (c := c) (by have := HE.out; omega)
                  obtain ⟨y, hy⟩ := HA.out.2.2.1 c (by have := HE.out; omega)
                  rw [HE.out.2.2.1] at ev
                  injection ev with ev1 ev2 ev3
                  subst ev1
                  rw [hy] at xc
                  have XC := hid xc
                  have GL : Hid (g < wr.heap.size) := by
                    rcases Nat.lt_or_ge g wr.heap.size with h | h
                    · exact h
                    · have q := XC.out
                      simp [World.cell?, Array.getElem?_eq_none h] at q
                  clear hs hcN hc xc xf hy ev2 ev3
                  go_upto_region 16 with fail
                  clear x0
                  obtain ⟨UU, E, hF1, hF2⟩ := cls wr
                  have HU := hid hF2
                  have HU1 := hid hF1
                  have e1 : ∀ u, (E u).cell? ⟨gs, 2, none⟩ = some (.slice (some ⟨g, 0, none⟩) n3 c3) := fun u => cell_of_row _ _ 2 _ _ _ ((hF1 u).heap BX.out)
                  have e2 : ∀ u, (E u).cell? ⟨g, c, none⟩ = some (.int .i64 y) := fun u => (Below.cell (hF1 u) GL.out).trans XC.out
                  have DD0 := HU.out _ (Ab.refl wr).drew
                  clear hF1 hF2
                  refine region_tail 10 E (by kernel_rfl) (by kernel_rfl) (by kernel_rfl) DD0 ?_
                  simp only [List.take_succ_cons, List.take_zero, List.drop_succ_cons, List.drop_zero]
                  repeat (go_big_quiet_step (with_reducible rfl))
                  refine wpQuiet_nil ?_
                  intro vz hwz
                  obtain ⟨u0, hu⟩ := hwz
                  have AZ : Hid (Ab wr vz) := by rw [hu]; exact HU1.out u0
                  clear hu u0
                  clear HU HU1 DD0 e1 e2
                  clear E UU
                  have KZ := hid (KQ.out.to AZ.out)
                  obtain ⟨g2, cap2, ev, xc, xf, hs⟩ := KZ.out.set3 (c := c) (by have := HE.out; have := HC.out; omega)
                  injection ev with ev1 ev2 ev3
                  injection ev1 with ev4
                  injection ev4 with ev5
                  subst ev5
                  obtain ⟨zc, hzc⟩ : ∃ z, l3[c]'(by have := HE.out; have := HC.out; omega) = z := ⟨_, rfl⟩
                  rw [hzc] at xc
                  have HZ := hid hs
                  clear hs ev2 ev3 hzc
                  go_wp2
                  exact ⟨⟨c + 1, l1, l2, (l3.set c _), l4, by have := HC.out; omega, by simp, by have := HE.out; simpa using this, ⟨HA.out.1, HA.out.2.1, HA.out.2.2.1.set c _, HA.out.2.2.2⟩, HZ.out _⟩, by have := HC.out; simp [intOf]; omega⟩
                · have e6 : n3 = c := by omega
                  have E6 := hid e6
                  have hcI : ¬ ((c : Int) < (n3 : Int)) := by omega
                  have d9 : decide (c < n3) = false := decide_eq_false hcN
                  have KK := hid KQ.out
                  have LN := hid HE.out
                  have AL := hid HA.out
                  clear hcN hc e6 KQ HE HA
                  have BX := hid (KK.out.1.heap R0.out NG.out)
                  have z0 := cell_of_row _ _ 0 _ _ _ BX.out
                  have z1 := cell_of_row _ _ 1 _ _ _ BX.out
                  have z2 := cell_of_row _ _ 2 _ _ _ BX.out
                  have z3 := cell_of_row _ _ 3 _ _ _ BX.out
                  go_wp2
                  clear z0 z1 z2 z3
                  go_loopw [6, 7, 8, 9, 10] (fun av bv cv dv iv wr => ∃ (k : Nat) (l1 l2 l3 l4 : List Value), k ≤ 8 ∧ iv = .int .i64 (k : Nat) ∧ (l1.length = n1 + k ∧ l2.length = n2 + k ∧ l3.length = n3 + k ∧ l4.length = n4 + k) ∧ K20 V0 M P l1 l2 l3 l4 av cv dv bv wr) (fun _ _ _ _ iv _ => 8 - (intOf iv).toNat)
                  case atStart => exact ⟨0, l1, l2, l3, l4, by omega, rfl, LN.out, KK.out⟩
                  case round =>
                    obtain ⟨k, l1, l2, l3, l4, hk, rfl, hlen, hkq⟩ := hrel
                    have KQ := hid hkq
                    have HK := hid hlen
                    clear hkq hlen KK LN AL
                    by_cases hk8 : k < 8
                    · have hkI : (k : Int) < 8 := by omega
                      have hkB : (0 : Int) ≤ (k : Int) := by omega
                      have HK2 := hid hk8
                      clear hk8
                      go_wp2_with (first
                        | (at_builtin; have q9 := K2.out; refine wpList_appI rfl (.tmp 104) (.tmp 105) rfl M _ l3 rfl (K2.out.2.2.2.1.to (bl1 w2 (.cells #[.int .i64 7] 2))) ⟨w2.heap.size, 0, none⟩ (.int .i64 7) rfl rfl (cell_of_row _ _ 0 _ _ _ (heap_alloc_new w2 (.cells #[.int .i64 7] 2))) (by have := HK.out; have := HK2.out; have := HB.out; omega) (by have h1 := K2.out.1.2.2.2.1; have h3 := SZ.out w2 (.cells #[.int .i64 7] 2); have h4 := MB.out; omega) ?_; intro g3 d3 w3 o3 x3 y3; have K3 := hid (K20.app3 K2.out o3 x3 y3); clear o3 x3 y3)
                        | (at_builtin; have q9 := K4.out; refine wpList_appI rfl (.tmp 101) (.tmp 102) rfl M _ l2 rfl (K4.out.2.2.1.to (bl1 w4 (.cells #[.int .i64 7] 2))) ⟨w4.heap.size, 0, none⟩ (.int .i64 7) rfl rfl (cell_of_row _ _ 0 _ _ _ (heap_alloc_new w4 (.cells #[.int .i64 7] 2))) (by have := HK.out; have := HK2.out; have := HB.out; omega) (by have h1 := K4.out.1.2.2.2.1; have h3 := SZ.out w4 (.cells #[.int .i64 7] 2); have h4 := MB.out; omega) ?_; intro g2 d2 w2 o2 x2 y2; have K2 := hid (K20.app2 K4.out o2 x2 y2); clear o2 x2 y2)
                        | (at_builtin; have q9 := K1.out; refine wpList_appF rfl (.tmp 98) (.tmp 99) rfl M _ l4 rfl (K1.out.2.2.2.2.1.to (bl1 w1 (.cells #[.float .f64 4619567317775286272] 22))) ⟨w1.heap.size, 0, none⟩ (.float .f64 4619567317775286272) rfl rfl (cell_of_row _ _ 0 _ _ _ (heap_alloc_new w1 (.cells #[.float .f64 4619567317775286272] 22))) (by have := HK.out; have := HK2.out; have := HB.out; omega) (by have h1 := K1.out.1.2.2.2.1; have h3 := SZ.out w1 (.cells #[.float .f64 4619567317775286272] 22); have h4 := MB.out; omega) ?_; intro g4 d4 w4 o4 x4 y4; have K4 := hid (K20.app4 K1.out o4 x4 y4); clear o4 x4 y4)
                        | (at_builtin; refine wpList_appF rfl (.tmp 95) (.tmp 96) rfl M _ l1 rfl (KQ.out.2.1.to (bl1 wr (.cells #[.float .f64 4619567317775286272] 22))) ⟨wr.heap.size, 0, none⟩ (.float .f64 4619567317775286272) rfl rfl (cell_of_row _ _ 0 _ _ _ (heap_alloc_new wr (.cells #[.float .f64 4619567317775286272] 22))) (by have := HK.out; have := HK2.out; have := HB.out; omega) (by have h1 := KQ.out.1.2.2.2.1; have h3 := SZ.out wr (.cells #[.float .f64 4619567317775286272] 22); have h4 := MB.out; omega) ?_; intro g1 d1 w1 o1 x1 y1; have K1 := hid (K20.app1 KQ.out o1 x1 y1); clear o1 x1 y1))
                      exact ⟨⟨k + 1, l1 ++ [_], l2 ++ [_], l3 ++ [_], l4 ++ [_], by have := HK2.out; omega, by simp, by have := HK.out; simp; omega, K3.out⟩, by have := HK2.out; simp [intOf]; omega⟩
                    · have e6 : k = 8 := by omega
                      subst e6
                      go_wp2
                      go_end0
                      exact ⟨rfl, AbQ.trans AW.out KQ.out.1⟩
end Ss
end Go.Proofs.YtdigecacmibkpaaGreatDoor

namespace Go.Proofs.YtdigecacmibkpaaGreatDoor
open Go.RowKit Tf Cu Go.Deep
attribute [local go_sem] run_bits run_from raw_feq raw_fne raw_flt raw_fgt run_neg run_store_float
namespace Ss
theorem eqL_self {α : Type} [DecidableEq α] (n : Nat) (f : Nat → α) : eqL n n f f = true := by
  unfold eqL
  exact decide_eq_true ⟨rfl, fun _ _ => rfl⟩
theorem eqS_self (lb lw lt ls : Nat) (B : Nat → Nat) (W T : Nat → Int) (S : Nat → Nat) (sky st : Int) : eqS lb lw lt ls B W T S sky st lb lw lt ls B W T S sky st = true := by
  unfold eqS
  rw [eqL_self, eqL_self, eqL_self, eqL_self]
  simp
theorem dj_ty {t t' : TypeId} {M M' : Nat} {v u : Value} {l l' : List Value} {w : World} (h : OV t M v l w) (k : OV t' M' u l' w) (ne : t ≠ t') : Dj v u := fun b h1 h2 => by
  rcases h.2 with ⟨rfl, _⟩ | ⟨g, cap, cur, rfl, _, hg, _⟩
  · cases h1
  · rcases k.2 with ⟨rfl, _⟩ | ⟨g', cap', cur', rfl, _, hg', _⟩
    · cases h2
    · simp only [Value.ownBlock, Option.some.injEq] at h1 h2
      subst h1
      subst h2
      rw [hg] at hg'
      injection hg' with e
      injection e with _ e2
      exact ne e2
theorem ovF {M n : Nat} {f : Nat → Nat} {v : Value} {w : World} (h : OwnG M v ((List.range n).map f) w) : OV 22 M v (((List.range n).map f).map (Value.float .f64)) w := by
  unfold OV
  rw [List.length_map]
  exact h
theorem ovI {M n : Nat} {f : Nat → Int} {v : Value} {w : World} (h : Sh.Own M v ((List.range n).map f) w) : OV 2 M v (((List.range n).map f).map (Value.int .i64)) w := by
  unfold OV
  rw [List.length_map]
  exact h
theorem own_k20 {M : Nat} {v : Value} {lb lw lt ls : Nat} {B : Nat → Nat} {W T : Nat → Int} {S : Nat → Nat} {sky st : Int} {w : World} (h : OwnS M v lb lw lt ls B W T S sky st w) (hB : ∀ i, i < lb → B i < 18446744073709551616) (hW : ∀ i, i < lw → Sh.W64 (W i)) (hT : ∀ i, i < lt → Sh.W64 (T i)) (hS : ∀ i, i < ls → S i < 18446744073709551616) :
    ∃ p1 c1 p2 c2 p3 c3 p4 c4, v = .agg #[.slice p1 lb c1, .slice p2 lw c2, .slice p3 lt c3, .slice p4 ls c4, .int .i64 sky, .int .i64 st] ∧ (IsFl w p1 lb B ∧ Sh.IsI w p2 lw W ∧ Sh.IsI w p3 lt T ∧ IsFl w p4 ls S) ∧ (OV 22 M (.slice p1 lb c1) (((List.range lb).map B).map (Value.float .f64)) w ∧ OV 2 M (.slice p2 lw c2) (((List.range lw).map W).map (Value.int .i64)) w ∧ OV 2 M (.slice p3 lt c3) (((List.range lt).map T).map (Value.int .i64)) w ∧ OV 22 M (.slice p4 ls c4) (((List.range ls).map S).map (Value.float .f64)) w) ∧ (Dj (.slice p1 lb c1) (.slice p2 lw c2) ∧ Dj (.slice p1 lb c1) (.slice p3 lt c3) ∧ Dj (.slice p1 lb c1) (.slice p4 ls c4) ∧ Dj (.slice p2 lw c2) (.slice p3 lt c3) ∧ Dj (.slice p2 lw c2) (.slice p4 ls c4) ∧ Dj (.slice p3 lt c3) (.slice p4 ls c4)) := by
  obtain ⟨p1, c1, p2, c2, p3, c3, p4, c4, rfl, i1, i2, i3, i4, o2, o3, o1, o4, d14⟩ := own_sea h hB hW hT hS
  have d23 : Dj (.slice p2 lw c2) (.slice p3 lt c3) := by
    obtain ⟨v1, v2, v3, v4, e, -, -, -, -, -, d⟩ := h
    simp only [Value.agg.injEq, Array.mk.injEq, List.cons.injEq] at e
    rw [e.2.1, e.2.2.1]
    exact d
  exact ⟨p1, c1, p2, c2, p3, c3, p4, c4, rfl, ⟨i1, i2, i3, i4⟩, ⟨ovF o1, ovI o2, ovI o3, ovF o4⟩, dj_ty (ovF o1) (ovI o2) (by decide), dj_ty (ovF o1) (ovI o3) (by decide), d14, d23, dj_ty (ovI o2) (ovF o4) (by decide), dj_ty (ovI o3) (ovF o4) (by decide)⟩
theorem allF_map {l : List Nat} : AllF (l.map (Value.float .f64)) := fun i hi => by simp
theorem allI_map {l : List Int} : AllI (l.map (Value.int .i64)) := fun i hi => by simp
end Ss
end Go.Proofs.YtdigecacmibkpaaGreatDoor

namespace Go.Proofs.YtdigecacmibkpaaGreatDoor
open Go.RowKit
namespace Cf
/-- a block that is new: behind all of W, and none of those laid so far -/
def Fresh (W : World) (S : Nat → Option Nat) (b : Nat) : Prop := W.heap.size ≤ b ∧ ∀ i c, S i = some c → c ≠ b
/-- operation i has laid block b -/
def putL (S : Nat → Option Nat) (i b : Nat) : Nat → Option Nat := fun k => if k = i then some b else S k
/-- all blocks of W are as they were, and what was laid lies there -/
def Has (W : World) (sp : Nat → Option (Obj × (Nat → Value))) (S : Nat → Option Nat) (w : World) : Prop := Ab W w ∧ ∀ i b, S i = some b → W.heap.size ≤ b ∧ ∃ o mk, sp i = some (o, mk) ∧ w.heap[b]? = some o
theorem putL_comm (S : Nat → Option Nat) {i j : Nat} (b c : Nat) (h : i ≠ j) : putL (putL S i b) j c = putL (putL S j c) i b := by
  funext k
  unfold putL
  by_cases e : k = j
  · subst e; simp [Ne.symm h]
  · by_cases e2 : k = i
    · subst e2; simp [e]
    · simp [e, e2]
theorem Fresh.put {W : World} {S : Nat → Option Nat} {i b c : Nat} (h : Fresh W S c) (n : b ≠ c) : Fresh W (putL S i b) c :=
  ⟨h.1, fun k d e => by
    unfold putL at e
    by_cases q : k = i
    · rw [if_pos q] at e; injection e with e; exact fun x => n (e.trans x)
    · rw [if_neg q] at e; exact h.2 k d e⟩
theorem Fresh.of_put {W : World} {S : Nat → Option Nat} {i b c : Nat} (h : Fresh W (putL S i b) c) (hi : S i = none) : Fresh W S c ∧ b ≠ c := by
  refine ⟨⟨h.1, fun k d e => h.2 k d ?_⟩, h.2 i b (by simp [putL])⟩
  unfold putL
  by_cases q : k = i
  · subst q; rw [hi] at e; cases e
  · rw [if_neg q]; exact e
theorem Has.lt {W : World} {sp : Nat → Option (Obj × (Nat → Value))} {S : Nat → Option Nat} {w : World} (h : Has W sp S w) {i b : Nat} (e : S i = some b) : b < w.heap.size := by
  obtain ⟨_, o, mk, _, q⟩ := h.2 i b e
  exact lt_of_block q
theorem Has.fresh {W : World} {sp : Nat → Option (Obj × (Nat → Value))} {S : Nat → Option Nat} {w : World} (h : Has W sp S w) : Fresh W S w.heap.size :=
  ⟨h.1.size, fun i c e => by have := h.lt e; omega⟩
theorem Has.lay {W : World} {sp : Nat → Option (Obj × (Nat → Value))} {S : Nat → Option Nat} {w w1 : World} (h : Has W sp S w) {i b : Nat} {o : Obj} {mk : Nat → Value} (e : sp i = some (o, mk)) (a : Ab w w1) (hb : w.heap.size ≤ b) (ho : w1.heap[b]? = some o) : Has W sp (putL S i b) w1 :=
  ⟨h.1.trans a, fun k c q => by
    unfold putL at q
    by_cases z : k = i
    · subst z
      rw [if_pos rfl] at q
      injection q with q
      subst q
      exact ⟨Nat.le_trans h.1.size hb, o, mk, e, ho⟩
    · rw [if_neg z] at q
      obtain ⟨h1, o', mk', h2, h3⟩ := h.2 k c q
      exact ⟨h1, o', mk', h2, Ab.heap a h3⟩⟩
theorem Has.freshb {W : World} {sp : Nat → Option (Obj × (Nat → Value))} {S : Nat → Option Nat} {w : World} (h : Has W sp S w) {b : Nat} (hb : w.heap.size ≤ b) : Fresh W S b :=
  ⟨Nat.le_trans h.1.size hb, fun i c e => by have := h.lt e; omega⟩
section
variable {P : Program} {ops : Array Oper} {md : Region.Mode} {W : World} {sp : Nat → Option (Obj × (Nat → Value))}
/-- an operation that leaves its world, one value in all of them -/
def YF (P : Program) (ops : Array Oper) (W : World) (o : Oper) (v : Value) (a : Act) : Prop :=
  (Region.wanted o (yielded ops a.tmps) = true ∧ ∀ w, Ab W w → (execOp a.eval o).run P w = .ok (.value v) w) ∨ (Region.wanted o (yielded ops a.tmps) = false ∧ v = undef)
/-- what is asked of an operation's end: a block that is new, and lies there -/
def LayR (P : Program) (w : World) (ob : Obj) (mk : Nat → Value) : Result Next → Prop
  | .ok (.value u) w1 => ∃ b, u = mk b ∧ Ab w w1 ∧ w.heap.size ≤ b ∧ w1.heap[b]? = some ob
  | .ok (.enter f args) w1 => w1 = w ∧ Calls P f args w (fun e w2 => ∃ b, e = .returned (mk b) ∧ Ab w w2 ∧ w.heap.size ≤ b ∧ w2.heap[b]? = some ob)
  | _ => False
/-- an operation that lays a block -/
def LF (P : Program) (ops : Array Oper) (W : World) (o : Oper) (ob : Obj) (mk : Nat → Value) (a : Act) : Prop :=
  Region.wanted o (yielded ops a.tmps) = true ∧ ∀ w, Ab W w → LayR P w ob mk ((execOp a.eval o).run P w)
theorem YF.same {o : Oper} {v : Value} {a a' : Act} (h : YF P ops W o v a) (he : execOp a'.eval o = execOp a.eval o) (hw : Region.wanted o (yielded ops a'.tmps) = Region.wanted o (yielded ops a.tmps)) : YF P ops W o v a' := by
  unfold YF at *
  rw [he, hw]
  exact h
theorem LF.same {o : Oper} {ob : Obj} {mk : Nat → Value} {a a' : Act} (h : LF P ops W o ob mk a) (he : execOp a'.eval o = execOp a.eval o) (hw : Region.wanted o (yielded ops a'.tmps) = Region.wanted o (yielded ops a.tmps)) : LF P ops W o ob mk a' := by
  unfold LF at *
  rw [he, hw]
  exact h
theorem YF.one {o : Oper} {v u : Value} {a : Act} (h : YF P ops W o v a) (k : YF P ops W o u a) : v = u := by
  rcases h with ⟨w1, h⟩ | ⟨w1, rfl⟩
  · rcases k with ⟨_, k⟩ | ⟨w2, _⟩
    · have := (h W (Ab.refl W)).symm.trans (k W (Ab.refl W))
      injection this with e
      injection e
    · rw [w1] at w2; cases w2
  · rcases k with ⟨w2, _⟩ | ⟨_, rfl⟩
    · rw [w1] at w2; cases w2
    · rfl
def fOp (P : Program) (ops : Array Oper) (W : World) (sp : Nat → Option (Obj × (Nat → Value))) (i : Nat) (K : Act → (Nat → Option Nat) → Prop) (a : Act) (S : Nat → Option Nat) : Prop :=
  match ops[i]? with
  | none => K a S
  | some o =>
    match sp i with
    | none => ∃ v, YF P ops W o v a ∧ K (a.put o.dst v) S
    | some (ob, mk) => LF P ops W o ob mk a ∧ ∀ b, Fresh W S b → K (a.put o.dst (mk b)) (putL S i b)
theorem fOp_mono {i : Nat} {K K' : Act → (Nat → Option Nat) → Prop} {a : Act} {S : Nat → Option Nat} (h : ∀ a S, K a S → K' a S) (hh : fOp P ops W sp i K a S) : fOp P ops W sp i K' a S := by
  unfold fOp at *
  cases ho : ops[i]? with
  | none => simp only [ho] at hh ⊢; exact h _ _ hh
  | some o =>
    cases hs : sp i with
    | none =>
      simp only [ho, hs] at hh ⊢
      obtain ⟨v, h1, h2⟩ := hh
      exact ⟨v, h1, h _ _ h2⟩
    | some x =>
      simp only [ho, hs] at hh ⊢
      exact ⟨hh.1, fun b hb => h _ _ (hh.2 b hb)⟩
/-- whatever order is picked from here on -/
def wpAnyF (P : Program) (md : Region.Mode) (ops : Array Oper) (W : World) (sp : Nat → Option (Obj × (Nat → Value))) (Q : Act → (Nat → Option Nat) → Prop) : Nat → Array Bool → Act → (Nat → Option Nat) → Prop
  | 0, listed, a, S => Region.ready md ops listed = [] ∧ Q a S
  | fuel + 1, listed, a, S =>
    (Region.ready md ops listed = [] → Q a S) ∧
    ∀ i ∈ Region.ready md ops listed, fOp P ops W sp i (wpAnyF P md ops W sp Q fuel (listed.setIfInBounds i true)) a S
/-- what isn't done has laid nothing; what is laid ends somewhere -/
def Tidy (W : World) (listed : Array Bool) (S : Nat → Option Nat) : Prop := (∀ k, listed.getD k true = false → S k = none) ∧ ∃ n, W.heap.size ≤ n ∧ ∀ i c, S i = some c → c < n
theorem Tidy.fresh {listed : Array Bool} {S : Nat → Option Nat} (h : Tidy W listed S) : ∃ b, Fresh W S b := by
  obtain ⟨_, n, h1, h2⟩ := h
  exact ⟨n, h1, fun i c e => by have := h2 i c e; omega⟩
theorem Tidy.set {listed : Array Bool} {S : Nat → Option Nat} (h : Tidy W listed S) (j : Nat) : Tidy W (listed.setIfInBounds j true) S :=
  ⟨fun k hk => by
    by_cases e : j = k
    · subst e
      by_cases l : j < listed.size
      · simp [l] at hk
      · exact h.1 j (by rw [Array.setIfInBounds_eq_of_size_le (by omega)] at hk; exact hk)
    · rw [getD_set_ne true e] at hk; exact h.1 k hk, h.2⟩
theorem Tidy.lay {listed : Array Bool} {S : Nat → Option Nat} (h : Tidy W listed S) {j : Nat} (hj : listed.getD j true = false) (b : Nat) : Tidy W (listed.setIfInBounds j true) (putL S j b) := by
  obtain ⟨h1, n, h2, h3⟩ := h
  refine ⟨fun k hk => ?_, max n (b + 1), by omega, fun i c e => ?_⟩
  · by_cases e : j = k
    · subst e
      by_cases l : j < listed.size
      · simp [l] at hk
      · simp [l] at hj
    · rw [getD_set_ne true e] at hk
      unfold putL
      rw [if_neg (Ne.symm e)]
      exact h1 k hk
  · unfold putL at e
    by_cases q : i = j
    · rw [if_pos q] at e; injection e with e; omega
    · rw [if_neg q] at e; have := h3 i c e; omega
/-- one operation apart from another, which leaves its world: it may come first -/
theorem fOp_putY {j : Nat} {oi oj : Oper} {v : Value} (hj : ops[j]? = some oj) (hap : oi.apart ops oj = true) (hsi : ∀ cs b, oi.op ≠ .select cs b) (hsj : ∀ cs b, oj.op ≠ .select cs b)
    {K : Act → (Nat → Option Nat) → Prop} {a : Act} {S : Nat → Option Nat} (hy : YF P ops W oi v a) (h : fOp P ops W sp j K (a.put oi.dst v) S) :
    fOp P ops W sp j (fun a' S' => YF P ops W oi v a' ∧ K (a'.put oi.dst v) S') a S := by
  obtain ⟨h1, h2, h3⟩ := Oper.apart_spec hap
  have keep : ∀ u, YF P ops W oi v (a.put oj.dst u) := fun u => hy.same (execOp_put oi hsi a oj.dst u h3) (wanted_put oi a oj.dst u h3)
  unfold fOp at *
  cases hs : sp j with
  | none =>
    simp only [hj, hs] at h ⊢
    obtain ⟨u, hu, hk⟩ := h
    exact ⟨u, hu.same (execOp_put oj hsj a oi.dst v h1).symm (wanted_put oj a oi.dst v h1).symm, keep u, by rw [← Act.put_comm a v u h2]; exact hk⟩
  | some x =>
    simp only [hj, hs] at h ⊢
    exact ⟨h.1.same (execOp_put oj hsj a oi.dst v h1).symm (wanted_put oj a oi.dst v h1).symm, fun b hb => ⟨keep _, by rw [← Act.put_comm a v _ h2]; exact h.2 b hb⟩⟩
/-- .. which lays a block -/
theorem fOp_putL {i j : Nat} {oi oj : Oper} {ob : Obj} {mk : Nat → Value} (hij : i ≠ j) (hj : ops[j]? = some oj) (hap : oi.apart ops oj = true) (hsi : ∀ cs b, oi.op ≠ .select cs b) (hsj : ∀ cs b, oj.op ≠ .select cs b)
    {K : Act → (Nat → Option Nat) → Prop} {a : Act} {S : Nat → Option Nat} (hf : ∃ b, Fresh W S b) (hSj : S j = none) (hy : LF P ops W oi ob mk a) (h : ∀ b, Fresh W S b → fOp P ops W sp j K (a.put oi.dst (mk b)) (putL S i b)) :
    fOp P ops W sp j (fun a' S' => LF P ops W oi ob mk a' ∧ ∀ b, Fresh W S' b → K (a'.put oi.dst (mk b)) (putL S' i b)) a S := by
  obtain ⟨h1, h2, h3⟩ := Oper.apart_spec hap
  have keep : ∀ u, LF P ops W oi ob mk (a.put oj.dst u) := fun u => hy.same (execOp_put oi hsi a oj.dst u h3) (wanted_put oi a oj.dst u h3)
  obtain ⟨b0, hb0⟩ := hf
  unfold fOp at *
  cases hs : sp j with
  | none =>
    simp only [hj, hs] at h ⊢
    obtain ⟨u, hu, _⟩ := h b0 hb0
    have hu' : YF P ops W oj u a := hu.same (execOp_put oj hsj a oi.dst _ h1).symm (wanted_put oj a oi.dst _ h1).symm
    refine ⟨u, hu', keep u, fun b hb => ?_⟩
    obtain ⟨u2, hu2, hk⟩ := h b hb
    have e : u2 = u := YF.one (hu2.same (execOp_put oj hsj a oi.dst _ h1).symm (wanted_put oj a oi.dst _ h1).symm) hu'
    subst e
    rw [← Act.put_comm a (mk b) u2 h2]
    exact hk
  | some x =>
    simp only [hj, hs] at h ⊢
    refine ⟨(h b0 hb0).1.same (execOp_put oj hsj a oi.dst _ h1).symm (wanted_put oj a oi.dst _ h1).symm, fun c hc => ⟨keep _, fun b hb => ?_⟩⟩
    obtain ⟨q1, q2⟩ := hb.of_put hSj
    have := (h b q1).2 c (hc.put (Ne.symm q2))
    rw [putL_comm S b c hij, Act.put_comm a (mk b) _ h2] at this
    exact this
theorem firstY {Q : Act → (Nat → Option Nat) → Prop} {i : Nat} {oi : Oper} {v : Value} (hi : ops[i]? = some oi) (hsp : sp i = none) (hsel : ∀ (j : Nat) (o : Oper) cs b, ops[j]? = some o → o.op ≠ .select cs b) :
    ∀ (fuel : Nat) (listed : Array Bool) (a : Act) (S : Nat → Option Nat),
      (∀ j oj, ops[j]? = some oj → j ≠ i → listed.getD j true = false → (∀ e ∈ oj.after, Region.binds md e = true → e.on ≠ i) → oi.apart ops oj = true) →
      i ∈ Region.ready md ops listed → YF P ops W oi v a →
      wpAnyF P md ops W sp Q fuel (listed.setIfInBounds i true) (a.put oi.dst v) S → wpAnyF P md ops W sp Q (fuel + 1) listed a S := by
  have go : ∀ (K : Act → (Nat → Option Nat) → Prop) (a : Act) (S : Nat → Option Nat), YF P ops W oi v a → K (a.put oi.dst v) S → fOp P ops W sp i K a S := fun K a S hy h => by
    unfold fOp; simp only [hi, hsp]; exact ⟨v, hy, h⟩
  intro fuel
  induction fuel with
  | zero =>
    intro listed a S _ hr hy H
    refine ⟨fun h => (by rw [h] at hr; cases hr), fun j hj => ?_⟩
    by_cases hji : j = i
    · subst hji; exact go _ _ _ hy H
    · have := ready_mono hj hji
      rw [H.1] at this
      cases this
  | succ fuel ih =>
    intro listed a S hfree hr hy H
    refine ⟨fun h => (by rw [h] at hr; cases hr), fun j hj => ?_⟩
    by_cases hji : j = i
    · subst hji; exact go _ _ _ hy H
    · have h1 := H.2 j (ready_mono hj hji)
      obtain ⟨hjun, oj, hoj, hall⟩ := mem_ready.1 hj
      have hnot : ∀ e ∈ oj.after, Region.binds md e = true → e.on ≠ i := fun e he hb heq => by
        have h1 := hall e he hb
        have h0 := (mem_ready.1 hr).1
        rw [heq] at h1
        rcases Nat.lt_or_ge i listed.size with h' | h'
        · simp [h'] at h0 h1; rw [h0] at h1; cases h1
        · simp [Array.getElem?_eq_none h'] at h1
      have h2 := fOp_putY hoj (hfree j oj hoj hji hjun hnot) (fun cs b => hsel i oi cs b hi) (fun cs b => hsel j oj cs b hoj) hy h1
      have hfree' : ∀ k ok, ops[k]? = some ok → k ≠ i → (listed.setIfInBounds j true).getD k true = false →
          (∀ e ∈ ok.after, Region.binds md e = true → e.on ≠ i) → oi.apart ops ok = true := fun k ok hk hki hun hno => by
        refine hfree k ok hk hki ?_ hno
        by_cases hjk : j = k
        · subst hjk; exact hjun
        · rw [getD_set_ne true hjk] at hun; exact hun
      refine fOp_mono (fun a' S' h3 => ih (listed.setIfInBounds j true) a' S' hfree' (ready_mono hr (Ne.symm hji)) h3.1 ?_) h2
      rw [Array.setIfInBounds_comm _ _ hji]
      exact h3.2
theorem firstL {Q : Act → (Nat → Option Nat) → Prop} {i : Nat} {oi : Oper} {ob : Obj} {mk : Nat → Value} (hi : ops[i]? = some oi) (hsp : sp i = some (ob, mk)) (hsel : ∀ (j : Nat) (o : Oper) cs b, ops[j]? = some o → o.op ≠ .select cs b) :
    ∀ (fuel : Nat) (listed : Array Bool) (a : Act) (S : Nat → Option Nat), Tidy W listed S →
      (∀ j oj, ops[j]? = some oj → j ≠ i → listed.getD j true = false → (∀ e ∈ oj.after, Region.binds md e = true → e.on ≠ i) → oi.apart ops oj = true) →
      i ∈ Region.ready md ops listed → LF P ops W oi ob mk a →
      (∀ b, Fresh W S b → wpAnyF P md ops W sp Q fuel (listed.setIfInBounds i true) (a.put oi.dst (mk b)) (putL S i b)) → wpAnyF P md ops W sp Q (fuel + 1) listed a S := by
  have go : ∀ (K : Act → (Nat → Option Nat) → Prop) (a : Act) (S : Nat → Option Nat), LF P ops W oi ob mk a → (∀ b, Fresh W S b → K (a.put oi.dst (mk b)) (putL S i b)) → fOp P ops W sp i K a S := fun K a S hy h => by
    unfold fOp; simp only [hi, hsp]; exact ⟨hy, h⟩
  intro fuel
  induction fuel with
  | zero =>
    intro listed a S ty _ hr hy H
    refine ⟨fun h => (by rw [h] at hr; cases hr), fun j hj => ?_⟩
    by_cases hji : j = i
    · subst hji; exact go _ _ _ hy H
    · obtain ⟨b, hb⟩ := ty.fresh
      have := ready_mono hj hji
      rw [(H b hb).1] at this
      cases this
  | succ fuel ih =>
    intro listed a S ty hfree hr hy H
    refine ⟨fun h => (by rw [h] at hr; cases hr), fun j hj => ?_⟩
    by_cases hji : j = i
    · subst hji; exact go _ _ _ hy H
    · have h1 := fun b hb => (H b hb).2 j (ready_mono hj hji)
      obtain ⟨hjun, oj, hoj, hall⟩ := mem_ready.1 hj
      have hnot : ∀ e ∈ oj.after, Region.binds md e = true → e.on ≠ i := fun e he hb heq => by
        have h1 := hall e he hb
        have h0 := (mem_ready.1 hr).1
        rw [heq] at h1
        rcases Nat.lt_or_ge i listed.size with h' | h'
        · simp [h'] at h0 h1; rw [h0] at h1; cases h1
        · simp [Array.getElem?_eq_none h'] at h1
      have hap := hfree j oj hoj hji hjun hnot
      have hfree' : ∀ k ok, ops[k]? = some ok → k ≠ i → (listed.setIfInBounds j true).getD k true = false →
          (∀ e ∈ ok.after, Region.binds md e = true → e.on ≠ i) → oi.apart ops ok = true := fun k ok hk hki hun hno => by
        refine hfree k ok hk hki ?_ hno
        by_cases hjk : j = k
        · subst hjk; exact hjun
        · rw [getD_set_ne true hjk] at hun; exact hun
      have h2 := fOp_putL (Ne.symm hji) hoj hap (fun cs b => hsel i oi cs b hi) (fun cs b => hsel j oj cs b hoj) ty.fresh (ty.1 j hjun) hy h1
      -- what j leaves is tidy
      have h4 : fOp P ops W sp j (fun a' S' => Tidy W (listed.setIfInBounds j true) S' ∧ LF P ops W oi ob mk a' ∧ ∀ b, Fresh W S' b → wpAnyF P md ops W sp Q fuel ((listed.setIfInBounds i true).setIfInBounds j true) (a'.put oi.dst (mk b)) (putL S' i b)) a S := by
        unfold fOp at h2 ⊢
        cases hs : sp j with
        | none =>
          simp only [hoj, hs] at h2 ⊢
          obtain ⟨u, hu, hk⟩ := h2
          exact ⟨u, hu, ty.set j, hk⟩
        | some x =>
          simp only [hoj, hs] at h2 ⊢
          exact ⟨h2.1, fun b hb => ⟨ty.lay hjun b, h2.2 b hb⟩⟩
      refine fOp_mono (fun a' S' h3 => ih (listed.setIfInBounds j true) a' S' h3.1 hfree' (ready_mono hr (Ne.symm hji)) h3.2.1 (fun b hb => ?_)) h4
      rw [Array.setIfInBounds_comm _ _ hji]
      exact h3.2.2 b hb
/-- the walk in the order of the text -/
def wpFree (P : Program) (ops : Array Oper) (W : World) (sp : Nat → Option (Obj × (Nat → Value))) (Q : Act → (Nat → Option Nat) → Prop) : List Oper → Nat → Act → (Nat → Option Nat) → Prop
  | [], _, a, S => Q a S
  | o :: rest, k, a, S =>
    match sp k with
    | none => ∃ v, YF P ops W o v a ∧ wpFree P ops W sp Q rest (k + 1) (a.put o.dst v) S
    | some (ob, mk) => LF P ops W o ob mk a ∧ ∀ b, Fresh W S b → wpFree P ops W sp Q rest (k + 1) (a.put o.dst (mk b)) (putL S k b)
theorem wpAnyF_lex {Q : Act → (Nat → Option Nat) → Prop} (hs : Region.noSelect ops = true) : ∀ (l : List Oper) (k : Nat) (listed : Array Bool) (a : Act) (S : Nat → Option Nat), (∀ j, l[j]? = ops[k + j]?) → Tidy W listed S →
    Region.lexFrom md ops l.length k listed = true → wpFree P ops W sp Q l k a S → wpAnyF P md ops W sp Q l.length listed a S
  | [], _, _, _, _, _, _, hB, h => ⟨by simpa [Region.lexFrom] using hB, h⟩
  | o :: l, k, listed, a, S, hl, ty, hB, h => by
    have h0 : ops[k]? = some o := by simpa using (hl 0).symm
    simp only [List.length_cons, Region.lexFrom, Bool.and_eq_true] at hB
    obtain ⟨⟨hr, hf⟩, hB'⟩ := hB
    have hr' : k ∈ Region.ready md ops listed := by simpa using hr
    have hl' : ∀ j, l[j]? = ops[k + 1 + j]? := fun j => by have := hl (j + 1); simpa [Nat.add_assoc, Nat.add_comm 1 j] using this
    cases hsp : sp k with
    | none =>
      simp only [wpFree, hsp] at h
      obtain ⟨v, hy, hK⟩ := h
      exact firstY h0 hsp (Region.noSelect_spec hs) l.length listed a S (Region.free_spec h0 hf) hr' hy
        (wpAnyF_lex hs l (k + 1) _ _ _ hl' (ty.set k) hB' hK)
    | some x =>
      obtain ⟨ob, mk⟩ := x
      simp only [wpFree, hsp] at h
      exact firstL h0 hsp (Region.noSelect_spec hs) l.length listed a S ty (Region.free_spec h0 hf) hr' h.1
        (fun b hb => wpAnyF_lex hs l (k + 1) _ _ _ hl' (ty.lay (mem_ready.1 hr').1 b) hB' (h.2 b hb))
theorem wpOp_of_fOp {i : Nat} {a : Act} {S : Nat → Option Nat} {K : Act → (Nat → Option Nat) → Prop} {K' : Act → World → Prop} {Q' : Exit → Act → World → Prop} {w : World} (hC : Has W sp S w) (h : ∀ a S w', Has W sp S w' → K a S → K' a w') (hh : fOp P ops W sp i K a S) : wpOp P ops Q' i K' a w := by
  unfold fOp at hh
  unfold wpOp
  cases ho : ops[i]? with
  | none => simp only [ho] at hh ⊢; exact h _ _ _ hC hh
  | some o =>
    cases hs : sp i with
    | none =>
      simp only [ho, hs] at hh ⊢
      obtain ⟨v, hy, hk⟩ := hh
      rcases hy with ⟨w1, hv⟩ | ⟨w1, rfl⟩
      · rw [if_pos w1]
        refine .inl ?_
        unfold Oper.wp
        rw [hv w hC.1]
        exact h _ _ _ hC hk
      · rw [if_neg (by rw [w1]; exact Bool.false_ne_true)]
        exact h _ _ _ hC hk
    | some x =>
      obtain ⟨ob, mk⟩ := x
      simp only [ho, hs] at hh ⊢
      obtain ⟨⟨w1, hv⟩, hk⟩ := hh
      rw [if_pos w1]
      refine .inl ?_
      unfold Oper.wp
      have q := hv w hC.1
      generalize (execOp a.eval o).run P w = r at q
      match r, q with
      | .ok (.value u) w2, ⟨b, hu, ha, hb, ho2⟩ =>
        subst hu
        exact h _ _ _ (hC.lay hs ha hb ho2) (hk b (hC.freshb hb))
      | .ok (.enter f args) w2, ⟨e, hc⟩ =>
        subst e
        refine Calls.mono hc ?_
        rintro e2 w3 ⟨b, rfl, ha, hb, ho2⟩
        exact h _ _ _ (hC.lay hs ha hb ho2) (hk b (hC.freshb hb))
end
/-- each of the first n operations is done as in the whole region -/
theorem fOp_head {P : Program} {md : Region.Mode} {ops hd : Array Oper} {W : World} {sp : Nat → Option (Obj × (Nat → Value))} {n : Nat} (hhd : ∀ i, i < n → hd[i]? = ops[i]?) (hb : backB md ops n = true) {i : Nat} (hi : i < n) {K : Act → (Nat → Option Nat) → Prop} {a : Act} {S : Nat → Option Nat} (h : fOp P hd W sp i K a S) : fOp P ops W sp i K a S := by
  unfold fOp at *
  rw [hhd i hi] at h
  cases ho : ops[i]? with
  | none => rw [ho] at h; exact h
  | some o =>
    have e : Region.wanted o (yielded hd a.tmps) = Region.wanted o (yielded ops a.tmps) := by
      unfold Region.wanted
      cases hg : o.guard with
      | none => rfl
      | some jb =>
        obtain ⟨j, b⟩ := jb
        have lt := (back_spec hb hi ho).2 j b hg
        show (yielded hd a.tmps j == some b) = (yielded ops a.tmps j == some b)
        unfold yielded
        rw [hhd j lt]
    simp only [ho] at h ⊢
    cases hs : sp i with
    | none =>
      simp only [hs] at h ⊢
      unfold YF at *
      rw [e] at h
      exact h
    | some x =>
      simp only [hs] at h ⊢
      unfold LF at *
      rw [e] at h
      exact h
theorem wpAny_of_headF {P : Program} {md : Region.Mode} {ops hd : Array Oper} {W : World} {sp : Nat → Option (Obj × (Nat → Value))} {n : Nat} {g : Nat} {Q1 : Act → (Nat → Option Nat) → Prop} {Q' : Exit → Act → World → Prop} (hhd : ∀ i, i < n → hd[i]? = ops[i]?) (hsz : hd.size = n) (hn : n < ops.size) (hb : backB md ops n = true) (hs : Region.sinkB md ops n = true) (hc : Region.chainB md ops n = true)
    (hL : ∀ a S w, Has W sp S w → Q1 a S → wpAny P md ops Q' g (finA ops.size n) a w) :
    ∀ (fuel : Nat) (listed lh : Array Bool) (a : Act) (S : Nat → Option Nat) (w : World), Has W sp S w → HeadInv md ops n listed → lh.size = n → (∀ i, i < n → lh.getD i true = listed.getD i true) →
      wpAnyF P md hd W sp Q1 fuel lh a S → wpAny P md ops Q' (fuel + g) listed a w := by
  intro fuel
  induction fuel with
  | zero =>
    intro listed lh a S w hC inv hl he h
    have hls : n ≤ listed.size := by rw [inv.size]; omega
    rcases some_ready (by omega) hb hls with all | ⟨i, hi, hr⟩
    · rw [Nat.zero_add, fin_of hn inv all]
      exact hL a S w hC h.2
    · have := (ready_head hhd hb hl hls he hi).2 hr
      rw [h.1] at this
      cases this
  | succ fuel ih =>
    intro listed lh a S w hC inv hl he h
    have hls : n ≤ listed.size := by rw [inv.size]; omega
    rcases some_ready (by omega) hb hls with all | ⟨i0, hi0, hr0⟩
    · have no : Region.ready md hd lh = [] := by
        rw [List.eq_nil_iff_forall_not_mem]
        intro i hi
        obtain ⟨u, o, ho, _⟩ := mem_ready.1 hi
        have lt : i < n := by rw [← hsz]; exact (Array.getElem?_eq_some_iff.1 ho).1
        rw [he i lt, all i lt] at u
        cases u
      rw [Nat.add_comm (fuel + 1) g, fin_of hn inv all]
      exact wpAny_more g (fuel + 1) _ a w (hL a S w hC (h.1 no))
    · rw [show fuel + 1 + g = (fuel + g) + 1 by omega]
      refine ⟨fun h0 => (by rw [h0] at hr0; cases hr0), fun i hi => ?_⟩
      have lt : i < n := by
        by_cases c : i < n
        · exact c
        · exact absurd hi (tail_waits hs hc hn inv _ i0 rfl hi0 (mem_ready.1 hr0).1 i (by omega))
      have hq := fOp_head hhd hb lt (h.2 i ((ready_head hhd hb hl hls he lt).2 hi))
      refine wpOp_of_fOp hC (fun a' S' w' hC' h' => ih _ _ a' S' w' hC' (inv.set hi lt) (by simp [hl]) (fun j hj => ?_) h') hq
      by_cases e : i = j
      · subst e
        simp [hl, lt, show i < listed.size by omega]
      · rw [getD_set_ne true e, getD_set_ne true e, he j hj]
/-- a region of which the first n operations lay blocks or leave the world, and the others wait for all ahead of them -/
theorem region_free {P : Program} {id : Nat} {Q : Exit → Act → World → Prop} {a : Act} {w : World} {l : List Oper} (n : Nat) (sp : Nat → Option (Obj × (Nat → Value))) (hm : P.follows .mixedOrders = true) (hB : Region.lexB .any (l.take n).toArray = true) (hT : tailB l.toArray n = true)
    (h : wpFree P (l.take n).toArray w.drew sp (fun a' S => ∀ w', Has w.drew sp S w' → wpList P l.toArray Q (l.drop n) a' w') (l.take n) 0 a (fun _ => none)) : (Code.region id l.toArray true).wp P Q a w := by
  simp only [tailB, Bool.and_eq_true, decide_eq_true_eq] at hT
  obtain ⟨⟨⟨⟨hn, hb⟩, hs⟩, hc⟩, hq⟩ := hT
  have hn' : n < l.length := by simpa using hn
  have htl : (l.take n).toArray.size = n := by simp; omega
  have hdl : (l.drop n).length = l.toArray.size - n := by simp
  refine wp_region_any hm ?_
  simp only [Region.lexB, Bool.and_eq_true] at hB
  have H := wpAnyF_lex (P := P) (W := w.drew) (sp := sp) (md := .any) hB.1 (l.take n) 0 (Array.replicate (l.take n).toArray.size false) a (fun _ => none) (by simp) ⟨fun _ _ => rfl, w.drew.heap.size, Nat.le_refl _, fun i c e => by cases e⟩ (by simpa using hB.2) h
  have inv0 : HeadInv .any l.toArray n (Array.replicate l.toArray.size false) :=
    ⟨by simp, fun j oj _ hl => (by rw [getD_replicate_false] at hl; cases hl), fun t _ ht => getD_in (by simpa using ht) (getD_replicate_false _ _)⟩
  have := wpAny_of_headF (P := P) (Q' := Q) (g := l.toArray.size - n) (hd := (l.take n).toArray) (ops := l.toArray) (fun i hi => by simp [hi]) htl hn hb hs hc
    (fun a' S' w' hC' h' => by
      have := wpAny_of_seq (P := P) (md := .any) (ops := l.toArray) (Q' := Q) (l.drop n) n (finA l.toArray.size n) a' w' (fun j => by simp) (by rw [hdl]; exact hq) (h' w' hC')
      rwa [hdl] at this)
    (l.take n).length _ _ a (fun _ => none) w.drew ⟨Ab.refl _, fun i b e => by cases e⟩ inv0 (by simpa using htl) (fun i hi => by
      rw [getD_in (listed := Array.replicate l.toArray.size false) (by simp; omega) (getD_replicate_false _ _)]
      exact getD_in (by rw [Array.size_replicate]; omega) (getD_replicate_false _ _)) H
  have e : (l.take n).length + (l.toArray.size - n) = l.toArray.size := by simp; omega
  rw [e] at this
  exact this
section
variable {P : Program} {ops : Array Oper} {W : World} {sp : Nat → Option (Obj × (Nat → Value))} {Q : Act → (Nat → Option Nat) → Prop} {o : Oper} {rest : List Oper} {k : Nat} {a : Act} {S : Nat → Option Nat}
theorem wpFree_one {U : Type} {F : U → World} (HF : Hid (∀ w', Ab W w' → ∃ u, w' = F u)) (hs : sp k = none) (hp : plainB o.op = true) (h : wpQuiet P ops (fun w' => ∃ u, w' = F u) (fun a' => wpFree P ops W sp Q rest (k + 1) a' S) [o] a) : wpFree P ops W sp Q (o :: rest) k a S := by
  simp only [wpFree, hs]
  simp only [wpQuiet] at h
  by_cases c : Region.wanted o (yielded ops a.tmps) = true
  · rw [if_pos c] at h
    obtain ⟨v, h1, h2⟩ := h
    refine ⟨v, .inl ⟨c, fun w hw => ?_⟩, h2⟩
    have q := h1 w (HF.out w hw)
    unfold Oper.quietAt at q
    cases e : (execOp a.eval o).run P w with
    | ok n w' =>
      obtain ⟨x, rfl⟩ := plain_value hp e
      rw [e] at q
      obtain ⟨q1, q2⟩ := q
      rw [q1, q2]
    | halt x w' => rw [e] at q; exact absurd q (by simp [Oper.quietUpon])
  · rw [if_neg c] at h
    exact ⟨undef, .inr ⟨by simpa using c, rfl⟩, h⟩
theorem wpFree_lay {ob : Obj} {mk : Nat → Value} (hs : sp k = some (ob, mk)) (hw : Region.wanted o (yielded ops a.tmps) = true) (hr : ∀ w, Ab W w → LayR P w ob mk ((execOp a.eval o).run P w))
    (h : ∀ b, Fresh W S b → wpFree P ops W sp Q rest (k + 1) (a.put o.dst (mk b)) (putL S k b)) : wpFree P ops W sp Q (o :: rest) k a S := by
  simp only [wpFree, hs]
  exact ⟨⟨hw, hr⟩, h⟩
theorem lay_run {ob : Obj} {mk : Nat → Value} (h : ∀ w, Ab W w → (execOp a.eval o).run P w = .ok (.value (mk w.heap.size)) (w.alloc ob)) : ∀ w, Ab W w → LayR P w ob mk ((execOp a.eval o).run P w) := fun w hw => by
  rw [h w hw]
  exact ⟨w.heap.size, rfl, bl1 _ _, Nat.le_refl _, heap_alloc_new _ _⟩
theorem lay_call {ob : Obj} {mk : Nat → Value} {f : FuncId} {args : Array Value} (h1 : ∀ w, (execOp a.eval o).run P w = .ok (.enter f args) w) (h2 : ∀ w, Ab W w → Calls P f args w (fun e w2 => ∃ b, e = .returned (mk b) ∧ Ab w w2 ∧ w.heap.size ≤ b ∧ w2.heap[b]? = some ob)) : ∀ w, Ab W w → LayR P w ob mk ((execOp a.eval o).run P w) := fun w hw => by
  rw [h1 w]
  exact ⟨rfl, h2 w hw⟩
theorem run_val {s : Sem Value} {w w' : World} {x : Value} (h : s.run P w = .ok x w') : (do pure (Next.value (← s)) : Sem Next).run P w = .ok (.value x) w' := by
  rw [Sem.run_bind, h]
  rfl
theorem lay_make {t : TypeId} {x y : Operand} {vx vy : Value} {mk : Nat → Value} {ob : Obj} (ho : o.op = .makeSlice t x y) (hx : a.eval x = vx) (hy : a.eval y = vy) (M : ∀ w : World, (Instr.makeSlice t vx vy).run P w = .ok (mk w.heap.size) (w.alloc ob)) :
    ∀ w, Ab W w → (execOp a.eval o).run P w = .ok (.value (mk w.heap.size)) (w.alloc ob) := by
  intro w _
  unfold execOp
  rw [ho]
  simp only [hx, hy]
  exact run_val (M w)
theorem lay_alloc {t : TypeId} {mk : Nat → Value} {ob : Obj} (ho : o.op = .alloc t) (M : ∀ w : World, (Instr.alloc t true (.tuple #[])).run P w = .ok (mk w.heap.size) (w.alloc ob)) :
    ∀ w, Ab W w → (execOp a.eval o).run P w = .ok (.value (mk w.heap.size)) (w.alloc ob) := by
  intro w _
  unfold execOp
  rw [ho]
  exact run_val (M w)
theorem wpFree_nil (h : Q a S) : wpFree P ops W sp Q [] k a S := h
end
theorem Has.at {W : World} {sp : Nat → Option (Obj × (Nat → Value))} {S : Nat → Option Nat} {w : World} (h : Has W sp S w) {i b : Nat} {ob : Obj} {mk : Nat → Value} (e : S i = some b) (s : sp i = some (ob, mk)) : w.heap[b]? = some ob ∧ W.heap.size ≤ b := by
  obtain ⟨h1, o, m, h2, h3⟩ := h.2 i b e
  rw [s] at h2
  injection h2 with h2
  injection h2 with h2
  subst h2
  exact ⟨h3, h1⟩
end Cf
end Go.Proofs.YtdigecacmibkpaaGreatDoor
