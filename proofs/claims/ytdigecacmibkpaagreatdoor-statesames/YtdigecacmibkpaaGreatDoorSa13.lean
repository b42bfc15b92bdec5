/-
  Some of the texts of this proof, one behind the other.
-/
import Derived.Test.YtdigecacmibkpaaGreatDoorSa12
namespace Go.Proofs.YtdigecacmibkpaaGreatDoor
open Go.RowKit Tf Cu Go.Deep
attribute [local go_sem] run_bits run_from raw_feq raw_fne raw_flt raw_fgt run_neg run_store_float
namespace Ss
def AllF (l : List Value) : Prop := ∀ i (h : i < l.length), ∃ y, l[i] = .float .f64 y
def AllI (l : List Value) : Prop := ∀ i (h : i < l.length), ∃ y, l[i] = .int .i64 y
theorem AllF.set {l : List Value} (h : AllF l) (c y : Nat) : AllF (l.set c (.float .f64 y)) := fun i hi => by
  rw [List.length_set] at hi
  by_cases e : c = i
  · subst e; exact ⟨y, by simp⟩
  · obtain ⟨z, hz⟩ := h i hi
    exact ⟨z, by rw [List.getElem_set_ne e]; exact hz⟩
theorem AllI.set {l : List Value} (h : AllI l) (c : Nat) (y : Int) : AllI (l.set c (.int .i64 y)) := fun i hi => by
  rw [List.length_set] at hi
  by_cases e : c = i
  · subst e; exact ⟨y, by simp⟩
  · obtain ⟨z, hz⟩ := h i hi
    exact ⟨z, by rw [List.getElem_set_ne e]; exact hz⟩
theorem K20.to {V : World} {B : Nat} {P : Nat → Prop} {l1 l2 l3 l4 : List Value} {v1 v2 v3 v4 : Value} {w w' : World} (h : K20 V B P l1 l2 l3 l4 v1 v2 v3 v4 w) (a : Ab w w') : K20 V B P l1 l2 l3 l4 v1 v2 v3 v4 w' := by
  obtain ⟨q, h1, h2, h3, h4, d, p⟩ := h
  exact ⟨q.to a, h1.to a, h2.to a, h3.to a, h4.to a, d, p⟩
set_option maxRecDepth 100000 in
theorem rawFrom20 (x : Int) (w : World) :
    Calls Tryz.prog 48 #[.int .u64 x] w fun e w' => e = .returned (.float .f64 x.toNat) ∧ w' = w := by
  go_enter Tryz.func48, Tryz.ntmps48
  go_wp2
  go_ret
  exact ⟨rfl, rfl⟩
set_option maxRecDepth 100000 in
set_option maxHeartbeats 64000000 in
theorem spoil_at (p1 : Option Addr) (n1 c1 : Nat) (p2 : Option Addr) (n2 c2 : Nat) (p3 : Option Addr) (n3 c3 : Nat) (p4 : Option Addr) (n4 c4 : Nat) (sky st : Int) (l1 l2 l3 l4 : List Value) (M : Nat) (P : Nat → Prop) (w : World) (HB : Hid (n1 ≤ 131072 ∧ n2 ≤ 131072 ∧ n3 ≤ 131072 ∧ n4 ≤ 131072)) (hM : M ≤ w.heap.size) (LN : Hid (l1.length = n1 ∧ l2.length = n2 ∧ l3.length = n3 ∧ l4.length = n4)) (AL : Hid (AllF l1 ∧ AllI l2 ∧ AllI l3 ∧ AllF l4)) (hK : K20 w M P l1 l2 l3 l4 (.slice p1 n1 c1) (.slice p2 n2 c2) (.slice p3 n3 c3) (.slice p4 n4 c4) w) (hP : ∀ k, P k → k < w.heap.size) :
    Calls Tryz.prog 18 #[.agg #[.slice p1 n1 c1, .slice p2 n2 c2, .slice p3 n3 c3, .slice p4 n4 c4, .int .i64 sky, .int .i64 st]] w fun e w' => e = .returned (.tuple #[]) ∧ Rv.AbQ w P w' := by
  have RB : Hid (∀ (x : Nat) (v : World), Calls Tryz.prog 49 #[.float .f64 x] v fun e w' => e = .returned (.int .u64 ((x : Nat) : Int)) ∧ Below v.heap.size v w') := fun x v => (rawBits20 x v).mono fun _ _ h => ⟨h.1, by rw [h.2]; exact Below.refl _ _⟩
  have RF : Hid (∀ (x : Int) (v : World), Calls Tryz.prog 48 #[.int .u64 x] v fun e w' => e = .returned (.float .f64 x.toNat) ∧ Below v.heap.size v w') := fun x v => (rawFrom20 x v).mono fun _ _ h => ⟨h.1, by rw [h.2]; exact Below.refl _ _⟩
  have SZ : Hid (∀ (v : World) (O : Obj), (v.alloc O).heap.size = v.heap.size + 1) := fun v O => by show (v.heap.push O).size = _; simp
  have A0 : Ab w (w.alloc (.cells #[.slice p1 n1 c1, .slice p2 n2 c2, .slice p3 n3 c3, .slice p4 n4 c4, .int .i64 sky, .int .i64 st] 33)) := bl1 _ _
  have AW : Hid (Rv.AbQ w P (w.alloc (.cells #[.slice p1 n1 c1, .slice p2 n2 c2, .slice p3 n3 c3, .slice p4 n4 c4, .int .i64 sky, .int .i64 st] 33))) := (Rv.AbQ.refl w P).to A0
  have R0 : Hid ((w.alloc (.cells #[.slice p1 n1 c1, .slice p2 n2 c2, .slice p3 n3 c3, .slice p4 n4 c4, .int .i64 sky, .int .i64 st] 33)).heap[w.heap.size]? = some (.cells #[.slice p1 n1 c1, .slice p2 n2 c2, .slice p3 n3 c3, .slice p4 n4 c4, .int .i64 sky, .int .i64 st] 33)) := heap_alloc_new _ _
  have NG : Hid (¬ P w.heap.size) := fun h => by have := hP _ h; omega
  have KK : Hid (K20 (w.alloc (.cells #[.slice p1 n1 c1, .slice p2 n2 c2, .slice p3 n3 c3, .slice p4 n4 c4, .int .i64 sky, .int .i64 st] 33)) M P l1 l2 l3 l4 (.slice p1 n1 c1) (.slice p2 n2 c2) (.slice p3 n3 c3) (.slice p4 n4 c4) (w.alloc (.cells #[.slice p1 n1 c1, .slice p2 n2 c2, .slice p3 n3 c3, .slice p4 n4 c4, .int .i64 sky, .int .i64 st] 33))) := by
    obtain ⟨q, h1, h2, h3, h4, d, q1, q2, q3, q4⟩ := hK
    have f : ∀ (t : TypeId) (v : Value) (l : List Value), OV t M v l w → (∀ k, v.ownBlock = some k → P k ∨ w.heap.size ≤ k) → ∀ k, v.ownBlock = some k → P k ∨ (w.alloc (.cells #[.slice p1 n1 c1, .slice p2 n2 c2, .slice p3 n3 c3, .slice p4 n4 c4, .int .i64 sky, .int .i64 st] 33)).heap.size ≤ k := fun t v l o hp k hk => by
      rcases hp k hk with h | h
      · exact .inl h
      · have := (o.blk hk).2
        omega
    exact ⟨Rv.AbQ.refl _ _, h1.to A0, h2.to A0, h3.to A0, h4.to A0, d, f _ _ _ h1 q1, f _ _ _ h2 q2, f _ _ _ h3 q3, f _ _ _ h4 q4⟩
  have MB : Hid (M ≤ (w.alloc (.cells #[.slice p1 n1 c1, .slice p2 n2 c2, .slice p3 n3 c3, .slice p4 n4 c4, .int .i64 sky, .int .i64 st] 33)).heap.size) := by have := A0.size; show _ ≤ _; omega
  clear hK hP hM A0
  go_enter Tryz.func18, Tryz.ntmps18
  go_upto_region 1 with fail
  generalize hW : World.alloc w _ = V0 at *
  obtain ⟨gs, hgs⟩ : ∃ g, w.heap.size = g := ⟨_, rfl⟩
  rw [hgs] at R0 NG ⊢
  clear hgs hW
  go_wp2
  go_loopw [2] (fun iv wr => ∃ (c : Nat) (l1 l2 l3 l4 : List Value), c ≤ n1 ∧ iv = .int .i64 (c : Nat) ∧ (l1.length = n1 ∧ l2.length = n2 ∧ l3.length = n3 ∧ l4.length = n4) ∧ (AllF l1 ∧ AllI l2 ∧ AllI l3 ∧ AllF l4) ∧ K20 V0 M P l1 l2 l3 l4 (.slice p1 n1 c1) (.slice p2 n2 c2) (.slice p3 n3 c3) (.slice p4 n4 c4) wr) (fun iv _ => n1 - (intOf iv).toNat)
  case atStart => exact ⟨0, l1, l2, l3, l4, by omega, rfl, LN.out, AL.out, KK.out⟩
  case round =>
    obtain ⟨c, l1, l2, l3, l4, hc, rfl, hlen, hall, hk⟩ := hrel
    have KQ := hid hk
    have HE := hid hlen
    have HA := hid hall
    clear hk hlen hall KK LN AL
    have BX := hid (KQ.out.1.heap R0.out NG.out)
    have x0 := cell_of_row _ _ 0 _ _ _ BX.out
    by_cases hcN : c < n1
    · have HC := hid hcN
      have hcI : (c : Int) < n1 := by omega
      have hcB : (c : Int) ≤ 131072 := by have := HB.out; omega
      obtain ⟨g, cap, ev, xc, xf, hs⟩ := KQ.out.set1 (c := c) (by have := HE.out; omega)
      obtain ⟨y, hy⟩ := HA.out.1 c (by have := HE.out; omega)
      rw [HE.out.1] at ev
      injection ev with ev1 ev2 ev3
      subst ev1
      rw [hy] at xc
      have XC := hid xc
      have GL : Hid (g < wr.heap.size) := by
        rcases Nat.lt_or_ge g wr.heap.size with h | h
        · exact h
        · have q := XC.out
          simp [World.cell?, Array.getElem?_eq_none h] at q
      clear hs hcN hc xc xf hy ev2 ev3
      go_upto_region 4 with fail
      clear x0
      obtain ⟨UU, E, hF1, hF2⟩ := cls wr
      have HU := hid hF2
      have HU1 := hid hF1
      have e1 : ∀ u, (E u).cell? ⟨gs, 0, none⟩ = some (.slice (some ⟨g, 0, none⟩) n1 c1) := fun u => cell_of_row _ _ 0 _ _ _ ((hF1 u).heap BX.out)
      have e2 : ∀ u, (E u).cell? ⟨g, c, none⟩ = some (.float .f64 y) := fun u => (Below.cell (hF1 u) GL.out).trans XC.out
      have DD0 := HU.out _ (Ab.refl wr).drew
      clear hF1 hF2
      refine region_tail 12 E (by kernel_rfl) (by kernel_rfl) (by kernel_rfl) DD0 ?_
      simp only [List.take_succ_cons, List.take_zero, List.drop_succ_cons, List.drop_zero]
      repeat (go_big_quiet_step (first | (with_reducible rfl) | (go_at_call 49; exact calls_cls HU HU1 (RB.out _ _)) | (go_at_call 48; exact calls_cls HU HU1 (RF.out _ _))))
      refine wpQuiet_nil ?_
      intro vz hwz
      obtain ⟨u0, hu⟩ := hwz
      have AZ : Hid (Ab wr vz) := by rw [hu]; exact HU1.out u0
      clear hu u0
      clear HU HU1 DD0 e1 e2
      clear E UU
      have KZ := hid (KQ.out.to AZ.out)
      obtain ⟨g2, cap2, ev, xc, xf, hs⟩ := KZ.out.set1 (c := c) (by have := HE.out; have := HC.out; omega)
      injection ev with ev1 ev2 ev3
      injection ev1 with ev4
      injection ev4 with ev5
      subst ev5
      obtain ⟨zc, hzc⟩ : ∃ z, l1[c]'(by have := HE.out; have := HC.out; omega) = z := ⟨_, rfl⟩
      rw [hzc] at xc
      have HZ := hid hs
      clear hs ev2 ev3 hzc
      go_wp2
      exact ⟨⟨c + 1, (l1.set c _), l2, l3, l4, by have := HC.out; omega, by simp, by have := HE.out; simpa using this, ⟨HA.out.1.set c _, HA.out.2.1, HA.out.2.2.1, HA.out.2.2.2⟩, HZ.out _⟩, by have := HC.out; simp [intOf]; omega⟩
    · have e6 : n1 = c := by omega
      have E6 := hid e6
      have hcI : ¬ ((c : Int) < (n1 : Int)) := by omega
      have d9 : decide (c < n1) = false := decide_eq_false hcN
      have KK := hid KQ.out
      have LN := hid HE.out
      have AL := hid HA.out
      clear hcN hc e6 KQ HE HA
      go_wp2
      go_loopw [3] (fun iv wr => ∃ (c : Nat) (l1 l2 l3 l4 : List Value), c ≤ n4 ∧ iv = .int .i64 (c : Nat) ∧ (l1.length = n1 ∧ l2.length = n2 ∧ l3.length = n3 ∧ l4.length = n4) ∧ (AllF l1 ∧ AllI l2 ∧ AllI l3 ∧ AllF l4) ∧ K20 V0 M P l1 l2 l3 l4 (.slice p1 n1 c1) (.slice p2 n2 c2) (.slice p3 n3 c3) (.slice p4 n4 c4) wr) (fun iv _ => n4 - (intOf iv).toNat)
      case atStart => exact ⟨0, l1, l2, l3, l4, by omega, rfl, LN.out, AL.out, KK.out⟩
      case round =>
        obtain ⟨c, l1, l2, l3, l4, hc, rfl, hlen, hall, hk⟩ := hrel
        have KQ := hid hk
        have HE := hid hlen
        have HA := hid hall
        clear hk hlen hall KK LN AL
        have BX := hid (KQ.out.1.heap R0.out NG.out)
        have x0 := cell_of_row _ _ 3 _ _ _ BX.out
        by_cases hcN : c < n4
        · have HC := hid hcN
          have hcI : (c : Int) < n4 := by omega
          have hcB : (c : Int) ≤ 131072 := by have := HB.out; omega
          obtain ⟨g, cap, ev, xc, xf, hs⟩ := KQ.out.set4 (c := c) (by have := HE.out; omega)
          obtain ⟨y, hy⟩ := HA.out.2.2.2 c (by have := HE.out; omega)
          rw [HE.out.2.2.2] at ev
          injection ev with ev1 ev2 ev3
          subst ev1
          rw [hy] at xc
          have XC := hid xc
          have GL : Hid (g < wr.heap.size) := by
            rcases Nat.lt_or_ge g wr.heap.size with h | h
            · exact h
            · have q := XC.out
              simp [World.cell?, Array.getElem?_eq_none h] at q
          clear hs hcN hc xc xf hy ev2 ev3
          go_upto_region 8 with fail
          clear x0
          obtain ⟨UU, E, hF1, hF2⟩ := cls wr
          have HU := hid hF2
          have HU1 := hid hF1
          have e1 : ∀ u, (E u).cell? ⟨gs, 3, none⟩ = some (.slice (some ⟨g, 0, none⟩) n4 c4) := fun u => cell_of_row _ _ 3 _ _ _ ((hF1 u).heap BX.out)
          have e2 : ∀ u, (E u).cell? ⟨g, c, none⟩ = some (.float .f64 y) := fun u => (Below.cell (hF1 u) GL.out).trans XC.out
          have DD0 := HU.out _ (Ab.refl wr).drew
          clear hF1 hF2
          refine region_tail 12 E (by kernel_rfl) (by kernel_rfl) (by kernel_rfl) DD0 ?_
          simp only [List.take_succ_cons, List.take_zero, List.drop_succ_cons, List.drop_zero]
          repeat (go_big_quiet_step (first | (with_reducible rfl) | (go_at_call 49; exact calls_cls HU HU1 (RB.out _ _)) | (go_at_call 48; exact calls_cls HU HU1 (RF.out _ _))))
          refine wpQuiet_nil ?_
          intro vz hwz
          obtain ⟨u0, hu⟩ := hwz
          have AZ : Hid (Ab wr vz) := by rw [hu]; exact HU1.out u0
          clear hu u0
          clear HU HU1 DD0 e1 e2
          clear E UU
          have KZ := hid (KQ.out.to AZ.out)
          obtain ⟨g2, cap2, ev, xc, xf, hs⟩ := KZ.out.set4 (c := c) (by have := HE.out; have := HC.out; omega)
          injection ev with ev1 ev2 ev3
          injection ev1 with ev4
          injection ev4 with ev5
          subst ev5
          obtain ⟨zc, hzc⟩ : ∃ z, l4[c]'(by have := HE.out; have := HC.out; omega) = z := ⟨_, rfl⟩
          rw [hzc] at xc
          have HZ := hid hs
          clear hs ev2 ev3 hzc
          go_wp2
          exact ⟨⟨c + 1, l1, l2, l3, (l4.set c _), by have := HC.out; omega, by simp, by have := HE.out; simpa using this, ⟨HA.out.1, HA.out.2.1, HA.out.2.2.1, HA.out.2.2.2.set c _⟩, HZ.out _⟩, by have := HC.out; simp [intOf]; omega⟩
        · have e6 : n4 = c := by omega
          have E6 := hid e6
          have hcI : ¬ ((c : Int) < (n4 : Int)) := by omega
          have d9 : decide (c < n4) = false := decide_eq_false hcN
          have KK := hid KQ.out
          have LN := hid HE.out
          have AL := hid HA.out
          clear hcN hc e6 KQ HE HA
          go_wp2
          go_loopw [4] (fun iv wr => ∃ (c : Nat) (l1 l2 l3 l4 : List Value), c ≤ n2 ∧ iv = .int .i64 (c : Nat) ∧ (l1.length = n1 ∧ l2.length = n2 ∧ l3.length = n3 ∧ l4.length = n4) ∧ (AllF l1 ∧ AllI l2 ∧ AllI l3 ∧ AllF l4) ∧ K20 V0 M P l1 l2 l3 l4 (.slice p1 n1 c1) (.slice p2 n2 c2) (.slice p3 n3 c3) (.slice p4 n4 c4) wr) (fun iv _ => n2 - (intOf iv).toNat)
          case atStart => exact ⟨0, l1, l2, l3, l4, by omega, rfl, LN.out, AL.out, KK.out⟩
          case round =>
            obtain ⟨c, l1, l2, l3, l4, hc, rfl, hlen, hall, hk⟩ := hrel
            have KQ := hid hk
            have HE := hid hlen
            have HA := hid hall
            clear hk hlen hall KK LN AL
            have BX := hid (KQ.out.1.heap R0.out NG.out)
            have x0 := cell_of_row _ _ 1 _ _ _ BX.out
            by_cases hcN : c < n2
            · have HC := hid hcN
              have hcI : (c : Int) < n2 := by omega
              have hcB : (c : Int) ≤ 131072 := by have := HB.out; omega
              obtain ⟨g, cap, ev, xc, xf, hs⟩ := KQ.out.set2 (c := c) (by have := HE.out; omega)
              obtain ⟨y, hy⟩ := HA.out.2.1 c (by have := HE.out; omega)
              rw [HE.out.2.1] at ev
              injection ev with ev1 ev2 ev3
              subst ev1
              rw [hy] at xc
              have XC := hid xc
              have GL : Hid (g < wr.heap.size) := by
                rcases Nat.lt_or_ge g wr.heap.size with h | h
                · exact h
                · have q := XC.out
                  simp [World.cell?, Array.getElem?_eq_none h] at q
              clear hs hcN hc xc xf hy ev2 ev3
              go_upto_region 12 with fail
              clear x0
              obtain ⟨UU, E, hF1, hF2⟩ := cls wr
              have HU := hid hF2
              have HU1 := hid hF1
              have e1 : ∀ u, (E u).cell? ⟨gs, 1, none⟩ = some (.slice (some ⟨g, 0, none⟩) n2 c2) := fun u => cell_of_row _ _ 1 _ _ _ ((hF1 u).heap BX.out)
              have e2 : ∀ u, (E u).cell? ⟨g, c, none⟩ = some (.int .i64 y) := fun u => (Below.cell (hF1 u) GL.out).trans XC.out
              have DD0 := HU.out _ (Ab.refl wr).drew
              clear hF1 hF2
              refine region_tail 10 E (by kernel_rfl) (by kernel_rfl) (by kernel_rfl) DD0 ?_
              simp only [List.take_succ_cons, List.take_zero, List.drop_succ_cons, List.drop_zero]
              repeat (go_big_quiet_step (with_reducible rfl))
              refine wpQuiet_nil ?_
              intro vz hwz
              obtain ⟨u0, hu⟩ := hwz
              have AZ : Hid (Ab wr vz) := by rw [hu]; exact HU1.out u0
              clear hu u0
              clear HU HU1 DD0 e1 e2
              clear E UU
              have KZ := hid (KQ.out.to AZ.out)
              obtain ⟨g2, cap2, ev, xc, xf, hs⟩ := KZ.out.set2 (c := c) (by have := HE.out; have := HC.out; omega)
              injection ev with ev1 ev2 ev3
              injection ev1 with ev4
              injection ev4 with ev5
              subst ev5
              obtain ⟨zc, hzc⟩ : ∃ z, l2[c]'(by have := HE.out; have := HC.out; omega) = z := ⟨_, rfl⟩
              rw [hzc] at xc
              have HZ := hid hs
              clear hs ev2 ev3 hzc
              go_wp2
              exact ⟨⟨c + 1, l1, (l2.set c _), l3, l4, by have := HC.out; omega, by simp, by have := HE.out; simpa using this, ⟨HA.out.1, HA.out.2.1.set c _, HA.out.2.2.1, HA.out.2.2.2⟩, HZ.out _⟩, by have := HC.out; simp [intOf]; omega⟩
            · have e6 : n2 = c := by omega
              have E6 := hid e6
              have hcI : ¬ ((c : Int) < (n2 : Int)) := by omega
              have d9 : decide (c < n2) = false := decide_eq_false hcN
              have KK := hid KQ.out
              have LN := hid HE.out
              have AL := hid HA.out
              clear hcN hc e6 KQ HE HA
              go_wp2
              go_loopw [5] (fun iv wr => ∃ (c : Nat) (l1 l2 l3 l4 : List Value), c ≤ n3 ∧ iv = .int .i64 (c : Nat) ∧ (l1.length = n1 ∧ l2.length = n2 ∧ l3.length = n3 ∧ l4.length = n4) ∧ (AllF l1 ∧ AllI l2 ∧ AllI l3 ∧ AllF l4) ∧ K20 V0 M P l1 l2 l3 l4 (.slice p1 n1 c1) (.slice p2 n2 c2) (.slice p3 n3 c3) (.slice p4 n4 c4) wr) (fun iv _ => n3 - (intOf iv).toNat)
              case atStart => exact ⟨0, l1, l2, l3, l4, by omega, rfl, LN.out, AL.out, KK.out⟩
              case round =>
                obtain ⟨c, l1, l2, l3, l4, hc, rfl, hlen, hall, hk⟩ := hrel
                have KQ := hid hk
                have HE := hid hlen
                have HA := hid hall
                clear hk hlen hall KK LN AL
                have BX := hid (KQ.out.1.heap R0.out NG.out)
                have x0 := cell_of_row _ _ 2 _ _ _ BX.out
                by_cases hcN : c < n3
                · have HC := hid hcN
                  have hcI : (c : Int) < n3 := by omega
                  have hcB : (c : Int) ≤ 131072 := by have := HB.out; omega
                  obtain ⟨g, cap, ev, xc, xf, hs⟩ := KQ.out.set3 (c := c) (by have := HE.out; omega)
                  obtain ⟨y, hy⟩ := HA.out.2.2.1 c (by have := HE.out; omega)
                  rw [HE.out.2.2.1] at ev
                  injection ev with ev1 ev2 ev3
                  subst ev1
                  rw [hy] at xc
                  have XC := hid xc
                  have GL : Hid (g < wr.heap.size) := by
                    rcases Nat.lt_or_ge g wr.heap.size with h | h
                    · exact h
                    · have q := XC.out
                      simp [World.cell?, Array.getElem?_eq_none h] at q
                  clear hs hcN hc xc xf hy ev2 ev3
                  go_upto_region 16 with fail
                  clear x0
                  obtain ⟨UU, E, hF1, hF2⟩ := cls wr
                  have HU := hid hF2
                  have HU1 := hid hF1
                  have e1 : ∀ u, (E u).cell? ⟨gs, 2, none⟩ = some (.slice (some ⟨g, 0, none⟩) n3 c3) := fun u => cell_of_row _ _ 2 _ _ _ ((hF1 u).heap BX.out)
                  have e2 : ∀ u, (E u).cell? ⟨g, c, none⟩ = some (.int .i64 y) := fun u => (Below.cell (hF1 u) GL.out).trans XC.out
                  have DD0 := HU.out _ (Ab.refl wr).drew
                  clear hF1 hF2
                  refine region_tail 10 E (by kernel_rfl) (by kernel_rfl) (by kernel_rfl) DD0 ?_
                  simp only [List.take_succ_cons, List.take_zero, List.drop_succ_cons, List.drop_zero]
                  repeat (go_big_quiet_step (with_reducible rfl))
                  refine wpQuiet_nil ?_
                  intro vz hwz
                  obtain ⟨u0, hu⟩ := hwz
                  have AZ : Hid (Ab wr vz) := by rw [hu]; exact HU1.out u0
                  clear hu u0
                  clear HU HU1 DD0 e1 e2
                  clear E UU
                  have KZ := hid (KQ.out.to AZ.out)
                  obtain ⟨g2, cap2, ev, xc, xf, hs⟩ := KZ.out.set3 (c := c) (by have := HE.out; have := HC.out; omega)
                  injection ev with ev1 ev2 ev3
                  injection ev1 with ev4
                  injection ev4 with ev5
                  subst ev5
                  obtain ⟨zc, hzc⟩ : ∃ z, l3[c]'(by have := HE.out; have := HC.out; omega) = z := ⟨_, rfl⟩
                  rw [hzc] at xc
                  have HZ := hid hs
                  clear hs ev2 ev3 hzc
                  go_wp2
                  exact ⟨⟨c + 1, l1, l2, (l3.set c _), l4, by have := HC.out; omega, by simp, by have := HE.out; simpa using this, ⟨HA.out.1, HA.out.2.1, HA.out.2.2.1.set c _, HA.out.2.2.2⟩, HZ.out _⟩, by have := HC.out; simp [intOf]; omega⟩
                · have e6 : n3 = c := by omega
                  have E6 := hid e6
                  have hcI : ¬ ((c : Int) < (n3 : Int)) := by omega
                  have d9 : decide (c < n3) = false := decide_eq_false hcN
                  have KK := hid KQ.out
                  have LN := hid HE.out
                  have AL := hid HA.out
                  clear hcN hc e6 KQ HE HA
                  have BX := hid (KK.out.1.heap R0.out NG.out)
                  have z0 := cell_of_row _ _ 0 _ _ _ BX.out
                  have z1 := cell_of_row _ _ 1 _ _ _ BX.out
                  have z2 := cell_of_row _ _ 2 _ _ _ BX.out
                  have z3 := cell_of_row _ _ 3 _ _ _ BX.out
                  go_wp2
                  clear z0 z1 z2 z3
                  go_loopw [6, 7, 8, 9, 10] (fun av bv cv dv iv wr => ∃ (k : Nat) (l1 l2 l3 l4 : List Value), k ≤ 8 ∧ iv = .int .i64 (k : Nat) ∧ (l1.length = n1 + k ∧ l2.length = n2 + k ∧ l3.length = n3 + k ∧ l4.length = n4 + k) ∧ K20 V0 M P l1 l2 l3 l4 av cv dv bv wr) (fun _ _ _ _ iv _ => 8 - (intOf iv).toNat)
                  case atStart => exact ⟨0, l1, l2, l3, l4, by omega, rfl, LN.out, KK.out⟩
                  case round =>
                    obtain ⟨k, l1, l2, l3, l4, hk, rfl, hlen, hkq⟩ := hrel
                    have KQ := hid hkq
                    have HK := hid hlen
                    clear hkq hlen KK LN AL
                    by_cases hk8 : k < 8
                    · have hkI : (k : Int) < 8 := by omega
                      have hkB : (0 : Int) ≤ (k : Int) := by omega
                      have HK2 := hid hk8
                      clear hk8
                      go_wp2_with (first
                        | (at_builtin; have q9 := K2.out; refine wpList_appI rfl (.tmp 104) (.tmp 105) rfl M _ l3 rfl (K2.out.2.2.2.1.to (bl1 w2 (.cells #[.int .i64 7] 2))) ⟨w2.heap.size, 0, none⟩ (.int .i64 7) rfl rfl (cell_of_row _ _ 0 _ _ _ (heap_alloc_new w2 (.cells #[.int .i64 7] 2))) (by have := HK.out; have := HK2.out; have := HB.out; omega) (by have h1 := K2.out.1.2.2.2.1; have h3 := SZ.out w2 (.cells #[.int .i64 7] 2); have h4 := MB.out; omega) ?_; intro g3 d3 w3 o3 x3 y3; have K3 := hid (K20.app3 K2.out o3 x3 y3); clear o3 x3 y3)
                        | (at_builtin; have q9 := K4.out; refine wpList_appI rfl (.tmp 101) (.tmp 102) rfl M _ l2 rfl (K4.out.2.2.1.to (bl1 w4 (.cells #[.int .i64 7] 2))) ⟨w4.heap.size, 0, none⟩ (.int .i64 7) rfl rfl (cell_of_row _ _ 0 _ _ _ (heap_alloc_new w4 (.cells #[.int .i64 7] 2))) (by have := HK.out; have := HK2.out; have := HB.out; omega) (by have h1 := K4.out.1.2.2.2.1; have h3 := SZ.out w4 (.cells #[.int .i64 7] 2); have h4 := MB.out; omega) ?_; intro g2 d2 w2 o2 x2 y2; have K2 := hid (K20.app2 K4.out o2 x2 y2); clear o2 x2 y2)
                        | (at_builtin; have q9 := K1.out; refine wpList_appF rfl (.tmp 98) (.tmp 99) rfl M _ l4 rfl (K1.out.2.2.2.2.1.to (bl1 w1 (.cells #[.float .f64 4619567317775286272] 22))) ⟨w1.heap.size, 0, none⟩ (.float .f64 4619567317775286272) rfl rfl (cell_of_row _ _ 0 _ _ _ (heap_alloc_new w1 (.cells #[.float .f64 4619567317775286272] 22))) (by have := HK.out; have := HK2.out; have := HB.out; omega) (by have h1 := K1.out.1.2.2.2.1; have h3 := SZ.out w1 (.cells #[.float .f64 4619567317775286272] 22); have h4 := MB.out; omega) ?_; intro g4 d4 w4 o4 x4 y4; have K4 := hid (K20.app4 K1.out o4 x4 y4); clear o4 x4 y4)
                        | (at_builtin; refine wpList_appF rfl (.tmp 95) (.tmp 96) rfl M _ l1 rfl (KQ.out.2.1.to (bl1 wr (.cells #[.float .f64 4619567317775286272] 22))) ⟨wr.heap.size, 0, none⟩ (.float .f64 4619567317775286272) rfl rfl (cell_of_row _ _ 0 _ _ _ (heap_alloc_new wr (.cells #[.float .f64 4619567317775286272] 22))) (by have := HK.out; have := HK2.out; have := HB.out; omega) (by have h1 := KQ.out.1.2.2.2.1; have h3 := SZ.out wr (.cells #[.float .f64 4619567317775286272] 22); have h4 := MB.out; omega) ?_; intro g1 d1 w1 o1 x1 y1; have K1 := hid (K20.app1 KQ.out o1 x1 y1); clear o1 x1 y1))
                      exact ⟨⟨k + 1, l1 ++ [_], l2 ++ [_], l3 ++ [_], l4 ++ [_], by have := HK2.out; omega, by simp, by have := HK.out; simp; omega, K3.out⟩, by have := HK2.out; simp [intOf]; omega⟩
                    · have e6 : k = 8 := by omega
                      subst e6
                      go_wp2
                      go_end0
                      exact ⟨rfl, AbQ.trans AW.out KQ.out.1⟩
end Ss
end Go.Proofs.YtdigecacmibkpaaGreatDoor
