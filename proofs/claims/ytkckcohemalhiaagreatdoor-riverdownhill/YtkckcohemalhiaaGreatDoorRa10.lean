/-
  Some of the texts of this proof, one behind the other.
-/
import Derived.ProofKit
import Derived.OpenShut
import Derived.WalkLawsBesides
import Derived.Stop.Joined
import Derived.Carry
import Derived.Lib.SmallJoins
import Derived.Deep.SlicePairs
import Derived.Deep.Slices
import Derived.Test.YtkckcohemalhiaaGreatDoorRa09
namespace Go.Proofs.YtkckcohemalhiaaGreatDoor
open Go.RowKit Tf Cu Go.Deep
attribute [local go_sem] run_bits run_from raw_feq raw_fne raw_flt raw_fgt run_neg run_store_float
namespace Rv
/-- how many cells lie below one -/
def rnk (K : Nat → Nat) (N c : Nat) : Nat := ((List.range N).filter fun i => decide (K i < K c)).length
theorem filt_le {K : Nat → Nat} {a b : Nat} (h : K a ≤ K b) : ∀ l : List Nat, (l.filter fun i => decide (K i < K a)).length ≤ (l.filter fun i => decide (K i < K b)).length
  | [] => Nat.le_refl _
  | x :: l => by
    have ih := filt_le h l
    by_cases q1 : K x < K a
    · have q2 : K x < K b := by omega
      simp [q1, q2]
      exact ih
    · by_cases q2 : K x < K b
      · simp [q1, q2]
        omega
      · simp [q1, q2]
        exact ih
theorem filt_lt {K : Nat → Nat} {a b : Nat} (h : K a < K b) : ∀ {l : List Nat}, a ∈ l → (l.filter fun i => decide (K i < K a)).length < (l.filter fun i => decide (K i < K b)).length
  | [], m => by cases m
  | x :: l, m => by
    have le := filt_le (K := K) (a := a) (b := b) (by omega) l
    by_cases e : x = a
    · subst e
      have q1 : ¬ K x < K x := by omega
      simp [q1, h]
      omega
    · have m2 : a ∈ l := by
        rcases List.mem_cons.1 m with q | q
        · exact absurd q.symm e
        · exact q
      have ih := filt_lt h m2
      by_cases q1 : K x < K a
      · have q2 : K x < K b := by omega
        simp [q1, q2]
        exact ih
      · by_cases q2 : K x < K b
        · simp [q1, q2]
          omega
        · simp [q1, q2]
          exact ih
theorem rnk_lt {K : Nat → Nat} {N a b : Nat} (ha : a < N) (h : K a < K b) : rnk K N a < rnk K N b := filt_lt h (List.mem_range.2 ha)
theorem rnk_top {K : Nat → Nat} {N c : Nat} (hc : c < N) : rnk K N c < N := by
  have h := List.length_filter_le (fun i => decide (K i < K c)) (List.range N)
  rw [List.length_range] at h
  have e : ((List.range N).filter fun i => decide (K i < K c)).length ≠ N := fun e => by
    have h2 := List.length_filter_eq_length_iff.1 (e.trans (List.length_range).symm) c (List.mem_range.2 hc)
    simp at h2
  unfold rnk
  omega
set_option maxRecDepth 100000 in
set_option maxHeartbeats 16000000 in
theorem downhill_no (side : Int) (pb : Option Addr) (lb cb : Nat) (fr : Int) (w : World)
    (LV : Hid (Calls Tryz.prog 8 #[] w fun e w' => e = .returned (.bool true) ∧ Below w.heap.size w w'))
    (NW : Hid (∀ v, Calls Tryz.prog 9 #[.int .i64 side] v fun e w' => e = .returned (.tuple #[.pointer none, .int .i64 10]) ∧ w' = v)) :
    Calls Tryz.prog 4 #[.int .i64 side, .slice pb lb cb, .int .i64 fr] w fun e w' => e = .returned (.bool true) ∧ Below w.heap.size w w' := by
  go_enter Tryz.func4, Tryz.ntmps4
  go_wp2_with fail
  refine LV.out.mono ?_
  rintro e9 v1 ⟨rfl, b1⟩
  have A1 : Hid (Ab w v1) := b1
  clear b1
  go_wp2_with fail
  refine (NW.out _).mono ?_
  rintro e9 v9 ⟨rfl, hv9⟩
  have hv8 := hv9.symm
  subst hv8
  go_wp2
  go_ret
  exact ⟨rfl, A1.out⟩
set_option maxRecDepth 100000 in
set_option maxHeartbeats 16000000 in
theorem downhill_len (n N : Nat) (side : Int) (pb : Option Addr) (lb cb : Nat) (fr : Int) (w : World) (hl : ((lb : Int) != (N : Int)) = true)
    (LV : Hid (Calls Tryz.prog 8 #[] w fun e w' => e = .returned (.bool true) ∧ Below w.heap.size w w'))
    (NW : Hid (∀ v, Ab w v → Calls Tryz.prog 9 #[.int .i64 side] v fun e w' => ∃ gb, e = .returned (.tuple #[.pointer (some ⟨gb, 0, none⟩), .int .i64 0]) ∧ Ab v w' ∧ GridOf n gb w'))
    (CE : Hid (∀ v gb, GridOf n gb v → Calls Tryz.prog 13 #[.pointer (some ⟨gb, 0, none⟩)] v fun e w' => e = .returned (.int .i64 (N : Nat)) ∧ w' = v))
    (DW : Hid (∀ v gb, Ab w v → GridOf n gb v → Calls Tryz.prog 12 #[.pointer (some ⟨gb, 0, none⟩), .slice pb lb cb, .int .i64 fr] v fun e w' => e = .returned (.int .i64 (-1)) ∧ Below v.heap.size v w')) :
    Calls Tryz.prog 4 #[.int .i64 side, .slice pb lb cb, .int .i64 fr] w fun e w' => e = .returned (.bool true) ∧ Below w.heap.size w w' := by
  go_enter Tryz.func4, Tryz.ntmps4
  go_wp2_with fail
  refine LV.out.mono ?_
  rintro e9 v0 ⟨rfl, b0⟩
  have A0 : Hid (Ab w v0) := b0
  clear b0
  go_wp2_with fail
  refine (NW.out v0 A0.out).mono ?_
  rintro e9 v1 ⟨gb, rfl, a1, g1⟩
  have A1 : Hid (Ab w v1) := A0.out.trans a1
  have G1 := hid g1
  clear a1 g1 A0
  go_wp2_with fail
  refine (CE.out _ gb G1.out).mono ?_
  rintro e9 v9 ⟨rfl, hv9⟩
  have hv8 := hv9.symm
  subst hv8
  go_wp2_with fail
  refine (DW.out _ gb A1.out G1.out).mono ?_
  rintro e9 v2 ⟨rfl, b2⟩
  have A2 : Hid (Ab w v2) := A1.out.trans b2
  clear b2
  go_wp2
  go_ret
  exact ⟨rfl, A2.out⟩
set_option maxRecDepth 100000 in
set_option maxHeartbeats 16000000 in
theorem downhill_go (n N : Nat) (side : Int) (pb : Option Addr) (cb : Nat) (B : Nat → Nat) (fr : Int) (nb sd : Nat → Nat → Nat) (w : World) (hN : N ≤ 6144) (hN0 : 0 < N) (hfr : Sh.W64 fr) (IB : Hid (IsFl w pb N B))
    (LV : Hid (Calls Tryz.prog 8 #[] w fun e w' => e = .returned (.bool true) ∧ Below w.heap.size w w'))
    (NW : Hid (∀ v, Ab w v → Calls Tryz.prog 9 #[.int .i64 side] v fun e w' => ∃ gb, e = .returned (.tuple #[.pointer (some ⟨gb, 0, none⟩), .int .i64 0]) ∧ Ab v w' ∧ GridOf n gb w'))
    (CE : Hid (∀ v gb, GridOf n gb v → Calls Tryz.prog 13 #[.pointer (some ⟨gb, 0, none⟩)] v fun e w' => e = .returned (.int .i64 (N : Nat)) ∧ w' = v))
    (DW : Hid (∀ v gb (x : Int), Ab w v → GridOf n gb v → Sh.W64 x → Calls Tryz.prog 12 #[.pointer (some ⟨gb, 0, none⟩), .slice pb N cb, .int .i64 x] v fun e w' => e = .returned (.int .i64 (if 0 ≤ x ∧ x < (N : Nat) then dnI (kB B) (nb x.toNat) x.toNat else -1)) ∧ Below v.heap.size v w'))
    (BS : Hid (∀ v c s, Ab w v → c < N → s < 4 → Calls Tryz.prog 14 #[.int .i64 side, .int .i64 (c : Nat), .int .i64 (s : Nat)] v fun e w' => e = .returned (.tuple #[.int .i64 (nb c s : Nat), .int .i64 (sd c s : Nat)]) ∧ Below v.heap.size v w'))
    (NL : Hid (∀ c s, c < N → s < 4 → nb c s < N)) :
    Calls Tryz.prog 4 #[.int .i64 side, .slice pb N cb, .int .i64 fr] w fun e w' => e = .returned (.bool true) ∧ Below w.heap.size w w' := by
  have nn : ((N : Int) != (N : Int)) = false := by simp
  have HN := hid (And.intro hN hN0)
  have HFR := hid hfr
  obtain ⟨b0, o0, rfl⟩ := IB.out.some0 hN0
  have CELL : Hid (∀ v, Ab w v → ∀ c, c < N → v.cell? ⟨b0, o0 + c, none⟩ = some (.float .f64 (B c)) ∧ B c < 18446744073709551616) := fun v a c hc => ⟨((IB.out.below a).at0 hc).2.2, (IB.out c hc).1⟩
  clear hN hN0 hfr
  go_enter Tryz.func4, Tryz.ntmps4
  go_wp2_with fail
  refine LV.out.mono ?_
  rintro e9 v0 ⟨rfl, b0⟩
  have A0 : Hid (Ab w v0) := b0
  clear b0
  go_wp2_with fail
  refine (NW.out v0 A0.out).mono ?_
  rintro e9 v1 ⟨gb, rfl, a1, g1⟩
  have A1 : Hid (Ab w v1) := A0.out.trans a1
  have G1 := hid g1
  clear a1 g1 A0
  go_wp2_with fail
  refine (CE.out _ gb G1.out).mono ?_
  rintro e9 v9 ⟨rfl, hv9⟩
  have hv8 := hv9.symm
  subst hv8
  go_wp2
  go_loopw [9, 10] (fun cv nv wr => ∃ (x : Int) (k : Nat), cv = .int .i64 x ∧ nv = .int .i64 (k : Nat) ∧ Sh.W64 x ∧ Ab v1 wr ∧ (k = 0 ∨ (0 ≤ x ∧ x < (N : Nat))) ∧ (0 ≤ x ∧ x < (N : Nat) → rnk (kB B) N x.toNat + k < N)) (fun _ nv _ => N + 1 - (intOf nv).toNat)
  case atStart =>
    refine ⟨fr, 0, rfl, rfl, HFR.out, Ab.refl v1, .inl rfl, fun h => ?_⟩
    have := rnk_top (K := kB B) (N := N) (c := fr.toNat) (by omega)
    omega
  case round =>
    obtain ⟨x, k, rfl, rfl, wx, ar, k0, rk0⟩ := hrel
    have AR := hid ar
    have AW := hid (A1.out.trans ar)
    have WX := hid wx
    have G2 := hid (G1.out.to ar)
    have kN : k < N := by
      rcases k0 with h | h
      · have := HN.out; omega
      · have := rk0 h; omega
    have KN := hid kN
    have kI : (k : Int) ≤ (N : Int) := by omega
    have kn2 : k ≤ N := by omega
    have kB2 : (k : Int) ≤ 6144 := by have := HN.out; omega
    have CD := hid (DW.out wr gb x AW.out G2.out wx)
    clear ar wx
    by_cases hx : 0 ≤ x ∧ x < (N : Nat)
    · obtain ⟨c, rfl⟩ : ∃ c : Nat, x = (c : Nat) := ⟨x.toNat, by omega⟩
      rw [if_pos hx, Int.toNat_natCast] at CD
      have hc : c < N := by omega
      have CN := hid hc
      have cI : (c : Int) < N := by omega
      have cN : ¬ N ≤ c := by omega
      have cB3 : (c : Int) ≤ 6144 := by have := HN.out; omega
      have c0n : decide ((c : Int) < 0) = false := decide_eq_false (by omega)
      have c1n : decide ((N : Int) ≤ (c : Int)) = false := decide_eq_false (by omega)
      have rk1 := hid (rk0 hx)
      rw [Int.toNat_natCast] at rk1
      obtain ⟨xc, hxc⟩ : ∃ y, B c = y := ⟨_, rfl⟩
      clear hx rk0 k0
      by_cases hd : dnI (kB B) (nb c) c < 0
      · obtain ⟨e1, hl⟩ := dnI_no hd
        rw [e1] at CD
        have HLs := hid hl
        clear hd e1 hl
        go_wp2_with fail
        refine CD.out.mono ?_
        rintro e9 v2 ⟨rfl, b2⟩
        have A2 : Hid (Ab w v2) := AW.out.trans b2
        clear b2
        go_wp2
        go_loopw [12] (fun iv wq => ∃ s : Nat, s ≤ 4 ∧ iv = .int .i64 (s : Nat) ∧ Ab w wq) (fun iv _ => 4 - (intOf iv).toNat)
        case atStart => exact ⟨0, by omega, rfl, A2.out⟩
        case round =>
          obtain ⟨s, hs, rfl, aq⟩ := hrel
          rename World => wq
          have AQ := hid aq
          clear aq
          by_cases hsn : s < 4
          · have HS := hid hsn
            have sI : (s : Int) < 4 := by omega
            have CB := hid (BS.out wq c s AQ.out CN.out hsn)
            obtain ⟨b, hb⟩ : ∃ b, nb c s = b := ⟨_, rfl⟩
            have bl : b < N := by rw [← hb]; exact NL.out c s CN.out hsn
            have nl := HLs.out s hsn
            rw [hb] at CB nl
            obtain ⟨xd, hxd⟩ : ∃ y, B b = y := ⟨_, rfl⟩
            have LL := hid (fun v => less19_at xd xc v (by rw [← hxd]; exact (CELL.out w (Ab.refl w) b bl).2) (by rw [← hxc]; exact (CELL.out w (Ab.refl w) c CN.out).2))
            have e2 : decide (kb xd < kb xc) = false := decide_eq_false (by rw [← hxd, ← hxc]; exact nl)
            rw [e2] at LL
            have XC : Hid (∀ v, Ab w v → v.cell? ⟨b0, o0 + b, none⟩ = some (.float .f64 xd) ∧ v.cell? ⟨b0, o0 + c, none⟩ = some (.float .f64 xc)) := fun v a => by
              have h1 := (CELL.out v a b bl).1
              have h2 := (CELL.out v a c CN.out).1
              rw [hxd] at h1
              rw [hxc] at h2
              exact ⟨h1, h2⟩
            have bI : (b : Int) < N := by omega
            have bB : (b : Int) ≤ 6144 := by have := HN.out; omega
            have bN : ¬ N ≤ b := by omega
            have b0n : decide ((b : Int) < 0) = false := decide_eq_false (by omega)
            have b1n : decide ((N : Int) ≤ (b : Int)) = false := decide_eq_false (by omega)
            clear hb bl nl hxd e2 hsn hs
            go_wp2_with fail
            refine CB.out.mono ?_
            rintro e9 v3 ⟨rfl, b3⟩
            have A3 : Hid (Ab w v3) := AQ.out.trans b3
            clear b3 CB
            go_upto_region 18 with fail
            obtain ⟨UU, E, hF1, hF2⟩ := cls v3
            have HU := hid hF2
            have HU1 := hid hF1
            have e1 : ∀ u, (E u).cell? ⟨b0, o0 + b, none⟩ = some (.float .f64 xd) := fun u => (XC.out _ (A3.out.trans (hF1 u))).1
            have e2 : ∀ u, (E u).cell? ⟨b0, o0 + c, none⟩ = some (.float .f64 xc) := fun u => (XC.out _ (A3.out.trans (hF1 u))).2
            have DD0 := HU.out _ (Ab.refl v3).drew
            clear hF1 hF2
            refine region_cls E (by kernel_rfl) (by kernel_rfl) DD0 ?_
            repeat (go_big_quiet_step (first | (go_at_call 15; exact calls_cls HU HU1 (LL.out _)) | (with_reducible rfl)))
            refine wpQuiet_nil ?_
            intro v6 hwz
            obtain ⟨u0, hu⟩ := hwz
            have A6 : Hid (Ab v3 v6) := by rw [hu]; exact HU1.out u0
            clear hu u0
            clear HU HU1 DD0 e1 e2
            clear E UU
            go_wp2
            exact ⟨⟨s + 1, by have := HS.out; omega, by simp, A3.out.trans A6.out⟩, by have := HS.out; simp [intOf]; omega⟩
          · obtain rfl : s = 4 := by omega
            go_wp2
            go_ret
            exact ⟨rfl, AQ.out⟩
      · obtain ⟨d, e1, kd, ⟨s0, hs0, hnb0⟩, hl⟩ := dnI_yes hd
        rw [e1] at CD
        have dl : d < N := by rw [← hnb0]; exact NL.out c s0 CN.out hs0
        have DL := hid dl
        have HLs := hid hl
        have FND : Hid (∃ s, s < 4 ∧ nb c s = d) := ⟨s0, hs0, hnb0⟩
        have RD : Hid (rnk (kB B) N d + (k + 1) < N) := by
          have := rnk_lt (K := kB B) dl kd
          have := rk1.out
          show _ < _
          omega
        obtain ⟨xd, hxd⟩ : ∃ y, B d = y := ⟨_, rfl⟩
        have LL := hid (fun v => less19_at xd xc v (by rw [← hxd]; exact (CELL.out w (Ab.refl w) d dl).2) (by rw [← hxc]; exact (CELL.out w (Ab.refl w) c CN.out).2))
        have e2 : decide (kb xd < kb xc) = true := decide_eq_true (by rw [← hxd, ← hxc]; exact kd)
        rw [e2] at LL
        have XD := hid hxd
        have XC : Hid (∀ v, Ab w v → v.cell? ⟨b0, o0 + d, none⟩ = some (.float .f64 xd) ∧ v.cell? ⟨b0, o0 + c, none⟩ = some (.float .f64 xc)) := fun v a => by
          have h1 := (CELL.out v a d dl).1
          have h2 := (CELL.out v a c CN.out).1
          rw [hxd] at h1
          rw [hxc] at h2
          exact ⟨h1, h2⟩
        have dI : (d : Int) < N := by omega
        have dB : (d : Int) ≤ 6144 := by have := HN.out; omega
        have dN : ¬ N ≤ d := by omega
        have d0n : decide ((d : Int) < 0) = false := decide_eq_false (by omega)
        have d1n : decide ((N : Int) ≤ (d : Int)) = false := decide_eq_false (by omega)
        clear hd e1 kd hs0 hnb0 hl dl hxd e2
        go_wp2_with fail
        refine CD.out.mono ?_
        rintro e9 v2 ⟨rfl, b2⟩
        have A2 : Hid (Ab w v2) := AW.out.trans b2
        have A12 : Hid (Ab v1 v2) := AR.out.trans b2
        clear b2
        go_upto_region 21 with fail
        obtain ⟨UU, E, hF1, hF2⟩ := cls v2
        have HU := hid hF2
        have HU1 := hid hF1
        have e1 : ∀ u, (E u).cell? ⟨b0, o0 + d, none⟩ = some (.float .f64 xd) := fun u => (XC.out _ (A2.out.trans (hF1 u))).1
        have e2 : ∀ u, (E u).cell? ⟨b0, o0 + c, none⟩ = some (.float .f64 xc) := fun u => (XC.out _ (A2.out.trans (hF1 u))).2
        have DD0 := HU.out _ (Ab.refl v2).drew
        clear hF1 hF2
        refine region_cls E (by kernel_rfl) (by kernel_rfl) DD0 ?_
        repeat (go_big_quiet_step (first | (go_at_call 15; exact calls_cls HU HU1 (LL.out _)) | (with_reducible rfl)))
        refine wpQuiet_nil ?_
        intro v4 hwz
        obtain ⟨u0, hu⟩ := hwz
        have A4 : Hid (Ab v2 v4) := by rw [hu]; exact HU1.out u0
        clear hu u0
        clear HU HU1 DD0 e1 e2
        clear E UU
        have A5 : Hid (Ab v1 v4) := A12.out.trans A4.out
        clear LL XC
        go_wp2
        go_loopw [15, 16] (fun fv iv wq => ∃ s : Nat, s ≤ 4 ∧ iv = .int .i64 (s : Nat) ∧ fv = .bool (decide (∃ j, j < s ∧ nb c j = d)) ∧ Ab v1 wq) (fun _ iv _ => 4 - (intOf iv).toNat)
        case atStart => exact ⟨0, by omega, rfl, by rw [decide_eq_false (fun ⟨j, h, _⟩ => absurd h (Nat.not_lt_zero j))], A5.out⟩
        case round =>
          obtain ⟨s, hs, rfl, rfl, aq⟩ := hrel
          rename World => wq
          have AQ := hid aq
          have AQW := hid (A1.out.trans aq)
          clear aq
          by_cases hsn : s < 4
          · have HS := hid hsn
            have sI : (s : Int) < 4 := by omega
            have CB := hid (BS.out wq c s AQW.out CN.out hsn)
            obtain ⟨b, hb⟩ : ∃ b, nb c s = b := ⟨_, rfl⟩
            have bl : b < N := by rw [← hb]; exact NL.out c s CN.out hsn
            have nl := HLs.out s hsn
            rw [hb] at CB nl
            obtain ⟨xb, hxb⟩ : ∃ y, B b = y := ⟨_, rfl⟩
            have wb : xb < 18446744073709551616 := by rw [← hxb]; exact (CELL.out w (Ab.refl w) b bl).2
            have wd : xd < 18446744073709551616 := by rw [← XD.out]; exact (CELL.out w (Ab.refl w) d DL.out).2
            have L1 := hid (fun v => less19_at xb xd v wb wd)
            have L2 := hid (fun v => less19_at xd xb v wd wb)
            have nl2 : ¬ (kb xb < kb xd ∨ (kb xb = kb xd ∧ b < d)) := by rw [← hxb, ← XD.out]; exact nl
            have e2 : decide (kb xb < kb xd) = false := decide_eq_false (by omega)
            rw [e2] at L1
            have XC : Hid (∀ v, Ab w v → v.cell? ⟨b0, o0 + b, none⟩ = some (.float .f64 xb) ∧ v.cell? ⟨b0, o0 + d, none⟩ = some (.float .f64 xd)) := fun v a => by
              have h1 := (CELL.out v a b bl).1
              have h2 := (CELL.out v a d DL.out).1
              rw [hxb] at h1
              rw [XD.out] at h2
              exact ⟨h1, h2⟩
            have bI : (b : Int) < N := by omega
            have bB : (b : Int) ≤ 6144 := by have := HN.out; omega
            have bN : ¬ N ≤ b := by omega
            have b0n : decide ((b : Int) < 0) = false := decide_eq_false (by omega)
            have b1n : decide ((N : Int) ≤ (b : Int)) = false := decide_eq_false (by omega)
            obtain ⟨f, hf⟩ : ∃ f, decide (∃ j, j < s ∧ nb c j = d) = f := ⟨_, rfl⟩
            have NF : Hid (decide (∃ j, j < s + 1 ∧ nb c j = d) = (f || decide (b = d))) := by
              show _ = _
              rw [← hf, ← hb, ← Bool.decide_or]
              refine decide_eq_decide.2 ⟨?_, ?_⟩
              · rintro ⟨j, hj, e⟩
                by_cases q : j = s
                · subst q; exact .inr e
                · exact .inl ⟨j, by omega, e⟩
              · rintro (⟨j, hj, e⟩ | e)
                · exact ⟨j, by omega, e⟩
                · exact ⟨s, by omega, e⟩
            rw [hf]
            clear hb bl nl hxb e2 hsn hs wb wd hf
            go_wp2_with fail
            refine CB.out.mono ?_
            rintro e9 v3 ⟨rfl, b3⟩
            have A3 : Hid (Ab v1 v3) := AQ.out.trans b3
            have A3W : Hid (Ab w v3) := AQW.out.trans b3
            clear b3 CB
            by_cases q : kb xd < kb xb
            · have e3 : decide (kb xd < kb xb) = true := decide_eq_true q
              rw [e3] at L2
              clear e3 q nl2
              go_upto_region 28 with fail
              obtain ⟨UU, E, hF1, hF2⟩ := cls v3
              have HU := hid hF2
              have HU1 := hid hF1
              have e1 : ∀ u, (E u).cell? ⟨b0, o0 + b, none⟩ = some (.float .f64 xb) := fun u => (XC.out _ (A3W.out.trans (hF1 u))).1
              have e2 : ∀ u, (E u).cell? ⟨b0, o0 + d, none⟩ = some (.float .f64 xd) := fun u => (XC.out _ (A3W.out.trans (hF1 u))).2
              have DD0 := HU.out _ (Ab.refl v3).drew
              clear hF1 hF2
              refine region_cls E (by kernel_rfl) (by kernel_rfl) DD0 ?_
              repeat (go_big_quiet_step (first | (go_at_call_of 15 (#[Value.float .f64 xb, Value.float .f64 xd]); exact calls_cls HU HU1 (L1.out _)) | (go_at_call_of 15 (#[Value.float .f64 xd, Value.float .f64 xb]); exact calls_cls HU HU1 (L2.out _)) | (with_reducible rfl)))
              refine wpQuiet_nil ?_
              intro v6 hwz
              obtain ⟨u0, hu⟩ := hwz
              have A6 : Hid (Ab v3 v6) := by rw [hu]; exact HU1.out u0
              clear hu u0
              clear HU HU1 DD0 e1 e2
              clear E UU
              cases f with
              | true =>
                go_wp2
                exact ⟨⟨s + 1, by have := HS.out; omega, by simp, by rw [NF.out]; rfl, A3.out.trans A6.out⟩, by have := HS.out; simp [intOf]; omega⟩
              | false =>
                by_cases bd9 : b = d
                · have be : ((b : Int) == (d : Int)) = true := by simp; omega
                  go_wp2
                  exact ⟨⟨s + 1, by have := HS.out; omega, by simp, by rw [NF.out, decide_eq_true bd9]; rfl, A3.out.trans A6.out⟩, by have := HS.out; simp [intOf]; omega⟩
                · have be : ((b : Int) == (d : Int)) = false := by simp; omega
                  go_wp2
                  exact ⟨⟨s + 1, by have := HS.out; omega, by simp, by rw [NF.out, decide_eq_false bd9]; rfl, A3.out.trans A6.out⟩, by have := HS.out; simp [intOf]; omega⟩
            · have e3 : decide (kb xd < kb xb) = false := decide_eq_false q
              rw [e3] at L2
              have bd : ¬ b < d := by omega
              have bd2 : decide ((b : Int) < (d : Int)) = false := decide_eq_false (by omega)
              clear e3 q nl2
              go_upto_region 28 with fail
              obtain ⟨UU, E, hF1, hF2⟩ := cls v3
              have HU := hid hF2
              have HU1 := hid hF1
              have e1 : ∀ u, (E u).cell? ⟨b0, o0 + b, none⟩ = some (.float .f64 xb) := fun u => (XC.out _ (A3W.out.trans (hF1 u))).1
              have e2 : ∀ u, (E u).cell? ⟨b0, o0 + d, none⟩ = some (.float .f64 xd) := fun u => (XC.out _ (A3W.out.trans (hF1 u))).2
              have DD0 := HU.out _ (Ab.refl v3).drew
              clear hF1 hF2
              refine region_cls E (by kernel_rfl) (by kernel_rfl) DD0 ?_
              repeat (go_big_quiet_step (first | (go_at_call_of 15 (#[Value.float .f64 xb, Value.float .f64 xd]); exact calls_cls HU HU1 (L1.out _)) | (go_at_call_of 15 (#[Value.float .f64 xd, Value.float .f64 xb]); exact calls_cls HU HU1 (L2.out _)) | (with_reducible rfl)))
              refine wpQuiet_nil ?_
              intro v6 hwz
              obtain ⟨u0, hu⟩ := hwz
              have A6 : Hid (Ab v3 v6) := by rw [hu]; exact HU1.out u0
              clear hu u0
              clear HU HU1 DD0 e1 e2
              clear E UU
              cases f with
              | true =>
                go_wp2
                exact ⟨⟨s + 1, by have := HS.out; omega, by simp, by rw [NF.out]; rfl, A3.out.trans A6.out⟩, by have := HS.out; simp [intOf]; omega⟩
              | false =>
                by_cases bd9 : b = d
                · have be : ((b : Int) == (d : Int)) = true := by simp; omega
                  go_wp2
                  exact ⟨⟨s + 1, by have := HS.out; omega, by simp, by rw [NF.out, decide_eq_true bd9]; rfl, A3.out.trans A6.out⟩, by have := HS.out; simp [intOf]; omega⟩
                · have be : ((b : Int) == (d : Int)) = false := by simp; omega
                  go_wp2
                  exact ⟨⟨s + 1, by have := HS.out; omega, by simp, by rw [NF.out, decide_eq_false bd9]; rfl, A3.out.trans A6.out⟩, by have := HS.out; simp [intOf]; omega⟩
          · have e4 : s = 4 := by omega
            have ft : decide (∃ j, j < s ∧ nb c j = d) = true := decide_eq_true (by rw [e4]; exact FND.out)
            rw [ft]
            clear ft
            subst e4
            go_wp2
            exact ⟨⟨(d : Int), k + 1, rfl, by simp, by unfold Sh.W64; omega, AQ.out, .inr ⟨by omega, by have := DL.out; omega⟩, fun _ => by rw [Int.toNat_natCast]; exact RD.out⟩, by have := KN.out; simp [intOf]; omega⟩
    · rw [if_neg hx] at CD
      have kz : k = 0 := by
        rcases k0 with h | h
        · exact h
        · exact absurd h hx
      have xo : decide (x < 0) = true ∨ (decide (x < 0) = false ∧ decide ((N : Int) ≤ x) = true) := by
        by_cases q : x < 0
        · exact .inl (decide_eq_true q)
        · exact .inr ⟨decide_eq_false q, decide_eq_true (by omega)⟩
      clear hx k0 rk0
      rcases xo with q1 | ⟨q1, q2⟩
      · go_wp2_with fail
        refine CD.out.mono ?_
        rintro e9 v2 ⟨rfl, b2⟩
        have A2 : Hid (Ab w v2) := AW.out.trans b2
        clear b2
        go_wp2
        go_ret
        exact ⟨rfl, A2.out⟩
      · go_wp2_with fail
        refine CD.out.mono ?_
        rintro e9 v2 ⟨rfl, b2⟩
        have A2 : Hid (Ab w v2) := AW.out.trans b2
        clear b2
        go_wp2
        go_ret
        exact ⟨rfl, A2.out⟩
set_option maxHeartbeats 4000000 in
theorem downhill_at (DC : DownC) (OC : OrderC) (RC : RunC) (side : Int) {pb : Option Addr} {lb cb : Nat} {B : Nat → Nat} (fr : Int) (w : World) (hF : Fr w) (hfr : Sh.W64 fr) (ib : IsFl w pb lb B) :
    Calls Tryz.prog 4 #[.int .i64 side, .slice pb lb cb, .int .i64 fr] w fun e w' => e = .returned (.bool true) ∧ Below w.heap.size w w' := by
  have LV : Hid (Calls Tryz.prog 8 #[] w fun e w' => e = .returned (.bool true) ∧ Below w.heap.size w w') := lives19_at DC OC RC w hF
  by_cases h : 1 ≤ side ∧ side ≤ 32
  · obtain ⟨n, rfl⟩ : ∃ n : Nat, side = (n : Nat) := ⟨side.toNat, by omega⟩
    have hn : 1 ≤ n ∧ n ≤ 32 := by omega
    have NW : Hid (∀ v, Ab w v → Calls Tryz.prog 9 #[.int .i64 (n : Nat)] v fun e w' => ∃ gb, e = .returned (.tuple #[.pointer (some ⟨gb, 0, none⟩), .int .i64 0]) ∧ Ab v w' ∧ GridOf n gb w') := fun v a => (new_at n v hn (hF.to a)).mono fun e w' h => by
      obtain ⟨gb, rfl, a1, -, g⟩ := h
      exact ⟨gb, rfl, a1, g⟩
    have CE : Hid (∀ v gb, GridOf n gb v → Calls Tryz.prog 13 #[.pointer (some ⟨gb, 0, none⟩)] v fun e w' => e = .returned (.int .i64 (6 * n * n : Nat)) ∧ w' = v) := fun v gb g => gCells_at g
    have nb : 6 * n * n ≤ 6144 := by
      have h1 : n * n ≤ 32 * 32 := Nat.mul_le_mul hn.2 hn.2
      rw [Nat.mul_assoc]
      omega
    have n0 : 0 < 6 * n * n := by
      have p1 : 0 < n * n := Nat.mul_pos (by omega) (by omega)
      rw [Nat.mul_assoc]
      omega
    by_cases hl : lb = 6 * n * n
    · subst hl
      refine downhill_go n (6 * n * n) (n : Nat) pb cb B fr (fun c s => bsC n c s) (fun c s => bsS n c s) w nb n0 hfr ib LV NW CE ?_ ?_ (fun c s hc hs => bsC_lt hn.1 hc hs)
      · intro v gb x a g hx
        have h := DC n gb pb (6 * n * n) cb B x v hn g (ib.below a) hx
        refine h.mono fun e w' q => ?_
        obtain ⟨rfl, b⟩ := q
        refine ⟨?_, b⟩
        by_cases c : 0 ≤ x ∧ x < ((6 * n * n : Nat) : Int)
        · rw [if_pos c, if_pos ⟨rfl, c⟩]
          rfl
        · rw [if_neg c, if_neg (fun q => c q.2)]
      · intro v c s a hc hs
        exact beside_at n c s v hn hc hs (hF.to a)
    · refine downhill_len n (6 * n * n) (n : Nat) pb lb cb fr w (bne_iff_ne.2 (fun q => hl (Int.ofNat_inj.1 q))) LV NW CE (fun v gb a g => (DC n gb pb lb cb B fr v hn g (ib.below a) hfr).mono fun e w' q => ?_)
      obtain ⟨rfl, b⟩ := q
      exact ⟨by rw [if_neg (fun q => hl q.1)], b⟩
  · exact downhill_no side pb lb cb fr w LV (fun v => new_no side v h)
end Rv
end Go.Proofs.YtkckcohemalhiaaGreatDoor

namespace Go.Proofs.YtkckcohemalhiaaGreatDoor
open Go.ChangeShapes Go.WideShapes Go.ChangeAt Go.WideMaps Go.WideElems Go.RowKit Go.Deep
namespace Sh
theorem trod_int {H : Type} {enc : TypeId × Value → H} {P : Program} {w : World} {base : Nat} {spare : Nat → Bool} {held : Bool} {t : TypeId} {fuel : Nat} {v : Value} {x : DataW H × List MemPlace} (ht : P.underlying t = some (.int .i64)) (h : DataW.trod enc P w base spare held fuel t [v] = some x) :
    ∃ b, v = .int .i64 b ∧ (-9223372036854775808 ≤ b ∧ b ≤ 9223372036854775807) := by
  obtain ⟨k, e, _, wf⟩ := DataW.trod_int ht h
  simp at e
  simp only [Lit.wf, Bool.and_eq_true, decide_eq_true_eq] at wf
  have q1 : IntKind.i64.min = -9223372036854775808 := by decide
  have q2 : IntKind.i64.max = 9223372036854775807 := by decide
  rw [q1, q2] at wf
  exact ⟨k, e, wf⟩
end Sh
end Go.Proofs.YtkckcohemalhiaaGreatDoor

namespace Go.Proofs.YtkckcohemalhiaaGreatDoor
open Go.RowKit Go.Deep
namespace Sh
theorem lit_w {x : Int} (h : (Lit.int .i64 x).wf = true) : -9223372036854775808 ≤ x ∧ x ≤ 9223372036854775807 := by
  simp only [Lit.wf, Bool.and_eq_true, decide_eq_true_eq] at h
  have q1 : IntKind.i64.min = -9223372036854775808 := by decide
  have q2 : IntKind.i64.max = 9223372036854775807 := by decide
  omega
end Sh
end Go.Proofs.YtkckcohemalhiaaGreatDoor

namespace Go.Proofs.YtkckcohemalhiaaGreatDoor
open Go.RowKit Tf Cu Go.Deep
attribute [local go_sem] run_bits run_from raw_feq raw_fne raw_flt raw_fgt run_neg run_store_float
namespace Rv
/-- how two beds stand to each other -/
def cmp3 (x y : Nat) : Int := if kb x < kb y then -1 else if kb y < kb x then 1 else 0
theorem cmp3_lt {x y : Nat} (h : kb x < kb y) : cmp3 x y = -1 := if_pos h
theorem cmp3_gt {x y : Nat} (h : kb y < kb x) : cmp3 x y = 1 := by unfold cmp3; rw [if_neg (by omega), if_pos h]
theorem cmp3_eq {x y : Nat} (h : kb x = kb y) : cmp3 x y = 0 := by unfold cmp3; rw [if_neg (by omega), if_neg (by omega)]
/-- where a cell's water runs by the sides below k -/
def dk (K nb : Nat → Nat) (c : Nat) : Nat → Int
  | 0 => -1
  | k + 1 => if K (bst K nb k) < K c then ((bst K nb k : Nat) : Int) else -1
theorem bst_next (K nb : Nat → Nat) (k : Nat) : bst K nb (k + 1) = if lt2 K (nb (k + 1)) (bst K nb k) = true then nb (k + 1) else bst K nb k := rfl
theorem dk_no {K nb : Nat → Nat} {c k : Nat} (h : dk K nb c k < 0) : dk K nb c k = -1 ∧ dk K nb c (k + 1) = if K (nb k) < K c then ((nb k : Nat) : Int) else -1 := by
  cases k with
  | zero => exact ⟨rfl, rfl⟩
  | succ k =>
    have h1 : ¬ K (bst K nb k) < K c := fun q => by
      have h2 : (if K (bst K nb k) < K c then ((bst K nb k : Nat) : Int) else -1) < 0 := h
      rw [if_pos q] at h2
      omega
    refine ⟨if_neg h1, ?_⟩
    show (if K (bst K nb (k + 1)) < K c then ((bst K nb (k + 1) : Nat) : Int) else -1) = _
    rw [bst_next]
    by_cases q : lt2 K (nb (k + 1)) (bst K nb k) = true
    · rw [if_pos q]
    · rw [if_neg q, if_neg h1, if_neg]
      intro q2
      exact q (lt2_iff.2 (.inl (by omega)))
theorem dk_yes {K nb : Nat → Nat} {c k m : Nat} (h : dk K nb c k = (m : Nat)) : (∃ s, s < k ∧ nb s = m) ∧ K m < K c ∧ dk K nb c (k + 1) = if lt2 K (nb k) m = true then ((nb k : Nat) : Int) else ((m : Nat) : Int) := by
  cases k with
  | zero => have h2 : (-1 : Int) = (m : Nat) := h; omega
  | succ k =>
    have h1 : K (bst K nb k) < K c := by
      rcases Nat.lt_or_ge (K (bst K nb k)) (K c) with q | q
      · exact q
      · have h2 : (if K (bst K nb k) < K c then ((bst K nb k : Nat) : Int) else -1) = (m : Nat) := h
        rw [if_neg (by omega)] at h2
        omega
    have h2 : bst K nb k = m := by
      have h2 : (if K (bst K nb k) < K c then ((bst K nb k : Nat) : Int) else -1) = (m : Nat) := h
      rw [if_pos h1] at h2
      omega
    obtain ⟨s, l, e⟩ := bst_in K nb k
    rw [h2] at h1 e
    refine ⟨⟨s, by omega, e.symm⟩, h1, ?_⟩
    show (if K (bst K nb (k + 1)) < K c then ((bst K nb (k + 1) : Nat) : Int) else -1) = _
    rw [bst_next, h2]
    by_cases q : lt2 K (nb (k + 1)) m = true
    · rw [if_pos q, if_pos q, if_pos]
      rcases lt2_iff.1 q with q | q <;> omega
    · rw [if_neg q, if_neg q, if_pos h1]
/-- the bed that is least so far -/
def lk (B nb : Nat → Nat) (c k : Nat) : Nat := if dk (kB B) nb c k < 0 then B c else B (dk (kB B) nb c k).toNat
set_option maxRecDepth 100000 in
set_option maxHeartbeats 16000000 in
theorem compare19_at (a b : Nat) (w : World) (ha : a < 18446744073709551616) (hb : b < 18446744073709551616) :
    Calls Tryz.prog 41 #[.float .f64 a, .float .f64 b] w fun e w' => e = .returned (.int .i64 (cmp3 a b)) ∧ w' = w := by
  obtain ⟨x, hx⟩ : ∃ x, canonB a = x := ⟨_, rfl⟩
  obtain ⟨y, hy⟩ : ∃ x, canonB b = x := ⟨_, rfl⟩
  have C1 := hid (canon_at a x w ha hx)
  have C2 := hid (canon_at b y w hb hy)
  have lx : x < 18446744073709551616 := by rw [← hx]; exact canon_lt ha
  have ly : y < 18446744073709551616 := by rw [← hy]; exact canon_lt hb
  obtain ⟨o, ho⟩ : ∃ o, orderB x y = o := ⟨_, rfl⟩
  have O := hid (ord_at x y o w lx ly ho)
  have E : Hid (cmp3 a b = o) := by
    show _ = _
    unfold cmp3 kb
    rw [hx, hy, ← ho]
    rfl
  clear ho hx hy ha hb lx ly
  go_enter Tryz.func41, Tryz.ntmps41
  go_wp2_with fail
  refine C1.out.mono ?_
  rintro e9 v9 ⟨rfl, hv9⟩
  have hv8 := hv9.symm
  subst hv8
  go_wp2_with fail
  refine C2.out.mono ?_
  rintro e9 v9 ⟨rfl, hv9⟩
  have hv8 := hv9.symm
  subst hv8
  go_wp2_with fail
  refine O.out.mono ?_
  rintro e9 v9 ⟨rfl, hv9⟩
  have hv8 := hv9.symm
  subst hv8
  go_wp2
  go_ret
  exact ⟨by rw [E.out]; rfl, rfl⟩
theorem around19 {n gb c s : Nat} {v : World} (hn : 1 ≤ n ∧ n ≤ 32) (hc : c < 6 * n * n) (hs : s < 4) (g : GridOf n gb v) : Calls Tryz.prog 69 #[.pointer (some ⟨gb, 0, none⟩), .int .i64 (c : Nat), .int .i64 (s : Nat)] v fun e w' => e = .returned (.tuple #[.int .i64 (eE n (4 * c + s) : Nat), .int .i64 (eS n (4 * c + s))]) ∧ Below v.heap.size v w' := by
  have e : gT n (24 * n * n) (c : Nat) (s : Nat) = (((eE n (4 * c + s) : Nat) : Int), eS n (4 * c + s)) := by
    have ht := t_lt hc hs
    have hm := mt_lt hn.1 ht
    rw [gT_nat, if_pos ⟨hc, hs⟩]
    unfold gN eE eS
    by_cases q : isL n (4 * c + s) = true
    · simp [q, ht]
    · simp [q, hm]
  have b : c < 6144 := by
    have h1 : n * n ≤ 32 * 32 := Nat.mul_le_mul hn.2 hn.2
    rw [Nat.mul_assoc] at hc
    omega
  have h := gAround_at (n := n) (gb := gb) (c := (c : Nat)) (s := (s : Nat)) (w := v) ⟨by omega, by omega⟩ ⟨by omega, by omega⟩ g
  rwa [e] at h
set_option maxRecDepth 100000 in
set_option maxHeartbeats 16000000 in
theorem beside_pos (gb e l s r q : Nat) (cell over : Int) (w : World)
    (AR : Hid (∀ v, Ab w v → Calls Tryz.prog 69 #[.pointer (some ⟨gb, 0, none⟩), .int .i64 cell, .int .i64 over] v fun e9 w' => e9 = .returned (.tuple #[.int .i64 (e : Nat), .int .i64 (1)]) ∧ Below v.heap.size v w'))
    (ED : Hid (∀ v, Ab w v → Calls Tryz.prog 70 #[.pointer (some ⟨gb, 0, none⟩), .int .i64 (e : Nat)] v fun e9 w' => e9 = .returned (.tuple #[.agg #[.int .i64 (l : Nat), .int .i64 (s : Nat), .int .i64 (r : Nat), .int .i64 (q : Nat)], .bool true]) ∧ Below v.heap.size v w')) :
    Calls Tryz.prog 40 #[.pointer (some ⟨gb, 0, none⟩), .int .i64 cell, .int .i64 over] w fun e9 w' => e9 = .returned (.int .i64 (r : Nat)) ∧ Below w.heap.size w w' := by
  go_enter Tryz.func40, Tryz.ntmps40
  go_wp2_with fail
  refine (AR.out _ (Ab.refl w)).mono ?_
  rintro e9 v1 ⟨rfl, b1⟩
  have A1 : Hid (Ab w v1) := b1
  clear b1
  go_wp2_with fail
  refine (ED.out _ A1.out).mono ?_
  rintro e9 v2 ⟨rfl, b2⟩
  have A2 : Hid (Ab w v2) := A1.out.trans b2
  clear b2
  have A3 : Hid (Ab w (v2.alloc (.cells #[.int .i64 0, .int .i64 0, .int .i64 0, .int .i64 0] 102))) := A2.out.trans (bl1 _ _)
  have c0 : (v2.alloc (.cells #[.int .i64 (l : Nat), .int .i64 (s : Nat), .int .i64 (r : Nat), .int .i64 (q : Nat)] 102)).cell? ⟨v2.heap.size, 0, none⟩ = some (.int .i64 (l : Nat)) := cell_of_row _ _ 0 _ _ _ (heap_alloc_new _ _)
  have c2 : (v2.alloc (.cells #[.int .i64 (l : Nat), .int .i64 (s : Nat), .int .i64 (r : Nat), .int .i64 (q : Nat)] 102)).cell? ⟨v2.heap.size, 2, none⟩ = some (.int .i64 (r : Nat)) := cell_of_row _ _ 2 _ _ _ (heap_alloc_new _ _)
  go_wp2
  go_ret
  exact ⟨rfl, A2.out.trans (bl1 _ _)⟩
set_option maxRecDepth 100000 in
set_option maxHeartbeats 16000000 in
theorem beside_neg (gb e l s r q : Nat) (cell over : Int) (w : World)
    (AR : Hid (∀ v, Ab w v → Calls Tryz.prog 69 #[.pointer (some ⟨gb, 0, none⟩), .int .i64 cell, .int .i64 over] v fun e9 w' => e9 = .returned (.tuple #[.int .i64 (e : Nat), .int .i64 (-1)]) ∧ Below v.heap.size v w'))
    (ED : Hid (∀ v, Ab w v → Calls Tryz.prog 70 #[.pointer (some ⟨gb, 0, none⟩), .int .i64 (e : Nat)] v fun e9 w' => e9 = .returned (.tuple #[.agg #[.int .i64 (l : Nat), .int .i64 (s : Nat), .int .i64 (r : Nat), .int .i64 (q : Nat)], .bool true]) ∧ Below v.heap.size v w')) :
    Calls Tryz.prog 40 #[.pointer (some ⟨gb, 0, none⟩), .int .i64 cell, .int .i64 over] w fun e9 w' => e9 = .returned (.int .i64 (l : Nat)) ∧ Below w.heap.size w w' := by
  go_enter Tryz.func40, Tryz.ntmps40
  go_wp2_with fail
  refine (AR.out _ (Ab.refl w)).mono ?_
  rintro e9 v1 ⟨rfl, b1⟩
  have A1 : Hid (Ab w v1) := b1
  clear b1
  go_wp2_with fail
  refine (ED.out _ A1.out).mono ?_
  rintro e9 v2 ⟨rfl, b2⟩
  have A2 : Hid (Ab w v2) := A1.out.trans b2
  clear b2
  have A3 : Hid (Ab w (v2.alloc (.cells #[.int .i64 0, .int .i64 0, .int .i64 0, .int .i64 0] 102))) := A2.out.trans (bl1 _ _)
  have c0 : (v2.alloc (.cells #[.int .i64 (l : Nat), .int .i64 (s : Nat), .int .i64 (r : Nat), .int .i64 (q : Nat)] 102)).cell? ⟨v2.heap.size, 0, none⟩ = some (.int .i64 (l : Nat)) := cell_of_row _ _ 0 _ _ _ (heap_alloc_new _ _)
  have c2 : (v2.alloc (.cells #[.int .i64 (l : Nat), .int .i64 (s : Nat), .int .i64 (r : Nat), .int .i64 (q : Nat)] 102)).cell? ⟨v2.heap.size, 2, none⟩ = some (.int .i64 (r : Nat)) := cell_of_row _ _ 2 _ _ _ (heap_alloc_new _ _)
  go_wp2
  go_ret
  exact ⟨rfl, A2.out.trans (bl1 _ _)⟩
/-- the cell over a side -/
theorem beside19_at (n gb c s : Nat) (w : World) (hn : 1 ≤ n ∧ n ≤ 32) (hc : c < 6 * n * n) (hs : s < 4) (g : GridOf n gb w) :
    Calls Tryz.prog 40 #[.pointer (some ⟨gb, 0, none⟩), .int .i64 (c : Nat), .int .i64 (s : Nat)] w fun e9 w' => e9 = .returned (.int .i64 (bsC n c s : Nat)) ∧ Below w.heap.size w w' := by
  have ht : 4 * c + s < 24 * n * n := t_lt hc hs
  have hm := mt_lt hn.1 ht
  have e1 : (4 * c + s) / 4 = c := by omega
  have e2 : (4 * c + s) % 4 = s := by omega
  have ar := fun v (a : Ab w v) => around19 (v := v) hn hc hs (g.to a)
  by_cases q : isL n (4 * c + s) = true
  · have ee : eE n (4 * c + s) = eN n (4 * c + s) := by unfold eE; rw [if_pos q]
    have es : eS n (4 * c + s) = 1 := by unfold eS; rw [if_pos q]
    rw [ee, es] at ar
    have ed := fun v (a : Ab w v) => gEdge_ok (w := v) hn ht q (g.to a)
    rw [e1, e2] at ed
    exact beside_pos gb _ _ _ _ _ _ _ w ar ed
  · have ee : eE n (4 * c + s) = eN n (mt n (4 * c + s)) := by unfold eE; rw [if_neg q]
    have es : eS n (4 * c + s) = -1 := by unfold eS; rw [if_neg q]
    rw [ee, es] at ar
    have q2 : isL n (mt n (4 * c + s)) = true := by rw [isL_mt hn.1 ht]; simpa using q
    have ed := fun v (a : Ab w v) => gEdge_ok (w := v) hn hm q2 (g.to a)
    have d := (mt_dec hn.1 ht).1
    rw [e1, e2] at d
    rw [d] at ed
    exact beside_neg gb _ _ _ _ _ _ _ w ar ed
set_option maxRecDepth 100000 in
set_option maxHeartbeats 16000000 in
theorem down_len (n gb : Nat) (pb : Option Addr) (lb cb : Nat) (cell : Int) (w : World) (g : GridOf n gb w) (hl : lb ≠ 6 * n * n) :
    Calls Tryz.prog 12 #[.pointer (some ⟨gb, 0, none⟩), .slice pb lb cb, .int .i64 cell] w fun e w' => e = .returned (.int .i64 (-1)) ∧ Below w.heap.size w w' := by
  have CC := hid (gCells_at g)
  generalize 6 * n * n = N at *
  have e1 : ((lb : Int) != (N : Int)) = true := by simp; omega
  clear hl g
  go_enter Tryz.func12, Tryz.ntmps12
  go_wp2_with fail
  refine CC.out.mono ?_
  rintro e9 v9 ⟨rfl, hv9⟩
  have hv8 := hv9.symm
  subst hv8
  go_wp2
  go_ret
  exact ⟨rfl, Below.refl _ _⟩
set_option maxRecDepth 100000 in
set_option maxHeartbeats 16000000 in
theorem down_out (n gb : Nat) (pb : Option Addr) (lb cb : Nat) (cell : Int) (w : World) (g : GridOf n gb w) (hl : lb = 6 * n * n) (hc : ¬ (0 ≤ cell ∧ cell < (lb : Nat))) :
    Calls Tryz.prog 12 #[.pointer (some ⟨gb, 0, none⟩), .slice pb lb cb, .int .i64 cell] w fun e w' => e = .returned (.int .i64 (-1)) ∧ Below w.heap.size w w' := by
  have CC := hid (gCells_at g)
  rw [← hl] at CC
  have e1 : ((lb : Int) != (lb : Int)) = false := by simp
  clear hl g
  by_cases c0 : cell < 0
  · have e2 : decide (cell < 0) = true := decide_eq_true c0
    clear hc c0
    go_enter Tryz.func12, Tryz.ntmps12
    go_wp2_with fail
    refine CC.out.mono ?_
    rintro e9 v9 ⟨rfl, hv9⟩
    have hv8 := hv9.symm
    subst hv8
    go_wp2
    go_ret
    exact ⟨rfl, Below.refl _ _⟩
  · have e2 : decide (cell < 0) = false := decide_eq_false c0
    have e3 : decide ((lb : Int) ≤ cell) = true := decide_eq_true (by omega)
    clear hc c0
    go_enter Tryz.func12, Tryz.ntmps12
    go_wp2_with fail
    refine CC.out.mono ?_
    rintro e9 v9 ⟨rfl, hv9⟩
    have hv8 := hv9.symm
    subst hv8
    go_wp2
    go_ret
    exact ⟨rfl, Below.refl _ _⟩
set_option maxRecDepth 100000 in
set_option maxHeartbeats 16000000 in
theorem down_go (N gb : Nat) (qb ob : Nat) (cb : Nat) (B : Nat → Nat) (nb : Nat → Nat) (c : Nat) (w : World) (hN : N ≤ 6144) (hc : c < N) (IB : Hid (IsFl w (some ⟨qb, ob, none⟩) N B))
    (CC : Hid (Calls Tryz.prog 13 #[.pointer (some ⟨gb, 0, none⟩)] w fun e w' => e = .returned (.int .i64 (N : Nat)) ∧ w' = w))
    (BS : Hid (∀ v s, Ab w v → s < 4 → Calls Tryz.prog 40 #[.pointer (some ⟨gb, 0, none⟩), .int .i64 (c : Nat), .int .i64 (s : Nat)] v fun e w' => e = .returned (.int .i64 (nb s : Nat)) ∧ Below v.heap.size v w'))
    (NL : Hid (∀ s, s < 4 → nb s < N)) :
    Calls Tryz.prog 12 #[.pointer (some ⟨gb, 0, none⟩), .slice (some ⟨qb, ob, none⟩) N cb, .int .i64 (c : Nat)] w fun e w' => e = .returned (.int .i64 (dnI (kB B) nb c)) ∧ Below w.heap.size w w' := by
  have e1 : ((N : Int) != (N : Int)) = false := by simp
  have e2 : decide ((c : Int) < 0) = false := decide_eq_false (by omega)
  have e3 : decide ((N : Int) ≤ (c : Int)) = false := decide_eq_false (by omega)
  have e4 : decide (N ≤ c) = false := decide_eq_false (by omega)
  have HN := hid hN
  have HC := hid hc
  have cI : (c : Int) < N := by omega
  have cB : (c : Int) ≤ 6144 := by omega
  obtain ⟨xc, hxc⟩ : ∃ x, B c = x := ⟨_, rfl⟩
  have XCC := hid hxc
  have XC0 : Hid (∀ v, Ab w v → v.cell? ⟨qb, ob + c, none⟩ = some (.float .f64 xc)) := fun v a => by rw [← hxc]; exact ((IB.out.below a).at0 hc).2.2
  clear hN hc hxc
  go_enter Tryz.func12, Tryz.ntmps12
  go_wp2_with fail
  refine CC.out.mono ?_
  rintro e9 v9 ⟨rfl, hv9⟩
  have hv8 := hv9.symm
  subst hv8
  go_upto_region 3 with fail
  obtain ⟨UU, E, hF1, hF2⟩ := cls w
  have HU := hid hF2
  have HU1 := hid hF1
  have y1 : ∀ u, (E u).cell? ⟨qb, ob + c, none⟩ = some (.float .f64 xc) := fun u => XC0.out _ (hF1 u)
  have DD0 := HU.out _ (Ab.refl w).drew
  clear hF1 hF2
  refine region_cls E (by kernel_rfl) (by kernel_rfl) DD0 ?_
  repeat (go_big_quiet_step (with_reducible rfl))
  refine wpQuiet_nil ?_
  intro v0 hwz
  obtain ⟨u0, hu⟩ := hwz
  have A0 : Hid (Ab w v0) := by rw [hu]; exact HU1.out u0
  clear hu u0
  clear HU HU1 DD0 y1
  clear E UU
  go_wp2
  go_loopw [7, 8, 35] (fun bv lv iv wr => ∃ k : Nat, k ≤ 4 ∧ iv = .int .i64 (k : Nat) ∧ bv = .int .i64 (dk (kB B) nb c k) ∧ lv = .float .f64 (lk B nb c k) ∧ Ab w wr) (fun _ _ iv _ => 4 - (intOf iv).toNat)
  case atStart => exact ⟨0, by omega, rfl, rfl, by rw [← XCC.out]; rfl, A0.out⟩
  case round =>
    obtain ⟨k, hk, rfl, rfl, rfl, ar⟩ := hrel
    have AR := hid ar
    clear ar
    by_cases hk4 : k < 4
    · have HK := hid hk4
      have kI : (k : Int) < 4 := by omega
      obtain ⟨cc, hcc⟩ : ∃ x, nb k = x := ⟨_, rfl⟩
      have ccl := NL.out k hk4
      rw [hcc] at ccl
      have HCC := hid hcc
      have CL := hid ccl
      have BB := hid (BS.out wr k AR.out hk4)
      rw [hcc] at BB
      obtain ⟨x, hx⟩ : ∃ x, B cc = x := ⟨_, rfl⟩
      have XC : Hid (∀ v, Ab w v → v.cell? ⟨qb, ob + cc, none⟩ = some (.float .f64 x)) := fun v a => by rw [← hx]; exact ((IB.out.below a).at0 ccl).2.2
      have xl : x < 18446744073709551616 := by rw [← hx]; exact (IB.out cc ccl).1
      have HX := hid hx
      have ccI : (cc : Int) < N := by omega
      have ccB : (cc : Int) ≤ 6144 := by have := HN.out; omega
      by_cases q0 : dk (kB B) nb c k < 0
      · obtain ⟨g1, g2⟩ := dk_no q0
        have el : lk B nb c k = xc := by unfold lk; rw [if_pos q0]; exact XCC.out
        have DN : Hid (dk (kB B) nb c (k + 1) = if kb x < kb xc then ((cc : Nat) : Int) else -1) := by
          show _ = _
          rw [g2, hcc]
          unfold kB
          rw [hx, XCC.out]
        rw [g1, el]
        have yl : xc < 18446744073709551616 := by rw [← XCC.out]; exact (IB.out c HC.out).1
        have CM := hid (fun v => compare19_at x xc v xl yl)
        have b0 : decide ((cc : Int) < -1) = false := decide_eq_false (by omega)
        clear hcc hx ccl xl yl q0 g1 g2 el hk hk4
        by_cases d1 : kb x < kb xc
        · have DQ : Hid (dk (kB B) nb c (k + 1) = ((cc : Nat) : Int)) := by show _ = _; rw [DN.out, if_pos d1]
          have LQ : Hid (lk B nb c (k + 1) = x) := by show _ = _; unfold lk; rw [DQ.out, if_neg (by omega), Int.toNat_natCast]; exact HX.out
          rw [cmp3_lt d1] at CM
          clear d1
          go_wp2_with fail
          refine BB.out.mono ?_
          rintro e9 v1 ⟨rfl, b1⟩
          have A1 : Hid (Ab w v1) := AR.out.trans b1
          clear b1
          have z1 := XC.out _ A1.out
          go_wp2_with fail
          refine (CM.out _).mono ?_
          rintro e9 v9 ⟨rfl, hv9⟩
          have hv8 := hv9.symm
          subst hv8
          clear z1
          go_upto_region 10 with fail
          obtain ⟨UU, E, hF1, hF2⟩ := cls v1
          have HU := hid hF2
          have HU1 := hid hF1
          have y1 : ∀ u, (E u).cell? ⟨qb, ob + cc, none⟩ = some (.float .f64 x) := fun u => XC.out _ (A1.out.trans (hF1 u))
          have DD0 := HU.out _ (Ab.refl v1).drew
          clear hF1 hF2
          refine region_cls E (by kernel_rfl) (by kernel_rfl) DD0 ?_
          repeat (go_big_quiet_step (with_reducible rfl))
          refine wpQuiet_nil ?_
          intro v2 hwz
          obtain ⟨u0, hu⟩ := hwz
          have A2 : Hid (Ab v1 v2) := by rw [hu]; exact HU1.out u0
          clear hu u0
          clear HU HU1 DD0 y1
          clear E UU
          go_wp2
          exact ⟨⟨k + 1, by have := HK.out; omega, by simp, by rw [DQ.out], by rw [LQ.out], A1.out.trans A2.out⟩, by have := HK.out; simp [intOf]; omega⟩
        · have DQ : Hid (dk (kB B) nb c (k + 1) = -1) := by show _ = _; rw [DN.out, if_neg d1]
          have LQ : Hid (lk B nb c (k + 1) = xc) := by show _ = _; unfold lk; rw [DQ.out, if_pos (by decide)]; exact XCC.out
          by_cases d2 : kb xc < kb x
          · rw [cmp3_gt d2] at CM
            clear d1 d2
            go_wp2_with fail
            refine BB.out.mono ?_
            rintro e9 v1 ⟨rfl, b1⟩
            have A1 : Hid (Ab w v1) := AR.out.trans b1
            clear b1
            have z1 := XC.out _ A1.out
            go_wp2_with fail
            refine (CM.out _).mono ?_
            rintro e9 v9 ⟨rfl, hv9⟩
            have hv8 := hv9.symm
            subst hv8
            clear z1
            go_wp2
            exact ⟨⟨k + 1, by have := HK.out; omega, by simp, by rw [DQ.out], by rw [LQ.out], A1.out⟩, by have := HK.out; simp [intOf]; omega⟩
          · rw [cmp3_eq (show kb x = kb xc by omega)] at CM
            clear d1 d2
            go_wp2_with fail
            refine BB.out.mono ?_
            rintro e9 v1 ⟨rfl, b1⟩
            have A1 : Hid (Ab w v1) := AR.out.trans b1
            clear b1
            have z1 := XC.out _ A1.out
            go_wp2_with fail
            refine (CM.out _).mono ?_
            rintro e9 v9 ⟨rfl, hv9⟩
            have hv8 := hv9.symm
            subst hv8
            clear z1
            go_wp2
            exact ⟨⟨k + 1, by have := HK.out; omega, by simp, by rw [DQ.out], by rw [LQ.out], A1.out⟩, by have := HK.out; simp [intOf]; omega⟩
      · obtain ⟨m, hm⟩ : ∃ m : Nat, dk (kB B) nb c k = (m : Nat) := ⟨(dk (kB B) nb c k).toNat, by omega⟩
        obtain ⟨⟨s, s1, s2⟩, -, g3⟩ := dk_yes hm
        have ml : m < N := by rw [← s2]; exact NL.out s (by omega)
        obtain ⟨y, hy⟩ : ∃ x, B m = x := ⟨_, rfl⟩
        have el : lk B nb c k = y := by unfold lk; rw [if_neg q0, hm, Int.toNat_natCast]; exact hy
        have LT : Hid (lt2 (kB B) cc m = (decide (kb x < kb y) || (decide (kb x = kb y) && decide (cc < m)))) := by show lt2 _ _ _ = _; unfold lt2 kB; rw [hx, hy]
        have DN : Hid (dk (kB B) nb c (k + 1) = if lt2 (kB B) cc m = true then ((cc : Nat) : Int) else ((m : Nat) : Int)) := by
          show _ = _
          rw [g3, hcc]
        have HY := hid hy
        rw [hm, el]
        have yl : y < 18446744073709551616 := by rw [← hy]; exact (IB.out m ml).1
        have CM := hid (fun v => compare19_at x y v xl yl)
        have mI : (m : Int) < N := by omega
        have mB : (m : Int) ≤ 6144 := by have := HN.out; omega
        have TK : Hid (lt2 (kB B) cc m = true → dk (kB B) nb c (k + 1) = ((cc : Nat) : Int) ∧ lk B nb c (k + 1) = x) := fun h => by
          have e : dk (kB B) nb c (k + 1) = ((cc : Nat) : Int) := by rw [DN.out, if_pos h]
          exact ⟨e, by unfold lk; rw [e, if_neg (by omega), Int.toNat_natCast]; exact HX.out⟩
        have LV : Hid (lt2 (kB B) cc m = false → dk (kB B) nb c (k + 1) = ((m : Nat) : Int) ∧ lk B nb c (k + 1) = y) := fun h => by
          have e : dk (kB B) nb c (k + 1) = ((m : Nat) : Int) := by rw [DN.out, if_neg (by rw [h]; decide)]
          exact ⟨e, by unfold lk; rw [e, if_neg (by omega), Int.toNat_natCast]; exact HY.out⟩
        clear hcc hx hy ccl xl yl q0 g3 el hk hk4 s1 s2 ml hm DN
        by_cases d1 : kb x < kb y
        · have DQ : Hid (dk (kB B) nb c (k + 1) = ((cc : Nat) : Int)) := (TK.out (LT.out.trans (by rw [decide_eq_true d1]; rfl))).1
          have LQ : Hid (lk B nb c (k + 1) = x) := (TK.out (LT.out.trans (by rw [decide_eq_true d1]; rfl))).2
          rw [cmp3_lt d1] at CM
          clear d1 LT TK LV
          go_wp2_with fail
          refine BB.out.mono ?_
          rintro e9 v1 ⟨rfl, b1⟩
          have A1 : Hid (Ab w v1) := AR.out.trans b1
          clear b1
          have z1 := XC.out _ A1.out
          go_wp2_with fail
          refine (CM.out _).mono ?_
          rintro e9 v9 ⟨rfl, hv9⟩
          have hv8 := hv9.symm
          subst hv8
          clear z1
          go_upto_region 10 with fail
          obtain ⟨UU, E, hF1, hF2⟩ := cls v1
          have HU := hid hF2
          have HU1 := hid hF1
          have y1 : ∀ u, (E u).cell? ⟨qb, ob + cc, none⟩ = some (.float .f64 x) := fun u => XC.out _ (A1.out.trans (hF1 u))
          have DD0 := HU.out _ (Ab.refl v1).drew
          clear hF1 hF2
          refine region_cls E (by kernel_rfl) (by kernel_rfl) DD0 ?_
          repeat (go_big_quiet_step (with_reducible rfl))
          refine wpQuiet_nil ?_
          intro v2 hwz
          obtain ⟨u0, hu⟩ := hwz
          have A2 : Hid (Ab v1 v2) := by rw [hu]; exact HU1.out u0
          clear hu u0
          clear HU HU1 DD0 y1
          clear E UU
          go_wp2
          exact ⟨⟨k + 1, by have := HK.out; omega, by simp, by rw [DQ.out], by rw [LQ.out], A1.out.trans A2.out⟩, by have := HK.out; simp [intOf]; omega⟩
        · by_cases d2 : kb y < kb x
          · have lf : lt2 (kB B) cc m = false := LT.out.trans (by rw [decide_eq_false d1, decide_eq_false (show ¬ kb x = kb y by omega)]; rfl)
            have DQ := hid (LV.out lf).1
            have LQ := hid (LV.out lf).2
            rw [cmp3_gt d2] at CM
            clear d1 d2 LT TK LV lf
            go_wp2_with fail
            refine BB.out.mono ?_
            rintro e9 v1 ⟨rfl, b1⟩
            have A1 : Hid (Ab w v1) := AR.out.trans b1
            clear b1
            have z1 := XC.out _ A1.out
            go_wp2_with fail
            refine (CM.out _).mono ?_
            rintro e9 v9 ⟨rfl, hv9⟩
            have hv8 := hv9.symm
            subst hv8
            clear z1
            go_wp2
            exact ⟨⟨k + 1, by have := HK.out; omega, by simp, by rw [DQ.out], by rw [LQ.out], A1.out⟩, by have := HK.out; simp [intOf]; omega⟩
          · have ke : kb x = kb y := by omega
            rw [cmp3_eq ke] at CM
            by_cases d3 : cc < m
            · have d4 : decide ((cc : Int) < (m : Int)) = true := decide_eq_true (by omega)
              have d5 : decide (cc < m) = true := decide_eq_true d3
              have lf : lt2 (kB B) cc m = true := LT.out.trans (by rw [d5, decide_eq_true ke, Bool.and_true, Bool.or_true])
              have DQ := hid (TK.out lf).1
              have LQ := hid (TK.out lf).2
              clear d1 d2 d3 LT TK LV lf ke
              go_wp2_with fail
              refine BB.out.mono ?_
              rintro e9 v1 ⟨rfl, b1⟩
              have A1 : Hid (Ab w v1) := AR.out.trans b1
              clear b1
              have z1 := XC.out _ A1.out
              go_wp2_with fail
              refine (CM.out _).mono ?_
              rintro e9 v9 ⟨rfl, hv9⟩
              have hv8 := hv9.symm
              subst hv8
              clear z1
              go_upto_region 10 with fail
              obtain ⟨UU, E, hF1, hF2⟩ := cls v1
              have HU := hid hF2
              have HU1 := hid hF1
              have y1 : ∀ u, (E u).cell? ⟨qb, ob + cc, none⟩ = some (.float .f64 x) := fun u => XC.out _ (A1.out.trans (hF1 u))
              have DD0 := HU.out _ (Ab.refl v1).drew
              clear hF1 hF2
              refine region_cls E (by kernel_rfl) (by kernel_rfl) DD0 ?_
              repeat (go_big_quiet_step (with_reducible rfl))
              refine wpQuiet_nil ?_
              intro v2 hwz
              obtain ⟨u0, hu⟩ := hwz
              have A2 : Hid (Ab v1 v2) := by rw [hu]; exact HU1.out u0
              clear hu u0
              clear HU HU1 DD0 y1
              clear E UU
              go_wp2
              exact ⟨⟨k + 1, by have := HK.out; omega, by simp, by rw [DQ.out], by rw [LQ.out], A1.out.trans A2.out⟩, by have := HK.out; simp [intOf]; omega⟩
            · have d4 : decide ((cc : Int) < (m : Int)) = false := decide_eq_false (by omega)
              have d5 : decide (cc < m) = false := decide_eq_false d3
              have lf : lt2 (kB B) cc m = false := LT.out.trans (by rw [d5, decide_eq_false d1]; simp)
              have DQ := hid (LV.out lf).1
              have LQ := hid (LV.out lf).2
              clear d1 d2 d3 LT TK LV lf ke
              go_wp2_with fail
              refine BB.out.mono ?_
              rintro e9 v1 ⟨rfl, b1⟩
              have A1 : Hid (Ab w v1) := AR.out.trans b1
              clear b1
              have z1 := XC.out _ A1.out
              go_wp2_with fail
              refine (CM.out _).mono ?_
              rintro e9 v9 ⟨rfl, hv9⟩
              have hv8 := hv9.symm
              subst hv8
              clear z1
              go_wp2
              exact ⟨⟨k + 1, by have := HK.out; omega, by simp, by rw [DQ.out], by rw [LQ.out], A1.out⟩, by have := HK.out; simp [intOf]; omega⟩
    · have k4 : k = 4 := by omega
      subst k4
      go_wp2
      go_ret
      exact ⟨rfl, AR.out⟩
/-- WHAT Down ANSWERS -/
theorem downC : DownC := fun n gb pb lb cb B cell w hn g ib hw => by
  by_cases hl : lb = 6 * n * n
  · by_cases hc : 0 ≤ cell ∧ cell < (lb : Nat)
    · obtain ⟨c, rfl⟩ : ∃ c : Nat, cell = (c : Nat) := ⟨cell.toNat, by omega⟩
      have hc2 : c < lb := by omega
      rw [if_pos ⟨hl, hc.1, by rw [← hl]; exact hc.2⟩, Int.toNat_natCast]
      obtain ⟨qb, ob, rfl⟩ := ib.some0 (show 0 < lb by omega)
      have nb : lb ≤ 6144 := by
        have h1 : n * n ≤ 32 * 32 := Nat.mul_le_mul hn.2 hn.2
        rw [hl, Nat.mul_assoc]
        omega
      have cc := gCells_at g
      rw [← hl] at cc
      exact down_go lb gb qb ob cb B (fun s => bsC n c s) c w nb hc2 ib cc (fun v s a hs => beside19_at n gb c s v hn (by omega) hs (g.to a)) (fun s hs => by rw [hl]; exact bsC_lt hn.1 (by omega) hs)
    · rw [if_neg (by rw [← hl]; exact fun h => hc h.2)]
      exact down_out n gb pb lb cb cell w g hl hc
  · rw [if_neg (fun h => hl h.1)]
    exact down_len n gb pb lb cb cell w g hl
end Rv
end Go.Proofs.YtkckcohemalhiaaGreatDoor

namespace Go.Proofs.YtkckcohemalhiaaGreatDoor
open Go.RowKit Go.Deep
namespace Sh
theorem wpList_zero {ops : Array Oper} {rest : List Oper} {o : Oper} {a : Act} {w : World} {Q : Exit → Act → World → Prop} (hgd : o.guard = none) (s x : Operand)
    (ho : o.op = .call { callee := .builtin .append, args := #[s, x], argTypes := #[23, 23] })
    (g : Nat) (hs : a.eval s = .slice (some ⟨g, 0, none⟩) 0 0) (src : Value) (hx : a.eval x = src) (hsrc : Src Tryz.prog 1 23 src 0 [] w)
    (h : wpList Tryz.prog ops Q rest (a.put o.dst (.slice (some ⟨g, 0, none⟩) 0 0)) w) : wpList Tryz.prog ops Q (o :: rest) a w := by
  obtain ⟨i0, hi, hz0, hz1, hz2⟩ := info_i
  refine wpList_plain hgd fun _ hK => ?_
  have hr := run_append_room_src (P := Tryz.prog) w 23 23 o.type 2 i0 Tryz.underlying23 hi g 0 0 0 src 0 [] (by rw [hz1]; exact hsrc) (Nat.le_refl _) (fun j hj => absurd hj (Nat.not_lt_zero j)) (fun j hj => absurd hj (Nat.not_lt_zero j))
  unfold Oper.wp execOp
  simp only [ho, resolve, invoke, builtin, Sem.run_bind, Sem.run_pure, Result.andThen_ok, List.map_toArray, List.map_cons, List.map_nil, hs, hx, hr]
  exact hK _ _ h
theorem news_in {w : World} {b o N : Nat} {D : Nat → Int} (h : IsI w (some ⟨b, o, none⟩) N D) : ∀ j u, (((List.range N).map D).map (Value.int .i64))[j]? = some u → w.cell? ((⟨b, o, none⟩ : Addr).add j) = some u := fun j u hu => by
  have hj : j < N := by
    rcases Nat.lt_or_ge j N with h1 | h1
    · exact h1
    · rw [List.getElem?_eq_none (by simpa using h1)] at hu; cases hu
  simp [hj] at hu
  rw [add_off, ← hu]
  exact (h.at0 hj).2.2
end Sh
end Go.Proofs.YtkckcohemalhiaaGreatDoor
