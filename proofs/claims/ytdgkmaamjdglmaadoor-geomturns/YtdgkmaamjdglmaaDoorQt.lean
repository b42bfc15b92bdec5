/-
  All faces are alike: the walk.
-/
import Derived.Test.YtdgkmaamjdglmaaDoorQf
namespace Go.Proofs.YtdgkmaamjdglmaaDoor
open Go.RowKit Tf Cu
attribute [local go_sem] run_bits run_from raw_feq raw_fne raw_flt raw_fgt run_neg run_store_float
set_option maxRecDepth 100000 in
set_option maxHeartbeats 8000000 in
theorem geomTurns_walk (a b o u : Int) (w : World) (h : Fr w) :
    Calls Tryd.prog 4 #[.int .i64 a, .int .i64 b, .int .i64 o, .int .i64 u] w fun e w' => e = .returned (.bool true) ∧ Below w.heap.size w w' := by
  obtain ⟨n, c, hn, hc, N⟩ := net8_at a b
  have NE := hid N
  clear N
  obtain ⟨y1, hy1⟩ : ∃ y, o % 18446744073709551616 = y := ⟨_, rfl⟩
  have y01 : 0 ≤ y1 ∧ y1 < 18446744073709551616 := by omega
  obtain ⟨s, hs⟩ : ∃ c : Nat, y1 % 4 = c := ⟨(y1 % 4).toNat, by omega⟩
  have ls : s < 4 := by omega
  have lsi : (s : Int) < 4 := by omega
  have ew1 : IntKind.u64.wrap o = y1 := by rw [IntKind.wrap_u64, hy1]
  have et1 : y1.tmod 4 = s := by rw [Int.tmod_eq_emod_of_nonneg y01.1, hs]
  clear hy1 hs
  obtain ⟨y2, hy2⟩ : ∃ y, u % 18446744073709551616 = y := ⟨_, rfl⟩
  have y02 : 0 ≤ y2 ∧ y2 < 18446744073709551616 := by omega
  obtain ⟨t, ht⟩ : ∃ c : Nat, y2 % 24 = c := ⟨(y2 % 24).toNat, by omega⟩
  have lt : t < 24 := by omega
  have lti : (t : Int) < 24 := by omega
  have ew2 : IntKind.u64.wrap u = y2 := by rw [IntKind.wrap_u64, hy2]
  have et2 : y2.tmod 24 = t := by rw [Int.tmod_eq_emod_of_nonneg y02.1, ht]
  clear hy2 ht
  obtain ⟨td, htd⟩ : ∃ x, tnC n t c = x := ⟨_, rfl⟩
  obtain ⟨q, hq⟩ : ∃ x, tnS n t c = x := ⟨_, rfl⟩
  have T0 := (turned_geo (k := c) hn.1 rfl hc ls lt hc).1
  rw [htd, hq] at T0
  obtain ⟨s', hs'⟩ : ∃ x, (s + q) % 4 = x := ⟨_, rfl⟩
  have ls' : s' < 4 := by omega
  have qi : (q : Int) < 4 := by omega
  have ls'i : (s' : Int) < 4 := by omega
  have es : IntKind.u64.wrap ((s : Int) + q) = s + q := by rw [IntKind.wrap_u64]; omega
  have et : ((s : Int) + q).tmod 4 = s' := by rw [Int.tmod_eq_emod_of_nonneg (by omega), ← hs']; omega
  have eA := area_turn hn.1 hn.2 hc lt (by rw [htd]; exact T0.1)
  have eL := len_turn hn.1 hn.2 hc ls lt (by rw [htd]; exact T0.1)
  have eG := gap_turn hn.1 hn.2 hc ls lt
  rw [htd] at eA
  rw [htd, hq, hs'] at eL eG
  have AWK := hid (awake8_at w h)
  have TU : Hid (∀ v, Ab w v → Calls Tryd.prog 17 #[.int .i64 n, .int .i64 t, .int .i64 c] v fun e w' => e = .returned (.tuple #[.int .i64 td, .int .i64 q]) ∧ Below v.heap.size v w') := fun v hv => by
    rw [← htd, ← hq]; exact turn_at n t c v hn hc lt (h.to hv)
  have A1 := hid (fun v => area_ok n c v hn hc)
  have A2 := hid (fun v => area_ok n td v hn T0.1)
  have L1 := hid (fun v => len_ok n c s v hn hc ls)
  have L2 := hid (fun v => len_ok n td s' v hn T0.1 ls')
  have G1 := hid (fun v (hv : Ab w v) => gap_ok n c s v hn hc ls (h.to hv))
  have G2 := hid (fun v (hv : Ab w v) => gap_ok n td s' v hn T0.1 ls' (h.to hv))
  rw [eA] at A2
  rw [eL] at L2
  rw [eG] at G2
  generalize arI (ArC n c) = A at *
  generalize LnC n c s = L at *
  generalize GpC n c s = G at *
  have SL := hid (fun v => rawSame_any L L v)
  have SG := hid (fun v => rawSame_any G G v)
  rw [sameB_eq rfl] at SL
  rw [sameB_eq rfl] at SG
  clear h hn hc htd hq T0 hs' ls' eA eL eG ls lt
  go_enter Tryd.func4, Tryd.ntmps4
  go_wp2_with fail
  refine (AWK.out).mono ?_
  rintro e v1 ⟨rfl, b1⟩
  have B1 : Hid (Ab w v1) := b1
  go_wp2_with fail
  refine (NE.out _).mono ?_
  rintro e v2 ⟨rfl, k2, rfl⟩
  have B2 : Hid (Ab w (v1.drewN k2)) := Ab.drewN b1 _
  clear b1
  go_wp2_with fail
  refine (TU.out _ B2.out).mono ?_
  rintro e v3 ⟨rfl, b3⟩
  have B3 : Hid (Ab w v3) := B2.out.call b3
  clear b3
  go_wp2_with fail
  refine (A1.out _).mono ?_
  rintro e v4 ⟨rfl, b4⟩
  have B4 : Hid (Ab w v4) := B3.out.call b4
  clear b4
  go_wp2_with fail
  refine (A2.out _).mono ?_
  rintro e v5 ⟨rfl, b5⟩
  have B5 : Hid (Ab w v5) := B4.out.call b5
  clear b5
  go_wp2_with fail
  refine (L1.out _).mono ?_
  rintro e v6 ⟨rfl, b6⟩
  have B6 : Hid (Ab w v6) := B5.out.call b6
  clear b6
  go_wp2_with fail
  refine (L2.out _).mono ?_
  rintro e v7 ⟨rfl, b7⟩
  have B7 : Hid (Ab w v7) := B6.out.call b7
  clear b7
  go_wp2_with fail
  refine (SL.out _).mono ?_
  rintro e v8 ⟨rfl, rfl⟩
  go_wp2_with fail
  refine (G1.out _ B7.out).mono ?_
  rintro e v8 ⟨rfl, b8⟩
  have B8 : Hid (Ab w v8) := B7.out.call b8
  clear b8
  go_wp2_with fail
  refine (G2.out _ B8.out).mono ?_
  rintro e v9 ⟨rfl, b9⟩
  have B9 : Hid (Ab w v9) := B8.out.call b9
  clear b9
  go_wp2_with fail
  refine (SG.out _).mono ?_
  rintro e v10 ⟨rfl, rfl⟩
  go_wp2
  go_ret
  exact ⟨rfl, B9.out⟩
end Go.Proofs.YtdgkmaamjdglmaaDoor
