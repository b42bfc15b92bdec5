/-
  Some of the texts of this proof, one behind the other.
-/
import Derived.Deep.QuietTactic
import Derived.Test.YtbdjbhdbegiipaaDoorS11
namespace Go.Proofs.YtbdjbhdbegiipaaDoor
open Go.RowKit Tf Cu Go.Deep
attribute [local go_sem] run_bits run_from raw_feq raw_fne raw_flt raw_fgt run_neg run_store_float
theorem fgt_no {x : Nat} (h : flt x 0 = true) : fgt x 0 = false := by
  unfold flt at h
  unfold fgt
  cases e : Ieee.double.order x 0 with
  | none => rfl
  | some o => rw [e] at h; cases o <;> first | rfl | cases h
set_option maxRecDepth 100000 in
set_option maxHeartbeats 16000000 in
theorem fsig_go (U D Lg T more nu : Nat) (q r : Int) (pD pL pT nU nM gU lU m fD fL fT : Bool) (w : World) (hnu : Op.negFloat .f64 U = nu) (q1 : q ≤ 4503599627370496) (q2 : -4503599627370496 ≤ q)
    (LV : Hid (∀ v, Ab w v → Calls Tryd.prog 6 #[] v fun e w' => e = .returned (.bool true) ∧ Below v.heap.size v w'))
    (Q0 : Hid (∀ v : World, Calls Tryd.prog 7 #[.float .f64 U, .float .f64 D, .float .f64 Lg, .float .f64 T] v fun e w' => e = .returned (.int .i64 q) ∧ Below v.heap.size v w')) (QN : Hid (∀ v : World, Calls Tryd.prog 7 #[.float .f64 nu, .float .f64 D, .float .f64 Lg, .float .f64 T] v fun e w' => e = .returned (.int .i64 (-q)) ∧ Below v.heap.size v w')) (Z1 : Hid (∀ v : World, Calls Tryd.prog 7 #[.float .f64 0, .float .f64 D, .float .f64 Lg, .float .f64 T] v fun e w' => e = .returned (.int .i64 0) ∧ Below v.heap.size v w')) (Z2 : Hid (∀ v : World, Calls Tryd.prog 7 #[.float .f64 U, .float .f64 0, .float .f64 Lg, .float .f64 T] v fun e w' => e = .returned (.int .i64 0) ∧ Below v.heap.size v w')) (Z3 : Hid (∀ v : World, Calls Tryd.prog 7 #[.float .f64 U, .float .f64 D, .float .f64 Lg, .float .f64 0] v fun e w' => e = .returned (.int .i64 0) ∧ Below v.heap.size v w')) (QM : Hid (∀ v : World, Calls Tryd.prog 7 #[.float .f64 more, .float .f64 D, .float .f64 Lg, .float .f64 T] v fun e w' => e = .returned (.int .i64 r) ∧ Below v.heap.size v w'))
    (hpD : fgt D 0 = pD) (hpL : fgt Lg 0 = pL) (hpT : fgt T 0 = pT) (hnU : feq U U = nU) (hnM : feq more more = nM) (hgU : fgt U 0 = gU) (hlU : flt U 0 = lU) (hm : flt more U = m)
    (SD : Hid ((fD = true ∧ ∀ (t : TypeId) (w : World), (binOp .sub t (.float .f64 D) (.float .f64 D)).run Tryd.prog w = .ok (.float .f64 0) w) ∨ (fD = false ∧ (∀ (t : TypeId) (w : World), (binOp .sub t (.float .f64 D) (.float .f64 D)).run Tryd.prog w = .ok (.float .f64 (nanOf w D D)) (w.drewN 1)) ∧ ∀ w : World, feq (nanOf w D D) 0 = false))) (SL : Hid ((fL = true ∧ ∀ (t : TypeId) (w : World), (binOp .sub t (.float .f64 Lg) (.float .f64 Lg)).run Tryd.prog w = .ok (.float .f64 0) w) ∨ (fL = false ∧ (∀ (t : TypeId) (w : World), (binOp .sub t (.float .f64 Lg) (.float .f64 Lg)).run Tryd.prog w = .ok (.float .f64 (nanOf w Lg Lg)) (w.drewN 1)) ∧ ∀ w : World, feq (nanOf w Lg Lg) 0 = false))) (ST : Hid ((fT = true ∧ ∀ (t : TypeId) (w : World), (binOp .sub t (.float .f64 T) (.float .f64 T)).run Tryd.prog w = .ok (.float .f64 0) w) ∨ (fT = false ∧ (∀ (t : TypeId) (w : World), (binOp .sub t (.float .f64 T) (.float .f64 T)).run Tryd.prog w = .ok (.float .f64 (nanOf w T T)) (w.drewN 1)) ∧ ∀ w : World, feq (nanOf w T T) 0 = false)))
    (HG : Hid (pD = true → pL = true → pT = true → (gU = true → 0 ≤ q) ∧ (lU = true → q ≤ 0)))
    (HM : Hid (pD = true → pL = true → pT = true → nU = true → nM = true → fD = true → fL = true → fT = true → m = false → q ≤ r)) :
    Calls Tryd.prog 3 #[.agg #[.float .f64 U, .float .f64 D, .float .f64 Lg, .float .f64 T], .float .f64 more] w fun e w' => e = .returned (.bool true) ∧ Below w.heap.size w w' := by
  have A_v0 : Hid (Ab w (w.alloc (.cells #[.float .f64 U, .float .f64 D, .float .f64 Lg, .float .f64 T] 24))) := bl1 _ _
  have RO : Hid ((w.alloc (.cells #[.float .f64 U, .float .f64 D, .float .f64 Lg, .float .f64 T] 24)).heap[w.heap.size]? = some (.cells #[.float .f64 U, .float .f64 D, .float .f64 Lg, .float .f64 T] 24)) := heap_alloc_new _ _
  have d1 : decide ((4503599627370496 : Int) < q) = false := decide_eq_false (by omega)
  have d2 : decide (q < (-4503599627370496 : Int)) = false := decide_eq_false (by omega)
  go_enter Tryd.func3, Tryd.ntmps3
  go_wp2_with fail
  refine (LV.out _ A_v0.out).mono ?_
  rintro e9 v1 ⟨rfl, k1⟩
  have A_v1 : Hid (Ab w v1) := A_v0.out.call k1
  have RO2 : Hid (v1.heap[w.heap.size]? = some (.cells #[.float .f64 U, .float .f64 D, .float .f64 Lg, .float .f64 T] 24)) := Ab.heap k1 RO.out
  clear k1 RO A_v0
  have RO := RO2
  clear RO2
  have c0 := cell_of_row _ _ 0 _ _ _ (RO.out)
  have c1 := cell_of_row _ _ 1 _ _ _ (RO.out)
  have c2 := cell_of_row _ _ 2 _ _ _ (RO.out)
  have c3 := cell_of_row _ _ 3 _ _ _ (RO.out)
  go_wp2_with fail
  refine (Q0.out _).mono ?_
  rintro e9 v2 ⟨rfl, k1⟩
  have A_v2 : Hid (Ab w v2) := A_v1.out.call k1
  have RO2 : Hid (v2.heap[w.heap.size]? = some (.cells #[.float .f64 U, .float .f64 D, .float .f64 Lg, .float .f64 T] 24)) := Ab.heap k1 RO.out
  clear k1 RO c0 c1 c2 c3 A_v1
  have RO := RO2
  clear RO2
  have c0 := cell_of_row _ _ 0 _ _ _ (RO.out)
  have c1 := cell_of_row _ _ 1 _ _ _ (RO.out)
  have c2 := cell_of_row _ _ 2 _ _ _ (RO.out)
  have c3 := cell_of_row _ _ 3 _ _ _ (RO.out)
  go_wp2_with fail
  refine (QN.out _).mono ?_
  rintro e9 v3 ⟨rfl, k1⟩
  have A_v3 : Hid (Ab w v3) := A_v2.out.call k1
  have RO2 : Hid (v3.heap[w.heap.size]? = some (.cells #[.float .f64 U, .float .f64 D, .float .f64 Lg, .float .f64 T] 24)) := Ab.heap k1 RO.out
  clear k1 RO c0 c1 c2 c3 A_v2
  have RO := RO2
  clear RO2
  have c0 := cell_of_row _ _ 0 _ _ _ (RO.out)
  have c1 := cell_of_row _ _ 1 _ _ _ (RO.out)
  have c2 := cell_of_row _ _ 2 _ _ _ (RO.out)
  have c3 := cell_of_row _ _ 3 _ _ _ (RO.out)
  go_wp2_with fail
  refine (Z1.out _).mono ?_
  rintro e9 v4 ⟨rfl, k1⟩
  have A_v4 : Hid (Ab w v4) := A_v3.out.call k1
  have RO2 : Hid (v4.heap[w.heap.size]? = some (.cells #[.float .f64 U, .float .f64 D, .float .f64 Lg, .float .f64 T] 24)) := Ab.heap k1 RO.out
  clear k1 RO c0 c1 c2 c3 A_v3
  have RO := RO2
  clear RO2
  have c0 := cell_of_row _ _ 0 _ _ _ (RO.out)
  have c1 := cell_of_row _ _ 1 _ _ _ (RO.out)
  have c2 := cell_of_row _ _ 2 _ _ _ (RO.out)
  have c3 := cell_of_row _ _ 3 _ _ _ (RO.out)
  go_wp2_with fail
  refine (Z2.out _).mono ?_
  rintro e9 v5 ⟨rfl, k1⟩
  have A_v5 : Hid (Ab w v5) := A_v4.out.call k1
  have RO2 : Hid (v5.heap[w.heap.size]? = some (.cells #[.float .f64 U, .float .f64 D, .float .f64 Lg, .float .f64 T] 24)) := Ab.heap k1 RO.out
  clear k1 RO c0 c1 c2 c3 A_v4
  have RO := RO2
  clear RO2
  have c0 := cell_of_row _ _ 0 _ _ _ (RO.out)
  have c1 := cell_of_row _ _ 1 _ _ _ (RO.out)
  have c2 := cell_of_row _ _ 2 _ _ _ (RO.out)
  have c3 := cell_of_row _ _ 3 _ _ _ (RO.out)
  go_wp2_with fail
  refine (Z3.out _).mono ?_
  rintro e9 v6 ⟨rfl, k1⟩
  have A_v6 : Hid (Ab w v6) := A_v5.out.call k1
  have RO2 : Hid (v6.heap[w.heap.size]? = some (.cells #[.float .f64 U, .float .f64 D, .float .f64 Lg, .float .f64 T] 24)) := Ab.heap k1 RO.out
  clear k1 RO c0 c1 c2 c3 A_v5
  have RO := RO2
  clear RO2
  have c0 := cell_of_row _ _ 0 _ _ _ (RO.out)
  have c1 := cell_of_row _ _ 1 _ _ _ (RO.out)
  have c2 := cell_of_row _ _ 2 _ _ _ (RO.out)
  have c3 := cell_of_row _ _ 3 _ _ _ (RO.out)
  cases pD
  · go_wp2
    go_ret
    exact ⟨rfl, A_v6.out⟩
  · cases pL
    · go_wp2
      go_ret
      exact ⟨rfl, A_v6.out⟩
    · cases pT
      · go_wp2
        go_ret
        exact ⟨rfl, A_v6.out⟩
      · cases nU
        · go_wp2
          go_ret
          exact ⟨rfl, A_v6.out⟩
        · cases nM
          · go_wp2
            go_ret
            exact ⟨rfl, A_v6.out⟩
          · obtain ⟨gg, ll⟩ := HG.out rfl rfl rfl
            have HM2 := hid (HM.out rfl rfl rfl rfl rfl)
            clear HG HM
            cases gU
            · cases lU
              · clear gg ll
                go_wp2_with fail
                refine (QM.out _).mono ?_
                rintro e9 v7 ⟨rfl, k1⟩
                have A_v7 : Hid (Ab w v7) := A_v6.out.call k1
                have RO2 : Hid (v7.heap[w.heap.size]? = some (.cells #[.float .f64 U, .float .f64 D, .float .f64 Lg, .float .f64 T] 24)) := Ab.heap k1 RO.out
                clear k1 RO c0 c1 c2 c3 A_v6
                have RO := RO2
                clear RO2
                have c0 := cell_of_row _ _ 0 _ _ _ (RO.out)
                have c1 := cell_of_row _ _ 1 _ _ _ (RO.out)
                have c2 := cell_of_row _ _ 2 _ _ _ (RO.out)
                have c3 := cell_of_row _ _ 3 _ _ _ (RO.out)
                have f0 : feq 0 0 = true := by decide
                rcases SD.out with ⟨rfl, hs0⟩ | ⟨rfl, hs0, hnf⟩
                · rcases SL.out with ⟨rfl, hs1⟩ | ⟨rfl, hs1, hnf⟩
                  · rcases ST.out with ⟨rfl, hs2⟩ | ⟨rfl, hs2, hnf⟩
                    · cases m
                      · have hge := HM2.out rfl rfl rfl rfl
                        clear HM2
                        have hge2 : decide (q ≤ r) = true := decide_eq_true hge
                        go_wp2
                        go_ret
                        exact ⟨rfl, A_v7.out⟩
                      · clear HM2
                        go_wp2
                        go_ret
                        exact ⟨rfl, A_v7.out⟩
                    · go_wp2
                      go_ret
                      exact ⟨rfl, Ab.drewN A_v7.out 1⟩
                  · go_wp2
                    go_ret
                    exact ⟨rfl, Ab.drewN A_v7.out 1⟩
                · go_wp2
                  go_ret
                  exact ⟨rfl, Ab.drewN A_v7.out 1⟩
              · have g2 := ll rfl
                clear gg ll
                have g3 : decide (0 < q) = false := decide_eq_false (by omega)
                have g4 : ¬ 0 < q := by omega
                go_wp2_with fail
                refine (QM.out _).mono ?_
                rintro e9 v7 ⟨rfl, k1⟩
                have A_v7 : Hid (Ab w v7) := A_v6.out.call k1
                have RO2 : Hid (v7.heap[w.heap.size]? = some (.cells #[.float .f64 U, .float .f64 D, .float .f64 Lg, .float .f64 T] 24)) := Ab.heap k1 RO.out
                clear k1 RO c0 c1 c2 c3 A_v6
                have RO := RO2
                clear RO2
                have c0 := cell_of_row _ _ 0 _ _ _ (RO.out)
                have c1 := cell_of_row _ _ 1 _ _ _ (RO.out)
                have c2 := cell_of_row _ _ 2 _ _ _ (RO.out)
                have c3 := cell_of_row _ _ 3 _ _ _ (RO.out)
                have f0 : feq 0 0 = true := by decide
                rcases SD.out with ⟨rfl, hs0⟩ | ⟨rfl, hs0, hnf⟩
                · rcases SL.out with ⟨rfl, hs1⟩ | ⟨rfl, hs1, hnf⟩
                  · rcases ST.out with ⟨rfl, hs2⟩ | ⟨rfl, hs2, hnf⟩
                    · cases m
                      · have hge := HM2.out rfl rfl rfl rfl
                        clear HM2
                        have hge2 : decide (q ≤ r) = true := decide_eq_true hge
                        go_wp2
                        go_ret
                        exact ⟨rfl, A_v7.out⟩
                      · clear HM2
                        go_wp2
                        go_ret
                        exact ⟨rfl, A_v7.out⟩
                    · go_wp2
                      go_ret
                      exact ⟨rfl, Ab.drewN A_v7.out 1⟩
                  · go_wp2
                    go_ret
                    exact ⟨rfl, Ab.drewN A_v7.out 1⟩
                · go_wp2
                  go_ret
                  exact ⟨rfl, Ab.drewN A_v7.out 1⟩
            · have g2 := gg rfl
              clear gg ll
              have g3 : decide (q < 0) = false := decide_eq_false (by omega)
              have g4 : ¬ q < 0 := by omega
              cases lU
              · go_wp2_with fail
                refine (QM.out _).mono ?_
                rintro e9 v7 ⟨rfl, k1⟩
                have A_v7 : Hid (Ab w v7) := A_v6.out.call k1
                have RO2 : Hid (v7.heap[w.heap.size]? = some (.cells #[.float .f64 U, .float .f64 D, .float .f64 Lg, .float .f64 T] 24)) := Ab.heap k1 RO.out
                clear k1 RO c0 c1 c2 c3 A_v6
                have RO := RO2
                clear RO2
                have c0 := cell_of_row _ _ 0 _ _ _ (RO.out)
                have c1 := cell_of_row _ _ 1 _ _ _ (RO.out)
                have c2 := cell_of_row _ _ 2 _ _ _ (RO.out)
                have c3 := cell_of_row _ _ 3 _ _ _ (RO.out)
                have f0 : feq 0 0 = true := by decide
                rcases SD.out with ⟨rfl, hs0⟩ | ⟨rfl, hs0, hnf⟩
                · rcases SL.out with ⟨rfl, hs1⟩ | ⟨rfl, hs1, hnf⟩
                  · rcases ST.out with ⟨rfl, hs2⟩ | ⟨rfl, hs2, hnf⟩
                    · cases m
                      · have hge := HM2.out rfl rfl rfl rfl
                        clear HM2
                        have hge2 : decide (q ≤ r) = true := decide_eq_true hge
                        go_wp2
                        go_ret
                        exact ⟨rfl, A_v7.out⟩
                      · clear HM2
                        go_wp2
                        go_ret
                        exact ⟨rfl, A_v7.out⟩
                    · go_wp2
                      go_ret
                      exact ⟨rfl, Ab.drewN A_v7.out 1⟩
                  · go_wp2
                    go_ret
                    exact ⟨rfl, Ab.drewN A_v7.out 1⟩
                · go_wp2
                  go_ret
                  exact ⟨rfl, Ab.drewN A_v7.out 1⟩
              · have := hgU
                exact absurd hgU (by rw [fgt_no hlU]; decide)
theorem sub_self13 {x z : Nat} (hx : x < 18446744073709551616) (e : Ieee.double.sub x x = some z) : z = 0 ∧ mg x < 9218868437227405312 := by
  rcases three x with k | k | k
  · rw [sub_d x x hx hx k k] at e
    injection e with e
    rw [Int.sub_self] at e
    refine ⟨?_, k⟩
    rw [← e]
    cases ng x <;> decide +kernel
  · exfalso
    rw [sub_add x x hx, add_ii x (negB x) hx (negB_lt' hx) k (by rw [negB_mg hx]; exact k), negB_ng hx] at e
    cases h : ng x <;> rw [h] at e <;> simp at e
  · exfalso
    rw [sub_add x x hx, add_nan x (negB x) (.inl k)] at e
    cases e
theorem sub13 (x : Nat) (hx : x < 18446744073709551616) : (decide (mg x < 9218868437227405312) = true ∧ ∀ (t : TypeId) (w : World), (binOp .sub t (.float .f64 x) (.float .f64 x)).run Tryd.prog w = .ok (.float .f64 0) w) ∨ (decide (mg x < 9218868437227405312) = false ∧ (∀ (t : TypeId) (w : World), (binOp .sub t (.float .f64 x) (.float .f64 x)).run Tryd.prog w = .ok (.float .f64 (nanOf w x x)) (w.drewN 1)) ∧ ∀ w : World, feq (nanOf w x x) 0 = false) := by
  cases e : Ieee.double.sub x x with
  | some z =>
    obtain ⟨rfl, k⟩ := sub_self13 hx e
    exact .inl ⟨decide_eq_true k, fun t w => run_float_arith w .sub t .f64 _ _ _ e⟩
  | none =>
    refine .inr ⟨decide_eq_false (fun k => ?_), fun t w => run_nan_sub w t _ _ e, fun w => ?_⟩
    · rw [sub_d x x hx hx k k] at e; cases e
    · have n := isN_nanOf w x x
      rw [feq_rk _ _ (nanOf_lt _ _ _) (by decide), n]
      rfl
theorem fsig13_at (QC : QuantaC) (AC : AllC) (U D Lg T more : Nat) (w : World) (hF : Fr w) (hU : U < 18446744073709551616) (hD : D < 18446744073709551616) (hL : Lg < 18446744073709551616) (hT : T < 18446744073709551616) (hM : more < 18446744073709551616) :
    Calls Tryd.prog 3 #[.agg #[.float .f64 U, .float .f64 D, .float .f64 Lg, .float .f64 T], .float .f64 more] w fun e w' => e = .returned (.bool true) ∧ Below w.heap.size w w' := by
  have qi := qn_in hU hD hL hT
  have hn := negB_lt' hU
  refine fsig_go U D Lg T more (negB U) (qnB U D Lg T) (qnB more D Lg T) _ _ _ _ _ _ _ _ _ _ _ w (negFloat_eq U hU) qi.2 qi.1 (fun v hv => lives13_at QC AC v (hF.to hv)) (fun v => QC U D Lg T v hU hD hL hT)
    (fun v => by have h := QC (negB U) D Lg T v hn hD hL hT; rwa [qn_neg hU hD hL hT] at h)
    (fun v => by have h := QC 0 D Lg T v (by decide) hD hL hT; rwa [qn_z1 (by decide) hD hL hT (by decide)] at h)
    (fun v => by have h := QC U 0 Lg T v hU (by decide) hL hT; rwa [qn_z2 hU (by decide) hL hT (by decide)] at h)
    (fun v => by have h := QC U D Lg 0 v hU hD hL (by decide); rwa [qn_z4 hU hD hL (by decide) (by decide)] at h)
    (fun v => QC more D Lg T v hM hD hL hT) rfl rfl rfl rfl rfl rfl rfl rfl (sub13 D hD) (sub13 Lg hL) (sub13 T hT) (fun p1 p2 p3 => ?_) (fun p1 p2 p3 n1 n2 f1 f2 f3 m => ?_)
  · have d := fgt_nnn hD p1
    have l := fgt_nnn hL p2
    have t := fgt_nnn hT p3
    exact ⟨fun g => qn_pos hU hD hL hT (fgt_nnn hU g) d l t, fun g => qn_neg_le hU hD hL hT (flt_nnn hU g) d l t⟩
  · have nz : ∀ x, x < 18446744073709551616 → feq x x = true → isN x = false := fun x hx h => by
      cases e : isN x
      · rfl
      · rw [feq_rk x x hx hx, e] at h; simp at h
    have pos : ∀ x, x < 18446744073709551616 → fgt x 0 = true → decide (mg x < 9218868437227405312) = true → 0 < x ∧ x < 9218868437227405312 := fun x hx h f => by
      rw [fgt_ps hx] at h
      have p := ps_iff.1 h
      have f := of_decide_eq_true f
      rw [mg_of_lt (by omega)] at f
      exact ⟨p.1, f⟩
    have u := nz U hU n1
    have v := nz more hM n2
    have a := pos D hD p1 f1
    have b := pos Lg hL p2 f2
    have c := pos T hT p3 f3
    refine qn_mono hU hM u v a.1 a.2 b.1 b.2 c.1 c.2 ?_
    rw [flt_rk more U hM hU, u, v] at m
    simpa using m
end Go.Proofs.YtbdjbhdbegiipaaDoor

namespace Go.Proofs.YtbdjbhdbegiipaaDoor
open Go.RowKit Tf Cu
attribute [local go_sem] run_bits run_from raw_feq raw_fne raw_flt raw_fgt run_neg run_store_float
set_option maxRecDepth 100000 in
set_option maxHeartbeats 8000000 in
theorem fits13_at (gb : Nat) (pb pw pt ps : Option Addr) (lb cb lw cw lt ct ls cs : Nat) (sky st : Int) (M N : Nat) (q : Bool) (w : World)
    (hq : (((lb : Int) == (M : Int)) = false ∧ q = false) ∨ (((lb : Int) == (M : Int)) = true ∧ ((lw : Int) == (M : Int)) = false ∧ q = false) ∨ (((lb : Int) == (M : Int)) = true ∧ ((lw : Int) == (M : Int)) = true ∧ ((lt : Int) == (M : Int)) = false ∧ q = false) ∨ (((lb : Int) == (M : Int)) = true ∧ ((lw : Int) == (M : Int)) = true ∧ ((lt : Int) == (M : Int)) = true ∧ ((ls : Int) == (N : Int)) = q))
    (CC : Hid (∀ v, Ab w v → Calls Tryd.prog 37 #[(.pointer (some ⟨gb, 0, none⟩))] v fun e w' => e = .returned (.int .i64 (M : Nat)) ∧ Below v.heap.size v w'))
    (CE : Hid (∀ v, Ab w v → Calls Tryd.prog 29 #[(.pointer (some ⟨gb, 0, none⟩))] v fun e w' => e = .returned (.int .i64 (N : Nat)) ∧ Below v.heap.size v w')) :
    Calls Tryd.prog 28 #[(.pointer (some ⟨gb, 0, none⟩)), .agg #[.slice pb lb cb, .slice pw lw cw, .slice pt lt ct, .slice ps ls cs, .int .i64 sky, .int .i64 st]] w fun e w' => e = .returned (.bool q) ∧ Below w.heap.size w w' := by
  have A0 : Hid (Ab w (w.alloc (.cells #[.slice pb lb cb, .slice pw lw cw, .slice pt lt ct, .slice ps ls cs, .int .i64 sky, .int .i64 st] 34))) := bl1 _ _
  have RO : Hid ((w.alloc (.cells #[.slice pb lb cb, .slice pw lw cw, .slice pt lt ct, .slice ps ls cs, .int .i64 sky, .int .i64 st] 34)).heap[w.heap.size]? = some (.cells #[.slice pb lb cb, .slice pw lw cw, .slice pt lt ct, .slice ps ls cs, .int .i64 sky, .int .i64 st] 34)) := heap_alloc_new _ _
  go_enter Tryd.func28, Tryd.ntmps28
  go_wp2_with fail
  refine (CC.out _ A0.out).mono ?_
  rintro e9 v1 ⟨rfl, b1⟩
  have A1 : Hid (Ab w v1) := A0.out.call b1
  have R1 : Hid (v1.heap[w.heap.size]? = some (.cells #[.slice pb lb cb, .slice pw lw cw, .slice pt lt ct, .slice ps ls cs, .int .i64 sky, .int .i64 st] 34)) := Ab.heap b1 RO.out
  clear b1 A0 RO
  go_upto_region 2 with fail
  obtain ⟨gs, hgs⟩ : ∃ g, w.heap.size = g := ⟨_, rfl⟩
  rw [hgs] at R1 ⊢
  clear hgs
  rcases hq with ⟨q1, rfl⟩ | ⟨q1, q2, rfl⟩ | ⟨q1, q2, q3, rfl⟩ | ⟨q1, q2, q3, q4⟩
  · obtain ⟨UU, E, hF1, hF2⟩ := cls v1
    have HU := hid hF2
    have HU1 := hid hF1
    have HX : Hid (∀ u, Ab w (E u)) := fun u => Ab.trans A1.out (hF1 u)
    have s0 : ∀ u, (E u).cell? ⟨gs, 0, none⟩ = some (.slice pb lb cb) := fun u => cell_of_row _ _ 0 _ _ _ ((hF1 u).heap R1.out)
    have s1 : ∀ u, (E u).cell? ⟨gs, 1, none⟩ = some (.slice pw lw cw) := fun u => cell_of_row _ _ 1 _ _ _ ((hF1 u).heap R1.out)
    have s2 : ∀ u, (E u).cell? ⟨gs, 2, none⟩ = some (.slice pt lt ct) := fun u => cell_of_row _ _ 2 _ _ _ ((hF1 u).heap R1.out)
    have s3 : ∀ u, (E u).cell? ⟨gs, 3, none⟩ = some (.slice ps ls cs) := fun u => cell_of_row _ _ 3 _ _ _ ((hF1 u).heap R1.out)
    have DD0 := HU.out _ (Ab.refl v1).drew
    clear hF1 hF2
    refine region_cls E (by kernel_rfl) (by kernel_rfl) DD0 ?_
    repeat (go_big_quiet_step (first
      | (with_reducible rfl)
      | (go_at_call 29; exact calls_cls HU HU1 (CE.out _ (HX.out _)))))
    refine wpQuiet_nil ?_
    intro z hwz
    obtain ⟨u0, hu⟩ := hwz
    have AZ : Hid (Ab w z) := by rw [hu]; exact HX.out u0
    clear hu u0
    clear HU HU1 HX DD0 s0 s1 s2 s3
    clear E UU
    go_wp2
    go_ret
    exact ⟨rfl, AZ.out⟩
  · obtain ⟨UU, E, hF1, hF2⟩ := cls v1
    have HU := hid hF2
    have HU1 := hid hF1
    have HX : Hid (∀ u, Ab w (E u)) := fun u => Ab.trans A1.out (hF1 u)
    have s0 : ∀ u, (E u).cell? ⟨gs, 0, none⟩ = some (.slice pb lb cb) := fun u => cell_of_row _ _ 0 _ _ _ ((hF1 u).heap R1.out)
    have s1 : ∀ u, (E u).cell? ⟨gs, 1, none⟩ = some (.slice pw lw cw) := fun u => cell_of_row _ _ 1 _ _ _ ((hF1 u).heap R1.out)
    have s2 : ∀ u, (E u).cell? ⟨gs, 2, none⟩ = some (.slice pt lt ct) := fun u => cell_of_row _ _ 2 _ _ _ ((hF1 u).heap R1.out)
    have s3 : ∀ u, (E u).cell? ⟨gs, 3, none⟩ = some (.slice ps ls cs) := fun u => cell_of_row _ _ 3 _ _ _ ((hF1 u).heap R1.out)
    have DD0 := HU.out _ (Ab.refl v1).drew
    clear hF1 hF2
    refine region_cls E (by kernel_rfl) (by kernel_rfl) DD0 ?_
    repeat (go_big_quiet_step (first
      | (with_reducible rfl)
      | (go_at_call 29; exact calls_cls HU HU1 (CE.out _ (HX.out _)))))
    refine wpQuiet_nil ?_
    intro z hwz
    obtain ⟨u0, hu⟩ := hwz
    have AZ : Hid (Ab w z) := by rw [hu]; exact HX.out u0
    clear hu u0
    clear HU HU1 HX DD0 s0 s1 s2 s3
    clear E UU
    go_wp2
    go_ret
    exact ⟨rfl, AZ.out⟩
  · obtain ⟨UU, E, hF1, hF2⟩ := cls v1
    have HU := hid hF2
    have HU1 := hid hF1
    have HX : Hid (∀ u, Ab w (E u)) := fun u => Ab.trans A1.out (hF1 u)
    have s0 : ∀ u, (E u).cell? ⟨gs, 0, none⟩ = some (.slice pb lb cb) := fun u => cell_of_row _ _ 0 _ _ _ ((hF1 u).heap R1.out)
    have s1 : ∀ u, (E u).cell? ⟨gs, 1, none⟩ = some (.slice pw lw cw) := fun u => cell_of_row _ _ 1 _ _ _ ((hF1 u).heap R1.out)
    have s2 : ∀ u, (E u).cell? ⟨gs, 2, none⟩ = some (.slice pt lt ct) := fun u => cell_of_row _ _ 2 _ _ _ ((hF1 u).heap R1.out)
    have s3 : ∀ u, (E u).cell? ⟨gs, 3, none⟩ = some (.slice ps ls cs) := fun u => cell_of_row _ _ 3 _ _ _ ((hF1 u).heap R1.out)
    have DD0 := HU.out _ (Ab.refl v1).drew
    clear hF1 hF2
    refine region_cls E (by kernel_rfl) (by kernel_rfl) DD0 ?_
    repeat (go_big_quiet_step (first
      | (with_reducible rfl)
      | (go_at_call 29; exact calls_cls HU HU1 (CE.out _ (HX.out _)))))
    refine wpQuiet_nil ?_
    intro z hwz
    obtain ⟨u0, hu⟩ := hwz
    have AZ : Hid (Ab w z) := by rw [hu]; exact HX.out u0
    clear hu u0
    clear HU HU1 HX DD0 s0 s1 s2 s3
    clear E UU
    go_wp2
    go_ret
    exact ⟨rfl, AZ.out⟩
  · obtain ⟨UU, E, hF1, hF2⟩ := cls v1
    have HU := hid hF2
    have HU1 := hid hF1
    have HX : Hid (∀ u, Ab w (E u)) := fun u => Ab.trans A1.out (hF1 u)
    have s0 : ∀ u, (E u).cell? ⟨gs, 0, none⟩ = some (.slice pb lb cb) := fun u => cell_of_row _ _ 0 _ _ _ ((hF1 u).heap R1.out)
    have s1 : ∀ u, (E u).cell? ⟨gs, 1, none⟩ = some (.slice pw lw cw) := fun u => cell_of_row _ _ 1 _ _ _ ((hF1 u).heap R1.out)
    have s2 : ∀ u, (E u).cell? ⟨gs, 2, none⟩ = some (.slice pt lt ct) := fun u => cell_of_row _ _ 2 _ _ _ ((hF1 u).heap R1.out)
    have s3 : ∀ u, (E u).cell? ⟨gs, 3, none⟩ = some (.slice ps ls cs) := fun u => cell_of_row _ _ 3 _ _ _ ((hF1 u).heap R1.out)
    have DD0 := HU.out _ (Ab.refl v1).drew
    clear hF1 hF2
    refine region_cls E (by kernel_rfl) (by kernel_rfl) DD0 ?_
    repeat (go_big_quiet_step (first
      | (with_reducible rfl)
      | (go_at_call 29; exact calls_cls HU HU1 (CE.out _ (HX.out _)))))
    refine wpQuiet_nil ?_
    intro z hwz
    obtain ⟨u0, hu⟩ := hwz
    have AZ : Hid (Ab w z) := by rw [hu]; exact HX.out u0
    clear hu u0
    clear HU HU1 HX DD0 s0 s1 s2 s3
    clear E UU
    go_wp2
    go_ret
    exact ⟨rfl, AZ.out⟩
set_option maxRecDepth 100000 in
set_option maxHeartbeats 8000000 in
theorem all13_no (gb : Nat) (sd : Int) (dt gr dr : Nat) (lim : Int) (rv : Bool) (pr : Option Addr) (lr cr : Nat) (pb pw pt ps : Option Addr) (lb cb lw cw lt ct ls cs : Nat) (sky st : Int) (w : World)
    (CF : Hid (∀ v, Ab w v → Calls Tryd.prog 28 #[(.pointer (some ⟨gb, 0, none⟩)), .agg #[.slice pb lb cb, .slice pw lw cw, .slice pt lt ct, .slice ps ls cs, .int .i64 sky, .int .i64 st]] v fun e w' => e = .returned (.bool false) ∧ Below v.heap.size v w')) :
    Calls Tryd.prog 10 #[(.pointer (some ⟨gb, 0, none⟩)), .agg #[.int .i64 sd, .float .f64 dt, .float .f64 gr, .float .f64 dr, .int .i64 lim, .bool rv, .slice pr lr cr], .agg #[.slice pb lb cb, .slice pw lw cw, .slice pt lt ct, .slice ps ls cs, .int .i64 sky, .int .i64 st]] w fun e w' => e = .returned (.tuple #[.slice none 0 0, .int .i64 1]) ∧ Below w.heap.size w w' := by
  have A0 : Hid (Ab w ((w.alloc (.cells #[.int .i64 sd, .float .f64 dt, .float .f64 gr, .float .f64 dr, .int .i64 lim, .bool rv, .slice pr lr cr] 30)).alloc (.cells #[.slice pb lb cb, .slice pw lw cw, .slice pt lt ct, .slice ps ls cs, .int .i64 sky, .int .i64 st] 34))) := bl2 _ _ _
  have RP : Hid (((w.alloc (.cells #[.int .i64 sd, .float .f64 dt, .float .f64 gr, .float .f64 dr, .int .i64 lim, .bool rv, .slice pr lr cr] 30)).alloc (.cells #[.slice pb lb cb, .slice pw lw cw, .slice pt lt ct, .slice ps ls cs, .int .i64 sky, .int .i64 st] 34)).heap[w.heap.size]? = some (.cells #[.int .i64 sd, .float .f64 dt, .float .f64 gr, .float .f64 dr, .int .i64 lim, .bool rv, .slice pr lr cr] 30)) := heap_alloc2_old _ _ _
  have RO : Hid (((w.alloc (.cells #[.int .i64 sd, .float .f64 dt, .float .f64 gr, .float .f64 dr, .int .i64 lim, .bool rv, .slice pr lr cr] 30)).alloc (.cells #[.slice pb lb cb, .slice pw lw cw, .slice pt lt ct, .slice ps ls cs, .int .i64 sky, .int .i64 st] 34)).heap[w.heap.size + 1]? = some (.cells #[.slice pb lb cb, .slice pw lw cw, .slice pt lt ct, .slice ps ls cs, .int .i64 sky, .int .i64 st] 34)) := heap_alloc2_new _ _ _
  go_enter Tryd.func10, Tryd.ntmps10
  go_upto_region 3 with fail
  generalize hW : World.alloc (World.alloc w _) _ = W at *
  obtain ⟨gp, hgp⟩ : ∃ g, w.heap.size = g := ⟨_, rfl⟩
  obtain ⟨gs, hgs⟩ : ∃ g, w.heap.size + 1 = g := ⟨_, rfl⟩
  rw [hgp] at RP
  rw [hgs] at RO
  rw [hgs, hgp]
  clear hgs hgp hW
  have s0 := cell_of_row _ _ 0 _ _ _ RO.out
  have s1 := cell_of_row _ _ 1 _ _ _ RO.out
  have s2 := cell_of_row _ _ 2 _ _ _ RO.out
  have s3 := cell_of_row _ _ 3 _ _ _ RO.out
  have s4 := cell_of_row _ _ 4 _ _ _ RO.out
  have s5 := cell_of_row _ _ 5 _ _ _ RO.out
  go_wp2_with fail
  refine (CF.out _ A0.out).mono ?_
  rintro e9 z ⟨rfl, bz⟩
  have AB : Hid (Ab W z) := bz
  clear bz s0 s1 s2 s3 s4 s5
  go_wp2
  go_ret2
  exact ⟨rfl, A0.out.trans AB.out⟩
set_option maxRecDepth 100000 in
set_option maxHeartbeats 8000000 in
theorem all13_go (gb : Nat) (sd : Int) (dt gr dr : Nat) (lim : Int) (rv : Bool) (pr : Option Addr) (lr cr : Nat) (pb pw pt : Option Addr) (M cb cw ct sb so cs : Nat) (sky st : Int) (N : Nat) (Sp Dp Ln : Nat → Nat) (D : Nat → Int) (w : World) (hN : N ≤ 1048576)
    (CF : Hid (∀ v, Ab w v → Calls Tryd.prog 28 #[(.pointer (some ⟨gb, 0, none⟩)), .agg #[.slice pb M cb, .slice pw M cw, .slice pt M ct, .slice (some ⟨sb, so, none⟩) N cs, .int .i64 sky, .int .i64 st]] v fun e w' => e = .returned (.bool true) ∧ Below v.heap.size v w'))
    (CE : Hid (∀ v, Ab w v → Calls Tryd.prog 29 #[(.pointer (some ⟨gb, 0, none⟩))] v fun e w' => e = .returned (.int .i64 (N : Nat)) ∧ w' = v))
    (FSp : Hid (∀ c, c < N → ∀ v, Ab w v → v.cell? ⟨sb, so + c, none⟩ = some (.float .f64 (Sp c))))
    (CD : Hid (∀ c, c < N → ∀ v, Ab w v → Calls Tryd.prog 13 #[(.pointer (some ⟨gb, 0, none⟩)), .int .i64 lim, .agg #[.slice pb M cb, .slice pw M cw, .slice pt M ct, .slice (some ⟨sb, so, none⟩) N cs, .int .i64 sky, .int .i64 st], .int .i64 (c : Nat), .float .f64 (Sp c)] v fun e w' => e = .returned (.float .f64 (Dp c)) ∧ Below v.heap.size v w'))
    (CL : Hid (∀ c, c < N → ∀ v, Ab w v → Calls Tryd.prog 14 #[(.pointer (some ⟨gb, 0, none⟩)), .int .i64 (c : Nat)] v fun e w' => e = .returned (.float .f64 (Ln c)) ∧ Below v.heap.size v w'))
    (CQ : Hid (∀ c, c < N → ∀ v : World, Calls Tryd.prog 7 #[.float .f64 (Sp c), .float .f64 (Dp c), .float .f64 (Ln c), .float .f64 dt] v fun e w' => e = .returned (.int .i64 (D c)) ∧ Below v.heap.size v w')) :
    Calls Tryd.prog 10 #[(.pointer (some ⟨gb, 0, none⟩)), .agg #[.int .i64 sd, .float .f64 dt, .float .f64 gr, .float .f64 dr, .int .i64 lim, .bool rv, .slice pr lr cr], .agg #[.slice pb M cb, .slice pw M cw, .slice pt M ct, .slice (some ⟨sb, so, none⟩) N cs, .int .i64 sky, .int .i64 st]] w fun e w' => ∃ b, e = .returned (.tuple #[.slice (some ⟨b, 0, none⟩) N N, .int .i64 0]) ∧ Below w.heap.size w w' ∧ w'.rowIs b 2 N (fun i => .int .i64 (D i)) ∧ w.heap.size ≤ b := by
  have M1 : ∀ v : World, (Instr.makeSlice 32 (.int .i64 (N : Nat)) (.int .i64 (N : Nat))).run Tryd.prog v = .ok (.slice (some ⟨v.heap.size, 0, none⟩) N N) (v.alloc (Obj.cells (madeCells #[.int .i64 0] N) 2)) := fun v =>
    run_make_row' (P := Tryd.prog) 32 2 (.int .i64 0) 8 Tryd.underlying32 info64 rfl .i64 .i64 N (by omega) (by omega) v
  have HN := hid hN
  clear hN
  have A0 : Hid (Ab w ((w.alloc (.cells #[.int .i64 sd, .float .f64 dt, .float .f64 gr, .float .f64 dr, .int .i64 lim, .bool rv, .slice pr lr cr] 30)).alloc (.cells #[.slice pb M cb, .slice pw M cw, .slice pt M ct, .slice (some ⟨sb, so, none⟩) N cs, .int .i64 sky, .int .i64 st] 34))) := bl2 _ _ _
  have RP : Hid (((w.alloc (.cells #[.int .i64 sd, .float .f64 dt, .float .f64 gr, .float .f64 dr, .int .i64 lim, .bool rv, .slice pr lr cr] 30)).alloc (.cells #[.slice pb M cb, .slice pw M cw, .slice pt M ct, .slice (some ⟨sb, so, none⟩) N cs, .int .i64 sky, .int .i64 st] 34)).heap[w.heap.size]? = some (.cells #[.int .i64 sd, .float .f64 dt, .float .f64 gr, .float .f64 dr, .int .i64 lim, .bool rv, .slice pr lr cr] 30)) := heap_alloc2_old _ _ _
  have RO : Hid (((w.alloc (.cells #[.int .i64 sd, .float .f64 dt, .float .f64 gr, .float .f64 dr, .int .i64 lim, .bool rv, .slice pr lr cr] 30)).alloc (.cells #[.slice pb M cb, .slice pw M cw, .slice pt M ct, .slice (some ⟨sb, so, none⟩) N cs, .int .i64 sky, .int .i64 st] 34)).heap[w.heap.size + 1]? = some (.cells #[.slice pb M cb, .slice pw M cw, .slice pt M ct, .slice (some ⟨sb, so, none⟩) N cs, .int .i64 sky, .int .i64 st] 34)) := heap_alloc2_new _ _ _
  go_enter Tryd.func10, Tryd.ntmps10
  go_upto_region 3 with fail
  generalize hW : World.alloc (World.alloc w _) _ = W at *
  obtain ⟨gp, hgp⟩ : ∃ g, w.heap.size = g := ⟨_, rfl⟩
  obtain ⟨gs, hgs⟩ : ∃ g, w.heap.size + 1 = g := ⟨_, rfl⟩
  rw [hgp] at RP
  rw [hgs] at RO
  rw [hgs, hgp]
  clear hgs hgp hW
  have s0 := cell_of_row _ _ 0 _ _ _ RO.out
  have s1 := cell_of_row _ _ 1 _ _ _ RO.out
  have s2 := cell_of_row _ _ 2 _ _ _ RO.out
  have s3 := cell_of_row _ _ 3 _ _ _ RO.out
  have s4 := cell_of_row _ _ 4 _ _ _ RO.out
  have s5 := cell_of_row _ _ 5 _ _ _ RO.out
  go_wp2_with fail
  refine (CF.out _ A0.out).mono ?_
  rintro e9 z ⟨rfl, bz⟩
  have AB : Hid (Ab W z) := bz
  clear bz s0 s1 s2 s3 s4 s5
  have AZ : Hid (Ab w z) := A0.out.trans AB.out
  have RZ : Hid (z.heap[gs]? = some (.cells #[.slice pb M cb, .slice pw M cw, .slice pt M ct, .slice (some ⟨sb, so, none⟩) N cs, .int .i64 sky, .int .i64 st] 34)) := AB.out.heap RO.out
  have RQ : Hid (z.heap[gp]? = some (.cells #[.int .i64 sd, .float .f64 dt, .float .f64 gr, .float .f64 dr, .int .i64 lim, .bool rv, .slice pr lr cr] 30)) := AB.out.heap RP.out
  clear A0 RO RP AB
  go_wp2_with fail
  refine (CE.out _ AZ.out).mono ?_
  rintro e9 vq ⟨rfl, hvq⟩
  have hvq2 := hvq.symm
  subst hvq2
  have LZ : Hid (w.heap.size ≤ z.heap.size ∧ gs ≠ z.heap.size ∧ gp ≠ z.heap.size) := ⟨AZ.out.size, by have := lt_of_block RZ.out; omega, by have := lt_of_block RQ.out; omega⟩
  have IN0 : Hid (Ab w (z.alloc (Obj.cells (madeCells #[.int .i64 0] N) 2)) ∧ (z.alloc (Obj.cells (madeCells #[.int .i64 0] N) 2)).heap[gs]? = some (.cells #[.slice pb M cb, .slice pw M cw, .slice pt M ct, .slice (some ⟨sb, so, none⟩) N cs, .int .i64 sky, .int .i64 st] 34) ∧ (z.alloc (Obj.cells (madeCells #[.int .i64 0] N) 2)).heap[gp]? = some (.cells #[.int .i64 sd, .float .f64 dt, .float .f64 gr, .float .f64 dr, .int .i64 lim, .bool rv, .slice pr lr cr] 30) ∧ (z.alloc (Obj.cells (madeCells #[.int .i64 0] N) 2)).rowIs z.heap.size 2 N (fun _ => .int .i64 0)) := ⟨AZ.out.alloc _, Ab.heap (bl1 _ _) RZ.out, Ab.heap (bl1 _ _) RQ.out, World.rowIs_made _ _ _ _⟩
  go_upto_region 6 with fail
  generalize hV : World.alloc z _ = V at *
  obtain ⟨b, hb⟩ : ∃ b, z.heap.size = b := ⟨_, rfl⟩
  rw [hb] at IN0 LZ ⊢
  clear hV hb AZ RZ RQ M1
  have IN : Hid (Ab w V ∧ V.heap[gs]? = some (.cells #[.slice pb M cb, .slice pw M cw, .slice pt M ct, .slice (some ⟨sb, so, none⟩) N cs, .int .i64 sky, .int .i64 st] 34) ∧ V.heap[gp]? = some (.cells #[.int .i64 sd, .float .f64 dt, .float .f64 gr, .float .f64 dr, .int .i64 lim, .bool rv, .slice pr lr cr] 30) ∧ V.rowIs b 2 N (fun i => .int .i64 (if i < 0 then D i else 0))) := ⟨IN0.out.1, IN0.out.2.1, IN0.out.2.2.1, IN0.out.2.2.2.congr (fun i _ => by simp)⟩
  clear IN0
  have s3 := cell_of_row _ _ 3 _ _ _ IN.out.2.1
  go_wp2
  clear s3
  go_loopw [24] (fun iv wr => ∃ c : Nat, c ≤ N ∧ iv = .int .i64 (c : Nat) ∧ Ab w wr ∧ wr.heap[gs]? = some (.cells #[.slice pb M cb, .slice pw M cw, .slice pt M ct, .slice (some ⟨sb, so, none⟩) N cs, .int .i64 sky, .int .i64 st] 34) ∧ wr.heap[gp]? = some (.cells #[.int .i64 sd, .float .f64 dt, .float .f64 gr, .float .f64 dr, .int .i64 lim, .bool rv, .slice pr lr cr] 30) ∧ wr.rowIs b 2 N (fun i => .int .i64 (if i < c then D i else 0))) (fun iv _ => N - (intOf iv).toNat)
  case atStart => exact ⟨0, by omega, rfl, IN.out⟩
  case round =>
    obtain ⟨c, hc, rfl, a1, r1, r2, o1⟩ := hrel
    clear IN
    have AR := hid a1
    have RR := hid r1
    have RP := hid r2
    have OO := hid o1
    clear a1 r1 r2 o1
    by_cases hcN : c < N
    · have HC := hid hcN
      have hcI : (c : Int) < N := by omega
      have hcB : (c : Int) ≤ 1048576 := by have := HN.out; omega
      obtain ⟨x, hx⟩ : ∃ x, Sp c = x := ⟨_, rfl⟩
      obtain ⟨y, hy⟩ : ∃ y, D c = y := ⟨_, rfl⟩
      obtain ⟨dp, hdp⟩ : ∃ y, Dp c = y := ⟨_, rfl⟩
      obtain ⟨ln, hln⟩ : ∃ y, Ln c = y := ⟨_, rfl⟩
      have CDc := hid (CD.out c hcN)
      have CLc := hid (CL.out c hcN)
      have CQc := hid (CQ.out c hcN)
      rw [hx, hdp] at CDc
      rw [hln] at CLc
      rw [hx, hdp, hln, hy] at CQc
      have HX2 := hid hx
      have HY := hid hy
      clear hx hy hdp hln hcN
      have s0 := cell_of_row _ _ 0 _ _ _ RR.out
      have s1 := cell_of_row _ _ 1 _ _ _ RR.out
      have s2 := cell_of_row _ _ 2 _ _ _ RR.out
      have s3 := cell_of_row _ _ 3 _ _ _ RR.out
      have s4 := cell_of_row _ _ 4 _ _ _ RR.out
      have s5 := cell_of_row _ _ 5 _ _ _ RR.out
      have p4 := cell_of_row _ _ 4 _ _ _ RP.out
      have sx : wr.cell? ⟨sb, so + c, none⟩ = some (.float .f64 x) := (FSp.out c HC.out _ AR.out).trans (by rw [HX2.out])
      go_wp2_with fail
      refine (CDc.out _ AR.out).mono ?_
      rintro e9 v1 ⟨rfl, b1⟩
      have A1 : Hid (Ab wr v1) := b1
      clear b1 s0 s1 s2 s3 s4 s5 p4 sx
      go_upto_region 10 with fail
      obtain ⟨UU, E, hF1, hF2⟩ := cls v1
      have HU := hid hF2
      have HU1 := hid hF1
      have HX : Hid (∀ u, Ab wr (E u)) := fun u => Ab.trans A1.out (hF1 u)
      have p1 : ∀ u, (E u).cell? ⟨gp, 1, none⟩ = some (.float .f64 dt) := fun u => cell_of_row _ _ 1 _ _ _ ((A1.out.trans (hF1 u)).heap RP.out)
      have DD0 := HU.out _ (Ab.refl v1).drew
      clear hF1 hF2
      refine region_tail 11 E (by kernel_rfl) (by kernel_rfl) (by kernel_rfl) DD0 ?_
      simp only [List.take_succ_cons, List.take_zero, List.drop_succ_cons, List.drop_zero]
      repeat (go_big_quiet_step (first
        | (with_reducible rfl)
        | (go_at_call 14; exact calls_cls HU HU1 (CLc.out _ (AR.out.trans (HX.out _))))
        | (go_at_call 7; exact calls_cls HU HU1 (CQc.out _))))
      refine wpQuiet_nil ?_
      intro vz hwz
      obtain ⟨u0, hu⟩ := hwz
      have AZ : Hid (Ab wr vz) := by rw [hu]; exact HX.out u0
      clear hu u0
      clear HU HU1 HX DD0 p1
      clear E UU
      have OZ := hid (rowIs.ab OO.out AZ.out)
      have xc := OZ.out.cell HC.out
      have xf := OZ.out.frozen c
      go_wp2
      refine ⟨⟨c + 1, by have := HC.out; omega, by simp, (AR.out.trans AZ.out).setk LZ.out.1 _, ?_, ?_, (OZ.out.set c _).congr (fun i _ => ?_)⟩, by simp [intOf]; have := HC.out; omega⟩
      · rw [heap_set_ne LZ.out.2.1]; exact AZ.out.heap RR.out
      · rw [heap_set_ne LZ.out.2.2]; exact AZ.out.heap RP.out
      · by_cases e : i = c
        · simp [e, HY.out]
        · by_cases l : i < c
          · simp [e, l, show i < c + 1 by omega]
          · simp [e, l, show ¬ i < c + 1 by omega]
    · have e6 : N = c := by omega
      subst e6
      go_wp2
      go_ret2
      exact ⟨b, rfl, AR.out, OO.out.congr (fun i hi => by simp [hi]), LZ.out.1⟩
end Go.Proofs.YtbdjbhdbegiipaaDoor

namespace Go.Proofs.YtbdjbhdbegiipaaDoor
open Go.RowKit Tf
theorem mlB_qq (a b : Nat) : mlB (qB a) (qB b) = mlB a b := by unfold mlB; rw [mul_ql, mul_qr]
theorem mlB_qr (a b : Nat) : mlB a (qB b) = mlB a b := by unfold mlB; rw [mul_qr]
theorem clampB_q {r q : Nat} (h : IsQ r q) (most : Int) : clampB r most = clampB q most := by
  have e := h.2
  unfold qB at e
  split at e
  · rename_i n
    have nq : isN q = true := by rw [← e]; decide
    unfold clampB
    rw [if_pos n, if_pos nq]
  · rw [e]
end Go.Proofs.YtbdjbhdbegiipaaDoor

namespace Go.Proofs.YtbdjbhdbegiipaaDoor
open Go.RowKit Tf Cu Go.Deep
attribute [local go_sem] run_bits run_from raw_feq raw_fne raw_flt raw_fgt run_neg run_store_float
set_option maxHeartbeats 2000000 in
theorem quantaC : QuantaC := by
  intro u d l t w hu hd hl ht
  obtain ⟨r1, n1, h1, q1⟩ := mul_any (P := Tryd.prog) w u (qB u) d (qB d) (IsQ.self hu) (IsQ.self hd)
  obtain ⟨r2, n2, h2, q2⟩ := mul_any (P := Tryd.prog) (w.drewN n1) r1 _ l (qB l) q1 (IsQ.self hl)
  obtain ⟨r3, n3, h3, q3⟩ := mul_any (P := Tryd.prog) (w.drewN (n1 + n2)) r2 _ t (qB t) q2 (IsQ.self ht)
  obtain ⟨r4, n4, h4, q4⟩ := mul_any (P := Tryd.prog) (w.drewN (n1 + n2 + n3)) r3 _ 4742290407621132288 (qB 4742290407621132288) q3 (IsQ.self (by decide))
  have e : clampB r4 4503599627370496 = qnB u d l t := by
    rw [clampB_q q4, mlB_qq, mlB_qr, mlB_qr, mlB_qr]
    rfl
  have CL := hid (fun v => clamp_at r4 4503599627370496 (qnB u d l t) v q4.1 (by decide) e)
  generalize qnB u d l t = z at *
  have AB : Hid (∀ k, Ab w (w.drewN k)) := fun k => (Ab.refl w).drewN k
  clear q1 q2 q3 q4 e hu hd hl ht
  go_enter Tryd.func7, Tryd.ntmps7
  go_wp2_with fail
  refine (CL.out _).mono ?_
  rintro e v ⟨rfl, n5, rfl⟩
  go_wp2
  go_ret
  exact ⟨rfl, AB.out _⟩
end Go.Proofs.YtbdjbhdbegiipaaDoor
