/-
  For every two floats, of any bits, the call of the statement on exact products returns true and leaves its arguments as they were.
-/
import Derived.Test.YtcamlhpehnfnlaaRows
import Derived.Test.YtcamlhpehnfnlaaVi
import Derived.ProofKit
import Derived.OpenShut
import Derived.WalkLawsBesides
import Derived.Below
namespace Go.Proofs.Ytcamlhpehnfnlaa.twinTimesDone
open Go.ChangeShapes Go.WideShapes Go.ChangeAt Go.RowKit

theorem own : ownKnob Try.prog.godebug = none := by kernel_rfl

open Tf
theorem fle_rk (x c : Nat) (hx : x < 18446744073709551616) (hc : c < 18446744073709551616) (nc : isN c = false) : (flt x c || feq x c) = (!isN x && decide (rk x ≤ rk c)) := by
  rw [flt_rk x c hx hc, feq_rk x c hx hc, nc]
  cases isN x
  · rw [Bool.eq_iff_iff]; simp; omega
  · simp
theorem fge_rk (x c : Nat) (hx : x < 18446744073709551616) (hc : c < 18446744073709551616) (nc : isN c = false) : (fgt x c || feq x c) = (!isN x && decide (rk c ≤ rk x)) := by
  rw [fgt_rk x c hx hc, feq_rk x c hx hc, nc]
  cases isN x
  · rw [Bool.eq_iff_iff]; simp; omega
  · simp
theorem mag_996 (x : Nat) (hx : x < 18446744073709551616) : (flt x 9092767647661031424 || feq x 9092767647661031424) = true ∧ (fgt x 18316139684515807232 || feq x 18316139684515807232) = true ↔ mg x ≤ 9092767647661031424 := by
  have n1 : isN 9092767647661031424 = false := by decide
  have n2 : isN 18316139684515807232 = false := by decide
  have r1 : rk 9092767647661031424 = 9092767647661031424 := by decide
  have r2 : rk 18316139684515807232 = -9092767647661031424 := by decide
  rw [fle_rk x _ hx (by omega) n1, fge_rk x _ hx (by omega) n2, r1, r2]
  have hr : rk x = mg x ∨ rk x = -(mg x : Int) := by unfold rk; split <;> simp
  by_cases n : isN x = true
  · have := isN_true.1 n
    rw [n]; simp; omega
  · have n' : isN x = false := by simpa using n
    rw [n']; simp; omega
theorem told_all (a b p : Nat) (ha : a < 18446744073709551616) (hb : b < 18446744073709551616) :
    toldB a b p = true ↔ ((flt a 9092767647661031424 || feq a 9092767647661031424) = true ∧ (fgt a 18316139684515807232 || feq a 18316139684515807232) = true) ∧ ((flt b 9092767647661031424 || feq b 9092767647661031424) = true ∧ (fgt b 18316139684515807232 || feq b 18316139684515807232) = true) ∧ (fgt (mg p) 243194379878006784 || feq (mg p) 243194379878006784) = true ∧ (flt (mg p) 9200854038717923328 || feq (mg p) 9200854038717923328) = true := by
  rw [toldB_iff, mag_996 a ha, mag_996 b hb, fge_mg _ _ (mg_lt p) (by omega), fle_mg _ _ (mg_lt p) (by omega)]
  by_cases n : isN (mg p) = true
  · have h1 := isN_true.1 n
    rw [mg_of_lt (mg_lt p)] at h1
    rw [n]; simp; omega
  · have n' : isN (mg p) = false := by simpa using n
    rw [n']; simp
/-- the magnitude of a canonical float, as the statement takes it -/
theorem mag_way (p : Nat) (hp : p < 18446744073709551616) (hc : canonB p = p) : (flt p 0 = true ∧ Op.negFloat .f64 p = mg p) ∨ (flt p 0 = false ∧ p = mg p) := by
  have z1 : isN 0 = false := by decide
  have z2 : rk 0 = 0 := by decide
  have hf := flt_rk p 0 hp (by omega)
  rw [z1, z2] at hf
  have hw := word_eq p hp
  unfold canonB at hc
  by_cases n : isN p = true
  · rw [if_pos n] at hc
    right
    refine ⟨by rw [hf, n]; rfl, ?_⟩
    rw [← hc]; decide
  · have n' : isN p = false := by simpa using n
    rw [if_neg n] at hc
    rw [n'] at hf
    by_cases z : mg p = 0
    · rw [if_pos z] at hc
      right
      rw [← hc]
      exact ⟨by decide, by decide⟩
    · cases s : ng p
      · right
        have hr : rk p = mg p := by unfold rk; rw [s]; rfl
        rw [s, if_neg (by decide)] at hw
        exact ⟨by rw [hf, hr]; simp, hw⟩
      · left
        have hr : rk p = -(mg p : Int) := by unfold rk; rw [s]; rfl
        refine ⟨by rw [hf, hr]; simp; omega, ?_⟩
        rw [negFloat_eq p hp]
        rw [s, if_pos rfl] at hw
        have := ge_of_ng s
        unfold negB; rw [s, if_pos rfl]; omega

theorem walk (a0 a1 : Nat) (w0 : (Lit.float .f64 a0).wf = true) (w1 : (Lit.float .f64 a1).wf = true) (w : World) :
    Calls Try.prog 8 #[.float .f64 a0, .float .f64 a1] w fun e w' => e = .returned (.bool true) ∧ Below w.heap.size w w' := by
  have ha := lit_lt w0
  have hb := lit_lt w1
  have lp := mulB_lt a0 a1 ha hb
  have ll := prodE_lt a0 a1
  have cp := canon_mulB a0 a1 ha hb
  have PP := hid (fun w => plain_any (mulB a0 a1) w lp cp)
  have PL := hid (fun w => plain_any (prodE a0 a1) w ll (canon_prodE a0 a1))
  have PR := hid (fun w => prod_at a0 a1 _ _ w ha hb rfl rfl)
  have ta := told_all a0 a1 (mulB a0 a1) ha hb
  have nt : ¬ toldB a0 a1 (mulB a0 a1) = true → prodE a0 a1 = 0 := by intro h; unfold prodE; rw [if_neg h]
  have mw := mag_way _ lp cp
  cases h : Ieee.double.mul a0 a1 with
  | none =>
    have e := mulB_none h
    have CN : Hid (∀ w w', Calls Try.prog 21 #[.float .f64 (nanOf w a0 a1)] w' fun e w'' => e = .returned (.float .f64 (mulB a0 a1)) ∧ w'' = w') := by
      intro w w'
      refine canon_to _ _ w' (nanOf_lt _ _ _) ?_
      rw [e]; unfold canonB; rw [isN_nanOf]; rfl
    have z : flt (mulB a0 a1) 0 = false := by rw [e]; decide
    have em : mulB a0 a1 = mg (mulB a0 a1) := by rw [e]; decide
    have n5 : (fgt (mulB a0 a1) 243194379878006784 || feq (mulB a0 a1) 243194379878006784) = false := by rw [e]; decide
    rw [← em] at ta
    cases c1 : (flt a0 9092767647661031424 || feq a0 9092767647661031424)
    · exact t_np1 a0 a1 _ _ w PP PL PR h CN z c1 (nt (fun x => by have t := ta.1 x; have := t.1.1; rw [c1] at this; cases this))
    · cases c2 : (fgt a0 18316139684515807232 || feq a0 18316139684515807232)
      · exact t_np2 a0 a1 _ _ w PP PL PR h CN z c1 c2 (nt (fun x => by have t := ta.1 x; have := t.1.2; rw [c2] at this; cases this))
      · cases c3 : (flt a1 9092767647661031424 || feq a1 9092767647661031424)
        · exact t_np3 a0 a1 _ _ w PP PL PR h CN z c1 c2 c3 (nt (fun x => by have t := ta.1 x; have := t.2.1.1; rw [c3] at this; cases this))
        · cases c4 : (fgt a1 18316139684515807232 || feq a1 18316139684515807232)
          · exact t_np4 a0 a1 _ _ w PP PL PR h CN z c1 c2 c3 c4 (nt (fun x => by have t := ta.1 x; have := t.2.1.2; rw [c4] at this; cases this))
          · exact t_np5 a0 a1 _ _ w PP PL PR h CN z c1 c2 c3 c4 n5 (nt (fun x => by have t := ta.1 x; have := t.2.2.1; rw [n5] at this; cases this))
  | some t =>
    obtain ⟨lt, nn⟩ := mul_ok a0 a1 t ha hb h
    have CN := hid (fun w => canon_to t (mulB a0 a1) w lt (mulB_some h).symm)
    have TI : toldB a0 a1 (mulB a0 a1) = true → Hid (∀ w, Calls Try.prog 27 #[.float .f64 a0, .float .f64 a1, .float .f64 (mulB a0 a1), .float .f64 (prodE a0 a1)] w fun e w' => e = .returned (.bool true) ∧ Below w.heap.size w w') := by
      intro tt
      have t' : toldB a0 a1 t = true := by rw [← tt]; unfold toldB; rw [mulB_some h, mg_canon t nn]
      obtain ⟨W, hh, lh, hl, l4, Q, eV, ep, fp, _, eM, bW, _⟩ := prod_facts a0 a1 t ha hb h t'
      obtain ⟨k1, k2, _, _⟩ := (toldB_iff a0 a1 t).1 t'
      have t1 := top1020
      have hq : 0 < mv 9200854038717923328 := by
        have := mv_lt.2 (show 0 < 9200854038717923328 by omega)
        rw [mv_zero] at this; exact this
      have be := Q.be
      have hE : prodE a0 a1 = rn false (W - rd W) := by unfold prodE; rw [tt, if_pos rfl, eV, eM, ep]
      obtain ⟨fe, ee⟩ := rn_exact false (W - rd W) Q.de (by omega)
      rw [← hE] at fe ee
      intro w
      refine times_at a0 a1 _ _ w ha hb lp ll (by omega) (by omega) (by rw [eM]; exact fp) fe ?_
      rw [eM, ep, ee, Q.eW]
      have : rd W + (W - rd W) = W := by omega
      rw [this]
    rcases mw with ⟨z, hm⟩ | ⟨z, em⟩
    · cases c1 : (flt a0 9092767647661031424 || feq a0 9092767647661031424)
      · exact t_sn1 a0 a1 _ _ t (mg (mulB a0 a1)) w PP PL PR h CN z hm c1 (nt (fun x => by have t := ta.1 x; have := t.1.1; rw [c1] at this; cases this))
      · cases c2 : (fgt a0 18316139684515807232 || feq a0 18316139684515807232)
        · exact t_sn2 a0 a1 _ _ t (mg (mulB a0 a1)) w PP PL PR h CN z hm c1 c2 (nt (fun x => by have t := ta.1 x; have := t.1.2; rw [c2] at this; cases this))
        · cases c3 : (flt a1 9092767647661031424 || feq a1 9092767647661031424)
          · exact t_sn3 a0 a1 _ _ t (mg (mulB a0 a1)) w PP PL PR h CN z hm c1 c2 c3 (nt (fun x => by have t := ta.1 x; have := t.2.1.1; rw [c3] at this; cases this))
          · cases c4 : (fgt a1 18316139684515807232 || feq a1 18316139684515807232)
            · exact t_sn4 a0 a1 _ _ t (mg (mulB a0 a1)) w PP PL PR h CN z hm c1 c2 c3 c4 (nt (fun x => by have t := ta.1 x; have := t.2.1.2; rw [c4] at this; cases this))
            · cases c5 : (fgt (mg (mulB a0 a1)) 243194379878006784 || feq (mg (mulB a0 a1)) 243194379878006784)
              · exact t_sn5 a0 a1 _ _ t (mg (mulB a0 a1)) w PP PL PR h CN z hm c1 c2 c3 c4 c5 (nt (fun x => by have t := ta.1 x; have := t.2.2.1; rw [c5] at this; cases this))
              · cases c6 : (flt (mg (mulB a0 a1)) 9200854038717923328 || feq (mg (mulB a0 a1)) 9200854038717923328)
                · exact t_sn6 a0 a1 _ _ t (mg (mulB a0 a1)) w PP PL PR h CN z hm c1 c2 c3 c4 c5 c6 (nt (fun x => by have t := ta.1 x; have := t.2.2.2; rw [c6] at this; cases this))
                · exact t_sn7 a0 a1 _ _ t (mg (mulB a0 a1)) w PP PL PR h CN z hm c1 c2 c3 c4 c5 c6 (TI (ta.2 ⟨⟨c1, c2⟩, ⟨c3, c4⟩, c5, c6⟩))
    · rw [← em] at ta
      cases c1 : (flt a0 9092767647661031424 || feq a0 9092767647661031424)
      · exact t_sp1 a0 a1 _ _ t w PP PL PR h CN z c1 (nt (fun x => by have t := ta.1 x; have := t.1.1; rw [c1] at this; cases this))
      · cases c2 : (fgt a0 18316139684515807232 || feq a0 18316139684515807232)
        · exact t_sp2 a0 a1 _ _ t w PP PL PR h CN z c1 c2 (nt (fun x => by have t := ta.1 x; have := t.1.2; rw [c2] at this; cases this))
        · cases c3 : (flt a1 9092767647661031424 || feq a1 9092767647661031424)
          · exact t_sp3 a0 a1 _ _ t w PP PL PR h CN z c1 c2 c3 (nt (fun x => by have t := ta.1 x; have := t.2.1.1; rw [c3] at this; cases this))
          · cases c4 : (fgt a1 18316139684515807232 || feq a1 18316139684515807232)
            · exact t_sp4 a0 a1 _ _ t w PP PL PR h CN z c1 c2 c3 c4 (nt (fun x => by have t := ta.1 x; have := t.2.1.2; rw [c4] at this; cases this))
            · cases c5 : (fgt (mulB a0 a1) 243194379878006784 || feq (mulB a0 a1) 243194379878006784)
              · exact t_sp5 a0 a1 _ _ t w PP PL PR h CN z c1 c2 c3 c4 c5 (nt (fun x => by have t := ta.1 x; have := t.2.2.1; rw [c5] at this; cases this))
              · cases c6 : (flt (mulB a0 a1) 9200854038717923328 || feq (mulB a0 a1) 9200854038717923328)
                · exact t_sp6 a0 a1 _ _ t w PP PL PR h CN z c1 c2 c3 c4 c5 c6 (nt (fun x => by have t := ta.1 x; have := t.2.2.2; rw [c6] at this; cases this))
                · exact t_sp7 a0 a1 _ _ t w PP PL PR h CN z c1 c2 c3 c4 c5 c6 (TI (ta.2 ⟨⟨c1, c2⟩, ⟨c3, c4⟩, c5, c6⟩))

set_option maxRecDepth 100000 in
theorem lifted (os : Os) (started : os.Started) (H : Type) (enc : TypeId × Value → H) :
    ReturnsInHanded {} Try.checked os 8 .any (Rows.twinTimesSpec.pre6 enc Try.prog Try.f8 Rows.twinTimesRow.domain false) (Rows.twinTimesSpec.post enc Try.prog Try.f8 false true false false) := by
  refine returnsInHanded_of_change (C := Try.checked) own started (by kernel_rfl) Try.func8
    (ChangeSpec.witness6 (enc := enc) (C := Try.checked) false ⟨#[], #[.float .f64 0, .float .f64 0], []⟩ 8 (by kernel_rfl) (by kernel_rfl) (by kernel_rfl) (by kernel_rfl)) ?_
  intro W base args ds gs before hval0 hW hcnd _
  have hval : ∀ (j : Nat) t v, Try.f8.params[j]? = some t → args[j]? = some v → Value.okWide Try.prog W .any base t v := hval0
  have hW' := hW
  obtain ⟨p, q, hA0, hV, rfl, hfz, hnd⟩ := hW
  have hA : DataW.TrodAll enc Try.prog W 0 (fun _ => true) true Try.f8.params.toList args.toList ds p := hA0
  rw [Try.params8] at hA hval
  obtain ⟨v0, vs0, d0, ds0, p0, q0, hargs, rfl, rfl, h0, r0⟩ := trodAll_cons hA
  obtain ⟨v1, vs1, d1, ds1, p1, q1, rfl, rfl, rfl, h1, r1⟩ := trodAll_cons r0
  obtain ⟨rfl, rfl, rfl⟩ := trodAll_nil r1
  obtain rfl : args = #[v0, v1] := by cases args; simp_all
  obtain ⟨rfl, rfl⟩ := trodVars_none hV
  obtain ⟨a0, rfl, rfl, rfl, w0⟩ := open_float Try.underlying24 (hval 0 24 v0 rfl rfl) h0
  obtain ⟨a1, rfl, rfl, rfl, w1⟩ := open_float Try.underlying24 (hval 1 24 v1 rfl rfl) h1
  clear hA0 hval0
  refine (walk a0 a1 w0 w1 W).mono fun e W' ⟨he, hg⟩ => ?_
  subst he
  exact ⟨_, rfl, _, _, _, [], _, [], hW', trodAll_mk1 (shut_bool Try.underlying4 _), (trodAll_cons_mk (shut_float Try.underlying24 w0) (trodAll_cons_mk (shut_float Try.underlying24 w1) trodAll_mk0)), rfl, hg.frame _, fun h => by cases h⟩

theorem over : Rows.twinTimesRow.holds Try.pinned (OpenSpec.ofChange Rows.twinTimesSpec) :=
  OpenClaim.holds_of_wide 8 Try.f8 rfl rfl rfl rfl rfl rfl rfl ⟨rfl, rfl, rfl, rfl, rfl⟩ rfl rfl rfl rfl rfl (by kernel_rfl) Try.func8 (by kernel_rfl)
    (of_decide_eq_true (by kernel_rfl)) (by unfold Func.isWrapper; first | (rw [if_pos (by decide +kernel)]; kernel_rfl) | (rw [if_neg (by decide +kernel)]; exact ⟨rfl, rfl⟩))
    (fun os started H enc _ => lifted os started H enc)

end Go.Proofs.Ytcamlhpehnfnlaa.twinTimesDone
namespace Go.Proofs.Ytcamlhpehnfnlaa
theorem twinTimes_holds : Rows.TwinTimesSaid := twinTimesDone.over
#print axioms twinTimes_holds
end Go.Proofs.Ytcamlhpehnfnlaa
