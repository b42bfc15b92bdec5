/-
  For every float, of any bits, the call of the statement on the nearest floats of 32 and of 16 bits returns true and leaves its argument as it was.
-/
import Derived.Test.YtpncpbpdbdlamaaRows
import Derived.Test.YtpncpbpdbdlamaaWnA
import Derived.Test.YtpncpbpdbdlamaaWnB
import Derived.ProofKit
import Derived.OpenShut
import Derived.WalkLawsBesides
namespace Go.Proofs.Ytpncpbpdbdlamaa.convNearDone
open Go.ChangeShapes Go.WideShapes Go.ChangeAt Go.RowKit

theorem own : ownKnob Try.prog.godebug = none := by kernel_rfl

open Tf
theorem last32 : mv 5183643171103440896 = mag 23 (2139095039 + 1) * 2 ^ K2 := by
  have e : (2139095039 + 1 : Nat) = 2139095040 := by decide
  rw [e]; exact D32_inf.symm
theorem last16 : mv 4679240012837945344 = mag 10 (31743 + 1) * 2 ^ H2 := by
  have e : (31743 + 1 : Nat) = 31744 := by decide
  rw [e]; exact D16_inf.symm
theorem walk (a0 : Nat) (w0 : (Lit.float .f64 a0).wf = true) (w : World) :
    Calls Try.prog 5 #[.float .f64 a0] w fun e w' => e = .returned (.bool true) ∧ Grown w w' := by
  have hx := lit_lt w0
  have key : Calls Try.prog 5 #[.float .f64 a0] w fun e w' => e = .returned (.bool true) ∧ ∃ n, w' = w.drewN n := by
    have f := feq_self a0 hx
    cases n : isN a0
    · rw [n] at f
      have hmi := isN_false.1 n
      have en := negFloat_eq a0 hx
      have hq : (a0 : Int) % 9223372036854775808 = ((mg a0 : Nat) : Int) := by unfold mg; omega
      have hqn : ((negB a0 : Nat) : Int) % 9223372036854775808 = ((mg a0 : Nat) : Int) := by
        have := mg_negB a0
        unfold mg at this ⊢
        omega
      generalize mg a0 = m at *
      have hm : m < 18446744073709551616 := by omega
      have wm := word_parts false m hmi
      rw [if_neg (by decide)] at wm
      have hs0 : to32B m = t32 m := by unfold to32B; rw [wm.2.2.1, wm.2.1, if_neg (by decide), if_neg (by decide)]
      have ht0 : to16B m = t16 m := by unfold to16B; rw [wm.2.2.1, wm.2.1, if_neg (by decide), if_neg (by decide)]
      have i1 := inf32_iff m
      have i2 := inf16_iff m
      rw [wm.1] at i1 i2
      have z1 := zero32_16 m
      have z2 := last32_16 m
      have l1 := t32_le m
      have l2 := t16_le m
      have o1 : (fgt m 5183643170835005440 || feq m 5183643170835005440) = decide (5183643170835005440 ≤ m) := by
        rw [fgt_rk m _ hm (by decide), feq_rk m _ hm (by decide), wm.2.2.1, wm.2.2.2.1]
        have n1 : isN 5183643170835005440 = false := by decide
        have r1 : rk 5183643170835005440 = 5183643170835005440 := by decide
        rw [n1, r1]
        simp only [Bool.not_false, Bool.and_self, Bool.true_and, Bool.false_eq_true, if_false]
        rw [← Bool.decide_or]
        exact decide_eq_decide.2 (by omega)
      have o2 : (fgt m 4679237813814689792 || feq m 4679237813814689792) = decide (4679237813814689792 ≤ m) := by
        rw [fgt_rk m _ hm (by decide), feq_rk m _ hm (by decide), wm.2.2.1, wm.2.2.2.1]
        have n1 : isN 4679237813814689792 = false := by decide
        have r1 : rk 4679237813814689792 = 4679237813814689792 := by decide
        rw [n1, r1]
        simp only [Bool.not_false, Bool.and_self, Bool.true_and, Bool.false_eq_true, if_false]
        rw [← Bool.decide_or]
        exact decide_eq_decide.2 (by omega)
      have nb32 : negB (D32 1) = 9223372036854775808 + D32 1 := by
        have l := D32_lt 1 (by decide)
        unfold negB; rw [ng_of_lt (by omega), if_neg (by decide)]; exact Nat.add_comm _ _
      have nb16 : negB (D16 1) = 9223372036854775808 + D16 1 := by
        have l := D16_lt 1 (by decide)
        unfold negB; rw [ng_of_lt (by omega), if_neg (by decide)]; exact Nat.add_comm _ _
      obtain ⟨s, es⟩ : ∃ s, t32 m = s := ⟨_, rfl⟩
      obtain ⟨t, et⟩ : ∃ t, t16 m = t := ⟨_, rfl⟩
      have hs : to32B m = s := by rw [hs0, es]
      have ht : to16B m = t := by rw [ht0, et]
      rw [es] at i1 z1 z2 l1
      rw [et] at i2 z1 z2 l2
      clear hs0 ht0 wm n
      cases g : flt a0 0
      · by_cases b1 : s = 2139095040
        · have b2 : t = 31744 := z2 (by omega)
          subst b1 b2
          exact c0infinf a0 w f m hm g hq hs ht (o1.trans (decide_eq_true (by omega))) (o2.trans (decide_eq_true (by omega))) 
        · by_cases b3 : s = 2139095039
          · have b2 : t = 31744 := z2 (by omega)
            subst b3 b2
            exact c0lastinf a0 w f m hm g hq hs ht (o1.trans (decide_eq_false (by omega))) (o2.trans (decide_eq_true (by omega))) _ _ (from32_low 1 (by omega)) (negFloat_eq _ (by have := D32_lt 1 (by decide); omega)) _ (from32_low _ (by omega)) _ (from32_low _ (by omega)) (fun ev w he => mid32 m 2139095039 _ _ hmi es (by omega) last32 (by decide) (.inl ⟨by decide, congrArg D32 (show 2139095038 = 2139095039 - 1 by decide)⟩) ev w he) 
          · by_cases b4 : s = 0
            · have b2 : t = 0 := z1 b4
              subst b4 b2
              exact c0zerozero a0 w f m hm g hq hs ht (o1.trans (decide_eq_false (by omega))) (o2.trans (decide_eq_false (by omega))) _ (from32_low _ (by omega)) _ _ (from32_low 1 (by omega)) (negFloat_eq _ (by have := D32_lt 1 (by decide); omega)) _ (from32_low _ (by omega)) (fun ev w he => mid32 m 0 _ _ hmi es (by omega) (mv_D32 _) (by have := D32_lt (0 + 1) (by omega); omega) (.inr ⟨rfl, nb32⟩) ev w he) _ (from16_low _ (by omega)) _ _ (from16_low 1 (by omega)) (negFloat_eq _ (by have := D16_lt 1 (by decide); omega)) _ (from16_low _ (by omega)) (fun ev w he => mid16 m 0 _ _ hmi et (by omega) (mv_D16 _) (by have := D16_lt (0 + 1) (by omega); omega) (.inr ⟨rfl, nb16⟩) ev w he) 
            · have s0 : 0 < s := by omega
              by_cases d1 : t = 31744
              · subst d1
                exact c0midinf a0 w f m hm g hq s s0 (decide_eq_false (by omega)) (by simp; omega) (decide_eq_true (by omega)) (decide_eq_true (by omega)) (by omega) (by omega) hs ht (o1.trans (decide_eq_false (by omega))) (o2.trans (decide_eq_true (by omega))) _ (from32_low _ (by omega)) _ _ (from32_low 1 (by omega)) (negFloat_eq _ (by have := D32_lt 1 (by decide); omega)) _ (from32_low _ (by omega)) _ (from32_low _ (by omega)) (fun ev w he => mid32 m s _ _ hmi es (by omega) (mv_D32 _) (by have := D32_lt (s + 1) (by omega); omega) (.inl ⟨by omega, rfl⟩) ev w he) 
              · by_cases d2 : t = 31743
                · subst d2
                  exact c0midlast a0 w f m hm g hq s s0 (decide_eq_false (by omega)) (by simp; omega) (decide_eq_true (by omega)) (decide_eq_true (by omega)) (by omega) (by omega) hs ht (o1.trans (decide_eq_false (by omega))) (o2.trans (decide_eq_false (by omega))) _ (from32_low _ (by omega)) _ _ (from32_low 1 (by omega)) (negFloat_eq _ (by have := D32_lt 1 (by decide); omega)) _ (from32_low _ (by omega)) _ (from32_low _ (by omega)) (fun ev w he => mid32 m s _ _ hmi es (by omega) (mv_D32 _) (by have := D32_lt (s + 1) (by omega); omega) (.inl ⟨by omega, rfl⟩) ev w he) _ _ (from16_low 1 (by omega)) (negFloat_eq _ (by have := D16_lt 1 (by decide); omega)) _ (from16_low _ (by omega)) _ (from16_low _ (by omega)) (fun ev w he => mid16 m 31743 _ _ hmi et (by omega) last16 (by decide) (.inl ⟨by decide, congrArg D16 (show 31742 = 31743 - 1 by decide)⟩) ev w he) 
                · by_cases d3 : t = 0
                  · subst d3
                    exact c0midzero a0 w f m hm g hq s s0 (decide_eq_false (by omega)) (by simp; omega) (decide_eq_true (by omega)) (decide_eq_true (by omega)) (by omega) (by omega) hs ht (o1.trans (decide_eq_false (by omega))) (o2.trans (decide_eq_false (by omega))) _ (from32_low _ (by omega)) _ _ (from32_low 1 (by omega)) (negFloat_eq _ (by have := D32_lt 1 (by decide); omega)) _ (from32_low _ (by omega)) _ (from32_low _ (by omega)) (fun ev w he => mid32 m s _ _ hmi es (by omega) (mv_D32 _) (by have := D32_lt (s + 1) (by omega); omega) (.inl ⟨by omega, rfl⟩) ev w he) _ (from16_low _ (by omega)) _ _ (from16_low 1 (by omega)) (negFloat_eq _ (by have := D16_lt 1 (by decide); omega)) _ (from16_low _ (by omega)) (fun ev w he => mid16 m 0 _ _ hmi et (by omega) (mv_D16 _) (by have := D16_lt (0 + 1) (by omega); omega) (.inr ⟨rfl, nb16⟩) ev w he) 
                  · have t0 : 0 < t := by omega
                    exact c0midmid a0 w f m hm g hq s s0 (decide_eq_false (by omega)) (by simp; omega) (decide_eq_true (by omega)) (decide_eq_true (by omega)) (by omega) (by omega) t t0 (decide_eq_false (by omega)) (by simp; omega) (decide_eq_true (by omega)) (by omega) (by omega) hs ht (o1.trans (decide_eq_false (by omega))) (o2.trans (decide_eq_false (by omega))) _ (from32_low _ (by omega)) _ _ (from32_low 1 (by omega)) (negFloat_eq _ (by have := D32_lt 1 (by decide); omega)) _ (from32_low _ (by omega)) _ (from32_low _ (by omega)) (fun ev w he => mid32 m s _ _ hmi es (by omega) (mv_D32 _) (by have := D32_lt (s + 1) (by omega); omega) (.inl ⟨by omega, rfl⟩) ev w he) _ (from16_low _ (by omega)) _ _ (from16_low 1 (by omega)) (negFloat_eq _ (by have := D16_lt 1 (by decide); omega)) _ (from16_low _ (by omega)) _ (from16_low _ (by omega)) (fun ev w he => mid16 m t _ _ hmi et (by omega) (mv_D16 _) (by have := D16_lt (t + 1) (by omega); omega) (.inl ⟨by omega, rfl⟩) ev w he) 
      · by_cases b1 : s = 2139095040
        · have b2 : t = 31744 := z2 (by omega)
          subst b1 b2
          exact c1infinf a0 w f m hm g _ en hqn hs ht (o1.trans (decide_eq_true (by omega))) (o2.trans (decide_eq_true (by omega))) 
        · by_cases b3 : s = 2139095039
          · have b2 : t = 31744 := z2 (by omega)
            subst b3 b2
            exact c1lastinf a0 w f m hm g _ en hqn hs ht (o1.trans (decide_eq_false (by omega))) (o2.trans (decide_eq_true (by omega))) _ _ (from32_low 1 (by omega)) (negFloat_eq _ (by have := D32_lt 1 (by decide); omega)) _ (from32_low _ (by omega)) _ (from32_low _ (by omega)) (fun ev w he => mid32 m 2139095039 _ _ hmi es (by omega) last32 (by decide) (.inl ⟨by decide, congrArg D32 (show 2139095038 = 2139095039 - 1 by decide)⟩) ev w he) 
          · by_cases b4 : s = 0
            · have b2 : t = 0 := z1 b4
              subst b4 b2
              exact c1zerozero a0 w f m hm g _ en hqn hs ht (o1.trans (decide_eq_false (by omega))) (o2.trans (decide_eq_false (by omega))) _ (from32_low _ (by omega)) _ _ (from32_low 1 (by omega)) (negFloat_eq _ (by have := D32_lt 1 (by decide); omega)) _ (from32_low _ (by omega)) (fun ev w he => mid32 m 0 _ _ hmi es (by omega) (mv_D32 _) (by have := D32_lt (0 + 1) (by omega); omega) (.inr ⟨rfl, nb32⟩) ev w he) _ (from16_low _ (by omega)) _ _ (from16_low 1 (by omega)) (negFloat_eq _ (by have := D16_lt 1 (by decide); omega)) _ (from16_low _ (by omega)) (fun ev w he => mid16 m 0 _ _ hmi et (by omega) (mv_D16 _) (by have := D16_lt (0 + 1) (by omega); omega) (.inr ⟨rfl, nb16⟩) ev w he) 
            · have s0 : 0 < s := by omega
              by_cases d1 : t = 31744
              · subst d1
                exact c1midinf a0 w f m hm g _ en hqn s s0 (decide_eq_false (by omega)) (by simp; omega) (decide_eq_true (by omega)) (decide_eq_true (by omega)) (by omega) (by omega) hs ht (o1.trans (decide_eq_false (by omega))) (o2.trans (decide_eq_true (by omega))) _ (from32_low _ (by omega)) _ _ (from32_low 1 (by omega)) (negFloat_eq _ (by have := D32_lt 1 (by decide); omega)) _ (from32_low _ (by omega)) _ (from32_low _ (by omega)) (fun ev w he => mid32 m s _ _ hmi es (by omega) (mv_D32 _) (by have := D32_lt (s + 1) (by omega); omega) (.inl ⟨by omega, rfl⟩) ev w he) 
              · by_cases d2 : t = 31743
                · subst d2
                  exact c1midlast a0 w f m hm g _ en hqn s s0 (decide_eq_false (by omega)) (by simp; omega) (decide_eq_true (by omega)) (decide_eq_true (by omega)) (by omega) (by omega) hs ht (o1.trans (decide_eq_false (by omega))) (o2.trans (decide_eq_false (by omega))) _ (from32_low _ (by omega)) _ _ (from32_low 1 (by omega)) (negFloat_eq _ (by have := D32_lt 1 (by decide); omega)) _ (from32_low _ (by omega)) _ (from32_low _ (by omega)) (fun ev w he => mid32 m s _ _ hmi es (by omega) (mv_D32 _) (by have := D32_lt (s + 1) (by omega); omega) (.inl ⟨by omega, rfl⟩) ev w he) _ _ (from16_low 1 (by omega)) (negFloat_eq _ (by have := D16_lt 1 (by decide); omega)) _ (from16_low _ (by omega)) _ (from16_low _ (by omega)) (fun ev w he => mid16 m 31743 _ _ hmi et (by omega) last16 (by decide) (.inl ⟨by decide, congrArg D16 (show 31742 = 31743 - 1 by decide)⟩) ev w he) 
                · by_cases d3 : t = 0
                  · subst d3
                    exact c1midzero a0 w f m hm g _ en hqn s s0 (decide_eq_false (by omega)) (by simp; omega) (decide_eq_true (by omega)) (decide_eq_true (by omega)) (by omega) (by omega) hs ht (o1.trans (decide_eq_false (by omega))) (o2.trans (decide_eq_false (by omega))) _ (from32_low _ (by omega)) _ _ (from32_low 1 (by omega)) (negFloat_eq _ (by have := D32_lt 1 (by decide); omega)) _ (from32_low _ (by omega)) _ (from32_low _ (by omega)) (fun ev w he => mid32 m s _ _ hmi es (by omega) (mv_D32 _) (by have := D32_lt (s + 1) (by omega); omega) (.inl ⟨by omega, rfl⟩) ev w he) _ (from16_low _ (by omega)) _ _ (from16_low 1 (by omega)) (negFloat_eq _ (by have := D16_lt 1 (by decide); omega)) _ (from16_low _ (by omega)) (fun ev w he => mid16 m 0 _ _ hmi et (by omega) (mv_D16 _) (by have := D16_lt (0 + 1) (by omega); omega) (.inr ⟨rfl, nb16⟩) ev w he) 
                  · have t0 : 0 < t := by omega
                    exact c1midmid a0 w f m hm g _ en hqn s s0 (decide_eq_false (by omega)) (by simp; omega) (decide_eq_true (by omega)) (decide_eq_true (by omega)) (by omega) (by omega) t t0 (decide_eq_false (by omega)) (by simp; omega) (decide_eq_true (by omega)) (by omega) (by omega) hs ht (o1.trans (decide_eq_false (by omega))) (o2.trans (decide_eq_false (by omega))) _ (from32_low _ (by omega)) _ _ (from32_low 1 (by omega)) (negFloat_eq _ (by have := D32_lt 1 (by decide); omega)) _ (from32_low _ (by omega)) _ (from32_low _ (by omega)) (fun ev w he => mid32 m s _ _ hmi es (by omega) (mv_D32 _) (by have := D32_lt (s + 1) (by omega); omega) (.inl ⟨by omega, rfl⟩) ev w he) _ (from16_low _ (by omega)) _ _ (from16_low 1 (by omega)) (negFloat_eq _ (by have := D16_lt 1 (by decide); omega)) _ (from16_low _ (by omega)) _ (from16_low _ (by omega)) (fun ev w he => mid16 m t _ _ hmi et (by omega) (mv_D16 _) (by have := D16_lt (t + 1) (by omega); omega) (.inl ⟨by omega, rfl⟩) ev w he) 
    · rw [n] at f
      exact nan a0 w f
  exact key.mono fun e w' ⟨h1, n, h2⟩ => ⟨h1, by rw [h2]; exact Grown.refl _⟩

set_option maxRecDepth 100000 in
theorem lifted (os : Os) (started : os.Started) (H : Type) (enc : TypeId × Value → H) :
    ReturnsInHanded {} Try.checked os 5 .any (Rows.convNearSpec.pre6 enc Try.prog Try.f5 Rows.convNearRow.domain false) (Rows.convNearSpec.post enc Try.prog Try.f5 false true false false) := by
  refine returnsInHanded_of_change (C := Try.checked) own started (by kernel_rfl) Try.func5
    (ChangeSpec.witness6 (enc := enc) (C := Try.checked) false ⟨#[], #[.float .f64 0], []⟩ 8 (by kernel_rfl) (by kernel_rfl) (by kernel_rfl) (by kernel_rfl)) ?_
  intro W base args ds gs before hval0 hW hcnd _
  have hval : ∀ (j : Nat) t v, Try.f5.params[j]? = some t → args[j]? = some v → Value.okWide Try.prog W .any base t v := hval0
  have hW' := hW
  obtain ⟨p, q, hA0, hV, rfl, hfz, hnd⟩ := hW
  have hA : DataW.TrodAll enc Try.prog W 0 (fun _ => true) true Try.f5.params.toList args.toList ds p := hA0
  rw [Try.params5] at hA hval
  obtain ⟨v0, vs0, d0, ds0, p0, q0, hargs, rfl, rfl, h0, r0⟩ := trodAll_cons hA
  obtain ⟨rfl, rfl, rfl⟩ := trodAll_nil r0
  obtain rfl : args = #[v0] := by cases args; simp_all
  obtain ⟨rfl, rfl⟩ := trodVars_none hV
  obtain ⟨a0, rfl, rfl, rfl, w0⟩ := open_float Try.underlying24 (hval 0 24 v0 rfl rfl) h0
  clear hA0 hval0
  simp only [List.append_nil] at hW'
  refine (walk a0 w0 W).mono fun e W' ⟨he, hg⟩ => ?_
  subst he
  exact ⟨_, rfl, post_of_same (pa := []) (pv := []) hW' (fun _ _ _ => (trodAll_cons_mk (shut_bool Try.underlying4 _) trodAll_mk0)) (fun sp _ => (trodAll_cons_mk (shut_float Try.underlying24 w0) trodAll_mk0)) (fun _ _ => rfl) rfl
    (hg.frame _) hg.2.1 (ok_one (by kernel_rfl) rfl (okWide_bool_mk Try.underlying4 _))⟩

theorem over : Rows.convNearRow.holds Try.pinned (OpenSpec.ofChange Rows.convNearSpec) :=
  OpenClaim.holds_of_wide 5 Try.f5 rfl rfl rfl rfl rfl rfl rfl ⟨rfl, rfl, rfl, rfl, rfl⟩ rfl rfl rfl rfl rfl (by kernel_rfl) Try.func5 (by kernel_rfl)
    (of_decide_eq_true (by kernel_rfl)) (by unfold Func.isWrapper; first | (rw [if_pos (by decide +kernel)]; kernel_rfl) | (rw [if_neg (by decide +kernel)]; exact ⟨rfl, rfl⟩))
    (fun os started H enc _ => lifted os started H enc)

end Go.Proofs.Ytpncpbpdbdlamaa.convNearDone
namespace Go.Proofs.Ytpncpbpdbdlamaa
theorem convNear_holds : Rows.ConvNearSaid := convNearDone.over
#print axioms convNear_holds
end Go.Proofs.Ytpncpbpdbdlamaa
