/-
  Leer's slope of doubled differences is doubled, by plain numbers (no program).
-/
import Derived.Test.YtgbaaafikphafaaLb
namespace Go.Proofs.Ytgbaaafikphafaa
open Tf Ieee
theorem pr_hi2 : mv 6112028652303860605 * mv 6112028652303860605 ≤ mv 7631948660914076401 * 2 ^ K := by decide +kernel
theorem pr_rung2 {V : Nat} (h1 : mv 3110860544497550640 * mv 3110860544497550640 ≤ V) (h2 : V ≤ mv 6112028652303860605 * mv 6112028652303860605) :
    52 + 1074 ≤ V.log2 ∧ 1599789920352257571 ≤ rung 52 1074 V ∧ rung 52 1074 V ≤ 7631948660914076401 := by
  have hV : 2 ^ (52 + K) ≤ V := Nat.le_trans pr_lg h1
  have h0 : V ≠ 0 := by have := Nat.two_pow_pos (52 + K); omega
  refine ⟨?_, ?_, ?_⟩
  · have := (Nat.le_log2 h0).2 hV
    exact this
  · exact rung_ge' (d := K) (Nat.le_trans pr_lo h1)
  · exact rung_le' (d := K) (Nat.le_trans h2 pr_hi2)
theorem far2 {x y : Nat} (x1 : 3110860544497550640 ≤ x) (x2 : x ≤ 6112028652303860605) (y1 : 3110860544497550640 ≤ y) (y2 : y ≤ 6112028652303860605) :
    Far x y ∧ 1599789920352257571 ≤ mlB x y ∧ mlB x y ≤ 7631948660914076401 := by
  obtain ⟨a, b, c⟩ := pr_rung2 (Nat.mul_le_mul (mv_le.2 x1) (mv_le.2 y1)) (Nat.mul_le_mul (mv_le.2 x2) (mv_le.2 y2))
  refine ⟨.inr ?_, ?_⟩
  · rw [mg_of_lt (by omega), mg_of_lt (by omega)]
    exact ⟨a, by omega⟩
  · rw [ml_word (by omega) (by omega)]
    omega
theorem db_of {x : Nat} (x1 : 1 ≤ x) (x2 : x < 9223372036854775808) : db x = x + 4503599627370496 := by unfold db; rw [mg_of_lt x2, if_neg (by omega)]
theorem md_of {x : Nat} (x1 : 4503599627370496 ≤ x) (x2 : x + 4503599627370496 < 9218868437227405312) : Md x := by unfold Md; rw [mg_of_lt (by omega)]; omega
theorem md_db {x : Nat} (x1 : 4503599627370496 ≤ x) (x2 : x + 9007199254740992 < 9218868437227405312) : Md (db x) := by
  have e := db_of (x := x) (by omega) (by omega)
  exact md_of (by omega) (by omega)
theorem db_db {x : Nat} (x1 : 4503599627370496 ≤ x) (x2 : x + 9007199254740992 < 9218868437227405312) : db (db x) = x + 9007199254740992 := by
  have e := db_of (x := x) (by omega) (by omega)
  have e2 := db_of (x := db x) (by omega) (by omega)
  omega
/-- Leer above nothing, ahead of the look whether it is finite -/
def leer (a b : Nat) : Nat := dvB (mlB (mlB 4611686018427387904 a) b) (plB a b)
set_option maxRecDepth 100000 in
theorem leer_db {a b : Nat} (a1 : 3110860544497550640 ≤ a) (a2 : a ≤ 6103021453049119613) (b1 : 3110860544497550640 ≤ b) (b2 : b ≤ 6103021453049119613) :
    leer (db a) (db b) = db (leer a b) ∧ 4503599627370496 ≤ leer a b ∧ leer a b ≤ 9146810843189477376 := by
  have ea := db_of (x := a) (by omega) (by omega)
  have eb := db_of (x := b) (by omega) (by omega)
  have eaa := db_db (x := a) (by omega) (by omega)
  have ma := md_of (x := a) (by omega) (by omega)
  have mda : Md (db a) := md_db (by omega) (by omega)
  have mb := md_of (x := b) (by omega) (by omega)
  have mdda : Md (db (db a)) := md_db (by omega) (by omega)
  have la : db a < 18446744073709551616 := by omega
  have laa : db (db a) < 18446744073709551616 := by omega
  have t1 : mlB 4611686018427387904 a = db a := two_db (by omega) ma
  have t2 : mlB 4611686018427387904 (db a) = db (db a) := two_db la mda
  have f1 := far2 (x := db a) (y := b) (by omega) (by omega) b1 (by omega)
  have f2 := far2 (x := db (db a)) (y := b) (by omega) (by omega) b1 (by omega)
  have p1 : mlB (db (db a)) (db b) = db (db (mlB (db a) b)) := by
    rw [mlB_dbr laa (by omega) mdda mb f2.1, mlB_db la (by omega) mda mb f1.1]
  have ka : Ps 6103021453049119613 a := ⟨.inr (by rw [mg_of_lt (by omega)]; omega), by omega⟩
  have kb : Ps 6103021453049119613 b := ⟨.inr (by rw [mg_of_lt (by omega)]; omega), by omega⟩
  obtain ⟨s1, s2⟩ := plB_db ka kb (by omega) (by omega)
  have hs := plB_nn (a := a) (b := b) (by omega) (by omega)
  have hs2 : plB a b ≤ 6107525052676490109 := by
    rcases s2.1 with h | h
    · rw [s2.mg] at h; omega
    · rw [s2.mg] at h; omega
  unfold leer
  rw [t2, t1, p1, s1]
  generalize mlB (db a) b = p at *
  generalize plB a b = s at *
  have ep := db_of (x := p) (by omega) (by omega)
  have mdp : Md (db p) := md_db (by omega) (by omega)
  have ms : Md s := md_of (by omega) (by omega)
  rw [dvB_db (by omega) (by omega) mdp ms (by rw [mg_of_lt (by omega)]; omega)]
  exact dvB_dbn (by omega) (by omega) (by omega) (by omega) (by omega) (by omega)
theorem sbee_db {a b : Nat} (a1 : 4503599627370496 ≤ a) (a2 : a + 9007199254740992 < 9218868437227405312) (b1 : 4503599627370496 ≤ b) (b2 : b + 9007199254740992 < 9218868437227405312) : sbee (db a) (db b) = db (sbee a b) := by
  have ea := db_of (x := a) (by omega) (by omega)
  have eb := db_of (x := b) (by omega) (by omega)
  have t1 : mlB 4611686018427387904 a = db a := two_db (by omega) (md_of a1 (by omega))
  have t2 : mlB 4611686018427387904 b = db b := two_db (by omega) (md_of b1 (by omega))
  have t3 : mlB 4611686018427387904 (db a) = db (db a) := two_db (by omega) (md_db a1 (by omega))
  have t4 : mlB 4611686018427387904 (db b) = db (db b) := two_db (by omega) (md_db b1 (by omega))
  have eaa := db_db a1 (by omega)
  have ebb := db_db b1 (by omega)
  unfold sbee
  rw [t1, t2, t3, t4]
  have em : ∀ m, m = max (min (db a) b) (min a (db b)) → 1 ≤ m ∧ m < 9223372036854775808 := by intro m hm; omega
  have e5 := db_of (x := max (min (db a) b) (min a (db b))) (em _ rfl).1 (em _ rfl).2
  omega
end Go.Proofs.Ytgbaaafikphafaa
