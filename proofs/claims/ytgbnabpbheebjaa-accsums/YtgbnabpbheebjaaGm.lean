/-
  Merge: what becomes of the sums.
-/
import Derived.Test.YtgbnabpbheebjaaGl
namespace Go.Proofs.Ytgbnabpbheebjaa
open Go.RowKit Tf

/-- both sums together -/
def plusS (S U : AS) : AS := ⟨S.c + U.c, S.n + U.n, S.V + U.V, S.p || U.p, S.q || U.q, S.r || U.r⟩
theorem encA_congr (S S' : AS) (hc : S.c = S'.c) (hn : S.n = S'.n) (hV : ∀ j, j < 66 → dg S.V j = dg S'.V j) (hp : S.p = S'.p) (hq : S.q = S'.q) (hr : S.r = S'.r) : encA S = encA S' := by
  unfold encA
  rw [hc, hn, hp, hq, hr]
  exact enW_congr _ _ _ _ hV (by rw [baseC_size]; omega)
theorem IsAcc.word {g : Nat} {S : AS} {w : World} (h : IsAcc g S w) (k : Nat) (hk : k < 66) : w.cell? ⟨g, 2 + k, none⟩ = some (.int .u64 (dg S.V k)) := row_cell g 2 k _ _ _ w h hk (by rw [baseC_size]; omega)
/-- 2 to the number of bits of all words -/
def PW : Int := ((2 ^ (64 * 66) : Nat) : Int)
theorem PW_eq (n : Nat) (h : n = 66) : ((2 ^ (64 * n) : Nat) : Int) = PW := by subst h; rfl
theorem PW_pos : 0 < PW := by have := p64_pos 66; rw [PW_eq 66 rfl] at this; exact this
theorem fadd66 (g o h p cap : Nat) (T : TypeId) (C : Array Value) (off : Bool) (V N : Int) (w : World)
    (hg : w.heap[g]? = some (.cells (enW C o (dg V)) T)) (ho : o + 66 ≤ C.size) (N0 : 0 ≤ N) (N1 : N < PW)
    (hn : (h ≠ g ∧ ∀ k, k < 66 → w.cell? ⟨h, p + k, none⟩ = some (.int .u64 (dg N k))) ∨ (h = g ∧ p = o ∧ ∀ k, k < 66 → dg V k = dg N k)) :
    Calls Try.prog 33 #[.pointer (some ⟨g, o, none⟩), .slice (some ⟨h, p, none⟩) 66 cap, .int .i64 0, .bool off] w fun e w' => e = .returned (.tuple #[]) ∧
      Hid (w'.heap[g]? = some (.cells (enW C o (dg (if off then V - N else V + N))) T)) ∧ Hid (Only g w w') := by
  have key : ∀ n : Nat, n = 66 → Calls Try.prog 33 #[.pointer (some ⟨g, o, none⟩), .slice (some ⟨h, p, none⟩) n cap, .int .i64 0, .bool off] w fun e w' => e = .returned (.tuple #[]) ∧
      Hid (w'.heap[g]? = some (.cells (enW C o (dg (if off then V - N else V + N))) T)) ∧ Hid (Only g w w') := by
    intro n hn'
    have := fadd_at g o h p n 0 cap T C off V N w hg ho (by omega) N0 (by rw [PW_eq n hn']; exact N1) (by
      rw [hn']
      rcases hn with h1 | ⟨h1, h2, h3⟩
      · exact Or.inl h1
      · exact Or.inr ⟨h1, h2, rfl, h3⟩)
    rw [show ((2 ^ (64 * 0) : Nat) : Int) = 1 by decide, Int.mul_one] at this
    exact this
  exact key 66 rfl
theorem mod_dg (V : Int) (k : Nat) (hk : k < 66) : dg (V % PW) k = dg V k := by
  have h := Int.mul_ediv_add_emod V PW
  refine (dg_congr V _ (V / PW) 66 k ?_ hk).symm
  rw [PW_eq 66 rfl, Int.mul_comm (V / _)]; omega
theorem sum_dg (V U : Int) (k : Nat) (hk : k < 66) : dg (V + U % PW) k = dg (V + U) k := by
  have h := Int.mul_ediv_add_emod U PW
  refine (dg_congr (V + U) _ (U / PW) 66 k ?_ hk).symm
  rw [PW_eq 66 rfl, Int.mul_comm (U / _)]; omega

/-- MERGE OF TWO SUMS -/
theorem merge_at (g h : Nat) (S U : AS) (w : World) (hne : g ≠ h) (hg : IsAcc g S w) (hh : IsAcc h U w) (c0 : 0 ≤ S.c) (d0 : 0 ≤ U.c) (hc : S.c + U.c ≤ 1048576) (n0 : 0 ≤ S.n) (n1 : S.n ≤ S.c) (m0 : 0 ≤ U.n) (m1 : U.n ≤ U.c) :
    Calls Try.prog 16 #[.pointer (some ⟨g, 0, none⟩), .pointer (some ⟨h, 0, none⟩)] w fun e w' => e = .returned (.int .i64 0) ∧ (Hid (IsAcc g (plusS S U) w') ∧ Hid (But g w w')) := by
  have a1 := (hg.s0 (S.c + U.c)).s1 (S.n + U.n)
  have b1 : But g w ((w.setCell ⟨g, 0, none⟩ (.int .i64 (S.c + U.c))).setCell ⟨g, 1, none⟩ (.int .i64 (S.n + U.n))).drew.drew.drew.drew := ((only_set _ _ _ _).but.trans (only_set _ _ _ _).but).drew.drew.drew.drew
  have a4 : IsAcc g ⟨S.c + U.c, S.n + U.n, S.V, S.p, S.q, S.r⟩ ((w.setCell ⟨g, 0, none⟩ (.int .i64 (S.c + U.c))).setCell ⟨g, 1, none⟩ (.int .i64 (S.n + U.n))).drew.drew.drew.drew := a1
  clear a1
  have hpos := PW_pos
  refine merge_go g h hne S.c U.c S.n U.n S.p S.q S.r U.p U.q U.r w _ hg.c0 hh.c0 c0 (by omega) d0 (by omega) hc hg.c1 hh.c1 n0 (by omega) m0 (by omega) (by omega) (hg.fr _) (hg.fr _)
    (fun w' => Hid (IsAcc g { S with c := S.c + U.c, n := S.n + U.n, V := S.V + U.V } w') ∧ Hid (But g w w')) ?_ ?_ ?_
  · refine (fadd66 g 2 h 2 66 56 _ false S.V (U.V % PW) _ a4 (by rw [baseC_size]; omega) (Int.emod_nonneg _ (by omega)) (Int.emod_lt_of_pos _ hpos) (Or.inl ⟨fun e => hne e.symm, fun k hk => ?_⟩)).mono ?_
    · rw [mod_dg _ _ hk]
      exact (hh.but b1 (fun e => hne e.symm)).word k hk
    · rintro e w' ⟨h1, h2, h3⟩
      refine ⟨h1, ?_, b1.trans ⟨h3.out.os, h3.out.tape, h3.out.output, by rw [h3.out.size]; exact Nat.le_refl _, fun k hk _ => h3.out.block k hk⟩⟩
      have h2' := h2.out
      rw [if_neg (by decide), enW_congr _ 2 _ (dg (S.V + U.V)) (fun j hj => sum_dg S.V U.V j hj) (by rw [baseC_size]; omega)] at h2'
      exact h2'
  · rintro w' ⟨h1, h2⟩
    have hh' := hh.but h2.out (fun e => hne e.symm)
    exact ⟨⟨h1.out.c68, hh'.c68, h1.out.c69, hh'.c69, h1.out.c70, hh'.c70⟩, h1.out.fr _, h1.out.fr _, h1.out.fr _⟩
  · rintro w' ⟨h1, h2⟩
    exact ⟨((h1.out.s68 _).s69 _).s70 _, h2.out.trans ((only_set _ _ _ _).but.trans ((only_set _ _ _ _).but.trans (only_set _ _ _ _).but))⟩
/-- MERGE OF A SUM WITH ITSELF -/
theorem merge_own (g : Nat) (S : AS) (w : World) (hg : IsAcc g S w) (c0 : 0 ≤ S.c) (hc : S.c + S.c ≤ 1048576) (n0 : 0 ≤ S.n) (n1 : S.n ≤ S.c) :
    Calls Try.prog 16 #[.pointer (some ⟨g, 0, none⟩), .pointer (some ⟨g, 0, none⟩)] w fun e w' => e = .returned (.int .i64 0) ∧ (Hid (IsAcc g (plusS S S) w') ∧ Hid (But g w w')) := by
  have a1 := (hg.s0 (S.c + S.c)).s1 (S.n + S.n)
  have b1 : But g w ((w.setCell ⟨g, 0, none⟩ (.int .i64 (S.c + S.c))).setCell ⟨g, 1, none⟩ (.int .i64 (S.n + S.n))).drew.drew.drew.drew := ((only_set _ _ _ _).but.trans (only_set _ _ _ _).but).drew.drew.drew.drew
  have a4 : IsAcc g ⟨S.c + S.c, S.n + S.n, S.V, S.p, S.q, S.r⟩ ((w.setCell ⟨g, 0, none⟩ (.int .i64 (S.c + S.c))).setCell ⟨g, 1, none⟩ (.int .i64 (S.n + S.n))).drew.drew.drew.drew := a1
  clear a1
  have hpos := PW_pos
  have hS : plusS S S = ⟨S.c + S.c, S.n + S.n, S.V + S.V, S.p, S.q, S.r⟩ := by unfold plusS; simp
  rw [hS]
  refine merge_self g S.c S.n S.p S.q S.r w _ hg.c0 c0 (by omega) hc hg.c1 n0 (by omega) (hg.fr _) (hg.fr _)
    (fun w' => Hid (IsAcc g { S with c := S.c + S.c, n := S.n + S.n, V := S.V + S.V } w') ∧ Hid (But g w w')) ?_ ?_ ?_
  · refine (fadd66 g 2 g 2 66 56 _ false S.V (S.V % PW) _ a4 (by rw [baseC_size]; omega) (Int.emod_nonneg _ (by omega)) (Int.emod_lt_of_pos _ hpos) (Or.inr ⟨rfl, rfl, fun k hk => (mod_dg _ _ hk).symm⟩)).mono ?_
    rintro e w' ⟨h1, h2, h3⟩
    refine ⟨h1, ?_, b1.trans ⟨h3.out.os, h3.out.tape, h3.out.output, by rw [h3.out.size]; exact Nat.le_refl _, fun k hk _ => h3.out.block k hk⟩⟩
    have h2' := h2.out
    rw [if_neg (by decide), enW_congr _ 2 _ (dg (S.V + S.V)) (fun j hj => sum_dg S.V S.V j hj) (by rw [baseC_size]; omega)] at h2'
    exact h2'
  · rintro w' ⟨h1, h2⟩
    exact ⟨⟨h1.out.c68, h1.out.c69, h1.out.c70⟩, h1.out.fr _, h1.out.fr _, h1.out.fr _⟩
  · rintro w' ⟨h1, h2⟩
    exact ⟨((h1.out.s68 _).s69 _).s70 _, h2.out.trans ((only_set _ _ _ _).but.trans ((only_set _ _ _ _).but.trans (only_set _ _ _ _).but))⟩
end Go.Proofs.Ytgbnabpbheebjaa
