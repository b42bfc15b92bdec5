/-
  The reference: a product more, and two sums put together: walks over the program, and what becomes of the sum.
-/
import Derived.Test.YtgbnabpbheebjaaRo
import Derived.Deep.Cut
import Derived.Deep.CutRange
namespace Go.Proofs.Ytgbnabpbheebjaa
open Go.RowKit Tf
attribute [local go_sem] run_bits run_from raw_feq raw_fne raw_flt raw_fgt run_neg

theorem IsR.drew5 {g : Nat} {f : Nat → Int} {c : Int} {p q r o : Bool} {w : World} (h : IsR g f c p q r o w) : IsR g f c p q r o w.drew := h
theorem IsR.congr5 {g : Nat} {f : Nat → Int} {c : Int} {p q r o : Bool} {w : World} (h : IsR g f c p q r o w) (f' : Nat → Int) (hf : ∀ k, k < 136 → f k = f' k) : IsR g f' c p q r o w := by
  unfold IsR at h ⊢
  rw [h]
  have : encR f c p q r o = encR f' c p q r o := by
    apply Array.ext_getElem?
    intro i
    rw [encR_get, encR_get]
    by_cases ci : i < 136
    · rw [if_pos ci, if_pos ci, hf i ci]
    · rw [if_neg ci, if_neg ci]
  rw [this]
set_option maxHeartbeats 2000000 in
theorem rmerge_nil1 (p : Value) (w : World) : Calls Try.prog 17 #[.pointer none, p] w fun e w' => e = .returned (.int .i64 2) ∧ w' = w := by
  go_enter Try.func17, Try.ntmps17
  go_wp2
  go_ret
  exact ⟨rfl, rfl⟩
set_option maxHeartbeats 2000000 in
theorem rmerge_nil2 (g : Nat) (w : World) : Calls Try.prog 17 #[.pointer (some ⟨g, 0, none⟩), .pointer none] w fun e w' => e = .returned (.int .i64 2) ∧ w' = w := by
  go_enter Try.func17, Try.ntmps17
  go_wp2
  go_ret
  exact ⟨rfl, rfl⟩
set_option maxHeartbeats 2000000 in
theorem rmerge_long (g h : Nat) (c d : Int) (w : World) (h0 : w.cell? ⟨g, 136, none⟩ = some (.int .i64 c)) (h1 : w.cell? ⟨h, 136, none⟩ = some (.int .i64 d)) (c0 : 0 ≤ c) (c1 : c ≤ 1048576) (d0 : 0 ≤ d) (d1 : d ≤ 1048576) (hc : 1048576 < c + d) :
    Calls Try.prog 17 #[.pointer (some ⟨g, 0, none⟩), .pointer (some ⟨h, 0, none⟩)] w fun e w' => e = .returned (.int .i64 3) ∧ w' = w.drew := by
  go_enter Try.func17, Try.ntmps17
  go_wp2
  go_region
  go_wp2
  go_ret
  exact ⟨rfl, rfl⟩
set_option maxHeartbeats 8000000 in
set_option maxRecDepth 100000 in
theorem rmerge_go (g h : Nat) (f u : Nat → Int) (c d : Int) (p q r o p2 q2 r2 o2 : Bool) (w : World) (_hne : g ≠ h) (hne2 : h ≠ g) (HG : Hid (IsR g f c p q r o w)) (HU : Hid (IsR h u d p2 q2 r2 o2 w)) (c0 : 0 ≤ c) (c1 : c ≤ 1048576) (d0 : 0 ≤ d) (d1 : d ≤ 1048576) (hc : c + d ≤ 1048576) (B : Int) (HB : Hid (B ≤ 36028797018963968)) (LF : Hid (Lim f B)) (LU : Hid (Lim u B)) :
    Calls Try.prog 17 #[.pointer (some ⟨g, 0, none⟩), .pointer (some ⟨h, 0, none⟩)] w fun e w' => e = .returned (.int .i64 0) ∧ (Hid (IsR g (fun k => f k + u k) (c + d) (p || p2) (q || q2) (r || r2) (o || o2) w') ∧ Hid (Only g w w')) := by
  have h0 := HG.out.cc
  have hf0 := HG.out.fr 136
  have h1 := HU.out.cc
  have ha0 := HG.out.cp
  have hf1 := HG.out.fr 137
  have hb0 := HU.out.cp
  have ha1 := HG.out.cq
  have hf2 := HG.out.fr 138
  have hb1 := HU.out.cq
  have ha2 := HG.out.cr
  have hf3 := HG.out.fr 139
  have hb2 := HU.out.cr
  have ha3 := HG.out.co
  have hf4 := HG.out.fr 140
  have hb3 := HU.out.co
  go_enter Try.func17, Try.ntmps17
  go_wp2
  go_region
  go_wp2
  go_region
  go_upto_region 6 with fail
  go_cut [4] from 34 to 46 (fun s4 wx => s4 = .int .i64 0 ∧ wx = ((w.setCell ⟨g, 136, none⟩ (.int .i64 (c + d))).setCell ⟨g, 137, none⟩ (.bool (p || p2))).drew.drew)
  case first =>
    cases p <;> (go_wp2_with fail; go_meet; exact ⟨rfl, rfl⟩)
  case rest =>
  obtain ⟨rfl, rfl⟩ := hcut
  go_upto_region 7 with fail
  go_cut [4] from 47 to 59 (fun s4 wx => s4 = .int .i64 0 ∧ wx = (((w.setCell ⟨g, 136, none⟩ (.int .i64 (c + d))).setCell ⟨g, 137, none⟩ (.bool (p || p2))).setCell ⟨g, 138, none⟩ (.bool (q || q2))).drew.drew)
  case first =>
    cases q <;> (go_wp2_with fail; go_meet; exact ⟨rfl, rfl⟩)
  case rest =>
  obtain ⟨rfl, rfl⟩ := hcut
  go_upto_region 8 with fail
  go_cut [4] from 60 to 72 (fun s4 wx => s4 = .int .i64 0 ∧ wx = ((((w.setCell ⟨g, 136, none⟩ (.int .i64 (c + d))).setCell ⟨g, 137, none⟩ (.bool (p || p2))).setCell ⟨g, 138, none⟩ (.bool (q || q2))).setCell ⟨g, 139, none⟩ (.bool (r || r2))).drew.drew)
  case first =>
    cases r <;> (go_wp2_with fail; go_meet; exact ⟨rfl, rfl⟩)
  case rest =>
  obtain ⟨rfl, rfl⟩ := hcut
  go_upto_region 9 with fail
  go_cut [4] from 73 to 85 (fun s4 wx => s4 = .int .i64 0 ∧ wx = (((((w.setCell ⟨g, 136, none⟩ (.int .i64 (c + d))).setCell ⟨g, 137, none⟩ (.bool (p || p2))).setCell ⟨g, 138, none⟩ (.bool (q || q2))).setCell ⟨g, 139, none⟩ (.bool (r || r2))).setCell ⟨g, 140, none⟩ (.bool (o || o2))).drew.drew)
  case first =>
    cases o <;> (go_wp2_with fail; go_meet; exact ⟨rfl, rfl⟩)
  case rest =>
  obtain ⟨rfl, rfl⟩ := hcut
  have R0 : IsR g f (c + d) (p || p2) (q || q2) (r || r2) (o || o2) (((((w.setCell ⟨g, 136, none⟩ (.int .i64 (c + d))).setCell ⟨g, 137, none⟩ (.bool (p || p2))).setCell ⟨g, 138, none⟩ (.bool (q || q2))).setCell ⟨g, 139, none⟩ (.bool (r || r2))).setCell ⟨g, 140, none⟩ (.bool (o || o2))).drew.drew := (((((HG.out.sc _).sp _).sq _).sr _).so _).drew5.drew5
  have O0 : Only g w (((((w.setCell ⟨g, 136, none⟩ (.int .i64 (c + d))).setCell ⟨g, 137, none⟩ (.bool (p || p2))).setCell ⟨g, 138, none⟩ (.bool (q || q2))).setCell ⟨g, 139, none⟩ (.bool (r || r2))).setCell ⟨g, 140, none⟩ (.bool (o || o2))).drew.drew := (((((only_set _ _ _ _).trans (only_set _ _ _ _)).trans (only_set _ _ _ _)).trans (only_set _ _ _ _)).trans (only_set _ _ _ _)).drew.drew
  obtain ⟨V, hV⟩ : ∃ V, (((((w.setCell ⟨g, 136, none⟩ (.int .i64 (c + d))).setCell ⟨g, 137, none⟩ (.bool (p || p2))).setCell ⟨g, 138, none⟩ (.bool (q || q2))).setCell ⟨g, 139, none⟩ (.bool (r || r2))).setCell ⟨g, 140, none⟩ (.bool (o || o2))).drew.drew = V := ⟨_, rfl⟩
  rw [hV] at R0 O0
  rw [hV]
  have HR0 := hid R0
  have HO0 := hid O0
  clear hV R0 O0 h0 hf0 h1 ha0 ha1 ha2 ha3 hf1 hf2 hf3 hf4 hb0 hb1 hb2 hb3
  go_wp2
  go_loopw [5] (fun iv wr => ∃ i : Nat, i ≤ 136 ∧ iv = .int .i64 (i : Nat) ∧ Hid (IsR g (fun k => if k < i then f k + u k else f k) (c + d) (p || p2) (q || q2) (r || r2) (o || o2) wr) ∧ Hid (Only g w wr)) (fun iv _ => 136 - (intOf iv).toNat)
  case atStart => exact ⟨0, by omega, rfl, HR0.out.congr5 _ (fun k _ => by rw [if_neg (Nat.not_lt_zero k)]), HO0⟩
  case round =>
    clear HR0 HO0
    obtain ⟨i, hi, rfl, hr, ho⟩ := hrel
    by_cases hlt : i < 136
    · have e1 := hr.out.limb i hlt
      rw [if_neg (Nat.lt_irrefl i)] at e1
      have fr := hr.out.fr i
      have hu' : IsR h u d p2 q2 r2 o2 wr := by
        unfold IsR
        rw [ho.out.block h hne2]; exact HU.out
      have e2 := hu'.limb i hlt
      have b1 := LF.out i
      have b2 := LU.out i
      have hB := HB.out
      have N1 : Hid (IsR g (fun k => if k < i + 1 then f k + u k else f k) (c + d) (p || p2) (q || q2) (r || r2) (o || o2) (wr.setCell ⟨g, i, none⟩ (.int .i64 (f i + u i)))) := by
        have := hr.out.sl i (f i + u i) hlt
        have e : upd (fun k => if k < i then f k + u k else f k) i (f i + u i) = fun k => if k < i + 1 then f k + u k else f k := by
          funext k
          unfold upd
          by_cases ck : k = i
          · subst ck; rw [if_pos rfl, if_pos (Nat.lt_succ_self _)]
          · rw [if_neg ck]
            simp only [show (k < i + 1) = (k < i) from propext ⟨fun _ => by omega, fun _ => by omega⟩]
        rw [e] at this
        exact this
      have N2 : Hid (Only g w (wr.setCell ⟨g, i, none⟩ (.int .i64 (f i + u i)))) := ho.out.trans (only_set _ _ _ _)
      obtain ⟨x, hx⟩ : ∃ x, f i = x := ⟨_, rfl⟩
      obtain ⟨y, hy⟩ : ∃ x, u i = x := ⟨_, rfl⟩
      rw [hx] at e1 b1
      rw [hy] at e2 b2
      rw [hx, hy] at N1 N2
      have x0 : -36028797018963968 ≤ x := by omega
      have x1 : x ≤ 36028797018963968 := by omega
      have y0 : -36028797018963968 ≤ y := by omega
      have y1 : y ≤ 36028797018963968 := by omega
      have il : (i : Int) < 136 := by omega
      have HI : Hid (i < 136) := hlt
      clear hx hy hu' hlt hi hr ho b1 b2 hB HG HU LU LF HB
      go_wp2
      go_region
      all_goals go_wp2
      all_goals exact ⟨⟨i + 1, HI.out, by simp, N1.out.drew5, N2.out.drew⟩, by have := HI.out; simp [intOf]; omega⟩
    · obtain rfl : i = 136 := by omega
      have hw' : IsR g (fun k => f k + u k) (c + d) (p || p2) (q || q2) (r || r2) (o || o2) wr := by
        exact hr.out.congr5 _ (fun k hk => by rw [if_pos hk])
      have N1 := hid hw'
      clear hlt hi hr hw'
      go_wp2
      go_ret
      exact ⟨rfl, N1, ho⟩
set_option maxHeartbeats 8000000 in
set_option maxRecDepth 100000 in
theorem rmerge_self (g : Nat) (f : Nat → Int) (c : Int) (p q r o : Bool) (w : World) (HG : Hid (IsR g f c p q r o w)) (c0 : 0 ≤ c) (c1 : c ≤ 1048576) (hc : c + c ≤ 1048576) (B : Int) (HB : Hid (B ≤ 36028797018963968)) (LF : Hid (Lim f B)) :
    Calls Try.prog 17 #[.pointer (some ⟨g, 0, none⟩), .pointer (some ⟨g, 0, none⟩)] w fun e w' => e = .returned (.int .i64 0) ∧ (Hid (IsR g (fun k => f k + f k) (c + c) p q r o w') ∧ Hid (Only g w w')) := by
  have h0 := HG.out.cc
  have hf0 := HG.out.fr 136
  have ha0 := HG.out.cp
  have hf1 := HG.out.fr 137
  have ha1 := HG.out.cq
  have hf2 := HG.out.fr 138
  have ha2 := HG.out.cr
  have hf3 := HG.out.fr 139
  have ha3 := HG.out.co
  have hf4 := HG.out.fr 140
  go_enter Try.func17, Try.ntmps17
  go_wp2
  go_region
  go_wp2
  go_region
  go_upto_region 6 with fail
  go_cut [4] from 34 to 46 (fun s4 wx => s4 = .int .i64 0 ∧ wx = ((w.setCell ⟨g, 136, none⟩ (.int .i64 (c + c))).setCell ⟨g, 137, none⟩ (.bool p)).drew.drew)
  case first =>
    cases p <;> (go_wp2_with fail; go_meet; exact ⟨rfl, rfl⟩)
  case rest =>
  obtain ⟨rfl, rfl⟩ := hcut
  go_upto_region 7 with fail
  go_cut [4] from 47 to 59 (fun s4 wx => s4 = .int .i64 0 ∧ wx = (((w.setCell ⟨g, 136, none⟩ (.int .i64 (c + c))).setCell ⟨g, 137, none⟩ (.bool p)).setCell ⟨g, 138, none⟩ (.bool q)).drew.drew)
  case first =>
    cases q <;> (go_wp2_with fail; go_meet; exact ⟨rfl, rfl⟩)
  case rest =>
  obtain ⟨rfl, rfl⟩ := hcut
  go_upto_region 8 with fail
  go_cut [4] from 60 to 72 (fun s4 wx => s4 = .int .i64 0 ∧ wx = ((((w.setCell ⟨g, 136, none⟩ (.int .i64 (c + c))).setCell ⟨g, 137, none⟩ (.bool p)).setCell ⟨g, 138, none⟩ (.bool q)).setCell ⟨g, 139, none⟩ (.bool r)).drew.drew)
  case first =>
    cases r <;> (go_wp2_with fail; go_meet; exact ⟨rfl, rfl⟩)
  case rest =>
  obtain ⟨rfl, rfl⟩ := hcut
  go_upto_region 9 with fail
  go_cut [4] from 73 to 85 (fun s4 wx => s4 = .int .i64 0 ∧ wx = (((((w.setCell ⟨g, 136, none⟩ (.int .i64 (c + c))).setCell ⟨g, 137, none⟩ (.bool p)).setCell ⟨g, 138, none⟩ (.bool q)).setCell ⟨g, 139, none⟩ (.bool r)).setCell ⟨g, 140, none⟩ (.bool o)).drew.drew)
  case first =>
    cases o <;> (go_wp2_with fail; go_meet; exact ⟨rfl, rfl⟩)
  case rest =>
  obtain ⟨rfl, rfl⟩ := hcut
  have R0 : IsR g f (c + c) p q r o (((((w.setCell ⟨g, 136, none⟩ (.int .i64 (c + c))).setCell ⟨g, 137, none⟩ (.bool p)).setCell ⟨g, 138, none⟩ (.bool q)).setCell ⟨g, 139, none⟩ (.bool r)).setCell ⟨g, 140, none⟩ (.bool o)).drew.drew := (((((HG.out.sc _).sp _).sq _).sr _).so _).drew5.drew5
  have O0 : Only g w (((((w.setCell ⟨g, 136, none⟩ (.int .i64 (c + c))).setCell ⟨g, 137, none⟩ (.bool p)).setCell ⟨g, 138, none⟩ (.bool q)).setCell ⟨g, 139, none⟩ (.bool r)).setCell ⟨g, 140, none⟩ (.bool o)).drew.drew := (((((only_set _ _ _ _).trans (only_set _ _ _ _)).trans (only_set _ _ _ _)).trans (only_set _ _ _ _)).trans (only_set _ _ _ _)).drew.drew
  obtain ⟨V, hV⟩ : ∃ V, (((((w.setCell ⟨g, 136, none⟩ (.int .i64 (c + c))).setCell ⟨g, 137, none⟩ (.bool p)).setCell ⟨g, 138, none⟩ (.bool q)).setCell ⟨g, 139, none⟩ (.bool r)).setCell ⟨g, 140, none⟩ (.bool o)).drew.drew = V := ⟨_, rfl⟩
  rw [hV] at R0 O0
  rw [hV]
  have HR0 := hid R0
  have HO0 := hid O0
  clear hV R0 O0 h0 hf0 ha0 ha1 ha2 ha3 hf1 hf2 hf3 hf4 
  go_wp2
  go_loopw [5] (fun iv wr => ∃ i : Nat, i ≤ 136 ∧ iv = .int .i64 (i : Nat) ∧ Hid (IsR g (fun k => if k < i then f k + f k else f k) (c + c) p q r o wr) ∧ Hid (Only g w wr)) (fun iv _ => 136 - (intOf iv).toNat)
  case atStart => exact ⟨0, by omega, rfl, HR0.out.congr5 _ (fun k _ => by rw [if_neg (Nat.not_lt_zero k)]), HO0⟩
  case round =>
    clear HR0 HO0
    obtain ⟨i, hi, rfl, hr, ho⟩ := hrel
    by_cases hlt : i < 136
    · have e1 := hr.out.limb i hlt
      rw [if_neg (Nat.lt_irrefl i)] at e1
      have fr := hr.out.fr i
      have b1 := LF.out i
      have b2 := LF.out i
      have hB := HB.out
      have N1 : Hid (IsR g (fun k => if k < i + 1 then f k + f k else f k) (c + c) p q r o (wr.setCell ⟨g, i, none⟩ (.int .i64 (f i + f i)))) := by
        have := hr.out.sl i (f i + f i) hlt
        have e : upd (fun k => if k < i then f k + f k else f k) i (f i + f i) = fun k => if k < i + 1 then f k + f k else f k := by
          funext k
          unfold upd
          by_cases ck : k = i
          · subst ck; rw [if_pos rfl, if_pos (Nat.lt_succ_self _)]
          · rw [if_neg ck]
            simp only [show (k < i + 1) = (k < i) from propext ⟨fun _ => by omega, fun _ => by omega⟩]
        rw [e] at this
        exact this
      have N2 : Hid (Only g w (wr.setCell ⟨g, i, none⟩ (.int .i64 (f i + f i)))) := ho.out.trans (only_set _ _ _ _)
      obtain ⟨x, hx⟩ : ∃ x, f i = x := ⟨_, rfl⟩
      rw [hx] at e1 b1 b2 N1 N2
      have x0 : -36028797018963968 ≤ x := by omega
      have x1 : x ≤ 36028797018963968 := by omega
      have il : (i : Int) < 136 := by omega
      have HI : Hid (i < 136) := hlt
      clear hx hlt hi hr ho b1 b2 hB HG LF HB
      go_wp2
      go_region
      all_goals go_wp2
      all_goals exact ⟨⟨i + 1, HI.out, by simp, N1.out.drew5, N2.out.drew⟩, by have := HI.out; simp [intOf]; omega⟩
    · obtain rfl : i = 136 := by omega
      have hw' : IsR g (fun k => f k + f k) (c + c) p q r o wr := by
        exact hr.out.congr5 _ (fun k hk => by rw [if_pos hk])
      have N1 := hid hw'
      clear hlt hi hr hw'
      go_wp2
      go_ret
      exact ⟨rfl, N1, ho⟩
end Go.Proofs.Ytgbnabpbheebjaa
namespace Go.Proofs.Ytgbnabpbheebjaa
open Go.RowKit Tf

theorem valN_add (f u : Nat → Int) (n : Nat) : valN (fun k => f k + u k) n = valN f n + valN u n := by
  induction n with
  | zero => rfl
  | succ n ih =>
    show valN _ n + (f n + u n) * _ = (valN f n + f n * _) + (valN u n + u n * _)
    rw [ih, Int.add_mul]; omega
theorem Lim.add {f u : Nat → Int} {B D : Int} (h : Lim f B) (k : Lim u D) : Lim (fun k => f k + u k) (B + D) := fun i => by
  have h1 := h i
  have h2 := k i
  show -(B + D) ≤ f i + u i ∧ f i + u i ≤ B + D
  omega
theorem rmerge_at (g h : Nat) (S U : AS) (w : World) (hne : g ≠ h) (hg : IsRef g S w) (hh : IsRef h U w) (hS : Good S) (hU : Good U) (hc : S.c + U.c ≤ 1048576) :
    Calls Try.prog 17 #[.pointer (some ⟨g, 0, none⟩), .pointer (some ⟨h, 0, none⟩)] w fun e w' => e = .returned (.int .i64 0) ∧ (Hid (IsRef g (plusS S U) w') ∧ Hid (Only g w w')) := by
  obtain ⟨f, a1, a2, a3⟩ := hg
  obtain ⟨u, b1, b2, b3⟩ := hh
  have s0 := hS.c0; have s1 := hS.c1; have s2 := hS.n1
  have u0 := hU.c0; have u1 := hU.c1; have u2 := hU.n1
  refine (rmerge_go g h f u S.c U.c _ _ _ _ _ _ _ _ w hne (Ne.symm hne) a1 b1 s0 s1 u0 u1 hc 36028797018963968 (by show (36028797018963968 : Int) ≤ 36028797018963968; omega) (a3.more (by omega)) (b3.more (by omega))).mono ?_
  rintro e w' ⟨he, k1, k2⟩
  refine ⟨he, ⟨fun k => f k + u k, ?_, ?_, ?_⟩, k2⟩
  · have ho : (decide (S.n ≠ S.c) || decide (U.n ≠ U.c)) = decide ((plusS S U).n ≠ (plusS S U).c) := by
      rw [Bool.eq_iff_iff, Bool.or_eq_true, decide_eq_true_iff, decide_eq_true_iff, decide_eq_true_iff]
      show (S.n ≠ S.c ∨ U.n ≠ U.c) ↔ S.n + U.n ≠ S.c + U.c
      constructor
      · rintro (h | h) <;> omega
      · intro h
        by_cases c : S.n = S.c
        · exact .inr (by omega)
        · exact .inl c
    rw [← ho]
    exact k1.out
  · rw [valN_add, a2, b2]
    show _ = (S.V + U.V) * _
    rw [Int.add_mul]
  · have := a3.add b3
    show Lim _ ((S.c + U.c) * _)
    rw [Int.add_mul]; exact this
theorem rmerge_own (g : Nat) (S : AS) (w : World) (hg : IsRef g S w) (hS : Good S) (hc : S.c + S.c ≤ 1048576) :
    Calls Try.prog 17 #[.pointer (some ⟨g, 0, none⟩), .pointer (some ⟨g, 0, none⟩)] w fun e w' => e = .returned (.int .i64 0) ∧ (Hid (IsRef g (plusS S S) w') ∧ Hid (Only g w w')) := by
  obtain ⟨f, a1, a2, a3⟩ := hg
  have s0 := hS.c0; have s1 := hS.c1; have s2 := hS.n1
  refine (rmerge_self g f S.c _ _ _ _ w a1 s0 s1 hc 36028797018963968 (by show (36028797018963968 : Int) ≤ 36028797018963968; omega) (a3.more (by omega))).mono ?_
  rintro e w' ⟨he, k1, k2⟩
  refine ⟨he, ⟨fun k => f k + f k, ?_, ?_, ?_⟩, k2⟩
  · have ho : decide (S.n ≠ S.c) = decide ((plusS S S).n ≠ (plusS S S).c) := by
      rw [Bool.eq_iff_iff, decide_eq_true_iff, decide_eq_true_iff]
      show S.n ≠ S.c ↔ S.n + S.n ≠ S.c + S.c
      constructor <;> intro h <;> omega
    rw [← ho]
    show IsR g _ (S.c + S.c) (S.p || S.p) (S.q || S.q) (S.r || S.r) _ w'
    rw [Bool.or_self, Bool.or_self, Bool.or_self]
    exact k1.out
  · rw [valN_add, a2]
    show _ = (S.V + S.V) * _
    rw [Int.add_mul]
  · have := a3.add a3
    show Lim _ ((S.c + S.c) * _)
    rw [Int.add_mul]; exact this
end Go.Proofs.Ytgbnabpbheebjaa
