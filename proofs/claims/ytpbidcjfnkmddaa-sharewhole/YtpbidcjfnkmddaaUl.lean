/-
  Cut against the document's answer, and its bounds: the walk (layer 14).
-/
import Derived.Test.YtpbidcjfnkmddaaUi
import Derived.Test.YtpbidcjfnkmddaaUh
namespace Go.Proofs.Ytpbidcjfnkmddaa
open Go.RowKit Go.Deep
namespace Sh
theorem wpList_zero {ops : Array Oper} {rest : List Oper} {o : Oper} {a : Act} {w : World} {Q : Exit → Act → World → Prop} (hgd : o.guard = none) (s x : Operand)
    (ho : o.op = .call { callee := .builtin .append, args := #[s, x], argTypes := #[29, 29] })
    (g : Nat) (hs : a.eval s = .slice (some ⟨g, 0, none⟩) 0 0) (src : Value) (hx : a.eval x = src) (hsrc : Src Try.prog 1 29 src 0 [] w)
    (h : wpList Try.prog ops Q rest (a.put o.dst (.slice (some ⟨g, 0, none⟩) 0 0)) w) : wpList Try.prog ops Q (o :: rest) a w := by
  obtain ⟨i0, hi, hz0, hz1, hz2⟩ := info_i
  refine wpList_plain hgd fun _ hK => ?_
  have hr := run_append_room_src (P := Try.prog) w 29 29 o.type 2 i0 Try.underlying29 hi g 0 0 0 src 0 [] (by rw [hz1]; exact hsrc) (Nat.le_refl _) (fun j hj => absurd hj (Nat.not_lt_zero j)) (fun j hj => absurd hj (Nat.not_lt_zero j))
  unfold Oper.wp execOp
  simp only [ho, resolve, invoke, builtin, Sem.run_bind, Sem.run_pure, Result.andThen_ok, List.map_toArray, List.map_cons, List.map_nil, hs, hx, hr]
  exact hK _ _ h
theorem news_in {w : World} {b o N : Nat} {D : Nat → Int} (h : IsI w (some ⟨b, o, none⟩) N D) : ∀ j u, (((List.range N).map D).map (Value.int .i64))[j]? = some u → w.cell? ((⟨b, o, none⟩ : Addr).add j) = some u := fun j u hu => by
  have hj : j < N := by
    rcases Nat.lt_or_ge j N with h1 | h1
    · exact h1
    · rw [List.getElem?_eq_none (by simpa using h1)] at hu; cases hu
  simp [hj] at hu
  rw [add_off, ← hu]
  exact (h.at0 hj).2.2
theorem cutL_len (W : Int) (n : Nat) (f : Nat → Int) : (cutL W n f).length = n := by unfold cutL; simp
theorem cutL_get {W : Int} {n : Nat} {f : Nat → Int} {i : Nat} (hi : i < n) : (cutL W n f).getD i 0 = cut1 W (sumN f n) (f i) := by
  unfold cutL
  simp [List.getD, hi]
theorem f_le {n : Nat} {f : Nat → Int} (hf : ∀ i, i < n → 0 ≤ f i) {i : Nat} (hi : i < n) : f i ≤ sumN f n := by
  have m := sumN_mono hf (m := i + 1) (by omega)
  have m0 := sumN_nn (f := f) (n := i) (fun j hj => hf j (by omega))
  have m1 : sumN f (i + 1) = sumN f i + f i := rfl
  omega
theorem cutL_in {W : Int} {n : Nat} {f : Nat → Int} (g : good W n f) {i : Nat} (hi : i < n) : 0 ≤ cut1 W (sumN f n) (f i) ∧ cut1 W (sumN f n) (f i) ≤ f i := cut1_in g.1 (g.2.1 i hi) (by have := f_le g.2.1 hi; have := g.2.2; omega)
theorem cut_own {W : Int} {n B : Nat} {f : Nat → Int} {v : Value} {w : World} (g : good W n f) (h : Own B v (cutL W n f) w) : ∃ a0 cap, v = .slice a0 n cap ∧ IsI w a0 n (fun i => cut1 W (sumN f n) (f i)) := by
  obtain ⟨a0, cap, e, i⟩ := own_in h (fun x hx => by
    unfold cutL at hx
    obtain ⟨j, hj, rfl⟩ := List.mem_map.1 hx
    have hj' := List.mem_range.1 hj
    have c := cutL_in g hj'
    have := f_le g.2.1 hj'
    have := g.2.2
    unfold W64
    omega)
  rw [cutL_len] at e i
  exact ⟨a0, cap, e, i.congr (fun k hk => cutL_get hk)⟩
set_option maxRecDepth 100000 in
set_option maxHeartbeats 8000000 in
theorem cuts_long (PC : PartC) (CC : CutC) (W : Int) (p : Option Addr) (n cp : Nat) (w : World) (hl : 65536 < n) :
    Calls Try.prog 5 #[.int .i64 W, .slice p n cp] w fun e w' => e = .returned (.bool true) ∧ Below w.heap.size w w' := by
  have LV := hid (awake_at PC CC w)
  have lI : decide ((65536 : Int) < (n : Int)) = true := decide_eq_true (by omega)
  clear PC CC
  go_enter Try.func5, Try.ntmps5
  go_wp2_with fail
  refine LV.out.mono ?_
  rintro e w1 ⟨rfl, b1⟩
  have A1 : Hid (Ab w w1) := b1
  clear b1
  go_wp2
  go_ret
  exact ⟨rfl, A1.out⟩
set_option maxRecDepth 100000 in
set_option maxHeartbeats 16000000 in
theorem cuts_bad0 (PC : PartC) (CC : CutC) (W : Int) (p : Option Addr) (cp : Nat) (f : Nat → Int) (w : World) (hf : IsI w p 0 f) (HW : Hid (W64 W)) (HG : Hid (¬ good W 0 f)) :
    Calls Try.prog 5 #[.int .i64 W, .slice p 0 cp] w fun e w' => e = .returned (.bool true) ∧ Below w.heap.size w w' := by
  have HF := hid hf
  have LV := hid (awake_at PC CC w)
  have lI : decide ((65536 : Int) < ((0 : Nat) : Int)) = false := by decide
  have HN : Hid (0 ≤ 65536) := by show _ ≤ _; omega
  have CT : Hid (∀ (bq cq : Nat) (v : World), IsI v (some ⟨bq, 0, none⟩) 0 f → Calls Try.prog 9 #[.int .i64 W, .slice (some ⟨bq, 0, none⟩) 0 cq] v fun e w' => e = .returned (.tuple #[.slice none 0 0, .int .i64 1]) ∧ Below v.heap.size v w') := fun bq cq v h => (CC W (some ⟨bq, 0, none⟩) 0 cq f v HW.out HN.out h).2 HG.out
  have RC : Hid (∀ v, Ab w v → Calls Try.prog 10 #[.int .i64 W, .slice p 0 cp] v fun e w' => e = .returned (.tuple #[.slice none 0 0, .int .i64 1]) ∧ Below v.heap.size v w') := fun v a => ((rcut_at W p 0 cp f v HW.out HN.out (HF.out.below a)).2 HG.out).mono fun _ _ h => ⟨h.1, by obtain ⟨_, rfl⟩ := h; exact Below.refl _ _⟩
  clear PC CC hf
  go_enter Try.func5, Try.ntmps5
  go_wp2_with fail
  refine LV.out.mono ?_
  rintro e w1 ⟨rfl, b1⟩
  have A1 : Hid (Ab w w1) := b1
  clear b1 LV
  have OO := hid (own_new w1 w1.heap.size (Nat.le_refl _))
  have B8 : Hid (Ab w1 (w1.alloc (.cells #[] 2))) := bl1 w1 (.cells #[] 2)
  have SR := hid (src_in (HF.out.below (A1.out.trans B8.out)) cp)
  have CX := hid (CT.out w1.heap.size 0 (w1.alloc (.cells #[] 2)) (IsI.nil _ _ _))
  have AX : Hid (Ab w (w1.alloc (.cells #[] 2))) := A1.out.trans B8.out
  go_wp2_with (first
    | (at_builtin; refine wpList_zero rfl (.tmp 24) (.tmp 25) rfl w1.heap.size rfl (.slice p 0 cp) rfl SR.out ?_))
  refine CX.out.mono ?_
  rintro e9 v3 ⟨rfl, b3⟩
  have A3 : Hid (Ab w v3) := AX.out.trans b3
  clear b3
  go_wp2_with fail
  refine (RC.out _ A3.out).mono ?_
  rintro e9 v4 ⟨rfl, b4⟩
  have A4 : Hid (Ab w v4) := A3.out.trans b4
  clear b4
  have ee : (((1 : Int)) != 1) = false := by decide
  go_wp2_with fail
  refine (same_at none none 0 0 0 (fun _ => 0) v4 (by omega) (IsI.nil _ _ _) (IsI.nil _ _ _)).mono ?_
  rintro e9 v5 ⟨rfl, b5⟩
  have A5 : Hid (Ab w v5) := A4.out.trans b5
  clear b5
  go_wp2
  go_ret
  exact ⟨rfl, A5.out⟩
set_option maxRecDepth 100000 in
set_option maxHeartbeats 16000000 in
theorem cuts_bad (PC : PartC) (CC : CutC) (W : Int) (b0 o0 n cp : Nat) (f : Nat → Int) (w : World) (h0 : 0 < n) (hn : n ≤ 65536) (hf : IsI w (some ⟨b0, o0, none⟩) n f) (HW : Hid (W64 W)) (HG : Hid (¬ good W n f)) :
    Calls Try.prog 5 #[.int .i64 W, .slice (some ⟨b0, o0, none⟩) n cp] w fun e w' => e = .returned (.bool true) ∧ Below w.heap.size w w' := by
  have HF := hid hf
  have LV := hid (awake_at PC CC w)
  have lI : decide ((65536 : Int) < ((n : Nat) : Int)) = false := decide_eq_false (by omega)
  have HN : Hid (n ≤ 65536) := by show _ ≤ _; omega
  have CT : Hid (∀ (bq cq : Nat) (v : World), IsI v (some ⟨bq, 0, none⟩) n f → Calls Try.prog 9 #[.int .i64 W, .slice (some ⟨bq, 0, none⟩) n cq] v fun e w' => e = .returned (.tuple #[.slice none 0 0, .int .i64 1]) ∧ Below v.heap.size v w') := fun bq cq v h => (CC W (some ⟨bq, 0, none⟩) n cq f v HW.out HN.out h).2 HG.out
  have RC : Hid (∀ v, Ab w v → Calls Try.prog 10 #[.int .i64 W, .slice (some ⟨b0, o0, none⟩) n cp] v fun e w' => e = .returned (.tuple #[.slice none 0 0, .int .i64 1]) ∧ Below v.heap.size v w') := fun v a => ((rcut_at W (some ⟨b0, o0, none⟩) n cp f v HW.out HN.out (HF.out.below a)).2 HG.out).mono fun _ _ h => ⟨h.1, by obtain ⟨_, rfl⟩ := h; exact Below.refl _ _⟩
  clear PC CC hf
  go_enter Try.func5, Try.ntmps5
  go_wp2_with fail
  refine LV.out.mono ?_
  rintro e w1 ⟨rfl, b1⟩
  have A1 : Hid (Ab w w1) := b1
  clear b1 LV
  have OO := hid (own_new w1 w1.heap.size (Nat.le_refl _))
  have B8 : Hid (Ab w1 (w1.alloc (.cells #[] 2))) := bl1 w1 (.cells #[] 2)
  have N1 := hid (news_in (HF.out.below (A1.out.trans B8.out)))
  have LD : Hid (((List.range n).map f).length = n) := by show _ = _; simp
  go_wp2_with (first
    | (at_builtin; refine wpList_app rfl (.tmp 24) (.tmp 25) rfl w1.heap.size _ [] rfl OO.out ⟨b0, o0, none⟩ n cp _ rfl LD.out N1.out (by omega) (by have := HN.out; simp; omega) (by simp) n (by simp) ?_; intro g1 c1 w2 o1 x1 _ _; have O1 := hid o1; have X1 := hid x1; clear o1 x1))
  have AX : Hid (Ab w w2) := A1.out.trans (Below.grown (bl1 w1 _ : Below _ _ _) X1.out (by simp) (fun k hk => (World.ownsRow.lt OO.out k hk).1))
  have IX : Hid (IsI w2 (some ⟨g1, 0, none⟩) n f) := by
    obtain ⟨a0, cap, e1, e2⟩ := own_in O1.out (fun x hx => by
      rw [List.nil_append] at hx
      obtain ⟨i, hi, rfl⟩ := List.mem_map.1 hx
      exact (HF.out.at0 (List.mem_range.1 hi)).1)
    have lq : (([] : List Int) ++ (List.range n).map f).length = n := by simp
    rw [lq] at e1 e2
    injection e1 with e3 e4 e5
    rw [e3]
    exact e2.congr (fun k hk => by simp [hk])
  have CX := hid (CT.out g1 c1 w2 IX.out)
  refine CX.out.mono ?_
  rintro e9 v3 ⟨rfl, b3⟩
  have A3 : Hid (Ab w v3) := AX.out.trans b3
  clear b3
  go_wp2_with fail
  refine (RC.out _ A3.out).mono ?_
  rintro e9 v4 ⟨rfl, b4⟩
  have A4 : Hid (Ab w v4) := A3.out.trans b4
  clear b4
  have ee : (((1 : Int)) != 1) = false := by decide
  go_wp2_with fail
  refine (same_at none none 0 0 0 (fun _ => 0) v4 (by omega) (IsI.nil _ _ _) (IsI.nil _ _ _)).mono ?_
  rintro e9 v5 ⟨rfl, b5⟩
  have A5 : Hid (Ab w v5) := A4.out.trans b5
  clear b5
  go_wp2
  go_ret
  exact ⟨rfl, A5.out⟩
set_option maxRecDepth 100000 in
set_option maxHeartbeats 16000000 in
theorem cuts_go0 (PC : PartC) (CC : CutC) (W : Int) (p : Option Addr) (cp : Nat) (f : Nat → Int) (w : World) (hf : IsI w p 0 f) (HW : Hid (W64 W)) (HG : Hid (good W 0 f)) :
    Calls Try.prog 5 #[.int .i64 W, .slice p 0 cp] w fun e w' => e = .returned (.bool true) ∧ Below w.heap.size w w' := by
  have HF := hid hf
  have LV := hid (awake_at PC CC w)
  have lI : decide ((65536 : Int) < ((0 : Nat) : Int)) = false := by decide
  have HN : Hid (0 ≤ 65536) := by show _ ≤ _; omega
  have CT : Hid (∀ (bq cq : Nat) (v : World), IsI v (some ⟨bq, 0, none⟩) 0 f → Calls Try.prog 9 #[.int .i64 W, .slice (some ⟨bq, 0, none⟩) 0 cq] v fun e w' => ∃ l, e = .returned (.tuple #[l, .int .i64 0]) ∧ Below v.heap.size v w' ∧ Own v.heap.size l (cutL W 0 f) w') := fun bq cq v h => (CC W (some ⟨bq, 0, none⟩) 0 cq f v HW.out HN.out h).1 HG.out
  have RC : Hid (∀ v, Ab w v → Calls Try.prog 10 #[.int .i64 W, .slice p 0 cp] v fun e w' => ∃ l, e = .returned (.tuple #[l, .int .i64 0]) ∧ Below v.heap.size v w' ∧ Own v.heap.size l (cutL W 0 f) w') := fun v a => (rcut_at W p 0 cp f v HW.out HN.out (HF.out.below a)).1 HG.out
  clear PC CC hf
  go_enter Try.func5, Try.ntmps5
  go_wp2_with fail
  refine LV.out.mono ?_
  rintro e w1 ⟨rfl, b1⟩
  have A1 : Hid (Ab w w1) := b1
  clear b1 LV
  have OO := hid (own_new w1 w1.heap.size (Nat.le_refl _))
  have B8 : Hid (Ab w1 (w1.alloc (.cells #[] 2))) := bl1 w1 (.cells #[] 2)
  have SR := hid (src_in (HF.out.below (A1.out.trans B8.out)) cp)
  have CX := hid (CT.out w1.heap.size 0 (w1.alloc (.cells #[] 2)) (IsI.nil _ _ _))
  have AX : Hid (Ab w (w1.alloc (.cells #[] 2))) := A1.out.trans B8.out
  go_wp2_with (first
    | (at_builtin; refine wpList_zero rfl (.tmp 24) (.tmp 25) rfl w1.heap.size rfl (.slice p 0 cp) rfl SR.out ?_))
  refine CX.out.mono ?_
  rintro e9 v3 ⟨l1, rfl, b3, o3⟩
  obtain ⟨la, lc, rfl, il⟩ := cut_own HG.out o3
  have A3 : Hid (Ab w v3) := AX.out.trans b3
  have IL := hid il
  clear b3 o3 il
  go_wp2_with fail
  refine (RC.out _ A3.out).mono ?_
  rintro e9 v4 ⟨l2, rfl, b4, o4⟩
  obtain ⟨ka, kc, rfl, ik⟩ := cut_own HG.out o4
  have A4 : Hid (Ab w v4) := A3.out.trans b4
  have IL4 := hid (IL.out.below b4)
  have IK := hid ik
  clear b4 o4 ik IL
  have ee : (((0 : Int)) != 0) = false := by decide
  go_wp2_with fail
  refine (same_at la ka 0 lc kc _ v4 (by have := HN.out; omega) IL4.out IK.out).mono ?_
  rintro e9 v5 ⟨rfl, b5⟩
  have A5 : Hid (Ab w v5) := A4.out.trans b5
  have IL5 := hid (IL4.out.below b5)
  clear b5 IL4 IK ee
  go_wp2
  go_loopw [10, 11, 12] (fun sv uv iv wr => ∃ c : Nat, c ≤ 0 ∧ iv = .int .i64 (c : Nat) ∧ sv = .int .i64 (sumN (fun i => cut1 W (sumN f 0) (f i)) c) ∧ uv = .int .i64 (sumN f c) ∧ Ab v5 wr) (fun _ _ iv _ => 0 - (intOf iv).toNat)
  case atStart => exact ⟨0, by omega, rfl, rfl, rfl, Ab.refl v5⟩
  case round =>
    obtain ⟨c, hc, rfl, rfl, rfl, ar⟩ := hrel
    have AR := hid ar
    clear ar
    have e6 : c = 0 := by omega
    subst e6
    obtain ⟨s, hs⟩ : ∃ s, sumN (fun i => cut1 W (sumN f 0) (f i)) 0 = s := ⟨_, rfl⟩
    obtain ⟨u, hu⟩ : ∃ u, sumN f 0 = u := ⟨_, rfl⟩
    rw [hs, hu]
    have CS := cut_sum (f := f) (W := W) (n := 0) HG.out.1 HG.out.2.1 HG.out.2.2
    rw [hs, hu] at CS
    have W1 := HW.out
    unfold W64 at W1
    have W2 := W1.1
    have W3 := W1.2
    have W0 := HG.out.1
    have q : u ≤ W := by rw [← hu]; exact W0
    clear W1 hs hu
    have d1 : decide (u ≤ W) = true := decide_eq_true q
    have d2 : (s == u) = true := by rw [CS.1 q]; simp
    clear CS
    go_wp2
    go_ret
    exact ⟨rfl, A5.out.trans AR.out⟩
set_option maxRecDepth 100000 in
set_option maxHeartbeats 16000000 in
theorem cuts_go (PC : PartC) (CC : CutC) (W : Int) (b0 o0 n cp : Nat) (f : Nat → Int) (w : World) (h0 : 0 < n) (hn : n ≤ 65536) (hf : IsI w (some ⟨b0, o0, none⟩) n f) (HW : Hid (W64 W)) (HG : Hid (good W n f)) :
    Calls Try.prog 5 #[.int .i64 W, .slice (some ⟨b0, o0, none⟩) n cp] w fun e w' => e = .returned (.bool true) ∧ Below w.heap.size w w' := by
  have HF := hid hf
  have LV := hid (awake_at PC CC w)
  have lI : decide ((65536 : Int) < ((n : Nat) : Int)) = false := decide_eq_false (by omega)
  have HN : Hid (n ≤ 65536) := by show _ ≤ _; omega
  have CT : Hid (∀ (bq cq : Nat) (v : World), IsI v (some ⟨bq, 0, none⟩) n f → Calls Try.prog 9 #[.int .i64 W, .slice (some ⟨bq, 0, none⟩) n cq] v fun e w' => ∃ l, e = .returned (.tuple #[l, .int .i64 0]) ∧ Below v.heap.size v w' ∧ Own v.heap.size l (cutL W n f) w') := fun bq cq v h => (CC W (some ⟨bq, 0, none⟩) n cq f v HW.out HN.out h).1 HG.out
  have RC : Hid (∀ v, Ab w v → Calls Try.prog 10 #[.int .i64 W, .slice (some ⟨b0, o0, none⟩) n cp] v fun e w' => ∃ l, e = .returned (.tuple #[l, .int .i64 0]) ∧ Below v.heap.size v w' ∧ Own v.heap.size l (cutL W n f) w') := fun v a => (rcut_at W (some ⟨b0, o0, none⟩) n cp f v HW.out HN.out (HF.out.below a)).1 HG.out
  clear PC CC hf
  go_enter Try.func5, Try.ntmps5
  go_wp2_with fail
  refine LV.out.mono ?_
  rintro e w1 ⟨rfl, b1⟩
  have A1 : Hid (Ab w w1) := b1
  clear b1 LV
  have OO := hid (own_new w1 w1.heap.size (Nat.le_refl _))
  have B8 : Hid (Ab w1 (w1.alloc (.cells #[] 2))) := bl1 w1 (.cells #[] 2)
  have N1 := hid (news_in (HF.out.below (A1.out.trans B8.out)))
  have LD : Hid (((List.range n).map f).length = n) := by show _ = _; simp
  go_wp2_with (first
    | (at_builtin; refine wpList_app rfl (.tmp 24) (.tmp 25) rfl w1.heap.size _ [] rfl OO.out ⟨b0, o0, none⟩ n cp _ rfl LD.out N1.out (by omega) (by have := HN.out; simp; omega) (by simp) n (by simp) ?_; intro g1 c1 w2 o1 x1 _ _; have O1 := hid o1; have X1 := hid x1; clear o1 x1))
  have AX : Hid (Ab w w2) := A1.out.trans (Below.grown (bl1 w1 _ : Below _ _ _) X1.out (by simp) (fun k hk => (World.ownsRow.lt OO.out k hk).1))
  have IX : Hid (IsI w2 (some ⟨g1, 0, none⟩) n f) := by
    obtain ⟨a0, cap, e1, e2⟩ := own_in O1.out (fun x hx => by
      rw [List.nil_append] at hx
      obtain ⟨i, hi, rfl⟩ := List.mem_map.1 hx
      exact (HF.out.at0 (List.mem_range.1 hi)).1)
    have lq : (([] : List Int) ++ (List.range n).map f).length = n := by simp
    rw [lq] at e1 e2
    injection e1 with e3 e4 e5
    rw [e3]
    exact e2.congr (fun k hk => by simp [hk])
  have CX := hid (CT.out g1 c1 w2 IX.out)
  refine CX.out.mono ?_
  rintro e9 v3 ⟨l1, rfl, b3, o3⟩
  obtain ⟨la, lc, rfl, il⟩ := cut_own HG.out o3
  have A3 : Hid (Ab w v3) := AX.out.trans b3
  have IL := hid il
  clear b3 o3 il
  go_wp2_with fail
  refine (RC.out _ A3.out).mono ?_
  rintro e9 v4 ⟨l2, rfl, b4, o4⟩
  obtain ⟨ka, kc, rfl, ik⟩ := cut_own HG.out o4
  have A4 : Hid (Ab w v4) := A3.out.trans b4
  have IL4 := hid (IL.out.below b4)
  have IK := hid ik
  clear b4 o4 ik IL
  have ee : (((0 : Int)) != 0) = false := by decide
  go_wp2_with fail
  refine (same_at la ka n lc kc _ v4 (by have := HN.out; omega) IL4.out IK.out).mono ?_
  rintro e9 v5 ⟨rfl, b5⟩
  have A5 : Hid (Ab w v5) := A4.out.trans b5
  have IL5 := hid (IL4.out.below b5)
  clear b5 IL4 IK ee
  go_wp2
  go_loopw [10, 11, 12] (fun sv uv iv wr => ∃ c : Nat, c ≤ n ∧ iv = .int .i64 (c : Nat) ∧ sv = .int .i64 (sumN (fun i => cut1 W (sumN f n) (f i)) c) ∧ uv = .int .i64 (sumN f c) ∧ Ab v5 wr) (fun _ _ iv _ => n - (intOf iv).toNat)
  case atStart => exact ⟨0, by omega, rfl, rfl, rfl, Ab.refl v5⟩
  case round =>
    obtain ⟨c, hc, rfl, rfl, rfl, ar⟩ := hrel
    have AR := hid ar
    clear ar
    by_cases hcn : c < n
    · have HC2 := hid hcn
      have hcI : (c : Int) < n := by omega
      have hcB : (c : Int) ≤ 65536 := by have := HN.out; omega
      obtain ⟨lb, lo, rfl⟩ := IL5.out.some0 (show 0 < n by omega)
      have a1 := HF.out.at0 hcn
      have a2 := IL5.out.at0 hcn
      have ci := cutL_in HG.out hcn
      have sm : sumN f (c + 1) ≤ 9223372036854775807 := by have := sumN_mono HG.out.2.1 (m := c + 1) (by omega); have := HG.out.2.2; omega
      have s0 : 0 ≤ sumN f c := sumN_nn (fun i hi => HG.out.2.1 i (by omega))
      have t1 : sumN (fun i => cut1 W (sumN f n) (f i)) (c + 1) ≤ sumN f (c + 1) := sumN_le (fun i hi => (cutL_in HG.out (by omega)).2)
      have t0 : 0 ≤ sumN (fun i => cut1 W (sumN f n) (f i)) c := sumN_nn (fun i hi => (cutL_in HG.out (by omega)).1)
      have e1 : sumN f (c + 1) = sumN f c + f c := rfl
      have e2 : sumN (fun i => cut1 W (sumN f n) (f i)) (c + 1) = sumN (fun i => cut1 W (sumN f n) (f i)) c + cut1 W (sumN f n) (f c) := rfl
      have a2' : v5.cell? ⟨lb, lo + c, none⟩ = some (.int .i64 (cut1 W (sumN f n) (f c))) := a2.2.2
      obtain ⟨x, hx⟩ : ∃ x, f c = x := ⟨_, rfl⟩
      obtain ⟨y, hy⟩ : ∃ y, cut1 W (sumN f n) (f c) = y := ⟨_, rfl⟩
      obtain ⟨s, hs⟩ : ∃ s, sumN (fun i => cut1 W (sumN f n) (f i)) c = s := ⟨_, rfl⟩
      obtain ⟨u, hu⟩ : ∃ u, sumN f c = u := ⟨_, rfl⟩
      have E1 : Hid (sumN f (c + 1) = u + x) := by rw [← hu, ← hx]; exact e1
      have E2 : Hid (sumN (fun i => cut1 W (sumN f n) (f i)) (c + 1) = s + y) := by rw [← hs, ← hy]; exact e2
      have CX1 : Hid (∀ v, Ab v5 v → v.cell? ⟨b0, o0 + c, none⟩ = some (.int .i64 x)) := fun v a => by rw [← hx]; exact (Below.cell (A5.out.trans a) a1.2.1).trans a1.2.2
      have CX2 : Hid (∀ v, Ab v5 v → v.cell? ⟨lb, lo + c, none⟩ = some (.int .i64 y)) := fun v a => by rw [← hy]; exact (Below.cell a a2.2.1).trans a2'
      rw [e1, e2, hs, hu, hy, hx] at t1
      rw [e1, hu, hx] at sm
      rw [hs] at t0
      rw [hu] at s0
      rw [hy, hx] at ci
      rw [hs, hu]
      have d1 : decide (y < 0) = false := decide_eq_false (by omega)
      have d2 : decide (x < y) = false := decide_eq_false (by omega)
      have c1 := ci.1
      have c2 := ci.2
      clear a1 a2 a2' e1 e2 hx hy hs hu ci hcn hc
      go_upto_region 15 with fail
      obtain ⟨UU, E, hF1, hF2⟩ := cls wr
      have HU := hid hF2
      have HU1 := hid hF1
      have HX : Hid (∀ u2, Ab v5 (E u2)) := fun u2 => Ab.trans AR.out (hF1 u2)
      have ya : ∀ u2, (E u2).cell? ⟨lb, lo + c, none⟩ = some (.int .i64 y) := fun u2 => CX2.out _ (AR.out.trans (hF1 u2))
      have yb : ∀ u2, (E u2).cell? ⟨b0, o0 + c, none⟩ = some (.int .i64 x) := fun u2 => CX1.out _ (AR.out.trans (hF1 u2))
      have DD0 := HU.out _ (Ab.refl wr).drew
      clear hF1 hF2
      refine region_cls E (by kernel_rfl) (by kernel_rfl) DD0 ?_
      repeat (go_big_quiet_step (first
        | (with_reducible rfl)
      ))
      refine wpQuiet_nil ?_
      intro z hwz
      obtain ⟨u0, hu⟩ := hwz
      have AZ : Hid (Ab v5 z) := by rw [hu]; exact HX.out u0
      clear hu u0
      clear HU HU1 HX DD0 ya yb
      clear E UU
      have ya := CX2.out _ AZ.out
      have yb := CX1.out _ AZ.out
      go_wp2
      exact ⟨⟨c + 1, by have := HC2.out; omega, by simp, by rw [E2.out], by rw [E1.out], AZ.out⟩, by have := HC2.out; simp [intOf]; omega⟩
    · have e6 : n = c := by omega
      subst e6
      obtain ⟨s, hs⟩ : ∃ s, sumN (fun i => cut1 W (sumN f n) (f i)) n = s := ⟨_, rfl⟩
      obtain ⟨u, hu⟩ : ∃ u, sumN f n = u := ⟨_, rfl⟩
      rw [hs, hu]
      have CS := cut_sum (f := f) (W := W) (n := n) HG.out.1 HG.out.2.1 HG.out.2.2
      rw [hs, hu] at CS
      have W1 := HW.out
      unfold W64 at W1
      have W2 := W1.1
      have W3 := W1.2
      have W0 := HG.out.1
      clear W1 hs hu
      by_cases q : u ≤ W
      · have d1 : decide (u ≤ W) = true := decide_eq_true q
        have d2 : (s == u) = true := by rw [CS.1 q]; simp
        clear CS
        go_wp2
        go_ret
        exact ⟨rfl, A5.out.trans AR.out⟩
      · have d1 : decide (u ≤ W) = false := decide_eq_false q
        have q2 := CS.2 (by omega)
        have d2 : decide (s ≤ W) = true := decide_eq_true q2.1
        have nI : (0 : Int) ≤ ((n : Nat) : Int) ∧ ((n : Nat) : Int) ≤ 65536 := by have := HN.out; omega
        have n1 := nI.1
        have n2 := nI.2
        have d3 : decide (W - ((n : Nat) : Int) < s) = true := decide_eq_true q2.2
        have hw : IntKind.i64.wrap (W - ((n : Nat) : Int)) = W - ((n : Nat) : Int) := by rw [IntKind.wrap_i64]; omega
        clear CS q2 nI
        go_wp2
        go_ret
        exact ⟨rfl, A5.out.trans AR.out⟩
theorem cuts_at (PC : PartC) (CC : CutC) (W : Int) (p : Option Addr) (n cp : Nat) (f : Nat → Int) (w : World) (hW : W64 W) (hf : IsI w p n f) :
    Calls Try.prog 5 #[.int .i64 W, .slice p n cp] w fun e w' => e = .returned (.bool true) ∧ Below w.heap.size w w' := by
  by_cases hl : 65536 < n
  · exact cuts_long PC CC W p n cp w hl
  · by_cases h0 : n = 0
    · subst h0
      by_cases g : good W 0 f
      · exact cuts_go0 PC CC W p cp f w hf hW g
      · exact cuts_bad0 PC CC W p cp f w hf hW g
    · obtain ⟨b0, o0, rfl⟩ := hf.some0 (by omega)
      by_cases g : good W n f
      · exact cuts_go PC CC W b0 o0 n cp f w (by omega) (by omega) hf hW g
      · exact cuts_bad PC CC W b0 o0 n cp f w (by omega) (by omega) hf hW g
end Sh
end Go.Proofs.Ytpbidcjfnkmddaa
