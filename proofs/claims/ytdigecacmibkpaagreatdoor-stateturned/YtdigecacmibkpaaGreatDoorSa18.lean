/-
  Some of the texts of this proof, one behind the other.
-/
import Derived.Test.YtdigecacmibkpaaGreatDoorSa17
namespace Go.Proofs.YtdigecacmibkpaaGreatDoor
open Go.RowKit Cu
theorem nest_not {α : Type} {a x b y c z : Int} {T E : α} (h : ¬ (a = x ∧ b = y ∧ c = z)) : (if a = x then if b = y then if c = z then T else E else E else E) = E := by
  by_cases h1 : a = x
  · by_cases h2 : b = y
    · rw [if_pos h1, if_pos h2, if_neg (fun h3 => h ⟨h1, h2, h3⟩)]
    · rw [if_pos h1, if_neg h2]
  · rw [if_neg h1]
theorem half_up (n i : Nat) : ((2 * (i : Int) + 1 - n) + n - 1).tdiv 2 = i := by
  rw [show (2 * (i : Int) + 1 - n) + n - 1 = 2 * (i : Int) by omega]
  exact (tdm _).1
set_option maxHeartbeats 8000000 in
set_option maxRecDepth 100000 in
theorem rturn_go (n c t K Q T : Nat) (p q m0 : P3) (x y : Int) (w : World) (hn : 1 ≤ n ∧ n ≤ 32) (hc : c < 6 * n * n) (ht : t < 24) (hK : K < 6) (hQ : Q < 4)
    (MI : Hid (∀ u, Calls Tryz.prog 98 #[.int .i64 n, .int .i64 c] u fun e w' => e = .returned (.agg #[.int .i64 m0.1, .int .i64 m0.2.1, .int .i64 m0.2.2]) ∧ Below u.heap.size u w'))
    (WA : Hid (∀ u, Calls Tryz.prog 99 #[.int .i64 n, .int .i64 c, .int .i64 0] u fun e w' => e = .returned (.agg #[.int .i64 q.1, .int .i64 q.2.1, .int .i64 q.2.2]) ∧ Below u.heap.size u w'))
    (TM : Hid (∀ u, Calls Tryz.prog 97 #[.int .i64 t, .agg #[.int .i64 m0.1, .int .i64 m0.2.1, .int .i64 m0.2.2]] u fun e w' => e = .returned (.agg #[.int .i64 p.1, .int .i64 p.2.1, .int .i64 p.2.2]) ∧ Below u.heap.size u w'))
    (TE : Hid (∀ u, Calls Tryz.prog 97 #[.int .i64 t, .agg #[.int .i64 q.1, .int .i64 q.2.1, .int .i64 q.2.2]] u fun e w' => e = .returned (.agg #[.int .i64 (wy K Q).1, .int .i64 (wy K Q).2.1, .int .i64 (wy K Q).2.2]) ∧ Below u.heap.size u w'))
    (hp : (-200 ≤ p.1 ∧ p.1 ≤ 200) ∧ (-200 ≤ p.2.1 ∧ p.2.1 ≤ 200) ∧ (-200 ≤ p.2.2 ∧ p.2.2 ≤ 200))
    (hf : ∀ j < 6, dt p (cC j) = n ↔ j = K) (hx : dt p (cR K) = x) (hy : dt p (cU K) = y)
    (hT : cN n K ((x + n - 1).tdiv 2) ((y + n - 1).tdiv 2) = (T : Nat))
    (WT : Hid (∀ (s : Nat), s < 4 → ∀ u, Calls Tryz.prog 99 #[.int .i64 n, .int .i64 T, .int .i64 s] u fun e w' => e = .returned (.agg #[.int .i64 (wy K s).1, .int .i64 (wy K s).2.1, .int .i64 (wy K s).2.2]) ∧ Below u.heap.size u w')) :
    Calls Tryz.prog 54 #[.int .i64 n, .int .i64 t, .int .i64 c] w fun e w' => e = .returned (.tuple #[.int .i64 T, .int .i64 Q]) ∧ Below w.heap.size w w' := by
  obtain ⟨m, hm⟩ : ∃ m, clN n = m := ⟨_, rfl⟩
  have C : Hid (∀ u, Calls Tryz.prog 95 #[.int .i64 n] u fun e w' => e = .returned (.int .i64 m) ∧ w' = u) := fun u => by rw [← hm]; exact rcells_at n u
  have hcm : (c : Int) < m := by rw [← hm, clN_nat hn]; omega
  have ht' : (t : Int) < 24 := by omega
  have hn1 : (1 : Int) ≤ n := by omega
  have hn2 : (n : Int) ≤ 32 := by omega
  have xb := dt_le hp (un_R hK)
  have yb := dt_le hp (un_U hK)
  rw [hx] at xb
  rw [hy] at yb
  have DO := hid (fun (j : Nat) (hj : j < 6) u => rdot_at p (cC j) u (Sm.of_le hp) (un_C hj))
  have DR : Hid (∀ u, Calls Tryz.prog 101 #[.agg #[.int .i64 p.1, .int .i64 p.2.1, .int .i64 p.2.2], .agg #[.int .i64 (cR K).1, .int .i64 (cR K).2.1, .int .i64 (cR K).2.2]] u fun e w' => e = .returned (.int .i64 x) ∧ Below u.heap.size u w') := fun u => by rw [← hx]; exact rdot_at p (cR K) u (Sm.of_le hp) (un_R hK)
  have DU : Hid (∀ u, Calls Tryz.prog 101 #[.agg #[.int .i64 p.1, .int .i64 p.2.1, .int .i64 p.2.2], .agg #[.int .i64 (cU K).1, .int .i64 (cU K).2.1, .int .i64 (cU K).2.2]] u fun e w' => e = .returned (.int .i64 y) ∧ Below u.heap.size u w') := fun u => by rw [← hy]; exact rdot_at p (cU K) u (Sm.of_le hp) (un_U hK)
  have RC : Hid (∀ u, Calls Tryz.prog 102 #[.int .i64 n, .int .i64 K, .int .i64 ((x + (n : Int) - 1).tdiv 2), .int .i64 ((y + (n : Int) - 1).tdiv 2)] u fun e w' => e = .returned (.int .i64 T) ∧ Below u.heap.size u w') := fun u => by rw [← hT]; exact (rcell_at _ _ _ _ u).mono fun _ _ ⟨a, b⟩ => ⟨a, by rw [b]; exact Below.refl _ _⟩
  have FR := hid (fun (f : Nat) (hf : f < 6) u => rframe_at f u hf)
  have HF0 := hid hf
  have HKl := hid hK
  have HQl := hid hQ
  clear hm hn hc ht hp hf hx hy hT hK hQ
  go_enter Tryz.func54, Tryz.ntmps54
  go_wp2_with fail
  refine (C.out _).mono ?_
  rintro e w ⟨rfl, rfl⟩
  go_wp2_with fail
  refine (MI.out _).mono ?_
  rintro e w1 ⟨rfl, b1⟩
  go_wp2_with fail
  refine (TM.out _).mono ?_
  rintro e w2 ⟨rfl, b2⟩
  go_wp2_with fail
  refine (WA.out _).mono ?_
  rintro e w3 ⟨rfl, b3⟩
  go_wp2_with fail
  refine (TE.out _).mono ?_
  rintro e w4 ⟨rfl, b4⟩
  go_wp2
  have A2 := Ab.call b1 b2
  have A4 := ((A2.alloc _).call b3).call b4
  have q2 : w4.heap[w2.heap.size]? = some (.cells #[.int .i64 p.1, .int .i64 p.2.1, .int .i64 p.2.2] 123) := ((Ab.call b3 b4).heap (heap_alloc_new _ _))
  generalize hW : World.alloc _ _ = W
  obtain ⟨g8, hg8⟩ : ∃ g, w2.heap.size = g := ⟨_, rfl⟩
  obtain ⟨g9, hg9⟩ : ∃ g, w4.heap.size = g := ⟨_, rfl⟩
  rw [hg8] at q2
  have r8 : W.heap[g8]? = some (.cells #[.int .i64 p.1, .int .i64 p.2.1, .int .i64 p.2.2] 123) := by rw [← hW]; exact ((Ab.refl w4).alloc _).heap q2
  have r9 : W.heap[g9]? = some (.cells #[.int .i64 (wy K Q).1, .int .i64 (wy K Q).2.1, .int .i64 (wy K Q).2.2] 123) := by rw [← hW, ← hg9]; exact heap_alloc_new _ _
  have AW : Hid (Ab w W) := by rw [← hW]; exact A4.alloc _
  have R8 := hid r8
  have R9 := hid r9
  rw [hg8, hg9]
  clear hW hg8 hg9 r8 r9 A2 A4 q2 b1 b2 b3 b4 MI WA TM TE C hcm ht'
  go_loopw [10] (fun iv wr => ∃ j : Nat, j ≤ K ∧ iv = .int .i64 (j : Nat) ∧ Ab W wr) (fun iv _ => 6 - (intOf iv).toNat)
  case atStart => exact ⟨0, by omega, rfl, Ab.refl _⟩
  case round =>
    obtain ⟨j, hj, rfl, A⟩ := hrel
    have hj6 : j < 6 := by have := HKl.out; omega
    have hj' : (j : Int) < 6 := by omega
    have F1 := hid (FR.out j hj6 wr)
    have AA := hid A
    have HJ := hid hj6
    have HJK := hid hj
    have DJ := hid (DO.out j hj6)
    obtain ⟨wo, rfl⟩ : ∃ wo : World, wo = wr := ⟨_, rfl⟩
    clear A hj hj6
    go_wp2_with fail
    refine F1.out.mono ?_
    rintro e w2 ⟨rfl, b2⟩
    have A2 := hid (AA.out.call b2)
    obtain ⟨-, x0, x1, x2⟩ := rowfacts (A2.out.heap R8.out)
    have hlt := lt_of_block (A2.out.heap R8.out)
    have hlt1 : g8 < w2.heap.size + 1 := by omega
    have hlt2 : g8 < w2.heap.size + 1 + 1 := by omega
    clear b2 F1 FR
    by_cases hd : j = K
    · have hd' : (dt p (cC j) != (n : Int)) = false := by simpa using (HF0.out j HJ.out).2 hd
      have HD := hid hd
      clear hd
      go_upto_region 10 with (go_at_call 101; refine (DJ.out _).mono ?_; rintro e w3 ⟨rfl, b3⟩)
      have A3w : Ab W w3 := (((A2.out.alloc _).alloc _).alloc _).call b3
      obtain ⟨g, hg⟩ : ∃ g, w2.heap.size = g := ⟨_, rfl⟩
      have dr : w3.heap[g + 1]? = some (.cells #[.int .i64 (cR j).1, .int .i64 (cR j).2.1, .int .i64 (cR j).2.2] 123) := by
        refine (b3.block _ (by simp; omega)).trans ?_
        rw [← hg, Below.heap_alloc _ _ _ (by simp)]; exact heap_alloc2_new _ _ _
      have ur : w3.heap[g + 1 + 1]? = some (.cells #[.int .i64 (cU j).1, .int .i64 (cU j).2.1, .int .i64 (cU j).2.2] 123) := by
        refine (b3.block _ (by simp; omega)).trans ?_
        rw [← hg]; exact heap_alloc3_new _ _ _ _
      have pr := A3w.heap R8.out
      have AW3 := hid A3w
      have hjK := HD.out
      rw [hg]
      clear b3 A3w hg x0 x1 x2 hlt hlt1 hlt2 hd' DJ DO A2 HD R8 HF0
      subst hjK
      obtain ⟨U, F, hF1, hF2⟩ := cls w3
      have HF := hid hF2
      have HF1 := hid hF1
      have p0 : ∀ v, (F v).cell? ⟨g8, 0, none⟩ = some (.int .i64 p.1) := fun v => cell_of_row _ _ 0 _ _ _ ((hF1 v).heap pr)
      have p1 : ∀ v, (F v).cell? ⟨g8, 1, none⟩ = some (.int .i64 p.2.1) := fun v => cell_of_row _ _ 1 _ _ _ ((hF1 v).heap pr)
      have p2 : ∀ v, (F v).cell? ⟨g8, 2, none⟩ = some (.int .i64 p.2.2) := fun v => cell_of_row _ _ 2 _ _ _ ((hF1 v).heap pr)
      have d0 : ∀ v, (F v).cell? ⟨(g + 1), 0, none⟩ = some (.int .i64 (cR j).1) := fun v => cell_of_row _ _ 0 _ _ _ ((hF1 v).heap dr)
      have d1 : ∀ v, (F v).cell? ⟨(g + 1), 1, none⟩ = some (.int .i64 (cR j).2.1) := fun v => cell_of_row _ _ 1 _ _ _ ((hF1 v).heap dr)
      have d2 : ∀ v, (F v).cell? ⟨(g + 1), 2, none⟩ = some (.int .i64 (cR j).2.2) := fun v => cell_of_row _ _ 2 _ _ _ ((hF1 v).heap dr)
      have u0 : ∀ v, (F v).cell? ⟨(g + 1 + 1), 0, none⟩ = some (.int .i64 (cU j).1) := fun v => cell_of_row _ _ 0 _ _ _ ((hF1 v).heap ur)
      have u1 : ∀ v, (F v).cell? ⟨(g + 1 + 1), 1, none⟩ = some (.int .i64 (cU j).2.1) := fun v => cell_of_row _ _ 1 _ _ _ ((hF1 v).heap ur)
      have u2 : ∀ v, (F v).cell? ⟨(g + 1 + 1), 2, none⟩ = some (.int .i64 (cU j).2.2) := fun v => cell_of_row _ _ 2 _ _ _ ((hF1 v).heap ur)
      have TX := hid (fun v => DR.out (F v))
      have TY := hid (fun v => DU.out (F v))
      have TC := hid (fun v => RC.out (F v))
      have D := HF.out _ (Ab.refl w3).drew
      clear hF1 hF2 pr dr ur DR DU RC
      refine region_cls F (by kernel_rfl) (by kernel_rfl) D ?_
      repeat (go_big_quiet_step (first
        | rfl
        | (go_at_call_of 101 (cR j); exact calls_cls HF HF1 (TX.out _))
        | (go_at_call_of 101 (cU j); exact calls_cls HF HF1 (TY.out _))
        | (go_at_call 102; exact calls_cls HF HF1 (TC.out _))))
      refine wpQuiet_nil ?_
      intro wz hwz
      obtain ⟨v, rfl⟩ := hwz
      obtain ⟨V, hV⟩ : ∃ V, F v = V := ⟨_, rfl⟩
      have AV : Ab W V := by rw [← hV]; exact AW3.out.trans (HF1.out v)
      have R9v := hid (AV.heap R9.out)
      have AVh := hid AV
      rw [hV]
      clear hV AV HF HF1 D p0 p1 p2 d0 d1 d2 u0 u1 u2 TX TY TC F U v AW3 R9
      go_wp2
      go_loopw [15] (fun sv wr => ∃ s : Nat, s ≤ Q ∧ sv = .int .i64 (s : Nat) ∧ Ab V wr) (fun sv _ => 4 - (intOf sv).toNat)
      case atStart => exact ⟨0, by omega, rfl, Ab.refl _⟩
      case round =>
        obtain ⟨s, hs, rfl, A⟩ := hrel
        have hs4 : s < 4 := by have := HQl.out; omega
        have hs' : (s : Int) < 4 := by omega
        have AA2 := hid A
        have HSQ := hid hs
        clear hs
        go_upto_region 14 with fail
        obtain ⟨U, F, hF1, hF2⟩ := cls wr
        have HF := hid hF2
        have HF1 := hid hF1
        have er := A.heap R9v.out
        have e0 : ∀ v, (F v).cell? ⟨g9, 0, none⟩ = some (.int .i64 (wy j Q).1) := fun v => cell_of_row _ _ 0 _ _ _ ((hF1 v).heap er)
        have e1 : ∀ v, (F v).cell? ⟨g9, 1, none⟩ = some (.int .i64 (wy j Q).2.1) := fun v => cell_of_row _ _ 1 _ _ _ ((hF1 v).heap er)
        have e2 : ∀ v, (F v).cell? ⟨g9, 2, none⟩ = some (.int .i64 (wy j Q).2.2) := fun v => cell_of_row _ _ 2 _ _ _ ((hF1 v).heap er)
        have TW := hid (fun v => WT.out s hs4 (F v))
        have D := HF.out _ (Ab.refl wr).drew
        have HS4 := hid hs4
        clear hF1 hF2 er A hs4
        by_cases hsQ : s = Q
        · subst hsQ
          refine region_cls F (by kernel_rfl) (by kernel_rfl) D ?_
          repeat (go_big_quiet_step (first
            | rfl
            | (go_at_call 99; exact calls_cls HF HF1 (TW.out _))))
          refine wpQuiet_nil ?_
          intro wz hwz
          obtain ⟨v, rfl⟩ := hwz
          have AF := hid (AA2.out.trans (HF1.out v))
          go_wp2
          go_ret2
          exact ⟨rfl, (AW.out.trans AVh.out).trans AF.out⟩
        · have N1 : Hid (¬ ((wy j s).1 = (wy j Q).1 ∧ (wy j s).2.1 = (wy j Q).2.1 ∧ (wy j s).2.2 = (wy j Q).2.2)) := fun e => hsQ (wy_inj j HJ.out Q HQl.out s HS4.out (Prod.ext e.1 (Prod.ext e.2.1 e.2.2)))
          have HNE := hid hsQ
          clear hsQ
          refine region_cls F (by kernel_rfl) (by kernel_rfl) D ?_
          repeat (go_big_quiet_step (first
            | rfl
            | (rw [nest_not N1.out]; exact ⟨rfl, rfl⟩)
            | (go_at_call 99; exact calls_cls HF HF1 (TW.out _))))
          refine wpQuiet_nil ?_
          intro wz hwz
          obtain ⟨v, rfl⟩ := hwz
          have AF := AA2.out.trans (HF1.out v)
          have h1 := HSQ.out
          have h2 := HNE.out
          have h3 := HQl.out
          go_wp2
          go_roundw
          case rel => exact ⟨s + 1, by omega, by simp, AF⟩
          case measure => simp [intOf]; omega
    · have hd' : (dt p (cC j) != (n : Int)) = true := by
        have := HF0.out j HJ.out
        simpa using fun h => hd (this.1 h)
      have HNE := hid hd
      clear hd
      go_wp2_with (go_at_call 101; refine (DJ.out _).mono ?_; rintro e w3 ⟨rfl, b3⟩)
      have A3w : Ab W w3 := (((A2.out.alloc _).alloc _).alloc _).call b3
      have h1 := HJK.out
      have h2 := HNE.out
      have h3 := HJ.out
      go_roundw
      case rel => exact ⟨j + 1, by omega, by simp, A3w⟩
      case measure => simp [intOf]; omega
theorem rturn_at (n t c : Nat) (w : World) (hn : 1 ≤ n ∧ n ≤ 32) (hc : c < 6 * n * n) (ht : t < 24) :
    Calls Tryz.prog 54 #[.int .i64 n, .int .i64 t, .int .i64 c] w fun e w' => e = .returned (.tuple #[.int .i64 (tnC n t c), .int .i64 (tnS n t c)]) ∧ Below w.heap.size w w' := by
  obtain ⟨h1, h2, h3, _⟩ := dec_lt hn.1 hc
  obtain ⟨t1, t2⟩ := tf_lt t ht _ h1
  obtain ⟨l1, l2⟩ := at_lt (s := tq t (cf n c)) h2 h3
  have e1 := ro_md ht h1 h2 h3
  have bm := md_le h1 h2 h3 hn.2
  have bm2 := md_le t1 l1 l2 hn.2
  have hd := md_dt (n := n) (i := atI n (tq t (cf n c)) (ci n c) (cj n c)) (j := atJ n (tq t (cf n c)) (ci n c) (cj n c)) t1
  have hT : cN n (tf t (cf n c)) (atI n (tq t (cf n c)) (ci n c) (cj n c) : Nat) (atJ n (tq t (cf n c)) (ci n c) (cj n c) : Nat) = (tnC n t c : Nat) := cN_nm hn t1 l1 l2
  have hTl : tnC n t c < 6 * n * n := Pn_lt t1 h2 h3
  have hTc : cf n (tnC n t c) = tf t (cf n c) := (Pn_dec t2 h2 h3).1
  have TM := fun u => rturned_at t (md n (cf n c) (ci n c) (cj n c)) u ht (by omega)
  have TE := fun u => rturned_at t (wy (cf n c) 0) u ht (Un.le (un_wy h1))
  have WA := fun u => rway_at n c 0 u hn hc (by omega)
  rw [e1] at TM
  rw [show ro t (wy (cf n c) 0) = wy (tf t (cf n c)) (tq t (cf n c)) from (ro_tab t ht _ h1).2.1] at TE
  refine rturn_go n c t (tf t (cf n c)) (tq t (cf n c)) (tnC n t c) _ _ _ _ _ w hn hc ht t1 t2 (fun u => rmiddle_at n c u hn hc) WA TM TE ?_ (fun j hj => md_face t1 hj l1 l2) hd.2.1 hd.2.2 ?_ (fun s hs u => ?_)
  · omega
  · rw [half_up, half_up]
    exact hT
  · have := rway_at n (tnC n t c) s u hn hTl hs
    rw [hTc] at this
    exact this
end Go.Proofs.YtdigecacmibkpaaGreatDoor
