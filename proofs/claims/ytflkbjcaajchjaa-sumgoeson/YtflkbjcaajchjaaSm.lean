/-
  The statement on lists put together: by plain numbers, and walks over the program.
-/
import Derived.Test.YtflkbjcaajchjaaSk
import Derived.Test.YtflkbjcaajchjaaSq
import Derived.Deep.RegionWith
import Derived.Deep.Cut
import Derived.Deep.CutRange
namespace Go.Proofs.Ytflkbjcaajchjaa
open Go.RowKit Tf
attribute [local go_sem] run_bits run_from raw_feq raw_fne raw_flt raw_fgt run_neg

/-- two lists put together -/
def both (xs : Nat → Nat) (n : Nat) (ys : Nat → Nat) : Nat → Nat := fun k => if k < n then xs k else ys (k - n)
theorem goes_on (xs ys : Nat → Nat) (n m : Nat) (hn : 0 < n) (hx : ∀ j, j < n → xs j < 18446744073709551616) : leftB (both xs n ys) (n + m) = leftB (both (fun _ => leftB xs n) 1 ys) (1 + m) := by
  have e0 : leftB xs n = lfF xs (n - 1) := by unfold leftB; rw [if_neg (by omega)]
  have main : ∀ k, k ≤ m → lfF (both xs n ys) (n - 1 + k) = lfF (both (fun _ => leftB xs n) 1 ys) k := by
    intro k
    induction k with
    | zero =>
      intro _
      rw [Nat.add_zero]
      show _ = qB (leftB xs n)
      rw [leftB_q xs n hx, e0]
      exact lfF_congr _ _ _ (fun j hj => by unfold both; rw [if_pos (by omega)])
    | succ k ih =>
      intro hk
      show plB (lfF (both xs n ys) (n - 1 + k)) (both xs n ys (n - 1 + k + 1)) = plB (lfF _ k) (both (fun _ => leftB xs n) 1 ys (k + 1))
      rw [ih (by omega)]
      have h1 : both xs n ys (n - 1 + k + 1) = ys k := by unfold both; rw [if_neg (by omega), show n - 1 + k + 1 - n = k by omega]
      have h2 : both (fun _ => leftB xs n) 1 ys (k + 1) = ys k := by unfold both; rw [if_neg (by omega), show k + 1 - 1 = k by omega]
      rw [h1, h2]
  have := main m (Nat.le_refl _)
  unfold leftB at *
  rw [if_neg (by omega), if_neg (by omega), show n + m - 1 = n - 1 + m by omega, show 1 + m - 1 = m by omega]
  exact this
theorem both_lt {xs ys : Nat → Nat} {n m : Nat} (hx : ∀ j, j < n → xs j < 18446744073709551616) (hy : ∀ j, j < m → ys j < 18446744073709551616) : ∀ j, j < n + m → both xs n ys j < 18446744073709551616 := by
  intro j hj
  unfold both
  split
  · exact hx j (by assumption)
  · exact hy _ (by omega)
theorem both_list (f g : Nat → Nat) (n m j : Nat) (hj : j < n + m) : ((List.range n).map f ++ (List.range m).map g).getD j 0 = both f n g j := by
  unfold both
  by_cases c : j < n
  · rw [if_pos c]
    simp [List.getElem?_append, c]
  · rw [if_neg c]
    have : j - n < m := by omega
    simp [List.getElem?_append, c, this]
theorem both_own {B N : Nat} {v : Value} {w : World} {f g : Nat → Nat} {n m : Nat} {l : List Nat} (h : OwnF B v (l ++ (List.range m).map g) w) (hl : l = (List.range n).map f) (hN : n + m = N) (hf : ∀ j, j < n → f j < 18446744073709551616) (hg : ∀ j, j < m → g j < 18446744073709551616) :
    ∃ a0 cap, v = .slice a0 N cap ∧ N ≤ cap ∧ (cap : Int) ≤ 9223372036854775807 ∧ IsFl w a0 N (both f n g) := by
  subst hl hN
  obtain ⟨a0, cap, h1, h2, h3, _, h5⟩ := own_fl h (by
    intro x hm
    simp at hm
    rcases hm with ⟨j, hj, rfl⟩ | ⟨j, hj, rfl⟩
    · exact hf j hj
    · exact hg j hj)
  have e : ((List.range n).map f ++ (List.range m).map g).length = n + m := by simp
  rw [e] at h1 h2 h5
  refine ⟨a0, cap, h1, h2, h3, fun k hk => ?_⟩
  have := h5 k hk
  simp only [both_list f g n m k hk] at this
  exact this
set_option maxHeartbeats 1000000 in
theorem quiet5_at (x q : Nat) (w : World) (h : IsQ x q) :
    Calls Try.prog 21 #[.float .f64 x] w fun e w' => e = .returned (.float .f64 q) ∧ w' = w := by
  obtain ⟨h1, h2⟩ := h
  have C := hid (fun w => from_any 9221120237041090561 w)
  have hf := feq_selfq x h1
  cases hN : isN x
  · rw [hN] at hf
    rw [qB_of hN] at h2
    subst h2
    clear hN h1
    go_enter Try.func21, Try.ntmps21
    go_wp2
    go_ret
    exact ⟨rfl, rfl⟩
  · rw [hN] at hf
    rw [qB_N hN] at h2
    subst h2
    clear hN h1
    go_enter Try.func21, Try.ntmps21
    go_wp2_with fail
    refine (C.out _).mono ?_
    rintro e w' ⟨rfl, rfl⟩
    go_wp2
    go_ret
    exact ⟨rfl, rfl⟩
theorem dnB (wr w' : World) (h : ∃ k, w' = wr.drewN k) : Hid (Below wr.heap.size wr w') := by
  obtain ⟨k, rfl⟩ := h; exact below_drewN (Below.refl _ _) k
set_option maxHeartbeats 8000000 in
set_option maxRecDepth 100000 in
theorem go_bs (a0 a1 : Option Addr) (n1 c1 n2 c2 N : Nat) (xs ys : Nat → Nat) (w : World) (l1 : (n1 : Int) ≤ 1048576) (l2 : (n2 : Int) ≤ 1048576) (HN : Hid (n1 + n2 = N)) (hN : (1 : Int) < N) (hN2 : (N : Int) ≤ 2097152) (h : Nat) (hh : ((N : Int) + 1) / 2 = (h : Nat)) (hh1 : (h : Int) < N)
    (h0 : (0 : Int) < n1) (HX : Hid (IsFl w a0 n1 xs ∧ n1 ≤ c1 ∧ (a0 = none → c1 = 0) ∧ (c1 : Int) ≤ 17592186044416)) (HY : Hid (IsFl w a1 n2 ys ∧ n2 ≤ c2 ∧ (a1 = none → c2 = 0) ∧ (c2 : Int) ≤ 17592186044416)) :
    Calls Try.prog 6 #[.slice a0 n1 c1, .slice a1 n2 c2] w fun e w' => e = .returned (.bool true) ∧ Hid (Below w.heap.size w w') := by
  have S := hid same5_self
  have LA := hid left_at
  have PA := hid pairs_at
  have CA := hid careful_at
  have QA := hid quiet5_at
  have hx64 : Hid (∀ j, j < n1 → xs j < 18446744073709551616) := fun j hj => (HX.out.1 j hj).1
  have hy64 : Hid (∀ j, j < n2 → ys j < 18446744073709551616) := fun j hj => (HY.out.1 j hj).1
  have gl : decide (1048576 < (n1 : Int)) = false := by simp; omega
  have gl' : decide (1048576 < (n2 : Int)) = false := by simp; omega
  go_enter Try.func6, Try.ntmps6
  go_wp2_with fail
  refine (lives_any _).mono ?_
  rintro e w0 ⟨rfl, b0⟩
  go_wp2_with (first
    | (at_builtin; refine wpList_app rfl (.tmp 20) (.tmp 21) rfl w _ [] rfl (own_nil _ _) b0.out a0 n1 c1 xs rfl HX.out.2.2.1 HX.out.2.1 (HX.out.1.below b0.out) (by first | (simp; omega) | simp) ?_; intro v1 w1 o1 d1; have O1 := hid o1; have B1 := hid d1; clear o1 d1)
    | (at_builtin; refine wpList_app rfl (.tmp 23) (.tmp 24) rfl w v1 _ rfl O1.out B1.out a1 n2 c2 ys rfl HY.out.2.2.1 HY.out.2.1 (HY.out.1.below B1.out) (by simp; omega) ?_; intro v2 w2 o2 d2; obtain ⟨a2, cap2, rfl, m1, m2, m3⟩ := both_own o2 (List.nil_append _) HN.out hx64.out hy64.out; have M := hid (⟨m1, m2, m3⟩ : _ ∧ _ ∧ _); have B2 := hid d2; clear o2 d2 m1 m2 m3 O1 B1))
  obtain ⟨b, o, ha, _, _⟩ := (M.out.2.2 0 (by omega)).2
  subst ha
  have HB := hid (fun wr (hb : Below w2.heap.size w2 wr) => PA.out h (some ⟨b, o, none⟩) cap2 (both xs n1 ys) wr (by have := M.out.1; omega) M.out.2.1 (by omega) (fun k hk => (M.out.2.2.below hb) k (by omega)))
  have HB2 := hid (fun wr (hb : Below w2.heap.size w2 wr) => PA.out (N - h) (some ⟨b, o + h, none⟩) (cap2 - h) (fun j => both xs n1 ys (h + j)) wr (by have := M.out.1; omega) (by have := M.out.2.1; omega) (by omega) (fun k hk => by
    obtain ⟨k1, b', o', k2, k3, k4⟩ := (M.out.2.2.below hb) (h + k) (by omega)
    cases k2
    exact ⟨k1, b, o + h, rfl, k3, by rw [Nat.add_assoc]; exact k4⟩))
  have e0 : prB (both xs n1 ys) 0 N = plB (prB (both xs n1 ys) 0 h) (prB (fun j => both xs n1 ys (h + j)) 0 (N - h)) := by
    rw [prB_more _ 0 N (by omega), show (N + 1) / 2 = h by omega, Nat.zero_add]
    congr 1
    exact prB_congr _ _ _ _ _ (fun j _ => by rw [Nat.zero_add])
  have q1 : prB (both xs n1 ys) 0 h < 18446744073709551616 := prB_lt _ h 0 (fun j hj => (M.out.2.2 (0 + j) (by omega)).1)
  have q2 : prB (fun j => both xs n1 ys (h + j)) 0 (N - h) < 18446744073709551616 := prB_lt _ _ 0 (fun j hj => (M.out.2.2 (h + (0 + j)) (by omega)).1)
  have q1' : qB (prB (both xs n1 ys) 0 h) = prB (both xs n1 ys) 0 h := prB_q _ h 0 (fun j hj => (M.out.2.2 (0 + j) (by omega)).1)
  have q2' : qB (prB (fun j => both xs n1 ys (h + j)) 0 (N - h)) = prB (fun j => both xs n1 ys (h + j)) 0 (N - h) := prB_q _ _ 0 (fun j hj => (M.out.2.2 (h + (0 + j)) (by omega)).1)
  have HP := hid (fun wr (hb : Below w2.heap.size w2 wr) => PA.out N (some ⟨b, o, none⟩) cap2 (both xs n1 ys) wr M.out.1 M.out.2.1 (by omega) (M.out.2.2.below hb))
  rw [e0] at HP
  obtain ⟨p, hp⟩ : ∃ p, prB (both xs n1 ys) 0 h = p := ⟨_, rfl⟩
  obtain ⟨q, hq⟩ : ∃ p, prB (fun j => both xs n1 ys (h + j)) 0 (N - h) = p := ⟨_, rfl⟩
  rw [hp] at HB HP q1 q1'
  rw [hq] at HB2 HP q2 q2'
  have I1 : Hid (IsQ p p) := ⟨q1, q1'⟩
  have I2 : Hid (IsQ q q) := ⟨q2, q2'⟩
  have hc0 : ¬ cap2 = 0 := by have := M.out.1; omega
  have hch : ¬ cap2 = h := by have := M.out.1; omega
  have hcap : (N : Int) ≤ cap2 := by have := M.out.1; omega
  have hcm : (cap2 : Int) ≤ 9223372036854775807 := M.out.2.1
  clear e0 hp hq q1 q2 q1' q2'
  rw [hh]
  go_cut [8] from 33 to 41 (fun pv wx => ∃ r, pv = .float .f64 r ∧ Hid (IsQ r (plB p q)) ∧ Hid (Below w2.heap.size w2 wx))
  case first =>
    have D0 : Hid (Below w2.heap.size w2 w2.drew) := below_drewN (Below.refl _ _) 1
    go_region_with (first
      | (go_at_call 13; have hb := z1.out; refine (HB2.out _ hb).mono ?_; clear hb; rintro e wz2 ⟨rfl, z2⟩; have Z2 : Hid (Below w2.heap.size w2 wz2) := bthen z1.out z2.out; have ⟨r, m, hr, hrq⟩ := add_any (P := Try.prog) wz2 p _ q _ I1.out I2.out; have HQ := hid hrq; have Z3 : Hid (Below w2.heap.size w2 (wz2.drewN m)) := below_drewN Z2.out m; clear hrq z2)
      | (go_at_call 13; refine (HB.out _ D0.out).mono ?_; rintro e wz1 ⟨rfl, y1⟩; have z1 : Hid (Below w2.heap.size w2 wz1) := bthen D0.out y1.out; clear y1))
    all_goals (try go_wp2_with fail)
    all_goals go_meet
    all_goals exact ⟨r, (by first | rfl | (simp [Act.put]; done) | (go_simp; done)), HQ, Z3⟩
  case rest =>
    obtain ⟨r, rfl, hrq, hbc⟩ := hcut
    have BC : Hid (Below w.heap.size w wc) := bthen B2.out hbc.out
    have Q' := hid (fun wr => QA.out r _ wr hrq.out)
    clear hrq HB HB2 I1 I2
    go_wp2_with fail
    refine (HP.out _ hbc.out).mono ?_
    rintro e w3 ⟨rfl, y3⟩
    have D3 : Hid (Below w2.heap.size w2 w3) := bthen hbc.out y3.out
    have B3 : Hid (Below w.heap.size w w3) := bthen BC.out y3.out
    clear y3 BC hbc
    go_wp2_with fail
    refine (Q'.out _).mono ?_
    rintro e w' ⟨rfl, rfl⟩
    go_wp2_with fail
    refine (S.out _ _).mono ?_
    rintro e w'' ⟨rfl, rfl⟩
    clear HP Q'
    obtain ⟨bx, ox, hax, hbx, hcx⟩ := (HX.out.1 0 (by omega)).2
    subst hax
    have hx0 := hx64.out 0 (by omega)
    have X3 := hid (fun wr (hb : Below w.heap.size w wr) => LA.out (some ⟨bx, ox, none⟩) n1 c1 xs wr HX.out.2.1 (by have := HX.out.2.2.2; omega) (HX.out.1.below hb))
    have e1 : leftB (both xs n1 ys) N = leftB (both (fun _ => leftB xs n1) 1 ys) (1 + n2) := by
      rw [← HN.out]; exact goes_on xs ys n1 n2 (by omega) hx64.out
    have hl64 : leftB xs n1 < 18446744073709551616 := leftB_lt xs n1 hx64.out
    obtain ⟨l, hl⟩ : ∃ l, leftB xs n1 = l := ⟨_, rfl⟩
    rw [hl] at X3 e1 hl64
    obtain ⟨N3, hN3⟩ : ∃ k, 1 + n2 = k := ⟨_, rfl⟩
    rw [hN3] at e1
    have HN3 := hid hN3
    have E1 := hid e1
    have HL := hid hl64
    clear hl e1 hl64 hN3
    go_wp2_with fail
    refine (X3.out _ B3.out).mono ?_
    rintro e w4 ⟨rfl, k4⟩
    have D4 : Hid (Below w2.heap.size w2 w4) := bthen D3.out (dnB _ _ k4)
    have B4 : Hid (Below w.heap.size w w4) := bthen B3.out (dnB _ _ k4)
    clear k4 D3 B3
    go_wp2_with (at_builtin; refine wpList_app rfl (.tmp 69) (.tmp 70) rfl w4 (.slice (some ⟨w4.heap.size, 0, none⟩) 1 1) [l] rfl (own_one w4 w4.heap.size l (Nat.le_refl _)) ((Below.refl _ _).alloc (Nat.le_refl _) _) a1 n2 c2 ys rfl HY.out.2.2.1 HY.out.2.1 (HY.out.1.below (B4.out.alloc B4.out.size _)) (by simp; omega) ?_; intro v5 w5 o5 d5; obtain ⟨a3, cap3, rfl, s1, s2, s3⟩ := both_own o5 (show [l] = (List.range 1).map (fun _ => l) from rfl) HN3.out (fun _ _ => HL.out) hy64.out; have M5 := hid (⟨s1, s2, s3⟩ : _ ∧ _ ∧ _); have B5 : Hid (Below w.heap.size w w5) := bthen B4.out d5; have D5 : Hid (Below w2.heap.size w2 w5) := bthen D4.out d5; clear o5 d5 s1 s2 s3 B4 D4)
    obtain ⟨U, F, hne, hF1, hF2⟩ := cls w5 w5.heap.size
    have FB : ∀ u, Below w2.heap.size w2 (F u) := fun u => bthen D5.out (hF1 u)
    have FW : ∀ u, Below w.heap.size w (F u) := fun u => bthen B5.out (hF1 u)
    have T1 := hid (fun u => (LA.out (some ⟨b, o, none⟩) N cap2 (both xs n1 ys) (F u) M.out.1 M.out.2.1 (M.out.2.2.below (FB u))).mono (fun _ _ ⟨he, hw⟩ => (⟨he, bthen (hF1 u) (dnB _ _ hw)⟩ : _ ∧ Hid (Below w5.heap.size w5 _))))
    have T2 := hid (fun u => (LA.out a3 N3 cap3 (both (fun _ => l) 1 ys) (F u) M5.out.1 M5.out.2.1 (M5.out.2.2.below (hF1 u))).mono (fun _ _ ⟨he, hw⟩ => (⟨he, bthen (hF1 u) (dnB _ _ hw)⟩ : _ ∧ Hid (Below w5.heap.size w5 _))))
    have hfx : ∀ u, IsFl (F u) (some ⟨bx, ox, none⟩) 1 xs := fun u k hk => (HX.out.1.below (FW u)) k (by omega)
    have T3 := hid (fun u => (LA.out (some ⟨bx, ox, none⟩) 1 c1 xs (F u) (by have := HX.out.2.1; omega) (by have := HX.out.2.2.2; omega) (hfx u)).mono (fun _ _ ⟨he, hw⟩ => (⟨he, bthen (hF1 u) (dnB _ _ hw)⟩ : _ ∧ Hid (Below w5.heap.size w5 _))))
    have T4 := hid (fun u => (PA.out 1 (some ⟨bx, ox, none⟩) c1 xs (F u) (by have := HX.out.2.1; omega) (by have := HX.out.2.2.2; omega) (by omega) (hfx u)).mono (fun _ _ ⟨he, hw⟩ => (⟨he, bthen (hF1 u) hw.out⟩ : _ ∧ Hid (Below w5.heap.size w5 _))))
    have T5 := hid (fun u => QA.out (xs 0) _ (F u) (IsQ.self hx0))
    have cx : ∀ u, (F u).cell? ⟨bx, ox, none⟩ = some (.float .f64 (xs 0)) := fun u => ((FW u).cell (p := ⟨bx, ox, none⟩) hbx).trans hcx
    rw [E1.out] at T1
    rw [prB_one] at T4
    have e3 : leftB xs 1 = qB (xs 0) := rfl
    rw [e3] at T3
    obtain ⟨t, ht⟩ : ∃ t, leftB (both (fun _ => l) 1 ys) N3 = t := ⟨_, rfl⟩
    rw [ht] at T1 T2
    obtain ⟨z, hz⟩ : ∃ t, qB (xs 0) = t := ⟨_, rfl⟩
    rw [hz] at T3 T4 T5
    obtain ⟨x0, hx⟩ : ∃ t, xs 0 = t := ⟨_, rfl⟩
    rw [hx] at T5 cx
    have HF := hid hF2
    have HF1 := hid hF1
    have D := HF.out _ (Below.refl w5.heap.size w5).drew
    have c1p : (1 : Int) ≤ c1 := by have := HX.out.2.1; omega
    have c10 : ¬ c1 = 0 := by omega
    clear e3 ht hz hx hF1 hF2 FB FW hfx LA PA CA QA M M5 X3 hx0 hbx hcx
    refine region_cls F (by kernel_rfl) (by kernel_rfl) D ?_
    repeat (go_big_quiet_step (first
      | (go_at_call_of 11 (Value.slice (some ⟨b, o, none⟩) N cap2); exact calls_cls HF (T1.out _))
      | (go_at_call_of 11 (Value.slice a3 N3 cap3); exact calls_cls HF (T2.out _))
      | (go_at_call_of 11 (Value.slice (some ⟨bx, ox, none⟩) 1 c1); exact calls_cls HF (T3.out _))
      | (go_at_call 13; exact calls_cls HF (T4.out _))
      | (go_at_call 21; exact (T5.out _).mono (fun _ _ ⟨he, hw⟩ => ⟨he, _, hw⟩))
      | (go_at_call 10; exact (S.out _ _).mono (fun _ _ ⟨he, hw⟩ => ⟨he, _, hw⟩))
      ))
    refine wpQuiet_nil ?_
    intro wz hwz
    obtain ⟨u, rfl⟩ := hwz
    have HB' : Hid (Below w.heap.size w (F u)) := bthen B5.out (HF1.out u)
    go_wp2
    go_ret
    exact ⟨rfl, HB'⟩
set_option maxHeartbeats 8000000 in
set_option maxRecDepth 100000 in
theorem go_bn (a0 a1 : Option Addr) (n1 c1 n2 c2 N : Nat) (xs ys : Nat → Nat) (w : World) (l1 : (n1 : Int) ≤ 1048576) (l2 : (n2 : Int) ≤ 1048576) (HN : Hid (n1 + n2 = N)) (hN : (1 : Int) < N) (hN2 : (N : Int) ≤ 2097152) (h : Nat) (hh : ((N : Int) + 1) / 2 = (h : Nat)) (hh1 : (h : Int) < N)
    (h0 : n1 = 0) (HX : Hid (IsFl w a0 n1 xs ∧ n1 ≤ c1 ∧ (a0 = none → c1 = 0) ∧ (c1 : Int) ≤ 17592186044416)) (HY : Hid (IsFl w a1 n2 ys ∧ n2 ≤ c2 ∧ (a1 = none → c2 = 0) ∧ (c2 : Int) ≤ 17592186044416)) :
    Calls Try.prog 6 #[.slice a0 n1 c1, .slice a1 n2 c2] w fun e w' => e = .returned (.bool true) ∧ Hid (Below w.heap.size w w') := by
  have S := hid same5_self
  have LA := hid left_at
  have PA := hid pairs_at
  have CA := hid careful_at
  have QA := hid quiet5_at
  have hx64 : Hid (∀ j, j < n1 → xs j < 18446744073709551616) := fun j hj => (HX.out.1 j hj).1
  have hy64 : Hid (∀ j, j < n2 → ys j < 18446744073709551616) := fun j hj => (HY.out.1 j hj).1
  subst h0
  have gl2 : decide ((1048576 : Int) < ((0 : Nat) : Int)) = false := by decide
  have gl' : decide (1048576 < (n2 : Int)) = false := by simp; omega
  go_enter Try.func6, Try.ntmps6
  go_wp2_with fail
  refine (lives_any _).mono ?_
  rintro e w0 ⟨rfl, b0⟩
  go_wp2_with (first
    | (at_builtin; refine wpList_app rfl (.tmp 20) (.tmp 21) rfl w _ [] rfl (own_nil _ _) b0.out a0 0 c1 xs rfl HX.out.2.2.1 HX.out.2.1 (HX.out.1.below b0.out) (by first | (simp; omega) | simp) ?_; intro v1 w1 o1 d1; have O1 := hid o1; have B1 := hid d1; clear o1 d1)
    | (at_builtin; refine wpList_app rfl (.tmp 23) (.tmp 24) rfl w v1 _ rfl O1.out B1.out a1 n2 c2 ys rfl HY.out.2.2.1 HY.out.2.1 (HY.out.1.below B1.out) (by simp; omega) ?_; intro v2 w2 o2 d2; obtain ⟨a2, cap2, rfl, m1, m2, m3⟩ := both_own o2 (List.nil_append _) HN.out hx64.out hy64.out; have M := hid (⟨m1, m2, m3⟩ : _ ∧ _ ∧ _); have B2 := hid d2; clear o2 d2 m1 m2 m3 O1 B1))
  obtain ⟨b, o, ha, _, _⟩ := (M.out.2.2 0 (by omega)).2
  subst ha
  have HB := hid (fun wr (hb : Below w2.heap.size w2 wr) => PA.out h (some ⟨b, o, none⟩) cap2 (both xs 0 ys) wr (by have := M.out.1; omega) M.out.2.1 (by omega) (fun k hk => (M.out.2.2.below hb) k (by omega)))
  have HB2 := hid (fun wr (hb : Below w2.heap.size w2 wr) => PA.out (N - h) (some ⟨b, o + h, none⟩) (cap2 - h) (fun j => both xs 0 ys (h + j)) wr (by have := M.out.1; omega) (by have := M.out.2.1; omega) (by omega) (fun k hk => by
    obtain ⟨k1, b', o', k2, k3, k4⟩ := (M.out.2.2.below hb) (h + k) (by omega)
    cases k2
    exact ⟨k1, b, o + h, rfl, k3, by rw [Nat.add_assoc]; exact k4⟩))
  have e0 : prB (both xs 0 ys) 0 N = plB (prB (both xs 0 ys) 0 h) (prB (fun j => both xs 0 ys (h + j)) 0 (N - h)) := by
    rw [prB_more _ 0 N (by omega), show (N + 1) / 2 = h by omega, Nat.zero_add]
    congr 1
    exact prB_congr _ _ _ _ _ (fun j _ => by rw [Nat.zero_add])
  have q1 : prB (both xs 0 ys) 0 h < 18446744073709551616 := prB_lt _ h 0 (fun j hj => (M.out.2.2 (0 + j) (by omega)).1)
  have q2 : prB (fun j => both xs 0 ys (h + j)) 0 (N - h) < 18446744073709551616 := prB_lt _ _ 0 (fun j hj => (M.out.2.2 (h + (0 + j)) (by omega)).1)
  have q1' : qB (prB (both xs 0 ys) 0 h) = prB (both xs 0 ys) 0 h := prB_q _ h 0 (fun j hj => (M.out.2.2 (0 + j) (by omega)).1)
  have q2' : qB (prB (fun j => both xs 0 ys (h + j)) 0 (N - h)) = prB (fun j => both xs 0 ys (h + j)) 0 (N - h) := prB_q _ _ 0 (fun j hj => (M.out.2.2 (h + (0 + j)) (by omega)).1)
  have HP := hid (fun wr (hb : Below w2.heap.size w2 wr) => PA.out N (some ⟨b, o, none⟩) cap2 (both xs 0 ys) wr M.out.1 M.out.2.1 (by omega) (M.out.2.2.below hb))
  rw [e0] at HP
  obtain ⟨p, hp⟩ : ∃ p, prB (both xs 0 ys) 0 h = p := ⟨_, rfl⟩
  obtain ⟨q, hq⟩ : ∃ p, prB (fun j => both xs 0 ys (h + j)) 0 (N - h) = p := ⟨_, rfl⟩
  rw [hp] at HB HP q1 q1'
  rw [hq] at HB2 HP q2 q2'
  have I1 : Hid (IsQ p p) := ⟨q1, q1'⟩
  have I2 : Hid (IsQ q q) := ⟨q2, q2'⟩
  have hc0 : ¬ cap2 = 0 := by have := M.out.1; omega
  have hch : ¬ cap2 = h := by have := M.out.1; omega
  have hcap : (N : Int) ≤ cap2 := by have := M.out.1; omega
  have hcm : (cap2 : Int) ≤ 9223372036854775807 := M.out.2.1
  clear e0 hp hq q1 q2 q1' q2'
  rw [hh]
  go_cut [8] from 33 to 41 (fun pv wx => ∃ r, pv = .float .f64 r ∧ Hid (IsQ r (plB p q)) ∧ Hid (Below w2.heap.size w2 wx))
  case first =>
    have D0 : Hid (Below w2.heap.size w2 w2.drew) := below_drewN (Below.refl _ _) 1
    go_region_with (first
      | (go_at_call 13; have hb := z1.out; refine (HB2.out _ hb).mono ?_; clear hb; rintro e wz2 ⟨rfl, z2⟩; have Z2 : Hid (Below w2.heap.size w2 wz2) := bthen z1.out z2.out; have ⟨r, m, hr, hrq⟩ := add_any (P := Try.prog) wz2 p _ q _ I1.out I2.out; have HQ := hid hrq; have Z3 : Hid (Below w2.heap.size w2 (wz2.drewN m)) := below_drewN Z2.out m; clear hrq z2)
      | (go_at_call 13; refine (HB.out _ D0.out).mono ?_; rintro e wz1 ⟨rfl, y1⟩; have z1 : Hid (Below w2.heap.size w2 wz1) := bthen D0.out y1.out; clear y1))
    all_goals (try go_wp2_with fail)
    all_goals go_meet
    all_goals exact ⟨r, (by first | rfl | (simp [Act.put]; done) | (go_simp; done)), HQ, Z3⟩
  case rest =>
    obtain ⟨r, rfl, hrq, hbc⟩ := hcut
    have BC : Hid (Below w.heap.size w wc) := bthen B2.out hbc.out
    have Q' := hid (fun wr => QA.out r _ wr hrq.out)
    clear hrq HB HB2 I1 I2
    go_wp2_with fail
    refine (HP.out _ hbc.out).mono ?_
    rintro e w3 ⟨rfl, y3⟩
    have D3 : Hid (Below w2.heap.size w2 w3) := bthen hbc.out y3.out
    have B3 : Hid (Below w.heap.size w w3) := bthen BC.out y3.out
    clear y3 BC hbc
    go_wp2_with fail
    refine (Q'.out _).mono ?_
    rintro e w' ⟨rfl, rfl⟩
    go_wp2_with fail
    refine (S.out _ _).mono ?_
    rintro e w'' ⟨rfl, rfl⟩
    clear HP Q'
    have M3 := hid (fun wr (hb : Below w2.heap.size w2 wr) => LA.out (some ⟨b, o, none⟩) N cap2 (both xs 0 ys) wr M.out.1 M.out.2.1 (M.out.2.2.below hb))
    have e1 : leftB (both xs 0 ys) N = leftB ys n2 := by
      have : n2 = N := by have := HN.out; omega
      rw [← this]
      exact leftB_congr _ _ _ (fun j _ => by unfold both; rw [if_neg (by omega), Nat.sub_zero])
    rw [e1] at M3
    have Y3 := hid (fun wr (hb : Below w.heap.size w wr) => LA.out a1 n2 c2 ys wr HY.out.2.1 (by have := HY.out.2.2.2; omega) (HY.out.1.below hb))
    have P3 := hid (fun wr (hb : Below w.heap.size w wr) => PA.out 0 a0 c1 xs wr (by omega) (by have := HX.out.2.2.2; omega) (by omega) (HX.out.1.below hb))
    have C3 := hid (fun wr (hb : Below w.heap.size w wr) => CA.out a0 0 c1 xs wr (by omega) (by have := HX.out.2.2.2; omega) (HX.out.1.below hb))
    have e2 : careB xs 0 = 0 := by show plB 0 0 = 0; decide
    rw [prB_zero] at P3
    rw [e2] at C3
    obtain ⟨l, hl⟩ : ∃ l, leftB ys n2 = l := ⟨_, rfl⟩
    rw [hl] at M3 Y3
    clear hl e1 e2
    go_wp2_with fail
    refine (M3.out _ D3.out).mono ?_
    rintro e w4 ⟨rfl, k4⟩
    have B4 : Hid (Below w.heap.size w w4) := bthen B3.out (dnB _ _ k4)
    clear k4
    go_wp2_with fail
    refine (Y3.out _ B4.out).mono ?_
    rintro e w5 ⟨rfl, k5⟩
    have B5 : Hid (Below w.heap.size w w5) := bthen B4.out (dnB _ _ k5)
    clear k5
    go_wp2_with fail
    refine (S.out _ _).mono ?_
    rintro e w5' ⟨rfl, rfl⟩
    go_wp2_with fail
    refine (P3.out _ B5.out).mono ?_
    rintro e w6 ⟨rfl, k6⟩
    have B6 : Hid (Below w.heap.size w w6) := bthen B5.out k6.out
    clear k6
    go_wp2_with fail
    refine (S.out _ _).mono ?_
    rintro e w6' ⟨rfl, rfl⟩
    go_wp2_with fail
    refine (C3.out _ B6.out).mono ?_
    rintro e w7 ⟨rfl, k7⟩
    have B7 : Hid (Below w.heap.size w w7) := bthen B6.out (dnB _ _ k7)
    clear k7
    go_wp2_with fail
    refine (S.out _ _).mono ?_
    rintro e w7' ⟨rfl, rfl⟩
    go_wp2
    go_ret
    exact ⟨rfl, B7⟩
set_option maxHeartbeats 8000000 in
set_option maxRecDepth 100000 in
theorem go_ss (a0 a1 : Option Addr) (n1 c1 n2 c2 N : Nat) (xs ys : Nat → Nat) (w : World) (l1 : (n1 : Int) ≤ 1048576) (l2 : (n2 : Int) ≤ 1048576) (HN : Hid (n1 + n2 = N)) (hN : (N : Int) ≤ 1) (_hN2 : (N : Int) ≤ 2097152)
    (h0 : (0 : Int) < n1) (HX : Hid (IsFl w a0 n1 xs ∧ n1 ≤ c1 ∧ (a0 = none → c1 = 0) ∧ (c1 : Int) ≤ 17592186044416)) (HY : Hid (IsFl w a1 n2 ys ∧ n2 ≤ c2 ∧ (a1 = none → c2 = 0) ∧ (c2 : Int) ≤ 17592186044416)) :
    Calls Try.prog 6 #[.slice a0 n1 c1, .slice a1 n2 c2] w fun e w' => e = .returned (.bool true) ∧ Hid (Below w.heap.size w w') := by
  have S := hid same5_self
  have LA := hid left_at
  have PA := hid pairs_at
  have CA := hid careful_at
  have QA := hid quiet5_at
  have hx64 : Hid (∀ j, j < n1 → xs j < 18446744073709551616) := fun j hj => (HX.out.1 j hj).1
  have hy64 : Hid (∀ j, j < n2 → ys j < 18446744073709551616) := fun j hj => (HY.out.1 j hj).1
  have gl : decide (1048576 < (n1 : Int)) = false := by simp; omega
  have gl' : decide (1048576 < (n2 : Int)) = false := by simp; omega
  go_enter Try.func6, Try.ntmps6
  go_wp2_with fail
  refine (lives_any _).mono ?_
  rintro e w0 ⟨rfl, b0⟩
  go_wp2_with (first
    | (at_builtin; refine wpList_app rfl (.tmp 20) (.tmp 21) rfl w _ [] rfl (own_nil _ _) b0.out a0 n1 c1 xs rfl HX.out.2.2.1 HX.out.2.1 (HX.out.1.below b0.out) (by first | (simp; omega) | simp) ?_; intro v1 w1 o1 d1; have O1 := hid o1; have B1 := hid d1; clear o1 d1)
    | (at_builtin; refine wpList_app rfl (.tmp 23) (.tmp 24) rfl w v1 _ rfl O1.out B1.out a1 n2 c2 ys rfl HY.out.2.2.1 HY.out.2.1 (HY.out.1.below B1.out) (by simp; omega) ?_; intro v2 w2 o2 d2; obtain ⟨a2, cap2, rfl, m1, m2, m3⟩ := both_own o2 (List.nil_append _) HN.out hx64.out hy64.out; have M := hid (⟨m1, m2, m3⟩ : _ ∧ _ ∧ _); have B2 := hid d2; clear o2 d2 m1 m2 m3 O1 B1))
  have D3 : Hid (Below w2.heap.size w2 w2) := Below.refl _ _
  have B3 := B2
  obtain ⟨bx, ox, hax, hbx, hcx⟩ := (HX.out.1 0 (by omega)).2
  subst hax
  have hx0 := hx64.out 0 (by omega)
  have X3 := hid (fun wr (hb : Below w.heap.size w wr) => LA.out (some ⟨bx, ox, none⟩) n1 c1 xs wr HX.out.2.1 (by have := HX.out.2.2.2; omega) (HX.out.1.below hb))
  have e1 : leftB (both xs n1 ys) N = leftB (both (fun _ => leftB xs n1) 1 ys) (1 + n2) := by
    rw [← HN.out]; exact goes_on xs ys n1 n2 (by omega) hx64.out
  have hl64 : leftB xs n1 < 18446744073709551616 := leftB_lt xs n1 hx64.out
  obtain ⟨l, hl⟩ : ∃ l, leftB xs n1 = l := ⟨_, rfl⟩
  rw [hl] at X3 e1 hl64
  obtain ⟨N3, hN3⟩ : ∃ k, 1 + n2 = k := ⟨_, rfl⟩
  rw [hN3] at e1
  have HN3 := hid hN3
  have E1 := hid e1
  have HL := hid hl64
  clear hl e1 hl64 hN3
  go_wp2_with fail
  refine (X3.out _ B3.out).mono ?_
  rintro e w4 ⟨rfl, k4⟩
  have D4 : Hid (Below w2.heap.size w2 w4) := bthen D3.out (dnB _ _ k4)
  have B4 : Hid (Below w.heap.size w w4) := bthen B3.out (dnB _ _ k4)
  clear k4 D3 B3
  go_wp2_with (at_builtin; refine wpList_app rfl (.tmp 69) (.tmp 70) rfl w4 (.slice (some ⟨w4.heap.size, 0, none⟩) 1 1) [l] rfl (own_one w4 w4.heap.size l (Nat.le_refl _)) ((Below.refl _ _).alloc (Nat.le_refl _) _) a1 n2 c2 ys rfl HY.out.2.2.1 HY.out.2.1 (HY.out.1.below (B4.out.alloc B4.out.size _)) (by simp; omega) ?_; intro v5 w5 o5 d5; obtain ⟨a3, cap3, rfl, s1, s2, s3⟩ := both_own o5 (show [l] = (List.range 1).map (fun _ => l) from rfl) HN3.out (fun _ _ => HL.out) hy64.out; have M5 := hid (⟨s1, s2, s3⟩ : _ ∧ _ ∧ _); have B5 : Hid (Below w.heap.size w w5) := bthen B4.out d5; have D5 : Hid (Below w2.heap.size w2 w5) := bthen D4.out d5; clear o5 d5 s1 s2 s3 B4 D4)
  obtain ⟨U, F, hne, hF1, hF2⟩ := cls w5 w5.heap.size
  have FB : ∀ u, Below w2.heap.size w2 (F u) := fun u => bthen D5.out (hF1 u)
  have FW : ∀ u, Below w.heap.size w (F u) := fun u => bthen B5.out (hF1 u)
  have T1 := hid (fun u => (LA.out a2 N cap2 (both xs n1 ys) (F u) M.out.1 M.out.2.1 (M.out.2.2.below (FB u))).mono (fun _ _ ⟨he, hw⟩ => (⟨he, bthen (hF1 u) (dnB _ _ hw)⟩ : _ ∧ Hid (Below w5.heap.size w5 _))))
  have T2 := hid (fun u => (LA.out a3 N3 cap3 (both (fun _ => l) 1 ys) (F u) M5.out.1 M5.out.2.1 (M5.out.2.2.below (hF1 u))).mono (fun _ _ ⟨he, hw⟩ => (⟨he, bthen (hF1 u) (dnB _ _ hw)⟩ : _ ∧ Hid (Below w5.heap.size w5 _))))
  have hfx : ∀ u, IsFl (F u) (some ⟨bx, ox, none⟩) 1 xs := fun u k hk => (HX.out.1.below (FW u)) k (by omega)
  have T3 := hid (fun u => (LA.out (some ⟨bx, ox, none⟩) 1 c1 xs (F u) (by have := HX.out.2.1; omega) (by have := HX.out.2.2.2; omega) (hfx u)).mono (fun _ _ ⟨he, hw⟩ => (⟨he, bthen (hF1 u) (dnB _ _ hw)⟩ : _ ∧ Hid (Below w5.heap.size w5 _))))
  have T4 := hid (fun u => (PA.out 1 (some ⟨bx, ox, none⟩) c1 xs (F u) (by have := HX.out.2.1; omega) (by have := HX.out.2.2.2; omega) (by omega) (hfx u)).mono (fun _ _ ⟨he, hw⟩ => (⟨he, bthen (hF1 u) hw.out⟩ : _ ∧ Hid (Below w5.heap.size w5 _))))
  have T5 := hid (fun u => QA.out (xs 0) _ (F u) (IsQ.self hx0))
  have cx : ∀ u, (F u).cell? ⟨bx, ox, none⟩ = some (.float .f64 (xs 0)) := fun u => ((FW u).cell (p := ⟨bx, ox, none⟩) hbx).trans hcx
  rw [E1.out] at T1
  rw [prB_one] at T4
  have e3 : leftB xs 1 = qB (xs 0) := rfl
  rw [e3] at T3
  obtain ⟨t, ht⟩ : ∃ t, leftB (both (fun _ => l) 1 ys) N3 = t := ⟨_, rfl⟩
  rw [ht] at T1 T2
  obtain ⟨z, hz⟩ : ∃ t, qB (xs 0) = t := ⟨_, rfl⟩
  rw [hz] at T3 T4 T5
  obtain ⟨x0, hx⟩ : ∃ t, xs 0 = t := ⟨_, rfl⟩
  rw [hx] at T5 cx
  have HF := hid hF2
  have HF1 := hid hF1
  have D := HF.out _ (Below.refl w5.heap.size w5).drew
  have c1p : (1 : Int) ≤ c1 := by have := HX.out.2.1; omega
  have c10 : ¬ c1 = 0 := by omega
  clear e3 ht hz hx hF1 hF2 FB FW hfx LA PA CA QA M M5 X3 hx0 hbx hcx
  refine region_cls F (by kernel_rfl) (by kernel_rfl) D ?_
  repeat (go_big_quiet_step (first
    | (go_at_call_of 11 (Value.slice a2 N cap2); exact calls_cls HF (T1.out _))
    | (go_at_call_of 11 (Value.slice a3 N3 cap3); exact calls_cls HF (T2.out _))
    | (go_at_call_of 11 (Value.slice (some ⟨bx, ox, none⟩) 1 c1); exact calls_cls HF (T3.out _))
    | (go_at_call 13; exact calls_cls HF (T4.out _))
    | (go_at_call 21; exact (T5.out _).mono (fun _ _ ⟨he, hw⟩ => ⟨he, _, hw⟩))
    | (go_at_call 10; exact (S.out _ _).mono (fun _ _ ⟨he, hw⟩ => ⟨he, _, hw⟩))
    ))
  refine wpQuiet_nil ?_
  intro wz hwz
  obtain ⟨u, rfl⟩ := hwz
  have HB' : Hid (Below w.heap.size w (F u)) := bthen B5.out (HF1.out u)
  go_wp2
  go_ret
  exact ⟨rfl, HB'⟩
set_option maxHeartbeats 8000000 in
set_option maxRecDepth 100000 in
theorem go_sn (a0 a1 : Option Addr) (n1 c1 n2 c2 N : Nat) (xs ys : Nat → Nat) (w : World) (l1 : (n1 : Int) ≤ 1048576) (l2 : (n2 : Int) ≤ 1048576) (HN : Hid (n1 + n2 = N)) (hN : (N : Int) ≤ 1) (_hN2 : (N : Int) ≤ 2097152)
    (h0 : n1 = 0) (HX : Hid (IsFl w a0 n1 xs ∧ n1 ≤ c1 ∧ (a0 = none → c1 = 0) ∧ (c1 : Int) ≤ 17592186044416)) (HY : Hid (IsFl w a1 n2 ys ∧ n2 ≤ c2 ∧ (a1 = none → c2 = 0) ∧ (c2 : Int) ≤ 17592186044416)) :
    Calls Try.prog 6 #[.slice a0 n1 c1, .slice a1 n2 c2] w fun e w' => e = .returned (.bool true) ∧ Hid (Below w.heap.size w w') := by
  have S := hid same5_self
  have LA := hid left_at
  have PA := hid pairs_at
  have CA := hid careful_at
  have QA := hid quiet5_at
  have hx64 : Hid (∀ j, j < n1 → xs j < 18446744073709551616) := fun j hj => (HX.out.1 j hj).1
  have hy64 : Hid (∀ j, j < n2 → ys j < 18446744073709551616) := fun j hj => (HY.out.1 j hj).1
  subst h0
  have gl2 : decide ((1048576 : Int) < ((0 : Nat) : Int)) = false := by decide
  have gl' : decide (1048576 < (n2 : Int)) = false := by simp; omega
  go_enter Try.func6, Try.ntmps6
  go_wp2_with fail
  refine (lives_any _).mono ?_
  rintro e w0 ⟨rfl, b0⟩
  go_wp2_with (first
    | (at_builtin; refine wpList_app rfl (.tmp 20) (.tmp 21) rfl w _ [] rfl (own_nil _ _) b0.out a0 0 c1 xs rfl HX.out.2.2.1 HX.out.2.1 (HX.out.1.below b0.out) (by first | (simp; omega) | simp) ?_; intro v1 w1 o1 d1; have O1 := hid o1; have B1 := hid d1; clear o1 d1)
    | (at_builtin; refine wpList_app rfl (.tmp 23) (.tmp 24) rfl w v1 _ rfl O1.out B1.out a1 n2 c2 ys rfl HY.out.2.2.1 HY.out.2.1 (HY.out.1.below B1.out) (by simp; omega) ?_; intro v2 w2 o2 d2; obtain ⟨a2, cap2, rfl, m1, m2, m3⟩ := both_own o2 (List.nil_append _) HN.out hx64.out hy64.out; have M := hid (⟨m1, m2, m3⟩ : _ ∧ _ ∧ _); have B2 := hid d2; clear o2 d2 m1 m2 m3 O1 B1))
  have D3 : Hid (Below w2.heap.size w2 w2) := Below.refl _ _
  have B3 := B2
  have M3 := hid (fun wr (hb : Below w2.heap.size w2 wr) => LA.out a2 N cap2 (both xs 0 ys) wr M.out.1 M.out.2.1 (M.out.2.2.below hb))
  have e1 : leftB (both xs 0 ys) N = leftB ys n2 := by
    have : n2 = N := by have := HN.out; omega
    rw [← this]
    exact leftB_congr _ _ _ (fun j _ => by unfold both; rw [if_neg (by omega), Nat.sub_zero])
  rw [e1] at M3
  have Y3 := hid (fun wr (hb : Below w.heap.size w wr) => LA.out a1 n2 c2 ys wr HY.out.2.1 (by have := HY.out.2.2.2; omega) (HY.out.1.below hb))
  have P3 := hid (fun wr (hb : Below w.heap.size w wr) => PA.out 0 a0 c1 xs wr (by omega) (by have := HX.out.2.2.2; omega) (by omega) (HX.out.1.below hb))
  have C3 := hid (fun wr (hb : Below w.heap.size w wr) => CA.out a0 0 c1 xs wr (by omega) (by have := HX.out.2.2.2; omega) (HX.out.1.below hb))
  have e2 : careB xs 0 = 0 := by show plB 0 0 = 0; decide
  rw [prB_zero] at P3
  rw [e2] at C3
  obtain ⟨l, hl⟩ : ∃ l, leftB ys n2 = l := ⟨_, rfl⟩
  rw [hl] at M3 Y3
  clear hl e1 e2
  go_wp2_with fail
  refine (M3.out _ D3.out).mono ?_
  rintro e w4 ⟨rfl, k4⟩
  have B4 : Hid (Below w.heap.size w w4) := bthen B3.out (dnB _ _ k4)
  clear k4
  go_wp2_with fail
  refine (Y3.out _ B4.out).mono ?_
  rintro e w5 ⟨rfl, k5⟩
  have B5 : Hid (Below w.heap.size w w5) := bthen B4.out (dnB _ _ k5)
  clear k5
  go_wp2_with fail
  refine (S.out _ _).mono ?_
  rintro e w5' ⟨rfl, rfl⟩
  go_wp2_with fail
  refine (P3.out _ B5.out).mono ?_
  rintro e w6 ⟨rfl, k6⟩
  have B6 : Hid (Below w.heap.size w w6) := bthen B5.out k6.out
  clear k6
  go_wp2_with fail
  refine (S.out _ _).mono ?_
  rintro e w6' ⟨rfl, rfl⟩
  go_wp2_with fail
  refine (C3.out _ B6.out).mono ?_
  rintro e w7 ⟨rfl, k7⟩
  have B7 : Hid (Below w.heap.size w w7) := bthen B6.out (dnB _ _ k7)
  clear k7
  go_wp2_with fail
  refine (S.out _ _).mono ?_
  rintro e w7' ⟨rfl, rfl⟩
  go_wp2
  go_ret
  exact ⟨rfl, B7⟩
set_option maxHeartbeats 1000000 in
theorem go_long1 (a0 a1 : Option Addr) (n1 c1 n2 c2 : Nat) (w : World) (hl : 1048576 < (n1 : Int)) :
    Calls Try.prog 6 #[.slice a0 n1 c1, .slice a1 n2 c2] w fun e w' => e = .returned (.bool true) ∧ Hid (Below w.heap.size w w') := by
  have g0 : decide (1048576 < (n1 : Int)) = true := by simp; omega
  go_enter Try.func6, Try.ntmps6
  go_wp2_with fail
  refine (lives_any _).mono ?_
  rintro e w0 ⟨rfl, b0⟩
  go_wp2
  go_ret
  exact ⟨rfl, b0⟩
set_option maxHeartbeats 1000000 in
theorem go_long2 (a0 a1 : Option Addr) (n1 c1 n2 c2 : Nat) (w : World) (h0 : (n1 : Int) ≤ 1048576) (hl : 1048576 < (n2 : Int)) :
    Calls Try.prog 6 #[.slice a0 n1 c1, .slice a1 n2 c2] w fun e w' => e = .returned (.bool true) ∧ Hid (Below w.heap.size w w') := by
  have g0 : decide (1048576 < (n1 : Int)) = false := by simp; omega
  go_enter Try.func6, Try.ntmps6
  go_wp2_with fail
  refine (lives_any _).mono ?_
  rintro e w0 ⟨rfl, b0⟩
  go_wp2
  go_ret
  exact ⟨rfl, b0⟩
/-- LISTS PUT TOGETHER -/
theorem go_walk (a0 a1 : Option Addr) (n1 c1 n2 c2 : Nat) (xs ys : Nat → Nat) (w : World) (HX : Hid (IsFl w a0 n1 xs ∧ n1 ≤ c1 ∧ (a0 = none → c1 = 0) ∧ (c1 : Int) ≤ 17592186044416)) (HY : Hid (IsFl w a1 n2 ys ∧ n2 ≤ c2 ∧ (a1 = none → c2 = 0) ∧ (c2 : Int) ≤ 17592186044416)) :
    Calls Try.prog 6 #[.slice a0 n1 c1, .slice a1 n2 c2] w fun e w' => e = .returned (.bool true) ∧ Hid (Below w.heap.size w w') := by
  by_cases l1 : n1 ≤ 1048576
  · by_cases l2 : n2 ≤ 1048576
    · by_cases h0 : n1 = 0
      · by_cases hb : 1 < n1 + n2
        · exact go_bn a0 a1 n1 c1 n2 c2 (n1 + n2) xs ys w (by omega) (by omega) rfl (by omega) (by omega) ((n1 + n2 + 1) / 2) (by omega) (by omega) h0 HX HY
        · exact go_sn a0 a1 n1 c1 n2 c2 (n1 + n2) xs ys w (by omega) (by omega) rfl (by omega) (by omega) h0 HX HY
      · by_cases hb : 1 < n1 + n2
        · exact go_bs a0 a1 n1 c1 n2 c2 (n1 + n2) xs ys w (by omega) (by omega) rfl (by omega) (by omega) ((n1 + n2 + 1) / 2) (by omega) (by omega) (by omega) HX HY
        · exact go_ss a0 a1 n1 c1 n2 c2 (n1 + n2) xs ys w (by omega) (by omega) rfl (by omega) (by omega) (by omega) HX HY
    · exact go_long2 a0 a1 n1 c1 n2 c2 w (by omega) (by omega)
  · exact go_long1 a0 a1 n1 c1 n2 c2 w (by omega)
end Go.Proofs.Ytflkbjcaajchjaa
