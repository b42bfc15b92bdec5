/-
  Some of the texts of this proof, one behind the other.
-/
import Derived.Sort.Grow
import Derived.Shelf.SlLaysF
import Derived.Shelf.SlGeneric
import Derived.Test.YtkckcohemalhiaaGreatDoorChecked
import Derived.Test.YtkckcohemalhiaaGreatDoorRa09
namespace Go.Proofs.YtkckcohemalhiaaGreatDoor
open Go.RowKit Tf Cu Go.Deep
attribute [local go_sem] run_bits run_from raw_feq raw_fne raw_flt raw_fgt run_neg run_store_float
namespace Rv
/-- how two beds stand to each other -/
def cmp3 (x y : Nat) : Int := if kb x < kb y then -1 else if kb y < kb x then 1 else 0
theorem cmp3_lt {x y : Nat} (h : kb x < kb y) : cmp3 x y = -1 := if_pos h
theorem cmp3_gt {x y : Nat} (h : kb y < kb x) : cmp3 x y = 1 := by unfold cmp3; rw [if_neg (by omega), if_pos h]
theorem cmp3_eq {x y : Nat} (h : kb x = kb y) : cmp3 x y = 0 := by unfold cmp3; rw [if_neg (by omega), if_neg (by omega)]
/-- where a cell's water runs by the sides below k -/
def dk (K nb : Nat → Nat) (c : Nat) : Nat → Int
  | 0 => -1
  | k + 1 => if K (bst K nb k) < K c then ((bst K nb k : Nat) : Int) else -1
theorem bst_next (K nb : Nat → Nat) (k : Nat) : bst K nb (k + 1) = if lt2 K (nb (k + 1)) (bst K nb k) = true then nb (k + 1) else bst K nb k := rfl
theorem dk_no {K nb : Nat → Nat} {c k : Nat} (h : dk K nb c k < 0) : dk K nb c k = -1 ∧ dk K nb c (k + 1) = if K (nb k) < K c then ((nb k : Nat) : Int) else -1 := by
  cases k with
  | zero => exact ⟨rfl, rfl⟩
  | succ k =>
    have h1 : ¬ K (bst K nb k) < K c := fun q => by
      have h2 : (if K (bst K nb k) < K c then ((bst K nb k : Nat) : Int) else -1) < 0 := h
      rw [if_pos q] at h2
      omega
    refine ⟨if_neg h1, ?_⟩
    show (if K (bst K nb (k + 1)) < K c then ((bst K nb (k + 1) : Nat) : Int) else -1) = _
    rw [bst_next]
    by_cases q : lt2 K (nb (k + 1)) (bst K nb k) = true
    · rw [if_pos q]
    · rw [if_neg q, if_neg h1, if_neg]
      intro q2
      exact q (lt2_iff.2 (.inl (by omega)))
theorem dk_yes {K nb : Nat → Nat} {c k m : Nat} (h : dk K nb c k = (m : Nat)) : (∃ s, s < k ∧ nb s = m) ∧ K m < K c ∧ dk K nb c (k + 1) = if lt2 K (nb k) m = true then ((nb k : Nat) : Int) else ((m : Nat) : Int) := by
  cases k with
  | zero => have h2 : (-1 : Int) = (m : Nat) := h; omega
  | succ k =>
    have h1 : K (bst K nb k) < K c := by
      rcases Nat.lt_or_ge (K (bst K nb k)) (K c) with q | q
      · exact q
      · have h2 : (if K (bst K nb k) < K c then ((bst K nb k : Nat) : Int) else -1) = (m : Nat) := h
        rw [if_neg (by omega)] at h2
        omega
    have h2 : bst K nb k = m := by
      have h2 : (if K (bst K nb k) < K c then ((bst K nb k : Nat) : Int) else -1) = (m : Nat) := h
      rw [if_pos h1] at h2
      omega
    obtain ⟨s, l, e⟩ := bst_in K nb k
    rw [h2] at h1 e
    refine ⟨⟨s, by omega, e.symm⟩, h1, ?_⟩
    show (if K (bst K nb (k + 1)) < K c then ((bst K nb (k + 1) : Nat) : Int) else -1) = _
    rw [bst_next, h2]
    by_cases q : lt2 K (nb (k + 1)) m = true
    · rw [if_pos q, if_pos q, if_pos]
      rcases lt2_iff.1 q with q | q <;> omega
    · rw [if_neg q, if_neg q, if_pos h1]
/-- the bed that is least so far -/
def lk (B nb : Nat → Nat) (c k : Nat) : Nat := if dk (kB B) nb c k < 0 then B c else B (dk (kB B) nb c k).toNat
set_option maxRecDepth 100000 in
set_option maxHeartbeats 16000000 in
theorem compare19_at (a b : Nat) (w : World) (ha : a < 18446744073709551616) (hb : b < 18446744073709551616) :
    Calls Tryz.prog 41 #[.float .f64 a, .float .f64 b] w fun e w' => e = .returned (.int .i64 (cmp3 a b)) ∧ w' = w := by
  obtain ⟨x, hx⟩ : ∃ x, canonB a = x := ⟨_, rfl⟩
  obtain ⟨y, hy⟩ : ∃ x, canonB b = x := ⟨_, rfl⟩
  have C1 := hid (canon_at a x w ha hx)
  have C2 := hid (canon_at b y w hb hy)
  have lx : x < 18446744073709551616 := by rw [← hx]; exact canon_lt ha
  have ly : y < 18446744073709551616 := by rw [← hy]; exact canon_lt hb
  obtain ⟨o, ho⟩ : ∃ o, orderB x y = o := ⟨_, rfl⟩
  have O := hid (ord_at x y o w lx ly ho)
  have E : Hid (cmp3 a b = o) := by
    show _ = _
    unfold cmp3 kb
    rw [hx, hy, ← ho]
    rfl
  clear ho hx hy ha hb lx ly
  go_enter Tryz.func41, Tryz.ntmps41
  go_wp2_with fail
  refine C1.out.mono ?_
  rintro e9 v9 ⟨rfl, hv9⟩
  have hv8 := hv9.symm
  subst hv8
  go_wp2_with fail
  refine C2.out.mono ?_
  rintro e9 v9 ⟨rfl, hv9⟩
  have hv8 := hv9.symm
  subst hv8
  go_wp2_with fail
  refine O.out.mono ?_
  rintro e9 v9 ⟨rfl, hv9⟩
  have hv8 := hv9.symm
  subst hv8
  go_wp2
  go_ret
  exact ⟨by rw [E.out]; rfl, rfl⟩
theorem around19 {n gb c s : Nat} {v : World} (hn : 1 ≤ n ∧ n ≤ 32) (hc : c < 6 * n * n) (hs : s < 4) (g : GridOf n gb v) : Calls Tryz.prog 69 #[.pointer (some ⟨gb, 0, none⟩), .int .i64 (c : Nat), .int .i64 (s : Nat)] v fun e w' => e = .returned (.tuple #[.int .i64 (eE n (4 * c + s) : Nat), .int .i64 (eS n (4 * c + s))]) ∧ Below v.heap.size v w' := by
  have e : gT n (24 * n * n) (c : Nat) (s : Nat) = (((eE n (4 * c + s) : Nat) : Int), eS n (4 * c + s)) := by
    have ht := t_lt hc hs
    have hm := mt_lt hn.1 ht
    rw [gT_nat, if_pos ⟨hc, hs⟩]
    unfold gN eE eS
    by_cases q : isL n (4 * c + s) = true
    · simp [q, ht]
    · simp [q, hm]
  have b : c < 6144 := by
    have h1 : n * n ≤ 32 * 32 := Nat.mul_le_mul hn.2 hn.2
    rw [Nat.mul_assoc] at hc
    omega
  have h := gAround_at (n := n) (gb := gb) (c := (c : Nat)) (s := (s : Nat)) (w := v) ⟨by omega, by omega⟩ ⟨by omega, by omega⟩ g
  rwa [e] at h
set_option maxRecDepth 100000 in
set_option maxHeartbeats 16000000 in
theorem beside_pos (gb e l s r q : Nat) (cell over : Int) (w : World)
    (AR : Hid (∀ v, Ab w v → Calls Tryz.prog 69 #[.pointer (some ⟨gb, 0, none⟩), .int .i64 cell, .int .i64 over] v fun e9 w' => e9 = .returned (.tuple #[.int .i64 (e : Nat), .int .i64 (1)]) ∧ Below v.heap.size v w'))
    (ED : Hid (∀ v, Ab w v → Calls Tryz.prog 70 #[.pointer (some ⟨gb, 0, none⟩), .int .i64 (e : Nat)] v fun e9 w' => e9 = .returned (.tuple #[.agg #[.int .i64 (l : Nat), .int .i64 (s : Nat), .int .i64 (r : Nat), .int .i64 (q : Nat)], .bool true]) ∧ Below v.heap.size v w')) :
    Calls Tryz.prog 40 #[.pointer (some ⟨gb, 0, none⟩), .int .i64 cell, .int .i64 over] w fun e9 w' => e9 = .returned (.int .i64 (r : Nat)) ∧ Below w.heap.size w w' := by
  go_enter Tryz.func40, Tryz.ntmps40
  go_wp2_with fail
  refine (AR.out _ (Ab.refl w)).mono ?_
  rintro e9 v1 ⟨rfl, b1⟩
  have A1 : Hid (Ab w v1) := b1
  clear b1
  go_wp2_with fail
  refine (ED.out _ A1.out).mono ?_
  rintro e9 v2 ⟨rfl, b2⟩
  have A2 : Hid (Ab w v2) := A1.out.trans b2
  clear b2
  have A3 : Hid (Ab w (v2.alloc (.cells #[.int .i64 0, .int .i64 0, .int .i64 0, .int .i64 0] 102))) := A2.out.trans (bl1 _ _)
  have c0 : (v2.alloc (.cells #[.int .i64 (l : Nat), .int .i64 (s : Nat), .int .i64 (r : Nat), .int .i64 (q : Nat)] 102)).cell? ⟨v2.heap.size, 0, none⟩ = some (.int .i64 (l : Nat)) := cell_of_row _ _ 0 _ _ _ (heap_alloc_new _ _)
  have c2 : (v2.alloc (.cells #[.int .i64 (l : Nat), .int .i64 (s : Nat), .int .i64 (r : Nat), .int .i64 (q : Nat)] 102)).cell? ⟨v2.heap.size, 2, none⟩ = some (.int .i64 (r : Nat)) := cell_of_row _ _ 2 _ _ _ (heap_alloc_new _ _)
  go_wp2
  go_ret
  exact ⟨rfl, A2.out.trans (bl1 _ _)⟩
set_option maxRecDepth 100000 in
set_option maxHeartbeats 16000000 in
theorem beside_neg (gb e l s r q : Nat) (cell over : Int) (w : World)
    (AR : Hid (∀ v, Ab w v → Calls Tryz.prog 69 #[.pointer (some ⟨gb, 0, none⟩), .int .i64 cell, .int .i64 over] v fun e9 w' => e9 = .returned (.tuple #[.int .i64 (e : Nat), .int .i64 (-1)]) ∧ Below v.heap.size v w'))
    (ED : Hid (∀ v, Ab w v → Calls Tryz.prog 70 #[.pointer (some ⟨gb, 0, none⟩), .int .i64 (e : Nat)] v fun e9 w' => e9 = .returned (.tuple #[.agg #[.int .i64 (l : Nat), .int .i64 (s : Nat), .int .i64 (r : Nat), .int .i64 (q : Nat)], .bool true]) ∧ Below v.heap.size v w')) :
    Calls Tryz.prog 40 #[.pointer (some ⟨gb, 0, none⟩), .int .i64 cell, .int .i64 over] w fun e9 w' => e9 = .returned (.int .i64 (l : Nat)) ∧ Below w.heap.size w w' := by
  go_enter Tryz.func40, Tryz.ntmps40
  go_wp2_with fail
  refine (AR.out _ (Ab.refl w)).mono ?_
  rintro e9 v1 ⟨rfl, b1⟩
  have A1 : Hid (Ab w v1) := b1
  clear b1
  go_wp2_with fail
  refine (ED.out _ A1.out).mono ?_
  rintro e9 v2 ⟨rfl, b2⟩
  have A2 : Hid (Ab w v2) := A1.out.trans b2
  clear b2
  have A3 : Hid (Ab w (v2.alloc (.cells #[.int .i64 0, .int .i64 0, .int .i64 0, .int .i64 0] 102))) := A2.out.trans (bl1 _ _)
  have c0 : (v2.alloc (.cells #[.int .i64 (l : Nat), .int .i64 (s : Nat), .int .i64 (r : Nat), .int .i64 (q : Nat)] 102)).cell? ⟨v2.heap.size, 0, none⟩ = some (.int .i64 (l : Nat)) := cell_of_row _ _ 0 _ _ _ (heap_alloc_new _ _)
  have c2 : (v2.alloc (.cells #[.int .i64 (l : Nat), .int .i64 (s : Nat), .int .i64 (r : Nat), .int .i64 (q : Nat)] 102)).cell? ⟨v2.heap.size, 2, none⟩ = some (.int .i64 (r : Nat)) := cell_of_row _ _ 2 _ _ _ (heap_alloc_new _ _)
  go_wp2
  go_ret
  exact ⟨rfl, A2.out.trans (bl1 _ _)⟩
/-- the cell over a side -/
theorem beside19_at (n gb c s : Nat) (w : World) (hn : 1 ≤ n ∧ n ≤ 32) (hc : c < 6 * n * n) (hs : s < 4) (g : GridOf n gb w) :
    Calls Tryz.prog 40 #[.pointer (some ⟨gb, 0, none⟩), .int .i64 (c : Nat), .int .i64 (s : Nat)] w fun e9 w' => e9 = .returned (.int .i64 (bsC n c s : Nat)) ∧ Below w.heap.size w w' := by
  have ht : 4 * c + s < 24 * n * n := t_lt hc hs
  have hm := mt_lt hn.1 ht
  have e1 : (4 * c + s) / 4 = c := by omega
  have e2 : (4 * c + s) % 4 = s := by omega
  have ar := fun v (a : Ab w v) => around19 (v := v) hn hc hs (g.to a)
  by_cases q : isL n (4 * c + s) = true
  · have ee : eE n (4 * c + s) = eN n (4 * c + s) := by unfold eE; rw [if_pos q]
    have es : eS n (4 * c + s) = 1 := by unfold eS; rw [if_pos q]
    rw [ee, es] at ar
    have ed := fun v (a : Ab w v) => gEdge_ok (w := v) hn ht q (g.to a)
    rw [e1, e2] at ed
    exact beside_pos gb _ _ _ _ _ _ _ w ar ed
  · have ee : eE n (4 * c + s) = eN n (mt n (4 * c + s)) := by unfold eE; rw [if_neg q]
    have es : eS n (4 * c + s) = -1 := by unfold eS; rw [if_neg q]
    rw [ee, es] at ar
    have q2 : isL n (mt n (4 * c + s)) = true := by rw [isL_mt hn.1 ht]; simpa using q
    have ed := fun v (a : Ab w v) => gEdge_ok (w := v) hn hm q2 (g.to a)
    have d := (mt_dec hn.1 ht).1
    rw [e1, e2] at d
    rw [d] at ed
    exact beside_neg gb _ _ _ _ _ _ _ w ar ed
set_option maxRecDepth 100000 in
set_option maxHeartbeats 16000000 in
theorem down_len (n gb : Nat) (pb : Option Addr) (lb cb : Nat) (cell : Int) (w : World) (g : GridOf n gb w) (hl : lb ≠ 6 * n * n) :
    Calls Tryz.prog 12 #[.pointer (some ⟨gb, 0, none⟩), .slice pb lb cb, .int .i64 cell] w fun e w' => e = .returned (.int .i64 (-1)) ∧ Below w.heap.size w w' := by
  have CC := hid (gCells_at g)
  generalize 6 * n * n = N at *
  have e1 : ((lb : Int) != (N : Int)) = true := by simp; omega
  clear hl g
  go_enter Tryz.func12, Tryz.ntmps12
  go_wp2_with fail
  refine CC.out.mono ?_
  rintro e9 v9 ⟨rfl, hv9⟩
  have hv8 := hv9.symm
  subst hv8
  go_wp2
  go_ret
  exact ⟨rfl, Below.refl _ _⟩
set_option maxRecDepth 100000 in
set_option maxHeartbeats 16000000 in
theorem down_out (n gb : Nat) (pb : Option Addr) (lb cb : Nat) (cell : Int) (w : World) (g : GridOf n gb w) (hl : lb = 6 * n * n) (hc : ¬ (0 ≤ cell ∧ cell < (lb : Nat))) :
    Calls Tryz.prog 12 #[.pointer (some ⟨gb, 0, none⟩), .slice pb lb cb, .int .i64 cell] w fun e w' => e = .returned (.int .i64 (-1)) ∧ Below w.heap.size w w' := by
  have CC := hid (gCells_at g)
  rw [← hl] at CC
  have e1 : ((lb : Int) != (lb : Int)) = false := by simp
  clear hl g
  by_cases c0 : cell < 0
  · have e2 : decide (cell < 0) = true := decide_eq_true c0
    clear hc c0
    go_enter Tryz.func12, Tryz.ntmps12
    go_wp2_with fail
    refine CC.out.mono ?_
    rintro e9 v9 ⟨rfl, hv9⟩
    have hv8 := hv9.symm
    subst hv8
    go_wp2
    go_ret
    exact ⟨rfl, Below.refl _ _⟩
  · have e2 : decide (cell < 0) = false := decide_eq_false c0
    have e3 : decide ((lb : Int) ≤ cell) = true := decide_eq_true (by omega)
    clear hc c0
    go_enter Tryz.func12, Tryz.ntmps12
    go_wp2_with fail
    refine CC.out.mono ?_
    rintro e9 v9 ⟨rfl, hv9⟩
    have hv8 := hv9.symm
    subst hv8
    go_wp2
    go_ret
    exact ⟨rfl, Below.refl _ _⟩
set_option maxRecDepth 100000 in
set_option maxHeartbeats 16000000 in
theorem down_go (N gb : Nat) (qb ob : Nat) (cb : Nat) (B : Nat → Nat) (nb : Nat → Nat) (c : Nat) (w : World) (hN : N ≤ 6144) (hc : c < N) (IB : Hid (IsFl w (some ⟨qb, ob, none⟩) N B))
    (CC : Hid (Calls Tryz.prog 13 #[.pointer (some ⟨gb, 0, none⟩)] w fun e w' => e = .returned (.int .i64 (N : Nat)) ∧ w' = w))
    (BS : Hid (∀ v s, Ab w v → s < 4 → Calls Tryz.prog 40 #[.pointer (some ⟨gb, 0, none⟩), .int .i64 (c : Nat), .int .i64 (s : Nat)] v fun e w' => e = .returned (.int .i64 (nb s : Nat)) ∧ Below v.heap.size v w'))
    (NL : Hid (∀ s, s < 4 → nb s < N)) :
    Calls Tryz.prog 12 #[.pointer (some ⟨gb, 0, none⟩), .slice (some ⟨qb, ob, none⟩) N cb, .int .i64 (c : Nat)] w fun e w' => e = .returned (.int .i64 (dnI (kB B) nb c)) ∧ Below w.heap.size w w' := by
  have e1 : ((N : Int) != (N : Int)) = false := by simp
  have e2 : decide ((c : Int) < 0) = false := decide_eq_false (by omega)
  have e3 : decide ((N : Int) ≤ (c : Int)) = false := decide_eq_false (by omega)
  have e4 : decide (N ≤ c) = false := decide_eq_false (by omega)
  have HN := hid hN
  have HC := hid hc
  have cI : (c : Int) < N := by omega
  have cB : (c : Int) ≤ 6144 := by omega
  obtain ⟨xc, hxc⟩ : ∃ x, B c = x := ⟨_, rfl⟩
  have XCC := hid hxc
  have XC0 : Hid (∀ v, Ab w v → v.cell? ⟨qb, ob + c, none⟩ = some (.float .f64 xc)) := fun v a => by rw [← hxc]; exact ((IB.out.below a).at0 hc).2.2
  clear hN hc hxc
  go_enter Tryz.func12, Tryz.ntmps12
  go_wp2_with fail
  refine CC.out.mono ?_
  rintro e9 v9 ⟨rfl, hv9⟩
  have hv8 := hv9.symm
  subst hv8
  go_upto_region 3 with fail
  obtain ⟨UU, E, hF1, hF2⟩ := cls w
  have HU := hid hF2
  have HU1 := hid hF1
  have y1 : ∀ u, (E u).cell? ⟨qb, ob + c, none⟩ = some (.float .f64 xc) := fun u => XC0.out _ (hF1 u)
  have DD0 := HU.out _ (Ab.refl w).drew
  clear hF1 hF2
  refine region_cls E (by kernel_rfl) (by kernel_rfl) DD0 ?_
  repeat (go_big_quiet_step (with_reducible rfl))
  refine wpQuiet_nil ?_
  intro v0 hwz
  obtain ⟨u0, hu⟩ := hwz
  have A0 : Hid (Ab w v0) := by rw [hu]; exact HU1.out u0
  clear hu u0
  clear HU HU1 DD0 y1
  clear E UU
  go_wp2
  go_loopw [7, 8, 35] (fun bv lv iv wr => ∃ k : Nat, k ≤ 4 ∧ iv = .int .i64 (k : Nat) ∧ bv = .int .i64 (dk (kB B) nb c k) ∧ lv = .float .f64 (lk B nb c k) ∧ Ab w wr) (fun _ _ iv _ => 4 - (intOf iv).toNat)
  case atStart => exact ⟨0, by omega, rfl, rfl, by rw [← XCC.out]; rfl, A0.out⟩
  case round =>
    obtain ⟨k, hk, rfl, rfl, rfl, ar⟩ := hrel
    have AR := hid ar
    clear ar
    by_cases hk4 : k < 4
    · have HK := hid hk4
      have kI : (k : Int) < 4 := by omega
      obtain ⟨cc, hcc⟩ : ∃ x, nb k = x := ⟨_, rfl⟩
      have ccl := NL.out k hk4
      rw [hcc] at ccl
      have HCC := hid hcc
      have CL := hid ccl
      have BB := hid (BS.out wr k AR.out hk4)
      rw [hcc] at BB
      obtain ⟨x, hx⟩ : ∃ x, B cc = x := ⟨_, rfl⟩
      have XC : Hid (∀ v, Ab w v → v.cell? ⟨qb, ob + cc, none⟩ = some (.float .f64 x)) := fun v a => by rw [← hx]; exact ((IB.out.below a).at0 ccl).2.2
      have xl : x < 18446744073709551616 := by rw [← hx]; exact (IB.out cc ccl).1
      have HX := hid hx
      have ccI : (cc : Int) < N := by omega
      have ccB : (cc : Int) ≤ 6144 := by have := HN.out; omega
      by_cases q0 : dk (kB B) nb c k < 0
      · obtain ⟨g1, g2⟩ := dk_no q0
        have el : lk B nb c k = xc := by unfold lk; rw [if_pos q0]; exact XCC.out
        have DN : Hid (dk (kB B) nb c (k + 1) = if kb x < kb xc then ((cc : Nat) : Int) else -1) := by
          show _ = _
          rw [g2, hcc]
          unfold kB
          rw [hx, XCC.out]
        rw [g1, el]
        have yl : xc < 18446744073709551616 := by rw [← XCC.out]; exact (IB.out c HC.out).1
        have CM := hid (fun v => compare19_at x xc v xl yl)
        have b0 : decide ((cc : Int) < -1) = false := decide_eq_false (by omega)
        clear hcc hx ccl xl yl q0 g1 g2 el hk hk4
        by_cases d1 : kb x < kb xc
        · have DQ : Hid (dk (kB B) nb c (k + 1) = ((cc : Nat) : Int)) := by show _ = _; rw [DN.out, if_pos d1]
          have LQ : Hid (lk B nb c (k + 1) = x) := by show _ = _; unfold lk; rw [DQ.out, if_neg (by omega), Int.toNat_natCast]; exact HX.out
          rw [cmp3_lt d1] at CM
          clear d1
          go_wp2_with fail
          refine BB.out.mono ?_
          rintro e9 v1 ⟨rfl, b1⟩
          have A1 : Hid (Ab w v1) := AR.out.trans b1
          clear b1
          have z1 := XC.out _ A1.out
          go_wp2_with fail
          refine (CM.out _).mono ?_
          rintro e9 v9 ⟨rfl, hv9⟩
          have hv8 := hv9.symm
          subst hv8
          clear z1
          go_upto_region 10 with fail
          obtain ⟨UU, E, hF1, hF2⟩ := cls v1
          have HU := hid hF2
          have HU1 := hid hF1
          have y1 : ∀ u, (E u).cell? ⟨qb, ob + cc, none⟩ = some (.float .f64 x) := fun u => XC.out _ (A1.out.trans (hF1 u))
          have DD0 := HU.out _ (Ab.refl v1).drew
          clear hF1 hF2
          refine region_cls E (by kernel_rfl) (by kernel_rfl) DD0 ?_
          repeat (go_big_quiet_step (with_reducible rfl))
          refine wpQuiet_nil ?_
          intro v2 hwz
          obtain ⟨u0, hu⟩ := hwz
          have A2 : Hid (Ab v1 v2) := by rw [hu]; exact HU1.out u0
          clear hu u0
          clear HU HU1 DD0 y1
          clear E UU
          go_wp2
          exact ⟨⟨k + 1, by have := HK.out; omega, by simp, by rw [DQ.out], by rw [LQ.out], A1.out.trans A2.out⟩, by have := HK.out; simp [intOf]; omega⟩
        · have DQ : Hid (dk (kB B) nb c (k + 1) = -1) := by show _ = _; rw [DN.out, if_neg d1]
          have LQ : Hid (lk B nb c (k + 1) = xc) := by show _ = _; unfold lk; rw [DQ.out, if_pos (by decide)]; exact XCC.out
          by_cases d2 : kb xc < kb x
          · rw [cmp3_gt d2] at CM
            clear d1 d2
            go_wp2_with fail
            refine BB.out.mono ?_
            rintro e9 v1 ⟨rfl, b1⟩
            have A1 : Hid (Ab w v1) := AR.out.trans b1
            clear b1
            have z1 := XC.out _ A1.out
            go_wp2_with fail
            refine (CM.out _).mono ?_
            rintro e9 v9 ⟨rfl, hv9⟩
            have hv8 := hv9.symm
            subst hv8
            clear z1
            go_wp2
            exact ⟨⟨k + 1, by have := HK.out; omega, by simp, by rw [DQ.out], by rw [LQ.out], A1.out⟩, by have := HK.out; simp [intOf]; omega⟩
          · rw [cmp3_eq (show kb x = kb xc by omega)] at CM
            clear d1 d2
            go_wp2_with fail
            refine BB.out.mono ?_
            rintro e9 v1 ⟨rfl, b1⟩
            have A1 : Hid (Ab w v1) := AR.out.trans b1
            clear b1
            have z1 := XC.out _ A1.out
            go_wp2_with fail
            refine (CM.out _).mono ?_
            rintro e9 v9 ⟨rfl, hv9⟩
            have hv8 := hv9.symm
            subst hv8
            clear z1
            go_wp2
            exact ⟨⟨k + 1, by have := HK.out; omega, by simp, by rw [DQ.out], by rw [LQ.out], A1.out⟩, by have := HK.out; simp [intOf]; omega⟩
      · obtain ⟨m, hm⟩ : ∃ m : Nat, dk (kB B) nb c k = (m : Nat) := ⟨(dk (kB B) nb c k).toNat, by omega⟩
        obtain ⟨⟨s, s1, s2⟩, -, g3⟩ := dk_yes hm
        have ml : m < N := by rw [← s2]; exact NL.out s (by omega)
        obtain ⟨y, hy⟩ : ∃ x, B m = x := ⟨_, rfl⟩
        have el : lk B nb c k = y := by unfold lk; rw [if_neg q0, hm, Int.toNat_natCast]; exact hy
        have LT : Hid (lt2 (kB B) cc m = (decide (kb x < kb y) || (decide (kb x = kb y) && decide (cc < m)))) := by show lt2 _ _ _ = _; unfold lt2 kB; rw [hx, hy]
        have DN : Hid (dk (kB B) nb c (k + 1) = if lt2 (kB B) cc m = true then ((cc : Nat) : Int) else ((m : Nat) : Int)) := by
          show _ = _
          rw [g3, hcc]
        have HY := hid hy
        rw [hm, el]
        have yl : y < 18446744073709551616 := by rw [← hy]; exact (IB.out m ml).1
        have CM := hid (fun v => compare19_at x y v xl yl)
        have mI : (m : Int) < N := by omega
        have mB : (m : Int) ≤ 6144 := by have := HN.out; omega
        have TK : Hid (lt2 (kB B) cc m = true → dk (kB B) nb c (k + 1) = ((cc : Nat) : Int) ∧ lk B nb c (k + 1) = x) := fun h => by
          have e : dk (kB B) nb c (k + 1) = ((cc : Nat) : Int) := by rw [DN.out, if_pos h]
          exact ⟨e, by unfold lk; rw [e, if_neg (by omega), Int.toNat_natCast]; exact HX.out⟩
        have LV : Hid (lt2 (kB B) cc m = false → dk (kB B) nb c (k + 1) = ((m : Nat) : Int) ∧ lk B nb c (k + 1) = y) := fun h => by
          have e : dk (kB B) nb c (k + 1) = ((m : Nat) : Int) := by rw [DN.out, if_neg (by rw [h]; decide)]
          exact ⟨e, by unfold lk; rw [e, if_neg (by omega), Int.toNat_natCast]; exact HY.out⟩
        clear hcc hx hy ccl xl yl q0 g3 el hk hk4 s1 s2 ml hm DN
        by_cases d1 : kb x < kb y
        · have DQ : Hid (dk (kB B) nb c (k + 1) = ((cc : Nat) : Int)) := (TK.out (LT.out.trans (by rw [decide_eq_true d1]; rfl))).1
          have LQ : Hid (lk B nb c (k + 1) = x) := (TK.out (LT.out.trans (by rw [decide_eq_true d1]; rfl))).2
          rw [cmp3_lt d1] at CM
          clear d1 LT TK LV
          go_wp2_with fail
          refine BB.out.mono ?_
          rintro e9 v1 ⟨rfl, b1⟩
          have A1 : Hid (Ab w v1) := AR.out.trans b1
          clear b1
          have z1 := XC.out _ A1.out
          go_wp2_with fail
          refine (CM.out _).mono ?_
          rintro e9 v9 ⟨rfl, hv9⟩
          have hv8 := hv9.symm
          subst hv8
          clear z1
          go_upto_region 10 with fail
          obtain ⟨UU, E, hF1, hF2⟩ := cls v1
          have HU := hid hF2
          have HU1 := hid hF1
          have y1 : ∀ u, (E u).cell? ⟨qb, ob + cc, none⟩ = some (.float .f64 x) := fun u => XC.out _ (A1.out.trans (hF1 u))
          have DD0 := HU.out _ (Ab.refl v1).drew
          clear hF1 hF2
          refine region_cls E (by kernel_rfl) (by kernel_rfl) DD0 ?_
          repeat (go_big_quiet_step (with_reducible rfl))
          refine wpQuiet_nil ?_
          intro v2 hwz
          obtain ⟨u0, hu⟩ := hwz
          have A2 : Hid (Ab v1 v2) := by rw [hu]; exact HU1.out u0
          clear hu u0
          clear HU HU1 DD0 y1
          clear E UU
          go_wp2
          exact ⟨⟨k + 1, by have := HK.out; omega, by simp, by rw [DQ.out], by rw [LQ.out], A1.out.trans A2.out⟩, by have := HK.out; simp [intOf]; omega⟩
        · by_cases d2 : kb y < kb x
          · have lf : lt2 (kB B) cc m = false := LT.out.trans (by rw [decide_eq_false d1, decide_eq_false (show ¬ kb x = kb y by omega)]; rfl)
            have DQ := hid (LV.out lf).1
            have LQ := hid (LV.out lf).2
            rw [cmp3_gt d2] at CM
            clear d1 d2 LT TK LV lf
            go_wp2_with fail
            refine BB.out.mono ?_
            rintro e9 v1 ⟨rfl, b1⟩
            have A1 : Hid (Ab w v1) := AR.out.trans b1
            clear b1
            have z1 := XC.out _ A1.out
            go_wp2_with fail
            refine (CM.out _).mono ?_
            rintro e9 v9 ⟨rfl, hv9⟩
            have hv8 := hv9.symm
            subst hv8
            clear z1
            go_wp2
            exact ⟨⟨k + 1, by have := HK.out; omega, by simp, by rw [DQ.out], by rw [LQ.out], A1.out⟩, by have := HK.out; simp [intOf]; omega⟩
          · have ke : kb x = kb y := by omega
            rw [cmp3_eq ke] at CM
            by_cases d3 : cc < m
            · have d4 : decide ((cc : Int) < (m : Int)) = true := decide_eq_true (by omega)
              have d5 : decide (cc < m) = true := decide_eq_true d3
              have lf : lt2 (kB B) cc m = true := LT.out.trans (by rw [d5, decide_eq_true ke, Bool.and_true, Bool.or_true])
              have DQ := hid (TK.out lf).1
              have LQ := hid (TK.out lf).2
              clear d1 d2 d3 LT TK LV lf ke
              go_wp2_with fail
              refine BB.out.mono ?_
              rintro e9 v1 ⟨rfl, b1⟩
              have A1 : Hid (Ab w v1) := AR.out.trans b1
              clear b1
              have z1 := XC.out _ A1.out
              go_wp2_with fail
              refine (CM.out _).mono ?_
              rintro e9 v9 ⟨rfl, hv9⟩
              have hv8 := hv9.symm
              subst hv8
              clear z1
              go_upto_region 10 with fail
              obtain ⟨UU, E, hF1, hF2⟩ := cls v1
              have HU := hid hF2
              have HU1 := hid hF1
              have y1 : ∀ u, (E u).cell? ⟨qb, ob + cc, none⟩ = some (.float .f64 x) := fun u => XC.out _ (A1.out.trans (hF1 u))
              have DD0 := HU.out _ (Ab.refl v1).drew
              clear hF1 hF2
              refine region_cls E (by kernel_rfl) (by kernel_rfl) DD0 ?_
              repeat (go_big_quiet_step (with_reducible rfl))
              refine wpQuiet_nil ?_
              intro v2 hwz
              obtain ⟨u0, hu⟩ := hwz
              have A2 : Hid (Ab v1 v2) := by rw [hu]; exact HU1.out u0
              clear hu u0
              clear HU HU1 DD0 y1
              clear E UU
              go_wp2
              exact ⟨⟨k + 1, by have := HK.out; omega, by simp, by rw [DQ.out], by rw [LQ.out], A1.out.trans A2.out⟩, by have := HK.out; simp [intOf]; omega⟩
            · have d4 : decide ((cc : Int) < (m : Int)) = false := decide_eq_false (by omega)
              have d5 : decide (cc < m) = false := decide_eq_false d3
              have lf : lt2 (kB B) cc m = false := LT.out.trans (by rw [d5, decide_eq_false d1]; simp)
              have DQ := hid (LV.out lf).1
              have LQ := hid (LV.out lf).2
              clear d1 d2 d3 LT TK LV lf ke
              go_wp2_with fail
              refine BB.out.mono ?_
              rintro e9 v1 ⟨rfl, b1⟩
              have A1 : Hid (Ab w v1) := AR.out.trans b1
              clear b1
              have z1 := XC.out _ A1.out
              go_wp2_with fail
              refine (CM.out _).mono ?_
              rintro e9 v9 ⟨rfl, hv9⟩
              have hv8 := hv9.symm
              subst hv8
              clear z1
              go_wp2
              exact ⟨⟨k + 1, by have := HK.out; omega, by simp, by rw [DQ.out], by rw [LQ.out], A1.out⟩, by have := HK.out; simp [intOf]; omega⟩
    · have k4 : k = 4 := by omega
      subst k4
      go_wp2
      go_ret
      exact ⟨rfl, AR.out⟩
/-- WHAT Down ANSWERS -/
theorem downC : DownC := fun n gb pb lb cb B cell w hn g ib hw => by
  by_cases hl : lb = 6 * n * n
  · by_cases hc : 0 ≤ cell ∧ cell < (lb : Nat)
    · obtain ⟨c, rfl⟩ : ∃ c : Nat, cell = (c : Nat) := ⟨cell.toNat, by omega⟩
      have hc2 : c < lb := by omega
      rw [if_pos ⟨hl, hc.1, by rw [← hl]; exact hc.2⟩, Int.toNat_natCast]
      obtain ⟨qb, ob, rfl⟩ := ib.some0 (show 0 < lb by omega)
      have nb : lb ≤ 6144 := by
        have h1 : n * n ≤ 32 * 32 := Nat.mul_le_mul hn.2 hn.2
        rw [hl, Nat.mul_assoc]
        omega
      have cc := gCells_at g
      rw [← hl] at cc
      exact down_go lb gb qb ob cb B (fun s => bsC n c s) c w nb hc2 ib cc (fun v s a hs => beside19_at n gb c s v hn (by omega) hs (g.to a)) (fun s hs => by rw [hl]; exact bsC_lt hn.1 (by omega) hs)
    · rw [if_neg (by rw [← hl]; exact fun h => hc h.2)]
      exact down_out n gb pb lb cb cell w g hl hc
  · rw [if_neg (fun h => hl h.1)]
    exact down_len n gb pb lb cb cell w g hl
end Rv
end Go.Proofs.YtkckcohemalhiaaGreatDoor

namespace Go.Proofs.YtkckcohemalhiaaGreatDoor
open Go.RowKit Tf Cu Go.Deep
attribute [local go_sem] run_bits run_from raw_feq raw_fne raw_flt raw_fgt run_neg run_store_float
namespace Rv
/-- how two numbers stand to each other -/
def cpI (a b : Int) : Int := if a < b then -1 else if b < a then 1 else 0
/-- the first that is not nought -/
def orI (p r : Int) : Int := if p = 0 then r else p
/-- which of two cells runs first -/
def cf19 (B : Nat → Nat) (a b : Nat) : Int := orI (cmp3 (B b) (B a)) (cpI (a : Nat) (b : Nat))
theorem cf19_lt {B : Nat → Nat} {a b : Nat} : cf19 B a b < 0 ↔ bf (kB B) a b := by
  unfold cf19 orI cmp3 cpI bf kB
  by_cases h1 : kb (B b) < kb (B a)
  · simp [h1]
  · by_cases h2 : kb (B a) < kb (B b)
    · simp [h1, h2]
      omega
    · have h3 : kb (B a) = kb (B b) := by omega
      by_cases h4 : a < b
      · simp [h3, h4]
      · by_cases h5 : b < a
        · simp [h3, h4, h5]
        · simp [h3, h4, h5]
theorem calls_same {P : Program} {f : FuncId} {args : Array Value} {U : Type} {F : U → World} {u : U} {v : Value} (h : Calls P f args (F u) fun e w' => e = .returned v ∧ w' = F u) : Calls P f args (F u) fun e w'' => e = .returned v ∧ ∃ u, w'' = F u :=
  h.mono fun _ _ ⟨he, hb⟩ => ⟨he, u, hb⟩
/-- the worlds that differ from one by what was drawn alone -/
theorem drs (w : World) : ∃ (U : Type) (F : U → World), (∀ u, ∃ q, F u = w.drewN q) ∧ (∀ q, ∃ u, w.drewN q = F u) :=
  ⟨Nat, fun q => w.drewN q, fun u => ⟨u, rfl⟩, fun q => ⟨q, rfl⟩⟩
theorem isnan19 (x : Int) (w : World) : Calls Tryz.prog 79 #[.int .i64 x] w fun e w' => e = .returned (.bool false) ∧ w' = w := by
  have e : (x != x) = false := by simp
  go_enter Tryz.func79, Tryz.ntmps79
  go_wp2
  go_ret
  exact ⟨rfl, rfl⟩
set_option maxRecDepth 100000 in
set_option maxHeartbeats 16000000 in
theorem compareI_at (x y : Int) (w : World) : Calls Tryz.prog 57 #[.int .i64 x, .int .i64 y] w fun e w' => e = .returned (.int .i64 (cpI x y)) ∧ w' = w := by
  have NN := hid isnan19
  have H : Hid (∃ r, cpI x y = r) := ⟨_, rfl⟩
  by_cases h1 : x < y
  · have E : Hid (cpI x y = -1) := if_pos h1
    have d1 : decide (x < y) = true := decide_eq_true h1
    go_enter Tryz.func57, Tryz.ntmps57
    go_wp2_with fail
    refine (NN.out x w).mono ?_
    rintro e9 v9 ⟨rfl, hv9⟩
    have hv8 := hv9.symm
    subst hv8
    go_wp2_with fail
    refine (NN.out y w).mono ?_
    rintro e9 v9 ⟨rfl, hv9⟩
    have hv8 := hv9.symm
    subst hv8
    go_wp2
    go_ret
    exact ⟨by rw [E.out]; rfl, rfl⟩
  · have d1 : decide (x < y) = false := decide_eq_false h1
    by_cases h2 : y < x
    · have E : Hid (cpI x y = 1) := by show _ = _; unfold cpI; rw [if_neg h1, if_pos h2]
      have d2 : decide (y < x) = true := decide_eq_true h2
      clear h1
      go_enter Tryz.func57, Tryz.ntmps57
      go_wp2_with fail
      refine (NN.out x w).mono ?_
      rintro e9 v9 ⟨rfl, hv9⟩
      have hv8 := hv9.symm
      subst hv8
      go_wp2_with fail
      refine (NN.out y w).mono ?_
      rintro e9 v9 ⟨rfl, hv9⟩
      have hv8 := hv9.symm
      subst hv8
      go_wp2
      go_ret
      exact ⟨by rw [E.out]; rfl, rfl⟩
    · have E : Hid (cpI x y = 0) := by show _ = _; unfold cpI; rw [if_neg h1, if_neg h2]
      have d2 : decide (y < x) = false := decide_eq_false h2
      clear h1 h2
      go_enter Tryz.func57, Tryz.ntmps57
      go_wp2_with fail
      refine (NN.out x w).mono ?_
      rintro e9 v9 ⟨rfl, hv9⟩
      have hv8 := hv9.symm
      subst hv8
      go_wp2_with fail
      refine (NN.out y w).mono ?_
      rintro e9 v9 ⟨rfl, hv9⟩
      have hv8 := hv9.symm
      subst hv8
      go_wp2
      go_ret
      exact ⟨by rw [E.out]; rfl, rfl⟩
set_option maxRecDepth 100000 in
set_option maxHeartbeats 16000000 in
theorem or_at (p r : Int) (b : Nat) (w : World) (c0 : w.cell? ⟨b, 0, none⟩ = some (.int .i64 p)) (c1 : w.cell? ⟨b, 1, none⟩ = some (.int .i64 r)) :
    Calls Tryz.prog 56 #[.slice (some ⟨b, 0, none⟩) 2 2] w fun e w' => e = .returned (.int .i64 (orI p r)) ∧ w' = w := by
  go_enter Tryz.func56, Tryz.ntmps56
  go_wp2
  go_loopw [8] (fun iv wr => ∃ k : Nat, k ≤ 2 ∧ iv = .int .i64 (k : Nat) ∧ (0 < k → p = 0) ∧ (1 < k → r = 0) ∧ wr = w) (fun iv _ => 2 - (intOf iv).toNat)
  case atStart => exact ⟨0, by omega, rfl, fun h => absurd h (by omega), fun h => absurd h (by omega), rfl⟩
  case round =>
    obtain ⟨k, hk, rfl, g1, g2, hwr⟩ := hrel
    have hwr2 := hwr.symm
    subst hwr2
    by_cases k0 : k = 0
    · subst k0
      by_cases hp : p = 0
      · subst hp
        clear g1 g2
        go_wp2
        exact ⟨⟨1, by omega, by simp, fun _ => by first | trivial | rfl, fun h => absurd h (by omega), by first | trivial | rfl⟩, by simp [intOf]⟩
      · have E : Hid (orI p r = p) := if_neg hp
        have e1 : (p != 0) = true := by simpa using hp
        clear g1 g2 hp
        go_wp2
        go_ret
        exact ⟨by rw [E.out]; rfl, by first | trivial | rfl⟩
    · have hp := g1 (by omega)
      subst hp
      by_cases k1 : k = 1
      · subst k1
        by_cases hp : r = 0
        · subst hp
          clear g1 g2
          go_wp2
          exact ⟨⟨2, by omega, by simp, fun _ => by first | trivial | rfl, fun _ => by first | trivial | rfl, by first | trivial | rfl⟩, by simp [intOf]⟩
        · have e1 : (r != 0) = true := by simpa using hp
          clear g1 g2 hp
          go_wp2
          go_ret
          exact ⟨rfl, by first | trivial | rfl⟩
      · have k2 : k = 2 := by omega
        subst k2
        have hr := g2 (by omega)
        subst hr
        clear g1 g2
        go_wp2
        go_ret
        exact ⟨rfl, by first | trivial | rfl⟩
set_option maxRecDepth 100000 in
set_option maxHeartbeats 16000000 in
theorem clo19_at (bx qb ob lb cb : Nat) (B : Nat → Nat) (a b : Nat) (V : World) (hl : lb ≤ 65536) (ha : a < lb) (hb : b < lb) (HB : V.cell? ⟨bx, 0, none⟩ = some (.slice (some ⟨qb, ob, none⟩) lb cb)) (IB : IsFl V (some ⟨qb, ob, none⟩) lb B) :
    Calls Tryz.prog 55 #[.int .i64 (a : Nat), .int .i64 (b : Nat), .pointer (some ⟨bx, 0, none⟩)] V fun e w' => e = .returned (.int .i64 (cf19 B a b)) ∧ ∃ q os, w' = Go.Sort.grow (V.drewN q) os := by
  obtain ⟨x, hx⟩ : ∃ x, B a = x := ⟨_, rfl⟩
  obtain ⟨y, hy⟩ : ∃ x, B b = x := ⟨_, rfl⟩
  have xc := (IB.at0 ha).2.2
  have yc := (IB.at0 hb).2.2
  rw [hx] at xc
  rw [hy] at yc
  have CM := hid (fun v => compare19_at y x v (by rw [← hy]; exact (IB b hb).1) (by rw [← hx]; exact (IB a ha).1))
  have CI := hid (fun v => compareI_at (a : Nat) (b : Nat) v)
  have E1 : Hid (cf19 B a b = orI (cmp3 y x) (cpI (a : Nat) (b : Nat))) := by show _ = _; unfold cf19; rw [hx, hy]
  obtain ⟨p, hp⟩ : ∃ p, cmp3 y x = p := ⟨_, rfl⟩
  obtain ⟨r, hr⟩ : ∃ p, cpI (a : Nat) (b : Nat) = p := ⟨_, rfl⟩
  rw [hp] at CM
  rw [hr] at CI
  rw [hp, hr] at E1
  have aI : (a : Int) < lb := by omega
  have aB : (a : Int) ≤ 65536 := by omega
  have bI : (b : Int) < lb := by omega
  have bB : (b : Int) ≤ 65536 := by omega
  obtain ⟨UU, E, hF1, hF2⟩ := drs V
  have y0 : ∀ u, (E u).cell? ⟨bx, 0, none⟩ = some (.slice (some ⟨qb, ob, none⟩) lb cb) := fun u => by obtain ⟨q, h⟩ := hF1 u; rw [h]; exact HB
  have y1 : ∀ u, (E u).cell? ⟨qb, ob + a, none⟩ = some (.float .f64 x) := fun u => by obtain ⟨q, h⟩ := hF1 u; rw [h]; exact xc
  have y2 : ∀ u, (E u).cell? ⟨qb, ob + b, none⟩ = some (.float .f64 y) := fun u => by obtain ⟨q, h⟩ := hF1 u; rw [h]; exact yc
  have DD0 : ∃ u, V.drew = E u := hF2 1
  have HU1 := hid hF1
  clear hF1 hF2 hl ha hb HB IB xc yc hx hy hp hr
  go_enter Tryz.func55, Tryz.ntmps55
  go_upto_region 1 with fail
  refine region_tail 12 E (by kernel_rfl) (by kernel_rfl) (by kernel_rfl) DD0 ?_
  simp only [List.take_succ_cons, List.take_zero, List.drop_succ_cons, List.drop_zero]
  repeat (go_big_quiet_step (first
    | (go_at_call 41; exact calls_same (CM.out _))
    | (go_at_call 57; exact calls_same (CI.out _))
    | (with_reducible rfl)))
  refine wpQuiet_nil ?_
  intro z hwz
  obtain ⟨u0, hu⟩ := hwz
  have AZ : Hid (∃ q, z = V.drewN q) := by rw [hu]; exact HU1.out u0
  clear hu u0
  clear HU1 DD0 y0 y1 y2
  clear E UU
  have c0 : (z.alloc (.cells #[.int .i64 p, .int .i64 r] 3)).cell? ⟨z.heap.size, 0, none⟩ = some (.int .i64 p) := cell_of_row _ _ 0 _ _ _ (heap_alloc_new _ _)
  have c1 : (z.alloc (.cells #[.int .i64 p, .int .i64 r] 3)).cell? ⟨z.heap.size, 1, none⟩ = some (.int .i64 r) := cell_of_row _ _ 1 _ _ _ (heap_alloc_new _ _)
  have CO := hid (or_at p r z.heap.size _ c0 c1)
  clear c0 c1
  go_wp2_with fail
  refine CO.out.mono ?_
  rintro e9 v9 ⟨rfl, hv9⟩
  have hv8 := hv9.symm
  subst hv8
  go_wp2
  go_ret
  obtain ⟨q, hq⟩ := AZ.out
  exact ⟨by rw [E1.out]; rfl, q, _, by rw [hq]; exact Go.Sort.alloc_eq_grow _ _⟩
end Rv
end Go.Proofs.YtkckcohemalhiaaGreatDoor

namespace Go.Proofs.YtkckcohemalhiaaGreatDoor
namespace Rv
def sortL_ren : Go.Shelf.Ren := ⟨fun | 6 => 54 | 15 => 78 | 14 => 77 | 28 => 99 | 29 => 100 | 20 => 91 | 21 => 92 | 22 => 93 | 23 => 94 | 24 => 95 | 25 => 96 | 26 => 97 | 27 => 98 | 46 => 111 | 47 => 112 | 48 => 113 | 49 => 114 | 50 => 115 | 57 => 122 | n => n, fun | 22 => 42 | 24 => 3 | 25 => 95 | 3 => 3 | 39 => 119 | 0 => 0 | 53 => 145 | 55 => 105 | 4 => 4 | 46 => 138 | 45 => 137 | 50 => 142 | 5 => 5 | 9 => 9 | 66 => 152 | 70 => 156 | 76 => 162 | 77 => 37 | n => n, fun | n => n⟩
theorem sortL : Go.Proofs.SlLaysF.n6 Tryz.prog sortL_ren := {
  mixed := by kernel_rfl
  f6 := ⟨Tryz.f54.name, by decide, Tryz.func54.trans (congrArg some (by kernel_rfl))⟩
  f14 := ⟨Tryz.f77.name, by decide, Tryz.func77.trans (congrArg some (by kernel_rfl))⟩
  f15 := Tryz.func78.trans (congrArg some (by kernel_rfl))
  f20 := ⟨Tryz.f91.name, by decide, Tryz.func91.trans (congrArg some (by kernel_rfl))⟩
  f21 := ⟨Tryz.f92.name, by decide, Tryz.func92.trans (congrArg some (by kernel_rfl))⟩
  f22 := ⟨Tryz.f93.name, by decide, Tryz.func93.trans (congrArg some (by kernel_rfl))⟩
  f23 := ⟨Tryz.f94.name, by decide, Tryz.func94.trans (congrArg some (by kernel_rfl))⟩
  f24 := ⟨Tryz.f95.name, by decide, Tryz.func95.trans (congrArg some (by kernel_rfl))⟩
  f25 := ⟨Tryz.f96.name, by decide, Tryz.func96.trans (congrArg some (by kernel_rfl))⟩
  f26 := ⟨Tryz.f97.name, by decide, Tryz.func97.trans (congrArg some (by kernel_rfl))⟩
  f27 := ⟨Tryz.f98.name, by decide, Tryz.func98.trans (congrArg some (by kernel_rfl))⟩
  f28 := Tryz.func99.trans (congrArg some (by kernel_rfl))
  f29 := Tryz.func100.trans (congrArg some (by kernel_rfl))
  f46 := ⟨Tryz.f111.name, by decide, Tryz.func111.trans (congrArg some (by kernel_rfl))⟩
  f47 := Tryz.func112.trans (congrArg some (by kernel_rfl))
  f48 := Tryz.func113.trans (congrArg some (by kernel_rfl))
  f49 := ⟨Tryz.f114.name, by decide, Tryz.func114.trans (congrArg some (by kernel_rfl))⟩
  f50 := ⟨Tryz.f115.name, by decide, Tryz.func115.trans (congrArg some (by kernel_rfl))⟩
  f57 := ⟨Tryz.f122.name, by decide, Tryz.func122.trans (congrArg some (by kernel_rfl))⟩
  t0 := Tryz.underlying0
  a0 := Tryz.isAgg0
  z0 := Tryz.sizeOf0
  v0 := Tryz.zeroValue0
  t3 := Tryz.underlying3
  a3 := Tryz.isAgg3
  z3 := Tryz.sizeOf3
  v3 := Tryz.zeroValue3
  t4 := Tryz.underlying4
  a4 := Tryz.isAgg4
  z4 := Tryz.sizeOf4
  v4 := Tryz.zeroValue4
  t5 := Tryz.underlying5
  a5 := Tryz.isAgg5
  z5 := Tryz.sizeOf5
  v5 := Tryz.zeroValue5
  t9 := Tryz.underlying9
  a9 := Tryz.isAgg9
  z9 := Tryz.sizeOf9
  v9 := Tryz.zeroValue9
  t22 := Tryz.underlying42
  a22 := Tryz.isAgg42
  z22 := Tryz.sizeOf42
  v22 := Tryz.zeroValue42
  a24 := Tryz.isAgg3
  z24 := Tryz.sizeOf3
  t25 := Tryz.underlying95
  a25 := Tryz.isAgg95
  z25 := Tryz.sizeOf95
  v25 := Tryz.zeroValue95
  t39 := Tryz.underlying119
  a39 := Tryz.isAgg119
  z39 := Tryz.sizeOf119
  v39 := Tryz.zeroValue119
  t45 := Tryz.underlying137
  a45 := Tryz.isAgg137
  z45 := Tryz.sizeOf137
  v45 := Tryz.zeroValue137
  t46 := Tryz.underlying138
  a46 := Tryz.isAgg138
  z46 := Tryz.sizeOf138
  v46 := Tryz.zeroValue138
  t50 := Tryz.underlying142
  a50 := Tryz.isAgg142
  z50 := Tryz.sizeOf142
  v50 := Tryz.zeroValue142
  t53 := Tryz.underlying145
  a53 := Tryz.isAgg145
  z53 := Tryz.sizeOf145
  v53 := Tryz.zeroValue145
  t55 := Tryz.underlying105
  a55 := Tryz.isAgg105
  z55 := Tryz.sizeOf105
  v55 := Tryz.zeroValue105
  t66 := Tryz.underlying152
  a66 := Tryz.isAgg152
  z66 := Tryz.sizeOf152
  v66 := Tryz.zeroValue152
  t70 := Tryz.underlying156
  a70 := Tryz.isAgg156
  z70 := Tryz.sizeOf156
  v70 := Tryz.zeroValue156
  t76 := Tryz.underlying162
  a76 := Tryz.isAgg162
  z76 := Tryz.sizeOf162
  v76 := Tryz.zeroValue162
  t77 := Tryz.underlying37
  a77 := Tryz.isAgg37
  z77 := Tryz.sizeOf37
  v77 := Tryz.zeroValue37 }
end Rv
end Go.Proofs.YtkckcohemalhiaaGreatDoor

namespace Go.Proofs.YtkckcohemalhiaaGreatDoor
open Go.RowKit Go.Deep
namespace Sh
theorem wpList_zero {ops : Array Oper} {rest : List Oper} {o : Oper} {a : Act} {w : World} {Q : Exit → Act → World → Prop} (hgd : o.guard = none) (s x : Operand)
    (ho : o.op = .call { callee := .builtin .append, args := #[s, x], argTypes := #[23, 23] })
    (g : Nat) (hs : a.eval s = .slice (some ⟨g, 0, none⟩) 0 0) (src : Value) (hx : a.eval x = src) (hsrc : Src Tryz.prog 1 23 src 0 [] w)
    (h : wpList Tryz.prog ops Q rest (a.put o.dst (.slice (some ⟨g, 0, none⟩) 0 0)) w) : wpList Tryz.prog ops Q (o :: rest) a w := by
  obtain ⟨i0, hi, hz0, hz1, hz2⟩ := info_i
  refine wpList_plain hgd fun _ hK => ?_
  have hr := run_append_room_src (P := Tryz.prog) w 23 23 o.type 2 i0 Tryz.underlying23 hi g 0 0 0 src 0 [] (by rw [hz1]; exact hsrc) (Nat.le_refl _) (fun j hj => absurd hj (Nat.not_lt_zero j)) (fun j hj => absurd hj (Nat.not_lt_zero j))
  unfold Oper.wp execOp
  simp only [ho, resolve, invoke, builtin, Sem.run_bind, Sem.run_pure, Result.andThen_ok, List.map_toArray, List.map_cons, List.map_nil, hs, hx, hr]
  exact hK _ _ h
theorem news_in {w : World} {b o N : Nat} {D : Nat → Int} (h : IsI w (some ⟨b, o, none⟩) N D) : ∀ j u, (((List.range N).map D).map (Value.int .i64))[j]? = some u → w.cell? ((⟨b, o, none⟩ : Addr).add j) = some u := fun j u hu => by
  have hj : j < N := by
    rcases Nat.lt_or_ge j N with h1 | h1
    · exact h1
    · rw [List.getElem?_eq_none (by simpa using h1)] at hu; cases hu
  simp [hj] at hu
  rw [add_off, ← hu]
  exact (h.at0 hj).2.2
end Sh
end Go.Proofs.YtkckcohemalhiaaGreatDoor

namespace Go.Proofs.YtkckcohemalhiaaGreatDoor
open Go.RowKit Tf Cu Go.Deep
namespace Rv
/-- all blocks of V that are not of P are in w as they were -/
def AbQ (V : World) (P : Nat → Prop) (w : World) : Prop := w.os = V.os ∧ w.tape = V.tape ∧ w.output = V.output ∧ V.heap.size ≤ w.heap.size ∧ ∀ k, k < V.heap.size → ¬ P k → w.heap[k]? = V.heap[k]?
theorem AbQ.refl (V : World) (P : Nat → Prop) : AbQ V P V := ⟨rfl, rfl, rfl, Nat.le_refl _, fun _ _ _ => rfl⟩
theorem AbQ.to {V w w' : World} {P : Nat → Prop} (h : AbQ V P w) (a : Ab w w') : AbQ V P w' := by
  obtain ⟨h1, h2, h3, h4, h5⟩ := h
  exact ⟨a.os.trans h1, a.tape.trans h2, a.output.trans h3, Nat.le_trans h4 a.size, fun k hk hp => (a.block k (by omega)).trans (h5 k hk hp)⟩
theorem AbQ.set {V w : World} {P : Nat → Prop} (h : AbQ V P w) {g k : Nat} (hp : P g ∨ V.heap.size ≤ g) (v : Value) : AbQ V P (w.setCell ⟨g, k, none⟩ v) := by
  obtain ⟨h1, h2, h3, h4, h5⟩ := h
  refine ⟨h1, h2, h3, by simpa [World.setCell] using h4, fun i hi hn => (Below.heap_setCell _ _ _ _ (fun e => ?_)).trans (h5 i hi hn)⟩
  have e2 : i = g := e
  rcases hp with h | h
  · exact hn (by rw [e2]; exact h)
  · omega
theorem AbQ.grown {V wr w' : World} {P : Nat → Prop} {row : Option Nat} (h : AbQ V P wr) (hg : wr.grownBy w' row) (hr : ∀ b, row = some b → P b ∨ V.heap.size ≤ b) : AbQ V P w' := by
  obtain ⟨h1, h2, h3, h4, h5⟩ := h
  refine ⟨hg.os.trans h1, hg.tape.trans h2, hg.output.trans h3, by have := hg.size; omega, fun k hk hn => ?_⟩
  refine (hg.block k (by omega) (fun e => ?_)).trans (h5 k hk hn)
  rcases hr k e.symm with h6 | h6
  · exact hn h6
  · omega
theorem AbQ.ab {w0 V w : World} {P : Nat → Prop} (h : AbQ V P w) (a : Ab w0 V) (hp : ∀ k, k < w0.heap.size → ¬ P k) : Ab w0 w := by
  obtain ⟨h1, h2, h3, h4, h5⟩ := h
  exact ⟨h1.trans a.os, h2.trans a.tape, h3.trans a.output, Nat.le_trans (Below.size a) h4, fun k hk => (h5 k (Nat.lt_of_lt_of_le hk (Below.size a)) (hp k hk)).trans (a.block k hk)⟩
theorem AbQ.isI {V w : World} {P : Nat → Prop} {p : Option Addr} {n : Nat} {f : Nat → Int} (a : AbQ V P w) (h : Sh.IsI V p n f) (hp : ∀ b o, p = some ⟨b, o, none⟩ → ¬ P b) : Sh.IsI w p n f := fun k hk => by
  obtain ⟨h1, b, o, h2, h3, h4⟩ := h k hk
  exact ⟨h1, b, o, h2, Nat.lt_of_lt_of_le h3 a.2.2.2.1, (World.cell?_of_block (a.2.2.2.2 b h3 (hp b o h2))).trans h4⟩
theorem AbQ.isFl {V w : World} {P : Nat → Prop} {p : Option Addr} {n : Nat} {f : Nat → Nat} (a : AbQ V P w) (h : IsFl V p n f) (hp : ∀ b o, p = some ⟨b, o, none⟩ → ¬ P b) : IsFl w p n f := fun k hk => by
  obtain ⟨h1, b, o, h2, h3, h4⟩ := h k hk
  exact ⟨h1, b, o, h2, Nat.lt_of_lt_of_le h3 a.2.2.2.1, (World.cell?_of_block (a.2.2.2.2 b h3 (hp b o h2))).trans h4⟩
/-- a list of the call's own, of whatever kind of whole numbers -/
def OT (t : TypeId) (B : Nat) (v : Value) (l : List Int) (w : World) : Prop := w.ownsRow B t 1 v l.length (l.map (Value.int .i64))
theorem OT.ofN {B : Nat} {v : Value} {l : List Nat} {w : World} (h : OwnN B v l w) : OT 3 B v (l.map fun c => ((c : Nat) : Int)) w := by
  unfold OT
  rw [List.length_map, List.map_map]
  exact h
theorem OT.mono {t : TypeId} {B C : Nat} {v : Value} {l : List Int} {w : World} (h : OT t B v l w) (hc : C ≤ B) : OT t C v l w := by
  rcases h.2 with ⟨q, e⟩ | ⟨g, cap, cur, q, hb, rest⟩
  · exact ⟨h.1, .inl ⟨q, e⟩⟩
  · exact ⟨h.1, .inr ⟨g, cap, cur, q, Nat.le_trans hc hb, rest⟩⟩
theorem OT.val {t : TypeId} {B : Nat} {v : Value} {l : List Int} {w : World} (h : OT t B v l w) : ∃ p cap, v = .slice p l.length cap := by
  rcases h.2 with ⟨q, e⟩ | ⟨g, cap, cur, q, hb, rest⟩
  · exact ⟨none, 0, by rw [q, e]⟩
  · exact ⟨_, cap, q⟩
theorem OT.blk {t : TypeId} {B : Nat} {v : Value} {l : List Int} {w : World} (h : OT t B v l w) {k : Nat} (hk : v.ownBlock = some k) : B ≤ k ∧ k < w.heap.size := World.ownsRow.lt h k hk
theorem OT.at {t : TypeId} {B : Nat} {v : Value} {l : List Int} {w : World} (h : OT t B v l w) {c : Nat} (hc : c < l.length) :
    ∃ g cap, v = .slice (some ⟨g, 0, none⟩) l.length cap ∧ w.cell? ⟨g, c, none⟩ = some (.int .i64 (l.getD c 0)) ∧ w.frozen? ⟨g, c, none⟩ = false ∧ ∀ x, OT t B v (l.set c x) (w.setCell ⟨g, c, none⟩ (.int .i64 x)) := by
  rcases h.2 with ⟨q, e⟩ | ⟨g, cap, cur, q, hb, hg, h1, h2, h3, h4⟩
  · omega
  · have e2 := World.ownsRow.cells (g := g) h (by rw [q]; rfl) c (.int .i64 (l.getD c 0)) (by simp [hc, List.getD])
    rw [Sh.add_off, Nat.zero_add] at e2
    refine ⟨g, cap, q, e2, by simp [World.frozen?, hg], fun x => ⟨by simp, .inr ⟨g, cap, cur.setIfInBounds c (.int .i64 x), by rw [List.length_set]; exact q, hb, one_set hg, by rw [List.length_set]; exact h1, h2, by simpa using h3, ?_⟩⟩⟩
    rw [List.length_set, Array.toList_setIfInBounds, List.take_set, h4, List.map_set]
theorem OT.blkeq {t : TypeId} {B : Nat} {v : Value} {l : List Int} {w w' : World} (h : OT t B v l w) (e : ∀ k, v.ownBlock = some k → w'.heap[k]? = w.heap[k]?) : OT t B v l w' := by
  rcases h.2 with ⟨q, e2⟩ | ⟨g, cap, cur, q, hb, hg, rest⟩
  · exact ⟨h.1, .inl ⟨q, e2⟩⟩
  · exact ⟨h.1, .inr ⟨g, cap, cur, q, hb, (e g (by rw [q]; rfl)).trans hg, rest⟩⟩
theorem OT.grown {t : TypeId} {B : Nat} {v : Value} {l : List Int} {w w' : World} {row : Option Nat} (h : OT t B v l w) (x : w.grownBy w' row) (hg : ∀ k, v.ownBlock = some k → row ≠ some k) : OT t B v l w' := h.blkeq (fun k hk => x.block k (h.blk hk).2 (fun e => hg k hk e.symm))
theorem OT.to {t : TypeId} {B : Nat} {v : Value} {l : List Int} {w w' : World} (h : OT t B v l w) (a : Ab w w') : OT t B v l w' := h.blkeq (fun k hk => a.block k (h.blk hk).2)
theorem OT.isI {t : TypeId} {B : Nat} {v : Value} {l : List Int} {w : World} (h : OT t B v l w) (hl : ∀ x ∈ l, -9223372036854775808 ≤ x ∧ x ≤ 9223372036854775807) : ∃ p cap, v = .slice p l.length cap ∧ Sh.IsI w p l.length (fun j => l.getD j 0) := by
  rcases h.2 with ⟨q, e2⟩ | ⟨g, cap, cur, q, hb, hg, rest⟩
  · exact ⟨none, 0, by rw [q, e2], fun k hk => by omega⟩
  · refine ⟨_, cap, q, fun k hk => ⟨?_, g, 0, rfl, lt_of_block hg, ?_⟩⟩
    · have e : l.getD k 0 = l[k] := by simp [List.getD, hk]
      dsimp only
      rw [e]
      exact hl _ (List.getElem_mem hk)
    · have e := World.ownsRow.cells (g := g) h (by rw [q]; rfl) k (.int .i64 (l.getD k 0)) (by simp [hk, List.getD])
      rw [Sh.add_off] at e
      exact e
theorem infoN : (Tryz.prog.info? 3).map (fun i => (i.zero, i.size, i.bytes)) = some (some (.int .i64 0), 1, 8) := by kernel_rfl
theorem OT.new {t : TypeId} (w : World) (B : Nat) (hB : B ≤ w.heap.size) : OT t B (.slice (some ⟨w.heap.size, 0, none⟩) 0 0) [] (w.alloc (.cells #[] t)) :=
  ⟨by simp, .inr ⟨w.heap.size, 0, #[], rfl, hB, heap_alloc_new _ _, Nat.le_refl _, by unfold maxLen; omega, by simp, by simp⟩⟩
theorem lt_of_get {w : World} {b : Nat} {o : Obj} (h : w.heap[b]? = some o) : b < w.heap.size := by
  rcases Nat.lt_or_ge b w.heap.size with h1 | h1
  · exact h1
  · rw [Array.getElem?_eq_none h1] at h; cases h
theorem AbQ.heap {V w : World} {P : Nat → Prop} (a : AbQ V P w) {b : Nat} {o : Obj} (h : V.heap[b]? = some o) (hp : ¬ P b) : w.heap[b]? = some o := (a.2.2.2.2 b (lt_of_get h) hp).trans h
end Rv
end Go.Proofs.YtkckcohemalhiaaGreatDoor
