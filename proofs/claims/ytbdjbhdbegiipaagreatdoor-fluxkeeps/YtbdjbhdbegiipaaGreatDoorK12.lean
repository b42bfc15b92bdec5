/-
  Some of the texts of this proof, one behind the other.
-/
import Derived.Deep.AppendSrc
import Derived.Deep.AppendLies
import Derived.Deep.QuietTactic
import Derived.OwnWalk
import Derived.Test.YtbdjbhdbegiipaaGreatDoorK11
namespace Go.Proofs.YtbdjbhdbegiipaaGreatDoor
open Go.RowKit Tf Cu Go.Deep
theorem setCells_row {b : Nat} {t : TypeId} {N : Nat} : ∀ (news : List Value) (n : Nat) (f : Nat → Value) (w : World), w.rowIs b t N f → n + news.length ≤ N → (w.setCells b n news).rowIs b t N (fun j => if n ≤ j then (news[j - n]?).getD (f j) else f j) ∧ Abx w b N t (w.setCells b n news)
  | [], n, f, w, h, _ => by
    refine ⟨h.congr (fun i _ => by simp), ?_⟩
    obtain ⟨c, hb, hn, _⟩ := h
    exact (Ab.refl w).x hn hb
  | x :: xs, n, f, w, h, hn => by
    rw [List.length_cons] at hn
    have h1 := h.set n x
    obtain ⟨r1, r2⟩ := setCells_row xs (n + 1) _ _ h1 (by omega)
    refine ⟨r1.congr (fun j _ => ?_), ?_⟩
    · by_cases c : n ≤ j
      · by_cases c2 : j = n
        · subst c2
          simp [show ¬ j + 1 ≤ j by omega]
        · have e : j - n = (j - (n + 1)) + 1 := by omega
          simp [c, c2, show n + 1 ≤ j by omega, e]
      · simp [c, show ¬ n + 1 ≤ j by omega, show ¬ j = n by omega]
    · obtain ⟨c, hb, hc, _⟩ := h
      have a1 : Abx w b N t (w.setCell ⟨b, n, none⟩ x) := ((Ab.refl w).x hc hb).set n x
      obtain ⟨⟨p1, p2, p3, p4, p5⟩, _⟩ := a1
      obtain ⟨⟨q1, q2, q3, q4, q5⟩, q6⟩ := r2
      exact ⟨⟨q1.trans p1, q2.trans p2, q3.trans p3, Nat.le_trans p4 q4, fun k hk hne => (q5 k (by omega) hne).trans (p5 k hk hne)⟩, q6⟩
theorem step_app {P : Program} {ops : Array Oper} {o : Oper} {a : Act} {w : World} {K : Act → World → Prop} {Q : Exit → Act → World → Prop} {E : Prop} (hgd : o.guard = none) (s x : Operand) (t : TypeId)
    (ho : o.op = .call { callee := .builtin .append, args := #[s, x], argTypes := #[t, t] })
    (e : TypeId) (i : TypeInfo) (ht : P.underlying t = some (.slice e)) (hi : P.info? e = some i) (hsz : i.size = 1)
    (b n cap : Nat) (f : Nat → Value) (hs : a.eval s = .slice (some ⟨b, 0, none⟩) n cap) (row : w.rowIs b e cap f)
    (src : Value) (m : Nat) (news : List Value) (hx : a.eval x = src) (hsrc : Src P 1 t src m news w) (hroom : n + m ≤ cap) (nm : Nat) (hnm : n + m = nm)
    (h : ∀ w', w'.rowIs b e cap (fun j => if n ≤ j then (news[j - n]?).getD (f j) else f j) → Abx w b cap e w' → K (a.put o.dst (.slice (some ⟨b, 0, none⟩) nm cap)) w') :
    if Region.wanted o (yielded ops a.tmps) = true then Oper.wp P o a w K Q else E := by
  subst hnm
  have hw : Region.wanted o (yielded ops a.tmps) = true := by simp [Region.wanted, hgd]
  rw [if_pos hw]
  have hl : news.length = m := by have := hsrc.newsLen; omega
  have hr := run_append_room_src (P := P) w t t o.type e i ht hi b 0 n cap src m news (by rw [hsz]; exact hsrc) hroom
    (fun j hj => by rw [hsz]; simp only [Nat.zero_add, Nat.mul_one]; rw [row.cell (by omega)]; rfl) (fun j _ => by rw [hsz]; exact row.frozen _)
  rw [hsz, Nat.zero_add, Nat.mul_one] at hr
  obtain ⟨r1, r2⟩ := setCells_row news n f w row (by omega)
  unfold Oper.wp execOp
  simp only [ho, resolve, invoke, builtin, Sem.run_bind, Sem.run_pure, Result.andThen_ok, List.map_toArray, List.map_cons, List.map_nil, hs, hx, hr]
  exact h _ r1 r2
theorem info_f13 : ∃ i, Tryz.prog.info? 22 = some i ∧ i.size = 1 := by
  have h := infoF64
  cases e : Tryz.prog.info? 22 with
  | none => rw [e] at h; cases h
  | some i =>
    rw [e] at h
    simp at h
    exact ⟨i, rfl, h.2.1⟩
theorem info_i13 : ∃ i, Tryz.prog.info? 2 = some i ∧ i.size = 1 := by
  have h := info64
  cases e : Tryz.prog.info? 2 with
  | none => rw [e] at h; cases h
  | some i =>
    rw [e] at h
    simp at h
    exact ⟨i, rfl, h.2.1⟩
theorem src_fl {w : World} {pb : Option Addr} {L : Nat} {B : Nat → Nat} (h : IsFl w pb L B) (cb : Nat) : Src Tryz.prog 1 26 (.slice pb L cb) L ((List.range L).map fun k => Value.float .f64 (B k)) w := by
  have one : ∀ u ∈ (List.range L).map (fun k => Value.float .f64 (B k)), u.oneCell' = true := fun u hu => by
    obtain ⟨k, _, rfl⟩ := List.mem_map.1 hu
    rfl
  cases pb with
  | none =>
    have : L = 0 := by
      rcases Nat.eq_zero_or_pos L with h0 | h0
      · exact h0
      · obtain ⟨_, b, o, h2, _⟩ := h 0 h0
        cases h2
    subst this
    exact Src.ofNil w Tryz.underlying26 cb
  | some a =>
    refine Src.ofSlice w Tryz.underlying26 a L cb _ (by simp) (fun j u hu => ?_) one
    have hj : j < L := by
      rcases Nat.lt_or_ge j L with h1 | h1
      · exact h1
      · rw [List.getElem?_eq_none (by simpa using h1)] at hu; cases hu
    obtain ⟨_, b, o, h2, _, h4⟩ := h j hj
    cases h2
    simp [hj] at hu
    rw [add_off12, ← hu]
    exact h4
theorem src_in {w : World} {pb : Option Addr} {L : Nat} {B : Nat → Int} (h : IsIn w pb L B) (cb : Nat) : Src Tryz.prog 1 27 (.slice pb L cb) L ((List.range L).map fun k => Value.int .i64 (B k)) w := by
  have one : ∀ u ∈ (List.range L).map (fun k => Value.int .i64 (B k)), u.oneCell' = true := fun u hu => by
    obtain ⟨k, _, rfl⟩ := List.mem_map.1 hu
    rfl
  cases pb with
  | none =>
    have : L = 0 := by
      rcases Nat.eq_zero_or_pos L with h0 | h0
      · exact h0
      · obtain ⟨_, b, o, h2, _⟩ := h 0 h0
        cases h2
    subst this
    exact Src.ofNil w Tryz.underlying27 cb
  | some a =>
    refine Src.ofSlice w Tryz.underlying27 a L cb _ (by simp) (fun j u hu => ?_) one
    have hj : j < L := by
      rcases Nat.lt_or_ge j L with h1 | h1
      · exact h1
      · rw [List.getElem?_eq_none (by simpa using h1)] at hu; cases hu
    obtain ⟨_, b, o, h2, _, h4⟩ := h j hj
    cases h2
    simp [hj] at hu
    rw [add_off12, ← hu]
    exact h4
/-- a copied list: the numbers, the mark, noughts -/
def mkF (L : Nat) (g : Nat → Value) (m z : Value) (j : Nat) : Value := if j < L then g j else if j = L then m else z
theorem mk_two (L : Nat) (g : Nat → Value) (m z : Value) (j : Nat) :
    (if L ≤ j then ([m][j - L]?).getD (if 0 ≤ j then (((List.range L).map g)[j - 0]?).getD z else z) else (if 0 ≤ j then (((List.range L).map g)[j - 0]?).getD z else z)) = mkF L g m z j := by
  unfold mkF
  by_cases c : j < L
  · simp [c, show ¬ L ≤ j by omega]
  · by_cases c2 : j = L
    · subst c2
      simp
    · have e : j - L = (j - L - 1) + 1 := by omega
      rw [e]
      simp [c, c2, show L ≤ j by omega]
/-- a block of one number, in whatever world -/
theorem src_oneF {w : World} {q x : Nat} (h : w.heap[q]? = some (.cells #[.float .f64 x] 22 (0, 0))) : Src Tryz.prog 1 26 (.slice (some ⟨q, 0, none⟩) 1 1) 1 [.float .f64 x] w :=
  Src.ofSlice w Tryz.underlying26 ⟨q, 0, none⟩ 1 1 [.float .f64 x] rfl (World.news_of_block h) (fun u hu => by simp at hu; subst hu; rfl)
theorem src_oneI {w : World} {q : Nat} {x : Int} (h : w.heap[q]? = some (.cells #[.int .i64 x] 2 (0, 0))) : Src Tryz.prog 1 27 (.slice (some ⟨q, 0, none⟩) 1 1) 1 [.int .i64 x] w :=
  Src.ofSlice w Tryz.underlying27 ⟨q, 0, none⟩ 1 1 [.int .i64 x] rfl (World.news_of_block h) (fun u hu => by simp at hu; subst hu; rfl)
theorem Abx.far {V w w' : World} {g n b N : Nat} {T e : TypeId} (h : Abx V g n T w) (k : Abx w b N e w') (hb : V.heap.size ≤ b) (hg : g < V.heap.size) : Abx V g n T w' := by
  obtain ⟨⟨p1, p2, p3, p4, p5⟩, cs, p6, p7⟩ := h
  obtain ⟨⟨q1, q2, q3, q4, q5⟩, _⟩ := k
  exact ⟨⟨q1.trans p1, q2.trans p2, q3.trans p3, Nat.le_trans p4 q4, fun i hi hne => (q5 i (by omega) (by omega)).trans (p5 i hi hne)⟩, cs, p6, (q5 g (by omega) (by omega)).trans p7⟩
theorem abx_other {w w' : World} {b N q : Nat} {e : TypeId} {o : Obj} (k : Abx w b N e w') (h : w.heap[q]? = some o) (hne : q ≠ b) : w'.heap[q]? = some o := k.heap hne h
theorem make_f13 (L : Nat) (hL : L ≤ 65536) (w : World) : (Instr.makeSlice 26 (.int .i64 0) (.int .i64 ((L : Int) + 9))).run Tryz.prog w = .ok (.slice (some ⟨w.heap.size, 0, none⟩) 0 (L + 9)) (w.alloc (.cells (madeCells #[.float .f64 0] (L + 9)) 22)) := by
  obtain ⟨i, hi, hzz⟩ := Option.map_eq_some_iff.1 infoF64
  simp only [Prod.mk.injEq] at hzz
  obtain ⟨h1, h2, h3⟩ := hzz
  have h := run_make (P := Tryz.prog) w 26 22 i (.float .f64 0) Tryz.underlying26 hi h1 .i64 .i64 0 ((L : Int) + 9) (by omega) (by omega) (by rw [h3]; omega) (by omega)
  rw [h2, Nat.mul_one] at h
  have e : ((L : Int) + 9).toNat = L + 9 := by omega
  rw [e] at h
  exact h
theorem make_i13 (L : Nat) (hL : L ≤ 65536) (w : World) : (Instr.makeSlice 27 (.int .i64 0) (.int .i64 ((L : Int) + 9))).run Tryz.prog w = .ok (.slice (some ⟨w.heap.size, 0, none⟩) 0 (L + 9)) (w.alloc (.cells (madeCells #[.int .i64 0] (L + 9)) 2)) := by
  obtain ⟨i, hi, hzz⟩ := Option.map_eq_some_iff.1 info64
  simp only [Prod.mk.injEq] at hzz
  obtain ⟨h1, h2, h3⟩ := hzz
  have h := run_make (P := Tryz.prog) w 27 2 i (.int .i64 0) Tryz.underlying27 hi h1 .i64 .i64 0 ((L : Int) + 9) (by omega) (by omega) (by rw [h3]; omega) (by omega)
  rw [h2, Nat.mul_one] at h
  have e : ((L : Int) + 9).toNat = L + 9 := by omega
  rw [e] at h
  exact h
theorem wrap9 (L : Nat) (hL : L ≤ 65536) : IntKind.i64.wrap ((L : Int) + 9) = (L : Int) + 9 := by
  rw [IntKind.wrap_i64]
  omega
theorem row_m1 (V : World) (z : Value) (n : Nat) (t : TypeId) : (V.drew.alloc (.cells (madeCells #[z] n) t)).rowIs V.heap.size t n (fun _ => z) := World.rowIs_made V.drew z n t
theorem row_m2 (V : World) (z : Value) (n : Nat) (t : TypeId) (O : Obj) : ((V.drew.alloc (.cells (madeCells #[z] n) t)).alloc O).rowIs V.heap.size t n (fun _ => z) := (World.rowIs_made V.drew z n t).alloc O
theorem row_m3 (V : World) (z : Value) (n : Nat) (t : TypeId) (O : Obj) : ((V.drew.alloc O).alloc (.cells (madeCells #[z] n) t)).rowIs (V.heap.size + 1) t n (fun _ => z) := by
  have h := World.rowIs_made (V.drew.alloc O) z n t
  have e : (V.drew.alloc O).heap.size = V.heap.size + 1 := by
    show (V.heap.push O).size = _
    simp
  rwa [e] at h
theorem blk_m2 (V : World) (M O : Obj) : ((V.drew.alloc M).alloc O).heap[V.heap.size + 1]? = some O := heap_alloc2_new V.drew M O
theorem blk_m3 (V : World) (M O : Obj) : ((V.drew.alloc O).alloc M).heap[V.heap.size]? = some O := heap_alloc2_old V.drew O M
theorem rowIs_abx {V w : World} {b : Nat} {t : TypeId} {n : Nat} {f : Nat → Value} {g m : Nat} {T : TypeId} (h : V.rowIs b t n f) (a : Abx V g m T w) (hne : b ≠ g) : w.rowIs b t n f := h.of_block (a.1.2.2.2.2 b h.lt hne)
end Go.Proofs.YtbdjbhdbegiipaaGreatDoor

namespace Go.Proofs.YtbdjbhdbegiipaaGreatDoor
open Go.RowKit Tf Cu Go.Deep
attribute [local go_sem] run_bits run_from raw_feq raw_fne raw_flt raw_fgt run_neg run_store_float
section
variable {n : Nat} {lim : Int} {B : Nat → Nat} {Wt : Nat → Int} {Sp : Nat → Nat} {dt : Nat} {pb pw ps : Option Addr} {w : World}
end
theorem mk_fl {w : World} {b L : Nat} {B : Nat → Nat} {m z : Value} (h : w.rowIs b 22 (L + 9) (mkF L (fun k => .float .f64 (B k)) m z)) (hB : ∀ k, k < L → B k < 18446744073709551616) : IsFl w (some ⟨b, 0, none⟩) L B := fun k hk => ⟨hB k hk, b, 0, rfl, h.lt, by
  rw [Nat.zero_add, h.cell (show k < L + 9 by omega)]
  unfold mkF
  rw [if_pos hk]⟩
theorem mk_in {w : World} {b L : Nat} {B : Nat → Int} {m z : Value} (h : w.rowIs b 2 (L + 9) (mkF L (fun k => .int .i64 (B k)) m z)) (hB : ∀ k, k < L → -9223372036854775808 ≤ B k ∧ B k ≤ 9223372036854775807) : IsIn w (some ⟨b, 0, none⟩) L B := fun k hk => ⟨hB k hk, b, 0, rfl, h.lt, by
  rw [Nat.zero_add, h.cell (show k < L + 9 by omega)]
  unfold mkF
  rw [if_pos hk]⟩
end Go.Proofs.YtbdjbhdbegiipaaGreatDoor

namespace Go.Proofs.YtbdjbhdbegiipaaGreatDoor
open Go.RowKit Tf Cu Go.Deep
set_option maxRecDepth 100000 in
set_option maxHeartbeats 4000000 in
theorem ints13_at (pa pb : Option Addr) (len ca cb : Nat) (xs : Nat → Int) (w : World) (hl : len ≤ 281474976710656) (hA : IsIn w pa len xs) (hB : IsIn w pb len xs) :
    Calls Tryz.prog 9 #[.slice pa len ca, .slice pb len cb] w fun e w' => e = .returned (.bool true) ∧ Below w.heap.size w w' := by
  have HA := hid hA
  have HB := hid hB
  have HL := hid hl
  clear hA hB hl
  go_enter Tryz.func9, Tryz.ntmps9
  go_wp2
  go_loopw [5] (fun iv wr => ∃ c : Nat, c ≤ len ∧ iv = .int .i64 (c : Nat) ∧ Ab w wr) (fun iv _ => len - (intOf iv).toNat)
  case atStart => exact ⟨0, by omega, rfl, Ab.refl w⟩
  case round =>
    obtain ⟨c, hc, rfl, ar⟩ := hrel
    have AR := hid ar
    clear ar
    by_cases h : c < len
    · have HC := hid h
      obtain ⟨x, hx⟩ : ∃ x, xs c = x := ⟨_, rfl⟩
      obtain ⟨-, b1, o1, e1, l1, c1⟩ := HA.out c h
      obtain ⟨-, b2, o2, e2, l2, c2⟩ := HB.out c h
      rw [hx] at c1 c2
      have C1 := hid c1
      have C2 := hid c2
      have L1 := hid l1
      have L2 := hid l2
      have hcI : (c : Int) < len := by omega
      have hcB : (c : Int) ≤ 281474976710656 := by have := HL.out; omega
      clear c1 c2 l1 l2 hx h
      subst e1 e2
      go_upto_region 6 with fail
      obtain ⟨UU, E, hF1, hF2⟩ := cls wr
      have HU := hid hF2
      have HU1 := hid hF1
      have x1 : ∀ u, (E u).cell? ⟨b1, o1 + c, none⟩ = some (.int .i64 x) := fun u => (Below.cell (AR.out.trans (hF1 u)) L1.out).trans C1.out
      have x2 : ∀ u, (E u).cell? ⟨b2, o2 + c, none⟩ = some (.int .i64 x) := fun u => (Below.cell (AR.out.trans (hF1 u)) L2.out).trans C2.out
      have DD0 := HU.out _ (Ab.refl wr).drew
      clear hF1 hF2
      refine region_cls E (by kernel_rfl) (by kernel_rfl) DD0 ?_
      repeat (go_big_quiet_step (with_reducible rfl))
      refine wpQuiet_nil ?_
      intro z hwz
      obtain ⟨u0, hu⟩ := hwz
      have AZ : Hid (Ab w z) := by rw [hu]; exact AR.out.trans (HU1.out u0)
      clear hu u0
      clear HU HU1 DD0 x1 x2
      clear E UU
      go_wp2
      go_roundw
      case rel => exact ⟨c + 1, by have := HC.out; omega, by simp, AZ.out⟩
      case measure => simp [intOf]; have := HC.out; omega
    · have e : len = c := by omega
      subst e
      go_wp2
      go_ret
      exact ⟨rfl, AR.out⟩
end Go.Proofs.YtbdjbhdbegiipaaGreatDoor

namespace Go.Proofs.YtbdjbhdbegiipaaGreatDoor
open Go.RowKit Tf Cu
attribute [local go_sem] run_bits run_from raw_feq raw_fne raw_flt raw_fgt run_neg run_store_float
set_option maxRecDepth 100000 in
set_option maxHeartbeats 16000000 in
theorem still13_go (bb bw bt bs : Nat) (pb pw pt ps : Option Addr) (lb cb lw cw lt ct ls cs : Nat) {B : Nat → Nat} {Wt Tr : Nat → Int} {Sp : Nat → Nat} (sky st : Int) (w : World)
    (Rb : Hid (w.rowIs bb 22 (lb + 9) (mkF lb (fun k => .float .f64 (B k)) (.float .f64 4635118810238550016) (.float .f64 0))))
    (Rw : Hid (w.rowIs bw 2 (lw + 9) (mkF lw (fun k => .int .i64 (Wt k)) (.int .i64 77) (.int .i64 0))))
    (Rt : Hid (w.rowIs bt 2 (lt + 9) (mkF lt (fun k => .int .i64 (Tr k)) (.int .i64 77) (.int .i64 0))))
    (Rs : Hid (w.rowIs bs 22 (ls + 9) (mkF ls (fun k => .float .f64 (Sp k)) (.float .f64 4635118810238550016) (.float .f64 0))))
    (hl : lb ≤ 65536 ∧ lw ≤ 65536 ∧ lt ≤ 65536 ∧ ls ≤ 65536)
    (CB : Hid (∀ v, Ab w v → Calls Tryz.prog 26 #[.slice (some ⟨bb, 0, none⟩) lb (lb + 9), .slice pb lb cb] v fun e w' => e = .returned (.bool true) ∧ Below v.heap.size v w'))
    (CS : Hid (∀ v, Ab w v → Calls Tryz.prog 26 #[.slice (some ⟨bs, 0, none⟩) ls (ls + 9), .slice ps ls cs] v fun e w' => e = .returned (.bool true) ∧ Below v.heap.size v w'))
    (CW : Hid (∀ v, Ab w v → Calls Tryz.prog 9 #[.slice (some ⟨bw, 0, none⟩) lw (lw + 9), .slice pw lw cw] v fun e w' => e = .returned (.bool true) ∧ Below v.heap.size v w'))
    (CT : Hid (∀ v, Ab w v → Calls Tryz.prog 9 #[.slice (some ⟨bt, 0, none⟩) lt (lt + 9), .slice pt lt ct] v fun e w' => e = .returned (.bool true) ∧ Below v.heap.size v w')) :
    Calls Tryz.prog 10 #[.agg #[.slice (some ⟨bb, 0, none⟩) lb (lb + 9), .slice (some ⟨bw, 0, none⟩) lw (lw + 9), .slice (some ⟨bt, 0, none⟩) lt (lt + 9), .slice (some ⟨bs, 0, none⟩) ls (ls + 9), .int .i64 sky, .int .i64 st], .agg #[.slice pb lb cb, .slice pw lw cw, .slice pt lt ct, .slice ps ls cs, .int .i64 sky, .int .i64 st]] w fun e w' => e = .returned (.bool true) ∧ Below w.heap.size w w' := by
  have A0 : Hid (Ab w ((w.alloc (.cells #[.slice (some ⟨bb, 0, none⟩) lb (lb + 9), .slice (some ⟨bw, 0, none⟩) lw (lw + 9), .slice (some ⟨bt, 0, none⟩) lt (lt + 9), .slice (some ⟨bs, 0, none⟩) ls (ls + 9), .int .i64 sky, .int .i64 st] 29)).alloc (.cells #[.slice pb lb cb, .slice pw lw cw, .slice pt lt ct, .slice ps ls cs, .int .i64 sky, .int .i64 st] 29))) := bl2 _ _ _
  have RO : Hid (((w.alloc (.cells #[.slice (some ⟨bb, 0, none⟩) lb (lb + 9), .slice (some ⟨bw, 0, none⟩) lw (lw + 9), .slice (some ⟨bt, 0, none⟩) lt (lt + 9), .slice (some ⟨bs, 0, none⟩) ls (ls + 9), .int .i64 sky, .int .i64 st] 29)).alloc (.cells #[.slice pb lb cb, .slice pw lw cw, .slice pt lt ct, .slice ps ls cs, .int .i64 sky, .int .i64 st] 29)).heap[w.heap.size]? = some (.cells #[.slice (some ⟨bb, 0, none⟩) lb (lb + 9), .slice (some ⟨bw, 0, none⟩) lw (lw + 9), .slice (some ⟨bt, 0, none⟩) lt (lt + 9), .slice (some ⟨bs, 0, none⟩) ls (ls + 9), .int .i64 sky, .int .i64 st] 29)) := heap_alloc2_old _ _ _
  have RD : Hid (((w.alloc (.cells #[.slice (some ⟨bb, 0, none⟩) lb (lb + 9), .slice (some ⟨bw, 0, none⟩) lw (lw + 9), .slice (some ⟨bt, 0, none⟩) lt (lt + 9), .slice (some ⟨bs, 0, none⟩) ls (ls + 9), .int .i64 sky, .int .i64 st] 29)).alloc (.cells #[.slice pb lb cb, .slice pw lw cw, .slice pt lt ct, .slice ps ls cs, .int .i64 sky, .int .i64 st] 29)).heap[w.heap.size + 1]? = some (.cells #[.slice pb lb cb, .slice pw lw cw, .slice pt lt ct, .slice ps ls cs, .int .i64 sky, .int .i64 st] 29)) := heap_alloc2_new _ _ _
  have HL := hid hl
  clear hl
  go_enter Tryz.func10, Tryz.ntmps10
  go_upto_region 1 with fail
  generalize hW : World.alloc (World.alloc w _) _ = W at *
  obtain ⟨ga, hga⟩ : ∃ g, w.heap.size = g := ⟨_, rfl⟩
  obtain ⟨gs, hgs⟩ : ∃ g, w.heap.size + 1 = g := ⟨_, rfl⟩
  rw [hga] at RO
  rw [hgs] at RD
  rw [hgs, hga]
  clear hgs hga hW
  have fe : feq 4635118810238550016 4635118810238550016 = true := by decide
  have lb1 : IntKind.i64.wrap ((lb : Int) + 1) = (lb : Int) + 1 := by rw [IntKind.wrap_i64]; have := HL.out; omega
  have lb2 : (lb : Int) + 1 ≤ (lb : Int) + 9 := by omega
  have lb3 : (lb : Int) < (lb : Int) + 1 := by omega
  have lb4 : (0 : Int) ≤ (lb : Int) + 1 := by omega
  have lb5 : ((lb : Int) + 1).toNat = lb + 1 := by omega
  have lb6 : (lb : Int) ≤ 65536 := by have := HL.out; omega
  have lw1 : IntKind.i64.wrap ((lw : Int) + 1) = (lw : Int) + 1 := by rw [IntKind.wrap_i64]; have := HL.out; omega
  have lw2 : (lw : Int) + 1 ≤ (lw : Int) + 9 := by omega
  have lw3 : (lw : Int) < (lw : Int) + 1 := by omega
  have lw4 : (0 : Int) ≤ (lw : Int) + 1 := by omega
  have lw5 : ((lw : Int) + 1).toNat = lw + 1 := by omega
  have lw6 : (lw : Int) ≤ 65536 := by have := HL.out; omega
  have lt1 : IntKind.i64.wrap ((lt : Int) + 1) = (lt : Int) + 1 := by rw [IntKind.wrap_i64]; have := HL.out; omega
  have lt2 : (lt : Int) + 1 ≤ (lt : Int) + 9 := by omega
  have lt3 : (lt : Int) < (lt : Int) + 1 := by omega
  have lt4 : (0 : Int) ≤ (lt : Int) + 1 := by omega
  have lt5 : ((lt : Int) + 1).toNat = lt + 1 := by omega
  have lt6 : (lt : Int) ≤ 65536 := by have := HL.out; omega
  have ls1 : IntKind.i64.wrap ((ls : Int) + 1) = (ls : Int) + 1 := by rw [IntKind.wrap_i64]; have := HL.out; omega
  have ls2 : (ls : Int) + 1 ≤ (ls : Int) + 9 := by omega
  have ls3 : (ls : Int) < (ls : Int) + 1 := by omega
  have ls4 : (0 : Int) ≤ (ls : Int) + 1 := by omega
  have ls5 : ((ls : Int) + 1).toNat = ls + 1 := by omega
  have ls6 : (ls : Int) ≤ 65536 := by have := HL.out; omega
  obtain ⟨UU, E, hF1, hF2⟩ := cls W
  have HU := hid hF2
  have HU1 := hid hF1
  have HX : Hid (∀ u, Ab W (E u)) := fun u => Ab.trans (Ab.refl W) (hF1 u)
  have a0 : ∀ u, (E u).cell? ⟨ga, 0, none⟩ = some (.slice (some ⟨bb, 0, none⟩) lb (lb + 9)) := fun u => cell_of_row _ _ 0 _ _ _ ((hF1 u).heap RO.out)
  have a1 : ∀ u, (E u).cell? ⟨ga, 1, none⟩ = some (.slice (some ⟨bw, 0, none⟩) lw (lw + 9)) := fun u => cell_of_row _ _ 1 _ _ _ ((hF1 u).heap RO.out)
  have a2 : ∀ u, (E u).cell? ⟨ga, 2, none⟩ = some (.slice (some ⟨bt, 0, none⟩) lt (lt + 9)) := fun u => cell_of_row _ _ 2 _ _ _ ((hF1 u).heap RO.out)
  have a3 : ∀ u, (E u).cell? ⟨ga, 3, none⟩ = some (.slice (some ⟨bs, 0, none⟩) ls (ls + 9)) := fun u => cell_of_row _ _ 3 _ _ _ ((hF1 u).heap RO.out)
  have a4 : ∀ u, (E u).cell? ⟨ga, 4, none⟩ = some (.int .i64 sky) := fun u => cell_of_row _ _ 4 _ _ _ ((hF1 u).heap RO.out)
  have a5 : ∀ u, (E u).cell? ⟨ga, 5, none⟩ = some (.int .i64 st) := fun u => cell_of_row _ _ 5 _ _ _ ((hF1 u).heap RO.out)
  have s0 : ∀ u, (E u).cell? ⟨gs, 0, none⟩ = some (.slice pb lb cb) := fun u => cell_of_row _ _ 0 _ _ _ ((hF1 u).heap RD.out)
  have s1 : ∀ u, (E u).cell? ⟨gs, 1, none⟩ = some (.slice pw lw cw) := fun u => cell_of_row _ _ 1 _ _ _ ((hF1 u).heap RD.out)
  have s2 : ∀ u, (E u).cell? ⟨gs, 2, none⟩ = some (.slice pt lt ct) := fun u => cell_of_row _ _ 2 _ _ _ ((hF1 u).heap RD.out)
  have s3 : ∀ u, (E u).cell? ⟨gs, 3, none⟩ = some (.slice ps ls cs) := fun u => cell_of_row _ _ 3 _ _ _ ((hF1 u).heap RD.out)
  have s4 : ∀ u, (E u).cell? ⟨gs, 4, none⟩ = some (.int .i64 sky) := fun u => cell_of_row _ _ 4 _ _ _ ((hF1 u).heap RD.out)
  have s5 : ∀ u, (E u).cell? ⟨gs, 5, none⟩ = some (.int .i64 st) := fun u => cell_of_row _ _ 5 _ _ _ ((hF1 u).heap RD.out)
  have mb : ∀ u, (E u).cell? ⟨bb, lb, none⟩ = some (.float .f64 4635118810238550016) := fun u => ((rowIs.ab Rb.out (A0.out.trans (hF1 u))).cell (show lb < lb + 9 by omega)).trans (by unfold mkF; simp)
  have mw : ∀ u, (E u).cell? ⟨bw, lw, none⟩ = some (.int .i64 77) := fun u => ((rowIs.ab Rw.out (A0.out.trans (hF1 u))).cell (show lw < lw + 9 by omega)).trans (by unfold mkF; simp)
  have mt : ∀ u, (E u).cell? ⟨bt, lt, none⟩ = some (.int .i64 77) := fun u => ((rowIs.ab Rt.out (A0.out.trans (hF1 u))).cell (show lt < lt + 9 by omega)).trans (by unfold mkF; simp)
  have ms : ∀ u, (E u).cell? ⟨bs, ls, none⟩ = some (.float .f64 4635118810238550016) := fun u => ((rowIs.ab Rs.out (A0.out.trans (hF1 u))).cell (show ls < ls + 9 by omega)).trans (by unfold mkF; simp)
  have DD0 := HU.out _ (Ab.refl W).drew
  clear hF1 hF2
  refine region_cls E (by kernel_rfl) (by kernel_rfl) DD0 ?_
  repeat (go_big_quiet_step (first
    | (with_reducible rfl)
  ))
  refine wpQuiet_nil ?_
  intro z hwz
  obtain ⟨u0, hu⟩ := hwz
  have AZ : Hid (Ab W z) := by rw [hu]; exact HX.out u0
  clear hu u0
  clear HU HU1 HX DD0 a0 a1 a2 a3 a4 a5 s0 s1 s2 s3 s4 s5 mb mw mt ms
  clear E UU
  clear lb1 lb2 lb3 lb4 lb5 lb6 lw1 lw2 lw3 lw4 lw5 lw6 lt1 lt2 lt3 lt4 lt5 lt6 ls1 ls2 ls3 ls4 ls5 ls6 fe
  have a0 := cell_of_row _ _ 0 _ _ _ (AZ.out.heap RO.out)
  have s0 := cell_of_row _ _ 0 _ _ _ (AZ.out.heap RD.out)
  have a1 := cell_of_row _ _ 1 _ _ _ (AZ.out.heap RO.out)
  have s1 := cell_of_row _ _ 1 _ _ _ (AZ.out.heap RD.out)
  have a2 := cell_of_row _ _ 2 _ _ _ (AZ.out.heap RO.out)
  have s2 := cell_of_row _ _ 2 _ _ _ (AZ.out.heap RD.out)
  have a3 := cell_of_row _ _ 3 _ _ _ (AZ.out.heap RO.out)
  have s3 := cell_of_row _ _ 3 _ _ _ (AZ.out.heap RD.out)
  have a4 := cell_of_row _ _ 4 _ _ _ (AZ.out.heap RO.out)
  have s4 := cell_of_row _ _ 4 _ _ _ (AZ.out.heap RD.out)
  have a5 := cell_of_row _ _ 5 _ _ _ (AZ.out.heap RO.out)
  have s5 := cell_of_row _ _ 5 _ _ _ (AZ.out.heap RD.out)
  go_wp2_with fail
  refine (CB.out z (A0.out.trans AZ.out)).mono ?_
  rintro e9 y0 ⟨rfl, b0⟩
  have AZ0 : Hid (Ab W y0) := AZ.out.trans b0
  clear b0 a0 s0 a1 s1 a2 s2 a3 s3 a4 s4 a5 s5
  have a0 := cell_of_row _ _ 0 _ _ _ (AZ0.out.heap RO.out)
  have s0 := cell_of_row _ _ 0 _ _ _ (AZ0.out.heap RD.out)
  have a1 := cell_of_row _ _ 1 _ _ _ (AZ0.out.heap RO.out)
  have s1 := cell_of_row _ _ 1 _ _ _ (AZ0.out.heap RD.out)
  have a2 := cell_of_row _ _ 2 _ _ _ (AZ0.out.heap RO.out)
  have s2 := cell_of_row _ _ 2 _ _ _ (AZ0.out.heap RD.out)
  have a3 := cell_of_row _ _ 3 _ _ _ (AZ0.out.heap RO.out)
  have s3 := cell_of_row _ _ 3 _ _ _ (AZ0.out.heap RD.out)
  have a4 := cell_of_row _ _ 4 _ _ _ (AZ0.out.heap RO.out)
  have s4 := cell_of_row _ _ 4 _ _ _ (AZ0.out.heap RD.out)
  have a5 := cell_of_row _ _ 5 _ _ _ (AZ0.out.heap RO.out)
  have s5 := cell_of_row _ _ 5 _ _ _ (AZ0.out.heap RD.out)
  go_wp2_with fail
  refine (CS.out y0 (A0.out.trans AZ0.out)).mono ?_
  rintro e9 y1 ⟨rfl, b1⟩
  have AZ1 : Hid (Ab W y1) := AZ0.out.trans b1
  clear b1 a0 s0 a1 s1 a2 s2 a3 s3 a4 s4 a5 s5
  have a0 := cell_of_row _ _ 0 _ _ _ (AZ1.out.heap RO.out)
  have s0 := cell_of_row _ _ 0 _ _ _ (AZ1.out.heap RD.out)
  have a1 := cell_of_row _ _ 1 _ _ _ (AZ1.out.heap RO.out)
  have s1 := cell_of_row _ _ 1 _ _ _ (AZ1.out.heap RD.out)
  have a2 := cell_of_row _ _ 2 _ _ _ (AZ1.out.heap RO.out)
  have s2 := cell_of_row _ _ 2 _ _ _ (AZ1.out.heap RD.out)
  have a3 := cell_of_row _ _ 3 _ _ _ (AZ1.out.heap RO.out)
  have s3 := cell_of_row _ _ 3 _ _ _ (AZ1.out.heap RD.out)
  have a4 := cell_of_row _ _ 4 _ _ _ (AZ1.out.heap RO.out)
  have s4 := cell_of_row _ _ 4 _ _ _ (AZ1.out.heap RD.out)
  have a5 := cell_of_row _ _ 5 _ _ _ (AZ1.out.heap RO.out)
  have s5 := cell_of_row _ _ 5 _ _ _ (AZ1.out.heap RD.out)
  go_wp2_with fail
  refine (CW.out y1 (A0.out.trans AZ1.out)).mono ?_
  rintro e9 y2 ⟨rfl, b2⟩
  have AZ2 : Hid (Ab W y2) := AZ1.out.trans b2
  clear b2 a0 s0 a1 s1 a2 s2 a3 s3 a4 s4 a5 s5
  have a0 := cell_of_row _ _ 0 _ _ _ (AZ2.out.heap RO.out)
  have s0 := cell_of_row _ _ 0 _ _ _ (AZ2.out.heap RD.out)
  have a1 := cell_of_row _ _ 1 _ _ _ (AZ2.out.heap RO.out)
  have s1 := cell_of_row _ _ 1 _ _ _ (AZ2.out.heap RD.out)
  have a2 := cell_of_row _ _ 2 _ _ _ (AZ2.out.heap RO.out)
  have s2 := cell_of_row _ _ 2 _ _ _ (AZ2.out.heap RD.out)
  have a3 := cell_of_row _ _ 3 _ _ _ (AZ2.out.heap RO.out)
  have s3 := cell_of_row _ _ 3 _ _ _ (AZ2.out.heap RD.out)
  have a4 := cell_of_row _ _ 4 _ _ _ (AZ2.out.heap RO.out)
  have s4 := cell_of_row _ _ 4 _ _ _ (AZ2.out.heap RD.out)
  have a5 := cell_of_row _ _ 5 _ _ _ (AZ2.out.heap RO.out)
  have s5 := cell_of_row _ _ 5 _ _ _ (AZ2.out.heap RD.out)
  go_wp2_with fail
  refine (CT.out y2 (A0.out.trans AZ2.out)).mono ?_
  rintro e9 y3 ⟨rfl, b3⟩
  have AZ3 : Hid (Ab W y3) := AZ2.out.trans b3
  clear b3 a0 s0 a1 s1 a2 s2 a3 s3 a4 s4 a5 s5
  have a0 := cell_of_row _ _ 0 _ _ _ (AZ3.out.heap RO.out)
  have s0 := cell_of_row _ _ 0 _ _ _ (AZ3.out.heap RD.out)
  have a1 := cell_of_row _ _ 1 _ _ _ (AZ3.out.heap RO.out)
  have s1 := cell_of_row _ _ 1 _ _ _ (AZ3.out.heap RD.out)
  have a2 := cell_of_row _ _ 2 _ _ _ (AZ3.out.heap RO.out)
  have s2 := cell_of_row _ _ 2 _ _ _ (AZ3.out.heap RD.out)
  have a3 := cell_of_row _ _ 3 _ _ _ (AZ3.out.heap RO.out)
  have s3 := cell_of_row _ _ 3 _ _ _ (AZ3.out.heap RD.out)
  have a4 := cell_of_row _ _ 4 _ _ _ (AZ3.out.heap RO.out)
  have s4 := cell_of_row _ _ 4 _ _ _ (AZ3.out.heap RD.out)
  have a5 := cell_of_row _ _ 5 _ _ _ (AZ3.out.heap RO.out)
  have s5 := cell_of_row _ _ 5 _ _ _ (AZ3.out.heap RD.out)
  have k1 : ((sky : Int) == sky) = true := by simp
  have k2 : ((st : Int) == st) = true := by simp
  go_wp2
  go_ret
  exact ⟨rfl, A0.out.trans AZ3.out⟩
theorem still13_at (bb bw bt bs : Nat) (pb pw pt ps : Option Addr) (lb cb lw cw lt ct ls cs : Nat) {B : Nat → Nat} {Wt Tr : Nat → Int} {Sp : Nat → Nat} (sky st : Int) (w : World) (Rb : w.rowIs bb 22 (lb + 9) (mkF lb (fun k => .float .f64 (B k)) (.float .f64 4635118810238550016) (.float .f64 0))) (Rw : w.rowIs bw 2 (lw + 9) (mkF lw (fun k => .int .i64 (Wt k)) (.int .i64 77) (.int .i64 0))) (Rt : w.rowIs bt 2 (lt + 9) (mkF lt (fun k => .int .i64 (Tr k)) (.int .i64 77) (.int .i64 0))) (Rs : w.rowIs bs 22 (ls + 9) (mkF ls (fun k => .float .f64 (Sp k)) (.float .f64 4635118810238550016) (.float .f64 0))) (hl : lb ≤ 65536 ∧ lw ≤ 65536 ∧ lt ≤ 65536 ∧ ls ≤ 65536) (HB : IsFl w pb lb B) (HW : IsIn w pw lw Wt) (HT : IsIn w pt lt Tr) (HS : IsFl w ps ls Sp) :
    Calls Tryz.prog 10 #[.agg #[.slice (some ⟨bb, 0, none⟩) lb (lb + 9), .slice (some ⟨bw, 0, none⟩) lw (lw + 9), .slice (some ⟨bt, 0, none⟩) lt (lt + 9), .slice (some ⟨bs, 0, none⟩) ls (ls + 9), .int .i64 sky, .int .i64 st], .agg #[.slice pb lb cb, .slice pw lw cw, .slice pt lt ct, .slice ps ls cs, .int .i64 sky, .int .i64 st]] w fun e w' => e = .returned (.bool true) ∧ Below w.heap.size w w' := by
  have IB := mk_fl Rb (fun k hk => (HB k hk).1)
  have IW := mk_in Rw (fun k hk => (HW k hk).1)
  have IT := mk_in Rt (fun k hk => (HT k hk).1)
  have IS := mk_fl Rs (fun k hk => (HS k hk).1)
  exact still13_go bb bw bt bs pb pw pt ps lb cb lw cw lt ct ls cs sky st w Rb Rw Rt Rs hl
    (fun v a => all12_at _ _ _ _ _ B v (by omega) (IB.below a) (HB.below a)) (fun v a => all12_at _ _ _ _ _ Sp v (by omega) (IS.below a) (HS.below a))
    (fun v a => ints13_at _ _ _ _ _ Wt v (by omega) (IW.below a) (HW.below a)) (fun v a => ints13_at _ _ _ _ _ Tr v (by omega) (IT.below a) (HT.below a))
end Go.Proofs.YtbdjbhdbegiipaaGreatDoor

namespace Go.Proofs.YtbdjbhdbegiipaaGreatDoor
open Go.RowKit Tf Cu Go.Deep
/-- a list of the call's own, of so many whole numbers -/
def OwnI (B : Nat) (v : Value) (l : List Int) (w : World) : Prop := w.ownsRow B 2 1 v l.length (l.map (Value.int .i64))
theorem OwnI.in {B : Nat} {v : Value} {l : List Int} {w : World} (h : OwnI B v l w) (hl : ∀ x ∈ l, -9223372036854775808 ≤ x ∧ x ≤ 9223372036854775807) : ∃ a0 cap, v = .slice a0 l.length cap ∧ IsIn w a0 l.length (fun j => l.getD j 0) := by
  rcases h.2 with ⟨rfl, h0⟩ | ⟨g, cap, cur, rfl, hb, hg, h1, h2, h3, h4⟩
  · exact ⟨none, 0, by rw [h0], fun k hk => by omega⟩
  · refine ⟨some ⟨g, 0, none⟩, cap, rfl, fun k hk => ?_⟩
    have hx : l.getD k 0 = l[k] := by simp [List.getD, hk]
    refine ⟨by dsimp only; rw [hx]; exact hl _ (List.getElem_mem _), g, 0, rfl, lt_of_block hg, ?_⟩
    have e := h.cells (g := g) rfl k (.int .i64 (l.getD k 0)) (by simp [hk])
    rw [add_off12] at e
    exact e
theorem OwnI.new (w : World) (B : Nat) : OwnI B (.slice none 0 0) [] w := ⟨by simp, .inl ⟨rfl, rfl⟩⟩
theorem OwnI.to {B : Nat} {v : Value} {l : List Int} {w w' : World} (h : OwnI B v l w) (hb : Ab w w') : OwnI B v l w' := by
  refine ⟨h.1, ?_⟩
  rcases h.2 with h0 | ⟨g, cap, cur, e, hb', hg, h1, h2, h3, h4⟩
  · exact .inl h0
  · exact .inr ⟨g, cap, cur, e, hb', hb.heap hg, h1, h2, h3, h4⟩
theorem info_i : ∃ i, Tryz.prog.info? 2 = some i ∧ i.zero = some (.int .i64 0) ∧ i.size = 1 ∧ i.bytes = 8 := by
  have h := info64
  cases e : Tryz.prog.info? 2 with
  | none => rw [e] at h; cases h
  | some i =>
    rw [e] at h
    simp at h
    exact ⟨i, rfl, h.1, h.2.1, h.2.2⟩
end Go.Proofs.YtbdjbhdbegiipaaGreatDoor

namespace Go.Proofs.YtbdjbhdbegiipaaGreatDoor
open Go.RowKit Tf Cu Go.Deep
/-- all blocks of V but g are in w as they were -/
def Abo (V : World) (g : Nat) (w : World) : Prop := w.os = V.os ∧ w.tape = V.tape ∧ w.output = V.output ∧ V.heap.size ≤ w.heap.size ∧ ∀ k, k < V.heap.size → k ≠ g → w.heap[k]? = V.heap[k]?
theorem Abo.ab {w0 V w : World} {g : Nat} (h : Abo V g w) (a : Ab w0 V) (hg : w0.heap.size ≤ g) : Ab w0 w := by
  obtain ⟨h1, h2, h3, h4, h5⟩ := h
  exact ⟨h1.trans a.os, h2.trans a.tape, h3.trans a.output, Nat.le_trans (Below.size a) h4, fun k hk => (h5 k (Nat.lt_of_lt_of_le hk (Below.size a)) (by omega)).trans (a.block k hk)⟩
theorem Abo.refl (V : World) (g : Nat) : Abo V g V := ⟨rfl, rfl, rfl, Nat.le_refl _, fun _ _ _ => rfl⟩
theorem Abo.grown {V wr w' : World} {g : Nat} {O : Obj} {row : Option Nat} (h : Abo V g wr) (hg : (wr.alloc O).grownBy w' row) (hr : ∀ b, row = some b → b = g ∨ V.heap.size ≤ b) : Abo V g w' := by
  obtain ⟨h1, h2, h3, h4, h5⟩ := h
  have hs : (wr.alloc O).heap.size = wr.heap.size + 1 := by
    show (wr.heap.push O).size = _
    simp
  refine ⟨hg.os.trans h1, hg.tape.trans h2, hg.output.trans h3, by have := hg.size; omega, fun k hk hne => ?_⟩
  refine (hg.block k (by omega) (fun e => ?_)).trans ((Below.heap_alloc _ _ _ (by omega)).trans (h5 k hk hne))
  rcases hr k e.symm with h6 | h6
  · exact hne h6
  · omega
theorem rowIs_abo {V w : World} {b : Nat} {t : TypeId} {n : Nat} {f : Nat → Value} {g : Nat} (h : V.rowIs b t n f) (a : Abo V g w) (hne : b ≠ g) : w.rowIs b t n f := h.of_block (a.2.2.2.2 b h.lt hne)
theorem isIn_abo {V w : World} {b o n g : Nat} {f : Nat → Int} (h : IsIn V (some ⟨b, o, none⟩) n f) (a : Abo V g w) (hne : b ≠ g) : IsIn w (some ⟨b, o, none⟩) n f := fun k hk => by
  obtain ⟨h1, b', o', h2, h3, h4⟩ := h k hk
  cases h2
  exact ⟨h1, b, o, rfl, Nat.lt_of_lt_of_le h3 a.2.2.2.1, (World.cell?_of_block (a.2.2.2.2 b h3 hne)).trans h4⟩
theorem own_row13 {w : World} {b N B : Nat} {x : Int} (h : w.rowIs b 2 N (fun _ => .int .i64 x)) (hB : B ≤ b) (hN : N ≤ 65536) : OwnI B (.slice (some ⟨b, 0, none⟩) N N) (List.replicate N x) w := by
  obtain ⟨c, hb, hc, hf⟩ := h
  refine ⟨by simp, .inr ⟨b, N, c, by simp, hB, hb, by simp, by unfold maxLen; omega, by omega, ?_⟩⟩
  apply List.ext_getElem?
  intro i
  rw [List.getElem?_take, List.length_replicate]
  by_cases hi : i < N
  · have e := hf i hi
    rw [if_pos (by omega)]
    rw [← Array.getElem?_toList] at e
    rw [e]
    simp [hi]
  · rw [if_neg (by omega), List.getElem?_eq_none (by simp; omega)]
theorem OwnI.alloc {B : Nat} {v : Value} {l : List Int} {w : World} (h : OwnI B v l w) (O : Obj) : OwnI B v l (w.alloc O) := World.ownsRow.alloc h O
theorem own_new13 (w : World) (B : Nat) (hB : B ≤ w.heap.size) : OwnI B (.slice (some ⟨w.heap.size, 0, none⟩) 0 0) [] (w.alloc (.cells #[] 2)) :=
  ⟨by simp, .inr ⟨w.heap.size, 0, #[], rfl, hB, heap_alloc_new _ _, Nat.le_refl _, by unfold maxLen; omega, by simp, by simp⟩⟩
theorem wpList_app13 {ops : Array Oper} {rest : List Oper} {o : Oper} {a : Act} {w : World} {Q : Exit → Act → World → Prop} (hgd : o.guard = none) (s x : Operand)
    (ho : o.op = .call { callee := .builtin .append, args := #[s, x], argTypes := #[27, 27] })
    (B : Nat) (v : Value) (l : List Int) (hs : a.eval s = v) (hown : OwnI B v l w)
    (ad : Addr) (m c : Nat) (news : List Int) (hx : a.eval x = .slice (some ad) m c) (hl : news.length = m) (hnews : ∀ j u, (news.map (Value.int .i64))[j]? = some u → w.cell? (ad.add j) = some u)
    (hm : 0 < m) (hlen : l.length + m ≤ 1048576) (hB : B ≤ w.heap.size) (nm : Nat) (hnm : l.length + m = nm)
    (h : ∀ g cap w', OwnI B (.slice (some ⟨g, 0, none⟩) nm cap) (l ++ news) w' → w.grownBy w' v.ownBlock → (v.ownBlock = some g ∨ g = w.heap.size) → B ≤ g → wpList Tryz.prog ops Q rest (a.put o.dst (.slice (some ⟨g, 0, none⟩) nm cap)) w') : wpList Tryz.prog ops Q (o :: rest) a w := by
  subst hnm
  obtain ⟨i0, hi, hz0, hz1, hz2⟩ := info_i
  refine wpList_append_lies w hgd s x _ ho B 2 i0 (.int .i64 0) 1 8 Tryz.underlying27 hi hz0 hz1 hz2 rfl (by decide) v l.length (l.map (Value.int .i64)) hs hown ad m c (news.map (Value.int .i64)) hx (by simpa using hl) hnews (fun u hu => by
    obtain ⟨y, _, rfl⟩ := List.mem_map.1 hu
    rfl) hm (by unfold maxLen; omega) (by omega) hB _ rfl ?_
  intro g cap w' o1 g1 e1 _
  have hb : B ≤ g := by
    rcases o1.2 with ⟨q, _⟩ | ⟨g2, _, _, q, hb, _⟩
    · cases q
    · injection q with q1 q2 q3
      injection q1 with q4
      injection q4 with q5
      omega
  refine h g cap w' ?_ g1 e1 hb
  unfold OwnI
  rw [List.length_append, List.map_append, hl]
  exact o1
theorem wpList_nil13 {ops : Array Oper} {rest : List Oper} {o : Oper} {a : Act} {w : World} {Q : Exit → Act → World → Prop} (hgd : o.guard = none) (s x : Operand)
    (ho : o.op = .call { callee := .builtin .append, args := #[s, x], argTypes := #[27, 27] })
    (g : Nat) (hs : a.eval s = .slice (some ⟨g, 0, none⟩) 0 0) (hx : a.eval x = .slice none 0 0)
    (h : wpList Tryz.prog ops Q rest (a.put o.dst (.slice (some ⟨g, 0, none⟩) 0 0)) w) : wpList Tryz.prog ops Q (o :: rest) a w := by
  obtain ⟨i0, hi, hz0, hz1, hz2⟩ := info_i
  refine wpList_plain hgd fun _ hK => ?_
  have hr := run_append_room_src (P := Tryz.prog) w 27 27 o.type 2 i0 Tryz.underlying27 hi g 0 0 0 (.slice none 0 0) 0 [] (by rw [hz1]; exact Src.ofNil w Tryz.underlying27 0) (Nat.le_refl _) (fun j hj => absurd hj (Nat.not_lt_zero j)) (fun j hj => absurd hj (Nat.not_lt_zero j))
  unfold Oper.wp execOp
  simp only [ho, resolve, invoke, builtin, Sem.run_bind, Sem.run_pure, Result.andThen_ok, List.map_toArray, List.map_cons, List.map_nil, hs, hx, hr]
  exact hK _ _ h
theorem news_row13 {w : World} {b N : Nat} {D : Nat → Int} (h : w.rowIs b 2 N (fun i => .int .i64 (D i))) : ∀ j u, (((List.range N).map D).map (Value.int .i64))[j]? = some u → w.cell? ((⟨b, 0, none⟩ : Addr).add j) = some u := fun j u hu => by
  have hj : j < N := by
    rcases Nat.lt_or_ge j N with h1 | h1
    · exact h1
    · rw [List.getElem?_eq_none (by simpa using h1)] at hu; cases hu
  simp [hj] at hu
  rw [add_off12, Nat.zero_add, ← hu]
  exact h.cell hj
end Go.Proofs.YtbdjbhdbegiipaaGreatDoor
