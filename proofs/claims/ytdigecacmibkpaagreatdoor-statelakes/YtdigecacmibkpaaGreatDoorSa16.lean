/-
  Some of the texts of this proof, one behind the other.
-/
import Derived.StillTail
import Derived.BigQuiet
import Derived.Deep.QuietTactic
import Derived.Test.YtdigecacmibkpaaGreatDoorSa15
namespace Go.Proofs.YtdigecacmibkpaaGreatDoor
open Go.RowKit Tf Cu Go.Deep
namespace Ss
/-- no block is both lists' -/
def Dj (v u : Value) : Prop := ∀ k, v.ownBlock = some k → u.ownBlock ≠ some k
/-- a sea of the call's own -/
def OwnS (M : Nat) (v : Value) (nb nw nt ns : Nat) (B : Nat → Nat) (W T : Nat → Int) (S : Nat → Nat) (sky st : Int) (w : World) : Prop :=
  ∃ v1 v2 v3 v4, v = .agg #[v1, v2, v3, v4, .int .i64 sky, .int .i64 st] ∧ OwnG M v1 ((List.range nb).map B) w ∧ Sh.Own M v2 ((List.range nw).map W) w ∧ Sh.Own M v3 ((List.range nt).map T) w ∧ OwnG M v4 ((List.range ns).map S) w ∧ Dj v1 v4 ∧ Dj v2 v3
/-- whether two seas are the same -/
def eqS (lb lw lt ls : Nat) (B : Nat → Nat) (W T : Nat → Int) (S : Nat → Nat) (sky st : Int) (lb' lw' lt' ls' : Nat) (B' : Nat → Nat) (W' T' : Nat → Int) (S' : Nat → Nat) (sky' st' : Int) : Bool :=
  eqL lb lb' B B' && eqL lw lw' W W' && eqL lt lt' T T' && eqL ls ls' S S' && decide (sky = sky') && decide (st = st')
/-- what Turned answers beside the sea -/
def tuE (side : Int) (lb lw lt ls : Nat) (B : Nat → Nat) (W T : Nat → Int) (S : Nat → Nat) (sky st : Int) (turn : Int) : Int :=
  if (chk side lb lw lt ls B W T S sky st).2 ≠ 0 then (chk side lb lw lt ls B W T S sky st).2 else if 0 ≤ turn ∧ turn ≤ 23 then 0 else 1
/-- what Plan is to answer -/
def PlanC : Prop := ∀ (sd : Int) (dt gr dr : Nat) (lim : Int) (rv : Bool) (pr : Option Addr) (lr cr : Nat) (R : Nat → Int × Int × Int × Int) (w : World), Sh.W64 sd → Sh.W64 lim → (dt < 18446744073709551616 ∧ gr < 18446744073709551616 ∧ dr < 18446744073709551616) → lr ≤ 131072 → Rn.IsRn w pr lr R →
    Calls Tryz.prog 10 #[.agg #[.int .i64 sd, .float .f64 dt, .float .f64 gr, .float .f64 dr, .int .i64 lim, .bool rv, .slice pr lr cr]] w fun e w' => e = .returned (.int .i64 (plE sd dt gr dr lim lr R)) ∧ Below w.heap.size w w'
/-- what Check is to answer -/
def CheckC : Prop := ∀ (side : Int) (pb : Option Addr) (lb cb : Nat) (B : Nat → Nat) (pw : Option Addr) (lw cw : Nat) (W : Nat → Int) (pt : Option Addr) (lt ct : Nat) (T : Nat → Int) (ps : Option Addr) (ls cs : Nat) (S : Nat → Nat) (sky st : Int) (w : World), Sh.W64 side → Sh.W64 sky → Sh.W64 st → (lb ≤ 131072 ∧ lw ≤ 131072 ∧ lt ≤ 131072 ∧ ls ≤ 131072) → IsFl w pb lb B → Sh.IsI w pw lw W → Sh.IsI w pt lt T → IsFl w ps ls S →
    Calls Tryz.prog 13 #[.int .i64 side, .agg #[.slice pb lb cb, .slice pw lw cw, .slice pt lt ct, .slice ps ls cs, .int .i64 sky, .int .i64 st]] w fun e w' => e = .returned (.tuple #[.int .i64 (chk side lb lw lt ls B W T S sky st).1, .int .i64 (chk side lb lw lt ls B W T S sky st).2]) ∧ Below w.heap.size w w'
/-- what Same is to answer -/
def SameC : Prop := ∀ (pb : Option Addr) (lb cb : Nat) (B : Nat → Nat) (pw : Option Addr) (lw cw : Nat) (W : Nat → Int) (pt : Option Addr) (lt ct : Nat) (T : Nat → Int) (ps : Option Addr) (ls cs : Nat) (S : Nat → Nat) (sky st : Int) (pb' : Option Addr) (lb' cb' : Nat) (B' : Nat → Nat) (pw' : Option Addr) (lw' cw' : Nat) (W' : Nat → Int) (pt' : Option Addr) (lt' ct' : Nat) (T' : Nat → Int) (ps' : Option Addr) (ls' cs' : Nat) (S' : Nat → Nat) (sky' st' : Int) (w : World), (lb ≤ 131072 ∧ lw ≤ 131072 ∧ lt ≤ 131072 ∧ ls ≤ 131072) → (lb' ≤ 131072 ∧ lw' ≤ 131072 ∧ lt' ≤ 131072 ∧ ls' ≤ 131072) → IsFl w pb lb B → Sh.IsI w pw lw W → Sh.IsI w pt lt T → IsFl w ps ls S → IsFl w pb' lb' B' → Sh.IsI w pw' lw' W' → Sh.IsI w pt' lt' T' → IsFl w ps' ls' S' →
    Calls Tryz.prog 15 #[.agg #[.slice pb lb cb, .slice pw lw cw, .slice pt lt ct, .slice ps ls cs, .int .i64 sky, .int .i64 st], .agg #[.slice pb' lb' cb', .slice pw' lw' cw', .slice pt' lt' ct', .slice ps' ls' cs', .int .i64 sky', .int .i64 st']] w fun e w' => e = .returned (.bool (eqS lb lw lt ls B W T S sky st lb' lw' lt' ls' B' W' T' S' sky' st')) ∧ Below w.heap.size w w'
/-- what Copy is to answer -/
def CopyC : Prop := ∀ (pb : Option Addr) (lb cb : Nat) (B : Nat → Nat) (pw : Option Addr) (lw cw : Nat) (W : Nat → Int) (pt : Option Addr) (lt ct : Nat) (T : Nat → Int) (ps : Option Addr) (ls cs : Nat) (S : Nat → Nat) (sky st : Int) (w : World), (lb ≤ 131072 ∧ lw ≤ 131072 ∧ lt ≤ 131072 ∧ ls ≤ 131072) → IsFl w pb lb B → Sh.IsI w pw lw W → Sh.IsI w pt lt T → IsFl w ps ls S →
    Calls Tryz.prog 17 #[.agg #[.slice pb lb cb, .slice pw lw cw, .slice pt lt ct, .slice ps ls cs, .int .i64 sky, .int .i64 st]] w fun e w' => ∃ v, e = .returned v ∧ Below w.heap.size w w' ∧ OwnS w.heap.size v lb lw lt ls B W T S sky st w'
/-- what Turned is to answer -/
def TurnedC : Prop := ∀ (side : Int) (pb : Option Addr) (lb cb : Nat) (B : Nat → Nat) (pw : Option Addr) (lw cw : Nat) (W : Nat → Int) (pt : Option Addr) (lt ct : Nat) (T : Nat → Int) (ps : Option Addr) (ls cs : Nat) (S : Nat → Nat) (sky st : Int) (turn : Int) (w : World), Fr w → Sh.W64 side → Sh.W64 sky → Sh.W64 st → Sh.W64 turn → (lb ≤ 131072 ∧ lw ≤ 131072 ∧ lt ≤ 131072 ∧ ls ≤ 131072) → IsFl w pb lb B → Sh.IsI w pw lw W → Sh.IsI w pt lt T → IsFl w ps ls S →
    (tuE side lb lw lt ls B W T S sky st turn = 0 → Calls Tryz.prog 19 #[.int .i64 side, .agg #[.slice pb lb cb, .slice pw lw cw, .slice pt lt ct, .slice ps ls cs, .int .i64 sky, .int .i64 st], .int .i64 turn] w fun e w' => ∃ v, e = .returned (.tuple #[v, .int .i64 0]) ∧ Below w.heap.size w w' ∧ OwnS w.heap.size v lb lw lt ls (tuC side.toNat turn.toNat B) (tuC side.toNat turn.toNat W) (tuC side.toNat turn.toNat T) (tuS side.toNat turn.toNat S) sky st w') ∧
    (tuE side lb lw lt ls B W T S sky st turn ≠ 0 → Calls Tryz.prog 19 #[.int .i64 side, .agg #[.slice pb lb cb, .slice pw lw cw, .slice pt lt ct, .slice ps ls cs, .int .i64 sky, .int .i64 st], .int .i64 turn] w fun e w' => e = .returned (.tuple #[.agg #[.slice none 0 0, .slice none 0 0, .slice none 0 0, .slice none 0 0, .int .i64 0, .int .i64 0], .int .i64 (tuE side lb lw lt ls B W T S sky st turn)]) ∧ Below w.heap.size w w')
/-- what Lake is to answer -/
def LakeC : Prop := ∀ (side : Int) (pb : Option Addr) (lb cb : Nat) (B : Nat → Nat) (l : Nat) (w : World), Fr w → Sh.W64 side → lb ≤ 131072 → l < 18446744073709551616 → IsFl w pb lb B →
    (lkE side lb B l = 0 → Calls Tryz.prog 21 #[.int .i64 side, .slice pb lb cb, .float .f64 l] w fun e w' => ∃ v, e = .returned (.tuple #[v, .int .i64 0]) ∧ Below w.heap.size w w' ∧ OwnS w.heap.size v lb lb lb (2 * lb) B (lkW side.toNat B l) (fun _ => 0) (fun _ => 0) 0 0 w') ∧
    (lkE side lb B l ≠ 0 → Calls Tryz.prog 21 #[.int .i64 side, .slice pb lb cb, .float .f64 l] w fun e w' => e = .returned (.tuple #[.agg #[.slice none 0 0, .slice none 0 0, .slice none 0 0, .slice none 0 0, .int .i64 0, .int .i64 0], .int .i64 (lkE side lb B l)]) ∧ Below w.heap.size w w')
theorem le20 {lb lw lt ls : Nat} (h : lb ≤ 131072 ∧ lw ≤ 131072 ∧ lt ≤ 131072 ∧ ls ≤ 131072) : lb ≤ 281474976710656 ∧ lw ≤ 281474976710656 ∧ lt ≤ 281474976710656 ∧ ls ≤ 281474976710656 := by omega
theorem eqL_yes {α : Type} [DecidableEq α] {n : Nat} {f g : Nat → α} (h : ∀ i, i < n → f i = g i) : eqL n n f g = true := decide_eq_true ⟨rfl, h⟩
theorem eqL_len {α : Type} [DecidableEq α] {n m : Nat} {f g : Nat → α} (h : n ≠ m) : eqL n m f g = false := decide_eq_false (fun q => h q.1)
theorem eqL_no {α : Type} [DecidableEq α] {n m : Nat} {f g : Nat → α} {k : Nat} (hk : k < n) (h : f k ≠ g k) : eqL n m f g = false := decide_eq_false (fun q => h (q.2 k hk))
end Ss
end Go.Proofs.YtdigecacmibkpaaGreatDoor

namespace Go.Proofs.YtdigecacmibkpaaGreatDoor
open Go.RowKit Tf Cu Go.Deep
/-- a sea of the call's own in block g, its lists in blocks bB and bW: fb and fw lie there -/
def OwnSea (W : World) (g bB bW M : Nat) (r : Array Value) (fb : Nat → Nat) (fw : Nat → Int) (v : World) : Prop :=
  Ab W v ∧ v.heap[g]? = some (.cells r 33) ∧ v.rowIs bB 22 M (fun i => .float .f64 (fb i)) ∧ v.rowIs bW 2 M (fun i => .int .i64 (fw i))
theorem OwnSea.to {W : World} {g bB bW M : Nat} {r : Array Value} {fb : Nat → Nat} {fw : Nat → Int} {v v' : World} (h : OwnSea W g bB bW M r fb fw v) (a : Ab v v') : OwnSea W g bB bW M r fb fw v' :=
  ⟨h.1.trans a, a.heap h.2.1, rowIs.ab h.2.2.1 a, rowIs.ab h.2.2.2 a⟩
end Go.Proofs.YtdigecacmibkpaaGreatDoor

namespace Go.Proofs.YtdigecacmibkpaaGreatDoor
open Go.RowKit
/-- each of the first n operations waits for earlier ones alone, and asks earlier ones alone whether it is wanted -/
def backB (md : Region.Mode) (ops : Array Oper) (n : Nat) : Bool :=
  (List.range n).all fun i => match ops[i]? with
    | some o => o.after.all (fun e => !Region.binds md e || decide (e.on < i)) && (match o.guard with | none => true | some (j, _) => decide (j < n))
    | none => true
/-- the first n are done, no other -/
def finA (m n : Nat) : Array Bool := Array.replicate n true ++ Array.replicate (m - n) false
theorem back_spec {md : Region.Mode} {ops : Array Oper} {n : Nat} (h : backB md ops n = true) {i : Nat} {o : Oper} (hi : i < n) (ho : ops[i]? = some o) :
    (∀ e ∈ o.after, Region.binds md e = true → e.on < i) ∧ (∀ j b, o.guard = some (j, b) → j < n) := by
  have a := List.all_eq_true.1 h i (List.mem_range.2 hi)
  simp only [ho, Bool.and_eq_true] at a
  refine ⟨fun e he hb => ?_, fun j b hg => ?_⟩
  · have := Array.all_eq_true_iff_forall_mem.1 a.1 e he
    simpa [hb] using this
  · have := a.2
    rw [hg] at this
    simpa using this
theorem getD_tf {l : Array Bool} {i : Nat} (h : i < l.size) (d d' : Bool) : l.getD i d = l.getD i d' := by simp [h]
theorem wpAny_more {P : Program} {md : Region.Mode} {ops : Array Oper} {Q : Exit → Act → World → Prop} : ∀ (g k : Nat) (listed : Array Bool) (a : Act) (w : World), wpAny P md ops Q g listed a w → wpAny P md ops Q (g + k) listed a w
  | 0, 0, _, _, _, h => h
  | 0, k + 1, listed, a, w, h => by
    rw [Nat.zero_add]
    exact ⟨fun _ => h.2, fun i hi => by rw [h.1] at hi; cases hi⟩
  | g + 1, k, listed, a, w, h => by
    rw [show g + 1 + k = (g + k) + 1 by omega]
    exact ⟨h.1, fun i hi => wpOp_mono (fun a' w' h' => wpAny_more g k _ a' w' h') (h.2 i hi)⟩
section
variable {P : Program} {md : Region.Mode} {ops hd : Array Oper} {C : World → Prop} {n : Nat}
theorem ready_head (hhd : ∀ i, i < n → hd[i]? = ops[i]?) (hb : backB md ops n = true) {listed lh : Array Bool} (hl : lh.size = n) (hls : n ≤ listed.size) (he : ∀ i, i < n → lh.getD i true = listed.getD i true) {i : Nat} (hi : i < n) :
    i ∈ Region.ready md hd lh ↔ i ∈ Region.ready md ops listed := by
  rw [mem_ready, mem_ready, he i hi, hhd i hi]
  refine and_congr Iff.rfl (exists_congr fun o => and_congr_right fun ho => forall_congr' fun e => forall_congr' fun hm => forall_congr' fun hbd => ?_)
  have lt := (back_spec hb hi ho).1 e hm hbd
  rw [getD_tf (d := false) (d' := true) (by omega), getD_tf (l := listed) (d := false) (d' := true) (by omega), he _ (by omega)]
theorem some_ready (hsz : n ≤ ops.size) (hb : backB md ops n = true) {listed : Array Bool} (hls : n ≤ listed.size) :
    (∀ i, i < n → listed.getD i true = true) ∨ ∃ i, i < n ∧ i ∈ Region.ready md ops listed := by
  have key : ∀ k, k ≤ n → (∀ i, i < k → listed.getD i true = true) ∨ ∃ i, i < n ∧ i ∈ Region.ready md ops listed := by
    intro k
    induction k with
    | zero => exact fun _ => .inl (fun i hi => by omega)
    | succ k ih =>
      intro hk
      rcases ih (by omega) with h | h
      · cases c : listed.getD k true
        · right
          refine ⟨k, by omega, mem_ready.2 ⟨c, ops[k]'(by omega), by simp, fun e he hbd => ?_⟩⟩
          have lt := (back_spec hb (i := k) (o := ops[k]'(by omega)) (by omega) (by simp)).1 e he hbd
          rw [getD_tf (d := false) (d' := true) (by omega)]
          exact h _ lt
        · left
          intro i hi
          by_cases e : i = k
          · rw [e]; exact c
          · exact h i (by omega)
      · exact .inr h
  exact key n (Nat.le_refl _)
theorem qOp_head (hhd : ∀ i, i < n → hd[i]? = ops[i]?) (hb : backB md ops n = true) {i : Nat} (hi : i < n) {K : Act → Prop} {a : Act} (h : qOp P hd C i K a) : qOp P ops C i K a := by
  unfold qOp at *
  rw [hhd i hi] at h
  cases ho : ops[i]? with
  | none => rw [ho] at h; exact h
  | some o =>
    rw [ho] at h
    have e : Region.wanted o (yielded hd a.tmps) = Region.wanted o (yielded ops a.tmps) := by
      unfold Region.wanted
      cases hg : o.guard with
      | none => rfl
      | some jb =>
        obtain ⟨j, b⟩ := jb
        have lt := (back_spec hb hi ho).2 j b hg
        show (yielded hd a.tmps j == some b) = (yielded ops a.tmps j == some b)
        unfold yielded
        rw [hhd j lt]
    simp only [e] at h
    exact h
theorem fin_of {listed : Array Bool} (hn : n < ops.size) (inv : HeadInv md ops n listed) (h : ∀ i, i < n → listed.getD i true = true) : listed = finA ops.size n := by
  have s := inv.size
  unfold finA
  refine Array.ext (by simp; omega) fun i h1 h2 => ?_
  by_cases c : i < n
  · have := h i c
    rw [Array.getElem_append_left (by simpa using c)]
    simp [h1] at this
    simpa using this
  · have := inv.tail i (by omega) (by omega)
    rw [Array.getElem_append_right (by simp; omega)]
    simp [h1] at this
    simpa using this
theorem wpAny_of_headQ {g : Nat} {Q1 : Act → Prop} {Q' : Exit → Act → World → Prop} (hhd : ∀ i, i < n → hd[i]? = ops[i]?) (hsz : hd.size = n) (hn : n < ops.size) (hb : backB md ops n = true) (hs : Region.sinkB md ops n = true) (hc : Region.chainB md ops n = true)
    (hL : ∀ a w, C w → Q1 a → wpAny P md ops Q' g (finA ops.size n) a w) :
    ∀ (fuel : Nat) (listed lh : Array Bool) (a : Act) (w : World), C w → HeadInv md ops n listed → lh.size = n → (∀ i, i < n → lh.getD i true = listed.getD i true) →
      wpAnyQ P md hd C Q1 fuel lh a → wpAny P md ops Q' (fuel + g) listed a w := by
  intro fuel
  induction fuel with
  | zero =>
    intro listed lh a w hC inv hl he h
    have hls : n ≤ listed.size := by rw [inv.size]; omega
    rcases some_ready (by omega) hb hls with all | ⟨i, hi, hr⟩
    · rw [Nat.zero_add, fin_of hn inv all]
      exact hL a w hC h.2
    · have := (ready_head hhd hb hl hls he hi).2 hr
      rw [h.1] at this
      cases this
  | succ fuel ih =>
    intro listed lh a w hC inv hl he h
    have hls : n ≤ listed.size := by rw [inv.size]; omega
    rcases some_ready (by omega) hb hls with all | ⟨i0, hi0, hr0⟩
    · have no : Region.ready md hd lh = [] := by
        rw [List.eq_nil_iff_forall_not_mem]
        intro i hi
        obtain ⟨u, o, ho, _⟩ := mem_ready.1 hi
        have lt : i < n := by rw [← hsz]; exact (Array.getElem?_eq_some_iff.1 ho).1
        rw [he i lt, all i lt] at u
        cases u
      rw [Nat.add_comm (fuel + 1) g, fin_of hn inv all]
      exact wpAny_more g (fuel + 1) _ a w (hL a w hC (h.1 no))
    · rw [show fuel + 1 + g = (fuel + g) + 1 by omega]
      refine ⟨fun h0 => (by rw [h0] at hr0; cases hr0), fun i hi => ?_⟩
      have lt : i < n := by
        by_cases c : i < n
        · exact c
        · exact absurd hi (tail_waits hs hc hn inv _ i0 rfl hi0 (mem_ready.1 hr0).1 i (by omega))
      have hq := qOp_head hhd hb lt (h.2 i ((ready_head hhd hb hl hls he lt).2 hi))
      refine wpOp_of_qOp hC (fun a' w' hC' h' => ih _ _ a' w' hC' (inv.set hi lt) (by simp [hl]) (fun j hj => ?_) h') hq
      by_cases e : i = j
      · subst e
        simp [hl, lt, show i < listed.size by omega]
      · rw [getD_set_ne true e, getD_set_ne true e, he j hj]
end
/-- what is asked of the region's text -/
def tailB (ops : Array Oper) (n : Nat) : Bool :=
  decide (n < ops.size) && backB .any ops n && Region.sinkB .any ops n && Region.chainB .any ops n && Region.seqB .any ops (ops.size - n) n (finA ops.size n)
theorem region_tail {P : Program} {id : Nat} {Q : Exit → Act → World → Prop} {a : Act} {w : World} {l : List Oper} {U : Type} (n : Nat) (F : U → World) (hm : P.follows .mixedOrders = true) (hB : Region.lexB .any (l.take n).toArray = true) (hT : tailB l.toArray n = true)
    (hC : ∃ u, w.drew = F u)
    (h : wpQuiet P (l.take n).toArray (fun w' => ∃ u, w' = F u) (fun a' => ∀ w', (∃ u, w' = F u) → wpList P l.toArray Q (l.drop n) a' w') (l.take n) a) : (Code.region id l.toArray true).wp P Q a w := by
  simp only [tailB, Bool.and_eq_true, decide_eq_true_eq] at hT
  obtain ⟨⟨⟨⟨hn, hb⟩, hs⟩, hc⟩, hq⟩ := hT
  have hn' : n < l.length := by simpa using hn
  have htl : (l.take n).toArray.size = n := by simp; omega
  have hdl : (l.drop n).length = l.toArray.size - n := by simp
  refine wp_region_any hm ?_
  simp only [Region.lexB, Bool.and_eq_true] at hB
  have H := wpAnyQ_lex (P := P) (C := fun w' => ∃ u, w' = F u) (md := .any) hB.1 (l.take n) 0 (Array.replicate (l.take n).toArray.size false) a (by simp) (by simpa using hB.2) h
  have inv0 : HeadInv .any l.toArray n (Array.replicate l.toArray.size false) :=
    ⟨by simp, fun j oj _ hl => (by rw [getD_replicate_false] at hl; cases hl), fun t _ ht => getD_in (by simpa using ht) (getD_replicate_false _ _)⟩
  have := wpAny_of_headQ (P := P) (Q' := Q) (g := l.toArray.size - n) (hd := (l.take n).toArray) (ops := l.toArray) (fun i hi => by simp [hi]) htl hn hb hs hc
    (fun a' w' hC' h' => by
      have := wpAny_of_seq (P := P) (md := .any) (ops := l.toArray) (Q' := Q) (l.drop n) n (finA l.toArray.size n) a' w' (fun j => by simp) (by rw [hdl]; exact hq) (h' w' hC')
      rwa [hdl] at this)
    (l.take n).length _ _ a w.drew hC inv0 (by simpa using htl) (fun i hi => by
      rw [getD_in (listed := Array.replicate l.toArray.size false) (by simp; omega) (getD_replicate_false _ _)]
      exact getD_in (by rw [Array.size_replicate]; omega) (getD_replicate_false _ _)) H
  have e : (l.take n).length + (l.toArray.size - n) = l.toArray.size := by simp; omega
  rw [e] at this
  exact this
end Go.Proofs.YtdigecacmibkpaaGreatDoor

namespace Go.Proofs.YtdigecacmibkpaaGreatDoor
open Go.RowKit
/-- a block that is new: behind all of W, and none of those laid so far -/
def Fresh (W : World) (S : Nat → Option Nat) (b : Nat) : Prop := W.heap.size ≤ b ∧ ∀ i c, S i = some c → c ≠ b
/-- operation i has laid block b -/
def putL (S : Nat → Option Nat) (i b : Nat) : Nat → Option Nat := fun k => if k = i then some b else S k
/-- all blocks of W are as they were, and what was laid lies there -/
def Has (W : World) (sp : Nat → Option (Obj × (Nat → Value))) (S : Nat → Option Nat) (w : World) : Prop := Ab W w ∧ ∀ i b, S i = some b → W.heap.size ≤ b ∧ ∃ o mk, sp i = some (o, mk) ∧ w.heap[b]? = some o
theorem putL_comm (S : Nat → Option Nat) {i j : Nat} (b c : Nat) (h : i ≠ j) : putL (putL S i b) j c = putL (putL S j c) i b := by
  funext k
  unfold putL
  by_cases e : k = j
  · subst e; simp [Ne.symm h]
  · by_cases e2 : k = i
    · subst e2; simp [e]
    · simp [e, e2]
theorem Fresh.put {W : World} {S : Nat → Option Nat} {i b c : Nat} (h : Fresh W S c) (n : b ≠ c) : Fresh W (putL S i b) c :=
  ⟨h.1, fun k d e => by
    unfold putL at e
    by_cases q : k = i
    · rw [if_pos q] at e; injection e with e; exact fun x => n (e.trans x)
    · rw [if_neg q] at e; exact h.2 k d e⟩
theorem Fresh.of_put {W : World} {S : Nat → Option Nat} {i b c : Nat} (h : Fresh W (putL S i b) c) (hi : S i = none) : Fresh W S c ∧ b ≠ c := by
  refine ⟨⟨h.1, fun k d e => h.2 k d ?_⟩, h.2 i b (by simp [putL])⟩
  unfold putL
  by_cases q : k = i
  · subst q; rw [hi] at e; cases e
  · rw [if_neg q]; exact e
theorem Has.lt {W : World} {sp : Nat → Option (Obj × (Nat → Value))} {S : Nat → Option Nat} {w : World} (h : Has W sp S w) {i b : Nat} (e : S i = some b) : b < w.heap.size := by
  obtain ⟨_, o, mk, _, q⟩ := h.2 i b e
  exact lt_of_block q
theorem Has.fresh {W : World} {sp : Nat → Option (Obj × (Nat → Value))} {S : Nat → Option Nat} {w : World} (h : Has W sp S w) : Fresh W S w.heap.size :=
  ⟨h.1.size, fun i c e => by have := h.lt e; omega⟩
theorem Has.lay {W : World} {sp : Nat → Option (Obj × (Nat → Value))} {S : Nat → Option Nat} {w : World} (h : Has W sp S w) {i : Nat} {o : Obj} {mk : Nat → Value} (e : sp i = some (o, mk)) : Has W sp (putL S i w.heap.size) (w.alloc o) :=
  ⟨h.1.alloc o, fun k b q => by
    unfold putL at q
    by_cases c : k = i
    · subst c
      rw [if_pos rfl] at q
      injection q with q
      subst q
      exact ⟨h.1.size, o, mk, e, heap_alloc_new _ _⟩
    · rw [if_neg c] at q
      obtain ⟨h1, o', mk', h2, h3⟩ := h.2 k b q
      exact ⟨h1, o', mk', h2, Ab.heap (bl1 _ _) h3⟩⟩
section
variable {P : Program} {ops : Array Oper} {md : Region.Mode} {W : World} {sp : Nat → Option (Obj × (Nat → Value))}
/-- an operation that leaves its world, one value in all of them -/
def YF (P : Program) (ops : Array Oper) (W : World) (o : Oper) (v : Value) (a : Act) : Prop :=
  (Region.wanted o (yielded ops a.tmps) = true ∧ ∀ w, Ab W w → (execOp a.eval o).run P w = .ok (.value v) w) ∨ (Region.wanted o (yielded ops a.tmps) = false ∧ v = undef)
/-- an operation that lays a block -/
def LF (P : Program) (ops : Array Oper) (W : World) (o : Oper) (ob : Obj) (mk : Nat → Value) (a : Act) : Prop :=
  Region.wanted o (yielded ops a.tmps) = true ∧ ∀ w, Ab W w → (execOp a.eval o).run P w = .ok (.value (mk w.heap.size)) (w.alloc ob)
theorem YF.same {o : Oper} {v : Value} {a a' : Act} (h : YF P ops W o v a) (he : execOp a'.eval o = execOp a.eval o) (hw : Region.wanted o (yielded ops a'.tmps) = Region.wanted o (yielded ops a.tmps)) : YF P ops W o v a' := by
  unfold YF at *
  rw [he, hw]
  exact h
theorem LF.same {o : Oper} {ob : Obj} {mk : Nat → Value} {a a' : Act} (h : LF P ops W o ob mk a) (he : execOp a'.eval o = execOp a.eval o) (hw : Region.wanted o (yielded ops a'.tmps) = Region.wanted o (yielded ops a.tmps)) : LF P ops W o ob mk a' := by
  unfold LF at *
  rw [he, hw]
  exact h
theorem YF.one {o : Oper} {v u : Value} {a : Act} (h : YF P ops W o v a) (k : YF P ops W o u a) : v = u := by
  rcases h with ⟨w1, h⟩ | ⟨w1, rfl⟩
  · rcases k with ⟨_, k⟩ | ⟨w2, _⟩
    · have := (h W (Ab.refl W)).symm.trans (k W (Ab.refl W))
      injection this with e
      injection e
    · rw [w1] at w2; cases w2
  · rcases k with ⟨w2, _⟩ | ⟨_, rfl⟩
    · rw [w1] at w2; cases w2
    · rfl
def fOp (P : Program) (ops : Array Oper) (W : World) (sp : Nat → Option (Obj × (Nat → Value))) (i : Nat) (K : Act → (Nat → Option Nat) → Prop) (a : Act) (S : Nat → Option Nat) : Prop :=
  match ops[i]? with
  | none => K a S
  | some o =>
    match sp i with
    | none => ∃ v, YF P ops W o v a ∧ K (a.put o.dst v) S
    | some (ob, mk) => LF P ops W o ob mk a ∧ ∀ b, Fresh W S b → K (a.put o.dst (mk b)) (putL S i b)
theorem fOp_mono {i : Nat} {K K' : Act → (Nat → Option Nat) → Prop} {a : Act} {S : Nat → Option Nat} (h : ∀ a S, K a S → K' a S) (hh : fOp P ops W sp i K a S) : fOp P ops W sp i K' a S := by
  unfold fOp at *
  cases ho : ops[i]? with
  | none => simp only [ho] at hh ⊢; exact h _ _ hh
  | some o =>
    cases hs : sp i with
    | none =>
      simp only [ho, hs] at hh ⊢
      obtain ⟨v, h1, h2⟩ := hh
      exact ⟨v, h1, h _ _ h2⟩
    | some x =>
      simp only [ho, hs] at hh ⊢
      exact ⟨hh.1, fun b hb => h _ _ (hh.2 b hb)⟩
/-- whatever order is picked from here on -/
def wpAnyF (P : Program) (md : Region.Mode) (ops : Array Oper) (W : World) (sp : Nat → Option (Obj × (Nat → Value))) (Q : Act → (Nat → Option Nat) → Prop) : Nat → Array Bool → Act → (Nat → Option Nat) → Prop
  | 0, listed, a, S => Region.ready md ops listed = [] ∧ Q a S
  | fuel + 1, listed, a, S =>
    (Region.ready md ops listed = [] → Q a S) ∧
    ∀ i ∈ Region.ready md ops listed, fOp P ops W sp i (wpAnyF P md ops W sp Q fuel (listed.setIfInBounds i true)) a S
/-- what isn't done has laid nothing; what is laid ends somewhere -/
def Tidy (W : World) (listed : Array Bool) (S : Nat → Option Nat) : Prop := (∀ k, listed.getD k true = false → S k = none) ∧ ∃ n, W.heap.size ≤ n ∧ ∀ i c, S i = some c → c < n
theorem Tidy.fresh {listed : Array Bool} {S : Nat → Option Nat} (h : Tidy W listed S) : ∃ b, Fresh W S b := by
  obtain ⟨_, n, h1, h2⟩ := h
  exact ⟨n, h1, fun i c e => by have := h2 i c e; omega⟩
theorem Tidy.set {listed : Array Bool} {S : Nat → Option Nat} (h : Tidy W listed S) (j : Nat) : Tidy W (listed.setIfInBounds j true) S :=
  ⟨fun k hk => by
    by_cases e : j = k
    · subst e
      by_cases l : j < listed.size
      · simp [l] at hk
      · exact h.1 j (by rw [Array.setIfInBounds_eq_of_size_le (by omega)] at hk; exact hk)
    · rw [getD_set_ne true e] at hk; exact h.1 k hk, h.2⟩
theorem Tidy.lay {listed : Array Bool} {S : Nat → Option Nat} (h : Tidy W listed S) {j : Nat} (hj : listed.getD j true = false) (b : Nat) : Tidy W (listed.setIfInBounds j true) (putL S j b) := by
  obtain ⟨h1, n, h2, h3⟩ := h
  refine ⟨fun k hk => ?_, max n (b + 1), by omega, fun i c e => ?_⟩
  · by_cases e : j = k
    · subst e
      by_cases l : j < listed.size
      · simp [l] at hk
      · simp [l] at hj
    · rw [getD_set_ne true e] at hk
      unfold putL
      rw [if_neg (Ne.symm e)]
      exact h1 k hk
  · unfold putL at e
    by_cases q : i = j
    · rw [if_pos q] at e; injection e with e; omega
    · rw [if_neg q] at e; have := h3 i c e; omega
/-- one operation apart from another, which leaves its world: it may come first -/
theorem fOp_putY {j : Nat} {oi oj : Oper} {v : Value} (hj : ops[j]? = some oj) (hap : oi.apart ops oj = true) (hsi : ∀ cs b, oi.op ≠ .select cs b) (hsj : ∀ cs b, oj.op ≠ .select cs b)
    {K : Act → (Nat → Option Nat) → Prop} {a : Act} {S : Nat → Option Nat} (hy : YF P ops W oi v a) (h : fOp P ops W sp j K (a.put oi.dst v) S) :
    fOp P ops W sp j (fun a' S' => YF P ops W oi v a' ∧ K (a'.put oi.dst v) S') a S := by
  obtain ⟨h1, h2, h3⟩ := Oper.apart_spec hap
  have keep : ∀ u, YF P ops W oi v (a.put oj.dst u) := fun u => hy.same (execOp_put oi hsi a oj.dst u h3) (wanted_put oi a oj.dst u h3)
  unfold fOp at *
  cases hs : sp j with
  | none =>
    simp only [hj, hs] at h ⊢
    obtain ⟨u, hu, hk⟩ := h
    exact ⟨u, hu.same (execOp_put oj hsj a oi.dst v h1).symm (wanted_put oj a oi.dst v h1).symm, keep u, by rw [← Act.put_comm a v u h2]; exact hk⟩
  | some x =>
    simp only [hj, hs] at h ⊢
    exact ⟨h.1.same (execOp_put oj hsj a oi.dst v h1).symm (wanted_put oj a oi.dst v h1).symm, fun b hb => ⟨keep _, by rw [← Act.put_comm a v _ h2]; exact h.2 b hb⟩⟩
/-- .. which lays a block -/
theorem fOp_putL {i j : Nat} {oi oj : Oper} {ob : Obj} {mk : Nat → Value} (hij : i ≠ j) (hj : ops[j]? = some oj) (hap : oi.apart ops oj = true) (hsi : ∀ cs b, oi.op ≠ .select cs b) (hsj : ∀ cs b, oj.op ≠ .select cs b)
    {K : Act → (Nat → Option Nat) → Prop} {a : Act} {S : Nat → Option Nat} (hf : ∃ b, Fresh W S b) (hSj : S j = none) (hy : LF P ops W oi ob mk a) (h : ∀ b, Fresh W S b → fOp P ops W sp j K (a.put oi.dst (mk b)) (putL S i b)) :
    fOp P ops W sp j (fun a' S' => LF P ops W oi ob mk a' ∧ ∀ b, Fresh W S' b → K (a'.put oi.dst (mk b)) (putL S' i b)) a S := by
  obtain ⟨h1, h2, h3⟩ := Oper.apart_spec hap
  have keep : ∀ u, LF P ops W oi ob mk (a.put oj.dst u) := fun u => hy.same (execOp_put oi hsi a oj.dst u h3) (wanted_put oi a oj.dst u h3)
  obtain ⟨b0, hb0⟩ := hf
  unfold fOp at *
  cases hs : sp j with
  | none =>
    simp only [hj, hs] at h ⊢
    obtain ⟨u, hu, _⟩ := h b0 hb0
    have hu' : YF P ops W oj u a := hu.same (execOp_put oj hsj a oi.dst _ h1).symm (wanted_put oj a oi.dst _ h1).symm
    refine ⟨u, hu', keep u, fun b hb => ?_⟩
    obtain ⟨u2, hu2, hk⟩ := h b hb
    have e : u2 = u := YF.one (hu2.same (execOp_put oj hsj a oi.dst _ h1).symm (wanted_put oj a oi.dst _ h1).symm) hu'
    subst e
    rw [← Act.put_comm a (mk b) u2 h2]
    exact hk
  | some x =>
    simp only [hj, hs] at h ⊢
    refine ⟨(h b0 hb0).1.same (execOp_put oj hsj a oi.dst _ h1).symm (wanted_put oj a oi.dst _ h1).symm, fun c hc => ⟨keep _, fun b hb => ?_⟩⟩
    obtain ⟨q1, q2⟩ := hb.of_put hSj
    have := (h b q1).2 c (hc.put (Ne.symm q2))
    rw [putL_comm S b c hij, Act.put_comm a (mk b) _ h2] at this
    exact this
theorem firstY {Q : Act → (Nat → Option Nat) → Prop} {i : Nat} {oi : Oper} {v : Value} (hi : ops[i]? = some oi) (hsp : sp i = none) (hsel : ∀ (j : Nat) (o : Oper) cs b, ops[j]? = some o → o.op ≠ .select cs b) :
    ∀ (fuel : Nat) (listed : Array Bool) (a : Act) (S : Nat → Option Nat),
      (∀ j oj, ops[j]? = some oj → j ≠ i → listed.getD j true = false → (∀ e ∈ oj.after, Region.binds md e = true → e.on ≠ i) → oi.apart ops oj = true) →
      i ∈ Region.ready md ops listed → YF P ops W oi v a →
      wpAnyF P md ops W sp Q fuel (listed.setIfInBounds i true) (a.put oi.dst v) S → wpAnyF P md ops W sp Q (fuel + 1) listed a S := by
  have go : ∀ (K : Act → (Nat → Option Nat) → Prop) (a : Act) (S : Nat → Option Nat), YF P ops W oi v a → K (a.put oi.dst v) S → fOp P ops W sp i K a S := fun K a S hy h => by
    unfold fOp; simp only [hi, hsp]; exact ⟨v, hy, h⟩
  intro fuel
  induction fuel with
  | zero =>
    intro listed a S _ hr hy H
    refine ⟨fun h => (by rw [h] at hr; cases hr), fun j hj => ?_⟩
    by_cases hji : j = i
    · subst hji; exact go _ _ _ hy H
    · have := ready_mono hj hji
      rw [H.1] at this
      cases this
  | succ fuel ih =>
    intro listed a S hfree hr hy H
    refine ⟨fun h => (by rw [h] at hr; cases hr), fun j hj => ?_⟩
    by_cases hji : j = i
    · subst hji; exact go _ _ _ hy H
    · have h1 := H.2 j (ready_mono hj hji)
      obtain ⟨hjun, oj, hoj, hall⟩ := mem_ready.1 hj
      have hnot : ∀ e ∈ oj.after, Region.binds md e = true → e.on ≠ i := fun e he hb heq => by
        have h1 := hall e he hb
        have h0 := (mem_ready.1 hr).1
        rw [heq] at h1
        rcases Nat.lt_or_ge i listed.size with h' | h'
        · simp [h'] at h0 h1; rw [h0] at h1; cases h1
        · simp [Array.getElem?_eq_none h'] at h1
      have h2 := fOp_putY hoj (hfree j oj hoj hji hjun hnot) (fun cs b => hsel i oi cs b hi) (fun cs b => hsel j oj cs b hoj) hy h1
      have hfree' : ∀ k ok, ops[k]? = some ok → k ≠ i → (listed.setIfInBounds j true).getD k true = false →
          (∀ e ∈ ok.after, Region.binds md e = true → e.on ≠ i) → oi.apart ops ok = true := fun k ok hk hki hun hno => by
        refine hfree k ok hk hki ?_ hno
        by_cases hjk : j = k
        · subst hjk; exact hjun
        · rw [getD_set_ne true hjk] at hun; exact hun
      refine fOp_mono (fun a' S' h3 => ih (listed.setIfInBounds j true) a' S' hfree' (ready_mono hr (Ne.symm hji)) h3.1 ?_) h2
      rw [Array.setIfInBounds_comm _ _ hji]
      exact h3.2
theorem firstL {Q : Act → (Nat → Option Nat) → Prop} {i : Nat} {oi : Oper} {ob : Obj} {mk : Nat → Value} (hi : ops[i]? = some oi) (hsp : sp i = some (ob, mk)) (hsel : ∀ (j : Nat) (o : Oper) cs b, ops[j]? = some o → o.op ≠ .select cs b) :
    ∀ (fuel : Nat) (listed : Array Bool) (a : Act) (S : Nat → Option Nat), Tidy W listed S →
      (∀ j oj, ops[j]? = some oj → j ≠ i → listed.getD j true = false → (∀ e ∈ oj.after, Region.binds md e = true → e.on ≠ i) → oi.apart ops oj = true) →
      i ∈ Region.ready md ops listed → LF P ops W oi ob mk a →
      (∀ b, Fresh W S b → wpAnyF P md ops W sp Q fuel (listed.setIfInBounds i true) (a.put oi.dst (mk b)) (putL S i b)) → wpAnyF P md ops W sp Q (fuel + 1) listed a S := by
  have go : ∀ (K : Act → (Nat → Option Nat) → Prop) (a : Act) (S : Nat → Option Nat), LF P ops W oi ob mk a → (∀ b, Fresh W S b → K (a.put oi.dst (mk b)) (putL S i b)) → fOp P ops W sp i K a S := fun K a S hy h => by
    unfold fOp; simp only [hi, hsp]; exact ⟨hy, h⟩
  intro fuel
  induction fuel with
  | zero =>
    intro listed a S ty _ hr hy H
    refine ⟨fun h => (by rw [h] at hr; cases hr), fun j hj => ?_⟩
    by_cases hji : j = i
    · subst hji; exact go _ _ _ hy H
    · obtain ⟨b, hb⟩ := ty.fresh
      have := ready_mono hj hji
      rw [(H b hb).1] at this
      cases this
  | succ fuel ih =>
    intro listed a S ty hfree hr hy H
    refine ⟨fun h => (by rw [h] at hr; cases hr), fun j hj => ?_⟩
    by_cases hji : j = i
    · subst hji; exact go _ _ _ hy H
    · have h1 := fun b hb => (H b hb).2 j (ready_mono hj hji)
      obtain ⟨hjun, oj, hoj, hall⟩ := mem_ready.1 hj
      have hnot : ∀ e ∈ oj.after, Region.binds md e = true → e.on ≠ i := fun e he hb heq => by
        have h1 := hall e he hb
        have h0 := (mem_ready.1 hr).1
        rw [heq] at h1
        rcases Nat.lt_or_ge i listed.size with h' | h'
        · simp [h'] at h0 h1; rw [h0] at h1; cases h1
        · simp [Array.getElem?_eq_none h'] at h1
      have hap := hfree j oj hoj hji hjun hnot
      have hfree' : ∀ k ok, ops[k]? = some ok → k ≠ i → (listed.setIfInBounds j true).getD k true = false →
          (∀ e ∈ ok.after, Region.binds md e = true → e.on ≠ i) → oi.apart ops ok = true := fun k ok hk hki hun hno => by
        refine hfree k ok hk hki ?_ hno
        by_cases hjk : j = k
        · subst hjk; exact hjun
        · rw [getD_set_ne true hjk] at hun; exact hun
      have h2 := fOp_putL (Ne.symm hji) hoj hap (fun cs b => hsel i oi cs b hi) (fun cs b => hsel j oj cs b hoj) ty.fresh (ty.1 j hjun) hy h1
      -- what j leaves is tidy
      have h4 : fOp P ops W sp j (fun a' S' => Tidy W (listed.setIfInBounds j true) S' ∧ LF P ops W oi ob mk a' ∧ ∀ b, Fresh W S' b → wpAnyF P md ops W sp Q fuel ((listed.setIfInBounds i true).setIfInBounds j true) (a'.put oi.dst (mk b)) (putL S' i b)) a S := by
        unfold fOp at h2 ⊢
        cases hs : sp j with
        | none =>
          simp only [hoj, hs] at h2 ⊢
          obtain ⟨u, hu, hk⟩ := h2
          exact ⟨u, hu, ty.set j, hk⟩
        | some x =>
          simp only [hoj, hs] at h2 ⊢
          exact ⟨h2.1, fun b hb => ⟨ty.lay hjun b, h2.2 b hb⟩⟩
      refine fOp_mono (fun a' S' h3 => ih (listed.setIfInBounds j true) a' S' h3.1 hfree' (ready_mono hr (Ne.symm hji)) h3.2.1 (fun b hb => ?_)) h4
      rw [Array.setIfInBounds_comm _ _ hji]
      exact h3.2.2 b hb
/-- the walk in the order of the text -/
def wpFree (P : Program) (ops : Array Oper) (W : World) (sp : Nat → Option (Obj × (Nat → Value))) (Q : Act → (Nat → Option Nat) → Prop) : List Oper → Nat → Act → (Nat → Option Nat) → Prop
  | [], _, a, S => Q a S
  | o :: rest, k, a, S =>
    match sp k with
    | none => ∃ v, YF P ops W o v a ∧ wpFree P ops W sp Q rest (k + 1) (a.put o.dst v) S
    | some (ob, mk) => LF P ops W o ob mk a ∧ ∀ b, Fresh W S b → wpFree P ops W sp Q rest (k + 1) (a.put o.dst (mk b)) (putL S k b)
theorem wpAnyF_lex {Q : Act → (Nat → Option Nat) → Prop} (hs : Region.noSelect ops = true) : ∀ (l : List Oper) (k : Nat) (listed : Array Bool) (a : Act) (S : Nat → Option Nat), (∀ j, l[j]? = ops[k + j]?) → Tidy W listed S →
    Region.lexFrom md ops l.length k listed = true → wpFree P ops W sp Q l k a S → wpAnyF P md ops W sp Q l.length listed a S
  | [], _, _, _, _, _, _, hB, h => ⟨by simpa [Region.lexFrom] using hB, h⟩
  | o :: l, k, listed, a, S, hl, ty, hB, h => by
    have h0 : ops[k]? = some o := by simpa using (hl 0).symm
    simp only [List.length_cons, Region.lexFrom, Bool.and_eq_true] at hB
    obtain ⟨⟨hr, hf⟩, hB'⟩ := hB
    have hr' : k ∈ Region.ready md ops listed := by simpa using hr
    have hl' : ∀ j, l[j]? = ops[k + 1 + j]? := fun j => by have := hl (j + 1); simpa [Nat.add_assoc, Nat.add_comm 1 j] using this
    cases hsp : sp k with
    | none =>
      simp only [wpFree, hsp] at h
      obtain ⟨v, hy, hK⟩ := h
      exact firstY h0 hsp (Region.noSelect_spec hs) l.length listed a S (Region.free_spec h0 hf) hr' hy
        (wpAnyF_lex hs l (k + 1) _ _ _ hl' (ty.set k) hB' hK)
    | some x =>
      obtain ⟨ob, mk⟩ := x
      simp only [wpFree, hsp] at h
      exact firstL h0 hsp (Region.noSelect_spec hs) l.length listed a S ty (Region.free_spec h0 hf) hr' h.1
        (fun b hb => wpAnyF_lex hs l (k + 1) _ _ _ hl' (ty.lay (mem_ready.1 hr').1 b) hB' (h.2 b hb))
theorem wpOp_of_fOp {i : Nat} {a : Act} {S : Nat → Option Nat} {K : Act → (Nat → Option Nat) → Prop} {K' : Act → World → Prop} {Q' : Exit → Act → World → Prop} {w : World} (hC : Has W sp S w) (h : ∀ a S w', Has W sp S w' → K a S → K' a w') (hh : fOp P ops W sp i K a S) : wpOp P ops Q' i K' a w := by
  unfold fOp at hh
  unfold wpOp
  cases ho : ops[i]? with
  | none => simp only [ho] at hh ⊢; exact h _ _ _ hC hh
  | some o =>
    cases hs : sp i with
    | none =>
      simp only [ho, hs] at hh ⊢
      obtain ⟨v, hy, hk⟩ := hh
      rcases hy with ⟨w1, hv⟩ | ⟨w1, rfl⟩
      · rw [if_pos w1]
        refine .inl ?_
        unfold Oper.wp
        rw [hv w hC.1]
        exact h _ _ _ hC hk
      · rw [if_neg (by rw [w1]; exact Bool.false_ne_true)]
        exact h _ _ _ hC hk
    | some x =>
      obtain ⟨ob, mk⟩ := x
      simp only [ho, hs] at hh ⊢
      obtain ⟨⟨w1, hv⟩, hk⟩ := hh
      rw [if_pos w1]
      refine .inl ?_
      unfold Oper.wp
      rw [hv w hC.1]
      exact h _ _ _ (hC.lay hs) (hk _ hC.fresh)
end
/-- each of the first n operations is done as in the whole region -/
theorem fOp_head {P : Program} {md : Region.Mode} {ops hd : Array Oper} {W : World} {sp : Nat → Option (Obj × (Nat → Value))} {n : Nat} (hhd : ∀ i, i < n → hd[i]? = ops[i]?) (hb : backB md ops n = true) {i : Nat} (hi : i < n) {K : Act → (Nat → Option Nat) → Prop} {a : Act} {S : Nat → Option Nat} (h : fOp P hd W sp i K a S) : fOp P ops W sp i K a S := by
  unfold fOp at *
  rw [hhd i hi] at h
  cases ho : ops[i]? with
  | none => rw [ho] at h; exact h
  | some o =>
    have e : Region.wanted o (yielded hd a.tmps) = Region.wanted o (yielded ops a.tmps) := by
      unfold Region.wanted
      cases hg : o.guard with
      | none => rfl
      | some jb =>
        obtain ⟨j, b⟩ := jb
        have lt := (back_spec hb hi ho).2 j b hg
        show (yielded hd a.tmps j == some b) = (yielded ops a.tmps j == some b)
        unfold yielded
        rw [hhd j lt]
    simp only [ho] at h ⊢
    cases hs : sp i with
    | none =>
      simp only [hs] at h ⊢
      unfold YF at *
      rw [e] at h
      exact h
    | some x =>
      simp only [hs] at h ⊢
      unfold LF at *
      rw [e] at h
      exact h
theorem wpAny_of_headF {P : Program} {md : Region.Mode} {ops hd : Array Oper} {W : World} {sp : Nat → Option (Obj × (Nat → Value))} {n : Nat} {g : Nat} {Q1 : Act → (Nat → Option Nat) → Prop} {Q' : Exit → Act → World → Prop} (hhd : ∀ i, i < n → hd[i]? = ops[i]?) (hsz : hd.size = n) (hn : n < ops.size) (hb : backB md ops n = true) (hs : Region.sinkB md ops n = true) (hc : Region.chainB md ops n = true)
    (hL : ∀ a S w, Has W sp S w → Q1 a S → wpAny P md ops Q' g (finA ops.size n) a w) :
    ∀ (fuel : Nat) (listed lh : Array Bool) (a : Act) (S : Nat → Option Nat) (w : World), Has W sp S w → HeadInv md ops n listed → lh.size = n → (∀ i, i < n → lh.getD i true = listed.getD i true) →
      wpAnyF P md hd W sp Q1 fuel lh a S → wpAny P md ops Q' (fuel + g) listed a w := by
  intro fuel
  induction fuel with
  | zero =>
    intro listed lh a S w hC inv hl he h
    have hls : n ≤ listed.size := by rw [inv.size]; omega
    rcases some_ready (by omega) hb hls with all | ⟨i, hi, hr⟩
    · rw [Nat.zero_add, fin_of hn inv all]
      exact hL a S w hC h.2
    · have := (ready_head hhd hb hl hls he hi).2 hr
      rw [h.1] at this
      cases this
  | succ fuel ih =>
    intro listed lh a S w hC inv hl he h
    have hls : n ≤ listed.size := by rw [inv.size]; omega
    rcases some_ready (by omega) hb hls with all | ⟨i0, hi0, hr0⟩
    · have no : Region.ready md hd lh = [] := by
        rw [List.eq_nil_iff_forall_not_mem]
        intro i hi
        obtain ⟨u, o, ho, _⟩ := mem_ready.1 hi
        have lt : i < n := by rw [← hsz]; exact (Array.getElem?_eq_some_iff.1 ho).1
        rw [he i lt, all i lt] at u
        cases u
      rw [Nat.add_comm (fuel + 1) g, fin_of hn inv all]
      exact wpAny_more g (fuel + 1) _ a w (hL a S w hC (h.1 no))
    · rw [show fuel + 1 + g = (fuel + g) + 1 by omega]
      refine ⟨fun h0 => (by rw [h0] at hr0; cases hr0), fun i hi => ?_⟩
      have lt : i < n := by
        by_cases c : i < n
        · exact c
        · exact absurd hi (tail_waits hs hc hn inv _ i0 rfl hi0 (mem_ready.1 hr0).1 i (by omega))
      have hq := fOp_head hhd hb lt (h.2 i ((ready_head hhd hb hl hls he lt).2 hi))
      refine wpOp_of_fOp hC (fun a' S' w' hC' h' => ih _ _ a' S' w' hC' (inv.set hi lt) (by simp [hl]) (fun j hj => ?_) h') hq
      by_cases e : i = j
      · subst e
        simp [hl, lt, show i < listed.size by omega]
      · rw [getD_set_ne true e, getD_set_ne true e, he j hj]
/-- a region of which the first n operations lay blocks or leave the world, and the others wait for all ahead of them -/
theorem region_free {P : Program} {id : Nat} {Q : Exit → Act → World → Prop} {a : Act} {w : World} {l : List Oper} (n : Nat) (sp : Nat → Option (Obj × (Nat → Value))) (hm : P.follows .mixedOrders = true) (hB : Region.lexB .any (l.take n).toArray = true) (hT : tailB l.toArray n = true)
    (h : wpFree P (l.take n).toArray w.drew sp (fun a' S => ∀ w', Has w.drew sp S w' → wpList P l.toArray Q (l.drop n) a' w') (l.take n) 0 a (fun _ => none)) : (Code.region id l.toArray true).wp P Q a w := by
  simp only [tailB, Bool.and_eq_true, decide_eq_true_eq] at hT
  obtain ⟨⟨⟨⟨hn, hb⟩, hs⟩, hc⟩, hq⟩ := hT
  have hn' : n < l.length := by simpa using hn
  have htl : (l.take n).toArray.size = n := by simp; omega
  have hdl : (l.drop n).length = l.toArray.size - n := by simp
  refine wp_region_any hm ?_
  simp only [Region.lexB, Bool.and_eq_true] at hB
  have H := wpAnyF_lex (P := P) (W := w.drew) (sp := sp) (md := .any) hB.1 (l.take n) 0 (Array.replicate (l.take n).toArray.size false) a (fun _ => none) (by simp) ⟨fun _ _ => rfl, w.drew.heap.size, Nat.le_refl _, fun i c e => by cases e⟩ (by simpa using hB.2) h
  have inv0 : HeadInv .any l.toArray n (Array.replicate l.toArray.size false) :=
    ⟨by simp, fun j oj _ hl => (by rw [getD_replicate_false] at hl; cases hl), fun t _ ht => getD_in (by simpa using ht) (getD_replicate_false _ _)⟩
  have := wpAny_of_headF (P := P) (Q' := Q) (g := l.toArray.size - n) (hd := (l.take n).toArray) (ops := l.toArray) (fun i hi => by simp [hi]) htl hn hb hs hc
    (fun a' S' w' hC' h' => by
      have := wpAny_of_seq (P := P) (md := .any) (ops := l.toArray) (Q' := Q) (l.drop n) n (finA l.toArray.size n) a' w' (fun j => by simp) (by rw [hdl]; exact hq) (h' w' hC')
      rwa [hdl] at this)
    (l.take n).length _ _ a (fun _ => none) w.drew ⟨Ab.refl _, fun i b e => by cases e⟩ inv0 (by simpa using htl) (fun i hi => by
      rw [getD_in (listed := Array.replicate l.toArray.size false) (by simp; omega) (getD_replicate_false _ _)]
      exact getD_in (by rw [Array.size_replicate]; omega) (getD_replicate_false _ _)) H
  have e : (l.take n).length + (l.toArray.size - n) = l.toArray.size := by simp; omega
  rw [e] at this
  exact this
end Go.Proofs.YtdigecacmibkpaaGreatDoor

namespace Go.Proofs.YtdigecacmibkpaaGreatDoor
open Go.RowKit
/-- operations that yield a value, and enter no function -/
def plainB : Op → Bool
  | .move _ | .assign _ | .pick _ _ _ | .build _ _ | .load _ _ | .binOp _ _ _ _ _ | .unOp _ _ _ | .convert _ _ _ | .slice _ _ _ _ _ | .fieldAddr _ _ _ | .field _ _ _ | .indexAddr _ _ _ | .index _ _ _ | .extract _ _ => true
  | _ => false
theorem val_only {P : Program} {s : Sem Value} {w w' : World} {n : Next} (e : (do pure (Next.value (← s)) : Sem Next).run P w = .ok n w') : ∃ x, n = .value x := by
  rw [Sem.run_bind] at e
  cases h : s.run P w with
  | ok x w1 =>
    rw [h] at e
    simp at e
    exact ⟨x, e.1.symm⟩
  | halt x w1 => rw [h] at e; simp at e
theorem val_only2 {P : Program} {α : Type} {s : Sem α} {f : α → Value} {w w' : World} {n : Next} (e : ((s.run P w).andThen fun x w => Result.ok (Next.value (f x)) w) = .ok n w') : ∃ x, n = .value x := by
  cases h : s.run P w with
  | ok x w1 =>
    rw [h] at e
    simp at e
    exact ⟨f x, e.1.symm⟩
  | halt x w1 => rw [h] at e; simp at e
theorem plain_value {P : Program} {ρ : Operand → Value} {o : Oper} {w w' : World} {n : Next} (h : plainB o.op = true) (e : (execOp ρ o).run P w = .ok n w') : ∃ x, n = .value x := by
  unfold execOp at e
  cases ho : o.op <;> rw [ho] at h e <;> first | (simp [plainB] at h; done) | exact val_only e | (simp at e; first | exact ⟨_, e.1.symm⟩ | exact val_only2 (f := fun b => if b = true then ρ _ else ρ _) e)
section
variable {P : Program} {ops : Array Oper} {W : World} {sp : Nat → Option (Obj × (Nat → Value))} {Q : Act → (Nat → Option Nat) → Prop} {o : Oper} {rest : List Oper} {k : Nat} {a : Act} {S : Nat → Option Nat}
theorem wpFree_one {U : Type} {F : U → World} (HF : Hid (∀ w', Ab W w' → ∃ u, w' = F u)) (hs : sp k = none) (hp : plainB o.op = true) (h : wpQuiet P ops (fun w' => ∃ u, w' = F u) (fun a' => wpFree P ops W sp Q rest (k + 1) a' S) [o] a) : wpFree P ops W sp Q (o :: rest) k a S := by
  simp only [wpFree, hs]
  simp only [wpQuiet] at h
  by_cases c : Region.wanted o (yielded ops a.tmps) = true
  · rw [if_pos c] at h
    obtain ⟨v, h1, h2⟩ := h
    refine ⟨v, .inl ⟨c, fun w hw => ?_⟩, h2⟩
    have q := h1 w (HF.out w hw)
    unfold Oper.quietAt at q
    cases e : (execOp a.eval o).run P w with
    | ok n w' =>
      obtain ⟨x, rfl⟩ := plain_value hp e
      rw [e] at q
      obtain ⟨q1, q2⟩ := q
      rw [q1, q2]
    | halt x w' => rw [e] at q; exact absurd q (by simp [Oper.quietUpon])
  · rw [if_neg c] at h
    exact ⟨undef, .inr ⟨by simpa using c, rfl⟩, h⟩
theorem wpFree_lay {ob : Obj} {mk : Nat → Value} (hs : sp k = some (ob, mk)) (hw : Region.wanted o (yielded ops a.tmps) = true) (hr : ∀ w, Ab W w → (execOp a.eval o).run P w = .ok (.value (mk w.heap.size)) (w.alloc ob))
    (h : ∀ b, Fresh W S b → wpFree P ops W sp Q rest (k + 1) (a.put o.dst (mk b)) (putL S k b)) : wpFree P ops W sp Q (o :: rest) k a S := by
  simp only [wpFree, hs]
  exact ⟨⟨hw, hr⟩, h⟩
theorem run_val {s : Sem Value} {w w' : World} {x : Value} (h : s.run P w = .ok x w') : (do pure (Next.value (← s)) : Sem Next).run P w = .ok (.value x) w' := by
  rw [Sem.run_bind, h]
  rfl
theorem lay_make {t : TypeId} {x y : Operand} {vx vy : Value} {mk : Nat → Value} {ob : Obj} (ho : o.op = .makeSlice t x y) (hx : a.eval x = vx) (hy : a.eval y = vy) (M : ∀ w : World, (Instr.makeSlice t vx vy).run P w = .ok (mk w.heap.size) (w.alloc ob)) :
    ∀ w, Ab W w → (execOp a.eval o).run P w = .ok (.value (mk w.heap.size)) (w.alloc ob) := by
  intro w _
  unfold execOp
  rw [ho]
  simp only [hx, hy]
  exact run_val (M w)
theorem lay_alloc {t : TypeId} {mk : Nat → Value} {ob : Obj} (ho : o.op = .alloc t) (M : ∀ w : World, (Instr.alloc t true (.tuple #[])).run P w = .ok (mk w.heap.size) (w.alloc ob)) :
    ∀ w, Ab W w → (execOp a.eval o).run P w = .ok (.value (mk w.heap.size)) (w.alloc ob) := by
  intro w _
  unfold execOp
  rw [ho]
  exact run_val (M w)
theorem wpFree_nil (h : Q a S) : wpFree P ops W sp Q [] k a S := h
end
theorem Has.at {W : World} {sp : Nat → Option (Obj × (Nat → Value))} {S : Nat → Option Nat} {w : World} (h : Has W sp S w) {i b : Nat} {ob : Obj} {mk : Nat → Value} (e : S i = some b) (s : sp i = some (ob, mk)) : w.heap[b]? = some ob ∧ W.heap.size ≤ b := by
  obtain ⟨h1, o, m, h2, h3⟩ := h.2 i b e
  rw [s] at h2
  injection h2 with h2
  injection h2 with h2
  subst h2
  exact ⟨h3, h1⟩
end Go.Proofs.YtdigecacmibkpaaGreatDoor

namespace Go.Proofs.YtdigecacmibkpaaGreatDoor
open Go.RowKit Tf Cu Go.Deep
attribute [local go_sem] run_bits run_from raw_feq raw_fne raw_flt raw_fgt run_neg run_store_float
/-- the water of the flat sea -/
def lkW (i : Nat) : Int := if i = 1 then 2863311530 else 1431655765
theorem ar13 : ∀ c, c < 6 → arI (ArC 1 c) = 1431655765 := by decide +kernel
/-- behind c rounds, the waters being f -/
def LkR (w : World) (gd g4 b1 b2 b3 b4 : Nat) (f : Nat → Int) (v : World) : Prop :=
  Ab w v ∧ v.heap[g4]? = some (.cells #[.slice (some ⟨b1, 0, none⟩) 6 6, .slice (some ⟨b2, 0, none⟩) 6 6, .slice (some ⟨b3, 0, none⟩) 6 6, .slice (some ⟨b4, 0, none⟩) 12 12, .int .i64 0, .int .i64 0] 33) ∧ v.heap[gd]? = some (.cells #[.slice none 0 0, .slice none 0 0, .slice none 0 0, .slice none 0 0, .int .i64 0, .int .i64 0] 33) ∧ v.rowIs b1 22 6 (fun _ => .float .f64 0) ∧ v.rowIs b2 2 6 (fun i => .int .i64 (f i)) ∧ v.rowIs b3 2 6 (fun _ => .int .i64 0) ∧ v.rowIs b4 22 12 (fun _ => .float .f64 0)
def LkI (w : World) (gd g4 b1 b2 b3 b4 c : Nat) (v : World) : Prop := LkR w gd g4 b1 b2 b3 b4 (fun i => if i < c then lkW i else 0) v
theorem LkR.to2 {w : World} {gd g4 b1 b2 b3 b4 : Nat} {f : Nat → Int} {v v' : World} (h : LkR w gd g4 b1 b2 b3 b4 f v) (a : Ab v v') : LkR w gd g4 b1 b2 b3 b4 f v' := by
  obtain ⟨h1, h2, h3, h4, h5, h6, h7⟩ := h
  exact ⟨h1.trans a, a.heap h2, a.heap h3, rowIs.ab h4 a, rowIs.ab h5 a, rowIs.ab h6 a, rowIs.ab h7 a⟩
theorem LkI.to {w : World} {gd g4 b1 b2 b3 b4 c : Nat} {v v' : World} (h : LkI w gd g4 b1 b2 b3 b4 c v) (a : Ab v v') : LkR w gd g4 b1 b2 b3 b4 (fun i => if i < c then lkW i else 0) v' := LkR.to2 h a
theorem LkR.set {w : World} {gd g4 b1 b2 b3 b4 : Nat} {f : Nat → Int} {v : World} (h : LkR w gd g4 b1 b2 b3 b4 f v) (nn : g4 ≠ b2 ∧ b1 ≠ b2 ∧ b3 ≠ b2 ∧ b4 ≠ b2 ∧ b1 ≠ b4 ∧ b3 ≠ b4) (hl : gd + 1 ≤ b1 ∧ gd + 1 ≤ b2 ∧ gd + 1 ≤ b3 ∧ gd + 1 ≤ b4 ∧ gd + 1 ≤ g4) (c : Nat) (x : Int) (hw : w.heap.size ≤ gd) : LkR w gd g4 b1 b2 b3 b4 (fun i => if i = c then x else f i) (v.setCell ⟨b2, c, none⟩ (.int .i64 x)) := by
  obtain ⟨h1, h2, h3, h4, h5, h6, h7⟩ := h
  refine ⟨h1.setk (by omega) _, by rw [heap_set_ne nn.1]; exact h2, by rw [heap_set_ne (by omega)]; exact h3, h4.setOther nn.2.1 _, (h5.set c _).congr (fun i _ => ?_), h6.setOther nn.2.2.1 _, h7.setOther nn.2.2.2.1 _⟩
  by_cases e : i = c
  · simp [e]
  · simp [e]
end Go.Proofs.YtdigecacmibkpaaGreatDoor

namespace Go.Proofs.YtdigecacmibkpaaGreatDoor
open Tf Ieee Cu
def wdF (s : Bool) (r : Nat) : Nat := bif s then 9223372036854775808 + r else r
theorem cw (c : Bool) (r : Nat) (h1 : 1 ≤ r) (h2 : r ≤ 9218868437227405312) : wdF c r = canonB (if c = true then 9223372036854775808 + r else r) := by
  cases c
  · have hm : mg r = r := mg_of_lt (by omega)
    unfold wdF canonB
    rw [cond_false, if_neg Bool.false_ne_true, if_neg (by rw [isN_true, hm]; omega), if_neg (by rw [hm]; omega)]
  · have hm : mg (9223372036854775808 + r) = r := by unfold mg; omega
    unfold wdF canonB
    rw [cond_true, if_pos rfl, if_neg (by rw [isN_true, hm]; omega), if_neg (by rw [hm]; omega)]
end Go.Proofs.YtdigecacmibkpaaGreatDoor

namespace Go.Proofs.YtdigecacmibkpaaGreatDoor
open Tf Ieee Cu
/-- a point's own length -/
def nl (n : Nat) (v : P3) : Nat := lnB (px n v) (py n v) (pz n v)
/-- the area of the cell of face 0 -/
def a0 (n : Nat) (k h : Int) : Nat := ar n (n, k, h) (n, k + 2, h) (n, k + 2, h + 2) (n, k, h + 2)
end Go.Proofs.YtdigecacmibkpaaGreatDoor
