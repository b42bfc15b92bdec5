/-
  The statement on sums that are scaled, and on whole numbers: a walk over the program.
-/
import Derived.Test.YtpnijbdoceladaaHd
import Derived.Deep.AppendLies
import Derived.OwnWalk
namespace Go.Proofs.Ytpnijbdoceladaa
open Go.RowKit Tf
attribute [local go_sem] run_bits run_from raw_feq raw_fne raw_flt raw_fgt

theorem info_f64 : (Try.prog.info? 30).map (fun i => (i.zero, i.size, i.bytes)) = some (some (.float .f64 0), 1, 8) := by kernel_rfl
/-- a list of the call's own, of so many floats -/
def OwnF (B : Nat) (v : Value) (l : List Nat) (w : World) : Prop := w.ownsRow B 30 1 v l.length (l.map (Value.float .f64))
theorem own_fl {B : Nat} {v : Value} {l : List Nat} {w : World} (h : OwnF B v l w) (hl : ∀ x ∈ l, x < 18446744073709551616) : ∃ a0 cap, v = .slice a0 l.length cap ∧ IsFl w a0 l.length (fun j => l.getD j 0) := by
  rcases h.2 with ⟨rfl, h0⟩ | ⟨g, cap, cur, rfl, hb, hg, h1, h2, h3, h4⟩
  · refine ⟨none, 0, by rw [h0], fun k hk => by omega⟩
  · refine ⟨some ⟨g, 0, none⟩, cap, rfl, fun k hk => ?_⟩
    have hc := World.ownsRow.cells h (g := g) rfl k (.float .f64 l[k]) (by simp [hk])
    have e : l.getD k 0 = l[k] := by simp [hk]
    have ha : (⟨g, 0, none⟩ : Addr).add k = ⟨g, k, none⟩ := by unfold Addr.add; split <;> simp_all
    rw [ha] at hc
    refine ⟨by simp only [e]; exact hl _ (List.getElem_mem hk), g, 0, rfl, row_lt hg, ?_⟩
    rw [Nat.zero_add]; simp only [e]; exact hc
/-- two lists that lie apart -/
def Apart (v u : Value) : Prop := ∀ g, v.ownBlock = some g → u.ownBlock ≠ some g

theorem apart_new {v u : Value} {l m : List Nat} {B : Nat} {w : World} (h : Apart v u) (_hv : OwnF B v l w) (hu : OwnF B u m w) (g n c : Nat) (hg : v.ownBlock = some g ∨ w.heap.size ≤ g) : Apart (.slice (some ⟨g, 0, none⟩) n c) u := by
  intro g' e
  simp [Value.ownBlock] at e
  subst e
  rcases hg with hg | hg
  · exact h g hg
  · intro e
    have := (World.ownsRow.lt hu g e).2
    omega
theorem Apart.symm {v u : Value} (h : Apart v u) : Apart u v := fun g e f => h g f e
theorem own_new (w : World) (B : Nat) (hB : B ≤ w.heap.size) : OwnF B (.slice (some ⟨w.heap.size, 0, none⟩) 0 0) [] (w.alloc (.cells #[] 30)) :=
  ⟨by simp, .inr ⟨w.heap.size, 0, #[], rfl, hB, heap_alloc_new _ _, Nat.le_refl _, by unfold maxLen; omega, by simp, by simp⟩⟩
theorem OwnF.alloc {B : Nat} {v : Value} {l : List Nat} {w : World} (h : OwnF B v l w) (o : Obj) : OwnF B v l (w.alloc o) := World.ownsRow.alloc h o
theorem OwnF.grown {B : Nat} {v u : Value} {l : List Nat} {w w' : World} (h : OwnF B u l w) (hg : w.grownBy w' v.ownBlock) (ha : Apart v u) : OwnF B u l w' := by
  refine World.ownsRow.kept h hg ?_
  cases hu : u.ownBlock with
  | none => exact Or.inl rfl
  | some g =>
    right
    intro e
    exact ha g e.symm hu
theorem own_push {B : Nat} {v : Value} {l : List Nat} {w : World} {x : Nat} (h : w.ownsRow B 30 1 v (l.length + 1) (l.map (Value.float .f64) ++ [.float .f64 x])) : OwnF B v (l ++ [x]) w := by
  unfold OwnF
  rw [List.length_append, List.map_append]
  exact h
theorem one_cells (x : Nat) : ∀ u ∈ [Value.float .f64 x], u.oneCell' = true := by
  intro u hu; simp at hu; subst hu; rfl
theorem one_cell {w : World} {x : Nat} (j : Nat) (u : Value) (h : [Value.float .f64 x][j]? = some u) (T : TypeId) : (w.alloc (.cells #[.float .f64 x] T)).cell? ((⟨w.heap.size, 0, none⟩ : Addr).add j) = some u := by
  match j, h with
  | 0, h => simp at h; subst h; simp [Addr.add]

theorem foi (n : Int) : floatOfInt .f64 n = rn false (n * one) := ofInt_d n
theorem int_ok (n : Int) (h : n.natAbs ≤ 9007199254740992) : okF (rn false (n * one)) ∧ sv (rn false (n * one)) = n * one := by
  have hab : (n * (one : Int)).natAbs = n.natAbs * one := by rw [Int.natAbs_mul, Int.natAbs_natCast]
  obtain ⟨r, hr, hr2⟩ := rep_one n.natAbs h
  have hD : isD (n * one) := ⟨r, by rw [hab]; exact hr⟩
  have ht : (n * (one : Int)).natAbs < top := by
    rw [hab, ← hr]
    exact mv_lt.2 (by omega)
  obtain ⟨h1, h2⟩ := rn_exact false (n * one) hD ht
  refine ⟨⟨rn_lt _ _, h1, ?_⟩, h2⟩
  rintro ⟨h3, h4⟩
  have h5 : n * (one : Int) = 0 := by rw [← h2]; exact zero_sv _ h3
  rw [h5, rn_zero] at h4
  exact absurd h4 (by decide)
theorem tmod40 (v : Int) : (v.tmod 1099511627776).natAbs < 1099511627776 := by
  rw [Int.natAbs_tmod]
  exact Nat.mod_lt _ (by decide)
/-- A LIST OF WHOLE NUMBERS -/
def IsIn (w : World) (a0 : Option Addr) (len : Nat) (ns : Nat → Int) : Prop := ∀ k, k < len → (-9223372036854775808 ≤ ns k ∧ ns k ≤ 9223372036854775807) ∧ ∃ b o, a0 = some ⟨b, o, none⟩ ∧ b < w.heap.size ∧ w.cell? ⟨b, o + k, none⟩ = some (.int .i64 (ns k))
/-- what one append does, to one list -/
theorem pushed1 {v : Value} {l : List Nat} {w0 wr w' : World} {x g c : Nat} {O : Obj} (hv : OwnF w0.heap.size v l wr) (hb : Below w0.heap.size w0 wr)
    (o : w'.ownsRow w0.heap.size 30 1 (.slice (some ⟨g, 0, none⟩) (l.length + 1) c) (l.length + 1) (l.map (Value.float .f64) ++ [.float .f64 x])) (hg : (wr.alloc O).grownBy w' v.ownBlock) :
    OwnF w0.heap.size (.slice (some ⟨g, 0, none⟩) (l.length + 1) c) (l ++ [x]) w' ∧ Below w0.heap.size w0 w' := by
  refine ⟨own_push o, ?_⟩
  refine (hb.alloc hb.size O).grown hg (by have := hb.size; simp; omega) (fun k hk => ?_)
  exact (World.ownsRow.lt hv k hk).1
/-- what one append does -/
theorem pushed {v u : Value} {l m : List Nat} {w0 wr w' : World} {x g c : Nat} {O : Obj} (hv : OwnF w0.heap.size v l wr) (hu : OwnF w0.heap.size u m wr) (ha : Apart v u) (hb : Below w0.heap.size w0 wr)
    (o : w'.ownsRow w0.heap.size 30 1 (.slice (some ⟨g, 0, none⟩) (l.length + 1) c) (l.length + 1) (l.map (Value.float .f64) ++ [.float .f64 x])) (hg : (wr.alloc O).grownBy w' v.ownBlock) (e : v.ownBlock = some g ∨ g = (wr.alloc O).heap.size) :
    OwnF w0.heap.size (.slice (some ⟨g, 0, none⟩) (l.length + 1) c) (l ++ [x]) w' ∧ OwnF w0.heap.size u m w' ∧ Apart (.slice (some ⟨g, 0, none⟩) (l.length + 1) c) u ∧ Below w0.heap.size w0 w' := by
  refine ⟨own_push o, (hu.alloc O).grown hg ha, apart_new ha hv hu g _ _ ?_, ?_⟩
  · rcases e with e | e
    · exact Or.inl e
    · right; rw [e]; simp
  · refine (hb.alloc hb.size O).grown hg (by have := hb.size; simp; omega) (fun k hk => ?_)
    exact (World.ownsRow.lt hv k hk).1

set_option maxHeartbeats 8000000 in
set_option maxRecDepth 100000 in
theorem sc_go (a1 a2 : Option Addr) (len cap len2 cap2 : Nat) (k : Int) (xs : Nat → Nat) (w : World) (hl : Hid (len ≤ 4096)) (hl2 : (len : Int) ≤ 4096) (hm2 : (len2 : Int) ≤ 4096) (h1 : Hid (IsFl w a1 len xs)) (ns : Nat → Int) (h2 : Hid (IsIn w a2 len2 ns)) (q : Int) (kq pw : Nat) (hq : (IntKind.u64.wrap k).tmod 400 = q) (q0 : 0 ≤ q) (q1 : q < 400) (HQ : Hid (q = kq)) (HP : Hid (((1023 + q) * 4503599627370496).toNat = pw)) (HPW : Hid (pw = (kq + 1023) * 4503599627370496)) :
    Calls Try.prog 7 #[.slice a1 len cap, .slice a2 len2 cap2, .int .i64 k] w fun e w' => e = .returned (.bool true) ∧ Below w.heap.size w w' := by
  obtain ⟨i0, hi, hz0, hz1, hz2⟩ := info_parts info_f64
  have IP := hid (⟨hi, hz0, hz1, hz2⟩ : Try.prog.info? 30 = some i0 ∧ i0.zero = some (.float .f64 0) ∧ i0.size = 1 ∧ i0.bytes = 8)
  clear hi hz0 hz1 hz2
  have AW := hid awake_any
  have RF := hid rawFrom_any
  have RB := hid rawBits_any
  go_enter Try.func7, Try.ntmps7
  go_wp2_with fail
  refine (AW.out _).mono ?_
  rintro e w1 ⟨rfl, b1⟩
  go_wp2_with fail
  refine (RF.out _ _).mono ?_
  rintro e w2 ⟨rfl, rfl⟩
  rw [HP.out]
  have hs := b1.out.size
  have O1 := (own_new w2 w.heap.size hs).alloc (.cells #[] 30)
  have O2 := own_new (w2.alloc (.cells #[] 30)) w.heap.size (by simp; omega)
  have hsz : (w2.alloc (.cells #[] 30)).heap.size = w2.heap.size + 1 := by simp
  rw [hsz] at O2
  have AP : Apart (.slice (some ⟨w2.heap.size, 0, none⟩) 0 0) (.slice (some ⟨w2.heap.size + 1, 0, none⟩) 0 0) := by
    intro g e; simp [Value.ownBlock] at e ⊢; omega
  have B2 : Below w.heap.size w ((w2.alloc (.cells #[] 30)).alloc (.cells #[] 30)) := (b1.out.alloc hs _).alloc (by simp; omega) _
  have O1' := hid O1
  have O2' := hid O2
  have AP' := hid AP
  have B2' := hid B2
  clear O1 O2 AP B2 hs hsz b1
  go_wp2
  go_loopw [9, 10, 11] (fun av bv iv wr => ∃ (i : Nat) (la : List Nat), i ≤ len ∧ iv = .int .i64 (i : Nat) ∧ (∀ x ∈ la, midF x) ∧ la.length ≤ i ∧ OwnF w.heap.size av la wr ∧ OwnF w.heap.size bv (la.map (· + kq * 4503599627370496)) wr ∧ Apart av bv ∧ Below w.heap.size w wr) (fun _ _ iv _ => len - (intOf iv).toNat)
  case atStart => exact ⟨0, [], by omega, rfl, by simp, by simp, O1'.out, O2'.out, AP'.out, B2'.out⟩
  case round =>
    clear O1' O2' AP' B2'
    obtain ⟨i, la, hi, rfl, hla, hll, oa, ob, ap, bel⟩ := hrel
    have hl' := hl.out
    by_cases hil : i < len
    · obtain ⟨x0, b, o, ea, hb, cx⟩ := h1.out i hil
      have cx2 : wr.cell? ⟨b, o + i, none⟩ = some (.float .f64 (xs i)) := by rw [bel.cell (p := ⟨b, o + i, none⟩) hb]; exact cx
      subst ea
      have il : ((i : Nat) : Int) < len := by omega
      have i2 : ((i : Nat) : Int) < 4096 := by omega
      have HX := hid x0
      have HB := hid hb
      have HI := hid hil
      have HLA := hid hla
      have HLL := hid hll
      have OA := hid oa
      have OB := hid ob
      have AP := hid ap
      have BE := hid bel
      obtain ⟨x, hx⟩ : ∃ x, xs i = x := ⟨_, rfl⟩
      rw [hx] at cx2 HX
      obtain ⟨e, he⟩ : ∃ e : Int, ((x : Nat) : Int) / 4503599627370496 % 2048 = e := ⟨_, rfl⟩
      have HE := hid he
      have e0 : 0 ≤ e := by omega
      clear hb cx x0 hl' hil hi hla hll oa ob ap bel hx
      by_cases hm : 723 < e ∧ e < 1323
      · obtain ⟨m1, m2⟩ := hm
        have hmid : midF x := ⟨HX.out, by have := HE.out; have := HX.out; unfold mg; omega, by have := HE.out; have := HX.out; unfold mg; omega⟩
        have hmul := fun (ty : TypeId) (w : World) => run_float_arith (P := Try.prog) w .mul ty .f64 x pw (x + kq * 4503599627370496) (by
          rw [HPW.out]
          exact mul_pow x kq (by have := HQ.out; omega) HX.out (by have := hmid.2.1; omega) (by have := hmid.2.2; have := HQ.out; omega))
        have HM := hid hmid
        obtain ⟨y, hy⟩ : ∃ y, x + kq * 4503599627370496 = y := ⟨_, rfl⟩
        rw [hy] at hmul
        have HY := hid hy
        clear hmid hy
        go_wp2_with fail
        refine (RB.out _ _).mono ?_
        rintro e' w3 ⟨rfl, rfl⟩
        have hlen : la.length < 4096 := by have := HLL.out; omega
        have hlb : (la.map (· + kq * 4503599627370496)).length = la.length := by simp
        have HLB := hid hlb
        have hbs := BE.out.size
        have HBS := hid hbs
        clear hlb hbs
        go_wp2_with (first
          | (at_builtin; refine wpList_append_lies _ rfl (.tmp 67) (.tmp 72) 43 rfl w.heap.size 30 i0 (.float .f64 0) 1 8 Try.underlying43 IP.out.1 IP.out.2.1 IP.out.2.2.1 IP.out.2.2.2 rfl (by decide) _ _ _ rfl (World.ownsRow.alloc OA.out _) ⟨w3.heap.size, 0, none⟩ 1 1 [.float .f64 x] rfl rfl (fun j u h => one_cell j u h _) (one_cells x) (by decide) (by unfold maxLen; omega) (by omega) (by have := HBS.out; simp; omega) _ rfl ?_; intro g1 c1 w4 o4 g4 e4 l4; have R1 := hid (pushed OA.out OB.out AP.out BE.out o4 g4 e4); have cx4 : w4.cell? ⟨b, o + i, none⟩ = some (.float .f64 x) := (R1.out.2.2.2.cell (p := ⟨b, o + i, none⟩) HB.out).trans ((BE.out.cell (p := ⟨b, o + i, none⟩) HB.out).symm.trans cx2); clear o4 g4 e4 l4)
          | (at_builtin; refine wpList_append_lies _ rfl (.tmp 74) (.tmp 81) 43 rfl w.heap.size 30 i0 (.float .f64 0) 1 8 Try.underlying43 IP.out.1 IP.out.2.1 IP.out.2.2.1 IP.out.2.2.2 rfl (by decide) _ _ _ rfl (World.ownsRow.alloc R1.out.2.1 _) ⟨w4.heap.size, 0, none⟩ 1 1 [.float .f64 y] rfl rfl (fun j u h => one_cell j u h _) (one_cells y) (by decide) (by have := HLB.out; unfold maxLen; omega) (by have := HLB.out; omega) (by have := R1.out.2.2.2.size; simp; omega) _ rfl ?_; intro g2 c2 w5 o5 g5 e5 l5; have R2 := hid (pushed R1.out.2.1 R1.out.1 R1.out.2.2.1.symm R1.out.2.2.2 o5 g5 e5); clear o5 g5 e5 l5 cx4))
        refine ⟨⟨i + 1, la ++ [x], HI.out, by simp, ?_, by have := HLL.out; simp; omega, R2.out.2.1, ?_, ?_, R2.out.2.2.2⟩, by have := HI.out; simp [intOf]; omega⟩
        · intro z hz
          rcases List.mem_append.1 hz with hz | hz
          · exact HLA.out z hz
          · simp at hz; rw [hz]; exact HM.out
        · have h := R2.out.1
          rw [HLB.out] at h
          rw [List.map_append]
          show OwnF _ _ (_ ++ [x + kq * 4503599627370496]) _
          rw [HY.out]; exact h
        · have h := R2.out.2.2.1.symm
          rw [HLB.out] at h; exact h
      · have hm' : e ≤ 723 ∨ 1323 ≤ e := by omega
        rcases hm' with m1 | m1
        · go_wp2_with fail
          refine (RB.out _ _).mono ?_
          rintro e' w3 ⟨rfl, rfl⟩
          go_wp2
          refine ⟨⟨i + 1, la, HI.out, by simp, HLA.out, by have := HLL.out; omega, OA.out, OB.out, AP.out, BE.out⟩, by have := HI.out; simp [intOf]; omega⟩
        · go_wp2_with fail
          refine (RB.out _ _).mono ?_
          rintro e' w3 ⟨rfl, rfl⟩
          go_wp2
          refine ⟨⟨i + 1, la, HI.out, by simp, HLA.out, by have := HLL.out; omega, OA.out, OB.out, AP.out, BE.out⟩, by have := HI.out; simp [intOf]; omega⟩
    · have e : i = len := by omega
      subst e
      have il : decide (((i : Nat) : Int) < (i : Nat)) = false := by simp
      have hlen : la.length ≤ 4096 := by omega
      have hk : kq < 400 := by have := HQ.out; omega
      have hlb : (la.map (· + kq * 4503599627370496)).length = la.length := by simp
      obtain ⟨t, ht1, ht2⟩ := scaled la hla hlen kq hk
      have okb : ∀ z ∈ la.map (· + kq * 4503599627370496), okF z := by
        intro z hz
        obtain ⟨y, hy, rfl⟩ := List.mem_map.1 hz
        have hm := hla y hy
        obtain ⟨s1, s2, s3, _⟩ := sv_scaled y kq hm.1 (by have := hm.2.1; omega) (by have := hm.2.2; omega)
        exact ⟨s3, by rw [s1]; have := hm.2.2; omega, fun e => by rw [s1] at e; have := hm.2.1; omega⟩
      obtain ⟨aa, ca, rfl, fa⟩ := own_fl oa (fun z hz => (hla z hz).1)
      obtain ⟨ab, cb, rfl, fb⟩ := own_fl ob (fun z hz => (okb z hz).1)
      have va := val_list la (fun z hz => mid_ok z (hla z hz))
      have vb := val_list _ okb
      have S1 := hid (sum_at aa la.length ca _ wr (by omega) fa)
      rw [va] at S1
      have S2 := hid (fun (W : World) (hW : Below wr.heap.size wr W) => sum_at ab _ cb _ W (by rw [hlb]; omega) (fb.below hW))
      rw [vb, ht2] at S2
      have hmul := fun (ty : TypeId) (w : World) => run_float_arith (P := Try.prog) w .mul ty .f64 (rn false (svL la)) pw t (by rw [HPW.out]; exact ht1)
      have RS := hid same_self
      have BE := hid bel
      obtain ⟨lb, hlb2⟩ : ∃ n, (la.map (· + kq * 4503599627370496)).length = n := ⟨_, rfl⟩
      rw [hlb2] at S2 ⊢
      obtain ⟨r1, hr1⟩ : ∃ r, rn false (svL la) = r := ⟨_, rfl⟩
      rw [hr1] at S1 hmul
      obtain ⟨nla, hnla⟩ : ∃ n, la.length = n := ⟨_, rfl⟩
      rw [hnla] at S1 ⊢
      clear hlb hlb2 hr1 hnla ht1 ht2 okb fa fb va vb oa ob ap hla hll hl' hil hi bel hlen hk
      go_wp2_with fail
      refine S1.out.mono ?_
      rintro e w3 ⟨rfl, b3⟩
      have B3 : Hid (Below w.heap.size w w3) := BE.out.trans (b3.out.mono BE.out.size)
      have S3 := hid (S2.out w3 b3.out)
      clear S1 S2 b3 BE
      go_wp2_with fail
      refine S3.out.mono ?_
      rintro e w4 ⟨rfl, b4⟩
      have B4 : Hid (Below w.heap.size w w4) := B3.out.trans (b4.out.mono B3.out.size)
      clear S3 b4 B3
      go_wp2_with fail
      refine (RS.out _ _).mono ?_
      rintro e w5 ⟨rfl, rfl⟩
      have hs5 := B4.out.size
      have O5 := hid (own_new w5 w.heap.size hs5)
      have B5 : Hid (Below w.heap.size w (w5.alloc (.cells #[] 30))) := B4.out.alloc hs5 _
      clear hs5 B4 hmul
      go_wp2
      go_loopw [17, 18, 19] (fun cv tv iv wr => ∃ (j : Nat) (lc : List Nat) (T : Int), j ≤ len2 ∧ iv = .int .i64 (j : Nat) ∧ tv = .int .i64 T ∧ OwnF w.heap.size cv lc wr ∧ svL lc = T * one ∧ (∀ x ∈ lc, okF x) ∧ lc.length = j ∧ T.natAbs ≤ j * 1099511627776 ∧ Below w.heap.size w wr) (fun _ _ iv _ => len2 - (intOf iv).toNat)
      case atStart => exact ⟨0, [], 0, by omega, rfl, rfl, O5.out, by simp [svL], by simp, rfl, by simp, B5.out⟩
      case round =>
        clear O5 B5
        obtain ⟨j, lc, T, hj, rfl, rfl, oc, hsv, hok, hlj, hT, bel⟩ := hrel
        by_cases hjl : j < len2
        · obtain ⟨⟨n0, n1⟩, b, o, ea, hb, cx⟩ := h2.out j hjl
          have cx2 : wr.cell? ⟨b, o + j, none⟩ = some (.int .i64 (ns j)) := by rw [bel.cell (p := ⟨b, o + j, none⟩) hb]; exact cx
          subst ea
          have jl : ((j : Nat) : Int) < len2 := by omega
          have j2 : ((j : Nat) : Int) < 4096 := by omega
          have htm := tmod40 (ns j)
          obtain ⟨n, hn⟩ : ∃ n, (ns j).tmod 1099511627776 = n := ⟨_, rfl⟩
          rw [hn] at htm
          obtain ⟨io, isv⟩ := int_ok n (by omega)
          have hcv := fun (w : World) => run_convert_int_float (P := Try.prog) w 2 30 .i64 .f64 n (by kernel_rfl) (by kernel_rfl)
          rw [foi] at hcv
          obtain ⟨y, hy⟩ : ∃ y, rn false (n * (one : Int)) = y := ⟨_, rfl⟩
          rw [hy] at hcv io isv
          obtain ⟨v, hv⟩ : ∃ v, ns j = v := ⟨_, rfl⟩
          rw [hv] at cx2 hn n0 n1
          have n2 : -1099511627776 < n := by omega
          have n3 : n < 1099511627776 := by omega
          have t1 : -4503599627370496 ≤ T := by omega
          have t2 : T ≤ 4503599627370496 := by omega
          have OC := hid oc
          have HSV := hid hsv
          have HOK := hid hok
          have HLJ := hid hlj
          have HT := hid hT
          have BE := hid bel
          have HIO := hid io
          have HIS := hid isv
          have HJ := hid hjl
          have hlc : lc.length < 4096 := by omega
          have HBS := hid bel.size
          have HTM := hid htm
          clear oc hsv hok hlj hT bel io isv hjl hj hb cx htm hy hv
          go_wp2_with ((at_builtin; refine wpList_append_lies _ rfl (.tmp 114) (.tmp 117) 43 rfl w.heap.size 30 i0 (.float .f64 0) 1 8 Try.underlying43 IP.out.1 IP.out.2.1 IP.out.2.2.1 IP.out.2.2.2 rfl (by decide) _ _ _ rfl (World.ownsRow.alloc OC.out _) ⟨wr.heap.size, 0, none⟩ 1 1 [.float .f64 y] rfl rfl (fun j u h => one_cell j u h _) (one_cells y) (by decide) (by unfold maxLen; omega) (by omega) (by have := HBS.out; simp; omega) _ rfl ?_; intro g1 c1 w6 o6 g6 e6 l6; have R1 := hid (pushed1 OC.out BE.out o6 g6); clear o6 g6 e6 l6))
          refine ⟨⟨j + 1, lc ++ [y], T + n, HJ.out, by simp, rfl, R1.out.1, ?_, ?_, by rw [List.length_append, HLJ.out]; rfl, ?_, R1.out.2⟩, by have := HJ.out; simp [intOf]; omega⟩
          · rw [svL_append, HSV.out, HIS.out, Int.add_mul]
          · intro z hz
            rcases List.mem_append.1 hz with hz | hz
            · exact HOK.out z hz
            · simp at hz; rw [hz]; exact HIO.out
          · have := HT.out; have := HTM.out; omega
        · have e : j = len2 := by omega
          subst e
          have jl : decide (((j : Nat) : Int) < (j : Nat)) = false := by simp
          obtain ⟨ac, cc, rfl, fc⟩ := own_fl oc (fun z hz => (hok z hz).1)
          have vc := val_list lc hok
          rw [hsv] at vc
          have S1 := hid (sum_at ac lc.length cc _ wr (by omega) fc)
          rw [vc] at S1
          have hcv := fun (w : World) => run_convert_int_float (P := Try.prog) w 2 30 .i64 .f64 T (by kernel_rfl) (by kernel_rfl)
          rw [foi] at hcv
          have hfe := feq_own (rn false (T * (one : Int))) (isN_rn _ _) (rn_lt _ _)
          obtain ⟨y, hy⟩ : ∃ y, rn false (T * (one : Int)) = y := ⟨_, rfl⟩
          rw [hy] at hcv hfe S1
          have BE := hid bel
          clear oc hsv hok hlj hT bel hjl hj fc vc hy
          go_wp2_with fail
          refine S1.out.mono ?_
          rintro e w6 ⟨rfl, b6⟩
          have B6 : Hid (Below w.heap.size w w6) := BE.out.trans (b6.out.mono BE.out.size)
          clear b6 BE S1
          go_wp2
          go_ret
          exact ⟨rfl, B6.out⟩
end Go.Proofs.Ytpnijbdoceladaa
