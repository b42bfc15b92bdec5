/-
  Some of the texts of this proof, one behind the other.
-/
import Derived.Test.YtbibhgikmnpbfaaGreatDoorRb13
namespace Go.Proofs.YtbibhgikmnpbfaaGreatDoor
open Go.RowKit Tf Cu Go.Deep
attribute [local go_sem] run_bits run_from raw_feq raw_fne raw_flt raw_fgt run_neg run_store_float
namespace Rv
/-- the cells m from one number on, in order -/
def IsSeg (K : Nat → Nat) (f m : Nat) (l : List Nat) : Prop := l.Pairwise (bf K) ∧ l.Perm (List.range' f m)
theorem seg_mem {K : Nat → Nat} {f m : Nat} {l : List Nat} (h : IsSeg K f m l) {c : Nat} (hc : c ∈ l) : f ≤ c ∧ c < f + m := by
  have := h.2.mem_iff.1 hc
  rw [List.mem_range'_1] at this
  exact this
theorem seg_len {K : Nat → Nat} {f m : Nat} {l : List Nat} (h : IsSeg K f m l) : l.length = m := by rw [h.2.length_eq, List.length_range']
theorem leB_bf {K : Nat → Nat} {a b : Nat} (h : bf K a b) : leB K a b = true := by
  rw [leB_iff]
  unfold bf at h
  omega
theorem leB_lt {K : Nat → Nat} {a b : Nat} (h : a < b) : leB K a b = !decide (K a < K b) := by
  unfold leB
  rcases Nat.lt_trichotomy (K a) (K b) with q | q | q
  · rw [decide_eq_false (show ¬ K b < K a by omega), decide_eq_false (show ¬ K a = K b by omega), decide_eq_true q]
    rfl
  · rw [decide_eq_false (show ¬ K b < K a by omega), decide_eq_true q, decide_eq_true (show a ≤ b by omega), decide_eq_false (show ¬ K a < K b by omega)]
    rfl
  · rw [decide_eq_true q, decide_eq_false (show ¬ K a < K b by omega)]
    rfl
theorem seg_merge {K : Nat → Nat} {f m k : Nat} {a b : List Nat} (ha : IsSeg K f m a) (hb : IsSeg K (f + m) k b) : IsSeg K f (m + k) (a.merge b (leB K)) := by
  have p : (a.merge b (leB K)).Perm (List.range' f (m + k)) := by
    refine (List.merge_perm_append _).trans ((ha.2.append hb.2).trans (List.Perm.of_eq ?_))
    rw [← List.range'_append_1]
  refine ⟨?_, p⟩
  have s : (a.merge b (leB K)).Pairwise (fun x y => leB K x y = true) := List.pairwise_merge (fun x y z h1 h2 => by
    rw [leB_iff] at *
    omega) (fun x y => by
    rw [Bool.or_eq_true, leB_iff, leB_iff]
    omega) _ _ (ha.1.imp leB_bf) (hb.1.imp leB_bf)
  have nd : (a.merge b (leB K)).Pairwise (fun x y => x ≠ y) := p.nodup_iff.2 List.nodup_range'
  refine (s.and nd).imp ?_
  rintro x y ⟨h1, h2⟩
  rw [leB_iff] at h1
  unfold bf
  omega
theorem seg_all {K : Nat → Nat} {n : Nat} {l : List Nat} (h : IsSeg K 0 n l) : l = ordL K n := ord_one ⟨h.1, by rw [List.range_eq_range']; exact h.2⟩
/-- numbers as the program has them -/
def cst (l : List Nat) : List Int := l.map fun c => ((c : Nat) : Int)
theorem cst_len (l : List Nat) : (cst l).length = l.length := List.length_map _
theorem cst_get {l : List Nat} {k : Nat} : (cst l).getD k 0 = ((l.getD k 0 : Nat) : Int) := by
  unfold cst
  simp only [List.getD, List.getElem?_map]
  cases l[k]? <;> rfl
theorem cst_app (l : List Nat) (x : Nat) : cst l ++ [(x : Int)] = cst (l ++ [x]) := by
  unfold cst
  rw [List.map_append]
  rfl
theorem mg_a {K : Nat → Nat} {A Bl out M : List Nat} {i j : Nat} (hi : i < A.length) (h : out ++ (A.drop i).merge (Bl.drop j) (leB K) = M) (hc : Bl.length ≤ j ∨ ∃ hj : j < Bl.length, leB K (A[i]) (Bl[j]) = true) : (out ++ [A.getD i 0]) ++ (A.drop (i + 1)).merge (Bl.drop j) (leB K) = M := by
  have e : A.drop i = A[i] :: A.drop (i + 1) := List.drop_eq_getElem_cons hi
  have g : A.getD i 0 = A[i] := by simp [List.getD, hi]
  rw [g, ← h, e]
  rcases hc with q | ⟨hj, q⟩
  · rw [List.drop_eq_nil_of_le q, List.merge_right, List.merge_right, List.append_assoc]
    rfl
  · have e2 : Bl.drop j = Bl[j] :: Bl.drop (j + 1) := List.drop_eq_getElem_cons hj
    rw [e2, List.cons_merge_cons, if_pos q, List.append_assoc]
    rfl
theorem mg_b {K : Nat → Nat} {A Bl out M : List Nat} {i j : Nat} (hj : j < Bl.length) (h : out ++ (A.drop i).merge (Bl.drop j) (leB K) = M) (hc : A.length ≤ i ∨ ∃ hi : i < A.length, leB K (A[i]) (Bl[j]) = false) : (out ++ [Bl.getD j 0]) ++ (A.drop i).merge (Bl.drop (j + 1)) (leB K) = M := by
  have e : Bl.drop j = Bl[j] :: Bl.drop (j + 1) := List.drop_eq_getElem_cons hj
  have g : Bl.getD j 0 = Bl[j] := by simp [List.getD, hj]
  rw [g, ← h, e]
  rcases hc with q | ⟨hi, q⟩
  · rw [List.drop_eq_nil_of_le q, List.nil_merge, List.nil_merge, List.append_assoc]
    rfl
  · have e2 : A.drop i = A[i] :: A.drop (i + 1) := List.drop_eq_getElem_cons hi
    rw [e2, List.cons_merge_cons, if_neg (by rw [q]; decide), List.append_assoc]
    rfl
set_option maxRecDepth 100000 in
set_option maxHeartbeats 16000000 in
theorem rmerged_go (pb : Option Addr) (N cb : Nat) (B : Nat → Nat) (pa : Option Addr) (ca : Nat) (A : List Nat) (pq : Option Addr) (cq : Nat) (Bl : List Nat) (w : World) (HN : Hid (N ≤ 65536 ∧ A.length ≤ 65536 ∧ Bl.length ≤ 65536)) (IB : Hid (IsFl w pb N B)) (IA : Hid (Sh.IsI w pa A.length (fun k => ((A.getD k 0 : Nat) : Int)))) (IQ : Hid (Sh.IsI w pq Bl.length (fun k => ((Bl.getD k 0 : Nat) : Int))))
    (HA : Hid (∀ c ∈ A, c < N)) (HQ : Hid (∀ c ∈ Bl, c < N)) (HX : Hid (∀ a ∈ A, ∀ b ∈ Bl, a < b)) :
    Calls Tryz.prog 77 #[.slice pb N cb, .slice pa A.length ca, .slice pq Bl.length cq] w fun e w' => ∃ v, e = .returned v ∧ Below w.heap.size w w' ∧ OT 3 w.heap.size v (cst (A.merge Bl (leB (kB B)))) w' := by
  obtain ⟨la, hla⟩ : ∃ x, A.length = x := ⟨_, rfl⟩
  obtain ⟨lq, hlq⟩ : ∃ x, Bl.length = x := ⟨_, rfl⟩
  obtain ⟨M, hM⟩ : ∃ x, A.merge Bl (leB (kB B)) = x := ⟨_, rfl⟩
  have HM : Hid (([] : List Nat) ++ (A.drop 0).merge (Bl.drop 0) (leB (kB B)) = M) := hM
  have LA := hid hla
  have LQ := hid hlq
  have O0 : Hid (OT 3 w.heap.size (.slice none 0 0) (cst []) w) := ⟨by simp [cst], .inl ⟨rfl, rfl⟩⟩
  rw [hla, hlq] at HN
  rw [hla] at IA
  rw [hlq] at IQ
  rw [hM, hla, hlq]
  obtain ⟨g0, hg0⟩ : ∃ g, w.heap.size = g := ⟨_, rfl⟩
  have HG := hid hg0
  rw [hg0] at O0
  clear hM hla hlq hg0
  have News : Hid (∀ (v : World) (x : Nat) (j : Nat) (u : Value), (([(x : Int)] : List Int).map (Value.int .i64))[j]? = some u → (v.alloc (.cells #[.int .i64 (x : Nat)] 3)).cell? ((⟨v.heap.size, 0, none⟩ : Addr).add j) = some u) := fun v x => World.news_of_block (cs := #[.int .i64 (x : Nat)]) (t := 3) (fr := (0, 0)) (heap_alloc_new v _)
  have SZ : Hid (∀ (v : World) (O : Obj), (v.alloc O).heap.size = v.heap.size + 1) := fun v O => by show (v.heap.push O).size = _; simp
  go_enter Tryz.func77, Tryz.ntmps77
  go_wp2
  go_loopw [7, 8, 9] (fun ov iv jv wr => ∃ (i j : Nat) (out : List Nat), (i ≤ la ∧ j ≤ lq ∧ out.length = i + j) ∧ iv = .int .i64 (i : Nat) ∧ jv = .int .i64 (j : Nat) ∧ Ab w wr ∧ OT 3 g0 ov (cst out) wr ∧ out ++ (A.drop i).merge (Bl.drop j) (leB (kB B)) = M) (fun _ iv jv _ => (la - (intOf iv).toNat) + (lq - (intOf jv).toNat))
  case atStart => exact ⟨0, 0, [], ⟨by omega, by omega, rfl⟩, rfl, rfl, Ab.refl w, O0.out, HM.out⟩
  case round =>
    obtain ⟨i, j, out, hij, rfl, rfl, ar, ow, hm⟩ := hrel
    have AR := hid ar
    have OW := hid ow
    have HE := hid hm
    have HIJ := hid hij
    have iB : (i : Int) ≤ 65536 := by have := HN.out; omega
    have jB : (j : Int) ≤ 65536 := by have := HN.out; omega
    have OA := hid (fun (O : Obj) => OW.out.to (bl1 wr O))
    have HZ : Hid (∀ O : Obj, g0 ≤ (wr.alloc O).heap.size) := fun O => by
      have h1 := AR.out.size
      have h2 := SZ.out wr O
      have h3 := HG.out
      omega
    have HL : Hid ((cst out).length + 1 ≤ 1048576) := by have h1 := HIJ.out; have h2 := HN.out; show _ ≤ _; rw [cst_len]; omega
    clear ar ow hm hij O0 HM
    by_cases hi : i < la
    · have HI := hid hi
      have iI : (i : Int) < la := by omega
      have d1 : decide ((i : Int) < (la : Int)) = true := decide_eq_true iI
      have d1n : decide (i < la) = true := decide_eq_true hi
      obtain ⟨qa, oa, rfl⟩ := IA.out.some0 (show 0 < la by omega)
      obtain ⟨x, hx⟩ : ∃ x, A.getD i 0 = x := ⟨_, rfl⟩
      have XA : Hid (∀ v, Ab w v → v.cell? ⟨qa, oa + i, none⟩ = some (.int .i64 (x : Nat))) := fun v a => by
        have h := ((IA.out.below a).at0 hi).2.2
        rw [hx] at h
        exact h
      have xm : x ∈ A := by
        have e : A.getD i 0 = A[i]'(by have := LA.out; omega) := by have := LA.out; simp [List.getD, show i < A.length by omega]
        rw [← hx, e]
        exact List.getElem_mem _
      have xN := HA.out x xm
      have XM := hid xm
      have GX := hid hx
      have NA : Hid (∀ g c w7, OT 3 g0 (.slice (some ⟨g, 0, none⟩) ((cst out).length + 1) c) (cst out ++ [(x : Int)]) w7 → OT 3 g0 (.slice (some ⟨g, 0, none⟩) ((cst out).length + 1) c) (cst (out ++ [x])) w7) := fun g c w7 h => by rw [← cst_app]; exact h
      clear hx xm
      by_cases hj : j < lq
      · have HJ := hid hj
        have jI : (j : Int) < lq := by omega
        have d2 : ((j : Int) == (lq : Int)) = false := by simp; omega
        obtain ⟨qq, oq, rfl⟩ := IQ.out.some0 (show 0 < lq by omega)
        obtain ⟨y, hy⟩ : ∃ x, Bl.getD j 0 = x := ⟨_, rfl⟩
        have YA : Hid (∀ v, Ab w v → v.cell? ⟨qq, oq + j, none⟩ = some (.int .i64 (y : Nat))) := fun v a => by
          have h := ((IQ.out.below a).at0 hj).2.2
          rw [hy] at h
          exact h
        have ym : y ∈ Bl := by
          have e : Bl.getD j 0 = Bl[j]'(by have := LQ.out; omega) := by have := LQ.out; simp [List.getD, show j < Bl.length by omega]
          rw [← hy, e]
          exact List.getElem_mem _
        have yN := HQ.out y ym
        have GY := hid hy
        have XY := HX.out x XM.out y ym
        have NB : Hid (∀ g c w7, OT 3 g0 (.slice (some ⟨g, 0, none⟩) ((cst out).length + 1) c) (cst out ++ [(y : Int)]) w7 → OT 3 g0 (.slice (some ⟨g, 0, none⟩) ((cst out).length + 1) c) (cst (out ++ [y])) w7) := fun g c w7 h => by rw [← cst_app]; exact h
        obtain ⟨qb, ob, rfl⟩ := IB.out.some0 (show 0 < N by omega)
        obtain ⟨fx, hfx⟩ : ∃ z, B x = z := ⟨_, rfl⟩
        obtain ⟨fy, hfy⟩ : ∃ z, B y = z := ⟨_, rfl⟩
        have FX : Hid (∀ v, Ab w v → v.cell? ⟨qb, ob + x, none⟩ = some (.float .f64 fx) ∧ v.cell? ⟨qb, ob + y, none⟩ = some (.float .f64 fy)) := fun v a => ⟨by rw [← hfx]; exact ((IB.out.below a).at0 xN).2.2, by rw [← hfy]; exact ((IB.out.below a).at0 yN).2.2⟩
        have LS := hid (fun v => rless19_at fx fy v (by rw [← hfx]; exact (IB.out x xN).1) (by rw [← hfy]; exact (IB.out y yN).1))
        have LE : Hid (leB (kB B) x y = !decide (kb fx < kb fy)) := by
          have h := leB_lt (K := kB B) XY
          unfold kB at h
          rw [hfx, hfy] at h
          exact h
        have PX : Hid (∃ (hi : i < A.length) (hj : j < Bl.length), A[i] = x ∧ Bl[j] = y) := by
          refine ⟨by have := LA.out; omega, by have := LQ.out; omega, ?_, ?_⟩
          · rw [← GX.out]; have := LA.out; simp [List.getD, show i < A.length by omega]
          · rw [← GY.out]; have := LQ.out; simp [List.getD, show j < Bl.length by omega]
        have xI : (x : Int) < N := by omega
        have xB : (x : Int) ≤ 65536 := by have := HN.out; omega
        have yI : (y : Int) < N := by omega
        have yB : (y : Int) ≤ 65536 := by have := HN.out; omega
        clear hy ym hfx hfy XY xN yN hi hj
        cases dl : decide (kb fx < kb fy) with
        | false =>
          rw [dl] at LS
          have LQ2 : Hid (leB (kB B) x y = true) := by show _ = _; rw [LE.out, dl]; rfl
          have HE2 : Hid ((out ++ [x]) ++ (A.drop (i + 1)).merge (Bl.drop j) (leB (kB B)) = M) := by
            obtain ⟨h1, h2, h3, h4⟩ := PX.out
            have h := mg_a h1 HE.out (.inr ⟨h2, by rw [h3, h4]; exact LQ2.out⟩)
            rwa [GX.out] at h
          go_upto_region 5 with fail
          obtain ⟨UU, E, hF1, hF2⟩ := cls wr
          have HU := hid hF2
          have HU1 := hid hF1
          have y1 : ∀ u, (E u).cell? ⟨qa, oa + i, none⟩ = some (.int .i64 (x : Nat)) := fun u => XA.out _ (AR.out.trans (hF1 u))
          have y2 : ∀ u, (E u).cell? ⟨qq, oq + j, none⟩ = some (.int .i64 (y : Nat)) := fun u => YA.out _ (AR.out.trans (hF1 u))
          have y3 : ∀ u, (E u).cell? ⟨qb, ob + x, none⟩ = some (.float .f64 fx) := fun u => (FX.out _ (AR.out.trans (hF1 u))).1
          have y4 : ∀ u, (E u).cell? ⟨qb, ob + y, none⟩ = some (.float .f64 fy) := fun u => (FX.out _ (AR.out.trans (hF1 u))).2
          have DD0 := HU.out _ (Ab.refl wr).drew
          clear hF1 hF2
          refine region_cls E (by kernel_rfl) (by kernel_rfl) DD0 ?_
          repeat (go_big_quiet_step (first | (go_at_call 50; exact calls_cls HU HU1 (LS.out _)) | (with_reducible rfl)))
          refine wpQuiet_nil ?_
          intro v2 hwz
          obtain ⟨u0, hu⟩ := hwz
          have A2 : Hid (Ab wr v2) := by rw [hu]; exact HU1.out u0
          clear hu u0
          clear HU HU1 DD0 y1 y2 y3 y4
          clear E UU
          have AV : Hid (Ab w v2) := AR.out.trans A2.out
          have OV := hid (OW.out.to A2.out)
          have xc := XA.out v2 AV.out
          go_wp2_with (at_builtin; refine wpList_appN rfl (.tmp 48) (.tmp 53) rfl g0 _ (cst out) rfl (OV.out.to (bl1 v2 (.cells #[.int .i64 (x : Nat)] 3))) ⟨v2.heap.size, 0, none⟩ 1 1 [(x : Int)] rfl rfl (News.out v2 x) (by decide) HL.out (by have h1 := AV.out.size; have h2 := SZ.out v2 (.cells #[.int .i64 (x : Nat)] 3); have h3 := HG.out; omega) ((cst out).length + 1) rfl ?_; intro g7 c7 w7 o7 a7 _ _; have O7 := hid (NA.out _ _ _ o7); have A7 : Hid (Ab w w7) := (AV.out.trans (bl1 v2 (.cells #[.int .i64 (x : Nat)] 3)) : Below _ _ _).grown a7 (by have h1 := AV.out.size; have h2 := SZ.out v2 (.cells #[.int .i64 (x : Nat)] 3); omega) (fun k hk => by have := (World.ownsRow.lt OV.out k hk).1; rw [HG.out]; exact this); clear o7 a7)
          exact ⟨⟨i + 1, j, out ++ [x], by have h1 := HIJ.out; have h2 := HI.out; rw [List.length_append]; exact ⟨by omega, by omega, by simp; omega⟩, by simp, by simp, A7.out, O7.out, HE2.out⟩, by have h2 := HI.out; have h1 := HIJ.out; simp [intOf]; omega⟩
        | true =>
          rw [dl] at LS
          have LQ2 : Hid (leB (kB B) x y = false) := by show _ = _; rw [LE.out, dl]; rfl
          have HE2 : Hid ((out ++ [y]) ++ (A.drop i).merge (Bl.drop (j + 1)) (leB (kB B)) = M) := by
            obtain ⟨h1, h2, h3, h4⟩ := PX.out
            have h := mg_b h2 HE.out (.inr ⟨h1, by rw [h3, h4]; exact LQ2.out⟩)
            rwa [GY.out] at h
          go_upto_region 5 with fail
          obtain ⟨UU, E, hF1, hF2⟩ := cls wr
          have HU := hid hF2
          have HU1 := hid hF1
          have y1 : ∀ u, (E u).cell? ⟨qa, oa + i, none⟩ = some (.int .i64 (x : Nat)) := fun u => XA.out _ (AR.out.trans (hF1 u))
          have y2 : ∀ u, (E u).cell? ⟨qq, oq + j, none⟩ = some (.int .i64 (y : Nat)) := fun u => YA.out _ (AR.out.trans (hF1 u))
          have y3 : ∀ u, (E u).cell? ⟨qb, ob + x, none⟩ = some (.float .f64 fx) := fun u => (FX.out _ (AR.out.trans (hF1 u))).1
          have y4 : ∀ u, (E u).cell? ⟨qb, ob + y, none⟩ = some (.float .f64 fy) := fun u => (FX.out _ (AR.out.trans (hF1 u))).2
          have DD0 := HU.out _ (Ab.refl wr).drew
          clear hF1 hF2
          refine region_cls E (by kernel_rfl) (by kernel_rfl) DD0 ?_
          repeat (go_big_quiet_step (first | (go_at_call 50; exact calls_cls HU HU1 (LS.out _)) | (with_reducible rfl)))
          refine wpQuiet_nil ?_
          intro v2 hwz
          obtain ⟨u0, hu⟩ := hwz
          have A2 : Hid (Ab wr v2) := by rw [hu]; exact HU1.out u0
          clear hu u0
          clear HU HU1 DD0 y1 y2 y3 y4
          clear E UU
          have AV : Hid (Ab w v2) := AR.out.trans A2.out
          have OV := hid (OW.out.to A2.out)
          have xc := YA.out v2 AV.out
          go_wp2_with (at_builtin; refine wpList_appN rfl (.tmp 57) (.tmp 62) rfl g0 _ (cst out) rfl (OV.out.to (bl1 v2 (.cells #[.int .i64 (y : Nat)] 3))) ⟨v2.heap.size, 0, none⟩ 1 1 [(y : Int)] rfl rfl (News.out v2 y) (by decide) HL.out (by have h1 := AV.out.size; have h2 := SZ.out v2 (.cells #[.int .i64 (y : Nat)] 3); have h3 := HG.out; omega) ((cst out).length + 1) rfl ?_; intro g7 c7 w7 o7 a7 _ _; have O7 := hid (NB.out _ _ _ o7); have A7 : Hid (Ab w w7) := (AV.out.trans (bl1 v2 (.cells #[.int .i64 (y : Nat)] 3)) : Below _ _ _).grown a7 (by have h1 := AV.out.size; have h2 := SZ.out v2 (.cells #[.int .i64 (y : Nat)] 3); omega) (fun k hk => by have := (World.ownsRow.lt OV.out k hk).1; rw [HG.out]; exact this); clear o7 a7)
          exact ⟨⟨i, j + 1, out ++ [y], by have h1 := HIJ.out; have h2 := HJ.out; rw [List.length_append]; exact ⟨by omega, by omega, by simp; omega⟩, by simp, by simp, A7.out, O7.out, HE2.out⟩, by have h2 := HJ.out; have h1 := HIJ.out; simp [intOf]; omega⟩
      · have d2 : ((j : Int) == (lq : Int)) = true := by simp; have := HIJ.out; omega
        have HE2 : Hid ((out ++ [x]) ++ (A.drop (i + 1)).merge (Bl.drop j) (leB (kB B)) = M) := by
          have h := mg_a (show i < A.length by have := LA.out; omega) HE.out (.inl (by have := LQ.out; omega))
          rwa [GX.out] at h
        have xI : (x : Int) ≤ 65536 := by have := HN.out; omega
        clear hi hj xN
        go_upto_region 5 with fail
        obtain ⟨UU, E, hF1, hF2⟩ := cls wr
        have HU := hid hF2
        have HU1 := hid hF1
        have DD0 := HU.out _ (Ab.refl wr).drew
        clear hF1 hF2
        refine region_cls E (by kernel_rfl) (by kernel_rfl) DD0 ?_
        repeat (go_big_quiet_step (with_reducible rfl))
        refine wpQuiet_nil ?_
        intro v2 hwz
        obtain ⟨u0, hu⟩ := hwz
        have A2 : Hid (Ab wr v2) := by rw [hu]; exact HU1.out u0
        clear hu u0
        clear HU HU1 DD0 
        clear E UU
        have AV : Hid (Ab w v2) := AR.out.trans A2.out
        have OV := hid (OW.out.to A2.out)
        have xc := XA.out v2 AV.out
        go_wp2_with (at_builtin; refine wpList_appN rfl (.tmp 48) (.tmp 53) rfl g0 _ (cst out) rfl (OV.out.to (bl1 v2 (.cells #[.int .i64 (x : Nat)] 3))) ⟨v2.heap.size, 0, none⟩ 1 1 [(x : Int)] rfl rfl (News.out v2 x) (by decide) HL.out (by have h1 := AV.out.size; have h2 := SZ.out v2 (.cells #[.int .i64 (x : Nat)] 3); have h3 := HG.out; omega) ((cst out).length + 1) rfl ?_; intro g7 c7 w7 o7 a7 _ _; have O7 := hid (NA.out _ _ _ o7); have A7 : Hid (Ab w w7) := (AV.out.trans (bl1 v2 (.cells #[.int .i64 (x : Nat)] 3)) : Below _ _ _).grown a7 (by have h1 := AV.out.size; have h2 := SZ.out v2 (.cells #[.int .i64 (x : Nat)] 3); omega) (fun k hk => by have := (World.ownsRow.lt OV.out k hk).1; rw [HG.out]; exact this); clear o7 a7)
        exact ⟨⟨i + 1, j, out ++ [x], by have h1 := HIJ.out; have h2 := HI.out; rw [List.length_append]; exact ⟨by omega, by omega, by simp; omega⟩, by simp, by simp, A7.out, O7.out, HE2.out⟩, by have h2 := HI.out; have h1 := HIJ.out; simp [intOf]; omega⟩
    · have d1 : decide ((i : Int) < (la : Int)) = false := decide_eq_false (by omega)
      have d1n : decide (i < la) = false := decide_eq_false hi
      have ie : i = la := by have := HIJ.out; omega
      have IE := hid ie
      by_cases hj : j < lq
      · have HJ := hid hj
        have jI : (j : Int) < lq := by omega
        have d3 : decide ((j : Int) < (lq : Int)) = true := decide_eq_true jI
        have d3n : decide (j < lq) = true := decide_eq_true hj
        have d2 : ((j : Int) == (lq : Int)) = false := by simp; omega
        obtain ⟨qq, oq, rfl⟩ := IQ.out.some0 (show 0 < lq by omega)
        obtain ⟨y, hy⟩ : ∃ x, Bl.getD j 0 = x := ⟨_, rfl⟩
        have YA : Hid (∀ v, Ab w v → v.cell? ⟨qq, oq + j, none⟩ = some (.int .i64 (y : Nat))) := fun v a => by
          have h := ((IQ.out.below a).at0 hj).2.2
          rw [hy] at h
          exact h
        have GY := hid hy
        have NB : Hid (∀ g c w7, OT 3 g0 (.slice (some ⟨g, 0, none⟩) ((cst out).length + 1) c) (cst out ++ [(y : Int)]) w7 → OT 3 g0 (.slice (some ⟨g, 0, none⟩) ((cst out).length + 1) c) (cst (out ++ [y])) w7) := fun g c w7 h => by rw [← cst_app]; exact h
        have HE2 : Hid ((out ++ [y]) ++ (A.drop i).merge (Bl.drop (j + 1)) (leB (kB B)) = M) := by
          have h := mg_b (show j < Bl.length by have := LQ.out; omega) HE.out (.inl (by have := LA.out; omega))
          rwa [GY.out] at h
        clear hy hi hj ie
        go_upto_region 5 with fail
        obtain ⟨UU, E, hF1, hF2⟩ := cls wr
        have HU := hid hF2
        have HU1 := hid hF1
        have DD0 := HU.out _ (Ab.refl wr).drew
        clear hF1 hF2
        refine region_cls E (by kernel_rfl) (by kernel_rfl) DD0 ?_
        repeat (go_big_quiet_step (with_reducible rfl))
        refine wpQuiet_nil ?_
        intro v2 hwz
        obtain ⟨u0, hu⟩ := hwz
        have A2 : Hid (Ab wr v2) := by rw [hu]; exact HU1.out u0
        clear hu u0
        clear HU HU1 DD0 
        clear E UU
        have AV : Hid (Ab w v2) := AR.out.trans A2.out
        have OV := hid (OW.out.to A2.out)
        have xc := YA.out v2 AV.out
        go_wp2_with (at_builtin; refine wpList_appN rfl (.tmp 57) (.tmp 62) rfl g0 _ (cst out) rfl (OV.out.to (bl1 v2 (.cells #[.int .i64 (y : Nat)] 3))) ⟨v2.heap.size, 0, none⟩ 1 1 [(y : Int)] rfl rfl (News.out v2 y) (by decide) HL.out (by have h1 := AV.out.size; have h2 := SZ.out v2 (.cells #[.int .i64 (y : Nat)] 3); have h3 := HG.out; omega) ((cst out).length + 1) rfl ?_; intro g7 c7 w7 o7 a7 _ _; have O7 := hid (NB.out _ _ _ o7); have A7 : Hid (Ab w w7) := (AV.out.trans (bl1 v2 (.cells #[.int .i64 (y : Nat)] 3)) : Below _ _ _).grown a7 (by have h1 := AV.out.size; have h2 := SZ.out v2 (.cells #[.int .i64 (y : Nat)] 3); omega) (fun k hk => by have := (World.ownsRow.lt OV.out k hk).1; rw [HG.out]; exact this); clear o7 a7)
        exact ⟨⟨i, j + 1, out ++ [y], by have h1 := HIJ.out; have h2 := HJ.out; rw [List.length_append]; exact ⟨by omega, by omega, by simp; omega⟩, by simp, by simp, A7.out, O7.out, HE2.out⟩, by have h2 := HJ.out; have h1 := HIJ.out; simp [intOf]; omega⟩
      · have d3 : decide ((j : Int) < (lq : Int)) = false := decide_eq_false (by omega)
        have d3n : decide (j < lq) = false := decide_eq_false hj
        have ME : Hid (out = M) := by
          show _ = _
          rw [← HE.out, List.drop_eq_nil_of_le (by have := LA.out; omega), List.drop_eq_nil_of_le (by have := LQ.out; omega), List.nil_merge, List.append_nil]
        clear hi hj ie
        go_wp2
        go_ret
        exact ⟨_, rfl, AR.out, by rw [← ME.out, HG.out]; exact OW.out⟩
theorem rmerged_at (pb : Option Addr) (N cb : Nat) (B : Nat → Nat) (C1 C2 : Nat) (va vq : Value) (A Bl : List Nat) (f m k : Nat) (w : World) (hN : N ≤ 65536) (ib : IsFl w pb N B) (ha : OT 3 C1 va (cst A) w) (hq : OT 3 C2 vq (cst Bl) w) (sa : IsSeg (kB B) f m A) (sq : IsSeg (kB B) (f + m) k Bl) (hb : f + m + k ≤ N) :
    Calls Tryz.prog 77 #[.slice pb N cb, va, vq] w fun e w' => ∃ v, e = .returned v ∧ Below w.heap.size w w' ∧ OT 3 w.heap.size v (cst (A.merge Bl (leB (kB B)))) w' := by
  have bd : ∀ l : List Nat, (∀ c ∈ l, c < N) → ∀ x ∈ cst l, -9223372036854775808 ≤ x ∧ x ≤ 9223372036854775807 := fun l h x hx => by
    obtain ⟨c, hc, rfl⟩ := List.mem_map.1 hx
    have := h c hc
    omega
  have h1 : ∀ c ∈ A, c < N := fun c hc => by have := seg_mem sa hc; omega
  have h2 : ∀ c ∈ Bl, c < N := fun c hc => by have := seg_mem sq hc; omega
  obtain ⟨pa, ca, rfl, ia⟩ := ha.isI (bd A h1)
  obtain ⟨pq, cq, rfl, iq⟩ := hq.isI (bd Bl h2)
  rw [cst_len] at ia iq ⊢
  rw [cst_len]
  have l1 := seg_len sa
  have l2 := seg_len sq
  exact rmerged_go pb N cb B pa ca A pq cq Bl w ⟨hN, by omega, by omega⟩ ib (ia.congr (fun k _ => cst_get)) (iq.congr (fun k _ => cst_get)) h1 h2 (fun a ha b hb => by have := seg_mem sa ha; have := seg_mem sq hb; omega)
set_option maxRecDepth 100000 in
set_option maxHeartbeats 16000000 in
theorem rord_0 (pb : Option Addr) (N cb : Nat) (B : Nat → Nat) (f t : Nat) (w : World) (hf : t = f) (_ht : (t : Int) ≤ 65536) :
    Calls Tryz.prog 46 #[.slice pb N cb, .int .i64 (f : Nat), .int .i64 (t : Nat)] w fun e w' => ∃ v l, e = .returned v ∧ Below w.heap.size w w' ∧ OT 3 w.heap.size v (cst l) w' ∧ IsSeg (kB B) f 0 l := by
  subst hf
  have e0 : (t : Int) - (t : Int) = 0 := by omega
  go_enter Tryz.func46, Tryz.ntmps46
  go_wp2
  go_ret
  exact ⟨_, [], rfl, Below.refl _ _, ⟨by simp [cst], .inl ⟨rfl, rfl⟩⟩, List.Pairwise.nil, List.Perm.refl _⟩
set_option maxRecDepth 100000 in
set_option maxHeartbeats 16000000 in
theorem rord_1 (pb : Option Addr) (N cb : Nat) (B : Nat → Nat) (f t : Nat) (w : World) (hf : t = f + 1) (ht : (f : Int) ≤ 65536) :
    Calls Tryz.prog 46 #[.slice pb N cb, .int .i64 (f : Nat), .int .i64 (t : Nat)] w fun e w' => ∃ v l, e = .returned v ∧ Below w.heap.size w w' ∧ OT 3 w.heap.size v (cst l) w' ∧ IsSeg (kB B) f 1 l := by
  have e0 : (t : Int) - (f : Int) = 1 := by omega
  have t1 : (t : Int) ≤ 65537 := by omega
  clear hf
  go_enter Tryz.func46, Tryz.ntmps46
  go_wp2
  go_ret
  refine ⟨_, [f], rfl, bl1 _ _, ⟨by simp [cst], .inr ⟨w.heap.size, 1, _, rfl, Nat.le_refl _, heap_alloc_new _ _, Nat.le_refl _, by unfold maxLen; omega, by simp, by simp [cst]⟩⟩, List.pairwise_singleton _ _, List.Perm.refl _⟩
set_option maxRecDepth 100000 in
set_option maxHeartbeats 16000000 in
theorem rord_2 (pb : Option Addr) (N cb : Nat) (B : Nat → Nat) (f a b t m : Nat) (w : World) (hN : N ≤ 65536) (IB : Hid (IsFl w pb N B)) (hm : m = f + a) (ht : t = m + b) (htN : t ≤ N) (hab : 2 ≤ a + b) (hh : (a + b) / 2 = a)
    (H1 : Hid (∀ v, Ab w v → Calls Tryz.prog 46 #[.slice pb N cb, .int .i64 (f : Nat), .int .i64 (m : Nat)] v fun e w' => ∃ u l, e = .returned u ∧ Below v.heap.size v w' ∧ OT 3 v.heap.size u (cst l) w' ∧ IsSeg (kB B) f a l))
    (H2 : Hid (∀ v, Ab w v → Calls Tryz.prog 46 #[.slice pb N cb, .int .i64 (m : Nat), .int .i64 (t : Nat)] v fun e w' => ∃ u l, e = .returned u ∧ Below v.heap.size v w' ∧ OT 3 v.heap.size u (cst l) w' ∧ IsSeg (kB B) m b l)) :
    Calls Tryz.prog 46 #[.slice pb N cb, .int .i64 (f : Nat), .int .i64 (t : Nat)] w fun e w' => ∃ v l, e = .returned v ∧ Below w.heap.size w w' ∧ OT 3 w.heap.size v (cst l) w' ∧ IsSeg (kB B) f (a + b) l := by
  have HN := hid hN
  have HM := hid (And.intro hm (And.intro ht htN))
  have fB : (f : Int) ≤ 65536 := by omega
  have mB : (m : Int) ≤ 65536 := by omega
  have tB : (t : Int) ≤ 65536 := by omega
  obtain ⟨s, hs⟩ : ∃ s : Nat, a + b = s := ⟨_, rfl⟩
  have e0 : (t : Int) - (f : Int) = (s : Nat) := by omega
  have d1 : decide ((s : Int) < 1) = false := decide_eq_false (by omega)
  have d2 : ((s : Int) == 1) = false := by simp; omega
  have q1 : (s : Int).tdiv 2 = (a : Nat) := by rw [Int.tdiv_eq_ediv_of_nonneg (by omega)]; omega
  have q2 : (f : Int) + (a : Int) = (m : Nat) := by omega
  have sB : (s : Int) ≤ 65536 := by omega
  have aB : (a : Int) ≤ 65536 := by omega
  have ES := hid hs
  clear hN hm ht htN hab hh hs
  go_enter Tryz.func46, Tryz.ntmps46
  go_wp2_with fail
  refine (H1.out w (Ab.refl w)).mono ?_
  rintro e9 v1 ⟨ua, lA, rfl, b1, o1, s1⟩
  have A1 : Hid (Ab w v1) := b1
  have O1 := hid o1
  have S1 := hid s1
  clear b1 o1 s1
  go_wp2_with fail
  refine (H2.out v1 A1.out).mono ?_
  rintro e9 v2 ⟨ub, lB, rfl, b2, o2, s2⟩
  have A2 : Hid (Ab v1 v2) := b2
  have O2 := hid o2
  have S2 := hid s2
  clear b2 o2 s2
  have SM : Hid (IsSeg (kB B) (f + a) b lB) := by have h := S2.out; rw [HM.out.1] at h; exact h
  go_wp2_with fail
  refine (rmerged_at pb N cb B _ _ ua ub lA lB f a b v2 HN.out (IB.out.below (A1.out.trans A2.out)) (O1.out.to A2.out) O2.out S1.out SM.out (by have := HM.out; omega)).mono ?_
  rintro e9 v3 ⟨v, rfl, b3, o3⟩
  have A3 : Hid (Ab v2 v3) := b3
  have O3 := hid o3
  clear b3 o3
  go_wp2
  go_ret
  exact ⟨_, _, rfl, A1.out.trans (A2.out.trans A3.out), O3.out.mono (A1.out.trans A2.out).size, seg_merge S1.out SM.out⟩
theorem rord_at (pb : Option Addr) (N cb : Nat) (B : Nat → Nat) (hN : N ≤ 65536) : ∀ (m f t : Nat) (w : World), t = f + m → t ≤ N → IsFl w pb N B →
    Calls Tryz.prog 46 #[.slice pb N cb, .int .i64 (f : Nat), .int .i64 (t : Nat)] w fun e w' => ∃ v l, e = .returned v ∧ Below w.heap.size w w' ∧ OT 3 w.heap.size v (cst l) w' ∧ IsSeg (kB B) f m l := by
  intro m
  induction m using Nat.strongRecOn with
  | ind m ih =>
    intro f t w ht hl ib
    by_cases h0 : m = 0
    · subst h0
      exact rord_0 pb N cb B f t w (by omega) (by omega)
    · by_cases h1 : m = 1
      · subst h1
        exact rord_1 pb N cb B f t w (by omega) (by omega)
      · obtain ⟨a, ha⟩ : ∃ a, m / 2 = a := ⟨_, rfl⟩
        obtain ⟨b, hb⟩ : ∃ b, m = a + b := ⟨m - a, by omega⟩
        subst hb
        exact rord_2 pb N cb B f a b t (f + a) w hN ib rfl (by omega) hl (by omega) ha (fun v hv => ih a (by omega) f (f + a) v rfl (by omega) (ib.below hv)) (fun v hv => ih b (by omega) (f + a) t v (by omega) hl (ib.below hv))
set_option maxRecDepth 100000 in
set_option maxHeartbeats 16000000 in
theorem rorder_at (pb : Option Addr) (N cb : Nat) (B : Nat → Nat) (w : World) (hN : N ≤ 65536) (ib : IsFl w pb N B) :
    Calls Tryz.prog 13 #[.slice pb N cb] w fun e w' => ∃ v, e = .returned v ∧ Below w.heap.size w w' ∧ OT 3 w.heap.size v (cst (ordL (kB B) N)) w' := by
  have C := hid (rord_at pb N cb B hN N 0 N w (by omega) (Nat.le_refl _) ib)
  clear hN ib
  go_enter Tryz.func13, Tryz.ntmps13
  go_wp2_with fail
  refine C.out.mono ?_
  rintro e9 v1 ⟨u, l, rfl, b1, o1, s1⟩
  have A1 := hid b1
  have O1 := hid o1
  have S1 := hid (seg_all s1)
  clear b1 o1 s1
  go_wp2
  go_ret
  exact ⟨_, rfl, A1.out, by rw [← S1.out]; exact O1.out⟩
end Rv
end Go.Proofs.YtbibhgikmnpbfaaGreatDoor

namespace Go.Proofs.YtbibhgikmnpbfaaGreatDoor
open Go.RowKit Tf Cu Go.Deep
attribute [local go_sem] run_bits run_from raw_feq raw_fne raw_flt raw_fgt run_neg run_store_float
namespace Rv
/-- beds, waters and tracers of the test of life -/
def lvB (i : Nat) : Nat := if i = 0 then 4617315517961601024 else if i = 1 then 4616189618054758400 else if i = 2 then 4613937818241073152 else if i = 3 then 4611686018427387904 else if i = 4 then 4607182418800017408 else 0
def lvW (i : Nat) : Int := if i = 0 then 100 else 0
def lvT (i : Nat) : Int := if i = 0 then 10 else 0
def lvO (i : Nat) : Nat := if i = 0 then 4607182418800017408 else if i = 1 then 4613937818241073152 else if i = 2 then 4611686018427387904 else 4613937818241073152
theorem lv_fw : ∀ j : Nat, j < 6 → fw (5 - (j : Int)) = lvB j := by decide +kernel
theorem lvB_in (i : Nat) : lvB i < 18446744073709551616 := by
  unfold lvB
  repeat (first | split | omega)
theorem lv_ord : ordL (kB lvB) 6 = [0, 1, 2, 3, 4, 5] := by
  refine (ord_one ⟨?_, ?_⟩).symm
  · show List.Pairwise (fun a b => kB lvB b < kB lvB a ∨ (kB lvB a = kB lvB b ∧ a < b)) [0, 1, 2, 3, 4, 5]
    decide +kernel
  · exact List.Perm.refl _
theorem lv_ord2 : ordL (kB lvO) 4 = [1, 3, 2, 0] := by
  refine (ord_one ⟨?_, ?_⟩).symm
  · show List.Pairwise (fun a b => kB lvO b < kB lvO a ∨ (kB lvO a = kB lvO b ∧ a < b)) [1, 3, 2, 0]
    decide +kernel
  · decide
theorem lv_d0 : dnR 1 lvB 0 = 5 := by decide +kernel
theorem lv_d5 : dnR 1 lvB 5 = -1 := by decide +kernel
theorem lv_run : (runR 1 lvB lvW lvT).1 0 = 75 ∧ (runR 1 lvB lvW lvT).1 5 = 25 ∧ (runR 1 lvB lvW lvT).2 0 = 8 ∧ (runR 1 lvB lvW lvT).2 5 = 2 := by
  unfold runR
  rw [show 6 * 1 * 1 = 6 from rfl, lv_ord]
  decide +kernel
theorem lv_good : good19 1 6 6 6 12 lvW lvT := by
  refine ⟨⟨rfl, rfl, rfl, rfl⟩, ⟨fun c _ => ?_, by decide⟩, ⟨fun c _ => ?_, by decide⟩⟩
  · unfold lvW; split <;> omega
  · unfold lvT; split <;> omega
theorem row_ne {w : World} {a b m n : Nat} {s t : TypeId} {f g : Nat → Value} (h1 : w.rowIs a s m f) (h2 : w.rowIs b t n g) (hst : s ≠ t) : a ≠ b := fun e => by
  subst e
  obtain ⟨c, k1, -⟩ := h1
  obtain ⟨d, k2, -⟩ := h2
  rw [k1] at k2
  injection k2 with k3
  injection k3 with _ k4
  exact hst k4
theorem four_in19 (v : World) : Sh.IsI (v.alloc (.cells #[.int .i64 1, .int .i64 3, .int .i64 2, .int .i64 0] 3)) (some ⟨v.heap.size, 0, none⟩) 4 (fun j => ((([1, 3, 2, 0] : List Nat).getD j 0 : Nat) : Int)) := by
  have h := heap_alloc_new v (.cells #[.int .i64 1, .int .i64 3, .int .i64 2, .int .i64 0] 3)
  intro k hk
  match k, hk with
  | 0, _ => exact ⟨by decide, _, 0, rfl, lt_of_block h, cell_of_row _ _ 0 _ _ _ h⟩
  | 1, _ => exact ⟨by decide, _, 0, rfl, lt_of_block h, cell_of_row _ _ 1 _ _ _ h⟩
  | 2, _ => exact ⟨by decide, _, 0, rfl, lt_of_block h, cell_of_row _ _ 2 _ _ _ h⟩
  | 3, _ => exact ⟨by decide, _, 0, rfl, lt_of_block h, cell_of_row _ _ 3 _ _ _ h⟩
theorem four_fl19 (v : World) : IsFl (v.alloc (.cells #[.float .f64 4607182418800017408, .float .f64 4613937818241073152, .float .f64 4611686018427387904, .float .f64 4613937818241073152] 47)) (some ⟨v.heap.size, 0, none⟩) 4 lvO := by
  have h := heap_alloc_new v (.cells #[.float .f64 4607182418800017408, .float .f64 4613937818241073152, .float .f64 4611686018427387904, .float .f64 4613937818241073152] 47)
  intro k hk
  match k, hk with
  | 0, _ => exact ⟨by decide, _, 0, rfl, lt_of_block h, cell_of_row _ _ 0 _ _ _ h⟩
  | 1, _ => exact ⟨by decide, _, 0, rfl, lt_of_block h, cell_of_row _ _ 1 _ _ _ h⟩
  | 2, _ => exact ⟨by decide, _, 0, rfl, lt_of_block h, cell_of_row _ _ 2 _ _ _ h⟩
  | 3, _ => exact ⟨by decide, _, 0, rfl, lt_of_block h, cell_of_row _ _ 3 _ _ _ h⟩
theorem own_w19 {B n : Nat} {v : Value} {f : Nat → Int} {w : World} (h : Sh.Own B v ((List.range n).map f) w) (hf : ∀ c, c < n → Sh.W64 (f c)) : ∃ a0 cap, v = .slice a0 n cap ∧ Sh.IsI w a0 n f := by
  obtain ⟨a0, cap, e, i⟩ := Sh.Own.in h (fun x hx => by
    obtain ⟨j, hj, rfl⟩ := List.mem_map.1 hx
    exact hf j (List.mem_range.1 hj))
  rw [List.length_map, List.length_range] at e i
  exact ⟨a0, cap, e, i.congr (fun k hk => by simp [List.getD, hk])⟩
set_option maxRecDepth 100000 in
set_option maxHeartbeats 16000000 in
theorem lives19_at (DC : DownC) (OC : OrderC) (RC : RunC) (w : World) (hF : Fr w) : Calls Tryz.prog 5 #[] w fun e w' => e = .returned (.bool true) ∧ Below w.heap.size w w' := by
  have NW := hid (new_at 1 w (by omega) hF)
  have HD := hid DC
  have HO := hid OC
  have HR := hid RC
  clear hF DC OC RC
  go_enter Tryz.func5, Tryz.ntmps5
  go_wp2_with fail
  refine NW.out.mono ?_
  rintro e v1 ⟨gb, rfl, a1, -, g1⟩
  have AW1 : Hid (Ab w v1) := a1
  have G1 : Hid (GridOf 1 gb v1) := g1
  clear a1 g1 NW
  have LK := hid (lake19_at v1 G1.out)
  go_wp2_with fail
  refine LK.out.mono ?_
  rintro e v2 ⟨b1, b2, b3, b4, rfl, k2, r1, r2, r3, r4, nb⟩
  have AV : Hid (Ab v1 (v2.alloc (.cells #[.slice (some ⟨b1, 0, none⟩) 6 6, .slice (some ⟨b2, 0, none⟩) 6 6, .slice (some ⟨b3, 0, none⟩) 6 6, .slice (some ⟨b4, 0, none⟩) 12 12, .int .i64 0, .int .i64 0] 25))) := Ab.alloc (show Ab v1 v2 from k2) _
  have SR : Hid ((v2.alloc (.cells #[.slice (some ⟨b1, 0, none⟩) 6 6, .slice (some ⟨b2, 0, none⟩) 6 6, .slice (some ⟨b3, 0, none⟩) 6 6, .slice (some ⟨b4, 0, none⟩) 12 12, .int .i64 0, .int .i64 0] 25)).heap[v2.heap.size]? = some (.cells #[.slice (some ⟨b1, 0, none⟩) 6 6, .slice (some ⟨b2, 0, none⟩) 6 6, .slice (some ⟨b3, 0, none⟩) 6 6, .slice (some ⟨b4, 0, none⟩) 12 12, .int .i64 0, .int .i64 0] 25)) := heap_alloc_new _ _
  have R1 := hid (r1.alloc (.cells #[.slice (some ⟨b1, 0, none⟩) 6 6, .slice (some ⟨b2, 0, none⟩) 6 6, .slice (some ⟨b3, 0, none⟩) 6 6, .slice (some ⟨b4, 0, none⟩) 12 12, .int .i64 0, .int .i64 0] 25))
  have R2 := hid (r2.alloc (.cells #[.slice (some ⟨b1, 0, none⟩) 6 6, .slice (some ⟨b2, 0, none⟩) 6 6, .slice (some ⟨b3, 0, none⟩) 6 6, .slice (some ⟨b4, 0, none⟩) 12 12, .int .i64 0, .int .i64 0] 25))
  have R3 := hid (r3.alloc (.cells #[.slice (some ⟨b1, 0, none⟩) 6 6, .slice (some ⟨b2, 0, none⟩) 6 6, .slice (some ⟨b3, 0, none⟩) 6 6, .slice (some ⟨b4, 0, none⟩) 12 12, .int .i64 0, .int .i64 0] 25))
  have R4 := hid (r4.alloc (.cells #[.slice (some ⟨b1, 0, none⟩) 6 6, .slice (some ⟨b2, 0, none⟩) 6 6, .slice (some ⟨b3, 0, none⟩) 6 6, .slice (some ⟨b4, 0, none⟩) 12 12, .int .i64 0, .int .i64 0] 25))
  have NB : Hid (((v1.heap.size ≤ b1 ∧ v1.heap.size ≤ b2 ∧ v1.heap.size ≤ b3 ∧ v1.heap.size ≤ b4) ∧ b1 ≠ b2 ∧ b1 ≠ b4 ∧ b2 ≠ b4 ∧ b3 ≠ b4 ∧ b3 ≠ b2) ∧ v2.heap.size ≠ b1 ∧ v2.heap.size ≠ b2 ∧ v2.heap.size ≠ b3 ∧ b1 ≠ b3) := ⟨nb, by have := r1.lt; omega, by have := r2.lt; omega, by have := r3.lt; omega, row_ne r1 r3 (by decide)⟩
  clear k2 r1 r2 r3 r4 nb LK
  go_upto_region 5 with fail
  obtain ⟨gs, hgs⟩ : ∃ x, v2.heap.size = x := ⟨_, rfl⟩
  generalize hV : v2.alloc (.cells #[.slice (some ⟨b1, 0, none⟩) 6 6, .slice (some ⟨b2, 0, none⟩) 6 6, .slice (some ⟨b3, 0, none⟩) 6 6, .slice (some ⟨b4, 0, none⟩) 12 12, .int .i64 0, .int .i64 0] 25) = V at *
  rw [hgs] at SR NB
  rw [hgs]
  clear hV hgs
  have c0 := cell_of_row _ _ 0 _ _ _ SR.out
  go_wp2
  clear c0
  go_loopw [4] (fun iv wr => ∃ c : Nat, c ≤ 6 ∧ iv = .int .i64 (c : Nat) ∧ Ab v1 wr ∧ wr.heap[gs]? = some (.cells #[.slice (some ⟨b1, 0, none⟩) 6 6, .slice (some ⟨b2, 0, none⟩) 6 6, .slice (some ⟨b3, 0, none⟩) 6 6, .slice (some ⟨b4, 0, none⟩) 12 12, .int .i64 0, .int .i64 0] 25) ∧ wr.rowIs b1 47 6 (fun j => .float .f64 (if j < c then lvB j else 0)) ∧ wr.rowIs b2 2 6 (fun j => .int .i64 (if j < c then 0 else lkW j)) ∧ wr.rowIs b3 2 6 (fun _ => .int .i64 0) ∧ wr.rowIs b4 47 12 (fun _ => .float .f64 0)) (fun iv _ => 6 - (intOf iv).toNat)
  case atStart => exact ⟨0, by omega, rfl, AV.out, SR.out, R1.out.congr (fun i _ => by simp), R2.out.congr (fun i _ => by simp), R3.out, R4.out⟩
  case round =>
    obtain ⟨c, hc, rfl, ar, s0, s1, s2, s3, s4⟩ := hrel
    have AR := hid ar
    have S0 := hid s0
    have S1 := hid s1
    have S2 := hid s2
    have S3 := hid s3
    have S4 := hid s4
    clear ar s0 s1 s2 s3 s4 AV SR R1 R2 R3 R4
    by_cases hcn : c < 6
    · have HC := hid hcn
      have hcI : (c : Int) < 6 := by omega
      have c0 := cell_of_row _ _ 0 _ _ _ S0.out
      have z1 := S1.out.cell hcn
      have z2 := S1.out.frozen c
      obtain ⟨y1, hy1⟩ : ∃ y, Value.float .f64 (if c < c then lvB c else 0) = y := ⟨_, rfl⟩
      rw [hy1] at z1
      obtain ⟨x, hx⟩ : ∃ x, lvB c = x := ⟨_, rfl⟩
      have CV := fun (w : World) => run_convert_int_float (P := Tryz.prog) w 3 47 .i64 .f64 (5 - (c : Int)) (by kernel_rfl) (by kernel_rfl)
      have ef : floatOfInt .f64 (5 - (c : Int)) = x := by
        rw [← hx, ← lv_fw c hcn]
        exact ofInt_d _
      rw [ef] at CV
      have N1 : Hid (wr.setCell ⟨b1, c, none⟩ (.float .f64 x) |>.rowIs b2 2 6 (fun j => .int .i64 (if j < c then 0 else lkW j))) := S2.out.setOther (a := ⟨b1, c, none⟩) (Ne.symm NB.out.1.2.1) _
      have u1 := N1.out.cell hcn
      have u2 := N1.out.frozen c
      obtain ⟨y2, hy2⟩ : ∃ y, Value.int .i64 (if c < c then 0 else lkW c) = y := ⟨_, rfl⟩
      rw [hy2] at u1
      have N0 : Hid ((wr.setCell ⟨b1, c, none⟩ (.float .f64 x)).heap[gs]? = some (.cells #[.slice (some ⟨b1, 0, none⟩) 6 6, .slice (some ⟨b2, 0, none⟩) 6 6, .slice (some ⟨b3, 0, none⟩) 6 6, .slice (some ⟨b4, 0, none⟩) 12 12, .int .i64 0, .int .i64 0] 25)) := (Below.heap_setCell _ _ _ _ NB.out.2.1).trans S0.out
      have c1 := cell_of_row _ _ 1 _ _ _ N0.out
      have XE := hid hx
      clear hy1 hy2 hx ef hcn hc
      go_wp2
      refine ⟨⟨c + 1, by have := HC.out; omega, by simp, (AR.out.set NB.out.1.1.1 _).set NB.out.1.1.2.1 _, (Below.heap_setCell _ _ _ _ NB.out.2.2.1).trans N0.out, ((S1.out.set c _).setOther NB.out.1.2.1 _).congr (fun i _ => ?_), (N1.out.set c _).congr (fun i _ => ?_), (S3.out.setOther (a := ⟨b1, c, none⟩) (Ne.symm NB.out.2.2.2.2) _).setOther NB.out.1.2.2.2.2.2 _, (S4.out.setOther (a := ⟨b1, c, none⟩) (Ne.symm NB.out.1.2.2.1) _).setOther (Ne.symm NB.out.1.2.2.2.1) _⟩, by have := HC.out; simp [intOf]; omega⟩
      · by_cases e : i = c
        · subst e; simp [XE.out]
        · have q : (i < c + 1) ↔ i < c := by omega
          simp [e, q]
      · by_cases e : i = c
        · subst e; simp
        · have q : (i < c + 1) ↔ i < c := by omega
          simp [e, q]
    · obtain rfl : c = 6 := by omega
      have c1 := cell_of_row _ _ 1 _ _ _ S0.out
      have z1 := S2.out.cell (show 0 < 6 by omega)
      have z2 := S2.out.frozen 0
      obtain ⟨y1, hy1⟩ : ∃ y, Value.int .i64 (if 0 < 6 then 0 else lkW 0) = y := ⟨_, rfl⟩
      rw [hy1] at z1
      have M0 : Hid ((wr.setCell ⟨b2, 0, none⟩ (.int .i64 100)).heap[gs]? = some (.cells #[.slice (some ⟨b1, 0, none⟩) 6 6, .slice (some ⟨b2, 0, none⟩) 6 6, .slice (some ⟨b3, 0, none⟩) 6 6, .slice (some ⟨b4, 0, none⟩) 12 12, .int .i64 0, .int .i64 0] 25)) := (Below.heap_setCell _ _ _ _ NB.out.2.2.1).trans S0.out
      have M3 : Hid ((wr.setCell ⟨b2, 0, none⟩ (.int .i64 100)).rowIs b3 2 6 (fun _ => .int .i64 0)) := S3.out.setOther (a := ⟨b2, 0, none⟩) NB.out.1.2.2.2.2.2 _
      have c2 := cell_of_row _ _ 2 _ _ _ M0.out
      have u1 := M3.out.cell (show 0 < 6 by omega)
      have u2 := M3.out.frozen 0
      have T0 : Hid (((wr.setCell ⟨b2, 0, none⟩ (.int .i64 100)).setCell ⟨b3, 0, none⟩ (.int .i64 10)).heap[gs]? = some (.cells #[.slice (some ⟨b1, 0, none⟩) 6 6, .slice (some ⟨b2, 0, none⟩) 6 6, .slice (some ⟨b3, 0, none⟩) 6 6, .slice (some ⟨b4, 0, none⟩) 12 12, .int .i64 0, .int .i64 0] 25)) := (Below.heap_setCell _ _ _ _ NB.out.2.2.2.1).trans M0.out
      have T1 : Hid (((wr.setCell ⟨b2, 0, none⟩ (.int .i64 100)).setCell ⟨b3, 0, none⟩ (.int .i64 10)).rowIs b1 47 6 (fun j => .float .f64 (lvB j))) := ((S1.out.setOther (a := ⟨b2, 0, none⟩) NB.out.1.2.1 _).setOther NB.out.2.2.2.2 _).congr (fun i hi => by simp [hi])
      have T2 : Hid (((wr.setCell ⟨b2, 0, none⟩ (.int .i64 100)).setCell ⟨b3, 0, none⟩ (.int .i64 10)).rowIs b2 2 6 (fun j => .int .i64 (lvW j))) := ((S2.out.set 0 _).setOther (Ne.symm NB.out.1.2.2.2.2.2) _).congr (fun i hi => by unfold lvW; by_cases e : i = 0 <;> simp [e, hi])
      have T3 : Hid (((wr.setCell ⟨b2, 0, none⟩ (.int .i64 100)).setCell ⟨b3, 0, none⟩ (.int .i64 10)).rowIs b3 2 6 (fun j => .int .i64 (lvT j))) := (M3.out.set 0 _).congr (fun i hi => by unfold lvT; by_cases e : i = 0 <;> simp [e])
      have T4 : Hid (((wr.setCell ⟨b2, 0, none⟩ (.int .i64 100)).setCell ⟨b3, 0, none⟩ (.int .i64 10)).rowIs b4 47 12 (fun _ => .float .f64 0)) := (S4.out.setOther (a := ⟨b2, 0, none⟩) (Ne.symm NB.out.1.2.2.2.1) _).setOther (Ne.symm NB.out.1.2.2.2.2.1) _
      have AT : Hid (Ab v1 ((wr.setCell ⟨b2, 0, none⟩ (.int .i64 100)).setCell ⟨b3, 0, none⟩ (.int .i64 10))) := (AR.out.set NB.out.1.1.2.1 _).set NB.out.1.1.2.2.1 _
      clear hy1
      go_upto_region 14 with fail
      generalize hS : World.setCell (World.setCell wr _ _) _ _ = X at *
      clear hS c1 z1 z2 M0 M3 c2 u1 u2 S0 S1 S2 S3 S4 AR
      have x0 := cell_of_row _ _ 0 _ _ _ T0.out
      have x1 := cell_of_row _ _ 1 _ _ _ T0.out
      have x2 := cell_of_row _ _ 2 _ _ _ T0.out
      have x3 := cell_of_row _ _ 3 _ _ _ T0.out
      have x4 := cell_of_row _ _ 4 _ _ _ T0.out
      have x5 := cell_of_row _ _ 5 _ _ _ T0.out
      have IB := hid (show IsFl X (some ⟨b1, 0, none⟩) 6 lvB from fun k hk => ⟨lvB_in k, b1, 0, rfl, T1.out.lt, by rw [Nat.zero_add]; exact T1.out.cell hk⟩)
      have IW := hid (Sh.row_in T2.out (fun i hi => by unfold lvW; split <;> omega))
      have IT := hid (Sh.row_in T3.out (fun i hi => by unfold lvT; split <;> omega))
      have IS := hid (show IsFl X (some ⟨b4, 0, none⟩) 12 (fun _ => 0) from fun k hk => ⟨by show (0 : Nat) < _; decide, b4, 0, rfl, T4.out.lt, by rw [Nat.zero_add]; exact T4.out.cell hk⟩)
      have CR := hid ((HR.out 1 gb (some ⟨b1, 0, none⟩) 6 6 lvB (some ⟨b2, 0, none⟩) 6 6 lvW (some ⟨b3, 0, none⟩) 6 6 lvT (some ⟨b4, 0, none⟩) 12 12 (fun _ => 0) 0 0 X (by omega) (G1.out.to AT.out) IB.out IW.out IT.out IS.out).1 lv_good)
      go_wp2_with fail
      refine CR.out.mono ?_
      rintro e9 Y ⟨va, vb, rfl, by1, oa, ob, -⟩
      have kk := (runR_ok (B := lvB) (Nat.le_refl 1) lv_good).1
      obtain ⟨pa, ca, rfl, ia⟩ := own_w19 oa (fun c hc => by have := kk.1.b hc; unfold Sh.W64; omega)
      obtain ⟨pb, cb, rfl, ib⟩ := own_w19 ob (fun c hc => by have := kk.2.b hc; unfold Sh.W64; omega)
      obtain ⟨qa, ra, rfl⟩ := ia.some0 (by omega)
      obtain ⟨qb, rb, rfl⟩ := ib.some0 (by omega)
      have d1 := (ia.at0 (k := 0) (by omega)).2.2
      have d2 := (ia.at0 (k := 5) (by omega)).2.2
      have d3 := (ib.at0 (k := 0) (by omega)).2.2
      have d4 := (ib.at0 (k := 5) (by omega)).2.2
      rw [lv_run.1] at d1
      rw [lv_run.2.1] at d2
      rw [lv_run.2.2.1] at d3
      rw [lv_run.2.2.2] at d4
      rw [Nat.add_zero] at d1 d3
      have AY : Hid (Ab X Y) := by1
      have Y0 := hid (Ab.heap AY.out T0.out)
      have y0 := cell_of_row _ _ 0 _ _ _ Y0.out
      clear oa ob kk ia ib by1 CR x0 x1 x2 x3 x4 x5
      have D0 := hid (HD.out 1 gb (some ⟨b1, 0, none⟩) 6 6 lvB 0 Y (by omega) (G1.out.to (AT.out.trans AY.out)) (IB.out.below AY.out) (by unfold Sh.W64; omega))
      rw [show (if (6 : Nat) = 6 * 1 * 1 ∧ (0 : Int) ≤ 0 ∧ (0 : Int) < ((6 * 1 * 1 : Nat) : Int) then dnR 1 lvB (0 : Int).toNat else -1) = 5 from (if_pos (by decide)).trans lv_d0] at D0
      go_wp2_with fail
      refine D0.out.mono ?_
      rintro e9 Z ⟨rfl, b5⟩
      have AZ : Hid (Ab X Z) := AY.out.trans b5
      have Z0 := hid (Ab.heap AZ.out T0.out)
      clear b5 D0 d1 d2 d3 d4 y0
      have y0 := cell_of_row _ _ 0 _ _ _ Z0.out
      have D5 := hid (HD.out 1 gb (some ⟨b1, 0, none⟩) 6 6 lvB 5 Z (by omega) (G1.out.to (AT.out.trans AZ.out)) (IB.out.below AZ.out) (by unfold Sh.W64; omega))
      rw [show (if (6 : Nat) = 6 * 1 * 1 ∧ (0 : Int) ≤ 5 ∧ (5 : Int) < ((6 * 1 * 1 : Nat) : Int) then dnR 1 lvB (5 : Int).toNat else -1) = -1 from (if_pos (by decide)).trans lv_d5] at D5
      go_wp2_with fail
      refine D5.out.mono ?_
      rintro e9 Q ⟨rfl, b6⟩
      have AQ : Hid (Ab X Q) := AZ.out.trans b6
      clear b6 D5 y0
      have O4 := hid (HO.out (some ⟨Q.heap.size, 0, none⟩) 4 4 lvO (Q.alloc (.cells #[.float .f64 4607182418800017408, .float .f64 4613937818241073152, .float .f64 4611686018427387904, .float .f64 4613937818241073152] 47)) (by omega) (four_fl19 Q))
      rw [lv_ord2] at O4
      have AO : Hid (Ab X (Q.alloc (.cells #[.float .f64 4607182418800017408, .float .f64 4613937818241073152, .float .f64 4611686018427387904, .float .f64 4613937818241073152] 47))) := AQ.out.alloc _
      go_wp2_with fail
      refine O4.out.mono ?_
      rintro e9 P ⟨vo, rfl, b7, o7⟩
      obtain ⟨po, co, rfl, io⟩ := OwnN.in o7 (fun x hx => by simp at hx; omega)
      have AP : Hid (Ab X P) := AO.out.trans b7
      have HIO := hid io
      clear b7 o7 io O4
      have NU := hid (numbers19_at po (some ⟨P.heap.size, 0, none⟩) 4 co 4 _ (P.alloc (.cells #[.int .i64 1, .int .i64 3, .int .i64 2, .int .i64 0] 3)) (by omega) (HIO.out.below (bl1 _ _)) (four_in19 P))
      have AN : Hid (Ab X (P.alloc (.cells #[.int .i64 1, .int .i64 3, .int .i64 2, .int .i64 0] 3))) := AP.out.alloc _
      go_wp2_with fail
      refine NU.out.mono ?_
      rintro e9 U ⟨rfl, b8⟩
      have AU : Hid (Ab w U) := AW1.out.trans (AT.out.trans (AN.out.trans b8))
      clear b8
      go_wp2
      go_ret
      exact ⟨rfl, AU.out⟩
end Rv
end Go.Proofs.YtbibhgikmnpbfaaGreatDoor
