/-
  A weather, and a rain, among the inputs (layer 18).
-/
import Derived.Test.YthcgbjkbnbeobaaRnC
import Derived.Test.YthcgbjkbnbeobaaUm
import Derived.SizedLaws
namespace Go.Proofs.Ythcgbjkbnbeobaa
open Go.ChangeShapes Go.WideShapes Go.ChangeAt Go.WideMaps Go.WideElems Go.RowKit Go.Deep
namespace Rn
open Sh
theorem array4 {c : Array Value} (h : c.size = 4) : ∃ v0 v1 v2 v3, c = #[v0, v1, v2, v3] := by
  rcases c with ⟨l⟩
  match l, h with
  | [v0, v1, v2, v3], _ => exact ⟨v0, v1, v2, v3, rfl⟩
set_option maxRecDepth 100000 in
theorem rain_cells {H : Type} {enc : TypeId × Value → H} {w : World} {base n : Nat} {spare : Nat → Bool} {held : Bool} {v0 v1 v2 v3 : Value} {x : DataW H × List MemPlace} (h : DataW.trod enc Try.prog w base spare held n 29 [v0, v1, v2, v3] = some x) :
    ∃ r : Int × Int × Int × Int, (v0 = .int .i64 r.1 ∧ v1 = .int .i64 r.2.1 ∧ v2 = .int .i64 r.2.2.1 ∧ v3 = .int .i64 r.2.2.2) ∧ W4 r := by
  have k1 : Try.prog.cellsOf 2 = 1 := by kernel_rfl
  have k2 : Try.prog.cellsOf 3 = 1 := by kernel_rfl
  obtain ⟨xs, m, _, hx, hlen, hn, hel⟩ := DataW.trod_struct Try.underlying29 h
  match xs, hn with
  | [x0, x1, x2, x3], _ =>
    have h0 := hel 0 _ rfl
    have h1 := hel 1 _ rfl
    have h2 := hel 2 _ rfl
    have h3 := hel 3 _ rfl
    simp [k1, k2] at h0 h1 h2 h3
    obtain ⟨a0, e0, i0⟩ := trod_int Try.underlying3 h0
    obtain ⟨a1, e1, i1⟩ := trod_int Try.underlying2 h1
    obtain ⟨a2, e2, i2⟩ := trod_int Try.underlying3 h2
    obtain ⟨a3, e3, i3⟩ := trod_int Try.underlying3 h3
    exact ⟨(a0, a1, a2, a3), ⟨e0, e1, e2, e3⟩, i0, i1, i2, i3⟩
set_option maxRecDepth 100000 in
theorem rain_open {H : Type} {enc : TypeId × Value → H} {W : World} {r : Reach} {b0 : Nat} {v : Value} {d : DataW H} {p : List MemPlace} (hv : Value.okWide Try.prog W r b0 29 v) (h : DataW.Trod enc Try.prog W 0 (fun _ => true) true 29 v d p) :
    ∃ rc ra rf rt, v = .agg #[.int .i64 rc, .int .i64 ra, .int .i64 rf, .int .i64 rt] ∧ W4 (rc, ra, rf, rt) := by
  have hC : Try.prog.cellsOf 29 = 4 := by kernel_rfl
  obtain ⟨cs, rfl, hsz⟩ := okWide_struct Try.underlying29 hv
  obtain ⟨v0, v1, v2, v3, rfl⟩ := array4 (hsz.trans hC)
  obtain ⟨fuel, hf⟩ := h
  have hf' : DataW.trod enc Try.prog W 0 (fun _ => true) true fuel 29 [v0, v1, v2, v3] = some (d, p) := by simpa [Value.cells] using hf
  obtain ⟨⟨a, b, c, e⟩, ⟨rfl, rfl, rfl, rfl⟩, h4⟩ := rain_cells hf'
  exact ⟨a, b, c, e, rfl, h4⟩
set_option maxRecDepth 100000 in
theorem rains_open {H : Type} {enc : TypeId × Value → H} {W : World} {cs : List Value} {fuel : Nat} {x : DataW H × List MemPlace}
    (hf : DataW.trod enc Try.prog W 0 (fun _ => true) true fuel 23 cs = some x) : ∃ a0 len cap R, cs = [.slice a0 len cap] ∧ IsRn W a0 len R ∧ len ≤ cap ∧ (a0 = none → len = 0 ∧ cap = 0) ∧ (0 < cap → ∀ b o sp, a0 = some ⟨b, o, sp⟩ → sp = none) ∧ ((∀ elems spare, x.1 = .slice elems spare → (elems.length + spare.length) * 32 ≤ reachBytes) → cap ≤ 17592186044416) := by
  rcases open_slice Try.underlying23 hf with ⟨hcs, _⟩ | ⟨a, l, c, m, n, D, Pl, hcs, _, hl, hm, hmm, hxx, hx⟩
  · exact ⟨none, 0, 0, fun _ => (0, 0, 0, 0), hcs, IsRn.nil _ _ _, Nat.le_refl _, fun _ => ⟨rfl, rfl⟩, fun h => by omega, fun _ => by omega⟩
  · simp only [if_true] at hmm
    have ce : Try.prog.cellsOf 29 = 4 := by kernel_rfl
    have each : ∀ i, i < m → ∃ r : Int × Int × Int × Int, (W.cell? (a.add (i * 4)) = some (.int .i64 r.1) ∧ W.cell? (a.add (i * 4 + 1)) = some (.int .i64 r.2.1) ∧ W.cell? (a.add (i * 4 + 2)) = some (.int .i64 r.2.2.1) ∧ W.cell? (a.add (i * 4 + 3)) = some (.int .i64 r.2.2.2)) ∧ W4 r := by
      intro i hi
      obtain ⟨cs', h1, h2⟩ := hx i hi
      rw [ce] at h1
      obtain ⟨_, hlen, hcell⟩ := World.cells?_some h1
      match cs', hlen with
      | [v0, v1, v2, v3], _ =>
        obtain ⟨r, ⟨rfl, rfl, rfl, rfl⟩, h4⟩ := rain_cells h2
        have e0 := hcell 0 (by omega)
        have e1 := hcell 1 (by omega)
        have e2 := hcell 2 (by omega)
        have e3 := hcell 3 (by omega)
        rw [add_add] at e0 e1 e2 e3
        exact ⟨r, ⟨by simpa using e0, by simpa using e1, by simpa using e2, by simpa using e3⟩, h4⟩
    obtain ⟨R, hR⟩ := pick_fn (0, 0, 0, 0) each
    subst hmm
    refine ⟨some a, l, m, R, hcs, fun k hk => ⟨(hR k (by omega)).2, ?_⟩, hl, fun h => (by cases h), fun h b o sp e => ?_, fun h => ?_⟩
    · have h0 := (hR k (by omega)).1
      obtain ⟨b, off, spot⟩ := a
      have hspot : spot = none := by simpa [Addr.add] using World.cell?_spot (hR 0 (by omega)).1.1
      subst hspot
      simp only [add_off] at h0
      exact ⟨b, off, rfl, cell_block h0.1, h0.1, by simpa only [Nat.add_assoc] using h0.2.1, by simpa only [Nat.add_assoc] using h0.2.2.1, by simpa only [Nat.add_assoc] using h0.2.2.2⟩
    · have h0 := (hR 0 h).1
      cases e
      simpa [Addr.add] using World.cell?_spot h0.1
    · have := h _ _ (by rw [hxx])
      simp only [List.length_map, List.length_range, reachBytes] at this
      omega
theorem sized_agg {H : Type} {P : Program} {ts : List TypeId} {ds : List (DataW H)} (h : (DataW.weightsEach P ts ds).all (· ≤ reachBytes) = true) {j : Nat} {t : TypeId} {fs : Array Field} {parts : List (DataW H)} (ht : ts[j]? = some t) (hd : ds[j]? = some (.agg parts)) (hu : P.underlying t = some (.struct fs)) :
    (DataW.weightsEach P (fs.toList.map (·.type)) parts).all (· ≤ reachBytes) = true := by
  refine List.all_eq_true.2 (fun n hn => ?_)
  exact List.all_eq_true.1 h _ (DataW.weights_mem_each ht hd n (by simpa [DataW.weights, hu] using hn))
theorem bytesI18 : Try.prog.bytesOf 2 = 8 := by kernel_rfl
theorem bytesR18 : Try.prog.bytesOf 29 = 32 := by kernel_rfl
theorem list_size18 {H : Type} {enc : TypeId × Value → H} {W : World} {a0 : Option Addr} {len0 cap0 : Nat} {fuel : Nat} {x : DataW H × List MemPlace}
    (hf : DataW.trod enc Try.prog W 0 (fun _ => true) true fuel 22 [.slice a0 len0 cap0] = some x) (hs : ∀ elems spare, x.1 = .slice elems spare → (elems.length + spare.length) * 8 ≤ reachBytes) : len0 ≤ 17592186044416 := by
  rcases Go.Deep.open_slice1 Try.underlying22 (by kernel_rfl) hf with ⟨hcs, _⟩ | ⟨a, l, c, m, n, V, D, Pl, hcs, _, hl, hm, hmm, hx, _⟩
  · simp at hcs
    obtain ⟨rfl, rfl, rfl⟩ := hcs
    exact Nat.zero_le _
  · simp at hcs
    obtain ⟨rfl, rfl, rfl⟩ := hcs
    simp only [if_true] at hmm
    subst hmm
    have := hs _ _ (by rw [hx])
    simp only [List.length_map, List.length_range, reachBytes] at this
    omega
set_option maxRecDepth 100000 in
theorem weather_cells {H : Type} {enc : TypeId × Value → H} {W : World} {n : Nat} {v0 v1 v2 v3 : Value} {x : DataW H × List MemPlace} (h : DataW.trod enc Try.prog W 0 (fun _ => true) true n 25 [v0, v1, v2, v3] = some x)
    (hz : ∀ parts, x.1 = .agg parts → (DataW.weightsEach Try.prog [22, 2, 23, 3] parts).all (· ≤ reachBytes) = true) :
    ∃ pw lw cw s pr lr cr st X R, (v0 = .slice pw lw cw ∧ v1 = .int .i64 s ∧ v2 = .slice pr lr cr ∧ v3 = .int .i64 st) ∧ (IsI W pw lw X ∧ lw ≤ 17592186044416) ∧ (IsRn W pr lr R ∧ cr ≤ 17592186044416 ∧ lr ≤ cr ∧ (pr = none → lr = 0 ∧ cr = 0) ∧ (0 < cr → ∀ b o sp, pr = some ⟨b, o, sp⟩ → sp = none)) ∧ Sh.W64 s ∧ Sh.W64 st := by
  have k1 : Try.prog.cellsOf 22 = 1 := by kernel_rfl
  have k2 : Try.prog.cellsOf 2 = 1 := by kernel_rfl
  have k3 : Try.prog.cellsOf 23 = 1 := by kernel_rfl
  have k4 : Try.prog.cellsOf 3 = 1 := by kernel_rfl
  obtain ⟨xs, m, _, hx, hlen, hn, hel⟩ := DataW.trod_struct Try.underlying25 h
  match xs, hn with
  | [x0, x1, x2, x3], _ =>
    have h0 := hel 0 _ rfl
    have h1 := hel 1 _ rfl
    have h2 := hel 2 _ rfl
    have h3 := hel 3 _ rfl
    simp [k1, k2, k3, k4] at h0 h1 h2 h3
    have hzz := hz _ (by rw [hx])
    obtain ⟨p1, l1, c1, X, e1, i1, -, -⟩ := list_open h0
    obtain ⟨p2, l2, c2, R, e2, i2, j2, n2, s2, z2⟩ := rains_open h2
    obtain ⟨a1, f1, g1⟩ := trod_int Try.underlying2 h1
    obtain ⟨a3, f3, g3⟩ := trod_int Try.underlying3 h3
    simp at e1 e2
    subst e1 e2
    refine ⟨p1, l1, c1, a1, p2, l2, c2, a3, X, R, ⟨rfl, f1, rfl, f3⟩, ⟨i1, list_size18 h0 (fun elems spare e => ?_)⟩, ⟨i2, z2 (fun elems spare e => ?_), j2, n2, s2⟩, g1, g3⟩
    · have := sized_slice hzz (j := 0) (t := 22) (e := 2) (elems := elems) (spare := spare) rfl (by rw [← e]; rfl) Try.underlying22
      rw [bytesI18] at this
      exact this
    · have := sized_slice hzz (j := 2) (t := 23) (e := 29) (elems := elems) (spare := spare) rfl (by rw [← e]; rfl) Try.underlying23
      rw [bytesR18] at this
      exact this
set_option maxRecDepth 100000 in
theorem weather_open {H : Type} {enc : TypeId × Value → H} {W : World} {r : Reach} {b0 : Nat} {v : Value} {d : DataW H} {p : List MemPlace} (hv : Value.okWide Try.prog W r b0 25 v) (h : DataW.Trod enc Try.prog W 0 (fun _ => true) true 25 v d p)
    (hz : ∀ parts, d = .agg parts → (DataW.weightsEach Try.prog [22, 2, 23, 3] parts).all (· ≤ reachBytes) = true) :
    ∃ pw lw cw s pr lr cr st X R, v = .agg #[.slice pw lw cw, .int .i64 s, .slice pr lr cr, .int .i64 st] ∧ (IsI W pw lw X ∧ lw ≤ 17592186044416) ∧ (IsRn W pr lr R ∧ cr ≤ 17592186044416 ∧ lr ≤ cr ∧ (pr = none → lr = 0 ∧ cr = 0) ∧ (0 < cr → ∀ b o sp, pr = some ⟨b, o, sp⟩ → sp = none)) ∧ Sh.W64 s ∧ Sh.W64 st := by
  have hC : Try.prog.cellsOf 25 = 4 := by kernel_rfl
  obtain ⟨cs, rfl, hsz⟩ := okWide_struct Try.underlying25 hv
  obtain ⟨v0, v1, v2, v3, rfl⟩ := array4 (hsz.trans hC)
  obtain ⟨fuel, hf⟩ := h
  have hf' : DataW.trod enc Try.prog W 0 (fun _ => true) true fuel 25 [v0, v1, v2, v3] = some (d, p) := by simpa [Value.cells] using hf
  obtain ⟨pw, lw, cw, s, pr, lr, cr, st, X, R, ⟨rfl, rfl, rfl, rfl⟩, h1⟩ := weather_cells hf' hz
  exact ⟨pw, lw, cw, s, pr, lr, cr, st, X, R, rfl, h1⟩
end Rn
end Go.Proofs.Ythcgbjkbnbeobaa
