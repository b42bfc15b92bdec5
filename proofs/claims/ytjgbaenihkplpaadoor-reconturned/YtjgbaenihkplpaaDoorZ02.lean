/-
  Some of the texts of this proof, one behind the other.
-/
import Derived.Test.YtjgbaenihkplpaaDoorZ01
/-
  The product of two numbers by their halves: nothing is rounded but the product itself, by plain numbers (no program).
-/
namespace Go.Proofs.YtjgbaenihkplpaaDoor
open Tf

theorem pf_a (X Y m n a b J k : Int) (hx : X = m * a) (hy : Y = n * b) (e : a * b = J * k) : X * Y = m * n * J * k := by
  rw [hx, hy]
  have h1 : m * a * (n * b) = m * n * (a * b) := by ac_rfl
  rw [h1, e]; ac_rfl
theorem pf_b (X Y x y a b A B S W J k : Int) (hk : k ≠ 0) (ex : X * A = x * a) (ey : Y * B = y * b) (eS : S = A * B) (e : a * b = J * k) (eW : X * Y = W * k) : W * S = x * y * J := by
  refine Int.eq_of_mul_eq_mul_right hk ?_
  have h1 : W * S * k = W * k * S := by ac_rfl
  rw [h1, ← eW, eS]
  have h2 : X * Y * (A * B) = X * A * (Y * B) := by ac_rfl
  rw [h2, ex, ey]
  have h3 : x * a * (y * b) = x * y * (a * b) := by ac_rfl
  rw [h3, e]; ac_rfl
theorem prod_form (X Y x y m n : Int) (sa sb ka kb : Nat) (ex : X * ((2 ^ sa : Nat) : Int) = x * ((2 ^ ka : Nat) : Int)) (ey : Y * ((2 ^ sb : Nat) : Int) = y * ((2 ^ kb : Nat) : Int))
    (hx : X = m * ((2 ^ ka : Nat) : Int)) (hy : Y = n * ((2 ^ kb : Nat) : Int)) (h : K ≤ ka + kb) :
    ∃ W : Int, X * Y = W * ((2 ^ K : Nat) : Int) ∧ W * ((2 ^ (sa + sb) : Nat) : Int) = x * y * ((2 ^ (ka + kb - K) : Nat) : Int) := by
  have e0 : ((2 ^ ka : Nat) : Int) * ((2 ^ kb : Nat) : Int) = ((2 ^ (ka + kb - K) : Nat) : Int) * ((2 ^ K : Nat) : Int) := by
    rw [← Int.natCast_mul, ← Int.natCast_mul, ← Nat.pow_add, ← Nat.pow_add, Nat.sub_add_cancel h]
  have e1 := pf_a X Y m n _ _ _ _ hx hy e0
  have hK : ((2 ^ K : Nat) : Int) ≠ 0 := by have := pow_pos K; omega
  refine ⟨_, e1, ?_⟩
  exact pf_b X Y x y _ _ _ _ _ _ _ _ hK ex ey (by rw [Nat.pow_add, Int.natCast_mul]) e0 e1

theorem mul_bound (a b : Int) (ha : a.natAbs ≤ 67108864) (hb : b.natAbs ≤ 67108864) : -4503599627370496 ≤ a * b ∧ a * b ≤ 4503599627370496 := by
  have h : (a * b).natAbs ≤ 67108864 * 67108864 := by rw [Int.natAbs_mul]; exact Nat.mul_le_mul ha hb
  generalize a * b = c at *
  omega
theorem in53 {a : Int} (h : -4503599627370496 ≤ a ∧ a ≤ 4503599627370496) : a.natAbs ≤ 2 ^ 53 := by omega
theorem pr_a (ab u v x z : Int) (e : ab = u * 18014398509481984 + (v + x) * 134217728 + z) (hv : -4503599627370496 ≤ v ∧ v ≤ 4503599627370496) (hx : -4503599627370496 ≤ x ∧ x ≤ 4503599627370496) (hz : -4503599627370496 ≤ z ∧ z ≤ 4503599627370496) (G : Int) (hG : (ab - G * 4503599627370496).natAbs ≤ 4503599627370496) :
    (G - u * 4).natAbs ≤ 536870912 ∧ ((G - u * 4) * 33554432 - x).natAbs ≤ 9007199254740992 ∧ ((G - u * 4) * 33554432 - x - v).natAbs ≤ 134217728 ∧ z - ((G - u * 4) * 33554432 - x - v) * 134217728 = ab - G * 4503599627370496 := by
  obtain ⟨t, ht⟩ : ∃ t, G - u * 4 = t := ⟨_, rfl⟩
  have hG' : ab - G * 4503599627370496 = (v + x) * 134217728 + z - t * 4503599627370496 := by omega
  rw [hG'] at hG
  rw [ht, hG']
  clear hG' e ht
  refine ⟨by omega, by omega, by omega, by omega⟩
theorem pr_b (ab u v x z G : Int) (h1 : 20282409603651670423947251286016 ≤ ab.natAbs) (hu : -4503599627370496 ≤ u ∧ u ≤ 4503599627370496) (hv : -4503599627370496 ≤ v ∧ v ≤ 4503599627370496) (hx : -4503599627370496 ≤ x ∧ x ≤ 4503599627370496) (hz : -4503599627370496 ≤ z ∧ z ≤ 4503599627370496)
    (hG : (ab - G * 4503599627370496).natAbs ≤ 4503599627370496) (t1 : (G - u * 4).natAbs ≤ 536870912) (t2 : ((G - u * 4) * 33554432 - x).natAbs ≤ 9007199254740992) (t3 : ((G - u * 4) * 33554432 - x - v).natAbs ≤ 134217728) :
    ab.natAbs ≤ 2 * (G * 4503599627370496).natAbs ∧ (u * 18014398509481984).natAbs ≤ 4 * ab.natAbs ∧ (x * 134217728).natAbs ≤ 4 * ab.natAbs ∧ (v * 134217728).natAbs ≤ 4 * ab.natAbs ∧ z.natAbs ≤ 4 * ab.natAbs ∧ ((G - u * 4) * 4503599627370496).natAbs ≤ 4 * ab.natAbs ∧ (((G - u * 4) * 33554432 - x) * 134217728).natAbs ≤ 4 * ab.natAbs ∧ (((G - u * 4) * 33554432 - x - v) * 134217728).natAbs ≤ 4 * ab.natAbs ∧ (ab - G * 4503599627370496).natAbs ≤ 4 * ab.natAbs := by
  refine ⟨?_, ?_, ?_, ?_, ?_, ?_, ?_, ?_, ?_⟩
  · clear t1 t2 t3; omega
  · clear t1 t2 t3 hG; omega
  · clear t1 t2 t3 hG; omega
  · clear t1 t2 t3 hG; omega
  · clear t1 t2 t3 hG; omega
  · clear t2 t3 hG; generalize G - u * 4 = t at *; omega
  · clear t1 t3 hG; generalize (G - u * 4) * 33554432 - x = t at *; omega
  · clear t1 t2 hG; generalize (G - u * 4) * 33554432 - x - v = t at *; omega
  · clear t1 t2 t3; omega

theorem fourP (η l θ n : Int) : (η * 134217728 + l) * (θ * 134217728 + n) = η * θ * 18014398509481984 + (η * n + l * θ) * 134217728 + l * n := by grind

/-- bound of a number in scaled form by another one -/
theorem scaled_le (W V x y : Int) (s j c : Nat) (hW : W * ((2 ^ s : Nat) : Int) = x * ((2 ^ j : Nat) : Int)) (hV : V * ((2 ^ s : Nat) : Int) = y * ((2 ^ j : Nat) : Int)) (h : y.natAbs ≤ c * x.natAbs) : V.natAbs ≤ c * W.natAbs := by
  have a : W.natAbs * 2 ^ s = x.natAbs * 2 ^ j := by
    have := congrArg Int.natAbs hW
    rwa [Int.natAbs_mul, Int.natAbs_mul, Int.natAbs_natCast, Int.natAbs_natCast] at this
  have b : V.natAbs * 2 ^ s = y.natAbs * 2 ^ j := by
    have := congrArg Int.natAbs hV
    rwa [Int.natAbs_mul, Int.natAbs_mul, Int.natAbs_natCast, Int.natAbs_natCast] at this
  refine cancel_le (pow_pos s) ?_
  rw [b, Nat.mul_assoc, a, ← Nat.mul_assoc]
  exact Nat.mul_le_mul_right _ h

/-- what the walk over Product needs to know -/
structure Pp (X Y W hh lh hl ll : Int) : Prop where
  eW : X * Y = W * ((2 ^ K : Nat) : Int)
  ehh : hiV X * hiV Y = hh * ((2 ^ K : Nat) : Int)
  elh : (X - hiV X) * hiV Y = lh * ((2 ^ K : Nat) : Int)
  ehl : hiV X * (Y - hiV Y) = hl * ((2 ^ K : Nat) : Int)
  ell : (X - hiV X) * (Y - hiV Y) = ll * ((2 ^ K : Nat) : Int)
  dhh : isD hh
  dlh : isD lh
  dhl : isD hl
  dll : isD ll
  d1 : isD (rd W - hh)
  d2 : isD (rd W - hh - lh)
  d3 : isD (rd W - hh - lh - hl)
  de : isD (W - rd W)
  sum : ll - (rd W - hh - lh - hl) = W - rd W
  bW : W.natAbs ≤ 2 * (rd W).natAbs
  bhh : hh.natAbs ≤ 4 * W.natAbs
  blh : lh.natAbs ≤ 4 * W.natAbs
  bhl : hl.natAbs ≤ 4 * W.natAbs
  bll : ll.natAbs ≤ 4 * W.natAbs
  b1 : (rd W - hh).natAbs ≤ 4 * W.natAbs
  b2 : (rd W - hh - lh).natAbs ≤ 4 * W.natAbs
  b3 : (rd W - hh - lh - hl).natAbs ≤ 4 * W.natAbs
  be : (W - rd W).natAbs ≤ 4 * W.natAbs

theorem pp_any (X Y : Int) (sa ka sb kb : Nat) (α η β θ : Int) (p : Sp X sa ka α η) (q : Sp Y sb kb β θ) (h : K ≤ ka + kb) : ∃ W hh lh hl ll, Pp X Y W hh lh hl ll := by
  obtain ⟨mX, eX⟩ := p.mX
  obtain ⟨mH, eH⟩ := p.mH
  obtain ⟨mL, eL⟩ := p.mL
  obtain ⟨nX, fX⟩ := q.mX
  obtain ⟨nH, fH⟩ := q.mH
  obtain ⟨nL, fL⟩ := q.mL
  obtain ⟨W, w1, w2⟩ := prod_form X Y α β mX nX sa sb ka kb p.eX q.eX eX fX h
  obtain ⟨hh, hh1, hh2⟩ := prod_form _ _ _ _ mH nH sa sb ka kb p.eH q.eH eH fH h
  obtain ⟨lh, lh1, lh2⟩ := prod_form _ _ _ _ mL nH sa sb ka kb p.eL q.eH eL fH h
  obtain ⟨hl, hl1, hl2⟩ := prod_form _ _ _ _ mH nL sa sb ka kb p.eH q.eL eH fL h
  obtain ⟨ll, ll1, ll2⟩ := prod_form _ _ _ _ mL nL sa sb ka kb p.eL q.eL eL fL h
  obtain ⟨l, hl_⟩ : ∃ l, α - η * 134217728 = l := ⟨_, rfl⟩
  obtain ⟨n, hn_⟩ : ∃ n, β - θ * 134217728 = n := ⟨_, rfl⟩
  have bη := p.hη
  have bθ := q.hη
  have bl := p.hl
  have bn := q.hl
  have aLo := p.lo
  have bLo := q.lo
  have aHi := p.hi
  have bHi := q.hi
  rw [hl_] at lh2 ll2 bl
  rw [hn_] at hl2 ll2 bn
  have eα : α = η * 134217728 + l := by omega
  have eβ : β = θ * 134217728 + n := by omega
  have u1 := mul_bound η θ bη bθ
  have v1 := mul_bound η n bη bn
  have x1 := mul_bound l θ bl bθ
  have z1 := mul_bound l n bl bn
  have e4 : α * β = η * θ * 18014398509481984 + (η * n + l * θ) * 134217728 + l * n := by rw [eα, eβ]; exact fourP η l θ n
  have c1 : 20282409603651670423947251286016 ≤ (α * β).natAbs := by
    rw [Int.natAbs_mul]; exact Nat.le_trans (by omega) (Nat.mul_le_mul aLo bLo)
  have c2 : (α * β).natAbs ≤ 81129638414606681695789005144064 := by
    rw [Int.natAbs_mul]; exact Nat.le_trans (Nat.mul_le_mul (Nat.le_of_lt aHi) (Nat.le_of_lt bHi)) (by omega)
  have r1 : η * 134217728 * (θ * 134217728) = η * θ * 18014398509481984 := by grind
  have r2 : l * (θ * 134217728) = l * θ * 134217728 := by grind
  have r3 : η * 134217728 * n = η * n * 134217728 := by grind
  rw [r1] at hh2
  rw [r2] at lh2
  rw [r3] at hl2
  generalize α * β = ab at *
  generalize η * θ = u at *
  generalize η * n = v at *
  generalize l * θ = x at *
  generalize l * n = z at *
  generalize sa + sb = s at *
  generalize ka + kb - K = j at *
  clear bη bθ bl bn aLo bLo aHi bHi eα eβ hl_ hn_ r1 r2 r3
  -- the rounded product
  have hP : ∃ G : Int, rd W * ((2 ^ s : Nat) : Int) = G * 4503599627370496 * ((2 ^ j : Nat) : Int) ∧ (ab - G * 4503599627370496).natAbs ≤ 4503599627370496 := by
    by_cases c : ab.natAbs ≤ 40564819207303340847894502572032
    · obtain ⟨D, d0, _, _, d3⟩ := rd_step2 s j 52 _ _ w2 (by omega) (by omega)
      have e52 : D * ((2 ^ 52 : Nat) : Int) = D * 4503599627370496 := rfl
      rw [e52] at d0 d3
      exact ⟨D, d0, by omega⟩
    · obtain ⟨D, d0, _, _, d3⟩ := rd_step2 s j 53 _ _ w2 (by omega) (by omega)
      have e53 : D * ((2 ^ 53 : Nat) : Int) = D * 2 * 4503599627370496 := by rw [Int.mul_assoc]; rfl
      rw [e53] at d0 d3
      exact ⟨D * 2, d0, by omega⟩
  obtain ⟨G, g0, g1⟩ := hP
  obtain ⟨q1, q2, q3, q4⟩ := pr_a ab u v x z e4 v1 x1 z1 G g1
  obtain ⟨o1, o2, o3, o4, o5, o6, o7, o8, o9⟩ := pr_b ab u v x z G c1 u1 v1 x1 z1 g1 q1 q2 q3
  clear e4
  have t1 : (rd W - hh) * ((2 ^ s : Nat) : Int) = (G - u * 4) * 4503599627370496 * ((2 ^ j : Nat) : Int) := by
    rw [Int.sub_mul, g0, hh2, ← Int.sub_mul]
    have : G * 4503599627370496 - u * 18014398509481984 = (G - u * 4) * 4503599627370496 := by clear q1 q2 q3 o1 o2 o3 o4 o5 o6 o7 o8 o9 g1 c1 c2; omega
    rw [this]
  have t2 : (rd W - hh - lh) * ((2 ^ s : Nat) : Int) = ((G - u * 4) * 33554432 - x) * 134217728 * ((2 ^ j : Nat) : Int) := by
    rw [Int.sub_mul, t1, lh2, ← Int.sub_mul]
    have : (G - u * 4) * 4503599627370496 - x * 134217728 = ((G - u * 4) * 33554432 - x) * 134217728 := by clear q1 q2 q3 o1 o2 o3 o4 o5 o6 o7 o8 o9 g1 c1 c2; omega
    rw [this]
  have t3 : (rd W - hh - lh - hl) * ((2 ^ s : Nat) : Int) = ((G - u * 4) * 33554432 - x - v) * 134217728 * ((2 ^ j : Nat) : Int) := by
    rw [Int.sub_mul, t2, hl2, ← Int.sub_mul]
    have : ((G - u * 4) * 33554432 - x) * 134217728 - v * 134217728 = ((G - u * 4) * 33554432 - x - v) * 134217728 := by clear q1 q2 q3 o1 o2 o3 o4 o5 o6 o7 o8 o9 g1 c1 c2; omega
    rw [this]
  have te : (W - rd W) * ((2 ^ s : Nat) : Int) = (ab - G * 4503599627370496) * ((2 ^ j : Nat) : Int) := by
    rw [Int.sub_mul, w2, g0, ← Int.sub_mul]
  have k1 : isD (rd W - hh) := by
    refine isD_of _ (G - u * 4) s (52 + j) ?_ (Nat.le_trans q1 (by decide))
    rw [t1, Nat.pow_add, Int.natCast_mul, ← Int.mul_assoc]; rfl
  have k2 : isD (rd W - hh - lh) := by
    refine isD_of _ ((G - u * 4) * 33554432 - x) s (27 + j) ?_ q2
    rw [t2, Nat.pow_add, Int.natCast_mul, ← Int.mul_assoc]; rfl
  have k3 : isD (rd W - hh - lh - hl) := by
    refine isD_of _ ((G - u * 4) * 33554432 - x - v) s (27 + j) ?_ (Nat.le_trans q3 (by decide))
    rw [t3, Nat.pow_add, Int.natCast_mul, ← Int.mul_assoc]; rfl
  have ke : isD (W - rd W) := isD_of _ _ s j te (Nat.le_trans g1 (by decide))
  have khh : isD hh := by
    refine isD_of _ u s (54 + j) ?_ (in53 u1)
    rw [hh2, Nat.pow_add, Int.natCast_mul, ← Int.mul_assoc]; rfl
  have klh : isD lh := by
    refine isD_of _ x s (27 + j) ?_ (in53 x1)
    rw [lh2, Nat.pow_add, Int.natCast_mul, ← Int.mul_assoc]; rfl
  have khl : isD hl := by
    refine isD_of _ v s (27 + j) ?_ (in53 v1)
    rw [hl2, Nat.pow_add, Int.natCast_mul, ← Int.mul_assoc]; rfl
  have kll : isD ll := isD_of _ z s j ll2 (in53 z1)
  have hs0 : ((2 ^ s : Nat) : Int) ≠ 0 := by have := pow_pos s; omega
  have esum : ll - (rd W - hh - lh - hl) = W - rd W := by
    refine Int.eq_of_mul_eq_mul_right hs0 ?_
    rw [te, Int.sub_mul, t3, ll2, ← Int.sub_mul]
    rw [q4]
  refine ⟨W, hh, lh, hl, ll, w1, hh1, lh1, hl1, ll1, khh, klh, khl, kll, k1, k2, k3, ke, esum, ?_, ?_, ?_, ?_, ?_, ?_, ?_, ?_, ?_⟩
  · exact scaled_le _ _ _ _ s j 2 g0 w2 o1
  · exact scaled_le _ _ _ _ s j 4 w2 hh2 o2
  · exact scaled_le _ _ _ _ s j 4 w2 lh2 o3
  · exact scaled_le _ _ _ _ s j 4 w2 hl2 o4
  · exact scaled_le _ _ _ _ s j 4 w2 ll2 o5
  · exact scaled_le _ _ _ _ s j 4 w2 t1 o6
  · exact scaled_le _ _ _ _ s j 4 w2 t2 o7
  · exact scaled_le _ _ _ _ s j 4 w2 t3 o8
  · exact scaled_le _ _ _ _ s j 4 w2 te o9

/-- A PRODUCT FROM 2 ^ -969 ON is a whole number of units. -/
theorem kk_ge (x y : Nat) (h : 2 ^ 105 ≤ mv (rung 52 K (mv x * mv y))) : K ≤ (x / 2 ^ 52 - 1) + (y / 2 ^ 52 - 1) := by
  obtain ⟨α, hα, eα⟩ := mv_form2 x
  obtain ⟨β, hβ, eβ⟩ := mv_form2 y
  generalize x / 2 ^ 52 - 1 = i at *
  generalize y / 2 ^ 52 - 1 = j at *
  by_cases c : K ≤ i + j
  · exact c
  · exfalso
    obtain ⟨d, hd⟩ : ∃ d, K = (i + j) + (d + 1) := ⟨K - (i + j) - 1, by omega⟩
    have eV : mv x * mv y = α * β * 2 ^ (i + j) := by rw [eα, eβ, Nat.pow_add]; ac_rfl
    obtain ⟨t, ht⟩ := rep 52 (2 ^ 53 - 1) 52 (by omega)
    have h1 : mv x * mv y ≤ mag 52 t * 2 ^ K := by
      rw [eV, ht, hd, Nat.pow_add 2 (i + j) (d + 1)]
      have a1 : α * β ≤ (2 ^ 53 - 1) * (2 ^ 53 - 1) := Nat.mul_le_mul (by omega) (by omega)
      have a2 : 2 ^ 1 ≤ 2 ^ (d + 1) := Nat.pow_le_pow_right (by omega) (by omega)
      have a3 : (2 ^ 53 - 1) * 2 ^ 52 * (2 ^ (i + j) * 2 ^ (d + 1)) = (2 ^ 53 - 1) * 2 ^ 52 * 2 ^ (d + 1) * 2 ^ (i + j) := by ac_rfl
      rw [a3]
      refine Nat.mul_le_mul_right _ ?_
      generalize α * β = g at *
      generalize 2 ^ (d + 1) = D at *
      omega
    have h2 : rung 52 K (mv x * mv y) ≤ t := rung_le (by omega) h1
    have h3 : mv (rung 52 K (mv x * mv y)) ≤ (2 ^ 53 - 1) * 2 ^ 52 := by rw [← ht]; exact mv_le.2 h2
    omega
end Go.Proofs.YtjgbaenihkplpaaDoor

/-
  What Sum, Split and Product of package twin must return, by plain numbers (no program).
-/
namespace Go.Proofs.YtjgbaenihkplpaaDoor
open Tf

def infW (s : Bool) : Nat := if s then 18442240474082181120 else 9218868437227405312
theorem infW_lt (s : Bool) : infW s < 18446744073709551616 := by cases s <;> decide
theorem infW_mg (s : Bool) : mg (infW s) = 9218868437227405312 := by cases s <;> decide
theorem infW_ng (s : Bool) : ng (infW s) = s := by cases s <;> decide
theorem infW_of (x : Nat) (hx : x < 18446744073709551616) (h : mg x = 9218868437227405312) : x = infW (ng x) := by
  have hw := word_eq x hx
  rw [h] at hw
  unfold infW
  rw [hw]
  cases ng x <;> decide
theorem infW_canon (s : Bool) : canonB (infW s) = infW s := by cases s <;> decide
theorem infW_neg (s : Bool) : negB (infW s) = infW (!s) := by cases s <;> decide

section ops
open Ieee
theorem wr_inf (s : Bool) : double.write (.infinity s) = infW s := by cases s <;> decide
theorem add_nan (x y : Nat) (h : isN x = true ∨ isN y = true) : double.add x y = none := by
  rw [isN_true, isN_true] at h
  have ei := d_inf
  unfold Format.add
  rcases h with h | h
  · rw [read_nan double x d_he (by rw [rg_d]; omega)]; rfl
  · rw [read_nan double y d_he (by rw [rg_d]; omega)]; cases double.read x <;> rfl
theorem mul_nan (x y : Nat) (h : isN x = true ∨ isN y = true) : double.mul x y = none := by
  rw [isN_true, isN_true] at h
  have ei := d_inf
  unfold Format.mul
  rcases h with h | h
  · rw [read_nan double x d_he (by rw [rg_d]; omega)]; rfl
  · rw [read_nan double y d_he (by rw [rg_d]; omega)]; cases double.read x <;> rfl
theorem add_if (x y : Nat) (hx : x < 18446744073709551616) (fx : mg x = 9218868437227405312) (fy : mg y < 9218868437227405312) : double.add x y = some (infW (ng x)) := by
  have ei := d_inf
  obtain ⟨m, a, e, _⟩ := read_fin double y (by rw [rg_d]; omega)
  unfold Format.add
  rw [read_inf double x d_he (by rw [rg_d]; omega), e, sg_d x hx]
  simp only [Datum.sum, Option.map, wr_inf]
theorem add_fi (x y : Nat) (hy : y < 18446744073709551616) (fx : mg x < 9218868437227405312) (fy : mg y = 9218868437227405312) : double.add x y = some (infW (ng y)) := by
  have ei := d_inf
  obtain ⟨m, a, e, _⟩ := read_fin double x (by rw [rg_d]; omega)
  unfold Format.add
  rw [read_inf double y d_he (by rw [rg_d]; omega), e, sg_d y hy]
  simp only [Datum.sum, Option.map, wr_inf]
theorem add_ii (x y : Nat) (hx : x < 18446744073709551616) (hy : y < 18446744073709551616) (fx : mg x = 9218868437227405312) (fy : mg y = 9218868437227405312) :
    double.add x y = if ng x = ng y then some (infW (ng x)) else none := by
  have ei := d_inf
  unfold Format.add
  rw [read_inf double x d_he (by rw [rg_d]; omega), read_inf double y d_he (by rw [rg_d]; omega), sg_d x hx, sg_d y hy]
  simp only [Datum.sum]
  by_cases c : ng x = ng y
  · rw [if_pos c, if_pos c]; simp only [Option.map, wr_inf]
  · rw [if_neg c, if_neg c]; rfl
theorem fin_zero (x : Nat) (fx : mg x < 9218868437227405312) : ∃ m a, double.read x = .number (sg double x) m a ∧ (m = 0 ↔ mg x = 0) := by
  have ei := d_inf
  obtain ⟨m, a, e, v⟩ := read_fin double x (by rw [rg_d]; omega)
  refine ⟨m, _, e, ?_⟩
  rw [rg_d] at v
  have hp := pow_pos a
  constructor
  · intro h
    subst h
    rw [Nat.zero_mul] at v
    have : mag 52 (mg x) = mag 52 0 := by rw [mag_zero]; exact v.symm
    exact mag_inj.1 this
  · intro h
    have hv : m * 2 ^ a = 0 := by
      rw [v, h]; exact mag_zero _
    rcases Nat.mul_eq_zero.1 hv with h1 | h1
    · exact h1
    · omega
theorem mul_if (x y : Nat) (hx : x < 18446744073709551616) (hy : y < 18446744073709551616) (fx : mg x = 9218868437227405312) (fy : mg y < 9218868437227405312) :
    double.mul x y = if mg y = 0 then none else some (infW (ng x ^^ ng y)) := by
  have ei := d_inf
  obtain ⟨m, a, e, hz⟩ := fin_zero y fy
  unfold Format.mul
  rw [read_inf double x d_he (by rw [rg_d]; omega), e, sg_d x hx, sg_d y hy]
  simp only [Datum.product]
  by_cases c : mg y = 0
  · rw [if_pos c, if_pos (hz.2 c)]; rfl
  · rw [if_neg c, if_neg (fun h => c (hz.1 h))]; simp only [Option.map, wr_inf]
theorem mul_fi (x y : Nat) (hx : x < 18446744073709551616) (hy : y < 18446744073709551616) (fx : mg x < 9218868437227405312) (fy : mg y = 9218868437227405312) :
    double.mul x y = if mg x = 0 then none else some (infW (ng x ^^ ng y)) := by
  have ei := d_inf
  obtain ⟨m, a, e, hz⟩ := fin_zero x fx
  unfold Format.mul
  rw [read_inf double y d_he (by rw [rg_d]; omega), e, sg_d x hx, sg_d y hy]
  simp only [Datum.product]
  by_cases c : mg x = 0
  · rw [if_pos c, if_pos (hz.2 c)]; rfl
  · rw [if_neg c, if_neg (fun h => c (hz.1 h))]
    simp only [Option.map, wr_inf]
    cases ng x <;> cases ng y <;> rfl
theorem mul_ii (x y : Nat) (hx : x < 18446744073709551616) (hy : y < 18446744073709551616) (fx : mg x = 9218868437227405312) (fy : mg y = 9218868437227405312) :
    double.mul x y = some (infW (ng x ^^ ng y)) := by
  have ei := d_inf
  unfold Format.mul
  rw [read_inf double x d_he (by rw [rg_d]; omega), read_inf double y d_he (by rw [rg_d]; omega), sg_d x hx, sg_d y hy]
  simp only [Datum.product, Option.map, wr_inf]
end ops

theorem rn_ne (z z' : Bool) (v : Int) (h : v ≠ 0) : rn z v = rn z' v := by
  unfold rn; rw [if_neg h, if_neg h]
theorem canon_rn (z : Bool) (v : Int) : canonB (rn z v) = rn false v := by
  unfold canonB
  rw [isN_rn, if_neg (by decide)]
  by_cases c : v = 0
  · subst c
    have : mg (rn z 0) = 0 := by rw [rn_zero]; cases z <;> decide
    rw [if_pos this, rn_zero]; rfl
  · have hm : mg (rn z v) ≠ 0 := by
      rw [rn_mg]
      have h1 : 1 ≤ rung 52 0 v.natAbs := by
        have e1 : mag 52 1 = 1 := by decide
        exact rung_ge (by omega) (by rw [Nat.pow_zero, Nat.mul_one, e1]; omega)
      generalize rung 52 0 v.natAbs = r at *
      omega
    rw [if_neg hm]
    exact rn_ne z false v c
theorem rn_negv (v : Int) : canonB (negB (rn false v)) = rn false (-v) := by
  by_cases c : v = 0
  · subst c; rw [Int.neg_zero, rn_zero]; decide
  · have e : negB (rn false v) = rn false (-v) := by
      unfold rn negB
      rw [if_neg c, if_neg (show ¬ -v = 0 by omega), Int.natAbs_neg]
      have hl : min (rung 52 0 v.natAbs) 9218868437227405312 < 9223372036854775808 := by
        generalize rung 52 0 v.natAbs = r
        omega
      generalize min (rung 52 0 v.natAbs) 9218868437227405312 = r at *
      by_cases c2 : v < 0
      · have d2 : decide (-v < 0) = false := decide_eq_false (by omega)
        rw [decide_eq_true c2, d2]
        simp only [if_true, Bool.false_eq_true, if_false]
        rw [ng_of_ge (by omega), if_pos rfl]; omega
      · have d2 : decide (-v < 0) = true := decide_eq_true (by omega)
        rw [decide_eq_false c2, d2]
        simp only [if_true, Bool.false_eq_true, if_false]
        rw [ng_of_lt (by omega), if_neg (by decide)]; omega
    rw [e, canon_rn]

/-- the rounded sum and product, in the one form -/
def addB (a b : Nat) : Nat := match Ieee.double.add a b with | some r => canonB r | none => quiet
def mulB (a b : Nat) : Nat := match Ieee.double.mul a b with | some r => canonB r | none => quiet
theorem addB_some {a b r : Nat} (h : Ieee.double.add a b = some r) : addB a b = canonB r := by unfold addB; rw [h]
theorem addB_none {a b : Nat} (h : Ieee.double.add a b = none) : addB a b = quiet := by unfold addB; rw [h]
theorem mulB_some {a b r : Nat} (h : Ieee.double.mul a b = some r) : mulB a b = canonB r := by unfold mulB; rw [h]
theorem mulB_none {a b : Nat} (h : Ieee.double.mul a b = none) : mulB a b = quiet := by unfold mulB; rw [h]
theorem addB_fin (a b : Nat) (ha : a < 18446744073709551616) (hb : b < 18446744073709551616) (fa : mg a < 9218868437227405312) (fb : mg b < 9218868437227405312) : addB a b = rn false (sv a + sv b) := by
  rw [addB_some (add_d a b ha hb fa fb), canon_rn]
theorem quiet_mg : mg quiet = 9221120237041090561 := by decide

theorem three (x : Nat) : mg x < 9218868437227405312 ∨ mg x = 9218868437227405312 ∨ isN x = true := by
  rw [isN_true]; omega
/-- what a sum is -/
theorem add_cases (a b : Nat) (ha : a < 18446744073709551616) (hb : b < 18446744073709551616) :
    (mg a < 9218868437227405312 ∧ mg b < 9218868437227405312) ∨ Ieee.double.add a b = none ∨ ∃ s, Ieee.double.add a b = some (infW s) := by
  rcases three a with h1 | h1 | h1
  · rcases three b with h2 | h2 | h2
    · exact .inl ⟨h1, h2⟩
    · exact .inr (.inr ⟨_, add_fi a b hb h1 h2⟩)
    · exact .inr (.inl (add_nan a b (.inr h2)))
  · rcases three b with h2 | h2 | h2
    · exact .inr (.inr ⟨_, add_if a b ha h1 h2⟩)
    · rw [add_ii a b ha hb h1 h2]
      by_cases c : ng a = ng b
      · rw [if_pos c]; exact .inr (.inr ⟨_, rfl⟩)
      · rw [if_neg c]; exact .inr (.inl rfl)
    · exact .inr (.inl (add_nan a b (.inr h2)))
  · exact .inr (.inl (add_nan a b (.inl h1)))
theorem mul_cases (a b : Nat) (ha : a < 18446744073709551616) (hb : b < 18446744073709551616) :
    (mg a < 9218868437227405312 ∧ mg b < 9218868437227405312) ∨ Ieee.double.mul a b = none ∨ ∃ s, Ieee.double.mul a b = some (infW s) := by
  rcases three a with h1 | h1 | h1
  · rcases three b with h2 | h2 | h2
    · exact .inl ⟨h1, h2⟩
    · rw [mul_fi a b ha hb h1 h2]
      by_cases c : mg a = 0
      · rw [if_pos c]; exact .inr (.inl rfl)
      · rw [if_neg c]; exact .inr (.inr ⟨_, rfl⟩)
    · exact .inr (.inl (mul_nan a b (.inr h2)))
  · rcases three b with h2 | h2 | h2
    · rw [mul_if a b ha hb h1 h2]
      by_cases c : mg b = 0
      · rw [if_pos c]; exact .inr (.inl rfl)
      · rw [if_neg c]; exact .inr (.inr ⟨_, rfl⟩)
    · exact .inr (.inr ⟨_, mul_ii a b ha hb h1 h2⟩)
    · exact .inr (.inl (mul_nan a b (.inr h2)))
  · exact .inr (.inl (mul_nan a b (.inl h1)))
theorem addB_lt (a b : Nat) (ha : a < 18446744073709551616) (hb : b < 18446744073709551616) : addB a b < 18446744073709551616 := by
  rcases add_cases a b ha hb with ⟨h1, h2⟩ | h | ⟨s, h⟩
  · rw [addB_fin a b ha hb h1 h2]; exact rn_lt _ _
  · rw [addB_none h]; decide
  · rw [addB_some h, infW_canon]; exact infW_lt s

/-- what the rounding took away -/
def sumE (a b : Nat) : Nat := if mg (addB a b) < 9218868437227405312 then rn false (sv a + sv b - sv (addB a b)) else 0
theorem sumE_lt (a b : Nat) : sumE a b < 18446744073709551616 := by unfold sumE; split; exact rn_lt _ _; decide
theorem fin_of_sum (a b : Nat) (ha : a < 18446744073709551616) (hb : b < 18446744073709551616) (h : mg (addB a b) < 9218868437227405312) : mg a < 9218868437227405312 ∧ mg b < 9218868437227405312 := by
  rcases add_cases a b ha hb with h' | h' | ⟨s, h'⟩
  · exact h'
  · rw [addB_none h', quiet_mg] at h; omega
  · rw [addB_some h', infW_canon, infW_mg] at h; omega

/-- where the sum is finite -/
theorem sum_fin_facts (a b : Nat) (ha : a < 18446744073709551616) (hb : b < 18446744073709551616) (h : mg (addB a b) < 9218868437227405312) :
    sv (addB a b) = rd (sv a + sv b) ∧ isD (sv a + sv b - rd (sv a + sv b)) ∧ (sv a + sv b - rd (sv a + sv b)).natAbs ≤ (sv b).natAbs ∧ (sv a + sv b - rd (sv a + sv b)).natAbs ≤ (sv a).natAbs := by
  obtain ⟨fa, fb⟩ := fin_of_sum a b ha hb h
  rw [addB_fin a b ha hb fa fb] at h ⊢
  have e := rn_fin' false _ h
  obtain ⟨r, hr⟩ := sum_error a b false h
  have n1 := rn_nearest false _ h a
  have n2 := rn_nearest false _ h b
  rw [e] at hr n1 n2
  rw [e]
  exact ⟨rfl, ⟨r, hr⟩, by omega, by omega⟩
theorem sumE_sv (a b : Nat) (ha : a < 18446744073709551616) (hb : b < 18446744073709551616) (h : mg (addB a b) < 9218868437227405312) :
    mg (sumE a b) < 9218868437227405312 ∧ sv (sumE a b) = sv a + sv b - sv (addB a b) := by
  obtain ⟨_, fb⟩ := fin_of_sum a b ha hb h
  obtain ⟨e, d, n, _⟩ := sum_fin_facts a b ha hb h
  have := sv_top b fb
  unfold sumE
  rw [if_pos h, e]
  exact rn_exact false _ d (by omega)

/-- the way of Sum: from the greater one -/
theorem sum_way (a b : Nat) (ha : a < 18446744073709551616) (hb : b < 18446744073709551616) (h : mg (addB a b) < 9218868437227405312) (hab : mg b ≤ mg a) (s : Nat) (hs : Ieee.double.add a b = some s) :
    ∃ t e, Ieee.double.sub s a = some t ∧ Ieee.double.sub b t = some e ∧ t < 18446744073709551616 ∧ e < 18446744073709551616 ∧ canonB e = sumE a b := by
  obtain ⟨fa, fb⟩ := fin_of_sum a b ha hb h
  obtain ⟨e, d, n, _⟩ := sum_fin_facts a b ha hb h
  have hE : sumE a b = rn false (sv a + sv b - rd (sv a + sv b)) := by unfold sumE; rw [if_pos h, e]
  rw [add_d a b ha hb fa fb] at hs
  obtain rfl := Option.some.inj hs
  have tA := sv_top a fa
  have tB := sv_top b fb
  have hfin : mg (rn (ng a && ng b) (sv a + sv b)) < 9218868437227405312 := by
    rw [addB_fin a b ha hb fa fb] at h
    rw [rn_mg] at h ⊢; exact h
  have eS := rn_fin' (ng a && ng b) (sv a + sv b) hfin
  have hd := fast2 a b hab
  have tS := sv_top _ hfin
  have hbig : (rd (sv a + sv b) - sv a).natAbs < top := by
    rw [eS] at tS
    have hle : (sv b).natAbs ≤ (sv a).natAbs := by rw [sv_abs, sv_abs]; exact mv_le.2 hab
    have p1 := @rd_nonneg (sv a + sv b)
    have p2 := @rd_nonpos (sv a + sv b)
    generalize rd (sv a + sv b) = S at *
    omega
  have f1 := fun z => rn_exact z _ hd hbig
  have s1 := sub_d _ a (rn_lt (ng a && ng b) (sv a + sv b)) ha hfin fa
  rw [eS] at s1
  obtain ⟨z, hz⟩ : ∃ z, (ng (rn (ng a && ng b) (sv a + sv b)) && !ng a) = z := ⟨_, rfl⟩
  rw [hz] at s1
  have s2 := sub_d b _ hb (rn_lt z (rd (sv a + sv b) - sv a)) fb (f1 z).1
  rw [(f1 z).2] at s2
  refine ⟨_, _, s1, s2, rn_lt _ _, rn_lt _ _, ?_⟩
  rw [canon_rn, hE]
  have : sv b - (rd (sv a + sv b) - sv a) = sv a + sv b - rd (sv a + sv b) := by omega
  rw [this]
end Go.Proofs.YtjgbaenihkplpaaDoor

/-
  The halves of a number and the way of Product, by plain numbers (no program).
-/
namespace Go.Proofs.YtjgbaenihkplpaaDoor
open Tf

theorem mul_W (x y : Nat) (W : Int) (hx : x < 18446744073709551616) (hy : y < 18446744073709551616) (fx : mg x < 9218868437227405312) (fy : mg y < 9218868437227405312)
    (e : sv x * sv y = W * ((2 ^ K : Nat) : Int)) : Ieee.double.mul x y = some (rn (ng x ^^ ng y) W) := by
  have hm := mul_d x y hx hy fx fy
  rw [← K_eq] at hm
  have ea : mv (mg x) * mv (mg y) = W.natAbs * 2 ^ K := by
    rw [← sv_abs, ← sv_abs, ← Int.natAbs_mul, e, Int.natAbs_mul, Int.natAbs_natCast]
  have er : rung 52 K (mv (mg x) * mv (mg y)) = rung 52 0 W.natAbs := by
    rw [ea]
    have := rung_scale 52 0 K W.natAbs
    rwa [Nat.zero_add] at this
  rw [hm, er]
  have hs : (ng x ^^ ng y) = (if W = 0 then (ng x ^^ ng y) else decide (W < 0)) := by
    by_cases c : W = 0
    · rw [if_pos c]
    · rw [if_neg c]
      have hp : (0 : Int) < ((2 ^ K : Nat) : Int) := by have := pow_pos K; omega
      have hne : sv x * sv y ≠ 0 := by
        rw [e]; intro h0
        rcases Int.mul_eq_zero.1 h0 with h1 | h1
        · exact c h1
        · omega
      have hx0 : mv (mg x) ≠ 0 := by
        intro h0
        have : sv x = 0 := by have := sv_abs x; omega
        exact hne (by rw [this, Int.zero_mul])
      have hy0 : mv (mg y) ≠ 0 := by
        intro h0
        have : sv y = 0 := by have := sv_abs y; omega
        exact hne (by rw [this, Int.mul_zero])
      have key : W < 0 ↔ sv x * sv y < 0 := by
        rw [e]
        constructor
        · intro h; exact Int.mul_neg_of_neg_of_pos h hp
        · intro h
          by_cases c2 : W < 0
          · exact c2
          · exfalso
            have := Int.mul_nonneg (show 0 ≤ W by omega) (Int.le_of_lt hp)
            omega
      have hpos : (0 : Int) < (mv (mg x) : Int) * (mv (mg y) : Int) := Int.mul_pos (by omega) (by omega)
      have eb : decide (W < 0) = decide (sv x * sv y < 0) := by rw [Bool.eq_iff_iff]; simp only [decide_eq_true_eq]; exact key
      rw [eb]
      unfold sv
      generalize (mv (mg x) : Int) = A at *
      generalize (mv (mg y) : Int) = B at *
      have n1 : -A * B = -(A * B) := Int.neg_mul A B
      have n2 : A * -B = -(A * B) := Int.mul_neg A B
      have n3 : -A * -B = A * B := Int.neg_mul_neg A B
      cases ng x <;> cases ng y <;> simp only [Bool.false_eq_true, if_false, if_true, n1, n2, n3] <;> simp <;> omega
  unfold rn
  rw [← hs]

theorem rd_le (v : Int) (t : Nat) (h : v.natAbs ≤ mv t) : (rd v).natAbs ≤ mv t := by
  rw [rd_abs]
  exact mv_le.2 (rung_le (by omega) (by rw [Nat.pow_zero, Nat.mul_one]; exact h))

theorem hiV_zero : hiV 0 = 0 := by
  have h : rd 0 = 0 := rd_exact isD_zero
  unfold hiV
  rw [Int.mul_zero, h, Int.sub_zero, h]; rfl
theorem halves (x : Nat) : isD (hiV (sv x)) ∧ isD (sv x - hiV (sv x)) ∧ (sv x - hiV (sv x)).natAbs ≤ (sv x).natAbs ∧ (hiV (sv x)).natAbs ≤ 2 * (sv x).natAbs := by
  by_cases c : mg x = 0
  · have e : sv x = 0 := by have := sv_abs x; rw [c, mv_zero] at this; omega
    rw [e, hiV_zero]
    exact ⟨isD_zero, isD_zero, by decide, by decide⟩
  · obtain ⟨s, μ, η, p⟩ := sp_any x c
    have h1 : (sv x - hiV (sv x)).natAbs ≤ 1 * (sv x).natAbs := by
      refine scaled_le _ _ _ _ s _ 1 p.eX p.eL ?_
      have := p.hl
      have := p.lo
      omega
    exact ⟨p.isH, p.isL, by omega, by omega⟩

theorem top996 : top = 268435456 * mv 9092767647661031424 := by decide +kernel
theorem big996 : mv 9216616637413720064 = 201326592 * mv 9092767647661031424 := by decide +kernel
theorem top1020 : top = 16 * mv 9200854038717923328 := by decide +kernel
theorem low969 : mv 243194379878006784 = 2 ^ 105 := by decide +kernel
theorem svC : sv 4728779608772575232 = 134217729 * ((2 ^ K : Nat) : Int) := by decide +kernel
theorem mgC : mg 4728779608772575232 < 9218868437227405312 := by decide

/-- the way of Split -/
theorem split_way (x : Nat) (hx : x < 18446744073709551616) (h : mg x ≤ 9092767647661031424) :
    ∃ c d hi lo, Ieee.double.mul 4728779608772575232 x = some c ∧ Ieee.double.sub c x = some d ∧ Ieee.double.sub c d = some hi ∧ Ieee.double.sub x hi = some lo ∧
      c < 18446744073709551616 ∧ d < 18446744073709551616 ∧ hi < 18446744073709551616 ∧ lo < 18446744073709551616 ∧ canonB hi = rn false (hiV (sv x)) ∧ canonB lo = rn false (sv x - hiV (sv x)) := by
  have fx : mg x < 9218868437227405312 := by omega
  have t1 := top996
  have t2 := big996
  have hX : (sv x).natAbs ≤ mv 9092767647661031424 := by rw [sv_abs]; exact mv_le.2 h
  have hq : 0 < mv 9092767647661031424 := by
    have := mv_lt.2 (show 0 < 9092767647661031424 by omega)
    rw [mv_zero] at this; exact this
  obtain ⟨dH, dL, bL, bH⟩ := halves x
  obtain ⟨X, hXe⟩ : ∃ X, sv x = X := ⟨_, rfl⟩
  rw [hXe] at hX dH dL bL bH ⊢
  generalize mv 9092767647661031424 = Q at *
  have m := mul_W 4728779608772575232 x (134217729 * X) (by decide) hx mgC fx (by rw [svC, hXe]; generalize ((2 ^ K : Nat) : Int) = k; rw [Int.mul_right_comm])
  obtain ⟨z, hz⟩ : ∃ z, (ng 4728779608772575232 ^^ ng x) = z := ⟨_, rfl⟩
  rw [hz] at m
  have c1 : (rd (134217729 * X)).natAbs ≤ 201326592 * Q := by rw [← t2]; exact rd_le _ _ (by rw [t2]; omega)
  obtain ⟨fc, ec⟩ := rn_fin z (134217729 * X) (by rw [t1]; omega)
  have s1 := sub_d _ x (rn_lt z (134217729 * X)) hx fc fx
  rw [ec, hXe] at s1
  obtain ⟨z1, hz1⟩ : ∃ z1, (ng (rn z (134217729 * X)) && !ng x) = z1 := ⟨_, rfl⟩
  rw [hz1] at s1
  obtain ⟨fd, ed⟩ := rn_fin z1 (rd (134217729 * X) - X) (by
    have h3 : (rd (rd (134217729 * X) - X)).natAbs ≤ (rd (134217729 * X)).natAbs + (hiV X).natAbs := by unfold hiV; omega
    rw [t1]; omega)
  have s2 := sub_d _ _ (rn_lt z (134217729 * X)) (rn_lt z1 (rd (134217729 * X) - X)) fc fd
  rw [ec, ed] at s2
  have eh : rd (134217729 * X) - rd (rd (134217729 * X) - X) = hiV X := rfl
  rw [eh] at s2
  obtain ⟨z2, hz2⟩ : ∃ z2, (ng (rn z (134217729 * X)) && !ng (rn z1 (rd (134217729 * X) - X))) = z2 := ⟨_, rfl⟩
  rw [hz2] at s2
  obtain ⟨fh, eh2⟩ := rn_exact z2 (hiV X) dH (by rw [t1]; omega)
  have s3 := sub_d x _ hx (rn_lt z2 (hiV X)) fx fh
  rw [eh2, hXe] at s3
  exact ⟨_, _, _, _, m, s1, s2, s3, rn_lt _ _, rn_lt _ _, rn_lt _ _, rn_lt _ _, canon_rn _ _, canon_rn _ _⟩

def splitH (x : Nat) : Nat := if mg x ≤ 9092767647661031424 then rn false (hiV (sv x)) else canonB x
def splitL (x : Nat) : Nat := if mg x ≤ 9092767647661031424 then rn false (sv x - hiV (sv x)) else 0
theorem splitH_lt (x : Nat) (hx : x < 18446744073709551616) : splitH x < 18446744073709551616 := by
  unfold splitH; split
  · exact rn_lt _ _
  · exact canonB_lt hx
theorem splitL_lt (x : Nat) : splitL x < 18446744073709551616 := by
  unfold splitL; split
  · exact rn_lt _ _
  · decide
theorem split_sv (x : Nat) (h : mg x ≤ 9092767647661031424) : (mg (splitH x) < 9218868437227405312 ∧ sv (splitH x) = hiV (sv x)) ∧ mg (splitL x) < 9218868437227405312 ∧ sv (splitL x) = sv x - hiV (sv x) := by
  have t1 := top996
  have hX : (sv x).natAbs ≤ mv 9092767647661031424 := by rw [sv_abs]; exact mv_le.2 h
  have hq : 0 < mv 9092767647661031424 := by
    have := mv_lt.2 (show 0 < 9092767647661031424 by omega)
    rw [mv_zero] at this; exact this
  obtain ⟨dH, dL, bL, bH⟩ := halves x
  unfold splitH splitL
  rw [if_pos h, if_pos h]
  exact ⟨rn_exact false _ dH (by omega), rn_exact false _ dL (by omega)⟩

/-- whether the error of a product is told -/
def toldB (a b p : Nat) : Bool := decide (mg a ≤ 9092767647661031424) && decide (mg b ≤ 9092767647661031424) && decide (243194379878006784 ≤ mg p) && decide (mg p ≤ 9200854038717923328)
def prodV (a b : Nat) : Int := sv a * sv b / ((2 ^ K : Nat) : Int)
def prodE (a b : Nat) : Nat := if toldB a b (mulB a b) then rn false (prodV a b - sv (mulB a b)) else 0
theorem prodE_lt (a b : Nat) : prodE a b < 18446744073709551616 := by unfold prodE; split; exact rn_lt _ _; decide
theorem toldB_iff (a b p : Nat) : toldB a b p = true ↔ mg a ≤ 9092767647661031424 ∧ mg b ≤ 9092767647661031424 ∧ 243194379878006784 ≤ mg p ∧ mg p ≤ 9200854038717923328 := by
  unfold toldB; simp [and_assoc]

/-- where the error of a product is told -/
theorem prod_facts (a b p : Nat) (ha : a < 18446744073709551616) (hb : b < 18446744073709551616) (hp : Ieee.double.mul a b = some p) (ht : toldB a b p = true) :
    ∃ W hh lh hl ll, Pp (sv a) (sv b) W hh lh hl ll ∧ prodV a b = W ∧ sv p = rd W ∧ mg p < 9218868437227405312 ∧ p < 18446744073709551616 ∧ mulB a b = p ∧ W.natAbs ≤ 2 * mv 9200854038717923328 ∧ W ≠ 0 := by
  obtain ⟨h1, h2, h3, h4⟩ := (toldB_iff a b p).1 ht
  have fa : mg a < 9218868437227405312 := by omega
  have fb : mg b < 9218868437227405312 := by omega
  have hm := mul_d a b ha hb fa fb
  rw [← K_eq, hp] at hm
  have hm := Option.some.inj hm
  have hpl : p < 18446744073709551616 := by
    rw [hm]
    generalize rung 52 K (mv (mg a) * mv (mg b)) = r
    cases (ng a ^^ ng b) <;> simp <;> omega
  have hmp : mg p = min (rung 52 K (mv (mg a) * mv (mg b))) 9218868437227405312 := by
    rw [hm]
    generalize rung 52 K (mv (mg a) * mv (mg b)) = r
    have hl : min r 9218868437227405312 < 9223372036854775808 := by omega
    generalize min r 9218868437227405312 = q at *
    cases (ng a ^^ ng b)
    · simp only [Bool.false_eq_true, if_false]; exact mg_of_lt hl
    · simp only [if_true]; rw [mg_of_ge (by omega) (by omega)]; omega
  have hr : rung 52 K (mv (mg a) * mv (mg b)) = mg p := by
    rw [hmp] at h4 ⊢
    generalize rung 52 K (mv (mg a) * mv (mg b)) = r at *
    omega
  have hlow : 2 ^ 105 ≤ mv (rung 52 K (mv (mg a) * mv (mg b))) := by rw [hr, ← low969]; exact mv_le.2 h3
  have hkk := kk_ge _ _ hlow
  have nz : mg a ≠ 0 ∧ mg b ≠ 0 := by
    constructor
    · intro h0
      rw [h0, mv_zero, Nat.zero_mul] at hlow
      have hz : rung 52 K 0 = 0 := by decide +kernel
      rw [hz, mv_zero] at hlow
      omega
    · intro h0
      rw [h0, mv_zero, Nat.mul_zero] at hlow
      have hz : rung 52 K 0 = 0 := by decide +kernel
      rw [hz, mv_zero] at hlow
      omega
  obtain ⟨s, α, η, q1⟩ := sp_any a nz.1
  obtain ⟨t, β, θ, q2⟩ := sp_any b nz.2
  obtain ⟨W, hh, lh, hl, ll, P⟩ := pp_any _ _ _ _ _ _ _ _ _ _ q1 q2 hkk
  have hK : ((2 ^ K : Nat) : Int) ≠ 0 := by have := pow_pos K; omega
  have hpW := mul_W a b W ha hb fa fb P.eW
  rw [hp] at hpW
  have hpW := Option.some.inj hpW
  have fp : mg p < 9218868437227405312 := by omega
  have ep : sv p = rd W := by
    have := rn_fin' (ng a ^^ ng b) W (by rw [← hpW]; exact fp)
    rwa [← hpW] at this
  have hW0 : W ≠ 0 := by
    intro h0
    rw [h0, rd_exact isD_zero] at ep
    have := sv_abs p
    rw [ep] at this
    have h5 := mv_le.2 h3
    rw [low969] at h5
    have h6 : Int.natAbs 0 = 0 := rfl
    rw [h6] at this
    omega
  refine ⟨W, hh, lh, hl, ll, P, ?_, ep, fp, hpl, ?_, ?_, hW0⟩
  · unfold prodV; rw [P.eW]; exact Int.mul_ediv_cancel _ hK
  · rw [mulB_some hp]
    unfold canonB
    rw [isN_false.2 (by omega), if_neg (by decide), if_neg (by omega)]
  · have h5 := P.bW
    rw [← ep, sv_abs] at h5
    have h6 := mv_le.2 h4
    omega

/-- the way of Product -/
theorem prod_way (a b p : Nat) (ha : a < 18446744073709551616) (hb : b < 18446744073709551616) (hp : Ieee.double.mul a b = some p) (ht : toldB a b p = true) :
    ∃ p1 l1 p2 l2 p3 l3 p4 e, Ieee.double.mul (splitH a) (splitH b) = some p1 ∧ Ieee.double.sub p p1 = some l1 ∧ Ieee.double.mul (splitL a) (splitH b) = some p2 ∧ Ieee.double.sub l1 p2 = some l2 ∧
      Ieee.double.mul (splitH a) (splitL b) = some p3 ∧ Ieee.double.sub l2 p3 = some l3 ∧ Ieee.double.mul (splitL a) (splitL b) = some p4 ∧ Ieee.double.sub p4 l3 = some e ∧ e < 18446744073709551616 ∧ canonB e = prodE a b := by
  obtain ⟨W, hh, lh, hl, ll, P, eV, ep, fp, hpl, eM, bW, _⟩ := prod_facts a b p ha hb hp ht
  obtain ⟨h1, h2, _, _⟩ := (toldB_iff a b p).1 ht
  obtain ⟨⟨fah, eah⟩, fal, eal⟩ := split_sv a h1
  obtain ⟨⟨fbh, ebh⟩, fbl, ebl⟩ := split_sv b h2
  have t1 := top1020
  have hq : 0 < mv 9200854038717923328 := by
    have := mv_lt.2 (show 0 < 9200854038717923328 by omega)
    rw [mv_zero] at this; exact this
  have hE : prodE a b = rn false (W - rd W) := by unfold prodE; rw [eM, ht, if_pos rfl, eV, ep]
  have b1 := P.bhh
  have b2 := P.blh
  have b3 := P.bhl
  have b4 := P.bll
  have b5 := P.b1
  have b6 := P.b2
  have b7 := P.b3
  have m1 := mul_W _ _ hh (splitH_lt a ha) (splitH_lt b hb) fah fbh (by rw [eah, ebh]; exact P.ehh)
  have m2 := mul_W _ _ lh (splitL_lt a) (splitH_lt b hb) fal fbh (by rw [eal, ebh]; exact P.elh)
  have m3 := mul_W _ _ hl (splitH_lt a ha) (splitL_lt b) fah fbl (by rw [eah, ebl]; exact P.ehl)
  have m4 := mul_W _ _ ll (splitL_lt a) (splitL_lt b) fal fbl (by rw [eal, ebl]; exact P.ell)
  have f1 := fun z => rn_exact z hh P.dhh (by omega)
  have f2 := fun z => rn_exact z lh P.dlh (by omega)
  have f3 := fun z => rn_exact z hl P.dhl (by omega)
  have f4 := fun z => rn_exact z ll P.dll (by omega)
  have g1 := fun z => rn_exact z (rd W - hh) P.d1 (by omega)
  have g2 := fun z => rn_exact z (rd W - hh - lh) P.d2 (by omega)
  have g3 := fun z => rn_exact z (rd W - hh - lh - hl) P.d3 (by omega)
  generalize (ng (splitH a) ^^ ng (splitH b)) = z1 at m1
  generalize (ng (splitL a) ^^ ng (splitH b)) = z2 at m2
  generalize (ng (splitH a) ^^ ng (splitL b)) = z3 at m3
  generalize (ng (splitL a) ^^ ng (splitL b)) = z4 at m4
  have s1 := sub_d p _ hpl (rn_lt z1 hh) fp (f1 z1).1
  rw [ep, (f1 z1).2] at s1
  generalize (ng p && !ng (rn z1 hh)) = y1 at s1
  have s2 := sub_d _ _ (rn_lt y1 (rd W - hh)) (rn_lt z2 lh) (g1 y1).1 (f2 z2).1
  rw [(g1 y1).2, (f2 z2).2] at s2
  generalize (ng (rn y1 (rd W - hh)) && !ng (rn z2 lh)) = y2 at s2
  have s3 := sub_d _ _ (rn_lt y2 (rd W - hh - lh)) (rn_lt z3 hl) (g2 y2).1 (f3 z3).1
  rw [(g2 y2).2, (f3 z3).2] at s3
  generalize (ng (rn y2 (rd W - hh - lh)) && !ng (rn z3 hl)) = y3 at s3
  have s4 := sub_d _ _ (rn_lt z4 ll) (rn_lt y3 (rd W - hh - lh - hl)) (f4 z4).1 (g3 y3).1
  rw [(f4 z4).2, (g3 y3).2, P.sum] at s4
  generalize (ng (rn z4 ll) && !ng (rn y3 (rd W - hh - lh - hl))) = y4 at s4
  exact ⟨_, _, _, _, _, _, _, _, m1, s1, m2, s2, m3, s3, m4, s4, rn_lt _ _, by rw [hE]; exact canon_rn _ _⟩
end Go.Proofs.YtjgbaenihkplpaaDoor

/-
  Sums in stated orders, by plain numbers (no program).
-/
namespace Go.Proofs.YtjgbaenihkplpaaDoor
open Tf

/-- a NaN as the one -/
def qB (x : Nat) : Nat := if isN x = true then quiet else x
/-- one addition, a NaN as the one -/
def plB (a b : Nat) : Nat := match Ieee.double.add a b with | some r => r | none => quiet
theorem plB_some {a b r : Nat} (h : Ieee.double.add a b = some r) : plB a b = r := by unfold plB; rw [h]
theorem plB_none {a b : Nat} (h : Ieee.double.add a b = none) : plB a b = quiet := by unfold plB; rw [h]
theorem quiet_N : isN quiet = true := by decide
theorem qB_of {x : Nat} (h : isN x = false) : qB x = x := by unfold qB; rw [h]; rfl
theorem qB_N {x : Nat} (h : isN x = true) : qB x = quiet := by unfold qB; rw [h]; rfl
theorem qB_lt {x : Nat} (h : x < 18446744073709551616) : qB x < 18446744073709551616 := by
  unfold qB; split
  · exact quiet_lt
  · exact h
theorem qB_isN (x : Nat) : isN (qB x) = isN x := by
  cases h : isN x
  · rw [qB_of h, h]
  · rw [qB_N h, quiet_N]
theorem qB_qB (x : Nat) : qB (qB x) = qB x := by
  cases h : isN x
  · rw [qB_of h, qB_of h]
  · rw [qB_N h]; decide
theorem add_facts {a b r : Nat} (ha : a < 18446744073709551616) (hb : b < 18446744073709551616) (h : Ieee.double.add a b = some r) : r < 18446744073709551616 ∧ isN r = false := by
  rcases add_cases a b ha hb with ⟨h1, h2⟩ | h' | ⟨s, h'⟩
  · rw [add_d a b ha hb h1 h2] at h; obtain rfl := Option.some.inj h; exact ⟨rn_lt _ _, isN_rn _ _⟩
  · rw [h'] at h; cases h
  · rw [h'] at h; obtain rfl := Option.some.inj h; exact ⟨infW_lt s, by cases s <;> decide⟩
theorem plB_lt {a b : Nat} (ha : a < 18446744073709551616) (hb : b < 18446744073709551616) : plB a b < 18446744073709551616 := by
  unfold plB
  cases h : Ieee.double.add a b with
  | none => exact quiet_lt
  | some r => exact (add_facts ha hb h).1
theorem qB_plB {a b : Nat} (ha : a < 18446744073709551616) (hb : b < 18446744073709551616) : qB (plB a b) = plB a b := by
  unfold plB
  cases h : Ieee.double.add a b with
  | none => decide
  | some r => exact qB_of (add_facts ha hb h).2
theorem add_ql (a b : Nat) : Ieee.double.add (qB a) b = Ieee.double.add a b := by
  cases h : isN a
  · rw [qB_of h]
  · rw [qB_N h, add_nan a b (.inl h), add_nan quiet b (.inl quiet_N)]
theorem add_qr (a b : Nat) : Ieee.double.add a (qB b) = Ieee.double.add a b := by
  cases h : isN b
  · rw [qB_of h]
  · rw [qB_N h, add_nan a b (.inr h), add_nan a quiet (.inr quiet_N)]
theorem plB_ql (a b : Nat) : plB (qB a) b = plB a b := by unfold plB; rw [add_ql]
theorem plB_qr (a b : Nat) : plB a (qB b) = plB a b := by unfold plB; rw [add_qr]
/-- a value that stands for a number, whichever NaN it is -/
def IsQ (s q : Nat) : Prop := s < 18446744073709551616 ∧ qB s = q
theorem IsQ.self {x : Nat} (h : x < 18446744073709551616) : IsQ x (qB x) := ⟨h, rfl⟩
theorem IsQ.lt {s q : Nat} (h : IsQ s q) : q < 18446744073709551616 := by rw [← h.2]; exact qB_lt h.1
theorem IsQ.add {s q x y r : Nat} (h : IsQ s q) (k : IsQ x y) (e : Ieee.double.add s x = some r) : IsQ r (plB q y) := by
  refine ⟨(add_facts h.1 k.1 e).1, ?_⟩
  rw [← h.2, ← k.2, plB_ql, plB_qr, plB_some e, qB_of (add_facts h.1 k.1 e).2]
theorem IsQ.nan {s q x y n : Nat} (h : IsQ s q) (k : IsQ x y) (e : Ieee.double.add s x = none) (n1 : n < 18446744073709551616) (n2 : isN n = true) : IsQ n (plB q y) := by
  refine ⟨n1, ?_⟩
  rw [← h.2, ← k.2, plB_ql, plB_qr, plB_none e, qB_N n2]

/-- from the left: the first k + 1 -/
def lfF (xs : Nat → Nat) : Nat → Nat
  | 0 => qB (xs 0)
  | k + 1 => plB (lfF xs k) (xs (k + 1))
def leftB (xs : Nat → Nat) (n : Nat) : Nat := if n = 0 then 0 else lfF xs (n - 1)
theorem lfF_lt (xs : Nat → Nat) (k : Nat) (h : ∀ j, j ≤ k → xs j < 18446744073709551616) : lfF xs k < 18446744073709551616 := by
  induction k with
  | zero => exact qB_lt (h 0 (Nat.le_refl _))
  | succ k ih => exact plB_lt (ih (fun j hj => h j (by omega))) (h _ (Nat.le_refl _))
theorem lfF_q (xs : Nat → Nat) (k : Nat) (h : ∀ j, j ≤ k → xs j < 18446744073709551616) : qB (lfF xs k) = lfF xs k := by
  cases k with
  | zero => exact qB_qB _
  | succ k => exact qB_plB (lfF_lt xs k (fun j hj => h j (by omega))) (h _ (Nat.le_refl _))
theorem lfF_congr (xs ys : Nat → Nat) (k : Nat) (h : ∀ j, j ≤ k → xs j = ys j) : lfF xs k = lfF ys k := by
  induction k with
  | zero => show qB (xs 0) = qB (ys 0); rw [h 0 (Nat.le_refl _)]
  | succ k ih => show plB _ (xs (k + 1)) = plB _ (ys (k + 1)); rw [ih (fun j hj => h j (by omega)), h _ (Nat.le_refl _)]
theorem leftB_congr (xs ys : Nat → Nat) (n : Nat) (h : ∀ j, j < n → xs j = ys j) : leftB xs n = leftB ys n := by
  unfold leftB
  split
  · rfl
  · exact lfF_congr xs ys _ (fun j hj => h j (by omega))
theorem leftB_lt (xs : Nat → Nat) (n : Nat) (h : ∀ j, j < n → xs j < 18446744073709551616) : leftB xs n < 18446744073709551616 := by
  unfold leftB
  split
  · decide
  · exact lfF_lt xs _ (fun j hj => h j (by omega))
theorem leftB_q (xs : Nat → Nat) (n : Nat) (h : ∀ j, j < n → xs j < 18446744073709551616) : qB (leftB xs n) = leftB xs n := by
  unfold leftB
  split
  · decide
  · exact lfF_q xs _ (fun j hj => h j (by omega))
/-- by pairs: of n numbers from place o on -/
def prF (xs : Nat → Nat) : Nat → Nat → Nat → Nat
  | 0, _, _ => 0
  | f + 1, o, n => if n = 0 then 0 else if n = 1 then qB (xs o) else plB (prF xs f o ((n + 1) / 2)) (prF xs f (o + (n + 1) / 2) (n - (n + 1) / 2))
theorem prF_zero (xs : Nat → Nat) (f o : Nat) : prF xs f o 0 = 0 := by
  cases f with
  | zero => rfl
  | succ f => show (if 0 = 0 then 0 else _) = 0; rw [if_pos rfl]
theorem prF_fuel (xs : Nat → Nat) : ∀ (f g o n : Nat), n ≤ f → n ≤ g → prF xs f o n = prF xs g o n := by
  intro f
  induction f with
  | zero =>
    intro g o n h _
    obtain rfl : n = 0 := by omega
    rw [prF_zero, prF_zero]
  | succ f ih =>
    intro g o n h1 h2
    by_cases h0 : n = 0
    · subst h0; rw [prF_zero, prF_zero]
    · obtain ⟨g', rfl⟩ : ∃ g', g = g' + 1 := ⟨g - 1, by omega⟩
      show (if n = 0 then 0 else if n = 1 then qB (xs o) else plB (prF xs f o ((n + 1) / 2)) (prF xs f (o + (n + 1) / 2) (n - (n + 1) / 2))) = (if n = 0 then 0 else if n = 1 then qB (xs o) else plB (prF xs g' o ((n + 1) / 2)) (prF xs g' (o + (n + 1) / 2) (n - (n + 1) / 2)))
      rw [if_neg h0, if_neg h0]
      by_cases h3 : n = 1
      · rw [if_pos h3, if_pos h3]
      · rw [if_neg h3, if_neg h3, ih g' o _ (by omega) (by omega), ih g' _ (n - (n + 1) / 2) (by omega) (by omega)]
def prB (xs : Nat → Nat) (o n : Nat) : Nat := prF xs n o n
theorem prB_zero (xs : Nat → Nat) (o : Nat) : prB xs o 0 = 0 := rfl
theorem prB_one (xs : Nat → Nat) (o : Nat) : prB xs o 1 = qB (xs o) := rfl
theorem prB_more (xs : Nat → Nat) (o n : Nat) (h : 2 ≤ n) : prB xs o n = plB (prB xs o ((n + 1) / 2)) (prB xs (o + (n + 1) / 2) (n - (n + 1) / 2)) := by
  obtain ⟨m, rfl⟩ : ∃ m, n = m + 1 := ⟨n - 1, by omega⟩
  unfold prB
  show (if m + 1 = 0 then 0 else if m + 1 = 1 then qB (xs o) else plB (prF xs m o ((m + 1 + 1) / 2)) (prF xs m (o + (m + 1 + 1) / 2) (m + 1 - (m + 1 + 1) / 2))) = _
  rw [if_neg (by omega), if_neg (by omega), prF_fuel xs m _ o ((m + 1 + 1) / 2) (by omega) (Nat.le_refl _), prF_fuel xs m _ (o + (m + 1 + 1) / 2) (m + 1 - (m + 1 + 1) / 2) (by omega) (Nat.le_refl _)]
theorem prB_lt (xs : Nat → Nat) : ∀ (n o : Nat), (∀ j, j < n → xs (o + j) < 18446744073709551616) → prB xs o n < 18446744073709551616 := by
  intro n
  induction n using Nat.strongRecOn with
  | ind n ih =>
    intro o h
    by_cases h0 : n = 0
    · subst h0; rw [prB_zero]; decide
    by_cases h1 : n = 1
    · subst h1; rw [prB_one]; exact qB_lt (h 0 (by omega))
    rw [prB_more xs o n (by omega)]
    exact plB_lt (ih _ (by omega) o (fun j hj => h j (by omega))) (ih _ (by omega) _ (fun j hj => by rw [Nat.add_assoc]; exact h _ (by omega)))
theorem prB_q (xs : Nat → Nat) (n o : Nat) (h : ∀ j, j < n → xs (o + j) < 18446744073709551616) : qB (prB xs o n) = prB xs o n := by
  by_cases h0 : n = 0
  · subst h0; rw [prB_zero]; decide
  by_cases h1 : n = 1
  · subst h1; rw [prB_one]; exact qB_qB _
  rw [prB_more xs o n (by omega)]
  exact qB_plB (prB_lt xs _ o (fun j hj => h j (by omega))) (prB_lt xs _ _ (fun j hj => by rw [Nat.add_assoc]; exact h _ (by omega)))
theorem prB_congr (xs ys : Nat → Nat) : ∀ (n o p : Nat), (∀ j, j < n → xs (o + j) = ys (p + j)) → prB xs o n = prB ys p n := by
  intro n
  induction n using Nat.strongRecOn with
  | ind n ih =>
    intro o p h
    by_cases h0 : n = 0
    · subst h0; rw [prB_zero, prB_zero]
    by_cases h1 : n = 1
    · subst h1; rw [prB_one, prB_one]; have := h 0 (by omega); rw [Nat.add_zero, Nat.add_zero] at this; rw [this]
    rw [prB_more xs o n (by omega), prB_more ys p n (by omega), ih _ (by omega) o p (fun j hj => h j (by omega)), ih _ (by omega) (o + (n + 1) / 2) (p + (n + 1) / 2) (fun j hj => by rw [Nat.add_assoc, Nat.add_assoc]; exact h _ (by omega))]
theorem prB_two (xs : Nat → Nat) (n : Nat) (h : n ≤ 2) : prB xs 0 n = leftB xs n := by
  by_cases h0 : n = 0
  · subst h0; rw [prB_zero]; rfl
  by_cases h1 : n = 1
  · subst h1; rw [prB_one]; rfl
  obtain rfl : n = 2 := by omega
  rw [prB_more xs 0 2 (by omega)]
  show plB (prB xs 0 1) (prB xs 1 1) = plB (qB (xs 0)) (xs 1)
  rw [prB_one, prB_one, plB_qr]
/-- carefully -/
def caS (xs : Nat → Nat) : Nat → Nat
  | 0 => 0
  | k + 1 => addB (caS xs k) (xs k)
def caC (xs : Nat → Nat) : Nat → Nat
  | 0 => 0
  | k + 1 => plB (caC xs k) (sumE (caS xs k) (xs k))
def careB (xs : Nat → Nat) (n : Nat) : Nat := plB (caS xs n) (caC xs n)
theorem caS_lt (xs : Nat → Nat) (k : Nat) (h : ∀ j, j < k → xs j < 18446744073709551616) : caS xs k < 18446744073709551616 := by
  induction k with
  | zero => show 0 < _; decide
  | succ k ih => exact addB_lt _ _ (ih (fun j hj => h j (by omega))) (h k (by omega))
theorem caC_lt (xs : Nat → Nat) (k : Nat) : caC xs k < 18446744073709551616 := by
  induction k with
  | zero => show 0 < _; decide
  | succ k ih => exact plB_lt ih (sumE_lt _ _)
theorem caC_q (xs : Nat → Nat) (k : Nat) : qB (caC xs k) = caC xs k := by
  cases k with
  | zero => show qB 0 = 0; decide
  | succ k => exact qB_plB (caC_lt xs k) (sumE_lt _ _)
theorem caS_congr (xs ys : Nat → Nat) (k : Nat) (h : ∀ j, j < k → xs j = ys j) : caS xs k = caS ys k := by
  induction k with
  | zero => rfl
  | succ k ih => show addB _ (xs k) = addB _ (ys k); rw [ih (fun j hj => h j (by omega)), h k (by omega)]
theorem caC_congr (xs ys : Nat → Nat) (k : Nat) (h : ∀ j, j < k → xs j = ys j) : caC xs k = caC ys k := by
  induction k with
  | zero => rfl
  | succ k ih => show plB _ (sumE _ (xs k)) = plB _ (sumE _ (ys k)); rw [ih (fun j hj => h j (by omega)), h k (by omega), caS_congr xs ys k (fun j hj => h j (by omega))]
theorem careB_congr (xs ys : Nat → Nat) (k : Nat) (h : ∀ j, j < k → xs j = ys j) : careB xs k = careB ys k := by
  unfold careB; rw [caS_congr xs ys k h, caC_congr xs ys k h]
theorem careB_lt (xs : Nat → Nat) (k : Nat) (h : ∀ j, j < k → xs j < 18446744073709551616) : careB xs k < 18446744073709551616 := plB_lt (caS_lt xs k h) (caC_lt xs k)
theorem careB_q (xs : Nat → Nat) (k : Nat) (h : ∀ j, j < k → xs j < 18446744073709551616) : qB (careB xs k) = careB xs k := qB_plB (caS_lt xs k h) (caC_lt xs k)
/-- three, the least magnitudes first -/
def key (x : Nat) : Nat := 2 * mg x + (if ng x then 0 else 1)
theorem key_inj {a b : Nat} (ha : a < 18446744073709551616) (hb : b < 18446744073709551616) (h : key a = key b) : a = b := by
  have h1 := word_eq a ha
  have h2 := word_eq b hb
  unfold key at h
  revert h1 h2 h
  cases ng a <;> cases ng b <;> simp <;> omega
def loB (a b : Nat) : Nat := if key b < key a then b else a
def hiB (a b : Nat) : Nat := if key b < key a then a else b
def thB (a b c : Nat) : Nat := plB (plB (loB (loB a b) (loB (hiB a b) c)) (hiB (loB a b) (loB (hiB a b) c))) (hiB (hiB a b) c)
theorem thB_12 {a b c : Nat} (ha : a < 18446744073709551616) (hb : b < 18446744073709551616) : thB a b c = thB b a c := by
  have e : loB a b = loB b a ∧ hiB a b = hiB b a := by
    unfold loB hiB
    by_cases h1 : key b < key a
    · rw [if_pos h1, if_neg (by omega), if_pos h1, if_neg (by omega)]; exact ⟨rfl, rfl⟩
    · by_cases h2 : key a < key b
      · rw [if_neg h1, if_pos h2, if_neg h1, if_pos h2]; exact ⟨rfl, rfl⟩
      · have : a = b := key_inj ha hb (by omega)
        subst this; exact ⟨rfl, rfl⟩
  unfold thB; rw [e.1, e.2]
end Go.Proofs.YtjgbaenihkplpaaDoor
