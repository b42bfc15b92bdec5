/-
  The product of two numbers by their halves: nothing is rounded but the product itself, by plain numbers (no program).
-/
import Derived.Test.YtgbaaafikphafaaPe
namespace Go.Proofs.Ytgbaaafikphafaa
open Tf

theorem pf_a (X Y m n a b J k : Int) (hx : X = m * a) (hy : Y = n * b) (e : a * b = J * k) : X * Y = m * n * J * k := by
  rw [hx, hy]
  have h1 : m * a * (n * b) = m * n * (a * b) := by ac_rfl
  rw [h1, e]; ac_rfl
theorem pf_b (X Y x y a b A B S W J k : Int) (hk : k ≠ 0) (ex : X * A = x * a) (ey : Y * B = y * b) (eS : S = A * B) (e : a * b = J * k) (eW : X * Y = W * k) : W * S = x * y * J := by
  refine Int.eq_of_mul_eq_mul_right hk ?_
  have h1 : W * S * k = W * k * S := by ac_rfl
  rw [h1, ← eW, eS]
  have h2 : X * Y * (A * B) = X * A * (Y * B) := by ac_rfl
  rw [h2, ex, ey]
  have h3 : x * a * (y * b) = x * y * (a * b) := by ac_rfl
  rw [h3, e]; ac_rfl
theorem prod_form (X Y x y m n : Int) (sa sb ka kb : Nat) (ex : X * ((2 ^ sa : Nat) : Int) = x * ((2 ^ ka : Nat) : Int)) (ey : Y * ((2 ^ sb : Nat) : Int) = y * ((2 ^ kb : Nat) : Int))
    (hx : X = m * ((2 ^ ka : Nat) : Int)) (hy : Y = n * ((2 ^ kb : Nat) : Int)) (h : K ≤ ka + kb) :
    ∃ W : Int, X * Y = W * ((2 ^ K : Nat) : Int) ∧ W * ((2 ^ (sa + sb) : Nat) : Int) = x * y * ((2 ^ (ka + kb - K) : Nat) : Int) := by
  have e0 : ((2 ^ ka : Nat) : Int) * ((2 ^ kb : Nat) : Int) = ((2 ^ (ka + kb - K) : Nat) : Int) * ((2 ^ K : Nat) : Int) := by
    rw [← Int.natCast_mul, ← Int.natCast_mul, ← Nat.pow_add, ← Nat.pow_add, Nat.sub_add_cancel h]
  have e1 := pf_a X Y m n _ _ _ _ hx hy e0
  have hK : ((2 ^ K : Nat) : Int) ≠ 0 := by have := pow_pos K; omega
  refine ⟨_, e1, ?_⟩
  exact pf_b X Y x y _ _ _ _ _ _ _ _ hK ex ey (by rw [Nat.pow_add, Int.natCast_mul]) e0 e1

theorem mul_bound (a b : Int) (ha : a.natAbs ≤ 67108864) (hb : b.natAbs ≤ 67108864) : -4503599627370496 ≤ a * b ∧ a * b ≤ 4503599627370496 := by
  have h : (a * b).natAbs ≤ 67108864 * 67108864 := by rw [Int.natAbs_mul]; exact Nat.mul_le_mul ha hb
  generalize a * b = c at *
  omega
theorem in53 {a : Int} (h : -4503599627370496 ≤ a ∧ a ≤ 4503599627370496) : a.natAbs ≤ 2 ^ 53 := by omega
theorem pr_a (ab u v x z : Int) (e : ab = u * 18014398509481984 + (v + x) * 134217728 + z) (hv : -4503599627370496 ≤ v ∧ v ≤ 4503599627370496) (hx : -4503599627370496 ≤ x ∧ x ≤ 4503599627370496) (hz : -4503599627370496 ≤ z ∧ z ≤ 4503599627370496) (G : Int) (hG : (ab - G * 4503599627370496).natAbs ≤ 4503599627370496) :
    (G - u * 4).natAbs ≤ 536870912 ∧ ((G - u * 4) * 33554432 - x).natAbs ≤ 9007199254740992 ∧ ((G - u * 4) * 33554432 - x - v).natAbs ≤ 134217728 ∧ z - ((G - u * 4) * 33554432 - x - v) * 134217728 = ab - G * 4503599627370496 := by
  obtain ⟨t, ht⟩ : ∃ t, G - u * 4 = t := ⟨_, rfl⟩
  have hG' : ab - G * 4503599627370496 = (v + x) * 134217728 + z - t * 4503599627370496 := by omega
  rw [hG'] at hG
  rw [ht, hG']
  clear hG' e ht
  refine ⟨by omega, by omega, by omega, by omega⟩
theorem pr_b (ab u v x z G : Int) (h1 : 20282409603651670423947251286016 ≤ ab.natAbs) (hu : -4503599627370496 ≤ u ∧ u ≤ 4503599627370496) (hv : -4503599627370496 ≤ v ∧ v ≤ 4503599627370496) (hx : -4503599627370496 ≤ x ∧ x ≤ 4503599627370496) (hz : -4503599627370496 ≤ z ∧ z ≤ 4503599627370496)
    (hG : (ab - G * 4503599627370496).natAbs ≤ 4503599627370496) (t1 : (G - u * 4).natAbs ≤ 536870912) (t2 : ((G - u * 4) * 33554432 - x).natAbs ≤ 9007199254740992) (t3 : ((G - u * 4) * 33554432 - x - v).natAbs ≤ 134217728) :
    ab.natAbs ≤ 2 * (G * 4503599627370496).natAbs ∧ (u * 18014398509481984).natAbs ≤ 4 * ab.natAbs ∧ (x * 134217728).natAbs ≤ 4 * ab.natAbs ∧ (v * 134217728).natAbs ≤ 4 * ab.natAbs ∧ z.natAbs ≤ 4 * ab.natAbs ∧ ((G - u * 4) * 4503599627370496).natAbs ≤ 4 * ab.natAbs ∧ (((G - u * 4) * 33554432 - x) * 134217728).natAbs ≤ 4 * ab.natAbs ∧ (((G - u * 4) * 33554432 - x - v) * 134217728).natAbs ≤ 4 * ab.natAbs ∧ (ab - G * 4503599627370496).natAbs ≤ 4 * ab.natAbs := by
  refine ⟨?_, ?_, ?_, ?_, ?_, ?_, ?_, ?_, ?_⟩
  · clear t1 t2 t3; omega
  · clear t1 t2 t3 hG; omega
  · clear t1 t2 t3 hG; omega
  · clear t1 t2 t3 hG; omega
  · clear t1 t2 t3 hG; omega
  · clear t2 t3 hG; generalize G - u * 4 = t at *; omega
  · clear t1 t3 hG; generalize (G - u * 4) * 33554432 - x = t at *; omega
  · clear t1 t2 hG; generalize (G - u * 4) * 33554432 - x - v = t at *; omega
  · clear t1 t2 t3; omega

theorem fourP (η l θ n : Int) : (η * 134217728 + l) * (θ * 134217728 + n) = η * θ * 18014398509481984 + (η * n + l * θ) * 134217728 + l * n := by grind

/-- bound of a number in scaled form by another one -/
theorem scaled_le (W V x y : Int) (s j c : Nat) (hW : W * ((2 ^ s : Nat) : Int) = x * ((2 ^ j : Nat) : Int)) (hV : V * ((2 ^ s : Nat) : Int) = y * ((2 ^ j : Nat) : Int)) (h : y.natAbs ≤ c * x.natAbs) : V.natAbs ≤ c * W.natAbs := by
  have a : W.natAbs * 2 ^ s = x.natAbs * 2 ^ j := by
    have := congrArg Int.natAbs hW
    rwa [Int.natAbs_mul, Int.natAbs_mul, Int.natAbs_natCast, Int.natAbs_natCast] at this
  have b : V.natAbs * 2 ^ s = y.natAbs * 2 ^ j := by
    have := congrArg Int.natAbs hV
    rwa [Int.natAbs_mul, Int.natAbs_mul, Int.natAbs_natCast, Int.natAbs_natCast] at this
  refine cancel_le (pow_pos s) ?_
  rw [b, Nat.mul_assoc, a, ← Nat.mul_assoc]
  exact Nat.mul_le_mul_right _ h

/-- what the walk over Product needs to know -/
structure Pp (X Y W hh lh hl ll : Int) : Prop where
  eW : X * Y = W * ((2 ^ K : Nat) : Int)
  ehh : hiV X * hiV Y = hh * ((2 ^ K : Nat) : Int)
  elh : (X - hiV X) * hiV Y = lh * ((2 ^ K : Nat) : Int)
  ehl : hiV X * (Y - hiV Y) = hl * ((2 ^ K : Nat) : Int)
  ell : (X - hiV X) * (Y - hiV Y) = ll * ((2 ^ K : Nat) : Int)
  dhh : isD hh
  dlh : isD lh
  dhl : isD hl
  dll : isD ll
  d1 : isD (rd W - hh)
  d2 : isD (rd W - hh - lh)
  d3 : isD (rd W - hh - lh - hl)
  de : isD (W - rd W)
  sum : ll - (rd W - hh - lh - hl) = W - rd W
  bW : W.natAbs ≤ 2 * (rd W).natAbs
  bhh : hh.natAbs ≤ 4 * W.natAbs
  blh : lh.natAbs ≤ 4 * W.natAbs
  bhl : hl.natAbs ≤ 4 * W.natAbs
  bll : ll.natAbs ≤ 4 * W.natAbs
  b1 : (rd W - hh).natAbs ≤ 4 * W.natAbs
  b2 : (rd W - hh - lh).natAbs ≤ 4 * W.natAbs
  b3 : (rd W - hh - lh - hl).natAbs ≤ 4 * W.natAbs
  be : (W - rd W).natAbs ≤ 4 * W.natAbs

theorem pp_any (X Y : Int) (sa ka sb kb : Nat) (α η β θ : Int) (p : Sp X sa ka α η) (q : Sp Y sb kb β θ) (h : K ≤ ka + kb) : ∃ W hh lh hl ll, Pp X Y W hh lh hl ll := by
  obtain ⟨mX, eX⟩ := p.mX
  obtain ⟨mH, eH⟩ := p.mH
  obtain ⟨mL, eL⟩ := p.mL
  obtain ⟨nX, fX⟩ := q.mX
  obtain ⟨nH, fH⟩ := q.mH
  obtain ⟨nL, fL⟩ := q.mL
  obtain ⟨W, w1, w2⟩ := prod_form X Y α β mX nX sa sb ka kb p.eX q.eX eX fX h
  obtain ⟨hh, hh1, hh2⟩ := prod_form _ _ _ _ mH nH sa sb ka kb p.eH q.eH eH fH h
  obtain ⟨lh, lh1, lh2⟩ := prod_form _ _ _ _ mL nH sa sb ka kb p.eL q.eH eL fH h
  obtain ⟨hl, hl1, hl2⟩ := prod_form _ _ _ _ mH nL sa sb ka kb p.eH q.eL eH fL h
  obtain ⟨ll, ll1, ll2⟩ := prod_form _ _ _ _ mL nL sa sb ka kb p.eL q.eL eL fL h
  obtain ⟨l, hl_⟩ : ∃ l, α - η * 134217728 = l := ⟨_, rfl⟩
  obtain ⟨n, hn_⟩ : ∃ n, β - θ * 134217728 = n := ⟨_, rfl⟩
  have bη := p.hη
  have bθ := q.hη
  have bl := p.hl
  have bn := q.hl
  have aLo := p.lo
  have bLo := q.lo
  have aHi := p.hi
  have bHi := q.hi
  rw [hl_] at lh2 ll2 bl
  rw [hn_] at hl2 ll2 bn
  have eα : α = η * 134217728 + l := by omega
  have eβ : β = θ * 134217728 + n := by omega
  have u1 := mul_bound η θ bη bθ
  have v1 := mul_bound η n bη bn
  have x1 := mul_bound l θ bl bθ
  have z1 := mul_bound l n bl bn
  have e4 : α * β = η * θ * 18014398509481984 + (η * n + l * θ) * 134217728 + l * n := by rw [eα, eβ]; exact fourP η l θ n
  have c1 : 20282409603651670423947251286016 ≤ (α * β).natAbs := by
    rw [Int.natAbs_mul]; exact Nat.le_trans (by omega) (Nat.mul_le_mul aLo bLo)
  have c2 : (α * β).natAbs ≤ 81129638414606681695789005144064 := by
    rw [Int.natAbs_mul]; exact Nat.le_trans (Nat.mul_le_mul (Nat.le_of_lt aHi) (Nat.le_of_lt bHi)) (by omega)
  have r1 : η * 134217728 * (θ * 134217728) = η * θ * 18014398509481984 := by grind
  have r2 : l * (θ * 134217728) = l * θ * 134217728 := by grind
  have r3 : η * 134217728 * n = η * n * 134217728 := by grind
  rw [r1] at hh2
  rw [r2] at lh2
  rw [r3] at hl2
  generalize α * β = ab at *
  generalize η * θ = u at *
  generalize η * n = v at *
  generalize l * θ = x at *
  generalize l * n = z at *
  generalize sa + sb = s at *
  generalize ka + kb - K = j at *
  clear bη bθ bl bn aLo bLo aHi bHi eα eβ hl_ hn_ r1 r2 r3
  -- the rounded product
  have hP : ∃ G : Int, rd W * ((2 ^ s : Nat) : Int) = G * 4503599627370496 * ((2 ^ j : Nat) : Int) ∧ (ab - G * 4503599627370496).natAbs ≤ 4503599627370496 := by
    by_cases c : ab.natAbs ≤ 40564819207303340847894502572032
    · obtain ⟨D, d0, _, _, d3⟩ := rd_step2 s j 52 _ _ w2 (by omega) (by omega)
      have e52 : D * ((2 ^ 52 : Nat) : Int) = D * 4503599627370496 := rfl
      rw [e52] at d0 d3
      exact ⟨D, d0, by omega⟩
    · obtain ⟨D, d0, _, _, d3⟩ := rd_step2 s j 53 _ _ w2 (by omega) (by omega)
      have e53 : D * ((2 ^ 53 : Nat) : Int) = D * 2 * 4503599627370496 := by rw [Int.mul_assoc]; rfl
      rw [e53] at d0 d3
      exact ⟨D * 2, d0, by omega⟩
  obtain ⟨G, g0, g1⟩ := hP
  obtain ⟨q1, q2, q3, q4⟩ := pr_a ab u v x z e4 v1 x1 z1 G g1
  obtain ⟨o1, o2, o3, o4, o5, o6, o7, o8, o9⟩ := pr_b ab u v x z G c1 u1 v1 x1 z1 g1 q1 q2 q3
  clear e4
  have t1 : (rd W - hh) * ((2 ^ s : Nat) : Int) = (G - u * 4) * 4503599627370496 * ((2 ^ j : Nat) : Int) := by
    rw [Int.sub_mul, g0, hh2, ← Int.sub_mul]
    have : G * 4503599627370496 - u * 18014398509481984 = (G - u * 4) * 4503599627370496 := by clear q1 q2 q3 o1 o2 o3 o4 o5 o6 o7 o8 o9 g1 c1 c2; omega
    rw [this]
  have t2 : (rd W - hh - lh) * ((2 ^ s : Nat) : Int) = ((G - u * 4) * 33554432 - x) * 134217728 * ((2 ^ j : Nat) : Int) := by
    rw [Int.sub_mul, t1, lh2, ← Int.sub_mul]
    have : (G - u * 4) * 4503599627370496 - x * 134217728 = ((G - u * 4) * 33554432 - x) * 134217728 := by clear q1 q2 q3 o1 o2 o3 o4 o5 o6 o7 o8 o9 g1 c1 c2; omega
    rw [this]
  have t3 : (rd W - hh - lh - hl) * ((2 ^ s : Nat) : Int) = ((G - u * 4) * 33554432 - x - v) * 134217728 * ((2 ^ j : Nat) : Int) := by
    rw [Int.sub_mul, t2, hl2, ← Int.sub_mul]
    have : ((G - u * 4) * 33554432 - x) * 134217728 - v * 134217728 = ((G - u * 4) * 33554432 - x - v) * 134217728 := by clear q1 q2 q3 o1 o2 o3 o4 o5 o6 o7 o8 o9 g1 c1 c2; omega
    rw [this]
  have te : (W - rd W) * ((2 ^ s : Nat) : Int) = (ab - G * 4503599627370496) * ((2 ^ j : Nat) : Int) := by
    rw [Int.sub_mul, w2, g0, ← Int.sub_mul]
  have k1 : isD (rd W - hh) := by
    refine isD_of _ (G - u * 4) s (52 + j) ?_ (Nat.le_trans q1 (by decide))
    rw [t1, Nat.pow_add, Int.natCast_mul, ← Int.mul_assoc]; rfl
  have k2 : isD (rd W - hh - lh) := by
    refine isD_of _ ((G - u * 4) * 33554432 - x) s (27 + j) ?_ q2
    rw [t2, Nat.pow_add, Int.natCast_mul, ← Int.mul_assoc]; rfl
  have k3 : isD (rd W - hh - lh - hl) := by
    refine isD_of _ ((G - u * 4) * 33554432 - x - v) s (27 + j) ?_ (Nat.le_trans q3 (by decide))
    rw [t3, Nat.pow_add, Int.natCast_mul, ← Int.mul_assoc]; rfl
  have ke : isD (W - rd W) := isD_of _ _ s j te (Nat.le_trans g1 (by decide))
  have khh : isD hh := by
    refine isD_of _ u s (54 + j) ?_ (in53 u1)
    rw [hh2, Nat.pow_add, Int.natCast_mul, ← Int.mul_assoc]; rfl
  have klh : isD lh := by
    refine isD_of _ x s (27 + j) ?_ (in53 x1)
    rw [lh2, Nat.pow_add, Int.natCast_mul, ← Int.mul_assoc]; rfl
  have khl : isD hl := by
    refine isD_of _ v s (27 + j) ?_ (in53 v1)
    rw [hl2, Nat.pow_add, Int.natCast_mul, ← Int.mul_assoc]; rfl
  have kll : isD ll := isD_of _ z s j ll2 (in53 z1)
  have hs0 : ((2 ^ s : Nat) : Int) ≠ 0 := by have := pow_pos s; omega
  have esum : ll - (rd W - hh - lh - hl) = W - rd W := by
    refine Int.eq_of_mul_eq_mul_right hs0 ?_
    rw [te, Int.sub_mul, t3, ll2, ← Int.sub_mul]
    rw [q4]
  refine ⟨W, hh, lh, hl, ll, w1, hh1, lh1, hl1, ll1, khh, klh, khl, kll, k1, k2, k3, ke, esum, ?_, ?_, ?_, ?_, ?_, ?_, ?_, ?_, ?_⟩
  · exact scaled_le _ _ _ _ s j 2 g0 w2 o1
  · exact scaled_le _ _ _ _ s j 4 w2 hh2 o2
  · exact scaled_le _ _ _ _ s j 4 w2 lh2 o3
  · exact scaled_le _ _ _ _ s j 4 w2 hl2 o4
  · exact scaled_le _ _ _ _ s j 4 w2 ll2 o5
  · exact scaled_le _ _ _ _ s j 4 w2 t1 o6
  · exact scaled_le _ _ _ _ s j 4 w2 t2 o7
  · exact scaled_le _ _ _ _ s j 4 w2 t3 o8
  · exact scaled_le _ _ _ _ s j 4 w2 te o9

/-- A PRODUCT FROM 2 ^ -969 ON is a whole number of units. -/
theorem kk_ge (x y : Nat) (h : 2 ^ 105 ≤ mv (rung 52 K (mv x * mv y))) : K ≤ (x / 2 ^ 52 - 1) + (y / 2 ^ 52 - 1) := by
  obtain ⟨α, hα, eα⟩ := mv_form2 x
  obtain ⟨β, hβ, eβ⟩ := mv_form2 y
  generalize x / 2 ^ 52 - 1 = i at *
  generalize y / 2 ^ 52 - 1 = j at *
  by_cases c : K ≤ i + j
  · exact c
  · exfalso
    obtain ⟨d, hd⟩ : ∃ d, K = (i + j) + (d + 1) := ⟨K - (i + j) - 1, by omega⟩
    have eV : mv x * mv y = α * β * 2 ^ (i + j) := by rw [eα, eβ, Nat.pow_add]; ac_rfl
    obtain ⟨t, ht⟩ := rep 52 (2 ^ 53 - 1) 52 (by omega)
    have h1 : mv x * mv y ≤ mag 52 t * 2 ^ K := by
      rw [eV, ht, hd, Nat.pow_add 2 (i + j) (d + 1)]
      have a1 : α * β ≤ (2 ^ 53 - 1) * (2 ^ 53 - 1) := Nat.mul_le_mul (by omega) (by omega)
      have a2 : 2 ^ 1 ≤ 2 ^ (d + 1) := Nat.pow_le_pow_right (by omega) (by omega)
      have a3 : (2 ^ 53 - 1) * 2 ^ 52 * (2 ^ (i + j) * 2 ^ (d + 1)) = (2 ^ 53 - 1) * 2 ^ 52 * 2 ^ (d + 1) * 2 ^ (i + j) := by ac_rfl
      rw [a3]
      refine Nat.mul_le_mul_right _ ?_
      generalize α * β = g at *
      generalize 2 ^ (d + 1) = D at *
      omega
    have h2 : rung 52 K (mv x * mv y) ≤ t := rung_le (by omega) h1
    have h3 : mv (rung 52 K (mv x * mv y)) ≤ (2 ^ 53 - 1) * 2 ^ 52 := by rw [← ht]; exact mv_le.2 h2
    omega
end Go.Proofs.Ytgbaaafikphafaa
