/-
  Rounding to the nearest, ties to even, and the ladder of magnitudes (plain numbers, no program).
-/
import Ieee.Arith
namespace Go.Proofs.Ytgbaaafikphafaa.Tf

/-- n / g to the nearest whole number, of two equally near the even one. -/
def rne (n g : Nat) : Nat := n / g + (if g < 2 * (n % g) ∨ (g = 2 * (n % g) ∧ n / g % 2 = 1) then 1 else 0)

theorem pow_pos (k : Nat) : 0 < 2 ^ k := Nat.two_pow_pos k

theorem shl_one (d : Nat) : 1 <<< d = 2 ^ d := by rw [Nat.shiftLeft_eq, Nat.one_mul]

theorem cut_even (neg : Bool) (n d : Nat) : Ieee.Toward.even.cut neg n d = rne n (2 ^ d) := by
  unfold Ieee.Toward.cut rne
  simp only [shl_one]
  by_cases h : d ≤ n.log2 + 2
  · rw [Nat.min_eq_left h]
    by_cases a : 2 ^ d < 2 * (n % 2 ^ d)
    · simp [a]
    · by_cases b : 2 ^ d = 2 * (n % 2 ^ d)
      · by_cases c : n / 2 ^ d % 2 = 1
        · simp [← b, c]
        · simp [← b, c]
      · simp [a, b]
  · rw [Nat.min_eq_right (by omega)]
    have h1 : n < 2 ^ (n.log2 + 1) := Nat.lt_log2_self
    have h2 : 2 ^ (n.log2 + 2) = 2 * 2 ^ (n.log2 + 1) := by rw [Nat.pow_succ]; omega
    have h3 : 2 ^ (n.log2 + 2) ≤ 2 ^ d := Nat.pow_le_pow_right (by omega) (by omega)
    have q1 : n / 2 ^ (n.log2 + 2) = 0 := Nat.div_eq_of_lt (by omega)
    have q2 : n / 2 ^ d = 0 := Nat.div_eq_of_lt (by omega)
    have r1 : n % 2 ^ (n.log2 + 2) = n := Nat.mod_eq_of_lt (by omega)
    have r2 : n % 2 ^ d = n := Nat.mod_eq_of_lt (by omega)
    rw [q1, q2, r1, r2]
    have a1 : ¬ 2 ^ (n.log2 + 2) < 2 * n := by omega
    have a2 : ¬ 2 ^ d < 2 * n := by omega
    simp [a1, a2]

theorem rne_one (n : Nat) : rne n 1 = n := by
  unfold rne; simp [Nat.mod_one]

theorem rne_mul (q g : Nat) (hg : 0 < g) : rne (q * g) g = q := by
  unfold rne
  rw [Nat.mul_mod_left, Nat.mul_div_cancel _ hg]
  have : ¬ (g < 2 * 0 ∨ g = 2 * 0 ∧ q % 2 = 1) := by omega
  rw [if_neg this]; omega

theorem rne_scale (n g c : Nat) (hc : 0 < c) : rne (n * c) (g * c) = rne n g := by
  unfold rne
  rw [Nat.mul_div_mul_right _ _ hc, Nat.mul_mod_mul_right]
  have e1 : (g * c < 2 * (n % g * c)) ↔ g < 2 * (n % g) := by
    rw [← Nat.mul_assoc]; exact Nat.mul_lt_mul_right hc
  have e2 : (g * c = 2 * (n % g * c)) ↔ g = 2 * (n % g) := by
    rw [← Nat.mul_assoc]; exact Nat.mul_left_inj (by omega)
  simp only [e1, e2]

theorem rne_ge (n g : Nat) : n / g ≤ rne n g := by unfold rne; omega
theorem rne_le (n g : Nat) : rne n g ≤ n / g + 1 := by unfold rne; split <;> omega

theorem rne_mono {n n' : Nat} (g : Nat) (h : n ≤ n') : rne n g ≤ rne n' g := by
  have hd : n / g ≤ n' / g := Nat.div_le_div_right h
  by_cases e : n / g = n' / g
  · have m1 := Nat.div_add_mod n g
    have m2 := Nat.div_add_mod n' g
    rw [e] at m1
    have hm : n % g ≤ n' % g := by omega
    unfold rne; rw [e]
    by_cases c : g < 2 * (n % g) ∨ (g = 2 * (n % g) ∧ n' / g % 2 = 1)
    · rw [if_pos c, if_pos (by omega)]; omega
    · rw [if_neg c]; omega
  · have := rne_le n g
    have := rne_ge n' g
    omega

/-- the magnitude of rung r, in units of the least place -/
def mag (p r : Nat) : Nat := if r < 2 ^ p then r else (2 ^ p + r % 2 ^ p) * 2 ^ (r / 2 ^ p - 1)

/-- the rung nearest to V / 2 ^ d units, without the end -/
def rung (p d V : Nat) : Nat := (V.log2 - (p + d)) * 2 ^ p + rne V (2 ^ (V.log2 - (p + d) + d))

theorem div_mod_succ (r g : Nat) (hg : 0 < g) : ((r + 1) % g = r % g + 1 ∧ (r + 1) / g = r / g) ∨ (r % g = g - 1 ∧ (r + 1) % g = 0 ∧ (r + 1) / g = r / g + 1) := by
  have h1 := Nat.div_add_mod r g
  have h2 := Nat.mod_lt r hg
  by_cases c : r % g + 1 < g
  · left
    have e : r + 1 = (r % g + 1) + g * (r / g) := by omega
    constructor
    · rw [e, Nat.add_mul_mod_self_left, Nat.mod_eq_of_lt c]
    · rw [e, Nat.add_mul_div_left _ _ hg, Nat.div_eq_of_lt c]; omega
  · right
    have e : r + 1 = g * (r / g + 1) := by rw [Nat.mul_add]; omega
    refine ⟨by omega, ?_, ?_⟩
    · rw [e, Nat.mul_mod_right]
    · rw [e, Nat.mul_div_cancel_left _ hg]

/-- the step from rung r to the next -/
def gap (p r : Nat) : Nat := 2 ^ (r / 2 ^ p - 1)

theorem gap_pos (p r : Nat) : 0 < gap p r := pow_pos _

theorem mag_succ (p r : Nat) : mag p (r + 1) = mag p r + gap p r := by
  have hp := pow_pos p
  unfold mag gap
  by_cases h : r < 2 ^ p
  · rw [if_pos h, Nat.div_eq_of_lt h]
    by_cases h' : r + 1 < 2 ^ p
    · rw [if_pos h']
    · have e : r + 1 = 2 ^ p := by omega
      rw [if_neg h', e, Nat.mod_self, Nat.div_self hp]; simp
  · rw [if_neg h, if_neg (by omega)]
    have hk : 1 ≤ r / 2 ^ p := (Nat.le_div_iff_mul_le hp).2 (by omega)
    rcases div_mod_succ r (2 ^ p) hp with ⟨a, b⟩ | ⟨a, b, c⟩
    · rw [a, b, ← Nat.add_assoc, Nat.add_mul _ 1, Nat.one_mul]
    · rw [b, c, a]
      obtain ⟨k, hk'⟩ : ∃ k, r / 2 ^ p = k + 1 := ⟨r / 2 ^ p - 1, by omega⟩
      rw [hk']
      simp only [Nat.add_sub_cancel, Nat.add_zero]
      rw [Nat.pow_succ 2 k]
      have : 2 ^ p + (2 ^ p - 1) = 2 * 2 ^ p - 1 := by omega
      rw [this, Nat.sub_mul, Nat.one_mul]
      have h1 : 2 ^ k ≤ 2 * 2 ^ p * 2 ^ k := Nat.le_mul_of_pos_left _ (by omega)
      have h2 : 2 ^ p * (2 ^ k * 2) = 2 * 2 ^ p * 2 ^ k := by rw [Nat.mul_comm (2 ^ k) 2, ← Nat.mul_assoc, Nat.mul_comm (2 ^ p) 2]
      omega

theorem mag_zero (p : Nat) : mag p 0 = 0 := by unfold mag; rw [if_pos (pow_pos p)]

theorem mag_lt_of_lt {p r r' : Nat} (h : r < r') : mag p r < mag p r' := by
  induction r' with
  | zero => omega
  | succ n ih =>
    have := gap_pos p n
    rw [mag_succ]
    by_cases c : r = n
    · subst c; omega
    · have := ih (by omega); omega

theorem mag_lt {p r r' : Nat} : mag p r < mag p r' ↔ r < r' := by
  constructor
  · intro h
    by_cases c : r < r'
    · exact c
    · by_cases e : r = r'
      · subst e; omega
      · have := mag_lt_of_lt (p := p) (show r' < r by omega); omega
  · exact mag_lt_of_lt

theorem mag_le {p r r' : Nat} : mag p r ≤ mag p r' ↔ r ≤ r' := by
  have := @mag_lt p r' r
  omega

theorem mag_inj {p r r' : Nat} : mag p r = mag p r' ↔ r = r' := by
  have := @mag_lt p r' r
  have := @mag_lt p r r'
  omega

theorem le_mag (p r : Nat) : r ≤ mag p r := by
  induction r with
  | zero => omega
  | succ n ih => have := gap_pos p n; rw [mag_succ]; omega

theorem log2_of {n k : Nat} (h : 2 ^ k ≤ n) (h' : n < 2 ^ (k + 1)) : n.log2 = k := by
  have : n ≠ 0 := by have := pow_pos k; omega
  exact (Nat.log2_eq_iff this).2 ⟨h, h'⟩

theorem log2_small {n k : Nat} (h : n < 2 ^ (k + 1)) : n.log2 ≤ k := by
  by_cases c : n = 0
  · subst c; simp
  · have := (Nat.log2_lt c).2 h; omega

/-- WHERE V LIES DECIDES WHAT IT IS ROUNDED TO. -/
theorem rung_between (p d r V : Nat) (hp : 1 ≤ p) (h1 : mag p r * 2 ^ d ≤ V) (h2 : V < mag p (r + 1) * 2 ^ d) :
    rung p d V = if (mag p r + mag p (r + 1)) * 2 ^ d < 2 * V ∨ ((mag p r + mag p (r + 1)) * 2 ^ d = 2 * V ∧ r % 2 = 1) then r + 1 else r := by
  have hp0 := pow_pos p
  have hd0 := pow_pos d
  rw [mag_succ] at h2 ⊢
  have hg := gap_pos p r
  by_cases h : r < 2 ^ p
  · have em : mag p r = r := by unfold mag; rw [if_pos h]
    have eg : gap p r = 1 := by unfold gap; rw [Nat.div_eq_of_lt h]
    rw [em, eg] at h2 ⊢
    rw [em] at h1
    have hV : V < 2 ^ (p + d) := by
      rw [Nat.pow_add]
      exact Nat.lt_of_lt_of_le h2 (Nat.mul_le_mul_right _ (by omega))
    have hl : V.log2 - (p + d) = 0 := by
      obtain ⟨q, hq⟩ : ∃ q, p + d = q + 1 := ⟨p + d - 1, by omega⟩
      rw [hq] at hV
      have := log2_small hV; omega
    have hq : V / 2 ^ d = r := Nat.div_eq_of_lt_le h1 h2
    have hm := Nat.div_add_mod V (2 ^ d)
    rw [hq, Nat.mul_comm] at hm
    unfold rung
    rw [hl, Nat.zero_add, Nat.zero_mul, Nat.zero_add]
    unfold rne
    rw [hq]
    have e2 : (r + (r + 1)) * 2 ^ d = 2 * (r * 2 ^ d) + 2 ^ d := by
      rw [← Nat.add_assoc, Nat.add_mul, Nat.one_mul, Nat.add_mul]; omega
    rw [e2]
    by_cases c : 2 ^ d < 2 * (V % 2 ^ d) ∨ (2 ^ d = 2 * (V % 2 ^ d) ∧ r % 2 = 1)
    · rw [if_pos c, if_pos (by omega)]
    · rw [if_neg c, if_neg (by omega)]; rfl
  · have hk : 1 ≤ r / 2 ^ p := (Nat.le_div_iff_mul_le hp0).2 (by omega)
    obtain ⟨k, hk'⟩ : ∃ k, r / 2 ^ p = k + 1 := ⟨r / 2 ^ p - 1, by omega⟩
    have eg : gap p r = 2 ^ k := by unfold gap; rw [hk']; rfl
    have em : mag p r = (2 ^ p + r % 2 ^ p) * 2 ^ k := by unfold mag; rw [if_neg h, hk']; rfl
    have hf := Nat.mod_lt r hp0
    have hdm := Nat.div_add_mod r (2 ^ p)
    rw [hk'] at hdm
    generalize hF : r % 2 ^ p = F at *
    have hk0 := pow_pos (k + d)
    have e1 : (2 ^ p + F) * 2 ^ k * 2 ^ d = (2 ^ p + F) * 2 ^ (k + d) := by rw [Nat.mul_assoc, ← Nat.pow_add]
    rw [em, eg, Nat.add_mul, e1, ← Nat.pow_add] at h2
    rw [em, e1] at h1
    rw [em, eg, ← Nat.add_assoc, Nat.add_mul _ (2 ^ k), Nat.add_mul, e1, ← Nat.pow_add]
    have hlo : 2 ^ (p + (k + d)) ≤ V := by
      rw [Nat.pow_add]
      exact Nat.le_trans (Nat.mul_le_mul_right _ (by omega)) h1
    have hhi : V < 2 ^ (p + (k + d) + 1) := by
      have : (2 ^ p + F) * 2 ^ (k + d) + 2 ^ (k + d) = (2 ^ p + F + 1) * 2 ^ (k + d) := by rw [Nat.add_mul _ 1, Nat.one_mul]
      have h3 : (2 ^ p + F + 1) * 2 ^ (k + d) ≤ (2 * 2 ^ p) * 2 ^ (k + d) := Nat.mul_le_mul_right _ (by omega)
      have h4 : (2 * 2 ^ p) * 2 ^ (k + d) = 2 ^ (p + (k + d) + 1) := by rw [Nat.pow_succ, Nat.pow_add 2 p, Nat.mul_comm _ 2, Nat.mul_assoc]
      omega
    have hlog := log2_of hlo hhi
    have es : V.log2 - (p + d) = k := by omega
    unfold rung
    rw [es]
    have hq : V / 2 ^ (k + d) = 2 ^ p + F := by
      refine Nat.div_eq_of_lt_le h1 ?_
      rw [Nat.add_mul _ 1, Nat.one_mul]; exact h2
    have hm := Nat.div_add_mod V (2 ^ (k + d))
    rw [hq, Nat.mul_comm] at hm
    unfold rne
    rw [hq]
    generalize hR : V % 2 ^ (k + d) = R at *
    generalize hA : (2 ^ p + F) * 2 ^ (k + d) = A at *
    generalize hG : 2 ^ (k + d) = G at *
    have hpar : (2 ^ p + F) % 2 = r % 2 := by
      obtain ⟨q, rfl⟩ : ∃ q, p = q + 1 := ⟨p - 1, by omega⟩
      rw [Nat.pow_succ] at hdm ⊢
      have : 2 ^ q * 2 * (k + 1) = 2 * (2 ^ q * (k + 1)) := by rw [Nat.mul_comm (2 ^ q) 2, Nat.mul_assoc]
      omega
    rw [hpar]
    have hr : k * 2 ^ p + (2 ^ p + F) = r := by
      rw [Nat.mul_add, Nat.mul_comm (2 ^ p) k] at hdm; omega
    by_cases c : G < 2 * R ∨ (G = 2 * R ∧ r % 2 = 1)
    · rw [if_pos c, if_pos (by omega)]; omega
    · rw [if_neg c, if_neg (by omega)]; omega

theorem floor_ex (p d V : Nat) : ∃ r, mag p r * 2 ^ d ≤ V ∧ V < mag p (r + 1) * 2 ^ d := by
  have hd := pow_pos d
  have key : ∀ n, V < mag p n * 2 ^ d → ∃ r, mag p r * 2 ^ d ≤ V ∧ V < mag p (r + 1) * 2 ^ d := by
    intro n
    induction n with
    | zero => intro h; rw [mag_zero] at h; omega
    | succ n ih =>
      intro h
      by_cases c : V < mag p n * 2 ^ d
      · exact ih c
      · exact ⟨n, by omega, h⟩
  refine key (V + 1) ?_
  have h1 := le_mag p (V + 1)
  have h2 : mag p (V + 1) * 1 ≤ mag p (V + 1) * 2 ^ d := Nat.mul_le_mul_left _ hd
  omega

theorem rung_mag (p d r : Nat) (hp : 1 ≤ p) : rung p d (mag p r * 2 ^ d) = r := by
  have hd := pow_pos d
  have := gap_pos p r
  have e := mag_succ p r
  have hlt : mag p r * 2 ^ d < mag p (r + 1) * 2 ^ d := (Nat.mul_lt_mul_right hd).2 (by omega)
  rw [rung_between p d r _ hp (Nat.le_refl _) hlt]
  have e2 : (mag p r + mag p (r + 1)) * 2 ^ d = mag p r * 2 ^ d + mag p (r + 1) * 2 ^ d := Nat.add_mul ..
  rw [if_neg (by omega)]

theorem rung_mag0 (p r : Nat) (hp : 1 ≤ p) : rung p 0 (mag p r) = r := by
  have := rung_mag p 0 r hp
  rwa [Nat.pow_zero, Nat.mul_one] at this

theorem rung_floor (p d r V : Nat) (hp : 1 ≤ p) (h1 : mag p r * 2 ^ d ≤ V) (h2 : V < mag p (r + 1) * 2 ^ d) : r ≤ rung p d V ∧ rung p d V ≤ r + 1 := by
  rw [rung_between p d r V hp h1 h2]; split <;> omega

theorem rung_mono {p d V V' : Nat} (hp : 1 ≤ p) (h : V ≤ V') : rung p d V ≤ rung p d V' := by
  have hd := pow_pos d
  obtain ⟨r, a, b⟩ := floor_ex p d V
  obtain ⟨r', a', b'⟩ := floor_ex p d V'
  have hr : r < r' + 1 := (mag_lt (p := p)).1 ((Nat.mul_lt_mul_right hd).1 (by omega))
  by_cases e : r = r'
  · subst e
    rw [rung_between p d r V hp a b, rung_between p d r V' hp a' b']
    split <;> split <;> omega
  · have h1 := rung_floor p d r V hp a b
    have h2 := rung_floor p d r' V' hp a' b'
    omega

/-- what lies between two rungs is rounded between them -/
theorem rung_ge {p d r V : Nat} (hp : 1 ≤ p) (h : mag p r * 2 ^ d ≤ V) : r ≤ rung p d V := by
  have := rung_mono (d := d) hp h
  rwa [rung_mag p d r hp] at this
theorem rung_le {p d r V : Nat} (hp : 1 ≤ p) (h : V ≤ mag p r * 2 ^ d) : rung p d V ≤ r := by
  have := rung_mono (d := d) hp h
  rwa [rung_mag p d r hp] at this

end Go.Proofs.Ytgbaaafikphafaa.Tf
