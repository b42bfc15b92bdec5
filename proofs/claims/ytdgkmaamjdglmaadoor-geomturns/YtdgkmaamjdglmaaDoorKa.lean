/-
  The cube in whole numbers: faces, ways, middles of cells, what lies beside, what turns do. No program here.
-/
import Derived.KernelRfl
namespace Go.Proofs.YtdgkmaamjdglmaaDoor.Cu

abbrev P3 := Int × Int × Int
def cC : Nat → P3
  | 0 => (1, 0, 0) | 1 => (0, 1, 0) | 2 => (-1, 0, 0) | 3 => (0, -1, 0) | 4 => (0, 0, 1) | _ => (0, 0, -1)
def cR : Nat → P3
  | 0 => (0, 1, 0) | 1 => (-1, 0, 0) | 2 => (0, -1, 0) | 3 => (1, 0, 0) | 4 => (0, 1, 0) | _ => (0, 1, 0)
def cU : Nat → P3
  | 0 => (0, 0, 1) | 1 => (0, 0, 1) | 2 => (0, 0, 1) | 3 => (0, 0, 1) | 4 => (-1, 0, 0) | _ => (1, 0, 0)
def pl (p q : P3) : P3 := (p.1 + q.1, p.2.1 + q.2.1, p.2.2 + q.2.2)
def sc (k : Int) (p : P3) : P3 := (k * p.1, k * p.2.1, k * p.2.2)
def dt (p q : P3) : Int := p.1 * q.1 + p.2.1 * q.2.1 + p.2.2 * q.2.2
def cx (p q : P3) : P3 := (p.2.1 * q.2.2 - p.2.2 * q.2.1, p.2.2 * q.1 - p.1 * q.2.2, p.1 * q.2.1 - p.2.1 * q.1)
def wy (f s : Nat) : P3 := match s with
  | 0 => cR f | 1 => cU f | 2 => sc (-1) (cR f) | _ => sc (-1) (cU f)
def md (n f i j : Nat) : P3 := pl (sc n (cC f)) (pl (sc (2 * i + 1 - n) (cR f)) (sc (2 * j + 1 - n) (cU f)))

def nf (f s : Nat) : Nat := ([[1, 4, 3, 5], [2, 4, 0, 5], [3, 4, 1, 5], [0, 4, 2, 5], [1, 2, 3, 0], [1, 0, 3, 2]].getD f []).getD s 0
def ns (f s : Nat) : Nat := ([[0, 1, 2, 3], [0, 2, 2, 2], [0, 3, 2, 1], [0, 0, 2, 0], [3, 3, 3, 3], [1, 1, 1, 1]].getD f []).getD s 0
def prp (f k : Nat) : Nat := ([[1, 3, 4, 5], [0, 2, 4, 5], [1, 3, 4, 5], [0, 2, 4, 5], [0, 1, 2, 3], [0, 1, 2, 3]].getD f []).getD k 0
def tf (t f : Nat) : Nat := 380319425767034651462742130351987831951998700252786447139717355724362488049523496525576634289033474629561857545492763398801376904 / 8 ^ (6 * t + f) % 8
def tq (t f : Nat) : Nat := 2838088073491958674951531746272454093836057379317522041577493744960660895088548981516253706794912565892561912777780962420230455296 / 8 ^ (6 * t + f) % 8
def rX (t : Nat) : P3 := cC (t / 4)
def rY (t : Nat) : P3 := cC (prp (t / 4) (t % 4))
def rZ (t : Nat) : P3 := cx (rX t) (rY t)
def ro (t : Nat) (p : P3) : P3 := pl (pl (sc p.1 (rX t)) (sc p.2.1 (rY t))) (sc p.2.2 (rZ t))
/-- the turn that is turn t and then turn u -/
def aft (u t : Nat) : Nat := 1838785560903083491882944074522291168528621995628052174074935484170963243557792820641851446867052506590857924970631457007051177209089474122049985957868860826374531110598046756388485078809558413311561533769618631134509822940183235878709046399388785167043652054866194418809871231720928653611197317446018368559689239310007227234390856843488321432173806158969924906962616647714790573689130421284080817811622731970782968290897629129351746371971065318390962470879510821561971903093642063664326347241898499135141634135105756307791262713098621344282602027984473098463129840699759491058233189250385727017168099058425694295169015858327316048712937900611062907030396919466292444209236061864573971541039386576435052958808398669144885884962830828009673501965162062598478789559400637517290401426150521143382351487413956371149668089169812744083248451353527903218875336117417248800 / 32 ^ (24 * u + t) % 32

theorem six {f : Nat} (h : f < 6) : f = 0 ∨ f = 1 ∨ f = 2 ∨ f = 3 ∨ f = 4 ∨ f = 5 := by omega
theorem four {s : Nat} (h : s < 4) : s = 0 ∨ s = 1 ∨ s = 2 ∨ s = 3 := by omega

theorem nf_lt : ∀ f < 6, ∀ s < 4, nf f s < 6 ∧ ns f s < 4 := by decide +kernel
theorem tf_lt : ∀ t < 24, ∀ f < 6, tf t f < 6 ∧ tq t f < 4 := by decide +kernel
theorem prp_lt : ∀ f < 6, ∀ k < 4, prp f k < 6 := by decide +kernel
theorem wy_back : ∀ f < 6, ∀ s < 4, sc (-1) (wy f s) = wy f ((s + 2) % 4) ∧ cC f = wy (nf f s) ((ns f s + 2) % 4) := by decide +kernel
theorem wy_on : ∀ f < 6, ∀ s < 4, cC (nf f s) = wy f s ∧ sc (-1) (cC f) = wy (nf f s) (ns f s) ∧ wy (nf f s) ((ns f s + 1) % 4) = wy f ((s + 1) % 4) := by decide +kernel
theorem wy_inj : ∀ f < 6, ∀ s < 4, ∀ r < 4, wy f r = wy f s → r = s := by decide +kernel
theorem ro_tab : ∀ t < 24, ∀ f < 6, ro t (cC f) = cC (tf t f) ∧ ro t (cR f) = wy (tf t f) (tq t f) ∧ ro t (cU f) = wy (tf t f) ((tq t f + 1) % 4) := by decide +kernel
theorem nf_tf : ∀ t < 24, ∀ f < 6, ∀ s < 4, nf (tf t f) ((s + tq t f) % 4) = tf t (nf f s) ∧ ns (tf t f) ((s + tq t f) % 4) = (ns f s + tq t (nf f s)) % 4 := by decide +kernel
theorem aft_tab : ∀ u < 24, ∀ t < 24, aft u t < 24 ∧ rX (aft u t) = ro u (rX t) ∧ rY (aft u t) = ro u (rY t) ∧ rZ (aft u t) = ro u (rZ t) := by decide +kernel
theorem rot_inj : ∀ t < 24, ∀ k < 24, rX k = rX t → rY k = rY t → k = t := by decide +kernel
theorem tf_aft : ∀ u < 24, ∀ t < 24, ∀ f < 6, tf (aft u t) f = tf u (tf t f) ∧ tq (aft u t) f = (tq t f + tq u (tf t f)) % 4 := by decide +kernel
theorem aft_assoc : ∀ v < 24, ∀ u < 24, ∀ t < 24, aft v (aft u t) = aft (aft v u) t := by decide +kernel
theorem aft_zero : ∀ t < 24, aft 0 t = t ∧ aft t 0 = t := by decide +kernel
/-- the turn that undoes a turn -/
def und (t : Nat) : Nat := 974254908513008594817366965742537760 / 32 ^ t % 32
theorem und_tab : ∀ t < 24, und t < 24 ∧ ∀ k < 24, (aft k t = 0 ↔ k = und t) ∧ (aft t k = 0 ↔ k = und t) := by decide +kernel
theorem tf_zero : ∀ f < 6, tf 0 f = f ∧ tq 0 f = 0 := by decide +kernel
theorem tf_inj : ∀ t < 24, ∀ f < 6, ∀ g < 6, tf t f = tf t g → f = g := by decide +kernel
end Go.Proofs.YtdgkmaamjdglmaaDoor.Cu
