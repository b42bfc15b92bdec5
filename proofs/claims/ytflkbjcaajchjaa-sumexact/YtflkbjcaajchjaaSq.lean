/-
  A region that draws its order, whose operations read, and whose callees may lay new blocks: one walk in the order of the text.
-/
import Derived.Test.YtflkbjcaajchjaaSd
import Derived.Deep.Quiet
import Derived.BigQuiet
namespace Go.Proofs.Ytflkbjcaajchjaa
open Go.RowKit Tf

/-- the worlds in which all older blocks are as they were, under one name -/
theorem cls (w : World) (n : Nat) : ∃ (U : Type) (F : U → World), Nonempty U ∧ (∀ u, Below n w (F u)) ∧ (∀ w', Below n w w' → ∃ u, w' = F u) :=
  ⟨{u : World // Below n w u}, Subtype.val, ⟨⟨w, Below.refl _ _⟩⟩, fun u => u.2, fun w' h => ⟨⟨w', h⟩, rfl⟩⟩
theorem region_cls {P : Program} {id : Nat} {Q : Exit → Act → World → Prop} {a : Act} {w : World} {l : List Oper} {U : Type} (F : U → World) (hm : P.follows .mixedOrders = true) (hB : Region.lexB .any l.toArray = true)
    (hC : ∃ u, w.drew = F u)
    (h : wpQuiet P l.toArray (fun w' => ∃ u, w' = F u) (fun a' => ∀ w', (∃ u, w' = F u) → Q .normal a' w') l a) : (Code.region id l.toArray true).wp P Q a w :=
  wp_region_quiet (C := fun w' => ∃ u, w' = F u) hm hB hC (by simpa using h)
/-- a callee's contract, met in such a world -/
theorem calls_cls {P : Program} {f : FuncId} {args : Array Value} {w : World} {U : Type} {F : U → World} {v : Value} {n : Nat} {w0 : World} (hF : Hid (∀ w', Below n w0 w' → ∃ u, w' = F u))
    (h : Calls P f args w fun e w' => e = .returned v ∧ Hid (Below n w0 w')) : Calls P f args w fun e w'' => e = .returned v ∧ ∃ u, w'' = F u :=
  h.mono fun _ _ ⟨he, hb⟩ => ⟨he, hF.out _ hb.out⟩
end Go.Proofs.Ytflkbjcaajchjaa
