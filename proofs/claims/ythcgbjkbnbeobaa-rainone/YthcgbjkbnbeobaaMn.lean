/-
  A region that draws its order and holds calls that make memory: one walk for all orders (no program).
-/
import Derived.Test.YthcgbjkbnbeobaaMm
import Derived.Deep.Quiet
import Derived.BigQuiet
namespace Go.Proofs.Ythcgbjkbnbeobaa
open Go.RowKit
/-- the worlds in which all blocks of w are as they were, under one name -/
theorem cls (w : World) : ∃ (U : Type) (F : U → World), (∀ u, Ab w (F u)) ∧ (∀ w', Ab w w' → ∃ u, w' = F u) :=
  ⟨{u : World // Ab w u}, Subtype.val, fun u => u.2, fun w' h => ⟨⟨w', h⟩, rfl⟩⟩
theorem region_cls {P : Program} {id : Nat} {Q : Exit → Act → World → Prop} {a : Act} {w : World} {l : List Oper} {U : Type} (F : U → World) (hm : P.follows .mixedOrders = true) (hB : Region.lexB .any l.toArray = true)
    (hC : ∃ u, w.drew = F u)
    (h : wpQuiet P l.toArray (fun w' => ∃ u, w' = F u) (fun a' => ∀ w', (∃ u, w' = F u) → Q .normal a' w') l a) : (Code.region id l.toArray true).wp P Q a w :=
  wp_region_quiet (C := fun w' => ∃ u, w' = F u) hm hB hC (by simpa using h)
/-- a callee's contract, met in such a world -/
theorem calls_cls {P : Program} {f : FuncId} {args : Array Value} {U : Type} {F : U → World} {u : U} {v : Value} {w0 : World} (hF : Hid (∀ w', Ab w0 w' → ∃ u, w' = F u)) (hF1 : Hid (∀ u, Ab w0 (F u)))
    (h : Calls P f args (F u) fun e w' => e = .returned v ∧ Below (F u).heap.size (F u) w') : Calls P f args (F u) fun e w'' => e = .returned v ∧ ∃ u, w'' = F u :=
  h.mono fun _ _ ⟨he, hb⟩ => ⟨he, hF.out _ ((hF1.out u).call hb)⟩
end Go.Proofs.Ythcgbjkbnbeobaa
