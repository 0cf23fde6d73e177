/-
  A region whose order is open, and whose calls at most lay new memory: one walk in the order of the text serves every order.
-/
import Derived.WalkKit
import Derived.BigQuiet
namespace Go.Proofs.Ytcahmnpoajnmpaa
open Go.RowKit

/-- A world that has at most new memory behind w. -/
structure Later (w : World) where
  val : World
  below : Below w.heap.size w val

theorem Later.cell {w : World} (i : Later w) {p : Addr} {v : Value} (h : w.cell? p = some v) : i.val.cell? p = some v :=
  (i.below.cell (World.block_lt_of_cell? w p h)).trans h

theorem wp_region_later {P : Program} {id : Nat} {Q : Exit → Act → World → Prop} {a : Act} {w : World} {l : List Oper} (hm : P.follows .mixedOrders = true) (hB : Region.lexB .any l.toArray = true)
    (h : wpQuiet P l.toArray (fun w' => ∃ i : Later w, w' = i.val) (fun a' => ∀ w', (∃ i : Later w, w' = i.val) → Q .normal a' w') l a) : (Code.region id l.toArray true).wp P Q a w :=
  wp_region_quiet (C := fun w' => ∃ i : Later w, w' = i.val) hm hB ⟨⟨_, (Below.refl _ w).drew⟩, rfl⟩ (by simpa using h)

/-- A call that at most lays new memory. -/
theorem calls_later {P : Program} {f : FuncId} {args : Array Value} {w : World} {i : Later w} {v : Value} (h : Calls P f args i.val fun e w' => e = .returned v ∧ Below i.val.heap.size i.val w') :
    Calls P f args i.val fun e w'' => e = .returned v ∧ ∃ j : Later w, w'' = j.val :=
  h.mono fun _ w' ⟨he, hb⟩ => ⟨he, ⟨w', i.below.trans (hb.mono i.below.size)⟩, rfl⟩

end Go.Proofs.Ytcahmnpoajnmpaa
