/-
  The law StampOrder: its walk.
-/
import Derived.Test.YtjeefpibhkngiaaDoorOrderL
import Derived.Test.YtjeefpibhkngiaaDoorOrderM
import Derived.Test.YtjeefpibhkngiaaDoorOrderE
import Derived.Test.YtjeefpibhkngiaaDoorOrderG
import Derived.Test.YtjeefpibhkngiaaDoorOrderH
namespace Go.Proofs.YtjeefpibhkngiaaDoor
open Go.RowKit

theorem walkStampOrder {w : World} (ht : Tab w) (v0 : Value) (a : Int × Int) (ha : Stm v0 a) (v1 : Value) (b : Int × Int) (hb : Stm v1 b) (v2 : Value) (c : Int × Int) (hc : Stm v2 c) :
    Calls Tryd.prog 5 #[v0, v1, v2] w fun e w' => e = .returned (.bool true) ∧ Below w.heap.size w w' := by
  obtain ⟨a1, a2⟩ := a
  obtain ⟨b1, b2⟩ := b
  obtain ⟨c1, c2⟩ := c
  have h0 := ha.eq
  have h1 := hb.eq
  have h2 := hc.eq
  subst h0 h1 h2
  by_cases h1 : a1 < b1
  · exact order_lt1 w a1 a2 b1 b2 c1 c2 h1 ht
  · by_cases h2 : b1 < a1
    · exact order_gt1 w a1 a2 b1 b2 c1 c2 h2 ht
    · obtain rfl : b1 = a1 := by omega
      by_cases h3 : a2 < b2
      · exact order_lt2 w b1 a2 b2 c1 c2 h3 ht
      · by_cases h4 : b2 < a2
        · exact order_gt2 w b1 a2 b2 c1 c2 h4 ht
        · obtain rfl : b2 = a2 := by omega
          exact order_eq w b1 b2 c1 c2 ht

end Go.Proofs.YtjeefpibhkngiaaDoor
