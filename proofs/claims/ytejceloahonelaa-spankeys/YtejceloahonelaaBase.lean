/-
  What the proofs of layer 5 share: facts put out of the walk's sight. No law of the program is proved here.
-/
import Derived.Test.YtejceloahonelaaChecked
import Derived.WalkKit
import Derived.WalkSpells
import Derived.WalkLawsBesides
import Derived.Deep.LoopGhost
import Derived.Lib.Walk
namespace Go.Proofs.Ytejceloahonelaa
open Go.RowKit

theorem hide {p : Prop} (h : p) : Hid p := h
theorem unhide {p : Prop} (h : Hid p) : p := h

end Go.Proofs.Ytejceloahonelaa
