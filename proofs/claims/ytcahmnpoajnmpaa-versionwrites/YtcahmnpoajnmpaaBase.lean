/-
  What the proofs of layer 4 share: facts put out of the walk's sight. No law of the program is proved here.
-/
import Derived.Test.YtcahmnpoajnmpaaChecked
import Derived.WalkKit
import Derived.WalkSpells
import Derived.WalkLawsBesides
namespace Go.Proofs.Ytcahmnpoajnmpaa
open Go.RowKit

theorem hide {p : Prop} (h : p) : Hid p := h
theorem unhide {p : Prop} (h : Hid p) : p := h

end Go.Proofs.Ytcahmnpoajnmpaa
