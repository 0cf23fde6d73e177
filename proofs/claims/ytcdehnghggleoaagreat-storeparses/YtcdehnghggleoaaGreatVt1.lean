/-
  Contracts of the document's Query and Refresh. No law is proved here.
-/
import Derived.Test.YtcdehnghggleoaaGreatVs9
namespace Go.Proofs.YtcdehnghggleoaaGreat
open Go.RowKit
set_option linter.unusedVariables false

section
set_option maxRecDepth 100000
set_option maxHeartbeats 1000000

end

end Go.Proofs.YtcdehnghggleoaaGreat
