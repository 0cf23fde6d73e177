/-
  Of bytes of numbers. No law is proved here.
-/
import Derived.Test.YtjeefpibhkngiaaDoorNum
namespace Go.Proofs.YtjeefpibhkngiaaDoor
open Go.RowKit
set_option linter.unusedVariables false

theorem str_len (s : ByteArray) : s.data.toList.length = s.size := Array.length_toList

theorem enc_one : enc 1 = [1] := by rw [enc_small (by decide)]; rfl
theorem enc_zero : enc 0 = [0] := by rw [enc_small (by decide)]; rfl

end Go.Proofs.YtjeefpibhkngiaaDoor
