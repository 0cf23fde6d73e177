/-
  Whether a span is asked about. No law is proved here.
-/
import Derived.Test.YtejceloahonelaaAlive
namespace Go.Proofs.Ytejceloahonelaa
open Go.RowKit
set_option linter.unusedVariables false

def fitsB (f t : ByteArray) : Bool := decide (f.size ≤ 200) && decide (t.size ≤ 200)
theorem fitsB_iff (f t : ByteArray) : fitsB f t = true ↔ f.size ≤ 200 ∧ t.size ≤ 200 := by
  unfold fitsB; simp

theorem bstep {w w1 w2 : World} (h : Below w.heap.size w w1) (k : Below w1.heap.size w1 w2) : Below w.heap.size w w2 := h.trans (k.mono h.size)

section
set_option maxRecDepth 100000
set_option maxHeartbeats 1000000

theorem fits_any (f t : ByteArray) (w : World) : Calls Try.prog 9 #[.agg #[.string f, .string t]] w fun e w' => e = .returned (.bool (fitsB f t)) ∧ Below w.heap.size w w' := by
  have hB : ∀ o, Hid (Below w.heap.size w (w.alloc o)) := fun o => (Below.refl _ _).alloc (Nat.le_refl _) o
  by_cases h1 : f.size ≤ 200
  · by_cases h2 : t.size ≤ 200
    · have Hf : Hid (fitsB f t = true) := (fitsB_iff f t).2 ⟨h1, h2⟩
      have d1 : decide ((f.size : Int) ≤ 200) = true := decide_eq_true (by omega)
      have d2 : decide ((t.size : Int) ≤ 200) = true := decide_eq_true (by omega)
      go_enter Try.func9, Try.ntmps9
      go_wp2
      go_ret
      rw [unhide Hf]
      refine ⟨?_, unhide (hB _)⟩
      first | rfl | (show Ending.returned (Value.bool (decide ((t.size : Int) ≤ 200))) = _; rw [d2])
    · have Hf : Hid (fitsB f t = false) := by unfold fitsB; rw [decide_eq_false h2, Bool.and_false]; rfl
      have d1 : decide ((f.size : Int) ≤ 200) = true := decide_eq_true (by omega)
      have d2 : decide ((t.size : Int) ≤ 200) = false := decide_eq_false (by omega)
      go_enter Try.func9, Try.ntmps9
      go_wp2
      go_ret
      rw [unhide Hf]
      refine ⟨?_, unhide (hB _)⟩
      first | rfl | (show Ending.returned (Value.bool (decide ((t.size : Int) ≤ 200))) = _; rw [d2])
  · have Hf : Hid (fitsB f t = false) := by unfold fitsB; rw [decide_eq_false h1]; rfl
    have d1 : decide ((f.size : Int) ≤ 200) = false := decide_eq_false (by omega)
    go_enter Try.func9, Try.ntmps9
    go_wp2
    go_ret
    rw [unhide Hf]
    exact ⟨rfl, unhide (hB _)⟩

end

end Go.Proofs.Ytejceloahonelaa
