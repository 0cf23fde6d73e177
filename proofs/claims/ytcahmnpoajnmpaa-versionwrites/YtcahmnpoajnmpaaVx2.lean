/-
  What the document's Write is made of. No law is proved here.
-/
import Derived.Test.YtcahmnpoajnmpaaVRow
namespace Go.Proofs.Ytcahmnpoajnmpaa
open Go.RowKit
set_option linter.unusedVariables false

theorem VOwn.offlow {B C : Nat} {w : World} {ao : Option Addr} {c : Nat} {vs : List Ver} (h : VOwn B w ao c vs) (hC : C < B) : Off C ao vs := fun b q e => by
  right
  subst e
  have := (h.lt b rfl).1
  omega

theorem placeR_last (vs : List Ver) (o : Bool) (i : Itn) (a : Stp) : placeR vs o i a = if (lastP vs).2 = true then (match nextS (lastP vs).1 with | none => ((0, 0), 31) | some n => finP (stepP o i (maxS a n))) else finP (stepP o i a) := by
  unfold placeR preP lastP
  cases lastS vs with
  | none => rfl
  | some s =>
    simp only [if_true]
    cases nextS s <;> rfl

section
set_option maxRecDepth 100000
set_option maxHeartbeats 1000000

theorem refmax_s (a b : Stp) (w : World) : Calls Try.prog 48 #[(.agg #[.int .i64 a.1, .int .i64 a.2]), (.agg #[.int .i64 b.1, .int .i64 b.2])] w fun e w' => e = .returned (.agg #[.int .i64 (maxS a b).1, .int .i64 (maxS a b).2]) ∧ Below w.heap.size w w' := by
  have h := refmax_any a.1 a.2 b.1 b.2 w
  rw [less_eq] at h
  unfold maxS
  cases hq : ltB a b
  · rw [hq] at h; simpa using h
  · rw [hq] at h; simpa using h

theorem refnext_s (a : Stp) (w : World) : Calls Try.prog 47 #[(.agg #[.int .i64 a.1, .int .i64 a.2])] w fun e w' =>
    e = .returned (match nextS a with | some n => .tuple #[(.agg #[.int .i64 n.1, .int .i64 n.2]), .int .i64 0] | none => .tuple #[.agg #[.int .i64 0, .int .i64 0], .int .i64 31]) ∧ Below w.heap.size w w' := by
  have h := refnext_any a.1 a.2 w
  rw [nxt_eq] at h
  cases hq : nextS a with
  | none => rw [hq] at h; exact h
  | some n => rw [hq] at h; exact h
end

end Go.Proofs.Ytcahmnpoajnmpaa
