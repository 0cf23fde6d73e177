/-
  What the law VersionOnce asks, by lists. Of no program. No law is proved here.
-/
import Derived.Test.YtcahmnpoajnmpaaVLaws
namespace Go.Proofs.Ytcahmnpoajnmpaa
set_option linter.unusedVariables false

theorem once_facts {c y : Chn} {j : Itn} {a : Stp} {m : Met} (hr : rightC c) (h : writeC c j = (y, a, m, 0)) (commit : Bool) :
    y.vs = c.vs ∧ writeC y j = (y, a, Met.zero, 0) ∧ ∃ z, resolveC y j.txn.id j.txn.ep commit a = (z, 0) ∧ z.opn = false ∧ z.vs.length ≤ c.vs.length + 1 ∧ resolveC z j.txn.id j.txn.ep commit a = (z, 0) ∧
      (commit = true → writeC z j = (Chn.zero, (0, 0), Met.zero, 83)) := by
  obtain ⟨h1, h2, h3, h4, h5, h6, h7, h8, h9⟩ := writeC_there hr h
  refine ⟨h1, writeC_again hr h, ?_⟩
  cases commit
  · exact ⟨⟨y.vs, false, Itn.zero⟩, resolveC_drop h2 h3 h4, rfl, by rw [h1]; omega, resolveC_closed _ _ _ _ rfl, fun e => by cases e⟩
  · refine ⟨⟨y.vs ++ [⟨a, y.itn.val, y.itn.gone, j.txn.id⟩], false, Itn.zero⟩, resolveC_commit h2 h3 h4 h7 (by rw [h1]; exact h8), rfl, by simp [h1], resolveC_closed _ _ _ _ rfl, fun _ => ?_⟩
    exact writeC_done (v := ⟨a, y.itn.val, y.itn.gone, j.txn.id⟩) (by simp) rfl

end Go.Proofs.Ytcahmnpoajnmpaa
