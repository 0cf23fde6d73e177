/-
  Acts of a chain, by lists: right stays; what was stays. Of no program. No law is proved here.
-/
import Derived.Test.YtcahmnpoajnmpaaVLaws
namespace Go.Proofs.Ytcahmnpoajnmpaa
set_option linter.unusedVariables false

/-- An act. -/
structure ActR where
  kind : Int
  id : Int
  ep : Int
  itn : Itn
  commit : Bool
  at_ : Stp

/-- What an act leaves: where it has an error the chain stays. -/
def doesC (a : ActR) (c : Chn) : Chn :=
  if a.kind = 1 then (if (writeC c a.itn).2.2.2 = 0 then (writeC c a.itn).1 else c)
  else if a.kind = 2 then (if (resolveC c a.id a.ep a.commit a.at_).2 = 0 then (resolveC c a.id a.ep a.commit a.at_).1 else c)
  else c

theorem doesC_cases (a : ActR) (c : Chn) : doesC a c = c ∨ (∃ s m, writeC c a.itn = (doesC a c, s, m, 0)) ∨ resolveC c a.id a.ep a.commit a.at_ = (doesC a c, 0) := by
  by_cases h1 : a.kind = 1
  · have e : doesC a c = (if (writeC c a.itn).2.2.2 = 0 then (writeC c a.itn).1 else c) := by unfold doesC; rw [if_pos h1]
    rw [e]
    by_cases h2 : (writeC c a.itn).2.2.2 = 0
    · rw [if_pos h2]
      exact .inr (.inl ⟨(writeC c a.itn).2.1, (writeC c a.itn).2.2.1, Prod.ext rfl (Prod.ext rfl (Prod.ext rfl h2))⟩)
    · rw [if_neg h2]; exact .inl rfl
  · by_cases h2 : a.kind = 2
    · have e : doesC a c = (if (resolveC c a.id a.ep a.commit a.at_).2 = 0 then (resolveC c a.id a.ep a.commit a.at_).1 else c) := by unfold doesC; rw [if_neg h1, if_pos h2]
      rw [e]
      by_cases h3 : (resolveC c a.id a.ep a.commit a.at_).2 = 0
      · rw [if_pos h3]
        exact .inr (.inr (Prod.ext rfl h3))
      · rw [if_neg h3]; exact .inl rfl
    · left
      unfold doesC
      rw [if_neg h1, if_neg h2]

/-- Right stays. -/
theorem doesC_right {c : Chn} (a : ActR) (hr : rightC c) : rightC (doesC a c) := by
  rcases doesC_cases a c with e | ⟨s, m, e⟩ | e
  · rw [e]; exact hr
  · exact writeC_right hr e
  · exact resolveC_right hr e

/-- The versions stay; there may be one more, the intent's that was there; then none is open. -/
theorem doesC_vs (c : Chn) (a : ActR) : (doesC a c).vs = c.vs ∨ (c.opn = true ∧ (doesC a c).opn = false ∧ ∃ v, (doesC a c).vs = c.vs ++ [v] ∧ v.by_ = c.itn.txn.id) := by
  rcases doesC_cases a c with e | ⟨s, m, e⟩ | e
  · rw [e]; exact .inl rfl
  · exact .inl (writeC_vs e)
  · exact resolveC_vs e

/-- What was stays. -/
theorem doesC_quiet {c : Chn} {s : Stp} {a : ActR} (hq : Quiet c s) (hi : ltB s a.itn.at_ = true) (ha : ltB s a.at_ = true) (hid : a.itn.txn.id ≠ -1) :
    Quiet (doesC a c) s ∧ seenV (doesC a c).vs s = seenV c.vs s := by
  rcases doesC_cases a c with e | ⟨b, m, e⟩ | e
  · rw [e]; exact ⟨hq, rfl⟩
  · have h := quiet_write hq hi hid e
    exact ⟨h.1, by rw [h.2]⟩
  · exact quiet_resolve hq ha e

theorem doesC_len (c : Chn) (a : ActR) : c.vs.length ≤ (doesC a c).vs.length ∧ (doesC a c).vs.length ≤ c.vs.length + 1 := by
  rcases doesC_vs c a with e | ⟨_, _, v, e, _⟩
  · rw [e]; omega
  · rw [e]; simp

end Go.Proofs.Ytcahmnpoajnmpaa
