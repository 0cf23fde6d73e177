/-
  What the law VersionSees asks, by lists. Of no program. No law is proved here.
-/
import Derived.Test.YtcahmnpoajnmpaaVLaws
namespace Go.Proofs.Ytcahmnpoajnmpaa
set_option linter.unusedVariables false

/-- Laid on a right chain that is not open: the intent, at a stamp that is right. -/
theorem sees_laid {c y : Chn} {j : Itn} {a : Stp} {m : Met} (hr : rightC c) (ho : c.opn = false) (h : writeC c j = (y, a, m, 0)) :
    y = ⟨c.vs, true, { j with at_ := a }⟩ ∧ okS a = true ∧ ∀ s, lastS c.vs = some s → ltB s a = true := by
  obtain ⟨_, _, _, hx⟩ := writeC_ok h
  rcases hx with ⟨_, _, k, _⟩ | ⟨h1, h2, h3⟩
  · rw [ho] at k; cases k
  · exact ⟨h3, h2, (atC_above h1).2.1⟩

/-- Read at once by its own, and told to another one. -/
theorem sees_own (vs : List Ver) (j : Itn) (a b l : Stp) (hg : j.gone = false) : readC ⟨vs, true, { j with at_ := a }⟩ b l j.txn.id j.txn.ep = (⟨a, j.val, false, j.txn.id⟩, true, Met.zero, 0) :=
  readC_own (x := ⟨vs, true, { j with at_ := a }⟩) rfl rfl rfl hg
theorem sees_other (vs : List Ver) (j : Itn) (a : Stp) (hj : ¬ j.txn.id < 0) : readC ⟨vs, true, { j with at_ := a }⟩ a a (-1) 0 = (Ver.zero, false, j.txn, 81) :=
  readC_other (x := ⟨vs, true, { j with at_ := a }⟩) rfl (by show j.txn.id ≠ -1; omega) (upB_self a)
theorem sees_query (j : Itn) (a : Stp) : queryC ⟨[], true, { j with at_ := a }⟩ j.txn.id j.txn.ep j.seq a = true := by
  unfold queryC
  simp [upB_self]

/-- What it is made of, and what is read then. -/
theorem sees_done {vs : List Ver} {j : Itn} {a t : Stp} (ht : okS t = true) (hl : ∀ s, lastS vs = some s → ltB s t = true) :
    resolveC ⟨vs, true, { j with at_ := a }⟩ j.txn.id j.txn.ep true t = (⟨vs ++ [⟨t, j.val, j.gone, j.txn.id⟩], false, Itn.zero⟩, 0) :=
  resolveC_commit (x := ⟨vs, true, { j with at_ := a }⟩) rfl rfl rfl ht hl
theorem sees_then (vs : List Ver) (j : Itn) (t : Stp) (hg : j.gone = false) :
    readC ⟨vs ++ [⟨t, j.val, j.gone, j.txn.id⟩], false, Itn.zero⟩ t t (-1) 0 = (⟨t, j.val, j.gone, j.txn.id⟩, true, Met.zero, 0) := by
  rw [readC_self (fun h => by cases h)]
  exact seenV_last vs ⟨t, j.val, j.gone, j.txn.id⟩ t (upB_self t) hg
theorem sees_rise {vs : List Ver} {j : Itn} {t : Stp} (hr : riseB vs = true) (ht : okS t = true) (hl : ∀ s, lastS vs = some s → ltB s t = true) :
    riseB (vs ++ [⟨t, j.val, j.gone, j.txn.id⟩]) = true := (rise_snoc _ _).2 ⟨hr, ht, hl⟩
theorem sees_drop (vs : List Ver) (j : Itn) (a t : Stp) : resolveC ⟨vs, true, { j with at_ := a }⟩ j.txn.id j.txn.ep false t = (⟨vs, false, Itn.zero⟩, 0) :=
  resolveC_drop (x := ⟨vs, true, { j with at_ := a }⟩) rfl rfl rfl

/-- A stamp that an intent may be decided at. -/
structure Fit (vs : List Ver) (t : Stp) : Prop where
  ok : okS t = true
  up : ∀ s, lastS vs = some s → ltB s t = true
theorem Fit.next {vs : List Ver} {t n : Stp} (h : Fit vs t) (hn : nextS t = some n) : Fit vs n :=
  ⟨(nextS_lt hn).2, fun s hs => ltB_trans (h.up s hs) (nextS_lt hn).1⟩

/-- All that the law asks. -/
theorem sees_facts {c y : Chn} {j : Itn} {a : Stp} {m : Met} (hr : rightC c) (h : writeC c j = (y, a, m, 0)) (ho : c.opn = false) (hg : j.gone = false) (hid : ¬ j.txn.id < 0) :
    y.vs = c.vs ∧ y.opn = true ∧ c.itn = Itn.zero ∧ riseB c.vs = true ∧ Fit c.vs a ∧
    (∃ v, readC y (0, 0) (0, 0) j.txn.id j.txn.ep = (v, true, Met.zero, 0) ∧ v.val = j.val) ∧ readC y a a (-1) 0 = (Ver.zero, false, j.txn, 81) ∧ queryC ⟨[], true, y.itn⟩ j.txn.id j.txn.ep j.seq a = true ∧
    ∀ t, Fit c.vs t → (∃ z v, resolveC y j.txn.id j.txn.ep true t = (z, 0) ∧ z.vs.length = c.vs.length + 1 ∧ riseB z.vs = true ∧ readC z t t (-1) 0 = (v, true, Met.zero, 0) ∧ v.val = j.val ∧ v.at_ = t ∧ v.by_ = j.txn.id) ∧
      resolveC y j.txn.id j.txn.ep false t = (⟨c.vs, false, Itn.zero⟩, 0) := by
  obtain ⟨rfl, h2, h3⟩ := sees_laid hr ho h
  refine ⟨rfl, rfl, hr.2.2 ho, hr.1, ⟨h2, h3⟩, ⟨_, sees_own c.vs j a _ _ hg, rfl⟩, sees_other c.vs j a hid, sees_query j a, fun t ht => ⟨⟨_, _, sees_done ht.ok ht.up, by simp, sees_rise hr.1 ht.ok ht.up, sees_then c.vs j t hg, rfl, rfl, rfl⟩, sees_drop c.vs j a t⟩⟩

end Go.Proofs.Ytcahmnpoajnmpaa
