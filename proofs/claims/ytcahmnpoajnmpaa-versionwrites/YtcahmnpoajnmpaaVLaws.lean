/-
  What the laws of chains ask, by lists: what is written is seen; once; what was stays; right stays. Of no program. No law is proved here.
-/
import Derived.Test.YtcahmnpoajnmpaaVChain
namespace Go.Proofs.Ytcahmnpoajnmpaa
set_option linter.unusedVariables false

/-- Behind a write the intent is there, at its stamp, which is right and above the last version's. -/
theorem writeC_there {c x : Chn} {i : Itn} {a : Stp} {m : Met} (hr : rightC c) (h : writeC c i = (x, a, m, 0)) :
    x.vs = c.vs ∧ x.opn = true ∧ x.itn.txn.id = i.txn.id ∧ x.itn.txn.ep = i.txn.ep ∧ i.seq ≤ x.itn.seq ∧ x.itn.at_ = a ∧ okS a = true ∧ (∀ s, lastS c.vs = some s → ltB s a = true) ∧ ∀ v ∈ c.vs, v.by_ ≠ i.txn.id := by
  obtain ⟨_, hid, hby, hx⟩ := writeC_ok h
  rcases hx with ⟨rfl, rfl, h1, h2, h3⟩ | ⟨h1, h2, rfl⟩
  · have := hr.2.1 h1
    exact ⟨rfl, h1, hid h1, h2, h3, rfl, this.1, this.2, hby⟩
  · exact ⟨rfl, rfl, rfl, rfl, Int.le_refl _, rfl, h2, (atC_above h1).2.1, hby⟩

/-- Laid again it is as it was. -/
theorem writeC_again {c x : Chn} {i : Itn} {a : Stp} {m : Met} (hr : rightC c) (h : writeC c i = (x, a, m, 0)) : writeC x i = (x, a, Met.zero, 0) := by
  obtain ⟨h1, h2, h3, h4, h5, h6, _, _, h9⟩ := writeC_there hr h
  unfold writeC
  rw [if_neg (fun k => k.2 h3), if_neg, if_neg (fun k => by have := k.2; omega), if_pos ⟨h2, h4, h5⟩, h6]
  rw [h1]
  intro k
  obtain ⟨v, hv, e⟩ := List.any_eq_true.1 k
  exact h9 v hv (by simpa using e)

/-- Decided, to commit. -/
theorem resolveC_commit {x : Chn} {id ep : Int} {a : Stp} (h1 : x.opn = true) (h2 : x.itn.txn.id = id) (h3 : x.itn.txn.ep = ep) (h4 : okS a = true) (h5 : ∀ s, lastS x.vs = some s → ltB s a = true) :
    resolveC x id ep true a = (⟨x.vs ++ [⟨a, x.itn.val, x.itn.gone, id⟩], false, Itn.zero⟩, 0) := by
  unfold resolveC
  rw [if_neg (fun k => by
    rcases k with k | k
    · rw [h1] at k; cases k
    · exact k h2), if_neg (fun k => by cases k.1), if_pos ⟨rfl, h3⟩, if_pos ⟨h4, h5⟩]

/-- Decided, not to commit. -/
theorem resolveC_drop {x : Chn} {id ep : Int} {a : Stp} (h1 : x.opn = true) (h2 : x.itn.txn.id = id) (h3 : x.itn.txn.ep = ep) :
    resolveC x id ep false a = (⟨x.vs, false, Itn.zero⟩, 0) := by
  unfold resolveC
  rw [if_neg (fun k => by
    rcases k with k | k
    · rw [h1] at k; cases k
    · exact k h2), if_neg (fun k => by have := k.2; omega), if_neg (fun k => by cases k.1)]

/-- Decided already: nothing changes. -/
theorem resolveC_closed {x : Chn} (id ep : Int) (commit : Bool) (a : Stp) (h : x.opn = false) : resolveC x id ep commit a = (x, 0) := by
  unfold resolveC
  rw [if_pos (.inl h)]

/-- A transaction that has a version lays none. -/
theorem writeC_done {vs : List Ver} {i : Itn} {v : Ver} (hv : v ∈ vs) (hb : v.by_ = i.txn.id) : writeC ⟨vs, false, Itn.zero⟩ i = (Chn.zero, (0, 0), Met.zero, 83) := by
  unfold writeC
  rw [if_neg (fun k => by cases k.1), if_pos (List.any_eq_true.2 ⟨v, hv, by simp [hb]⟩)]

/-- Read by its own transaction, at its epoch. -/
theorem readC_own {x : Chn} {id ep : Int} {a l : Stp} (h1 : x.opn = true) (h2 : x.itn.txn.id = id) (h3 : x.itn.txn.ep = ep) (h4 : x.itn.gone = false) : readC x a l id ep = (⟨x.itn.at_, x.itn.val, false, id⟩, true, Met.zero, 0) := by
  unfold readC
  rw [if_pos ⟨h1, h2, h3⟩, if_neg (by rw [h4]; simp)]

/-- Told to another one, up to its stamp. -/
theorem readC_other {x : Chn} {id ep : Int} {a l : Stp} (h1 : x.opn = true) (h2 : x.itn.txn.id ≠ id) (h3 : upB x.itn.at_ l = true) : readC x a l id ep = (Ver.zero, false, x.itn.txn, 81) := by
  unfold readC
  rw [if_neg (fun k => h2 k.2.1), if_pos ⟨h1, h2, h3⟩]

theorem seenV_last (vs : List Ver) (v : Ver) (a : Stp) (h : upB v.at_ a = true) (hg : v.gone = false) : seenV (vs ++ [v]) a = (v, true, Met.zero, 0) := by
  unfold seenV
  rw [bestV_snoc, if_pos h]
  simp only
  rw [if_neg (by rw [hg]; simp)]

/-- A chain that nobody wrote at a stamp, or below, since, and that somebody else may have an intent in, above it. -/
def Quiet (c : Chn) (a : Stp) : Prop := c.opn = true → c.itn.txn.id ≠ -1 ∧ upB c.itn.at_ a = false

theorem quiet_read {c : Chn} {a : Stp} (h : Quiet c a) : readC c a a (-1) 0 = seenV c.vs a := readC_self h

theorem not_up {a b : Stp} (h : ltB a b = true) : upB b a = false := by
  rw [ltB_iff] at h
  rw [upB_not]
  exact h

theorem quiet_write {c x : Chn} {i : Itn} {a b : Stp} {m : Met} (hq : Quiet c a) (hi : ltB a i.at_ = true) (hid : i.txn.id ≠ -1) (h : writeC c i = (x, b, m, 0)) : Quiet x a ∧ x.vs = c.vs := by
  obtain ⟨_, hid', _, hx⟩ := writeC_ok h
  rcases hx with ⟨rfl, rfl, h1, h2, h3⟩ | ⟨h1, h2, rfl⟩
  · exact ⟨hq, rfl⟩
  · exact ⟨fun _ => ⟨hid, not_up (lt_up hi (atC_above h1).1)⟩, rfl⟩

theorem quiet_resolve {c x : Chn} {id ep : Int} {commit : Bool} {a b : Stp} (hq : Quiet c a) (hb : ltB a b = true) (h : resolveC c id ep commit b = (x, 0)) : Quiet x a ∧ seenV x.vs a = seenV c.vs a := by
  rcases resolveC_ok h with ⟨rfl, _⟩ | ⟨_, _, ⟨_, _, _, _, rfl⟩ | ⟨_, rfl⟩⟩
  · exact ⟨hq, rfl⟩
  · exact ⟨fun h => (by cases h), seenV_snoc _ _ _ hb⟩
  · exact ⟨fun h => (by cases h), rfl⟩

/-- Behind a write the versions are as they were; behind a decision there may be one more, which is the intent's that was there, and then none is open. -/
theorem writeC_vs {c x : Chn} {i : Itn} {a : Stp} {m : Met} (h : writeC c i = (x, a, m, 0)) : x.vs = c.vs := by
  obtain ⟨_, _, _, hx⟩ := writeC_ok h
  rcases hx with ⟨rfl, _⟩ | ⟨_, _, rfl⟩ <;> rfl

theorem resolveC_vs {c x : Chn} {id ep : Int} {commit : Bool} {a : Stp} (h : resolveC c id ep commit a = (x, 0)) : x.vs = c.vs ∨ (c.opn = true ∧ x.opn = false ∧ ∃ v, x.vs = c.vs ++ [v] ∧ v.by_ = c.itn.txn.id) := by
  rcases resolveC_ok h with ⟨rfl, _⟩ | ⟨h1, h2, ⟨_, _, _, _, rfl⟩ | ⟨_, rfl⟩⟩
  · exact .inl rfl
  · exact .inr ⟨h1, rfl, _, rfl, h2.symm⟩
  · exact .inl rfl

end Go.Proofs.Ytcahmnpoajnmpaa
