/-
  A chain: what is written, decided and read, by lists. Of no program. No law is proved here.
-/
import Derived.Test.YtcahmnpoajnmpaaVMath
namespace Go.Proofs.Ytcahmnpoajnmpaa
set_option linter.unusedVariables false

/-- Who a transaction is. -/
structure Met where
  id : Int
  ep : Int
  anchor : ByteArray
  start : Stp
/-- What is not decided. -/
structure Itn where
  txn : Met
  seq : Int
  at_ : Stp
  val : ByteArray
  gone : Bool
structure Chn where
  vs : List Ver
  opn : Bool
  itn : Itn
def Met.zero : Met := ⟨0, 0, ⟨#[]⟩, (0, 0)⟩
def Itn.zero : Itn := ⟨Met.zero, 0, (0, 0), ⟨#[]⟩, false⟩
def Chn.zero : Chn := ⟨[], false, Itn.zero⟩
def Ver.zero : Ver := ⟨(0, 0), ⟨#[]⟩, false, 0⟩

def nextS (s : Stp) : Option Stp :=
  if okS s = true then (if s.2 = 65535 then (if s.1 < 1099511627776 then some (s.1 + 1, 0) else none) else some (s.1, s.2 + 1)) else none
def maxS (a b : Stp) : Stp := if ltB a b = true then b else a

theorem nextS_lt {s n : Stp} (h : nextS s = some n) : ltB s n = true ∧ okS n = true := by
  unfold nextS at h
  split at h
  · rename_i ho
    unfold okS at ho
    simp only [decide_eq_true_eq] at ho
    split at h
    · split at h
      · injection h with h; subst h
        refine ⟨by rw [ltB_iff]; left; show s.1 < s.1 + 1; omega, ?_⟩
        unfold okS
        simp only [decide_eq_true_eq]
        omega
      · cases h
    · injection h with h; subst h
      refine ⟨by rw [ltB_iff]; right; exact ⟨rfl, by show s.2 < s.2 + 1; omega⟩, ?_⟩
      unfold okS
      simp only [decide_eq_true_eq]
      omega
  · cases h

theorem maxS_left (a b : Stp) : upB a (maxS a b) = true := by
  unfold maxS
  split
  · exact upB_of_lt (by assumption)
  · exact upB_self a
theorem maxS_right (a b : Stp) : upB b (maxS a b) = true := by
  unfold maxS
  split
  · exact upB_self b
  · rename_i h
    rw [Bool.not_eq_true, ltB_not] at h
    rw [upB_iff]
    exact h
theorem lt_up {a b c : Stp} (h : ltB a b = true) (k : upB b c = true) : ltB a c = true := by
  rw [ltB_iff] at *
  rw [upB_iff] at k
  omega

/-- A chain is right. -/
def rightC (c : Chn) : Prop := riseB c.vs = true ∧ (c.opn = true → okS c.itn.at_ = true ∧ ∀ s, lastS c.vs = some s → ltB s c.itn.at_ = true) ∧ (c.opn = false → c.itn = Itn.zero)

theorem rightC_zero : rightC Chn.zero := ⟨rfl, fun h => (by cases h), fun _ => rfl⟩

/-- The stamp that an intent is to have. -/
def atC (c : Chn) (i : Itn) : Option Stp :=
  ((match lastS c.vs with | none => some i.at_ | some s => (nextS s).map (maxS i.at_)).map fun a => if c.opn = true then maxS a c.itn.at_ else a)

theorem atC_above {c : Chn} {i : Itn} {a : Stp} (h : atC c i = some a) : upB i.at_ a = true ∧ (∀ s, lastS c.vs = some s → ltB s a = true) ∧ (c.opn = true → upB c.itn.at_ a = true) := by
  unfold atC at h
  obtain ⟨x, hx, rfl⟩ := Option.map_eq_some_iff.1 h
  have hup : upB x (if c.opn = true then maxS x c.itn.at_ else x) = true := by
    split
    · exact maxS_left _ _
    · exact upB_self x
  have h3 : c.opn = true → upB c.itn.at_ (if c.opn = true then maxS x c.itn.at_ else x) = true := fun ho => by
    rw [if_pos ho]
    exact maxS_right _ _
  cases hl : lastS c.vs with
  | none =>
    rw [hl] at hx
    simp only [Option.some.injEq] at hx
    subst hx
    exact ⟨hup, fun s hs => (by cases hs), h3⟩
  | some s =>
    rw [hl] at hx
    obtain ⟨n, hn, rfl⟩ := Option.map_eq_some_iff.1 hx
    refine ⟨upB_trans (maxS_left _ _) hup, fun s' hs' => ?_, h3⟩
    injection hs' with hs'
    subst hs'
    exact lt_up (lt_up (nextS_lt hn).1 (maxS_right _ _)) hup

/-- An intent is laid: the chain, its stamp, whose intent is in the way, the error. -/
def writeC (c : Chn) (i : Itn) : Chn × Stp × Met × Int :=
  if c.opn = true ∧ c.itn.txn.id ≠ i.txn.id then (Chn.zero, (0, 0), c.itn.txn, 81)
  else if (c.vs.any fun v => decide (v.by_ = i.txn.id)) = true then (Chn.zero, (0, 0), Met.zero, 83)
  else if c.opn = true ∧ i.txn.ep < c.itn.txn.ep then (Chn.zero, (0, 0), Met.zero, 84)
  else if c.opn = true ∧ c.itn.txn.ep = i.txn.ep ∧ i.seq ≤ c.itn.seq then (c, c.itn.at_, Met.zero, 0)
  else match atC c i with
    | none => (Chn.zero, (0, 0), Met.zero, 31)
    | some a => if okS a = true then (⟨c.vs, true, { i with at_ := a }⟩, a, Met.zero, 0) else (Chn.zero, (0, 0), Met.zero, 31)

/-- Where an intent is laid: the chain as it is, with its own there already; or the intent in its place. -/
theorem writeC_ok {c x : Chn} {i : Itn} {a : Stp} {m : Met} (h : writeC c i = (x, a, m, 0)) : m = Met.zero ∧ (c.opn = true → c.itn.txn.id = i.txn.id) ∧ (∀ v ∈ c.vs, v.by_ ≠ i.txn.id) ∧
    ((x = c ∧ a = c.itn.at_ ∧ c.opn = true ∧ c.itn.txn.ep = i.txn.ep ∧ i.seq ≤ c.itn.seq) ∨ (atC c i = some a ∧ okS a = true ∧ x = ⟨c.vs, true, { i with at_ := a }⟩)) := by
  unfold writeC at h
  split at h
  · simp at h
  rename_i h1
  split at h
  · simp at h
  rename_i h2
  have hby : ∀ v ∈ c.vs, v.by_ ≠ i.txn.id := fun v hv e => h2 (by rw [List.any_eq_true]; exact ⟨v, hv, by simp [e]⟩)
  have hid : c.opn = true → c.itn.txn.id = i.txn.id := fun ho => by
    rcases Classical.em (c.itn.txn.id = i.txn.id) with e | e
    · exact e
    · exact absurd ⟨ho, e⟩ h1
  split at h
  · simp at h
  split at h
  · rename_i h4
    simp only [Prod.mk.injEq] at h
    obtain ⟨rfl, rfl, rfl, _⟩ := h
    exact ⟨rfl, hid, hby, .inl ⟨rfl, rfl, h4.1, h4.2.1, h4.2.2⟩⟩
  cases ha : atC c i with
  | none => rw [ha] at h; simp at h
  | some b =>
    rw [ha] at h
    simp only at h
    split at h
    · rename_i ho
      simp only [Prod.mk.injEq] at h
      obtain ⟨rfl, rfl, rfl, _⟩ := h
      exact ⟨rfl, hid, hby, .inr ⟨rfl, ho, rfl⟩⟩
    · simp at h

theorem writeC_right {c x : Chn} {i : Itn} {a : Stp} {m : Met} (hr : rightC c) (h : writeC c i = (x, a, m, 0)) : rightC x := by
  obtain ⟨_, _, _, hx⟩ := writeC_ok h
  rcases hx with ⟨rfl, _⟩ | ⟨h1, h2, rfl⟩
  · exact hr
  · exact ⟨hr.1, fun _ => ⟨h2, (atC_above h1).2.1⟩, fun h => by cases h⟩

/-- An intent is decided. -/
def resolveC (c : Chn) (id ep : Int) (commit : Bool) (a : Stp) : Chn × Int :=
  if c.opn = false ∨ c.itn.txn.id ≠ id then (c, 0)
  else if commit = false ∧ ep < c.itn.txn.ep then (c, 0)
  else if commit = true ∧ c.itn.txn.ep = ep then
    if okS a = true ∧ (∀ s, lastS c.vs = some s → ltB s a = true) then (⟨c.vs ++ [⟨a, c.itn.val, c.itn.gone, id⟩], false, Itn.zero⟩, 0) else (Chn.zero, 84)
  else (⟨c.vs, false, Itn.zero⟩, 0)

theorem resolveC_ok {c x : Chn} {id ep : Int} {commit : Bool} {a : Stp} (h : resolveC c id ep commit a = (x, 0)) :
    (x = c ∧ (c.opn = false ∨ c.itn.txn.id ≠ id ∨ (commit = false ∧ ep < c.itn.txn.ep))) ∨
    (c.opn = true ∧ c.itn.txn.id = id ∧ ((commit = true ∧ c.itn.txn.ep = ep ∧ okS a = true ∧ (∀ s, lastS c.vs = some s → ltB s a = true) ∧ x = ⟨c.vs ++ [⟨a, c.itn.val, c.itn.gone, id⟩], false, Itn.zero⟩) ∨ (¬ (commit = true ∧ c.itn.txn.ep = ep) ∧ x = ⟨c.vs, false, Itn.zero⟩))) := by
  unfold resolveC at h
  split at h
  · rename_i h1
    simp only [Prod.mk.injEq, and_true] at h
    exact .inl ⟨h.symm, h1.elim .inl (fun e => .inr (.inl e))⟩
  rename_i h1
  have ho : c.opn = true := by cases hh : c.opn <;> simp_all
  have hid : c.itn.txn.id = id := by
    rcases Classical.em (c.itn.txn.id = id) with e | e
    · exact e
    · exact absurd (.inr e) h1
  split at h
  · rename_i h2
    simp only [Prod.mk.injEq, and_true] at h
    exact .inl ⟨h.symm, .inr (.inr h2)⟩
  split at h
  · rename_i h3
    split at h
    · rename_i h4
      simp only [Prod.mk.injEq, and_true] at h
      exact .inr ⟨ho, hid, .inl ⟨h3.1, h3.2, h4.1, h4.2, h.symm⟩⟩
    · simp at h
  · rename_i h3
    simp only [Prod.mk.injEq, and_true] at h
    exact .inr ⟨ho, hid, .inr ⟨h3, h.symm⟩⟩

theorem resolveC_right {c x : Chn} {id ep : Int} {commit : Bool} {a : Stp} (hr : rightC c) (h : resolveC c id ep commit a = (x, 0)) : rightC x := by
  rcases resolveC_ok h with ⟨rfl, _⟩ | ⟨_, _, ⟨_, _, h1, h2, rfl⟩ | ⟨_, rfl⟩⟩
  · exact hr
  · exact ⟨(rise_snoc _ _).2 ⟨hr.1, h1, h2⟩, fun h => (by cases h), fun _ => rfl⟩
  · exact ⟨hr.1, fun h => (by cases h), fun _ => rfl⟩

/-- What is read: the version, whether there is one, whose intent is in the way, the error. -/
def readC (c : Chn) (a l : Stp) (id ep : Int) : Ver × Bool × Met × Int :=
  if c.opn = true ∧ c.itn.txn.id = id ∧ c.itn.txn.ep = ep then
    (if c.itn.gone = true then (Ver.zero, false, Met.zero, 0) else (⟨c.itn.at_, c.itn.val, false, id⟩, true, Met.zero, 0))
  else if c.opn = true ∧ c.itn.txn.id ≠ id ∧ upB c.itn.at_ l = true then (Ver.zero, false, c.itn.txn, 81)
  else match doubtV c.vs a l with
    | some v => (⟨v.at_, ⟨#[]⟩, false, 0⟩, false, Met.zero, 82)
    | none => match bestV c.vs a with
      | some v => if v.gone = true then (Ver.zero, false, Met.zero, 0) else (v, true, Met.zero, 0)
      | none => (Ver.zero, false, Met.zero, 0)

/-- What is read of versions alone. -/
def seenV (vs : List Ver) (a : Stp) : Ver × Bool × Met × Int :=
  match bestV vs a with
  | some v => if v.gone = true then (Ver.zero, false, Met.zero, 0) else (v, true, Met.zero, 0)
  | none => (Ver.zero, false, Met.zero, 0)

/-- By one who has no intent, where none is in the way, up to the stamp itself. -/
theorem readC_self {c : Chn} {a : Stp} {id ep : Int} (h : c.opn = true → c.itn.txn.id ≠ id ∧ upB c.itn.at_ a = false) : readC c a a id ep = seenV c.vs a := by
  unfold readC
  rw [if_neg (fun k => (h k.1).1 k.2.1), if_neg (fun k => by have := (h k.1).2; rw [k.2.2] at this; cases this), doubtV_self]
  rfl

theorem seenV_snoc (vs : List Ver) (v : Ver) (a : Stp) (h : ltB a v.at_ = true) : seenV (vs ++ [v]) a = seenV vs a := by
  unfold seenV
  rw [bestV_snoc, if_neg]
  intro k
  rw [upB_iff] at k
  rw [ltB_iff] at h
  omega

/-- Whether it can be refreshed. -/
def refreshC (c : Chn) (id : Int) (f t : Stp) : Met × Int :=
  if c.opn = true ∧ c.itn.txn.id ≠ id ∧ upB c.itn.at_ t = true then (c.itn.txn, 81)
  else if (c.vs.any fun v => !upB v.at_ f && upB v.at_ t) = true then (Met.zero, 221) else (Met.zero, 0)

/-- Nothing between: what is read at the one is read at the other. -/
theorem refreshC_seen {c : Chn} {id : Int} {f t : Stp} {m : Met} (hlt : ltB f t = true) (h : refreshC c id f t = (m, 0)) :
    (c.opn = true → c.itn.txn.id = id ∨ upB c.itn.at_ t = false) ∧ doubtV c.vs f t = none ∧ bestV c.vs f = bestV c.vs t := by
  unfold refreshC at h
  split at h
  · simp at h
  rename_i h1
  split at h
  · simp at h
  rename_i h2
  have hno : ∀ v ∈ c.vs, (!upB v.at_ f && upB v.at_ t) = false := fun v hv => by
    cases hh : (!upB v.at_ f && upB v.at_ t)
    · rfl
    · exact absurd (List.any_eq_true.2 ⟨v, hv, hh⟩) h2
  refine ⟨fun ho => ?_, ?_, ?_⟩
  · rcases Classical.em (c.itn.txn.id = id) with e | e
    · exact .inl e
    · right
      cases hh : upB c.itn.at_ t
      · rfl
      · exact absurd ⟨ho, e, hh⟩ h1
  · unfold doubtV
    rw [List.filter_eq_nil_iff.2 (fun v hv => by rw [hno v hv]; simp)]
    rfl
  · unfold bestV
    congr 1
    apply List.filter_congr
    intro v hv
    have h3 := hno v hv
    cases hf : upB v.at_ f
    · rw [hf] at h3
      simpa using h3.symm
    · rw [upB_trans hf (upB_of_lt hlt)]

/-- Is this intent there? -/
def queryC (c : Chn) (id ep seq : Int) (a : Stp) : Bool := c.opn && decide (c.itn.txn.id = id) && decide (c.itn.txn.ep = ep) && decide (seq ≤ c.itn.seq) && upB c.itn.at_ a

end Go.Proofs.Ytcahmnpoajnmpaa
