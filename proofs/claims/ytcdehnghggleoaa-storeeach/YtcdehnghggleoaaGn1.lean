/-
  VMath, VChain, Base, S5Key, S5Right, S5Has, S5Clip, S5Math, SMath, Later, Small: one behind the other. No law is proved here.
-/
import Derived.RowKit
import Derived.Test.YtcdehnghggleoaaChecked
import Derived.WalkKit
import Derived.WalkSpells
import Derived.WalkLawsBesides
import Derived.Deep.LoopGhost
import Derived.Lib.Walk
import Derived.Lib.MinMaxS
import Derived.BigQuiet
/-
  One key's versions, by lists: which is read, what is in doubt, what rises. Of no program. No law is proved here.
-/
namespace Go.Proofs.Ytcdehnghggleoaa
set_option linter.unusedVariables false

/-- A stamp: wall, logical. -/
abbrev Stp := Int × Int
def ltB (a b : Stp) : Bool := decide (a.1 < b.1 ∨ a.1 = b.1 ∧ a.2 < b.2)
def okS (a : Stp) : Bool := decide (0 ≤ a.1 ∧ a.1 ≤ 1099511627776 ∧ 0 ≤ a.2 ∧ a.2 ≤ 65535)
/-- Not above. -/
def upB (a b : Stp) : Bool := !ltB b a

theorem ltB_iff (a b : Stp) : ltB a b = true ↔ (a.1 < b.1 ∨ a.1 = b.1 ∧ a.2 < b.2) := by unfold ltB; simp
theorem ltB_not (a b : Stp) : ltB a b = false ↔ ¬ (a.1 < b.1 ∨ a.1 = b.1 ∧ a.2 < b.2) := by unfold ltB; simp
theorem upB_iff (a b : Stp) : upB a b = true ↔ ¬ (b.1 < a.1 ∨ b.1 = a.1 ∧ b.2 < a.2) := by unfold upB; rw [Bool.not_eq_true', ltB_not]
theorem upB_not (a b : Stp) : upB a b = false ↔ (b.1 < a.1 ∨ b.1 = a.1 ∧ b.2 < a.2) := by unfold upB; rw [Bool.not_eq_false', ltB_iff]

theorem ltB_trans {a b c : Stp} (h : ltB a b = true) (k : ltB b c = true) : ltB a c = true := by rw [ltB_iff] at *; omega
theorem ltB_irr (a : Stp) : ltB a a = false := by rw [ltB_not]; omega
theorem upB_self (a : Stp) : upB a a = true := by rw [upB_iff]; omega
theorem upB_of_lt {a b : Stp} (h : ltB a b = true) : upB a b = true := by rw [ltB_iff] at h; rw [upB_iff]; omega
theorem upB_trans {a b c : Stp} (h : upB a b = true) (k : upB b c = true) : upB a c = true := by rw [upB_iff] at *; omega
theorem upB_lt {a b c : Stp} (h : ltB a b = true) (k : upB b c = true) : upB a c = true := upB_trans (upB_of_lt h) k
theorem stp_eq {a b : Stp} (h : upB a b = true) (k : upB b a = true) : a = b := by
  rw [upB_iff] at *
  obtain ⟨x, y⟩ := a
  obtain ⟨u, v⟩ := b
  simp only at *
  rw [Prod.mk.injEq]
  omega

/-- A version: its stamp, its value, whether it is gone, whose it is. -/
structure Ver where
  at_ : Stp
  val : ByteArray
  gone : Bool
  by_ : Int

def lastS (vs : List Ver) : Option Stp := vs.getLast?.map (·.at_)

/-- Their stamps are right, and rise. -/
def riseB : List Ver → Bool
  | [] => true
  | v :: r => okS v.at_ && (match r with | [] => true | u :: _ => ltB v.at_ u.at_) && riseB r

theorem riseB_cons (v : Ver) (r : List Ver) : riseB (v :: r) = true ↔ okS v.at_ = true ∧ (∀ u, r.head? = some u → ltB v.at_ u.at_ = true) ∧ riseB r = true := by
  cases r with
  | nil => simp [riseB]
  | cons u q => simp [riseB, and_assoc]

/-- All behind the first are above it. -/
theorem rise_above : ∀ (r : List Ver) (v : Ver), riseB (v :: r) = true → ∀ u ∈ r, ltB v.at_ u.at_ = true
  | [], v, h, u, hu => by cases hu
  | x :: q, v, h, u, hu => by
    obtain ⟨h1, h2, h3⟩ := (riseB_cons v (x :: q)).1 h
    have hx := h2 x rfl
    rcases List.mem_cons.1 hu with rfl | hq
    · exact hx
    · exact ltB_trans hx (rise_above q x h3 u hq)

theorem rise_snoc : ∀ (vs : List Ver) (v : Ver), riseB (vs ++ [v]) = true ↔ riseB vs = true ∧ okS v.at_ = true ∧ ∀ s, lastS vs = some s → ltB s v.at_ = true
  | [], v => by simp [riseB, lastS]
  | x :: r, v => by
    rw [List.cons_append, riseB_cons, riseB_cons, rise_snoc r v]
    cases r with
    | nil =>
      simp [lastS, riseB]
      intro _
      exact And.comm
    | cons u q =>
      have e : lastS (x :: u :: q) = lastS (u :: q) := by simp [lastS]
      rw [e]
      simp only [List.cons_append, List.head?_cons]
      constructor
      · rintro ⟨a, b, c, d, f⟩; exact ⟨⟨a, b, c⟩, d, f⟩
      · rintro ⟨⟨a, b, c⟩, d, f⟩; exact ⟨a, b, c, d, f⟩

theorem rise_last (vs : List Ver) (h : riseB vs = true) (s : Stp) (hs : lastS vs = some s) : okS s = true ∧ ∀ u ∈ vs, upB u.at_ s = true := by
  rcases List.eq_nil_or_concat vs with rfl | ⟨r, v, rfl⟩
  · cases hs
  · rw [List.concat_eq_append] at *
    obtain ⟨h1, h2, h3⟩ := (rise_snoc r v).1 h
    have e : s = v.at_ := by simpa [lastS] using hs.symm
    subst e
    refine ⟨h2, fun u hu => ?_⟩
    rcases List.mem_append.1 hu with hu | hu
    · clear hs
      induction r with
      | nil => cases hu
      | cons x q ih =>
        have hab := rise_above (q ++ [v]) x (by simpa using h)
        rcases List.mem_cons.1 hu with rfl | hq
        · exact upB_of_lt (hab v (by simp))
        · have hq' := (riseB_cons x (q ++ [v])).1 (by simpa using h)
          have hs2 := (rise_snoc q v).1 hq'.2.2
          exact ih hq'.2.2 hs2.1 hs2.2.2 (by simp [hq]) hq
    · simp at hu; subst hu; exact upB_self _

/-- The last version that is not above a stamp. -/
def bestV (vs : List Ver) (a : Stp) : Option Ver := (vs.filter fun v => upB v.at_ a).getLast?
/-- The last version that is above it, and not above a limit. -/
def doubtV (vs : List Ver) (a l : Stp) : Option Ver := (vs.filter fun v => !upB v.at_ a && upB v.at_ l).getLast?

theorem bestV_snoc (vs : List Ver) (v : Ver) (a : Stp) : bestV (vs ++ [v]) a = if upB v.at_ a = true then some v else bestV vs a := by
  unfold bestV
  rw [List.filter_append]
  by_cases h : upB v.at_ a = true
  · rw [if_pos h]; simp [h]
  · rw [if_neg h]; simp [h]
theorem doubtV_snoc (vs : List Ver) (v : Ver) (a l : Stp) : doubtV (vs ++ [v]) a l = if upB v.at_ a = false ∧ upB v.at_ l = true then some v else doubtV vs a l := by
  unfold doubtV
  rw [List.filter_append]
  by_cases h : upB v.at_ a = false ∧ upB v.at_ l = true
  · rw [if_pos h]; simp [h.1, h.2]
  · rw [if_neg h]
    have e : (!upB v.at_ a && upB v.at_ l) = false := by
      cases h1 : upB v.at_ a <;> cases h2 : upB v.at_ l <;> simp_all
    simp [e]
theorem doubtV_self (vs : List Ver) (a : Stp) : doubtV vs a a = none := by
  unfold doubtV
  have e : (fun v : Ver => !upB v.at_ a && upB v.at_ a) = fun _ => false := by
    funext v
    cases upB v.at_ a <;> rfl
  rw [e]
  simp

/-- In versions that rise, those not above a stamp are the first ones. -/
theorem rise_take : ∀ (vs : List Ver) (a : Stp), riseB vs = true → vs.filter (fun v => upB v.at_ a) = vs.takeWhile (fun v => upB v.at_ a)
  | [], a, _ => rfl
  | v :: r, a, h => by
    have hr := ((riseB_cons v r).1 h).2.2
    by_cases hv : upB v.at_ a = true
    · rw [List.filter_cons_of_pos (by simpa using hv), List.takeWhile_cons_of_pos (by simpa using hv), rise_take r a hr]
    · rw [List.takeWhile_cons_of_neg (by simpa using hv)]
      rw [List.filter_eq_nil_iff]
      intro u hu
      rcases List.mem_cons.1 hu with rfl | hq
      · exact hv
      · intro hup
        exact hv (upB_lt (rise_above r v h u hq) hup)

/-- How many are not above a stamp. -/
def cntV (vs : List Ver) (a : Stp) : Nat := (vs.takeWhile fun v => upB v.at_ a).length

theorem cntV_le (vs : List Ver) (a : Stp) : cntV vs a ≤ vs.length := by
  unfold cntV
  exact (List.takeWhile_sublist _).length_le

theorem rise_cnt : ∀ (vs : List Ver) (a : Stp), riseB vs = true → ∀ i (h : i < vs.length), (i < cntV vs a ↔ upB vs[i].at_ a = true)
  | v :: r, a, h, i, hi => by
    have hr := ((riseB_cons v r).1 h).2.2
    by_cases hv : upB v.at_ a = true
    · have e : cntV (v :: r) a = cntV r a + 1 := by unfold cntV; rw [List.takeWhile_cons_of_pos (by simpa using hv)]; rfl
      cases i with
      | zero => simp [e, hv]
      | succ i =>
        rw [e]
        have := rise_cnt r a hr i (by simpa using hi)
        simp only [List.getElem_cons_succ]
        rw [← this]
        omega
    · have e : cntV (v :: r) a = 0 := by unfold cntV; rw [List.takeWhile_cons_of_neg (by simpa using hv)]; rfl
      rw [e]
      constructor
      · intro h0; omega
      · intro hup
        exfalso
        cases i with
        | zero => exact hv hup
        | succ i =>
          simp only [List.getElem_cons_succ] at hup
          exact hv (upB_lt (rise_above r v h _ (List.getElem_mem _)) hup)

theorem bestV_cnt (vs : List Ver) (a : Stp) (h : riseB vs = true) : bestV vs a = (vs.take (cntV vs a)).getLast? := by
  unfold bestV cntV
  rw [rise_take vs a h]
  congr 1
  exact (List.prefix_iff_eq_take.1 (List.takeWhile_prefix _))

end Go.Proofs.Ytcdehnghggleoaa

/-
  A chain: what is written, decided and read, by lists. Of no program. No law is proved here.
-/
namespace Go.Proofs.Ytcdehnghggleoaa
set_option linter.unusedVariables false

/-- Who a transaction is. -/
structure Met where
  id : Int
  ep : Int
  anchor : ByteArray
  start : Stp
/-- What is not decided. -/
structure Itn where
  txn : Met
  seq : Int
  at_ : Stp
  val : ByteArray
  gone : Bool
structure Chn where
  vs : List Ver
  opn : Bool
  itn : Itn
def Met.zero : Met := ⟨0, 0, ⟨#[]⟩, (0, 0)⟩
def Itn.zero : Itn := ⟨Met.zero, 0, (0, 0), ⟨#[]⟩, false⟩
def Chn.zero : Chn := ⟨[], false, Itn.zero⟩
def Ver.zero : Ver := ⟨(0, 0), ⟨#[]⟩, false, 0⟩

def nextS (s : Stp) : Option Stp :=
  if okS s = true then (if s.2 = 65535 then (if s.1 < 1099511627776 then some (s.1 + 1, 0) else none) else some (s.1, s.2 + 1)) else none
def maxS (a b : Stp) : Stp := if ltB a b = true then b else a

theorem nextS_lt {s n : Stp} (h : nextS s = some n) : ltB s n = true ∧ okS n = true := by
  unfold nextS at h
  split at h
  · rename_i ho
    unfold okS at ho
    simp only [decide_eq_true_eq] at ho
    split at h
    · split at h
      · injection h with h; subst h
        refine ⟨by rw [ltB_iff]; left; show s.1 < s.1 + 1; omega, ?_⟩
        unfold okS
        simp only [decide_eq_true_eq]
        omega
      · cases h
    · injection h with h; subst h
      refine ⟨by rw [ltB_iff]; right; exact ⟨rfl, by show s.2 < s.2 + 1; omega⟩, ?_⟩
      unfold okS
      simp only [decide_eq_true_eq]
      omega
  · cases h

theorem maxS_left (a b : Stp) : upB a (maxS a b) = true := by
  unfold maxS
  split
  · exact upB_of_lt (by assumption)
  · exact upB_self a
theorem maxS_right (a b : Stp) : upB b (maxS a b) = true := by
  unfold maxS
  split
  · exact upB_self b
  · rename_i h
    rw [Bool.not_eq_true, ltB_not] at h
    rw [upB_iff]
    exact h
theorem lt_up {a b c : Stp} (h : ltB a b = true) (k : upB b c = true) : ltB a c = true := by
  rw [ltB_iff] at *
  rw [upB_iff] at k
  omega

/-- A chain is right. -/
def rightC (c : Chn) : Prop := riseB c.vs = true ∧ (c.opn = true → okS c.itn.at_ = true ∧ ∀ s, lastS c.vs = some s → ltB s c.itn.at_ = true) ∧ (c.opn = false → c.itn = Itn.zero)

theorem rightC_zero : rightC Chn.zero := ⟨rfl, fun h => (by cases h), fun _ => rfl⟩

/-- The stamp that an intent is to have. -/
def atC (c : Chn) (i : Itn) : Option Stp :=
  ((match lastS c.vs with | none => some i.at_ | some s => (nextS s).map (maxS i.at_)).map fun a => if c.opn = true then maxS a c.itn.at_ else a)

theorem atC_above {c : Chn} {i : Itn} {a : Stp} (h : atC c i = some a) : upB i.at_ a = true ∧ (∀ s, lastS c.vs = some s → ltB s a = true) ∧ (c.opn = true → upB c.itn.at_ a = true) := by
  unfold atC at h
  obtain ⟨x, hx, rfl⟩ := Option.map_eq_some_iff.1 h
  have hup : upB x (if c.opn = true then maxS x c.itn.at_ else x) = true := by
    split
    · exact maxS_left _ _
    · exact upB_self x
  have h3 : c.opn = true → upB c.itn.at_ (if c.opn = true then maxS x c.itn.at_ else x) = true := fun ho => by
    rw [if_pos ho]
    exact maxS_right _ _
  cases hl : lastS c.vs with
  | none =>
    rw [hl] at hx
    simp only [Option.some.injEq] at hx
    subst hx
    exact ⟨hup, fun s hs => (by cases hs), h3⟩
  | some s =>
    rw [hl] at hx
    obtain ⟨n, hn, rfl⟩ := Option.map_eq_some_iff.1 hx
    refine ⟨upB_trans (maxS_left _ _) hup, fun s' hs' => ?_, h3⟩
    injection hs' with hs'
    subst hs'
    exact lt_up (lt_up (nextS_lt hn).1 (maxS_right _ _)) hup

/-- An intent is laid: the chain, its stamp, whose intent is in the way, the error. -/
def writeC (c : Chn) (i : Itn) : Chn × Stp × Met × Int :=
  if c.opn = true ∧ c.itn.txn.id ≠ i.txn.id then (Chn.zero, (0, 0), c.itn.txn, 81)
  else if (c.vs.any fun v => decide (v.by_ = i.txn.id)) = true then (Chn.zero, (0, 0), Met.zero, 83)
  else if c.opn = true ∧ i.txn.ep < c.itn.txn.ep then (Chn.zero, (0, 0), Met.zero, 84)
  else if c.opn = true ∧ c.itn.txn.ep = i.txn.ep ∧ i.seq ≤ c.itn.seq then (c, c.itn.at_, Met.zero, 0)
  else match atC c i with
    | none => (Chn.zero, (0, 0), Met.zero, 31)
    | some a => if okS a = true then (⟨c.vs, true, { i with at_ := a }⟩, a, Met.zero, 0) else (Chn.zero, (0, 0), Met.zero, 31)

/-- Where an intent is laid: the chain as it is, with its own there already; or the intent in its place. -/
theorem writeC_ok {c x : Chn} {i : Itn} {a : Stp} {m : Met} (h : writeC c i = (x, a, m, 0)) : m = Met.zero ∧ (c.opn = true → c.itn.txn.id = i.txn.id) ∧ (∀ v ∈ c.vs, v.by_ ≠ i.txn.id) ∧
    ((x = c ∧ a = c.itn.at_ ∧ c.opn = true ∧ c.itn.txn.ep = i.txn.ep ∧ i.seq ≤ c.itn.seq) ∨ (atC c i = some a ∧ okS a = true ∧ x = ⟨c.vs, true, { i with at_ := a }⟩)) := by
  unfold writeC at h
  split at h
  · simp at h
  rename_i h1
  split at h
  · simp at h
  rename_i h2
  have hby : ∀ v ∈ c.vs, v.by_ ≠ i.txn.id := fun v hv e => h2 (by rw [List.any_eq_true]; exact ⟨v, hv, by simp [e]⟩)
  have hid : c.opn = true → c.itn.txn.id = i.txn.id := fun ho => by
    rcases Classical.em (c.itn.txn.id = i.txn.id) with e | e
    · exact e
    · exact absurd ⟨ho, e⟩ h1
  split at h
  · simp at h
  split at h
  · rename_i h4
    simp only [Prod.mk.injEq] at h
    obtain ⟨rfl, rfl, rfl, _⟩ := h
    exact ⟨rfl, hid, hby, .inl ⟨rfl, rfl, h4.1, h4.2.1, h4.2.2⟩⟩
  cases ha : atC c i with
  | none => rw [ha] at h; simp at h
  | some b =>
    rw [ha] at h
    simp only at h
    split at h
    · rename_i ho
      simp only [Prod.mk.injEq] at h
      obtain ⟨rfl, rfl, rfl, _⟩ := h
      exact ⟨rfl, hid, hby, .inr ⟨rfl, ho, rfl⟩⟩
    · simp at h

theorem writeC_right {c x : Chn} {i : Itn} {a : Stp} {m : Met} (hr : rightC c) (h : writeC c i = (x, a, m, 0)) : rightC x := by
  obtain ⟨_, _, _, hx⟩ := writeC_ok h
  rcases hx with ⟨rfl, _⟩ | ⟨h1, h2, rfl⟩
  · exact hr
  · exact ⟨hr.1, fun _ => ⟨h2, (atC_above h1).2.1⟩, fun h => by cases h⟩

/-- An intent is decided. -/
def resolveC (c : Chn) (id ep : Int) (commit : Bool) (a : Stp) : Chn × Int :=
  if c.opn = false ∨ c.itn.txn.id ≠ id then (c, 0)
  else if commit = false ∧ ep < c.itn.txn.ep then (c, 0)
  else if commit = true ∧ c.itn.txn.ep = ep then
    if okS a = true ∧ (∀ s, lastS c.vs = some s → ltB s a = true) then (⟨c.vs ++ [⟨a, c.itn.val, c.itn.gone, id⟩], false, Itn.zero⟩, 0) else (Chn.zero, 84)
  else (⟨c.vs, false, Itn.zero⟩, 0)

theorem resolveC_ok {c x : Chn} {id ep : Int} {commit : Bool} {a : Stp} (h : resolveC c id ep commit a = (x, 0)) :
    (x = c ∧ (c.opn = false ∨ c.itn.txn.id ≠ id ∨ (commit = false ∧ ep < c.itn.txn.ep))) ∨
    (c.opn = true ∧ c.itn.txn.id = id ∧ ((commit = true ∧ c.itn.txn.ep = ep ∧ okS a = true ∧ (∀ s, lastS c.vs = some s → ltB s a = true) ∧ x = ⟨c.vs ++ [⟨a, c.itn.val, c.itn.gone, id⟩], false, Itn.zero⟩) ∨ (¬ (commit = true ∧ c.itn.txn.ep = ep) ∧ x = ⟨c.vs, false, Itn.zero⟩))) := by
  unfold resolveC at h
  split at h
  · rename_i h1
    simp only [Prod.mk.injEq, and_true] at h
    exact .inl ⟨h.symm, h1.elim .inl (fun e => .inr (.inl e))⟩
  rename_i h1
  have ho : c.opn = true := by cases hh : c.opn <;> simp_all
  have hid : c.itn.txn.id = id := by
    rcases Classical.em (c.itn.txn.id = id) with e | e
    · exact e
    · exact absurd (.inr e) h1
  split at h
  · rename_i h2
    simp only [Prod.mk.injEq, and_true] at h
    exact .inl ⟨h.symm, .inr (.inr h2)⟩
  split at h
  · rename_i h3
    split at h
    · rename_i h4
      simp only [Prod.mk.injEq, and_true] at h
      exact .inr ⟨ho, hid, .inl ⟨h3.1, h3.2, h4.1, h4.2, h.symm⟩⟩
    · simp at h
  · rename_i h3
    simp only [Prod.mk.injEq, and_true] at h
    exact .inr ⟨ho, hid, .inr ⟨h3, h.symm⟩⟩

theorem resolveC_right {c x : Chn} {id ep : Int} {commit : Bool} {a : Stp} (hr : rightC c) (h : resolveC c id ep commit a = (x, 0)) : rightC x := by
  rcases resolveC_ok h with ⟨rfl, _⟩ | ⟨_, _, ⟨_, _, h1, h2, rfl⟩ | ⟨_, rfl⟩⟩
  · exact hr
  · exact ⟨(rise_snoc _ _).2 ⟨hr.1, h1, h2⟩, fun h => (by cases h), fun _ => rfl⟩
  · exact ⟨hr.1, fun h => (by cases h), fun _ => rfl⟩

/-- What is read: the version, whether there is one, whose intent is in the way, the error. -/
def readC (c : Chn) (a l : Stp) (id ep : Int) : Ver × Bool × Met × Int :=
  if c.opn = true ∧ c.itn.txn.id = id ∧ c.itn.txn.ep = ep then
    (if c.itn.gone = true then (Ver.zero, false, Met.zero, 0) else (⟨c.itn.at_, c.itn.val, false, id⟩, true, Met.zero, 0))
  else if c.opn = true ∧ c.itn.txn.id ≠ id ∧ upB c.itn.at_ l = true then (Ver.zero, false, c.itn.txn, 81)
  else match doubtV c.vs a l with
    | some v => (⟨v.at_, ⟨#[]⟩, false, 0⟩, false, Met.zero, 82)
    | none => match bestV c.vs a with
      | some v => if v.gone = true then (Ver.zero, false, Met.zero, 0) else (v, true, Met.zero, 0)
      | none => (Ver.zero, false, Met.zero, 0)

/-- What is read of versions alone. -/
def seenV (vs : List Ver) (a : Stp) : Ver × Bool × Met × Int :=
  match bestV vs a with
  | some v => if v.gone = true then (Ver.zero, false, Met.zero, 0) else (v, true, Met.zero, 0)
  | none => (Ver.zero, false, Met.zero, 0)

/-- By one who has no intent, where none is in the way, up to the stamp itself. -/
theorem readC_self {c : Chn} {a : Stp} {id ep : Int} (h : c.opn = true → c.itn.txn.id ≠ id ∧ upB c.itn.at_ a = false) : readC c a a id ep = seenV c.vs a := by
  unfold readC
  rw [if_neg (fun k => (h k.1).1 k.2.1), if_neg (fun k => by have := (h k.1).2; rw [k.2.2] at this; cases this), doubtV_self]
  rfl

theorem seenV_snoc (vs : List Ver) (v : Ver) (a : Stp) (h : ltB a v.at_ = true) : seenV (vs ++ [v]) a = seenV vs a := by
  unfold seenV
  rw [bestV_snoc, if_neg]
  intro k
  rw [upB_iff] at k
  rw [ltB_iff] at h
  omega

/-- Whether it can be refreshed. -/
def refreshC (c : Chn) (id : Int) (f t : Stp) : Met × Int :=
  if c.opn = true ∧ c.itn.txn.id ≠ id ∧ upB c.itn.at_ t = true then (c.itn.txn, 81)
  else if (c.vs.any fun v => !upB v.at_ f && upB v.at_ t) = true then (Met.zero, 221) else (Met.zero, 0)

/-- Nothing between: what is read at the one is read at the other. -/
theorem refreshC_seen {c : Chn} {id : Int} {f t : Stp} {m : Met} (hlt : ltB f t = true) (h : refreshC c id f t = (m, 0)) :
    (c.opn = true → c.itn.txn.id = id ∨ upB c.itn.at_ t = false) ∧ doubtV c.vs f t = none ∧ bestV c.vs f = bestV c.vs t := by
  unfold refreshC at h
  split at h
  · simp at h
  rename_i h1
  split at h
  · simp at h
  rename_i h2
  have hno : ∀ v ∈ c.vs, (!upB v.at_ f && upB v.at_ t) = false := fun v hv => by
    cases hh : (!upB v.at_ f && upB v.at_ t)
    · rfl
    · exact absurd (List.any_eq_true.2 ⟨v, hv, hh⟩) h2
  refine ⟨fun ho => ?_, ?_, ?_⟩
  · rcases Classical.em (c.itn.txn.id = id) with e | e
    · exact .inl e
    · right
      cases hh : upB c.itn.at_ t
      · rfl
      · exact absurd ⟨ho, e, hh⟩ h1
  · unfold doubtV
    rw [List.filter_eq_nil_iff.2 (fun v hv => by rw [hno v hv]; simp)]
    rfl
  · unfold bestV
    congr 1
    apply List.filter_congr
    intro v hv
    have h3 := hno v hv
    cases hf : upB v.at_ f
    · rw [hf] at h3
      simpa using h3.symm
    · rw [upB_trans hf (upB_of_lt hlt)]

/-- Is this intent there? -/
def queryC (c : Chn) (id ep seq : Int) (a : Stp) : Bool := c.opn && decide (c.itn.txn.id = id) && decide (c.itn.txn.ep = ep) && decide (seq ≤ c.itn.seq) && upB c.itn.at_ a

end Go.Proofs.Ytcdehnghggleoaa

/-
  What the proofs of layer 4 share: facts put out of the walk's sight. No law of the program is proved here.
-/
namespace Go.Proofs.Ytcdehnghggleoaa
open Go.RowKit

theorem hide {p : Prop} (h : p) : Hid p := h
theorem unhide {p : Prop} (h : Hid p) : p := h

end Go.Proofs.Ytcdehnghggleoaa

/-
  Contracts of Key: the program's and the document's. No law is proved here.
-/
namespace Go.Proofs.Ytcdehnghggleoaa.S5
open Go.RowKit
set_option linter.unusedVariables false

/-- Is a byte a letter a to z? -/
def letB (b : UInt8) : Bool := decide (97 ≤ b.toNat) && decide (b.toNat ≤ 122)
/-- Is a text a key? -/
def keyB (s : ByteArray) : Bool := decide (1 ≤ s.size) && decide (s.size ≤ 8) && s.toList.all letB

theorem size_toList (s : ByteArray) : s.toList.length = s.size := by rw [ByteArray.toList_eq]; rfl

theorem keyB_short {s : ByteArray} (h : s.size < 1) : keyB s = false := by
  unfold keyB; rw [decide_eq_false (by omega)]; rfl
theorem keyB_long {s : ByteArray} (h : 8 < s.size) : keyB s = false := by
  unfold keyB; rw [decide_eq_false (p := s.size ≤ 8) (by omega), Bool.and_false]; rfl

/-- The first k bytes are letters. -/
def Lets (s : ByteArray) (k : Nat) : Prop := ∀ b ∈ s.toList.take k, letB b = true

theorem get_toList (s : ByteArray) (k : Nat) (h : k < s.size) (h' : k < s.toList.length) : s.toList[k] = s[k] := by
  have : ∀ l : List UInt8, l = s.data.toList → ∀ h : k < l.length, l[k] = s[k] := by rintro l rfl h; rfl
  exact this _ (ByteArray.toList_eq s) _

theorem Lets.start (s : ByteArray) : Lets s 0 := by intro b hb; simp at hb
theorem Lets.step {s : ByteArray} {k : Nat} (hl : Lets s k) (h : k < s.size) (h1 : 97 ≤ s[k].toNat) (h2 : s[k].toNat ≤ 122) : Lets s (k + 1) := by
  have hk : k < s.toList.length := by rw [size_toList]; exact h
  intro b hb
  rw [List.take_succ_eq_append_getElem hk, List.mem_append] at hb
  rcases hb with hb | hb
  · exact hl b hb
  · rw [List.mem_singleton] at hb
    rw [hb, get_toList s k h hk]
    unfold letB
    rw [decide_eq_true h1, decide_eq_true h2]; rfl
theorem Lets.all {s : ByteArray} {k : Nat} (hl : Lets s k) (h : s.size ≤ k) : s.toList.all letB = true := by
  rw [List.all_eq_true]
  intro b hb
  exact hl b (by rw [List.take_of_length_le (by rw [size_toList]; exact h)]; exact hb)
theorem lets_not {s : ByteArray} {k : Nat} (h : k < s.size) (h1 : s[k].toNat < 97 ∨ 122 < s[k].toNat) : s.toList.all letB = false := by
  have hk : k < s.toList.length := by rw [size_toList]; exact h
  rw [List.all_eq_false]
  refine ⟨s.toList[k], List.getElem_mem hk, ?_⟩
  rw [get_toList s k h hk]
  unfold letB
  rcases h1 with h1 | h1
  · rw [decide_eq_false (by omega)]; simp
  · rw [decide_eq_false (p := s[k].toNat ≤ 122) (by omega)]; simp
theorem keyB_not {s : ByteArray} (h : s.toList.all letB = false) : keyB s = false := by unfold keyB; rw [h, Bool.and_false]
theorem keyB_yes {s : ByteArray} (h : s.toList.all letB = true) (h1 : 1 ≤ s.size) (h8 : s.size ≤ 8) : keyB s = true := by
  unfold keyB; rw [h, decide_eq_true h1, decide_eq_true h8]; rfl

set_option maxRecDepth 100000 in
theorem key_any (s : ByteArray) (w : World) : Calls Try.prog 24 #[.string s] w fun e w' => e = .returned (.bool (keyB s)) ∧ w' = w := by
  by_cases h0 : s.size < 1
  · have Hk := hide (keyB_short h0)
    go_enter Try.func24, Try.ntmps24
    go_wp2
    go_ret
    rw [unhide Hk]
    exact ⟨rfl, rfl⟩
  · by_cases h8 : 8 < s.size
    · have Hk := hide (keyB_long h8)
      go_enter Try.func24, Try.ntmps24
      go_wp2
      go_ret
      rw [unhide Hk]
      exact ⟨rfl, rfl⟩
    · go_enter Try.func24, Try.ntmps24
      go_wp2
      go_loop [14] (fun i => ∃ k : Nat, i = .int .i64 k ∧ k ≤ s.size ∧ Hid (Lets s k)) (fun i => s.size - (intOf i).toNat)
      case atStart => exact ⟨0, rfl, by omega, Lets.start s⟩
      case round =>
        obtain ⟨k, rfl, hk, Hl⟩ := hrel
        by_cases hlt : k < s.size
        · have H1 : Hid (s[k].toNat < 97 ∨ 122 < s[k].toNat → s.toList.all letB = false) := lets_not hlt
          have H2 : Hid (97 ≤ s[k].toNat → s[k].toNat ≤ 122 → Lets s (k + 1)) := fun a b => (unhide Hl).step hlt a b
          obtain ⟨cn, hcn⟩ : ∃ cn, s[k].toNat = cn := ⟨_, rfl⟩
          rw [hcn] at H1 H2
          by_cases h97 : cn < 97
          · go_wp2
            go_ret
            rw [keyB_not (unhide H1 (.inl h97))]
            exact ⟨rfl, rfl⟩
          · by_cases h122 : 122 < cn
            · go_wp2
              go_ret
              rw [keyB_not (unhide H1 (.inr h122))]
              exact ⟨rfl, rfl⟩
            · go_wp2
              go_round
              case rel => exact ⟨k + 1, by go_num, by omega, unhide H2 (by omega) (by omega)⟩
              case measure => simp [intOf]; omega
        · go_wp2
          go_ret
          rw [keyB_yes ((unhide Hl).all (by omega)) (by omega) (by omega)]
          exact ⟨rfl, rfl⟩

set_option maxRecDepth 100000 in
theorem refKey_any (s : ByteArray) (w : World) (hs : s.size ≤ 9223372036854775807) : Calls Try.prog 22 #[.string s] w fun e w' => e = .returned (.bool (keyB s)) ∧ w' = w := by
  go_enter Try.func22, Try.ntmps22
  go_wp2
  go_loop [3] (fun i => ∃ k : Nat, i = .int .i64 k ∧ k ≤ s.size ∧ Hid (Lets s k)) (fun i => s.size - (intOf i).toNat)
  case atStart => exact ⟨0, rfl, by omega, Lets.start s⟩
  case round =>
    obtain ⟨k, rfl, hk, Hl⟩ := hrel
    by_cases hlt : k < s.size
    · have H1 : Hid (s[k].toNat < 97 ∨ 122 < s[k].toNat → s.toList.all letB = false) := lets_not hlt
      have H2 : Hid (97 ≤ s[k].toNat → s[k].toNat ≤ 122 → Lets s (k + 1)) := fun a b => (unhide Hl).step hlt a b
      obtain ⟨cn, hcn⟩ : ∃ cn, s[k].toNat = cn := ⟨_, rfl⟩
      rw [hcn] at H1 H2
      by_cases h97 : cn < 97
      · go_wp2
        go_ret
        rw [keyB_not (unhide H1 (.inl h97))]
        exact ⟨rfl, rfl⟩
      · by_cases h122 : 122 < cn
        · go_wp2
          go_ret
          rw [keyB_not (unhide H1 (.inr h122))]
          exact ⟨rfl, rfl⟩
        · go_wp2
          go_round
          case rel => exact ⟨k + 1, by go_num, by omega, unhide H2 (by omega) (by omega)⟩
          case measure => simp [intOf]; omega
    · have Ha := hide ((unhide Hl).all (by omega))
      by_cases h0 : s.size < 1
      · have Hk := hide (keyB_short h0)
        go_wp2
        go_ret
        rw [unhide Hk]
        exact ⟨rfl, rfl⟩
      · by_cases h8 : 8 < s.size
        · have Hk := hide (keyB_long h8)
          go_wp2
          go_ret
          rw [unhide Hk]
          refine ⟨?_, rfl⟩
          show Ending.returned (Value.bool (decide ((s.size : Int) ≤ 8))) = _
          rw [decide_eq_false (by omega)]
        · have Hk := hide (keyB_yes (unhide Ha) (by omega) (by omega))
          go_wp2
          go_ret
          rw [unhide Hk]
          refine ⟨?_, rfl⟩
          show Ending.returned (Value.bool (decide ((s.size : Int) ≤ 8))) = _
          rw [decide_eq_true (by omega)]

end Go.Proofs.Ytcdehnghggleoaa.S5

/-
  Contracts of Right: the program's and the document's. No law is proved here.
-/
namespace Go.Proofs.Ytcdehnghggleoaa.S5
open Go.RowKit
set_option linter.unusedVariables false

/-- Is one text less than another one? -/
def ltB (x y : ByteArray) : Bool := Op.bytesLess x.toList y.toList
/-- Are two texts one? -/
def eqB (x y : ByteArray) : Bool := x.toList == y.toList
def emp : ByteArray := ⟨#[]⟩
def brace : ByteArray := ⟨#[123]⟩
/-- Is a span right? -/
def rightB (f t : ByteArray) : Bool := keyB f && (eqB t emp || (eqB t brace || keyB t) && !(ltB t f || eqB t f))

/-- A span lies in block B, and may be written. -/
structure Sp (w : World) (B : Nat) (f t : ByteArray) : Prop where
  c0 : w.cell? ⟨B, 0, none⟩ = some (.string f)
  c1 : w.cell? ⟨B, 1, none⟩ = some (.string t)
  f0 : w.frozen? ⟨B, 0, none⟩ = false
  f1 : w.frozen? ⟨B, 1, none⟩ = false

theorem Sp.lt {w : World} {B : Nat} {f t : ByteArray} (h : Sp w B f t) : B < w.heap.size := World.block_lt_of_cell? w _ h.c0
theorem Sp.below {w w' : World} {B C : Nat} {f t : ByteArray} (h : Sp w B f t) (hb : Below C w w') (hC : B < C) : Sp w' B f t :=
  ⟨(hb.cell hC).trans h.c0, (hb.cell hC).trans h.c1, (hb.frozen hC).trans h.f0, (hb.frozen hC).trans h.f1⟩
theorem Sp.later {w w' : World} {B : Nat} {f t : ByteArray} (h : Sp w B f t) (hb : Below w.heap.size w w') : Sp w' B f t := h.below hb h.lt
theorem Sp.alloc {w : World} {B : Nat} {f t : ByteArray} (h : Sp w B f t) (o : Obj) : Sp (w.alloc o) B f t := h.later ((Below.refl _ _).alloc (Nat.le_refl _) o)
theorem Sp.new (w : World) (f t : ByteArray) (T : TypeId) : Sp (w.alloc (.cells #[.string f, .string t] T)) w.heap.size f t := ⟨by simp, by simp, by simp, by simp⟩
theorem Sp.other {w : World} {B : Nat} {f t : ByteArray} (h : Sp w B f t) {q : Addr} (hq : q.block ≠ B) (v : Value) : Sp (w.setCell q v) B f t := by
  have n : ∀ k, q ≠ ⟨B, k, none⟩ := fun k e => hq (by rw [e])
  exact ⟨(World.cell?_setCell_other w _ _ _ (n 0)).trans h.c0, (World.cell?_setCell_other w _ _ _ (n 1)).trans h.c1, by simpa using h.f0, by simpa using h.f1⟩
theorem Sp.put {w : World} {B : Nat} {f t : ByteArray} (h : Sp w B f t) (f' t' : ByteArray) : Sp ((w.setCell ⟨B, 0, none⟩ (.string f')).setCell ⟨B, 1, none⟩ (.string t')) B f' t' := by
  refine ⟨?_, ?_, by simpa using h.f0, by simpa using h.f1⟩
  · rw [World.cell?_setCell_other _ _ _ _ (by simp)]; exact World.cell?_setCell_same w _ _ h.c0
  · exact World.cell?_setCell_same _ _ _ ((World.cell?_setCell_other w _ _ _ (by simp)).trans h.c1)

theorem below_alloc {w w' : World} (o : Obj) (h : Below (w.alloc o).heap.size (w.alloc o) w') : Below w.heap.size w w' :=
  ((Below.refl _ w).alloc (Nat.le_refl _) o).trans (h.mono (by simp))

theorem emp_toList : emp.toList = [] := ByteArray.toList_mk []
theorem brace_toList : brace.toList = [123] := ByteArray.toList_mk [123]

section
set_option maxRecDepth 100000
set_option maxHeartbeats 1000000

theorem right_any (f t : ByteArray) (w : World) : Calls Try.prog 49 #[.agg #[.string f, .string t]] w fun e w' => e = .returned (.bool (rightB f t)) ∧ Below w.heap.size w w' := by
  have hB : ∀ o, Hid (Below w.heap.size w (w.alloc o)) := fun o => (Below.refl _ _).alloc (Nat.le_refl _) o
  have Hr : Hid (rightB f t = (keyB f && (eqB t emp || (eqB t brace || keyB t) && !(ltB t f || eqB t f)))) := Eq.refl (rightB f t)
  have e0' : (t.toList == []) = eqB t emp := by unfold eqB; rw [emp_toList]
  have e1' : (t.toList == [123]) = eqB t brace := by unfold eqB; rw [brace_toList]
  have e2' : Op.bytesLess t.toList f.toList = ltB t f := rfl
  have e3' : (t.toList == f.toList) = eqB t f := rfl
  generalize rightB f t = r at Hr ⊢
  generalize eqB t emp = e0 at *
  generalize eqB t brace = e1 at *
  generalize ltB t f = e2 at *
  generalize eqB t f = e3 at *
  cases hkf : keyB f <;> rw [hkf] at Hr
  · go_enter Try.func49, Try.ntmps49
    go_wp2_with (go_at_call 24; refine (key_any _ _).mono ?_; rintro e w' ⟨rfl, rfl⟩)
    go_ret
    rw [unhide Hr]
    exact ⟨rfl, unhide (hB _)⟩
  · cases e0
    · cases e1
      · cases hkt : keyB t <;> rw [hkt] at Hr
        all_goals
          go_enter Try.func49, Try.ntmps49
          go_wp2_with (go_at_call 24; refine (key_any _ _).mono ?_; rintro e w' ⟨rfl, rfl⟩)
          go_ret
          rw [unhide Hr]
          refine ⟨?_, unhide (hB _)⟩
          cases e2 <;> cases e3 <;> rfl
      · go_enter Try.func49, Try.ntmps49
        go_wp2_with (go_at_call 24; refine (key_any _ _).mono ?_; rintro e w' ⟨rfl, rfl⟩)
        go_ret
        rw [unhide Hr]
        refine ⟨?_, unhide (hB _)⟩
        cases e2 <;> cases e3 <;> rfl
    · go_enter Try.func49, Try.ntmps49
      go_wp2_with (go_at_call 24; refine (key_any _ _).mono ?_; rintro e w' ⟨rfl, rfl⟩)
      go_ret
      rw [unhide Hr]
      exact ⟨rfl, unhide (hB _)⟩

end

end Go.Proofs.Ytcdehnghggleoaa.S5

/-
  The contract of Has. No law is proved here.
-/
namespace Go.Proofs.Ytcdehnghggleoaa.S5
open Go.RowKit
set_option linter.unusedVariables false

/-- Has a span a key? -/
def hasB (f t k : ByteArray) : Bool := rightB f t && keyB k && cond (eqB t emp) (eqB k f) (!ltB k f && ltB k t)

section
set_option maxRecDepth 100000
set_option maxHeartbeats 1000000

theorem has_any (f t k : ByteArray) (w : World) : Calls Try.prog 70 #[.agg #[.string f, .string t], .string k] w fun e w' => e = .returned (.bool (hasB f t k)) ∧ Below w.heap.size w w' := by
  have HS : ∀ {w'}, Below (w.alloc (.cells #[.string f, .string t] 26)).heap.size (w.alloc (.cells #[.string f, .string t] 26)) w' → Hid (Sp w' w.heap.size f t ∧ Below w.heap.size w w') := fun hb => ⟨(Sp.new w f t _).later hb, below_alloc _ hb⟩
  have Hr : Hid (hasB f t k = (rightB f t && keyB k && cond (eqB t emp) (eqB k f) (!ltB k f && ltB k t))) := Eq.refl (hasB f t k)
  have e0' : (t.toList == []) = eqB t emp := by unfold eqB; rw [emp_toList]
  have e1' : (k.toList == f.toList) = eqB k f := rfl
  have e2' : Op.bytesLess k.toList f.toList = ltB k f := rfl
  have e3' : Op.bytesLess k.toList t.toList = ltB k t := rfl
  generalize hasB f t k = r at Hr ⊢
  generalize eqB t emp = e0 at *
  generalize eqB k f = e1 at *
  generalize ltB k f = e2 at *
  generalize ltB k t = e3 at *
  cases hr : rightB f t <;> rw [hr] at Hr
  · go_enter Try.func70, Try.ntmps70
    go_wp2_with (first
      | (go_at_call 49; refine (right_any _ _ _).mono ?_; rintro e w' ⟨rfl, hb⟩; obtain ⟨⟨c0, c1, f0, f1⟩, hb'⟩ := unhide (HS hb); replace hb := hide hb'; clear hb')
      | (go_at_call 24; refine (key_any _ _).mono ?_; rintro e w' ⟨rfl, rfl⟩))
    go_ret
    rw [unhide Hr]
    exact ⟨rfl, unhide hb⟩
  · cases hk : keyB k <;> rw [hk] at Hr
    · go_enter Try.func70, Try.ntmps70
      go_wp2_with (first
        | (go_at_call 49; refine (right_any _ _ _).mono ?_; rintro e w' ⟨rfl, hb⟩; obtain ⟨⟨c0, c1, f0, f1⟩, hb'⟩ := unhide (HS hb); replace hb := hide hb'; clear hb')
        | (go_at_call 24; refine (key_any _ _).mono ?_; rintro e w' ⟨rfl, rfl⟩))
      go_ret
      rw [unhide Hr]
      exact ⟨rfl, unhide hb⟩
    · cases e0
      · cases e2
        · go_enter Try.func70, Try.ntmps70
          go_wp2_with (first
            | (go_at_call 49; refine (right_any _ _ _).mono ?_; rintro e w' ⟨rfl, hb⟩; obtain ⟨⟨c0, c1, f0, f1⟩, hb'⟩ := unhide (HS hb); replace hb := hide hb'; clear hb')
            | (go_at_call 24; refine (key_any _ _).mono ?_; rintro e w' ⟨rfl, rfl⟩))
          go_ret
          rw [unhide Hr]
          exact ⟨rfl, unhide hb⟩
        · go_enter Try.func70, Try.ntmps70
          go_wp2_with (first
            | (go_at_call 49; refine (right_any _ _ _).mono ?_; rintro e w' ⟨rfl, hb⟩; obtain ⟨⟨c0, c1, f0, f1⟩, hb'⟩ := unhide (HS hb); replace hb := hide hb'; clear hb')
            | (go_at_call 24; refine (key_any _ _).mono ?_; rintro e w' ⟨rfl, rfl⟩))
          go_ret
          rw [unhide Hr]
          exact ⟨rfl, unhide hb⟩
      · go_enter Try.func70, Try.ntmps70
        go_wp2_with (first
          | (go_at_call 49; refine (right_any _ _ _).mono ?_; rintro e w' ⟨rfl, hb⟩; obtain ⟨⟨c0, c1, f0, f1⟩, hb'⟩ := unhide (HS hb); replace hb := hide hb'; clear hb')
          | (go_at_call 24; refine (key_any _ _).mono ?_; rintro e w' ⟨rfl, rfl⟩))
        go_ret
        rw [unhide Hr]
        exact ⟨rfl, unhide hb⟩

end

end Go.Proofs.Ytcdehnghggleoaa.S5

/-
  Contracts of Clip, Meet and All. No law is proved here.
-/
namespace Go.Proofs.Ytcdehnghggleoaa.S5
open Go.RowKit
set_option linter.unusedVariables false

/-- Have two spans a key in common? -/
def clipB (af at' bf bt : ByteArray) : Bool := hasB af at' (Lib.maxS af bf) && hasB bf bt (Lib.maxS af bf)
def clipF (af at' bf bt : ByteArray) : ByteArray := cond (clipB af at' bf bt) (Lib.maxS af bf) emp
def clipT (af at' bf bt : ByteArray) : ByteArray := cond (clipB af at' bf bt) (Lib.minS at' bt) emp

theorem results_sp {fn : Func} {k : Nat} (hf : fn.results = #[.cell k 26]) {tmps : Array Value} {w : World} {B : Nat} {a b : ByteArray} (hk : tmps[k]? = some (.pointer (some ⟨B, 0, none⟩)))
    (h : Sp w B a b) : (results fn tmps).run Try.prog w = .ok (.agg #[.string a, .string b]) w := by
  obtain ⟨h0, h1, f0, f1⟩ := h
  simp [results, hf, go_sem, h0, h1, hk]

theorem results_sp2 {fn : Func} {k u : Nat} (hf : fn.results = #[.cell k 26, .tmp u]) {tmps : Array Value} {w : World} {B : Nat} {a b : ByteArray} {e : Value} (hk : tmps[k]? = some (.pointer (some ⟨B, 0, none⟩))) (hu : tmps[u]? = some e)
    (h : Sp w B a b) : (results fn tmps).run Try.prog w = .ok (.tuple #[(.agg #[.string a, .string b]), e]) w := by
  obtain ⟨h0, h1, f0, f1⟩ := h
  simp [results, hf, go_sem, h0, h1, hk, hu]

/-- Two spans and a third place for one lie in new memory. -/
structure Three (w w' : World) (af at' bf bt : ByteArray) : Prop where
  a : Sp w' w.heap.size af at'
  b : Sp w' (w.heap.size + 1) bf bt
  c : Sp w' (w.heap.size + 2) emp emp
  below : Below w.heap.size w w'

theorem Three.new (w : World) (af at' bf bt : ByteArray) (T : TypeId) :
    Three w (((w.alloc (.cells #[.string af, .string at'] T)).alloc (.cells #[.string bf, .string bt] T)).alloc (.cells #[.string emp, .string emp] T)) af at' bf bt :=
  ⟨((Sp.new w af at' T).alloc _).alloc _, by have := ((Sp.new (w.alloc (.cells #[.string af, .string at'] T)) bf bt T).alloc (.cells #[.string emp, .string emp] T)); simpa using this,
    by have := Sp.new ((w.alloc (.cells #[.string af, .string at'] T)).alloc (.cells #[.string bf, .string bt] T)) emp emp T; simpa using this,
    (((Below.refl _ w).alloc (Nat.le_refl _) _).alloc (by simp) _).alloc (by simp; omega) _⟩
theorem Three.later {w w1 w2 : World} {af at' bf bt : ByteArray} (h : Three w w1 af at' bf bt) (hb : Below w1.heap.size w1 w2) : Three w w2 af at' bf bt :=
  ⟨h.a.later hb, h.b.later hb, h.c.later hb, h.below.trans (hb.mono h.below.size)⟩

section
set_option maxRecDepth 100000
set_option maxHeartbeats 1000000

end

end Go.Proofs.Ytcdehnghggleoaa.S5

/-
  The order of texts, and what spans have: of no program. No law is proved here.
-/
namespace Go.Proofs.Ytcdehnghggleoaa.S5
open Go.RowKit
set_option linter.unusedVariables false

theorem toList_inj {x y : ByteArray} (h : x.toList = y.toList) : x = y := by
  rw [ByteArray.toList_eq, ByteArray.toList_eq] at h
  cases x; cases y
  simp at h
  rw [h]

theorem ltB_iff (x y : ByteArray) : ltB x y = true ↔ x.toList < y.toList := by unfold ltB; rw [bytesLess_eq]; simp
theorem eqB_iff (x y : ByteArray) : eqB x y = true ↔ x = y := by
  unfold eqB
  constructor
  · intro h; exact toList_inj (by simpa using h)
  · rintro rfl; simp
theorem eqB_self (x : ByteArray) : eqB x x = true := (eqB_iff x x).2 rfl

theorem lt_irrefl (x : ByteArray) : ltB x x = false := by
  rw [← Bool.not_eq_true, ltB_iff]; exact List.lt_irrefl _
theorem lt_trans {x y z : ByteArray} (h : ltB x y = true) (k : ltB y z = true) : ltB x z = true := by
  rw [ltB_iff] at *; exact List.lt_trans h k
theorem lt_asymm {x y : ByteArray} (h : ltB x y = true) : ltB y x = false := by
  cases k : ltB y x with
  | false => rfl
  | true => have := lt_trans h k; rw [lt_irrefl] at this; exact this.symm
theorem lt_total {x y : ByteArray} (h : ltB x y = false) (k : ltB y x = false) : x = y := by
  rw [← Bool.not_eq_true, ltB_iff] at h k
  exact toList_inj (List.le_antisymm (List.not_lt.1 k) (List.not_lt.1 h))

/-- Less, said as a proposition. -/
def L (x y : ByteArray) : Prop := ltB x y = true
def K (x : ByteArray) : Prop := keyB x = true
theorem L.irr (x : ByteArray) : ¬ L x x := by unfold L; rw [lt_irrefl]; simp
theorem L.tr {x y z : ByteArray} (h : L x y) (k : L y z) : L x z := lt_trans h k
theorem L.tot (x y : ByteArray) : L x y ∨ x = y ∨ L y x := by
  unfold L
  cases h : ltB x y with
  | true => exact .inl rfl
  | false => cases k : ltB y x with
    | true => exact .inr (.inr rfl)
    | false => exact .inr (.inl (lt_total h k))

theorem emp_lt {x : ByteArray} (h : x ≠ emp) : L emp x := by
  unfold L; rw [ltB_iff, emp_toList]
  cases hx : x.toList with
  | nil => exact absurd (toList_inj (by rw [hx, emp_toList])) h
  | cons a l => exact List.nil_lt_cons a l
theorem not_lt_emp (x : ByteArray) : ¬ L x emp := by
  unfold L; rw [ltB_iff, emp_toList]; exact List.not_lt_nil _
theorem key_emp_not : ¬ K emp := by unfold K; rw [keyB_short (by decide)]; simp
theorem K.ne {x : ByteArray} (h : K x) : x ≠ emp := by rintro rfl; exact key_emp_not h
theorem key_brace_not : ¬ K brace := by
  unfold K keyB; rw [brace_toList]; decide
theorem brace_ne : brace ≠ emp := by intro h; have := congrArg ByteArray.size h; revert this; decide
theorem K.lt {x : ByteArray} (h : K x) : L x brace := by
  have h0 := h
  unfold K keyB at h
  simp only [Bool.and_eq_true, List.all_eq_true] at h
  unfold L; rw [ltB_iff, brace_toList]
  cases hx : x.toList with
  | nil => exact absurd (toList_inj (by rw [hx, emp_toList])) (K.ne h0)
  | cons a l =>
    have := h.2 a (by rw [hx]; exact List.mem_cons_self)
    unfold letB at this
    simp only [Bool.and_eq_true, decide_eq_true_eq] at this
    refine List.cons_lt_cons_iff.2 (.inl ?_)
    exact UInt8.lt_iff_toNat_lt.2 (by have : (123 : UInt8).toNat = 123 := rfl; omega)

/-- A right span. -/
def R (f t : ByteArray) : Prop := K f ∧ (t = emp ∨ (t ≠ emp ∧ (t = brace ∨ K t) ∧ L f t))
/-- A span has a key. -/
def H (f t k : ByteArray) : Prop := K f ∧ K k ∧ ((t = emp ∧ k = f) ∨ (t ≠ emp ∧ (t = brace ∨ K t) ∧ L f t ∧ ¬ L k f ∧ L k t))

theorem right_iff (f t : ByteArray) : rightB f t = true ↔ R f t := by
  unfold rightB R K
  simp only [Bool.and_eq_true, Bool.or_eq_true, Bool.not_eq_true', Bool.or_eq_false_iff, eqB_iff]
  refine and_congr_right fun hf => ?_
  constructor
  · rintro (h | ⟨h1, h2, h3⟩)
    · exact .inl h
    · by_cases he : t = emp
      · exact .inl he
      · refine .inr ⟨he, h1, ?_⟩
        have h3' : t ≠ f := by intro e; rw [e, eqB_self] at h3; exact absurd h3 (by simp)
        rcases L.tot f t with h | h | h
        · exact h
        · exact absurd h.symm h3'
        · unfold L at h; rw [h] at h2; exact absurd h2 (by simp)
  · rintro (h | ⟨_, h1, h2⟩)
    · exact .inl h
    · refine .inr ⟨h1, lt_asymm h2, ?_⟩
      cases h3 : eqB t f with
      | false => rfl
      | true => rw [(eqB_iff _ _).1 h3] at h2; exact absurd h2 (L.irr f)

theorem has_iff (f t k : ByteArray) : hasB f t k = true ↔ H f t k := by
  unfold hasB H
  rw [Bool.and_eq_true, Bool.and_eq_true, right_iff]
  cases he : eqB t emp with
  | true =>
    have e := (eqB_iff _ _).1 he
    simp only [cond_true, eqB_iff]
    unfold R K
    constructor
    · rintro ⟨⟨⟨h1, _⟩, h2⟩, h3⟩; exact ⟨h1, h2, .inl ⟨e, h3⟩⟩
    · rintro ⟨h1, h2, ⟨_, h3⟩ | ⟨h3, _⟩⟩
      · exact ⟨⟨⟨h1, .inl e⟩, h2⟩, h3⟩
      · exact absurd e h3
  | false =>
    have e : t ≠ emp := by rintro rfl; rw [eqB_self] at he; exact absurd he (by simp)
    simp only [cond_false, Bool.and_eq_true, Bool.not_eq_true']
    unfold R K
    constructor
    · rintro ⟨⟨⟨h1, h | ⟨_, h4, h5⟩⟩, h2⟩, h3, h6⟩
      · exact absurd h e
      · exact ⟨h1, h2, .inr ⟨e, h4, h5, by unfold L; rw [h3]; simp, h6⟩⟩
    · rintro ⟨h1, h2, ⟨h, _⟩ | ⟨_, h4, h5, h3, h6⟩⟩
      · exact absurd h e
      · exact ⟨⟨⟨h1, .inr ⟨e, h4, h5⟩⟩, h2⟩, by unfold L at h3; simpa using h3, h6⟩

theorem max_cases (x y : ByteArray) : (L x y ∧ Lib.maxS x y = y) ∨ (¬ L x y ∧ Lib.maxS x y = x) := by
  unfold Lib.maxS L
  rw [ltB_iff, ByteArray.toList_eq, ByteArray.toList_eq]
  by_cases h : x.data.toList < y.data.toList
  · exact .inl ⟨h, if_pos h⟩
  · exact .inr ⟨h, if_neg h⟩
theorem min_cases (x y : ByteArray) : (¬ L y x ∧ Lib.minS x y = x) ∨ (L y x ∧ Lib.minS x y = y) := by
  unfold Lib.minS L
  rw [ltB_iff, ByteArray.toList_eq, ByteArray.toList_eq]
  by_cases h : x.data.toList < y.data.toList ∨ x.data.toList = y.data.toList
  · refine .inl ⟨?_, if_pos h⟩
    rcases h with h | h
    · exact List.lt_asymm h
    · rw [h]; exact List.lt_irrefl _
  · refine .inr ⟨?_, if_neg h⟩
    rw [not_or] at h
    rcases Std.le_total (a := x.data.toList) (b := y.data.toList) with k | k
    · exact absurd (Std.le_antisymm k (List.not_lt.1 h.1)) h.2
    · rcases Decidable.em (y.data.toList < x.data.toList) with q | q
      · exact q
      · exact absurd (Std.le_antisymm (List.not_lt.1 q) k) h.2

theorem bool_ext {a b : Bool} (h : a = true ↔ b = true) : a = b := by cases a <;> cases b <;> simp_all

theorem clipB_iff (af at' bf bt : ByteArray) : clipB af at' bf bt = true ↔ H af at' (Lib.maxS af bf) ∧ H bf bt (Lib.maxS af bf) := by
  unfold clipB; rw [Bool.and_eq_true, has_iff, has_iff]

theorem max_comm (x y : ByteArray) : Lib.maxS x y = Lib.maxS y x := by
  rcases max_cases x y with ⟨h, e⟩ | ⟨h, e⟩ <;> rcases max_cases y x with ⟨k, e'⟩ | ⟨k, e'⟩ <;> rw [e, e'] <;> grind [L.tot, L.irr, → L.tr]
theorem min_comm (x y : ByteArray) : Lib.minS x y = Lib.minS y x := by
  rcases min_cases x y with ⟨h, e⟩ | ⟨h, e⟩ <;> rcases min_cases y x with ⟨k, e'⟩ | ⟨k, e'⟩ <;> rw [e, e'] <;> grind [L.tot, L.irr, → L.tr]

theorem clip_sym (af at' bf bt : ByteArray) : clipB bf bt af at' = clipB af at' bf bt := by
  apply bool_ext
  rw [clipB_iff, clipB_iff]
  rw [max_comm bf af]
  exact And.comm

/-- In both. -/
theorem both (af at' bf bt k : ByteArray) : hasB (clipF af at' bf bt) (clipT af at' bf bt) k = (hasB af at' k && hasB bf bt k) := by
  apply bool_ext
  rw [Bool.and_eq_true, has_iff, has_iff, has_iff]
  unfold clipF clipT
  have hm := max_cases af bf
  have hn := min_cases at' bt
  cases h : clipB af at' bf bt with
  | true =>
    rw [clipB_iff] at h
    simp only [cond_true]
    unfold H at *
    generalize Lib.maxS af bf = m at *
    generalize Lib.minS at' bt = n at *
    rcases hm with ⟨hm, rfl⟩ | ⟨hm, rfl⟩ <;> rcases hn with ⟨hn, rfl⟩ | ⟨hn, rfl⟩ <;> grind (splits := 40) [L.tot, L.irr, → L.tr, emp_lt, not_lt_emp, K.ne]
  | false =>
    have h' : ¬ (H af at' (Lib.maxS af bf) ∧ H bf bt (Lib.maxS af bf)) := by rw [← clipB_iff, h]; simp
    simp only [cond_false]
    constructor
    · rintro ⟨h1, _⟩; exact absurd h1 key_emp_not
    · intro hb
      refine absurd ?_ h'
      clear h'
      unfold H at *
      generalize Lib.maxS af bf = m at *
      rcases hm with ⟨hm, rfl⟩ | ⟨hm, rfl⟩ <;> grind (splits := 40) [L.tot, L.irr, → L.tr, emp_lt, not_lt_emp, K.ne]

end Go.Proofs.Ytcdehnghggleoaa.S5

/-
  A store by lists: keys, rising, each with its chain: what is put, decided, read, refreshed. Of no program. No law is proved here.
-/
namespace Go.Proofs.Ytcdehnghggleoaa
set_option linter.unusedVariables false

/-- A key's entry as it lies in memory: the key, its versions' slice, its chain. -/
structure Ent where
  key : ByteArray
  ao : Option Addr
  cap : Nat
  c : Chn

abbrev KC := ByteArray × Chn
/-- By key. -/
def absL (l : List Ent) : List KC := l.map fun e => (e.key, e.c)

/-- Keys rise. -/
def riseE (l : List Ent) : Prop := l.Pairwise fun a b => S5.L a.key b.key

/-- The entry at a key. -/
def getE (l : List Ent) (k : ByteArray) : Option Ent := l.find? fun e => decide (e.key = k)

/-- A chain is laid at a key. -/
def setE : List Ent → Ent → List Ent
  | [], x => [x]
  | e :: r, x => if e.key = x.key then x :: r else if S5.ltB x.key e.key = true then x :: e :: r else e :: setE r x

theorem getE_nil (k : ByteArray) : getE [] k = none := rfl
theorem getE_cons (e : Ent) (r : List Ent) (k : ByteArray) : getE (e :: r) k = if e.key = k then some e else getE r k := by
  unfold getE
  rw [List.find?_cons]
  split <;> rename_i h <;> simp at h <;> simp [h]

theorem getE_some {l : List Ent} {k : ByteArray} {e : Ent} (h : getE l k = some e) : e ∈ l ∧ e.key = k := by
  unfold getE at h
  exact ⟨List.mem_of_find?_eq_some h, by simpa using List.find?_some h⟩
theorem getE_none {l : List Ent} {k : ByteArray} (h : getE l k = none) : ∀ e ∈ l, e.key ≠ k := by
  unfold getE at h
  rw [List.find?_eq_none] at h
  intro e he
  simpa using h e he
theorem key_inj {l : List Ent} (h : riseE l) {a b : Ent} (ha : a ∈ l) (hb : b ∈ l) (e : a.key = b.key) : a = b := by
  induction l with
  | nil => cases ha
  | cons x r ih =>
    obtain ⟨h1, h2⟩ := List.pairwise_cons.1 h
    rcases List.mem_cons.1 ha with rfl | ha'
    · rcases List.mem_cons.1 hb with rfl | hb'
      · rfl
      · exact absurd (e ▸ h1 b hb') (S5.L.irr _)
    · rcases List.mem_cons.1 hb with rfl | hb'
      · exact absurd (e ▸ h1 a ha') (S5.L.irr _)
      · exact ih h2 ha' hb'
theorem getE_mem {l : List Ent} (h : riseE l) {e : Ent} (he : e ∈ l) : getE l e.key = some e := by
  cases hg : getE l e.key with
  | none => exact absurd rfl (getE_none hg e he)
  | some x =>
    obtain ⟨h1, h2⟩ := getE_some hg
    rw [key_inj h h1 he h2]

theorem mem_setE {l : List Ent} {x z : Ent} (h : riseE l) : z ∈ setE l x ↔ z = x ∨ (z ∈ l ∧ z.key ≠ x.key) := by
  induction l with
  | nil => simp [setE]
  | cons e r ih =>
    obtain ⟨h1, h2⟩ := List.pairwise_cons.1 h
    unfold setE
    split
    · rename_i he
      simp only [List.mem_cons]
      constructor
      · rintro (rfl | hz)
        · exact .inl rfl
        · exact .inr ⟨.inr hz, fun e' => S5.L.irr z.key (by have := h1 z hz; rw [he, ← e'] at this; exact this)⟩
      · rintro (rfl | ⟨rfl | hz, hn⟩)
        · exact .inl rfl
        · exact absurd he hn
        · exact .inr hz
    · rename_i hne
      split
      · rename_i hlt
        simp only [List.mem_cons]
        constructor
        · rintro (rfl | rfl | hz)
          · exact .inl rfl
          · exact .inr ⟨.inl rfl, hne⟩
          · refine .inr ⟨.inr hz, fun e' => ?_⟩
            have := h1 z hz
            rw [e'] at this
            exact S5.L.irr _ (S5.L.tr hlt this)
        · rintro (rfl | ⟨rfl | hz, hn⟩)
          · exact .inl rfl
          · exact .inr (.inl rfl)
          · exact .inr (.inr hz)
      · rw [List.mem_cons, ih h2, List.mem_cons]
        constructor
        · rintro (rfl | rfl | ⟨hz, hn⟩)
          · exact .inr ⟨.inl rfl, hne⟩
          · exact .inl rfl
          · exact .inr ⟨.inr hz, hn⟩
        · rintro (rfl | ⟨rfl | hz, hn⟩)
          · exact .inr (.inl rfl)
          · exact .inl rfl
          · exact .inr (.inr ⟨hz, hn⟩)

theorem rise_setE {l : List Ent} {x : Ent} (h : riseE l) : riseE (setE l x) := by
  induction l with
  | nil => exact List.pairwise_singleton _ _
  | cons e r ih =>
    obtain ⟨h1, h2⟩ := List.pairwise_cons.1 h
    unfold setE
    split
    · rename_i he
      exact List.pairwise_cons.2 ⟨fun z hz => by rw [← he]; exact h1 z hz, h2⟩
    · rename_i hne
      split
      · rename_i hlt
        refine List.pairwise_cons.2 ⟨fun z hz => ?_, h⟩
        rcases List.mem_cons.1 hz with rfl | hz
        · exact hlt
        · exact S5.L.tr hlt (h1 z hz)
      · rename_i hnl
        refine List.pairwise_cons.2 ⟨fun z hz => ?_, ih h2⟩
        rcases (mem_setE h2).1 hz with rfl | ⟨hz, _⟩
        · rcases S5.L.tot e.key z.key with q | q | q
          · exact q
          · exact absurd q hne
          · exact absurd q hnl
        · exact h1 z hz

theorem len_setE (l : List Ent) (x : Ent) : l.length ≤ (setE l x).length ∧ (setE l x).length ≤ l.length + 1 := by
  induction l with
  | nil => simp [setE]
  | cons e r ih =>
    unfold setE
    split
    · simp
    · split
      · simp
      · simp only [List.length_cons]; omega

theorem getE_setE {l : List Ent} {x : Ent} (h : riseE l) (k : ByteArray) : getE (setE l x) k = if x.key = k then some x else getE l k := by
  split
  · rename_i e
    have hx : x ∈ setE l x := (mem_setE h).2 (.inl rfl)
    rw [← e]
    exact getE_mem (rise_setE h) hx
  · rename_i hne
    cases hg : getE l k with
    | none =>
      cases hs : getE (setE l x) k with
      | none => rfl
      | some z =>
        obtain ⟨h1, h2⟩ := getE_some hs
        rcases (mem_setE h).1 h1 with rfl | ⟨hz, _⟩
        · exact absurd h2 hne
        · exact absurd h2 (getE_none hg z hz)
    | some z =>
      obtain ⟨h1, h2⟩ := getE_some hg
      have hz : z ∈ setE l x := (mem_setE h).2 (.inr ⟨h1, fun e => hne (e ▸ h2)⟩)
      rw [← h2]
      exact getE_mem (rise_setE h) hz

/-- Two rising lists with the same members are one. -/
theorem rise_ext : ∀ {a b : List Ent}, riseE a → riseE b → (∀ z, z ∈ a ↔ z ∈ b) → a = b
  | [], [], _, _, _ => rfl
  | [], y :: s, _, _, h => by have := (h y).2 (by simp); cases this
  | x :: r, [], _, _, h => by have := (h x).1 (by simp); cases this
  | x :: r, y :: s, h1, h2, h => by
    obtain ⟨a1, a2⟩ := List.pairwise_cons.1 h1
    obtain ⟨b1, b2⟩ := List.pairwise_cons.1 h2
    have e : x = y := by
      rcases List.mem_cons.1 ((h x).1 (by simp)) with e | hx
      · exact e
      · rcases List.mem_cons.1 ((h y).2 (by simp)) with e | hy
        · exact e.symm
        · exact absurd (S5.L.tr (a1 y hy) (b1 x hx)) (S5.L.irr _)
    subst e
    rw [rise_ext a2 b2 (fun z => ⟨fun hz => by
      rcases List.mem_cons.1 ((h z).1 (List.mem_cons_of_mem _ hz)) with e | q
      · exact absurd (e ▸ a1 z hz) (S5.L.irr _)
      · exact q, fun hz => by
      rcases List.mem_cons.1 ((h z).2 (List.mem_cons_of_mem _ hz)) with e | q
      · exact absurd (e ▸ b1 z hz) (S5.L.irr _)
      · exact q⟩)]

end Go.Proofs.Ytcdehnghggleoaa

/-
  A region whose order is open, and whose calls at most lay new memory: one walk in the order of the text serves every order.
-/
namespace Go.Proofs.Ytcdehnghggleoaa
open Go.RowKit

/-- A world that has at most new memory behind w. -/
structure Later (w : World) where
  val : World
  below : Below w.heap.size w val

theorem Later.cell {w : World} (i : Later w) {p : Addr} {v : Value} (h : w.cell? p = some v) : i.val.cell? p = some v :=
  (i.below.cell (World.block_lt_of_cell? w p h)).trans h

theorem wp_region_later {P : Program} {id : Nat} {Q : Exit → Act → World → Prop} {a : Act} {w : World} {l : List Oper} (hm : P.follows .mixedOrders = true) (hB : Region.lexB .any l.toArray = true)
    (h : wpQuiet P l.toArray (fun w' => ∃ i : Later w, w' = i.val) (fun a' => ∀ w', (∃ i : Later w, w' = i.val) → Q .normal a' w') l a) : (Code.region id l.toArray true).wp P Q a w :=
  wp_region_quiet (C := fun w' => ∃ i : Later w, w' = i.val) hm hB ⟨⟨_, (Below.refl _ w).drew⟩, rfl⟩ (by simpa using h)

/-- A call that at most lays new memory. -/
theorem calls_later {P : Program} {f : FuncId} {args : Array Value} {w : World} {i : Later w} {v : Value} (h : Calls P f args i.val fun e w' => e = .returned v ∧ Below i.val.heap.size i.val w') :
    Calls P f args i.val fun e w'' => e = .returned v ∧ ∃ j : Later w, w'' = j.val :=
  h.mono fun _ w' ⟨he, hb⟩ => ⟨he, ⟨w', i.below.trans (hb.mono i.below.size)⟩, rfl⟩

end Go.Proofs.Ytcdehnghggleoaa

/-
  Contracts of package stamp's functions of numbers: Right, Compare, Less, Max, Next, Plus. No law is proved here.
-/
namespace Go.Proofs.Ytcdehnghggleoaa
open Go.RowKit
set_option linter.unusedVariables false

/-- A stamp is right. -/
def rightB (a b : Int) : Bool := decide (0 ≤ a ∧ a ≤ 1099511627776) && decide (0 ≤ b ∧ b ≤ 65535)
/-- Which number is less. -/
def cmpI (x y : Int) : Int := if x < y then -1 else if y < x then 1 else 0
/-- The first that is not 0. -/
def orI (x y : Int) : Int := if x = 0 then y else x
/-- Which stamp is less. -/
def cmpS (a b c d : Int) : Int := orI (cmpI a c) (cmpI b d)
/-- A stamp is less. -/
def lessB (a b c d : Int) : Bool := decide (cmpS a b c d < 0)
/-- What may be that is nearest. -/
def bnd (v l m : Int) : Int := min (max v l) m

theorem cmpI_bounds (x y : Int) : -1 ≤ cmpI x y ∧ cmpI x y ≤ 1 := by unfold cmpI; split <;> (try split) <;> omega

section
set_option maxRecDepth 100000
theorem within_any (v l m : Int) (w : World) : Calls Try.prog 81 #[.int .i64 v, .int .i64 l, .int .i64 m] w fun e w' => e = .returned (.bool (decide (l ≤ v ∧ v ≤ m))) ∧ w' = w := by
  by_cases h1 : l ≤ v
  all_goals
    by_cases h2 : v ≤ m
    all_goals
      go_enter Try.func81, Try.ntmps81
      go_wp2
      go_ret
      refine ⟨?_, rfl⟩
      simp [h1, h2]

theorem right_any (a b : Int) (w : World) : Calls Try.prog 68 #[(.agg #[.int .i64 a, .int .i64 b])] w fun e w' => e = .returned (.bool (rightB a b)) ∧ Below w.heap.size w w' := by
  unfold rightB
  have h1 := fun w => within_any a 0 1099511627776 w
  have h2 := fun w => within_any b 0 65535 w
  generalize decide (0 ≤ a ∧ a ≤ 1099511627776) = x at *
  generalize decide (0 ≤ b ∧ b ≤ 65535) = y at *
  cases x
  · go_enter Try.func68, Try.ntmps68
    go_wp2_with fail
    refine (h1 _).mono ?_
    rintro e w' ⟨rfl, rfl⟩
    go_wp2
    go_ret
    exact ⟨rfl, (Below.refl _ _).alloc (Nat.le_refl _) _⟩
  · go_enter Try.func68, Try.ntmps68
    go_wp2_with fail
    refine (h1 _).mono ?_
    rintro e w' ⟨rfl, rfl⟩
    go_wp2_with fail
    refine (h2 _).mono ?_
    rintro e w' ⟨rfl, rfl⟩
    go_wp2
    go_ret
    exact ⟨rfl, (Below.refl _ _).alloc (Nat.le_refl _) _⟩

theorem cmpc_any (x y : Int) (w : World) : Calls Try.prog 95 #[.int .i64 x, .int .i64 y] w fun e w' => e = .returned (.int .i64 (cmpI x y)) ∧ w' = w := by
  unfold cmpI
  by_cases h1 : x < y
  · rw [if_pos h1]
    go_enter Try.func95, Try.ntmps95
    go_wp2
    go_ret
    exact ⟨rfl, rfl⟩
  · rw [if_neg h1]
    by_cases h2 : y < x
    · rw [if_pos h2]
      go_enter Try.func95, Try.ntmps95
      go_wp2
      go_ret
      exact ⟨rfl, rfl⟩
    · rw [if_neg h2]
      go_enter Try.func95, Try.ntmps95
      go_wp2
      go_ret
      exact ⟨rfl, rfl⟩
end

end Go.Proofs.Ytcdehnghggleoaa
