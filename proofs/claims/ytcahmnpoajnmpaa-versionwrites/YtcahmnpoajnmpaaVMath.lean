/-
  One key's versions, by lists: which is read, what is in doubt, what rises. Of no program. No law is proved here.
-/
import Derived.RowKit
namespace Go.Proofs.Ytcahmnpoajnmpaa
set_option linter.unusedVariables false

/-- A stamp: wall, logical. -/
abbrev Stp := Int × Int
def ltB (a b : Stp) : Bool := decide (a.1 < b.1 ∨ a.1 = b.1 ∧ a.2 < b.2)
def okS (a : Stp) : Bool := decide (0 ≤ a.1 ∧ a.1 ≤ 1099511627776 ∧ 0 ≤ a.2 ∧ a.2 ≤ 65535)
/-- Not above. -/
def upB (a b : Stp) : Bool := !ltB b a

theorem ltB_iff (a b : Stp) : ltB a b = true ↔ (a.1 < b.1 ∨ a.1 = b.1 ∧ a.2 < b.2) := by unfold ltB; simp
theorem ltB_not (a b : Stp) : ltB a b = false ↔ ¬ (a.1 < b.1 ∨ a.1 = b.1 ∧ a.2 < b.2) := by unfold ltB; simp
theorem upB_iff (a b : Stp) : upB a b = true ↔ ¬ (b.1 < a.1 ∨ b.1 = a.1 ∧ b.2 < a.2) := by unfold upB; rw [Bool.not_eq_true', ltB_not]
theorem upB_not (a b : Stp) : upB a b = false ↔ (b.1 < a.1 ∨ b.1 = a.1 ∧ b.2 < a.2) := by unfold upB; rw [Bool.not_eq_false', ltB_iff]

theorem ltB_trans {a b c : Stp} (h : ltB a b = true) (k : ltB b c = true) : ltB a c = true := by rw [ltB_iff] at *; omega
theorem ltB_irr (a : Stp) : ltB a a = false := by rw [ltB_not]; omega
theorem upB_self (a : Stp) : upB a a = true := by rw [upB_iff]; omega
theorem upB_of_lt {a b : Stp} (h : ltB a b = true) : upB a b = true := by rw [ltB_iff] at h; rw [upB_iff]; omega
theorem upB_trans {a b c : Stp} (h : upB a b = true) (k : upB b c = true) : upB a c = true := by rw [upB_iff] at *; omega
theorem upB_lt {a b c : Stp} (h : ltB a b = true) (k : upB b c = true) : upB a c = true := upB_trans (upB_of_lt h) k
theorem stp_eq {a b : Stp} (h : upB a b = true) (k : upB b a = true) : a = b := by
  rw [upB_iff] at *
  obtain ⟨x, y⟩ := a
  obtain ⟨u, v⟩ := b
  simp only at *
  rw [Prod.mk.injEq]
  omega

/-- A version: its stamp, its value, whether it is gone, whose it is. -/
structure Ver where
  at_ : Stp
  val : ByteArray
  gone : Bool
  by_ : Int

def lastS (vs : List Ver) : Option Stp := vs.getLast?.map (·.at_)

/-- Their stamps are right, and rise. -/
def riseB : List Ver → Bool
  | [] => true
  | v :: r => okS v.at_ && (match r with | [] => true | u :: _ => ltB v.at_ u.at_) && riseB r

theorem riseB_cons (v : Ver) (r : List Ver) : riseB (v :: r) = true ↔ okS v.at_ = true ∧ (∀ u, r.head? = some u → ltB v.at_ u.at_ = true) ∧ riseB r = true := by
  cases r with
  | nil => simp [riseB]
  | cons u q => simp [riseB, and_assoc]

/-- All behind the first are above it. -/
theorem rise_above : ∀ (r : List Ver) (v : Ver), riseB (v :: r) = true → ∀ u ∈ r, ltB v.at_ u.at_ = true
  | [], v, h, u, hu => by cases hu
  | x :: q, v, h, u, hu => by
    obtain ⟨h1, h2, h3⟩ := (riseB_cons v (x :: q)).1 h
    have hx := h2 x rfl
    rcases List.mem_cons.1 hu with rfl | hq
    · exact hx
    · exact ltB_trans hx (rise_above q x h3 u hq)

theorem rise_snoc : ∀ (vs : List Ver) (v : Ver), riseB (vs ++ [v]) = true ↔ riseB vs = true ∧ okS v.at_ = true ∧ ∀ s, lastS vs = some s → ltB s v.at_ = true
  | [], v => by simp [riseB, lastS]
  | x :: r, v => by
    rw [List.cons_append, riseB_cons, riseB_cons, rise_snoc r v]
    cases r with
    | nil =>
      simp [lastS, riseB]
      intro _
      exact And.comm
    | cons u q =>
      have e : lastS (x :: u :: q) = lastS (u :: q) := by simp [lastS]
      rw [e]
      simp only [List.cons_append, List.head?_cons]
      constructor
      · rintro ⟨a, b, c, d, f⟩; exact ⟨⟨a, b, c⟩, d, f⟩
      · rintro ⟨⟨a, b, c⟩, d, f⟩; exact ⟨a, b, c, d, f⟩

theorem rise_last (vs : List Ver) (h : riseB vs = true) (s : Stp) (hs : lastS vs = some s) : okS s = true ∧ ∀ u ∈ vs, upB u.at_ s = true := by
  rcases List.eq_nil_or_concat vs with rfl | ⟨r, v, rfl⟩
  · cases hs
  · rw [List.concat_eq_append] at *
    obtain ⟨h1, h2, h3⟩ := (rise_snoc r v).1 h
    have e : s = v.at_ := by simpa [lastS] using hs.symm
    subst e
    refine ⟨h2, fun u hu => ?_⟩
    rcases List.mem_append.1 hu with hu | hu
    · clear hs
      induction r with
      | nil => cases hu
      | cons x q ih =>
        have hab := rise_above (q ++ [v]) x (by simpa using h)
        rcases List.mem_cons.1 hu with rfl | hq
        · exact upB_of_lt (hab v (by simp))
        · have hq' := (riseB_cons x (q ++ [v])).1 (by simpa using h)
          have hs2 := (rise_snoc q v).1 hq'.2.2
          exact ih hq'.2.2 hs2.1 hs2.2.2 (by simp [hq]) hq
    · simp at hu; subst hu; exact upB_self _

/-- The last version that is not above a stamp. -/
def bestV (vs : List Ver) (a : Stp) : Option Ver := (vs.filter fun v => upB v.at_ a).getLast?
/-- The last version that is above it, and not above a limit. -/
def doubtV (vs : List Ver) (a l : Stp) : Option Ver := (vs.filter fun v => !upB v.at_ a && upB v.at_ l).getLast?

theorem bestV_snoc (vs : List Ver) (v : Ver) (a : Stp) : bestV (vs ++ [v]) a = if upB v.at_ a = true then some v else bestV vs a := by
  unfold bestV
  rw [List.filter_append]
  by_cases h : upB v.at_ a = true
  · rw [if_pos h]; simp [h]
  · rw [if_neg h]; simp [h]
theorem doubtV_snoc (vs : List Ver) (v : Ver) (a l : Stp) : doubtV (vs ++ [v]) a l = if upB v.at_ a = false ∧ upB v.at_ l = true then some v else doubtV vs a l := by
  unfold doubtV
  rw [List.filter_append]
  by_cases h : upB v.at_ a = false ∧ upB v.at_ l = true
  · rw [if_pos h]; simp [h.1, h.2]
  · rw [if_neg h]
    have e : (!upB v.at_ a && upB v.at_ l) = false := by
      cases h1 : upB v.at_ a <;> cases h2 : upB v.at_ l <;> simp_all
    simp [e]
theorem doubtV_self (vs : List Ver) (a : Stp) : doubtV vs a a = none := by
  unfold doubtV
  have e : (fun v : Ver => !upB v.at_ a && upB v.at_ a) = fun _ => false := by
    funext v
    cases upB v.at_ a <;> rfl
  rw [e]
  simp

/-- In versions that rise, those not above a stamp are the first ones. -/
theorem rise_take : ∀ (vs : List Ver) (a : Stp), riseB vs = true → vs.filter (fun v => upB v.at_ a) = vs.takeWhile (fun v => upB v.at_ a)
  | [], a, _ => rfl
  | v :: r, a, h => by
    have hr := ((riseB_cons v r).1 h).2.2
    by_cases hv : upB v.at_ a = true
    · rw [List.filter_cons_of_pos (by simpa using hv), List.takeWhile_cons_of_pos (by simpa using hv), rise_take r a hr]
    · rw [List.takeWhile_cons_of_neg (by simpa using hv)]
      rw [List.filter_eq_nil_iff]
      intro u hu
      rcases List.mem_cons.1 hu with rfl | hq
      · exact hv
      · intro hup
        exact hv (upB_lt (rise_above r v h u hq) hup)

/-- How many are not above a stamp. -/
def cntV (vs : List Ver) (a : Stp) : Nat := (vs.takeWhile fun v => upB v.at_ a).length

theorem cntV_le (vs : List Ver) (a : Stp) : cntV vs a ≤ vs.length := by
  unfold cntV
  exact (List.takeWhile_sublist _).length_le

theorem rise_cnt : ∀ (vs : List Ver) (a : Stp), riseB vs = true → ∀ i (h : i < vs.length), (i < cntV vs a ↔ upB vs[i].at_ a = true)
  | v :: r, a, h, i, hi => by
    have hr := ((riseB_cons v r).1 h).2.2
    by_cases hv : upB v.at_ a = true
    · have e : cntV (v :: r) a = cntV r a + 1 := by unfold cntV; rw [List.takeWhile_cons_of_pos (by simpa using hv)]; rfl
      cases i with
      | zero => simp [e, hv]
      | succ i =>
        rw [e]
        have := rise_cnt r a hr i (by simpa using hi)
        simp only [List.getElem_cons_succ]
        rw [← this]
        omega
    · have e : cntV (v :: r) a = 0 := by unfold cntV; rw [List.takeWhile_cons_of_neg (by simpa using hv)]; rfl
      rw [e]
      constructor
      · intro h0; omega
      · intro hup
        exfalso
        cases i with
        | zero => exact hv hup
        | succ i =>
          simp only [List.getElem_cons_succ] at hup
          exact hv (upB_lt (rise_above r v h _ (List.getElem_mem _)) hup)

theorem bestV_cnt (vs : List Ver) (a : Stp) (h : riseB vs = true) : bestV vs a = (vs.take (cntV vs a)).getLast? := by
  unfold bestV cntV
  rw [rise_take vs a h]
  congr 1
  exact (List.prefix_iff_eq_take.1 (List.takeWhile_prefix _))

end Go.Proofs.Ytcahmnpoajnmpaa
