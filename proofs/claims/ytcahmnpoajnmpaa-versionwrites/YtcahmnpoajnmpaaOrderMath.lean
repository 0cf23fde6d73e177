/-
  Of the order of stamps, as numbers. No law is proved here.
-/
import Derived.Test.YtcahmnpoajnmpaaNext
namespace Go.Proofs.Ytcahmnpoajnmpaa
open Go.RowKit
set_option linter.unusedVariables false

theorem less_iff (a b c d : Int) : lessB a b c d = true ↔ (a < c ∨ a = c ∧ b < d) := by
  unfold lessB cmpS orI cmpI
  simp
  split <;> (try split) <;> (try split) <;> (try split) <;> omega

theorem less_not (a b c d : Int) : lessB a b c d = false ↔ ¬ (a < c ∨ a = c ∧ b < d) := by
  rw [← less_iff]; simp

theorem right_iff (a b : Int) : rightB a b = true ↔ (0 ≤ a ∧ a ≤ 1099511627776 ∧ 0 ≤ b ∧ b ≤ 65535) := by
  unfold rightB; simp; omega

theorem right_not (a b : Int) : rightB a b = false ↔ ¬ (0 ≤ a ∧ a ≤ 1099511627776 ∧ 0 ≤ b ∧ b ≤ 65535) := by
  rw [← right_iff]; simp

theorem cmpS_lt {a b c d : Int} (h : a < c ∨ a = c ∧ b < d) : cmpS a b c d = -1 := by
  unfold cmpS orI cmpI
  split <;> (try split) <;> (try split) <;> (try split) <;> omega
theorem cmpS_gt {a b c d : Int} (h : c < a ∨ c = a ∧ d < b) : cmpS a b c d = 1 := by
  unfold cmpS orI cmpI
  split <;> (try split) <;> (try split) <;> (try split) <;> omega
theorem cmpS_same (a b : Int) : cmpS a b a b = 0 := by
  unfold cmpS orI cmpI
  simp

theorem ne_pair {a b c d : Int} (h : ¬ (a = c ∧ b = d)) : (a == c && b == d) = false := by
  rw [Bool.eq_false_iff]
  simpa using h

theorem nxt_cases (a b : Int) : (rightB a b = false ∧ nxt a b = (0, 0, 31)) ∨ (rightB a b = true ∧ a = 1099511627776 ∧ nxt a b = (0, 0, 31)) ∨
    (rightB a b = true ∧ ∃ x y, nxt a b = (x, y, 0) ∧ rightB x y = true ∧ lessB a b x y = true ∧ ∀ c d, rightB c d = true → lessB a b c d = true → lessB c d x y = false) := by
  cases h : rightB a b
  · exact .inl ⟨rfl, by unfold nxt; rw [h]; rfl⟩
  · have hr := (right_iff a b).1 h
    by_cases hb : b = 65535
    · by_cases ha : a < 1099511627776
      · refine .inr (.inr ⟨rfl, a + 1, 0, by unfold nxt; rw [if_pos h, if_pos hb, if_pos ha], (right_iff _ _).2 (by omega), (less_iff _ _ _ _).2 (by omega), fun c d h1 h2 => (less_not _ _ _ _).2 ?_⟩)
        have h1 := (right_iff _ _).1 h1
        have h2 := (less_iff _ _ _ _).1 h2
        omega
      · exact .inr (.inl ⟨rfl, by omega, by unfold nxt; rw [if_pos h, if_pos hb, if_neg ha]⟩)
    · refine .inr (.inr ⟨rfl, a, b + 1, by unfold nxt; rw [if_pos h, if_neg hb], (right_iff _ _).2 (by omega), (less_iff _ _ _ _).2 (by omega), fun c d h1 h2 => (less_not _ _ _ _).2 ?_⟩)
      have h1 := (right_iff _ _).1 h1
      have h2 := (less_iff _ _ _ _).1 h2
      omega

end Go.Proofs.Ytcahmnpoajnmpaa
