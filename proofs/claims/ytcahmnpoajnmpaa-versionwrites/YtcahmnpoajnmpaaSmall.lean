/-
  Contracts of package stamp's functions of numbers: Right, Compare, Less, Max, Next, Plus. No law is proved here.
-/
import Derived.Test.YtcahmnpoajnmpaaBase
import Derived.Test.YtcahmnpoajnmpaaLater
namespace Go.Proofs.Ytcahmnpoajnmpaa
open Go.RowKit
set_option linter.unusedVariables false

/-- A stamp is right. -/
def rightB (a b : Int) : Bool := decide (0 ≤ a ∧ a ≤ 1099511627776) && decide (0 ≤ b ∧ b ≤ 65535)
/-- Which number is less. -/
def cmpI (x y : Int) : Int := if x < y then -1 else if y < x then 1 else 0
/-- The first that is not 0. -/
def orI (x y : Int) : Int := if x = 0 then y else x
/-- Which stamp is less. -/
def cmpS (a b c d : Int) : Int := orI (cmpI a c) (cmpI b d)
/-- A stamp is less. -/
def lessB (a b c d : Int) : Bool := decide (cmpS a b c d < 0)
/-- What may be that is nearest. -/
def bnd (v l m : Int) : Int := min (max v l) m

theorem cmpI_bounds (x y : Int) : -1 ≤ cmpI x y ∧ cmpI x y ≤ 1 := by unfold cmpI; split <;> (try split) <;> omega

section
set_option maxRecDepth 100000
theorem within_any (v l m : Int) (w : World) : Calls Try.prog 58 #[.int .i64 v, .int .i64 l, .int .i64 m] w fun e w' => e = .returned (.bool (decide (l ≤ v ∧ v ≤ m))) ∧ w' = w := by
  by_cases h1 : l ≤ v
  all_goals
    by_cases h2 : v ≤ m
    all_goals
      go_enter Try.func58, Try.ntmps58
      go_wp2
      go_ret
      refine ⟨?_, rfl⟩
      simp [h1, h2]

theorem right_any (a b : Int) (w : World) : Calls Try.prog 50 #[(.agg #[.int .i64 a, .int .i64 b])] w fun e w' => e = .returned (.bool (rightB a b)) ∧ Below w.heap.size w w' := by
  unfold rightB
  have h1 := fun w => within_any a 0 1099511627776 w
  have h2 := fun w => within_any b 0 65535 w
  generalize decide (0 ≤ a ∧ a ≤ 1099511627776) = x at *
  generalize decide (0 ≤ b ∧ b ≤ 65535) = y at *
  cases x
  · go_enter Try.func50, Try.ntmps50
    go_wp2_with fail
    refine (h1 _).mono ?_
    rintro e w' ⟨rfl, rfl⟩
    go_wp2
    go_ret
    exact ⟨rfl, (Below.refl _ _).alloc (Nat.le_refl _) _⟩
  · go_enter Try.func50, Try.ntmps50
    go_wp2_with fail
    refine (h1 _).mono ?_
    rintro e w' ⟨rfl, rfl⟩
    go_wp2_with fail
    refine (h2 _).mono ?_
    rintro e w' ⟨rfl, rfl⟩
    go_wp2
    go_ret
    exact ⟨rfl, (Below.refl _ _).alloc (Nat.le_refl _) _⟩

theorem cmpc_any (x y : Int) (w : World) : Calls Try.prog 57 #[.int .i64 x, .int .i64 y] w fun e w' => e = .returned (.int .i64 (cmpI x y)) ∧ w' = w := by
  unfold cmpI
  by_cases h1 : x < y
  · rw [if_pos h1]
    go_enter Try.func57, Try.ntmps57
    go_wp2
    go_ret
    exact ⟨rfl, rfl⟩
  · rw [if_neg h1]
    by_cases h2 : y < x
    · rw [if_pos h2]
      go_enter Try.func57, Try.ntmps57
      go_wp2
      go_ret
      exact ⟨rfl, rfl⟩
    · rw [if_neg h2]
      go_enter Try.func57, Try.ntmps57
      go_wp2
      go_ret
      exact ⟨rfl, rfl⟩
end

end Go.Proofs.Ytcahmnpoajnmpaa
