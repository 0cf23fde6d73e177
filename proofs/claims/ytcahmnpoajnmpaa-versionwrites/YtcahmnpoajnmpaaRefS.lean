/-
  Contracts of the document's own answers for stamps: Less, Right, Max, Next, Plus. No law is proved here.
-/
import Derived.Test.YtcahmnpoajnmpaaOrderMath
namespace Go.Proofs.Ytcahmnpoajnmpaa
open Go.RowKit
set_option linter.unusedVariables false

section
set_option maxRecDepth 100000

theorem refless_any (a b c d : Int) (w : World) : Calls Try.prog 33 #[.agg #[.int .i64 a, .int .i64 b], .agg #[.int .i64 c, .int .i64 d]] w fun e w' => e = .returned (.bool (lessB a b c d)) ∧ Below w.heap.size w w' := by
  by_cases h1 : a < c
  · rw [(less_iff a b c d).2 (by omega)]
    go_enter Try.func33, Try.ntmps33
    go_wp2
    go_ret
    exact ⟨rfl, by go_grown⟩
  · by_cases h2 : a = c
    · subst h2
      by_cases h3 : b < d
      · rw [(less_iff a b a d).2 (by omega)]
        go_enter Try.func33, Try.ntmps33
        go_wp2
        go_ret
        exact ⟨rfl, by go_grown⟩
      · rw [(less_not a b a d).2 (by omega)]
        go_enter Try.func33, Try.ntmps33
        go_wp2
        go_ret
        exact ⟨rfl, by go_grown⟩
    · rw [(less_not a b c d).2 (by omega)]
      have h2' : (a == c) = false := by simpa using h2
      go_enter Try.func33, Try.ntmps33
      go_wp2
      go_ret
      exact ⟨rfl, by go_grown⟩

set_option maxHeartbeats 1000000 in
theorem refright_any (a b : Int) (w : World) : Calls Try.prog 32 #[.agg #[.int .i64 a, .int .i64 b]] w fun e w' => e = .returned (.bool (rightB a b)) ∧ Below w.heap.size w w' := by
  by_cases h1 : a < 0
  · rw [(right_not a b).2 (by omega)]
    go_enter Try.func32, Try.ntmps32
    go_wp2
    go_ret
    exact ⟨rfl, by go_grown⟩
  · have h1' : 0 ≤ a := by omega
    by_cases h2 : 1099511627776 < a
    · rw [(right_not a b).2 (by omega)]
      go_enter Try.func32, Try.ntmps32
      go_wp2
      go_ret
      exact ⟨rfl, by go_grown⟩
    · have h2' : a ≤ 1099511627776 := by omega
      by_cases h3 : b < 0
      · rw [(right_not a b).2 (by omega)]
        go_enter Try.func32, Try.ntmps32
        go_wp2
        go_ret
        exact ⟨rfl, by go_grown⟩
      · have h3' : 0 ≤ b := by omega
        by_cases h4 : 65535 < b
        · rw [(right_not a b).2 (by omega)]
          go_enter Try.func32, Try.ntmps32
          go_wp2
          go_ret
          refine ⟨?_, by go_grown⟩
          first | rfl | (simp; omega)
        · have h4' : b ≤ 65535 := by omega
          rw [(right_iff a b).2 (by omega)]
          go_enter Try.func32, Try.ntmps32
          go_wp2
          go_ret
          exact ⟨rfl, by go_grown⟩

theorem refmax_any (a b c d : Int) (w : World) : Calls Try.prog 48 #[.agg #[.int .i64 a, .int .i64 b], .agg #[.int .i64 c, .int .i64 d]] w fun e w' => e = .returned (if lessB a b c d then .agg #[.int .i64 c, .int .i64 d] else .agg #[.int .i64 a, .int .i64 b]) ∧ Below w.heap.size w w' := by
  have h1 := fun w => refless_any a b c d w
  generalize lessB a b c d = x at *
  have hB := (((Below.refl w.heap.size w).alloc (Nat.le_refl _) (.cells #[.int .i64 a, .int .i64 b] 24)).alloc (by simp) (.cells #[.int .i64 c, .int .i64 d] 24)).alloc (by simp; omega) (.cells #[.int .i64 0, .int .i64 0] 24)
  cases x
  all_goals
    go_enter Try.func48, Try.ntmps48
    go_wp2_with fail
    refine (h1 _).mono ?_
    rintro e w1 ⟨rfl, hb1⟩
    have k0 : w1.cell? ⟨w.heap.size, 0, none⟩ = some (.int .i64 a) := (hb1.cell (by simp; omega)).trans (by go_simp)
    have k1 : w1.cell? ⟨w.heap.size, 1, none⟩ = some (.int .i64 b) := (hb1.cell (by simp; omega)).trans (by go_simp)
    have k2 : w1.cell? ⟨w.heap.size + 1, 0, none⟩ = some (.int .i64 c) := (hb1.cell (by simp)).trans (by go_simp)
    have k3 : w1.cell? ⟨w.heap.size + 1, 1, none⟩ = some (.int .i64 d) := (hb1.cell (by simp)).trans (by go_simp)
    have k4 : w1.cell? ⟨w.heap.size + 1 + 1, 0, none⟩ = some (.int .i64 0) := (hb1.cell (by simp)).trans (by go_simp)
    have k5 : w1.cell? ⟨w.heap.size + 1 + 1, 1, none⟩ = some (.int .i64 0) := (hb1.cell (by simp)).trans (by go_simp)
    have k6 : w1.frozen? ⟨w.heap.size + 1 + 1, 0, none⟩ = false := (hb1.frozen (by simp)).trans (by go_simp)
    have k7 : w1.frozen? ⟨w.heap.size + 1 + 1, 1, none⟩ = false := (hb1.frozen (by simp)).trans (by go_simp)
    have R := hide (hB.trans (hb1.mono (by simp; omega)))
    clear hB hb1
    go_wp2
    obtain ⟨c0, c1⟩ := set2 w1 (w.heap.size + 1 + 1) _ _ (.int .i64 _) (.int .i64 _) k4 k5
    refine bodyPost_ret (results_stp Try.results48 rfl c0 c1) rfl ?_
    exact ⟨rfl, ((unhide R).setCell (by simp; omega) _).setCell (by simp; omega) _⟩

set_option maxHeartbeats 1000000 in
theorem refnext_any (a b : Int) (w : World) : Calls Try.prog 47 #[.agg #[.int .i64 a, .int .i64 b]] w fun e w' =>
    e = .returned (.tuple #[.agg #[.int .i64 (nxt a b).1, .int .i64 (nxt a b).2.1], .int .i64 (nxt a b).2.2]) ∧ Below w.heap.size w w' := by
  have h1 := fun w => refright_any a b w
  have hB := ((Below.refl w.heap.size w).alloc (Nat.le_refl _) (.cells #[.int .i64 a, .int .i64 b] 24)).alloc (by simp) (.cells #[.int .i64 0, .int .i64 0] 24)
  have main : ∀ (x y z : Int) (r : Bool), nxt a b = (x, y, z) → rightB a b = r → ((r = false ∧ x = 0 ∧ y = 0 ∧ z = 31) ∨ (r = true ∧ a = 1099511627776 ∧ b = 65535 ∧ x = 0 ∧ y = 0 ∧ z = 31) ∨
      (r = true ∧ ¬ a = 1099511627776 ∧ b = 65535 ∧ x = a + 1 ∧ y = 0 ∧ z = 0 ∧ 0 ≤ a ∧ a ≤ 1099511627776) ∨ (r = true ∧ a = 1099511627776 ∧ ¬ b = 65535 ∧ a = x ∧ y = b + 1 ∧ z = 0 ∧ 0 ≤ b ∧ b ≤ 65535) ∨ (r = true ∧ ¬ a = 1099511627776 ∧ ¬ b = 65535 ∧ a = x ∧ y = b + 1 ∧ z = 0 ∧ 0 ≤ b ∧ b ≤ 65535)) →
      Calls Try.prog 47 #[.agg #[.int .i64 a, .int .i64 b]] w fun e w' => e = .returned (.tuple #[.agg #[.int .i64 x, .int .i64 y], .int .i64 z]) ∧ Below w.heap.size w w' := by
    intro x y z r hx hr hc
    rw [hr] at h1
    clear hx hr
    rcases hc with ⟨rfl, rfl, rfl, rfl⟩ | ⟨rfl, ha, hb, rfl, rfl, rfl⟩ | ⟨rfl, ha, hb, rfl, rfl, rfl, q1, q2⟩ | ⟨rfl, ha, hb, rfl, rfl, rfl, q1, q2⟩ | ⟨rfl, ha, hb, rfl, rfl, rfl, q1, q2⟩
    all_goals
      first
      | (have ha' : (a == 1099511627776) = true := by simpa using ha
         have hb' : (b == 65535) = true := by simpa using hb
         clear ha hb)
      | (have ha' : (a == 1099511627776) = false := by simpa using ha
         have hb' : (b == 65535) = true := by simpa using hb
         clear ha hb)
      | (have ha' : (a == 1099511627776) = true := by simpa using ha
         have hb' : (b == 65535) = false := by simpa using hb
         clear ha hb)
      | (have ha' : (a == 1099511627776) = false := by simpa using ha
         have hb' : (b == 65535) = false := by simpa using hb
         clear ha hb)
      | skip
      go_enter Try.func47, Try.ntmps47
      go_wp2_with fail
      refine (h1 _).mono ?_
      rintro e w1 ⟨rfl, hb1⟩
      have k0 : w1.cell? ⟨w.heap.size, 0, none⟩ = some (.int .i64 a) := (hb1.cell (by simp; omega)).trans (by go_simp)
      have k1 : w1.cell? ⟨w.heap.size, 1, none⟩ = some (.int .i64 b) := (hb1.cell (by simp; omega)).trans (by go_simp)
      have k2 : w1.cell? ⟨w.heap.size + 1, 0, none⟩ = some (.int .i64 0) := (hb1.cell (by simp)).trans (by go_simp)
      have k3 : w1.cell? ⟨w.heap.size + 1, 1, none⟩ = some (.int .i64 0) := (hb1.cell (by simp)).trans (by go_simp)
      have f2 : w1.frozen? ⟨w.heap.size + 1, 0, none⟩ = false := (hb1.frozen (by simp)).trans (by go_simp)
      have f3 : w1.frozen? ⟨w.heap.size + 1, 1, none⟩ = false := (hb1.frozen (by simp)).trans (by go_simp)
      have R := hide (hB.trans (hb1.mono (by simp; omega)))
      clear hb1 hB
      go_wp2
      all_goals
        obtain ⟨c0, c1⟩ := set2 w1 (w.heap.size + 1) _ _ (.int .i64 _) (.int .i64 _) k2 k3
        refine bodyPost_ret (results_stp2 Try.results47 rfl rfl c0 c1) rfl ?_
        exact ⟨rfl, ((unhide R).setCell (by simp) _).setCell (by simp) _⟩
  refine main _ _ _ _ rfl rfl ?_
  have hri := right_iff a b
  unfold nxt
  cases hr : rightB a b
  · simp
  · have q := hri.1 hr
    by_cases hb : b = 65535
    · by_cases ha : a < 1099511627776
      · simp [hb, ha]; omega
      · have : a = 1099511627776 := by omega
        simp [hb, this]
    · by_cases ha : a = 1099511627776
      · subst ha
        simp [hb]; omega
      · simp [hb, ha]; omega
end

end Go.Proofs.Ytcahmnpoajnmpaa
