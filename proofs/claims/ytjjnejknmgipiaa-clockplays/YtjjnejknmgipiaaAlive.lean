/-
  The laws' live question: it answers true. No law is proved here.
-/
import Derived.Test.YtjjnejknmgipiaaHear
namespace Go.Proofs.Ytjjnejknmgipiaa
open Go.RowKit
set_option linter.unusedVariables false

theorem field0 (x y : Int) (w : World) : (Instr.field 32 (.agg #[.int .i64 x, .int .i64 y]) 0).run Try.prog w = .ok (.int .i64 x) w := by
  simp [Instr.field, asAgg, go_sem]

section
set_option maxRecDepth 100000
set_option maxHeartbeats 1000000 in
theorem alive_any (w : World) : Calls Try.prog 10 #[] w fun e w' => e = .returned (.bool true) ∧ Below w.heap.size w w' := by
  have hF := field0
  have hw0 := Four.new w 5 0 0 0 53
  have hm0 : Mv w.heap.size w (w.alloc (.cells #[.int .i64 5, .int .i64 0, .int .i64 0, .int .i64 0] 53)) := (Mv.refl _ _).alloc _
  go_enter Try.func10, Try.ntmps10
  go_wp2_with fail
  refine (new_yes 5 (by decide) (by decide) _).mono ?_
  rintro e w1 ⟨rfl, rfl⟩
  generalize w.alloc (.cells #[.int .i64 5, .int .i64 0, .int .i64 0, .int .i64 0] 53) = w1 at *
  go_wp2_with fail
  have hS := set_any _ _ _ _ _ 7 _ hw0
  rw [show setE 0 7 = 0 by decide, show setP 0 7 = 7 by decide] at hS
  refine hS.mono ?_
  rintro e w2 ⟨rfl, h2, m2⟩
  replace hm0 := hm0.trans m2
  clear hS m2 hw0
  go_wp2_with fail
  have hN := now_any _ _ _ _ _ _ h2 (by decide)
  rw [show nowS 7 0 0 = (7, 0, 0) by decide, show nowL 7 0 0 = (7, 0) by decide] at hN
  refine hN.mono ?_
  rintro e w3 ⟨rfl, h3, m3⟩
  replace hm0 := hm0.trans m3
  have h3' := h3.alloc (.cells #[.int .i64 7, .int .i64 0] 32)
  have s3 := Two.new w3 7 0 32
  replace hm0 := hm0.alloc (.cells #[.int .i64 7, .int .i64 0] 32)
  have t3 : w.heap.size ≠ w3.heap.size := by have := h3.lt; omega
  clear hN m3 h2 h3
  go_wp2_with fail
  have hN := now_any _ _ _ _ _ _ h3' (by decide)
  rw [show nowS 7 7 0 = (7, 1, 0) by decide, show nowL 7 7 0 = (7, 1) by decide] at hN
  refine hN.mono ?_
  rintro e w4 ⟨rfl, h4, m4⟩
  replace hm0 := hm0.trans m4
  have h4' := h4.alloc (.cells #[.int .i64 7, .int .i64 1] 32)
  have s4 := Two.new w4 7 1 32
  replace s3 := (s3.mv m4 t3.symm).alloc (.cells #[.int .i64 7, .int .i64 1] 32)
  replace hm0 := hm0.alloc (.cells #[.int .i64 7, .int .i64 1] 32)
  clear hN m4 h3' h4
  obtain ⟨a0, a1, a2, a3⟩ := s3
  obtain ⟨b0, b1, b2, b3⟩ := s4
  go_wp2_with fail
  have hH := hear_any _ _ _ _ _ 13 0 _ h4' (by decide) (by decide)
  rw [show hearE 5 7 13 0 = 41 by decide, show hearL 5 7 7 1 13 0 = (7, 1) by decide] at hH
  refine hH.mono ?_
  rintro e w5 ⟨rfl, h5, m5⟩
  replace hm0 := hm0.trans m5
  clear hH m5 h4' a0 a1 a2 a3 b0 b1 b2 b3
  go_wp2_with fail
  have hH := hear_any _ _ _ _ _ 12 0 _ h5 (by decide) (by decide)
  rw [show hearE 5 7 12 0 = 0 by decide, show hearL 5 7 7 1 12 0 = (12, 0) by decide] at hH
  refine hH.mono ?_
  rintro e w6 ⟨rfl, h6, m6⟩
  replace hm0 := hm0.trans m6
  clear hH m6 h5
  go_wp2_with fail
  refine (last_any _ _ _ _ _ _ h6).mono ?_
  rintro e w7 ⟨rfl, h7⟩
  replace hm0 := hide (hm0.later h7)
  clear h7 h6
  go_wp2
  go_ret
  exact ⟨rfl, (unhide hm0).below (Nat.le_refl _) (Nat.le_refl _)⟩
end

end Go.Proofs.Ytjjnejknmgipiaa
