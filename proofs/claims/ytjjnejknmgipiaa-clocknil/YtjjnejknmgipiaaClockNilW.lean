/-
  The law ClockNil: its walk.
-/
import Derived.Test.YtjjnejknmgipiaaAct
namespace Go.Proofs.Ytjjnejknmgipiaa
open Go.RowKit
set_option linter.unusedVariables false

section
set_option maxRecDepth 100000

theorem set_nil (x : Int) (w : World) : Calls Try.prog 11 #[.pointer none, .int .i64 x] w fun e w' => e = .returned (.int .i64 1) ∧ Below w.heap.size w w' := by
  go_enter Try.func11, Try.ntmps11
  go_wp2
  go_ret
  exact ⟨rfl, Below.refl _ _⟩
theorem now_nil (w : World) : Calls Try.prog 13 #[.pointer none] w fun e w' => e = .returned (.tuple #[.agg #[.int .i64 0, .int .i64 0], .int .i64 1]) ∧ Below w.heap.size w w' := by
  go_enter Try.func13, Try.ntmps13
  go_wp2
  refine bodyPost_ret (results_stp2 (a := 0) (b := 0) Try.results13 rfl rfl (by simp) (by simp)) rfl ?_
  exact ⟨rfl, by go_grown⟩
theorem hear_nil (c d : Int) (w : World) : Calls Try.prog 15 #[.pointer none, .agg #[.int .i64 c, .int .i64 d]] w fun e w' => e = .returned (.int .i64 1) ∧ Below w.heap.size w w' := by
  go_enter Try.func15, Try.ntmps15
  go_wp2
  go_ret
  exact ⟨rfl, by go_grown⟩
theorem physical_nil (w : World) : Calls Try.prog 17 #[.pointer none] w fun e w' => e = .returned (.int .i64 0) ∧ Below w.heap.size w w' := by
  go_enter Try.func17, Try.ntmps17
  go_wp2
  go_ret
  exact ⟨rfl, Below.refl _ _⟩
theorem last_nil (w : World) : Calls Try.prog 18 #[.pointer none] w fun e w' => e = .returned (.agg #[.int .i64 0, .int .i64 0]) ∧ Below w.heap.size w w' := by
  go_enter Try.func18, Try.ntmps18
  go_wp2
  refine bodyPost_ret (results_stp (a := 0) (b := 0) Try.results18 rfl (by simp) (by simp)) rfl ?_
  exact ⟨rfl, by go_grown⟩
theorem copy_nil (w : World) : Calls Try.prog 23 #[.pointer none] w fun e w' => e = .returned (.pointer none) ∧ Below w.heap.size w w' := by
  go_enter Try.func23, Try.ntmps23
  go_wp2
  go_ret
  exact ⟨rfl, Below.refl _ _⟩

set_option maxHeartbeats 1000000 in
theorem walkClockNil {w : World} (v : Value) (z : ActV) (hz : ActIs v z) : Calls Try.prog 6 #[v] w fun e w' => e = .returned (.bool true) ∧ Below w.heap.size w w' := by
  obtain ⟨kind, x, c, d⟩ := z
  obtain ⟨rfl, _, _⟩ := hz
  simp only
  have q := Four.new w kind x c d 34
  have hB := (Below.refl w.heap.size w).alloc (Nat.le_refl _) (.cells #[.int .i64 kind, .int .i64 x, .int .i64 c, .int .i64 d] 34)
  go_enter Try.func6, Try.ntmps6
  go_wp2_with fail
  refine (now_nil _).mono ?_
  rintro e w1 ⟨rfl, b1⟩
  have t := Two.new w1 0 0 32
  replace q := (q.later b1).alloc (.cells #[.int .i64 0, .int .i64 0] 32)
  replace hB := (hB.trans (b1.mono hB.size))
  replace hB := hB.alloc hB.size (.cells #[.int .i64 0, .int .i64 0] 32)
  clear b1
  go_wp2_with fail
  refine (alive_any _).mono ?_
  rintro e w2 ⟨rfl, b2⟩
  replace t := t.later b2
  replace q := q.later b2
  replace hB := (hB.trans (b2.mono hB.size))
  clear b2
  have q1 := q.c1
  go_wp2_with fail
  refine (set_nil _ _).mono ?_
  rintro e w3 ⟨rfl, b3⟩
  replace t := t.later b3
  replace q := q.later b3
  replace hB := (hB.trans (b3.mono hB.size))
  clear b3 q1
  have q2 := q.c2
  have q3 := q.c3
  have t0 := t.c0
  have t1 := t.c1
  go_wp2_with fail
  refine (hear_nil _ _ _).mono ?_
  rintro e w4 ⟨rfl, b4⟩
  replace hB := (hB.trans (b4.mono hB.size))
  clear b4 q2 q3 t0 t1 t q
  go_wp2_with fail
  refine (physical_nil _).mono ?_
  rintro e w5 ⟨rfl, b5⟩
  replace hB := (hB.trans (b5.mono hB.size))
  clear b5
  go_wp2_with fail
  refine (last_nil _).mono ?_
  rintro e w6 ⟨rfl, b6⟩
  replace hB := (hB.trans (b6.mono hB.size))
  clear b6
  go_wp2_with fail
  refine (copy_nil _).mono ?_
  rintro e w7 ⟨rfl, b7⟩
  replace hB := hide (hB.trans (b7.mono hB.size))
  clear b7
  go_wp2
  go_ret
  exact ⟨rfl, unhide hB⟩
end

end Go.Proofs.Ytjjnejknmgipiaa
