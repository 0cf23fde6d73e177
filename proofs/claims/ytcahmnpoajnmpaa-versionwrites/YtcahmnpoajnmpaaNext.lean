/-
  Contracts of stamp.Next, stamp.Plus. No law is proved here.
-/
import Derived.Test.YtcahmnpoajnmpaaCmp
namespace Go.Proofs.Ytcahmnpoajnmpaa
open Go.RowKit
set_option linter.unusedVariables false

/-- The next stamp, and the error. -/
def nxt (a b : Int) : Int × Int × Int :=
  if rightB a b then if b = 65535 then (if a < 1099511627776 then (a + 1, 0, 0) else (0, 0, 31)) else (a, b + 1, 0) else (0, 0, 31)

theorem frozen_alloc_lt {w : World} {p : Addr} {o : Obj} (h : p.block < w.heap.size) : (w.alloc o).frozen? p = w.frozen? p :=
  ((Below.refl w.heap.size w).alloc (Nat.le_refl _) o).frozen h

section
set_option maxRecDepth 100000

set_option maxHeartbeats 1000000 in
theorem next_any (a b : Int) (w : World) : Calls Try.prog 30 #[(.agg #[.int .i64 a, .int .i64 b])] w fun e w' =>
    e = .returned (.tuple #[(.agg #[.int .i64 (nxt a b).1, .int .i64 (nxt a b).2.1]), .int .i64 (nxt a b).2.2]) ∧ Below w.heap.size w w' := by
  have h1 := fun w => right_any a b w
  have n1 : rightB a b = false → nxt a b = (0, 0, 31) := fun h => by unfold nxt; simp [h]
  have n2 : rightB a b = true → b = 65535 → a < 1099511627776 → nxt a b = (a + 1, 0, 0) := fun h h2 h3 => by unfold nxt; rw [if_pos h, if_pos h2, if_pos h3]
  have n3 : rightB a b = true → b = 65535 → ¬ a < 1099511627776 → nxt a b = (0, 0, 31) := fun h h2 h3 => by unfold nxt; rw [if_pos h, if_pos h2, if_neg h3]
  have n4 : rightB a b = true → b ≠ 65535 → nxt a b = (a, b + 1, 0) := fun h h2 => by unfold nxt; simp [h, h2]
  have r : rightB a b = true → 0 ≤ a ∧ a ≤ 1099511627776 ∧ 0 ≤ b ∧ b ≤ 65535 := fun h => by
    unfold rightB at h
    simp at h
    omega
  have r1 : 0 ≤ a → a < 1099511627776 → rightB (a + 1) 0 = true := fun h h2 => by unfold rightB; simp; omega
  have r2 : ¬ a < 1099511627776 → rightB (a + 1) 0 = false := fun h => by unfold rightB; simp; omega
  have r3 : 0 ≤ a → a ≤ 1099511627776 → 0 ≤ b → b ≤ 65535 → b ≠ 65535 → rightB a (b + 1) = true := fun h1 h2 h3 h4 h5 => by unfold rightB; simp; omega
  have hB := ((Below.refl w.heap.size w).alloc (Nat.le_refl _) (.cells #[.int .i64 a, .int .i64 b] 24)).alloc (by simp) (.cells #[.int .i64 0, .int .i64 0] 24)
  have main : ∀ x : Bool, rightB a b = x → Calls Try.prog 30 #[(.agg #[.int .i64 a, .int .i64 b])] w fun e w' =>
      e = .returned (.tuple #[(.agg #[.int .i64 (nxt a b).1, .int .i64 (nxt a b).2.1]), .int .i64 (nxt a b).2.2]) ∧ Below w.heap.size w w' := by
    intro x hx
    rw [hx] at h1 n1 n2 n3 n4 r
    cases x
    · rw [n1 rfl]
      clear n1 n2 n3 n4 r r1 r2 r3 hx
      go_enter Try.func30, Try.ntmps30
      go_wp2_with fail
      refine (h1 _).mono ?_
      rintro e w1 ⟨rfl, hb1⟩
      have k2 : w1.cell? ⟨w.heap.size + 1, 0, none⟩ = some (.int .i64 0) := (hb1.cell (by simp)).trans (by go_simp)
      have k3 : w1.cell? ⟨w.heap.size + 1, 1, none⟩ = some (.int .i64 0) := (hb1.cell (by simp)).trans (by go_simp)
      have f2 : w1.frozen? ⟨w.heap.size + 1, 0, none⟩ = false := (hb1.frozen (by simp)).trans (by go_simp)
      have f3 : w1.frozen? ⟨w.heap.size + 1, 1, none⟩ = false := (hb1.frozen (by simp)).trans (by go_simp)
      have R := hide (hB.trans (hb1.mono (by simp; omega)))
      clear hb1 hB
      go_wp2
      obtain ⟨c0, c1⟩ := set2 w1 (w.heap.size + 1) _ _ (.int .i64 0) (.int .i64 0) k2 k3
      refine bodyPost_ret (results_stp2 Try.results30 rfl rfl c0 c1) rfl ?_
      exact ⟨rfl, ((unhide R).setCell (by simp) _).setCell (by simp) _⟩
    · obtain ⟨ra, rb, rc, rd⟩ := r rfl
      by_cases hb : b = 65535
      · by_cases ha : a < 1099511627776
        · rw [n2 rfl hb ha]
          have h2 := fun w => right_any (a + 1) 0 w
          rw [r1 ra ha] at h2
          clear n1 n2 n3 n4 r r1 r2 r3 hx
          have hbb : (b == 65535) = true := by simpa using hb
          clear hb
          go_enter Try.func30, Try.ntmps30
          go_wp2_with fail
          refine (h1 _).mono ?_
          rintro e w1 ⟨rfl, hb1⟩
          have k0 : w1.cell? ⟨w.heap.size, 0, none⟩ = some (.int .i64 a) := (hb1.cell (by simp; omega)).trans (by go_simp)
          have k1 : w1.cell? ⟨w.heap.size, 1, none⟩ = some (.int .i64 b) := (hb1.cell (by simp; omega)).trans (by go_simp)
          have k2 : w1.cell? ⟨w.heap.size + 1, 0, none⟩ = some (.int .i64 0) := (hb1.cell (by simp)).trans (by go_simp)
          have k3 : w1.cell? ⟨w.heap.size + 1, 1, none⟩ = some (.int .i64 0) := (hb1.cell (by simp)).trans (by go_simp)
          have f2 : w1.frozen? ⟨w.heap.size + 1, 0, none⟩ = false := (hb1.frozen (by simp)).trans (by go_simp)
          have f3 : w1.frozen? ⟨w.heap.size + 1, 1, none⟩ = false := (hb1.frozen (by simp)).trans (by go_simp)
          have hsz : w.heap.size + 1 + 1 ≤ w1.heap.size := by have := hb1.size; simpa using this
          have R := hide (hB.trans (hb1.mono (by simp; omega)))
          clear hb1 hB
          have g0 : ∀ o, (w1.alloc o).cell? ⟨w.heap.size, 0, none⟩ = some (.int .i64 a) := fun o => (World.cell?_alloc_lt _ _ _ (by simp; omega)).trans k0
          have g1 : ∀ o, (w1.alloc o).cell? ⟨w.heap.size, 1, none⟩ = some (.int .i64 b) := fun o => (World.cell?_alloc_lt _ _ _ (by simp; omega)).trans k1
          go_wp2_with fail
          refine (h2 _).mono ?_
          rintro e w2 ⟨rfl, hb2⟩
          have m0 : w2.cell? ⟨w1.heap.size, 0, none⟩ = some (.int .i64 (a + 1)) := (hb2.cell (by simp)).trans (by go_simp)
          have m1 : w2.cell? ⟨w1.heap.size, 1, none⟩ = some (.int .i64 (0)) := (hb2.cell (by simp)).trans (by go_simp)
          have m2 : w2.cell? ⟨w.heap.size + 1, 0, none⟩ = some (.int .i64 0) := ((hb2.cell (by simp; omega)).trans (World.cell?_alloc_lt _ _ _ (by simp; omega))).trans k2
          have m3 : w2.cell? ⟨w.heap.size + 1, 1, none⟩ = some (.int .i64 0) := ((hb2.cell (by simp; omega)).trans (World.cell?_alloc_lt _ _ _ (by simp; omega))).trans k3
          have e2 : w2.frozen? ⟨w.heap.size + 1, 0, none⟩ = false := ((hb2.frozen (by simp; omega)).trans (frozen_alloc_lt (by simp; omega))).trans f2
          have e3 : w2.frozen? ⟨w.heap.size + 1, 1, none⟩ = false := ((hb2.frozen (by simp; omega)).trans (frozen_alloc_lt (by simp; omega))).trans f3
          have R2 := hide (((unhide R).alloc (by omega) _).trans (hb2.mono (by simp; omega)))
          clear hb2 g0 g1 k0 k1 k2 k3 f2 f3
          go_wp2
          obtain ⟨c0, c1⟩ := set2 w2 (w.heap.size + 1) _ _ (.int .i64 (a + 1)) (.int .i64 (0)) m2 m3
          refine bodyPost_ret (results_stp2 Try.results30 rfl rfl c0 c1) rfl ?_
          exact ⟨rfl, ((unhide R2).setCell (by simp) _).setCell (by simp) _⟩
        · rw [n3 rfl hb ha]
          have h2 := fun w => right_any (a + 1) 0 w
          rw [r2 ha] at h2
          clear n1 n2 n3 n4 r r1 r2 r3 hx
          have hbb : (b == 65535) = true := by simpa using hb
          clear hb
          go_enter Try.func30, Try.ntmps30
          go_wp2_with fail
          refine (h1 _).mono ?_
          rintro e w1 ⟨rfl, hb1⟩
          have k0 : w1.cell? ⟨w.heap.size, 0, none⟩ = some (.int .i64 a) := (hb1.cell (by simp; omega)).trans (by go_simp)
          have k1 : w1.cell? ⟨w.heap.size, 1, none⟩ = some (.int .i64 b) := (hb1.cell (by simp; omega)).trans (by go_simp)
          have k2 : w1.cell? ⟨w.heap.size + 1, 0, none⟩ = some (.int .i64 0) := (hb1.cell (by simp)).trans (by go_simp)
          have k3 : w1.cell? ⟨w.heap.size + 1, 1, none⟩ = some (.int .i64 0) := (hb1.cell (by simp)).trans (by go_simp)
          have f2 : w1.frozen? ⟨w.heap.size + 1, 0, none⟩ = false := (hb1.frozen (by simp)).trans (by go_simp)
          have f3 : w1.frozen? ⟨w.heap.size + 1, 1, none⟩ = false := (hb1.frozen (by simp)).trans (by go_simp)
          have hsz : w.heap.size + 1 + 1 ≤ w1.heap.size := by have := hb1.size; simpa using this
          have R := hide (hB.trans (hb1.mono (by simp; omega)))
          clear hb1 hB
          have g0 : ∀ o, (w1.alloc o).cell? ⟨w.heap.size, 0, none⟩ = some (.int .i64 a) := fun o => (World.cell?_alloc_lt _ _ _ (by simp; omega)).trans k0
          have g1 : ∀ o, (w1.alloc o).cell? ⟨w.heap.size, 1, none⟩ = some (.int .i64 b) := fun o => (World.cell?_alloc_lt _ _ _ (by simp; omega)).trans k1
          go_wp2_with fail
          refine (h2 _).mono ?_
          rintro e w2 ⟨rfl, hb2⟩
          have m0 : w2.cell? ⟨w1.heap.size, 0, none⟩ = some (.int .i64 (a + 1)) := (hb2.cell (by simp)).trans (by go_simp)
          have m1 : w2.cell? ⟨w1.heap.size, 1, none⟩ = some (.int .i64 (0)) := (hb2.cell (by simp)).trans (by go_simp)
          have m2 : w2.cell? ⟨w.heap.size + 1, 0, none⟩ = some (.int .i64 0) := ((hb2.cell (by simp; omega)).trans (World.cell?_alloc_lt _ _ _ (by simp; omega))).trans k2
          have m3 : w2.cell? ⟨w.heap.size + 1, 1, none⟩ = some (.int .i64 0) := ((hb2.cell (by simp; omega)).trans (World.cell?_alloc_lt _ _ _ (by simp; omega))).trans k3
          have e2 : w2.frozen? ⟨w.heap.size + 1, 0, none⟩ = false := ((hb2.frozen (by simp; omega)).trans (frozen_alloc_lt (by simp; omega))).trans f2
          have e3 : w2.frozen? ⟨w.heap.size + 1, 1, none⟩ = false := ((hb2.frozen (by simp; omega)).trans (frozen_alloc_lt (by simp; omega))).trans f3
          have R2 := hide (((unhide R).alloc (by omega) _).trans (hb2.mono (by simp; omega)))
          clear hb2 g0 g1 k0 k1 k2 k3 f2 f3
          go_wp2
          obtain ⟨c0, c1⟩ := set2 w2 (w.heap.size + 1) _ _ (.int .i64 (0)) (.int .i64 (0)) m2 m3
          refine bodyPost_ret (results_stp2 Try.results30 rfl rfl c0 c1) rfl ?_
          exact ⟨rfl, ((unhide R2).setCell (by simp) _).setCell (by simp) _⟩
      · rw [n4 rfl hb]
        have h2 := fun w => right_any a (b + 1) w
        rw [r3 ra rb rc rd hb] at h2
        clear n1 n2 n3 n4 r r1 r2 r3 hx
        have hbb : (b == 65535) = false := by simpa using hb
        clear hb
        go_enter Try.func30, Try.ntmps30
        go_wp2_with fail
        refine (h1 _).mono ?_
        rintro e w1 ⟨rfl, hb1⟩
        have k0 : w1.cell? ⟨w.heap.size, 0, none⟩ = some (.int .i64 a) := (hb1.cell (by simp; omega)).trans (by go_simp)
        have k1 : w1.cell? ⟨w.heap.size, 1, none⟩ = some (.int .i64 b) := (hb1.cell (by simp; omega)).trans (by go_simp)
        have k2 : w1.cell? ⟨w.heap.size + 1, 0, none⟩ = some (.int .i64 0) := (hb1.cell (by simp)).trans (by go_simp)
        have k3 : w1.cell? ⟨w.heap.size + 1, 1, none⟩ = some (.int .i64 0) := (hb1.cell (by simp)).trans (by go_simp)
        have f2 : w1.frozen? ⟨w.heap.size + 1, 0, none⟩ = false := (hb1.frozen (by simp)).trans (by go_simp)
        have f3 : w1.frozen? ⟨w.heap.size + 1, 1, none⟩ = false := (hb1.frozen (by simp)).trans (by go_simp)
        have hsz : w.heap.size + 1 + 1 ≤ w1.heap.size := by have := hb1.size; simpa using this
        have R := hide (hB.trans (hb1.mono (by simp; omega)))
        clear hb1 hB
        have g0 : ∀ o, (w1.alloc o).cell? ⟨w.heap.size, 0, none⟩ = some (.int .i64 a) := fun o => (World.cell?_alloc_lt _ _ _ (by simp; omega)).trans k0
        have g1 : ∀ o, (w1.alloc o).cell? ⟨w.heap.size, 1, none⟩ = some (.int .i64 b) := fun o => (World.cell?_alloc_lt _ _ _ (by simp; omega)).trans k1
        go_wp2_with fail
        refine (h2 _).mono ?_
        rintro e w2 ⟨rfl, hb2⟩
        have m0 : w2.cell? ⟨w1.heap.size, 0, none⟩ = some (.int .i64 (a)) := (hb2.cell (by simp)).trans (by go_simp)
        have m1 : w2.cell? ⟨w1.heap.size, 1, none⟩ = some (.int .i64 (b + 1)) := (hb2.cell (by simp)).trans (by go_simp)
        have m2 : w2.cell? ⟨w.heap.size + 1, 0, none⟩ = some (.int .i64 0) := ((hb2.cell (by simp; omega)).trans (World.cell?_alloc_lt _ _ _ (by simp; omega))).trans k2
        have m3 : w2.cell? ⟨w.heap.size + 1, 1, none⟩ = some (.int .i64 0) := ((hb2.cell (by simp; omega)).trans (World.cell?_alloc_lt _ _ _ (by simp; omega))).trans k3
        have e2 : w2.frozen? ⟨w.heap.size + 1, 0, none⟩ = false := ((hb2.frozen (by simp; omega)).trans (frozen_alloc_lt (by simp; omega))).trans f2
        have e3 : w2.frozen? ⟨w.heap.size + 1, 1, none⟩ = false := ((hb2.frozen (by simp; omega)).trans (frozen_alloc_lt (by simp; omega))).trans f3
        have R2 := hide (((unhide R).alloc (by omega) _).trans (hb2.mono (by simp; omega)))
        clear hb2 g0 g1 k0 k1 k2 k3 f2 f3
        go_wp2
        obtain ⟨c0, c1⟩ := set2 w2 (w.heap.size + 1) _ _ (.int .i64 (a)) (.int .i64 (b + 1)) m2 m3
        refine bodyPost_ret (results_stp2 Try.results30 rfl rfl c0 c1) rfl ?_
        exact ⟨rfl, ((unhide R2).setCell (by simp) _).setCell (by simp) _⟩
  exact main _ rfl
end

end Go.Proofs.Ytcahmnpoajnmpaa
