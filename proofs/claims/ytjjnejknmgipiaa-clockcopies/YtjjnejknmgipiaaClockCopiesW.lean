/-
  The law ClockCopies: its walk.
-/
import Derived.Test.YtjjnejknmgipiaaAct
namespace Go.Proofs.Ytjjnejknmgipiaa
open Go.RowKit
set_option linter.unusedVariables false

/-- Behind the first k acts of a script. -/
def run (o : Int) (s : St) (ys : List ActV) (k : Nat) : St := (ys.take k).foldl (fun s z => s.step o z) s
theorem run_zero (o : Int) (s : St) (ys : List ActV) : run o s ys 0 = s := rfl
theorem run_succ (o : Int) (s : St) (ys : List ActV) (k : Nat) (h : k < ys.length) : run o s ys (k + 1) = (run o s ys k).step o ys[k] := by
  unfold run
  rw [List.take_succ_eq_append_getElem h, List.foldl_append]
  rfl

section
set_option maxRecDepth 100000

set_option maxHeartbeats 4000000 in
theorem walkClockCopies {w : World} (o : Int) (wo : (Lit.int .i64 o).wf = true) (v : Value) (xs : List ActV) (hx : Acts w v xs) (u : Value) (ys : List ActV) (hy : Acts w u ys) :
    Calls Try.prog 5 #[.int .i64 o, v, u] w fun e w' => e = .returned (.bool true) ∧ Below w.heap.size w w' := by
  have Hx := hide hx
  have Hy := hide hy
  obtain ⟨ao, cp, rfl, hxc, hxm, _⟩ := hx
  obtain ⟨bo, cq, rfl, hyc, hym, _⟩ := hy
  unfold maxLen at hxm hym
  by_cases ho : o < 0 ∨ 1099511627776 < o
  · have hN := fun w => new_no o ho w
    clear ho
    go_enter Try.func5, Try.ntmps5
    go_wp2_with fail
    refine (hN _).mono ?_
    rintro e w1 ⟨rfl, rfl⟩
    go_wp2_with fail
    refine (alive_any _).mono ?_
    rintro e w2 ⟨rfl, b2⟩
    have HB := hide b2
    clear b2
    go_wp2
    go_ret
    exact ⟨rfl, unhide HB⟩
  · obtain ⟨o0, o1⟩ : 0 ≤ o ∧ o ≤ 1099511627776 := by omega
    clear ho
    go_enter Try.func5, Try.ntmps5
    go_wp2_with fail
    refine (new_yes o o0 o1 _).mono ?_
    rintro e w1 ⟨rfl, rfl⟩
    have hk := Four.new w o 0 0 0 53
    have hB := (Below.refl w.heap.size w).alloc (Nat.le_refl _) (.cells #[.int .i64 o, .int .i64 0, .int .i64 0, .int .i64 0] 53)
    have g0 : Good o 0 0 0 := ⟨o0, o1, by decide, by decide, by decide, by decide, by decide, by decide⟩
    have K0 : Ck _ w.heap.size o ⟨0, 0, 0⟩ := ⟨hk, g0⟩
    generalize w.alloc (.cells #[.int .i64 o, .int .i64 0, .int .i64 0, .int .i64 0] 53) = W0 at *
    clear hk g0
    go_wp2_with fail
    go_loopw [9] (fun i wr => ∃ (k : Nat) (s : St), i = .int .i64 k ∧ k ≤ xs.length ∧ k ≤ 100 ∧ Ck wr w.heap.size o s ∧ Below w.heap.size w wr) (fun i _ => 100 - (intOf i).toNat)
    case atStart => exact ⟨0, _, rfl, Nat.zero_le _, by decide, K0, hB⟩
    case round =>
      clear K0 hB
      obtain ⟨k, s, rfl, hk1, hk2, hK, hbel⟩ := hrel
      by_cases hlt : k < xs.length ∧ k < 100
      · obtain ⟨hl1, hl2⟩ := hlt
        obtain ⟨z, hz⟩ : ∃ z, Hid (z = xs[k]) := ⟨xs[k], Eq.refl _⟩
        obtain ⟨ao', c', e, _, _, hcell⟩ := (unhide Hx).below hbel (Nat.le_refl _)
        injection e with e1 e2 e3
        subst e1 e3
        obtain ⟨b, of, rfl, c0, c1, c2, c3⟩ := hcell k hl1
        rw [← unhide hz] at c0 c1 c2 c3
        have hsz := hbel.size
        clear hcell e2
        go_wp2_with fail
        refine (do_any _ _ _ z _ hK).mono ?_
        rintro e w1 ⟨rfl, hK1, m1⟩
        have R1 := hide hK1
        have R3 := hide (hbel.trans (m1.below (Nat.le_refl _) hsz))
        clear c0 c1 c2 c3 hK hbel m1 hK1
        go_wp2
        go_roundw
        case rel => exact ⟨k + 1, _, by go_num, by omega, by omega, unhide R1, unhide R3⟩
        case measure => simp [intOf]; omega
      · have hlt' : xs.length ≤ k ∨ (k < xs.length ∧ 100 ≤ k) := by omega
        obtain ⟨p, a, b⟩ := s
        have hG := hide hK.good
        have hF := hK.at'
        simp only at hF
        clear hlt hK Hx
        rcases hlt' with hq | ⟨hq, hq2⟩
        all_goals
          go_wp2_with fail
          refine (copy_any _ _ _ _ _ _ hF).mono ?_
          rintro e w1 ⟨rfl, hD, q1⟩
          have nd : wr.heap.size ≠ w.heap.size := by have := hF.lt; omega
          replace hF := hF.later q1
          have hsz := hbel.size
          replace hbel := hbel.trans (q1.mono hbel.size)
          generalize wr.heap.size = D at *
          clear q1
          go_wp2_with fail
          refine (last_any _ _ _ _ _ _ hF).mono ?_
          rintro e w2 ⟨rfl, q2⟩
          have hL := Two.new w2 a b 32
          have nl : w2.heap.size ≠ w.heap.size := by have := (hF.later q2).lt; omega
          have nl2 : w2.heap.size ≠ D := by have := (hD.later q2).lt; omega
          replace hF := (hF.later q2).alloc (.cells #[.int .i64 a, .int .i64 b] 32)
          replace hD := (hD.later q2).alloc (.cells #[.int .i64 a, .int .i64 b] 32)
          replace hbel := hbel.trans (q2.mono hbel.size)
          replace hbel := hbel.alloc hbel.size (.cells #[.int .i64 a, .int .i64 b] 32)
          clear q2
          go_wp2_with fail
          refine (physical_any _ _ _ _ _ _ hF).mono ?_
          rintro e w3 ⟨rfl, q3⟩
          replace hL := hL.later q3
          replace hF := hF.later q3
          replace hD := hD.later q3
          replace hbel := hbel.trans (q3.mono hbel.size)
          clear q3
          generalize w2.heap.size = L at *
          have hC : Ck w3 w.heap.size o ⟨p, a, b⟩ := ⟨hF, unhide hG⟩
          have hE : Ck w3 D o (run o ⟨p, a, b⟩ ys 0) := ⟨hD, unhide hG⟩
          clear hF hD
          go_wp2_with fail
          go_loopw [13] (fun i wr => ∃ k : Nat, i = .int .i64 k ∧ k ≤ ys.length ∧ k ≤ 100 ∧ Ck wr w.heap.size o ⟨p, a, b⟩ ∧ Ck wr D o (run o ⟨p, a, b⟩ ys k) ∧ Two wr L a b ∧ Below w.heap.size w wr) (fun i _ => 100 - (intOf i).toNat)
          case atStart => exact ⟨0, rfl, Nat.zero_le _, by decide, hC, hE, hL, hbel⟩
          case round =>
            clear hC hE hL hbel
            obtain ⟨k2, rfl, hk3, hk4, hC, hE, hL, hbel⟩ := hrel
            by_cases hlt : k2 < ys.length ∧ k2 < 100
            · obtain ⟨hl1, hl2⟩ := hlt
              obtain ⟨z, hz⟩ : ∃ z, Hid (z = ys[k2]) := ⟨ys[k2], Eq.refl _⟩
              obtain ⟨ao', c', e, _, _, hcell⟩ := (unhide Hy).below hbel (Nat.le_refl _)
              injection e with e1 e2 e3
              subst e1 e3
              obtain ⟨bb, of, rfl, c0, c1, c2, c3⟩ := hcell k2 hl1
              rw [← unhide hz] at c0 c1 c2 c3
              have hsz2 := hbel.size
              clear hcell e2
              go_wp2_with fail
              refine (do_any _ _ _ z _ hE).mono ?_
              rintro e w1 ⟨rfl, hK1, m1⟩
              rw [unhide hz, ← run_succ o _ ys k2 hl1] at hK1
              have R1 := hide hK1
              have R2 := hide (hC.mv m1 nd.symm)
              have R3 := hide (hbel.trans (m1.below hsz hsz2))
              have R4 := hide (hL.mv m1 nl2)
              clear c0 c1 c2 c3 hC hE hL hbel m1 hK1
              go_wp2
              go_roundw
              case rel => exact ⟨k2 + 1, by go_num, by omega, by omega, unhide R2, unhide R1, unhide R4, unhide R3⟩
              case measure => simp [intOf]; omega
            · have hm : k2 = min ys.length 100 := by omega
              have hlt' : ys.length ≤ k2 ∨ (k2 < ys.length ∧ 100 ≤ k2) := by omega
              rw [hm] at hE
              have Hm := hide hm
              clear hlt hm
              have hF := hC.at'
              simp only at hF
              rcases hlt' with hq3 | ⟨hq3, hq4⟩
              all_goals
                go_wp2_with fail
                have R1 := fun i : Later wr => (hL.later i.below).c0
                have R2 := fun i : Later wr => (hL.later i.below).c1
                have hLl := hide (fun i : Later wr => last_any _ _ _ _ _ _ (hF.later i.below))
                have hPl := hide (fun i : Later wr => physical_any _ _ _ _ _ _ (hF.later i.below))
                have inst : Nonempty (Later wr) := ⟨⟨wr, Below.refl _ _⟩⟩
                refine wp_region_later (by kernel_rfl) (by kernel_rfl) ?_
                repeat (first
                  | go_big_quiet_step ((go_at_call 18; exact calls_later (unhide hLl _)))
                  | go_big_quiet_step ((go_at_call 17; exact calls_later (unhide hPl _)))
                  | quiet_step (fail))
                refine wpQuiet_nil ?_
                intro W2 hw'
                obtain ⟨⟨W3, q5⟩, rfl⟩ := hw'
                replace hbel := hbel.trans (q5.mono hbel.size)
                replace hE := hE.later q5
                replace hC := hC.later q5
                clear q5 inst R1 R2 hLl hPl hF hL
                have hC : Ck W2 w.heap.size o (run o ⟨p, a, b⟩ ys 0) := hC
                go_wp2_with fail
                go_loopw [14] (fun i wr => ∃ k : Nat, i = .int .i64 k ∧ k ≤ ys.length ∧ k ≤ 100 ∧ Ck wr w.heap.size o (run o ⟨p, a, b⟩ ys k) ∧ Ck wr D o (run o ⟨p, a, b⟩ ys (min ys.length 100)) ∧ Below w.heap.size w wr) (fun i _ => 100 - (intOf i).toNat)
                case atStart => exact ⟨0, rfl, Nat.zero_le _, by decide, hC, hE, hbel⟩
                case round =>
                  clear hC hE hbel
                  obtain ⟨k3, rfl, hk5, hk6, hC, hE, hbel⟩ := hrel
                  by_cases hlt : k3 < ys.length ∧ k3 < 100
                  · obtain ⟨hl1, hl2⟩ := hlt
                    obtain ⟨z, hz⟩ : ∃ z, Hid (z = ys[k3]) := ⟨ys[k3], Eq.refl _⟩
                    obtain ⟨ao', c', e, _, _, hcell⟩ := (unhide Hy).below hbel (Nat.le_refl _)
                    injection e with e1 e2 e3
                    subst e1 e3
                    obtain ⟨bb, of, rfl, c0, c1, c2, c3⟩ := hcell k3 hl1
                    rw [← unhide hz] at c0 c1 c2 c3
                    have hsz2 := hbel.size
                    clear hcell e2
                    go_wp2_with fail
                    refine (do_any _ _ _ z _ hC).mono ?_
                    rintro e w1 ⟨rfl, hK1, m1⟩
                    rw [unhide hz, ← run_succ o _ ys k3 hl1] at hK1
                    have R1 := hide hK1
                    have R2 := hide (hE.mv m1 nd)
                    have R3 := hide (hbel.trans (m1.below (Nat.le_refl _) hsz2))
                    clear c0 c1 c2 c3 hC hE hbel m1 hK1
                    go_wp2
                    go_roundw
                    case rel => exact ⟨k3 + 1, by go_num, by omega, by omega, unhide R1, unhide R2, unhide R3⟩
                    case measure => simp [intOf]; omega
                  · have hm : k3 = min ys.length 100 := by omega
                    have hlt' : ys.length ≤ k3 ∨ (k3 < ys.length ∧ 100 ≤ k3) := by omega
                    rw [hm] at hC
                    clear hlt hm
                    generalize run o ⟨p, a, b⟩ ys (min ys.length 100) = S at *
                    obtain ⟨p', a', b'⟩ := S
                    have hF := hC.at'
                    have hD := hE.at'
                    simp only at hF hD
                    clear hC hE
                    rcases hlt' with hq5 | ⟨hq5, hq6⟩
                    all_goals
                      go_wp2_with fail
                      all_goals
                        refine (alive_any _).mono ?_
                        rintro e w1 ⟨rfl, q1⟩
                        replace hbel := hbel.trans (q1.mono hbel.size)
                        replace hF := hF.later q1
                        replace hD := hD.later q1
                        clear q1
                        go_wp2_with fail
                        refine (last_any _ _ _ _ _ _ hF).mono ?_
                        rintro e w2 ⟨rfl, q1⟩
                        replace hbel := hbel.trans (q1.mono hbel.size)
                        replace hF := hF.later q1
                        replace hD := hD.later q1
                        clear q1
                        go_wp2_with fail
                        refine (last_any _ _ _ _ _ _ hD).mono ?_
                        rintro e w3 ⟨rfl, q1⟩
                        replace hbel := hbel.trans (q1.mono hbel.size)
                        replace hF := hF.later q1
                        replace hD := hD.later q1
                        clear q1
                        go_wp2_with fail
                        refine (physical_any _ _ _ _ _ _ hF).mono ?_
                        rintro e w4 ⟨rfl, q1⟩
                        replace hbel := hbel.trans (q1.mono hbel.size)
                        replace hD := hD.later q1
                        clear q1 hF
                        go_wp2_with fail
                        refine (physical_any _ _ _ _ _ _ hD).mono ?_
                        rintro e w5 ⟨rfl, q1⟩
                        have HB := hide (hbel.trans (q1.mono hbel.size))
                        clear q1 hbel hD
                        go_wp2
                        go_ret
                        exact ⟨rfl, unhide HB⟩
end

end Go.Proofs.Ytjjnejknmgipiaa
