/-
  The law ClockHears: its walk.
-/
import Derived.Test.YtjjnejknmgipiaaAct
namespace Go.Proofs.Ytjjnejknmgipiaa
open Go.RowKit
set_option linter.unusedVariables false

theorem nowS_cases (p a b : Int) (hb : 0 ≤ b) : (nowS p a b = (0, 0, 42) ∧ nowL p a b = (a, b) ∧ (rightB a b = true → a = 1099511627776)) ∨
    ∃ x y, nowS p a b = (x, y, 0) ∧ nowL p a b = (x, y) ∧ lessB a b x y = true ∧ (rightB a b = true → p ≤ x) := by
  have hl : ∀ S, nowS p a b = S → nowL p a b = if S.2.2 = 0 then (S.1, S.2.1) else (a, b) := fun S h => by unfold nowL; rw [h]
  cases h : lessB a b p 0
  · have hn : nowS p a b = if (nxt a b).2.2 = 0 then nxt a b else (0, 0, 42) := by unfold nowS; rw [h]; rfl
    have h' := (less_not _ _ _ _).1 h
    rcases nxt_cases a b with ⟨hr, hx⟩ | ⟨_, ha, hx⟩ | ⟨hr, x, y, hx, _, hlt, _⟩
    · rw [hx, if_neg (by decide)] at hn
      exact .inl ⟨hn, (hl _ hn).trans (if_neg (by decide)), fun e => by rw [hr] at e; cases e⟩
    · rw [hx, if_neg (by decide)] at hn
      exact .inl ⟨hn, (hl _ hn).trans (if_neg (by decide)), fun _ => ha⟩
    · rw [hx, if_pos rfl] at hn
      have := (less_iff _ _ _ _).1 hlt
      exact .inr ⟨x, y, hn, (hl _ hn).trans (if_pos rfl), hlt, fun _ => by omega⟩
  · have hn : nowS p a b = (p, 0, 0) := by unfold nowS; rw [h]; rfl
    exact .inr ⟨p, 0, hn, (hl _ hn).trans (if_pos rfl), h, fun _ => Int.le_refl _⟩

section
set_option maxRecDepth 100000

set_option maxHeartbeats 600000 in
theorem walkClockHears {w : World} (o : Int) (wo : (Lit.int .i64 o).wf = true) (v : Value) (xs : List ActV) (hx : Acts w v xs) (u : Value) (z : Int × Int) (hz : Stm u z) :
    Calls Try.prog 7 #[.int .i64 o, v, u] w fun e w' => e = .returned (.bool true) ∧ Below w.heap.size w w' := by
  obtain ⟨c, d⟩ := z
  obtain ⟨rfl⟩ := hz
  simp only
  have Hx := hide hx
  obtain ⟨ao, cp, rfl, hxc, hxm, _⟩ := hx
  unfold maxLen at hxm
  have s0 := Two.new w c d 32
  have hB := (Below.refl w.heap.size w).alloc (Nat.le_refl _) (.cells #[.int .i64 c, .int .i64 d] 32)
  by_cases ho : o < 0 ∨ 1099511627776 < o
  · have hc : o < 0 ∨ (¬ o < 0 ∧ 1099511627776 < o) := by omega
    have hN := fun w => new_no o ho w
    clear ho s0
    rcases hc with hc | ⟨hc, hc2⟩
    all_goals
      go_enter Try.func7, Try.ntmps7
      go_wp2_with fail
      refine (hN _).mono ?_
      rintro e w1 ⟨rfl, rfl⟩
      go_wp2_with fail
      refine (alive_any _).mono ?_
      rintro e w2 ⟨rfl, b2⟩
      have HB := hide (hB.trans (b2.mono hB.size))
      clear hB b2
      go_wp2
      go_ret
      exact ⟨rfl, unhide HB⟩
  · obtain ⟨o0, o1⟩ : 0 ≤ o ∧ o ≤ 1099511627776 := by omega
    clear ho
    go_enter Try.func7, Try.ntmps7
    go_wp2_with fail
    refine (new_yes o o0 o1 _).mono ?_
    rintro e w1 ⟨rfl, rfl⟩
    have hk := Four.new (w.alloc (.cells #[.int .i64 c, .int .i64 d] 32)) o 0 0 0 53
    replace s0 := s0.alloc (.cells #[.int .i64 o, .int .i64 0, .int .i64 0, .int .i64 0] 53)
    replace hB := hB.alloc hB.size (.cells #[.int .i64 o, .int .i64 0, .int .i64 0, .int .i64 0] 53)
    have e : (w.alloc (.cells #[.int .i64 c, .int .i64 d] 32)).heap.size = w.heap.size + 1 := by simp
    rw [e] at hk
    rw [e]
    clear e
    have n0 : w.heap.size ≠ w.heap.size + 1 := by omega
    have g0 : Good o 0 0 0 := ⟨o0, o1, by decide, by decide, by decide, by decide, by decide, by decide⟩
    have K0 : Ck _ (w.heap.size + 1) o ⟨0, 0, 0⟩ := ⟨hk, g0⟩
    generalize (w.alloc (.cells #[.int .i64 c, .int .i64 d] 32)).alloc (.cells #[.int .i64 o, .int .i64 0, .int .i64 0, .int .i64 0] 53) = W0 at *
    clear hk g0
    go_wp2_with fail
    go_loopw [9] (fun i wr => ∃ (k : Nat) (s : St), i = .int .i64 k ∧ k ≤ xs.length ∧ k ≤ 100 ∧ Ck wr (w.heap.size + 1) o s ∧ Two wr w.heap.size c d ∧ Below w.heap.size w wr) (fun i _ => 100 - (intOf i).toNat)
    case atStart => exact ⟨0, _, rfl, Nat.zero_le _, by decide, K0, s0, hB⟩
    case round =>
      clear K0 s0 hB
      obtain ⟨k, s, rfl, hk1, hk2, hK, hs, hbel⟩ := hrel
      by_cases hlt : k < xs.length ∧ k < 100
      · obtain ⟨hl1, hl2⟩ := hlt
        obtain ⟨z, hz⟩ : ∃ z, Hid (z = xs[k]) := ⟨xs[k], Eq.refl _⟩
        obtain ⟨ao', c', e, _, _, hcell⟩ := (unhide Hx).below hbel (Nat.le_refl _)
        injection e with e1 e2 e3
        subst e1 e3
        obtain ⟨b, of, rfl, c0, c1, c2, c3⟩ := hcell k hl1
        rw [← unhide hz] at c0 c1 c2 c3
        have hsz := hbel.size
        clear hcell e2
        go_wp2_with fail
        refine (do_any _ _ _ z _ hK).mono ?_
        rintro e w1 ⟨rfl, hK1, m1⟩
        have R1 := hide hK1
        have R2 := hide (hs.mv m1 n0)
        have R3 := hide (hbel.trans (m1.below (Nat.le_succ _) hsz))
        clear c0 c1 c2 c3 hK hs hbel m1 hK1
        go_wp2
        go_roundw
        case rel => exact ⟨k + 1, _, by go_num, by omega, by omega, unhide R1, unhide R2, unhide R3⟩
        case measure => simp [intOf]; omega
      · obtain ⟨p, a, b⟩ := s
        obtain ⟨hF, hG⟩ := hK
        simp only at hF hG
        have hG' := hide hG
        obtain ⟨_, _, p0, p1, a0, a1, b0, b1⟩ := hG
        have hlt' : xs.length ≤ k ∨ (k < xs.length ∧ 100 ≤ k) := by omega
        clear hlt
        have hH := fun y h => hear_any (w.heap.size + 1) o p a b c d y h ⟨o0, o1⟩ ⟨p0, p1⟩
        have hR := fun w => right_any c d w
        have n1 := n0.symm
        have hwL := hbel.size
        cases hr : rightB c d
        · have e1 : hearE o p c d = 31 := by unfold hearE; rw [hr]; rfl
          have e2 : hearL o p a b c d = (a, b) := by unfold hearL; rw [e1]; rfl
          rw [e1, e2] at hH
          rw [hr] at hR
          clear hr e1 e2
          rcases hlt' with hq | ⟨hq, hq2⟩
          all_goals
            go_wp2_with fail
            refine (last_any _ _ _ _ _ _ hF).mono ?_
            rintro e w1 ⟨rfl, q1⟩
            have n2 : w1.heap.size ≠ w.heap.size + 1 := by have := (hF.later q1).lt; omega
            have t0 := (hs.later q1).alloc (.cells #[.int .i64 a, .int .i64 b] 32)
            have t1 := Two.new w1 a b 32
            replace hF := (hF.later q1).alloc (.cells #[.int .i64 a, .int .i64 b] 32)
            replace hbel := hbel.trans (q1.mono hbel.size)
            replace hbel := hbel.alloc hbel.size (.cells #[.int .i64 a, .int .i64 b] 32)
            have c0 := t0.c0
            have c1 := t0.c1
            clear q1 hs
            go_wp2_with fail
            refine (hH _ hF).mono ?_
            rintro e w2 ⟨rfl, hF2, m2⟩
            replace t0 := t0.mv m2 n0
            replace t1 := t1.mv m2 n2
            replace hbel := hbel.trans (m2.below (Nat.le_succ _) hbel.size)
            clear m2 hF c0 c1
            have c0 := t0.c0
            have c1 := t0.c1
            go_wp2_with fail
            refine (hR _).mono ?_
            rintro e W ⟨rfl, q3⟩
            replace t0 := t0.later q3
            replace t1 := t1.later q3
            have hF := hF2.later q3
            replace hbel := hbel.trans (q3.mono hbel.size)
            clear hF2 q3 c0 c1
            go_wp2_with fail
            have R1 := fun i : Later W => (t1.later i.below).c0
            have R2 := fun i : Later W => (t1.later i.below).c1
            have hLl := hide (fun i : Later W => last_any _ _ _ _ _ _ (hF.later i.below))
            have inst : Nonempty (Later W) := ⟨⟨W, Below.refl _ _⟩⟩
            have HB := hide hbel
            clear hF hbel t0 t1 hH hR
            refine wp_region_later (by kernel_rfl) (by kernel_rfl) ?_
            repeat (first
              | go_big_quiet_step ((go_at_call 10; exact calls_later (alive_any _)))
              | go_big_quiet_step ((go_at_call 18; exact calls_later (unhide hLl _)))
              | quiet_step (fail))
            refine wpQuiet_nil ?_
            intro w' hw'
            obtain ⟨i, rfl⟩ := hw'
            go_wp2
            go_ret
            exact ⟨rfl, (unhide HB).trans (i.below.mono (unhide HB).size)⟩
        · have hq := (right_iff _ _).1 hr
          obtain ⟨r0, r1, r2, r3⟩ := hq
          rw [hr] at hR
          by_cases hsk : p + o < c
          · have e1 : hearE o p c d = 41 := by unfold hearE; rw [hr, if_pos rfl, if_pos hsk]
            have e2 : hearL o p a b c d = (a, b) := by unfold hearL; rw [e1]; rfl
            rw [e1, e2] at hH
            clear hr e1 e2
            rcases hlt' with hq | ⟨hq, hq2⟩
            all_goals
              go_wp2_with fail
              refine (last_any _ _ _ _ _ _ hF).mono ?_
              rintro e w1 ⟨rfl, q1⟩
              have n2 : w1.heap.size ≠ w.heap.size + 1 := by have := (hF.later q1).lt; omega
              have t0 := (hs.later q1).alloc (.cells #[.int .i64 a, .int .i64 b] 32)
              have t1 := Two.new w1 a b 32
              replace hF := (hF.later q1).alloc (.cells #[.int .i64 a, .int .i64 b] 32)
              replace hbel := hbel.trans (q1.mono hbel.size)
              replace hbel := hbel.alloc hbel.size (.cells #[.int .i64 a, .int .i64 b] 32)
              have c0 := t0.c0
              have c1 := t0.c1
              clear q1 hs
              go_wp2_with fail
              refine (hH _ hF).mono ?_
              rintro e w2 ⟨rfl, hF2, m2⟩
              replace t0 := t0.mv m2 n0
              replace t1 := t1.mv m2 n2
              replace hbel := hbel.trans (m2.below (Nat.le_succ _) hbel.size)
              clear m2 hF c0 c1
              have c0 := t0.c0
              have c1 := t0.c1
              go_wp2_with fail
              refine (hR _).mono ?_
              rintro e W ⟨rfl, q3⟩
              replace t0 := t0.later q3
              replace t1 := t1.later q3
              have hF := hF2.later q3
              replace hbel := hbel.trans (q3.mono hbel.size)
              clear hF2 q3 c0 c1
              go_wp2_with fail
              have R1 := fun i : Later W => (t0.later i.below).c0
              have hLl := hide (fun i : Later W => physical_any _ _ _ _ _ _ (hF.later i.below))
              have inst : Nonempty (Later W) := ⟨⟨W, Below.refl _ _⟩⟩
              refine wp_region_later (by kernel_rfl) (by kernel_rfl) ?_
              repeat (first
                | go_big_quiet_step ((go_at_call 17; exact calls_later (unhide hLl _)))
                | quiet_step (fail))
              refine wpQuiet_nil ?_
              intro W2 hw'
              obtain ⟨⟨W3, q5⟩, rfl⟩ := hw'
              replace t0 := t0.later q5
              replace t1 := t1.later q5
              replace hF := hF.later q5
              replace hbel := hbel.trans (q5.mono hbel.size)
              clear q5 inst R1 hLl hH hR
              go_wp2_with fail
              have R1 := fun i : Later W2 => (t1.later i.below).c0
              have R2 := fun i : Later W2 => (t1.later i.below).c1
              have hLl := hide (fun i : Later W2 => last_any _ _ _ _ _ _ (hF.later i.below))
              have inst : Nonempty (Later W2) := ⟨⟨W2, Below.refl _ _⟩⟩
              have HB := hide hbel
              clear hF hbel t0 t1
              refine wp_region_later (by kernel_rfl) (by kernel_rfl) ?_
              repeat (first
                | go_big_quiet_step ((go_at_call 10; exact calls_later (alive_any _)))
                | go_big_quiet_step ((go_at_call 18; exact calls_later (unhide hLl _)))
                | quiet_step (fail))
              refine wpQuiet_nil ?_
              intro w' hw'
              obtain ⟨i, rfl⟩ := hw'
              go_wp2
              go_ret
              exact ⟨rfl, (unhide HB).trans (i.below.mono (unhide HB).size)⟩
          · have hsk' : c ≤ p + o := by omega
            have e1 : hearE o p c d = 0 := by unfold hearE; rw [hr, if_pos rfl, if_neg hsk]
            obtain ⟨m, n, e2, hmn⟩ : ∃ m n, hearL o p a b c d = (m, n) ∧ ((m = c ∧ n = d ∧ lessB a b c d = true) ∨ (m = a ∧ n = b ∧ lessB a b c d = false)) := by
              unfold hearL
              rw [e1, if_pos rfl]
              cases hl : lessB a b c d
              · exact ⟨_, _, rfl, .inr ⟨rfl, rfl, rfl⟩⟩
              · exact ⟨_, _, rfl, .inl ⟨rfl, rfl, rfl⟩⟩
            have hgood := (unhide hG').hear c d
            rw [e2] at hgood
            rw [e1, e2] at hH
            have hrmn : rightB m n = true := (right_iff _ _).2 ⟨hgood.a0, hgood.a1, hgood.b0, hgood.b1⟩
            have hNn := fun y h => now_any (w.heap.size + 1) o p m n y h hgood.b0
            have hfin : ∀ x y, lessB m n x y = true → lessB c d x y = true ∧ lessB a b x y = true := by
              intro x y hl
              have hl := (less_iff _ _ _ _).1 hl
              rcases hmn with ⟨rfl, rfl, hab⟩ | ⟨rfl, rfl, hab⟩
              · have hab := (less_iff _ _ _ _).1 hab
                exact ⟨(less_iff _ _ _ _).2 hl, (less_iff _ _ _ _).2 (by omega)⟩
              · have hab := (less_not _ _ _ _).1 hab
                exact ⟨(less_iff _ _ _ _).2 (by omega), (less_iff _ _ _ _).2 hl⟩
            have hcase : ∃ x y e x' y' : Int, nowS p m n = (x, y, e) ∧ nowL p m n = (x', y') ∧ (e = 42 ∨ (e = 0 ∧ lessB c d x y = true ∧ lessB a b x y = true ∧ p ≤ x)) := by
              rcases nowS_cases p m n hgood.b0 with ⟨q1, q2, _⟩ | ⟨x, y, q1, q2, q3, q4⟩
              · exact ⟨_, _, _, _, _, q1, q2, .inl rfl⟩
              · exact ⟨_, _, _, _, _, q1, q2, .inr ⟨rfl, (hfin x y q3).1, (hfin x y q3).2, q4 hrmn⟩⟩
            obtain ⟨x, y, e, x', y', hn1, hn2, hcs⟩ := hcase
            rw [hn1, hn2] at hNn
            clear hr e1 e2 hgood hmn hrmn hfin hn1 hn2 hsk
            have hL1 := fun w => less_any c d x y w
            have hL2 := fun w => less_any a b x y w
            rcases hcs with rfl | ⟨rfl, hl1, hl2, hpx⟩
            · clear hL1 hL2
              rcases hlt' with hq | ⟨hq, hq2⟩
              all_goals
                go_wp2_with fail
                refine (last_any _ _ _ _ _ _ hF).mono ?_
                rintro e w1 ⟨rfl, q1⟩
                have n2 : w1.heap.size ≠ w.heap.size + 1 := by have := (hF.later q1).lt; omega
                have t0 := (hs.later q1).alloc (.cells #[.int .i64 a, .int .i64 b] 32)
                have t1 := Two.new w1 a b 32
                replace hF := (hF.later q1).alloc (.cells #[.int .i64 a, .int .i64 b] 32)
                replace hbel := hbel.trans (q1.mono hbel.size)
                replace hbel := hbel.alloc hbel.size (.cells #[.int .i64 a, .int .i64 b] 32)
                have c0 := t0.c0
                have c1 := t0.c1
                clear q1 hs
                go_wp2_with fail
                refine (hH _ hF).mono ?_
                rintro e w2 ⟨rfl, hF2, m2⟩
                replace t0 := t0.mv m2 n0
                replace t1 := t1.mv m2 n2
                replace hbel := hbel.trans (m2.below (Nat.le_succ _) hbel.size)
                clear m2 hF c0 c1
                have c0 := t0.c0
                have c1 := t0.c1
                go_wp2_with fail
                refine (hR _).mono ?_
                rintro e W ⟨rfl, q3⟩
                replace t0 := t0.later q3
                replace t1 := t1.later q3
                have hF := hF2.later q3
                replace hbel := hbel.trans (q3.mono hbel.size)
                clear hF2 q3 c0 c1
                go_wp2_with fail
                have R1 := fun i : Later W => (t0.later i.below).c0
                have hLl := hide (fun i : Later W => physical_any _ _ _ _ _ _ (hF.later i.below))
                have inst : Nonempty (Later W) := ⟨⟨W, Below.refl _ _⟩⟩
                refine wp_region_later (by kernel_rfl) (by kernel_rfl) ?_
                repeat (first
                  | go_big_quiet_step ((go_at_call 17; exact calls_later (unhide hLl _)))
                  | quiet_step (fail))
                refine wpQuiet_nil ?_
                intro W2 hw'
                obtain ⟨⟨W3, q5⟩, rfl⟩ := hw'
                replace t0 := t0.later q5
                replace t1 := t1.later q5
                replace hF := hF.later q5
                replace hbel := hbel.trans (q5.mono hbel.size)
                clear q5 inst R1 hLl hH hR
                go_wp2_with fail
                refine (hNn _ hF).mono ?_
                rintro e' w4 ⟨rfl, hF4, m4⟩
                replace t0 := (t0.mv m4 n0).alloc (.cells #[.int .i64 x, .int .i64 y] 32)
                replace t1 := (t1.mv m4 n2).alloc (.cells #[.int .i64 x, .int .i64 y] 32)
                have t2 := Two.new w4 x y 32
                replace hF := hF4.alloc (.cells #[.int .i64 x, .int .i64 y] 32)
                replace hbel := hbel.trans (m4.below (Nat.le_succ _) hbel.size)
                replace hbel := hbel.alloc hbel.size (.cells #[.int .i64 x, .int .i64 y] 32)
                clear hF4 m4 hNn
                go_wp2_with fail
                generalize w4.heap.size = n4 at *
                generalize w1.heap.size = n1' at *
                generalize w4.alloc (.cells #[.int .i64 x, .int .i64 y] 32) = W5 at *
                have R1 := fun i : Later W5 => (t0.later i.below).c0
                have R2 := fun i : Later W5 => (t0.later i.below).c1
                have R3 := fun i : Later W5 => (t1.later i.below).c0
                have R4 := fun i : Later W5 => (t1.later i.below).c1
                have R5 := fun i : Later W5 => (t2.later i.below).c0
                have R6 := fun i : Later W5 => (t2.later i.below).c1
                have hLl := hide (fun i : Later W5 => physical_any _ _ _ _ _ _ (hF.later i.below))
                have inst : Nonempty (Later W5) := ⟨⟨W5, Below.refl _ _⟩⟩
                have HB := hide hbel
                clear hF hbel t0 t1 t2
                refine wp_region_later (by kernel_rfl) (by kernel_rfl) ?_
                repeat (first
                  | go_big_quiet_step ((go_at_call 10; exact calls_later (alive_any _)))
                  | quiet_step (fail))
                refine wpQuiet_nil ?_
                intro w' hw'
                obtain ⟨i, rfl⟩ := hw'
                go_wp2
                go_ret
                exact ⟨rfl, (unhide HB).trans (i.below.mono (unhide HB).size)⟩
            · rw [hl1] at hL1
              rw [hl2] at hL2
              clear hl1 hl2
              rcases hlt' with hq | ⟨hq, hq2⟩
              all_goals
                go_wp2_with fail
                refine (last_any _ _ _ _ _ _ hF).mono ?_
                rintro e w1 ⟨rfl, q1⟩
                have n2 : w1.heap.size ≠ w.heap.size + 1 := by have := (hF.later q1).lt; omega
                have t0 := (hs.later q1).alloc (.cells #[.int .i64 a, .int .i64 b] 32)
                have t1 := Two.new w1 a b 32
                replace hF := (hF.later q1).alloc (.cells #[.int .i64 a, .int .i64 b] 32)
                replace hbel := hbel.trans (q1.mono hbel.size)
                replace hbel := hbel.alloc hbel.size (.cells #[.int .i64 a, .int .i64 b] 32)
                have c0 := t0.c0
                have c1 := t0.c1
                clear q1 hs
                go_wp2_with fail
                refine (hH _ hF).mono ?_
                rintro e w2 ⟨rfl, hF2, m2⟩
                replace t0 := t0.mv m2 n0
                replace t1 := t1.mv m2 n2
                replace hbel := hbel.trans (m2.below (Nat.le_succ _) hbel.size)
                clear m2 hF c0 c1
                have c0 := t0.c0
                have c1 := t0.c1
                go_wp2_with fail
                refine (hR _).mono ?_
                rintro e W ⟨rfl, q3⟩
                replace t0 := t0.later q3
                replace t1 := t1.later q3
                have hF := hF2.later q3
                replace hbel := hbel.trans (q3.mono hbel.size)
                clear hF2 q3 c0 c1
                go_wp2_with fail
                have R1 := fun i : Later W => (t0.later i.below).c0
                have hLl := hide (fun i : Later W => physical_any _ _ _ _ _ _ (hF.later i.below))
                have inst : Nonempty (Later W) := ⟨⟨W, Below.refl _ _⟩⟩
                refine wp_region_later (by kernel_rfl) (by kernel_rfl) ?_
                repeat (first
                  | go_big_quiet_step ((go_at_call 17; exact calls_later (unhide hLl _)))
                  | quiet_step (fail))
                refine wpQuiet_nil ?_
                intro W2 hw'
                obtain ⟨⟨W3, q5⟩, rfl⟩ := hw'
                replace t0 := t0.later q5
                replace t1 := t1.later q5
                replace hF := hF.later q5
                replace hbel := hbel.trans (q5.mono hbel.size)
                clear q5 inst R1 hLl hH hR
                go_wp2_with fail
                refine (hNn _ hF).mono ?_
                rintro e' w4 ⟨rfl, hF4, m4⟩
                replace t0 := (t0.mv m4 n0).alloc (.cells #[.int .i64 x, .int .i64 y] 32)
                replace t1 := (t1.mv m4 n2).alloc (.cells #[.int .i64 x, .int .i64 y] 32)
                have t2 := Two.new w4 x y 32
                replace hF := hF4.alloc (.cells #[.int .i64 x, .int .i64 y] 32)
                replace hbel := hbel.trans (m4.below (Nat.le_succ _) hbel.size)
                replace hbel := hbel.alloc hbel.size (.cells #[.int .i64 x, .int .i64 y] 32)
                clear hF4 m4 hNn
                go_wp2_with fail
                generalize w4.heap.size = n4 at *
                generalize w1.heap.size = n1' at *
                generalize w4.alloc (.cells #[.int .i64 x, .int .i64 y] 32) = W5 at *
                have R1 := fun i : Later W5 => (t0.later i.below).c0
                have R2 := fun i : Later W5 => (t0.later i.below).c1
                have R3 := fun i : Later W5 => (t1.later i.below).c0
                have R4 := fun i : Later W5 => (t1.later i.below).c1
                have R5 := fun i : Later W5 => (t2.later i.below).c0
                have R6 := fun i : Later W5 => (t2.later i.below).c1
                have hLl := hide (fun i : Later W5 => physical_any _ _ _ _ _ _ (hF.later i.below))
                have inst : Nonempty (Later W5) := ⟨⟨W5, Below.refl _ _⟩⟩
                have HB := hide hbel
                clear hF hbel t0 t1 t2
                refine wp_region_later (by kernel_rfl) (by kernel_rfl) ?_
                repeat (first
                  | go_big_quiet_step ((go_at_call 10; exact calls_later (alive_any _)))
                  | go_big_quiet_step ((go_at_call 19; with_reducible exact calls_later (hL1 _)))
                  | go_big_quiet_step ((go_at_call 19; with_reducible exact calls_later (hL2 _)))
                  | go_big_quiet_step ((go_at_call 17; exact calls_later (unhide hLl _)))
                  | quiet_step (fail))
                refine wpQuiet_nil ?_
                intro w' hw'
                obtain ⟨i, rfl⟩ := hw'
                go_wp2
                go_ret
                exact ⟨rfl, (unhide HB).trans (i.below.mono (unhide HB).size)⟩
end

end Go.Proofs.Ytjjnejknmgipiaa
