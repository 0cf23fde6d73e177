/-
  The law ClockRises: its walk.
-/
import Derived.Test.YtjjnejknmgipiaaAct
namespace Go.Proofs.Ytjjnejknmgipiaa
open Go.RowKit
set_option linter.unusedVariables false

theorem nowS_cases2 (p a b : Int) (hb : 0 ≤ b) : (nowS p a b = (0, 0, 42) ∧ nowL p a b = (a, b) ∧ (rightB a b = true → a = 1099511627776)) ∨
    ∃ x y, nowS p a b = (x, y, 0) ∧ nowL p a b = (x, y) ∧ lessB a b x y = true ∧ (x = p ∨ x ≤ a + 1) := by
  have hl : ∀ S, nowS p a b = S → nowL p a b = if S.2.2 = 0 then (S.1, S.2.1) else (a, b) := fun S h => by unfold nowL; rw [h]
  cases h : lessB a b p 0
  · have hn : nowS p a b = if (nxt a b).2.2 = 0 then nxt a b else (0, 0, 42) := by unfold nowS; rw [h]; rfl
    have h' := (less_not _ _ _ _).1 h
    by_cases hr : rightB a b = true
    · by_cases hb1 : b = 65535
      · by_cases ha : a < 1099511627776
        · have hx : nxt a b = (a + 1, 0, 0) := by unfold nxt; rw [if_pos hr, if_pos hb1, if_pos ha]
          rw [hx, if_pos rfl] at hn
          exact .inr ⟨a + 1, 0, hn, (hl _ hn).trans (if_pos rfl), (less_iff _ _ _ _).2 (by omega), .inr (Int.le_refl _)⟩
        · have hx : nxt a b = (0, 0, 31) := by unfold nxt; rw [if_pos hr, if_pos hb1, if_neg ha]
          rw [hx, if_neg (by decide)] at hn
          have := (right_iff _ _).1 hr
          exact .inl ⟨hn, (hl _ hn).trans (if_neg (by decide)), fun _ => by omega⟩
      · have hx : nxt a b = (a, b + 1, 0) := by unfold nxt; rw [if_pos hr, if_neg hb1]
        rw [hx, if_pos rfl] at hn
        exact .inr ⟨a, b + 1, hn, (hl _ hn).trans (if_pos rfl), (less_iff _ _ _ _).2 (by omega), .inr (by omega)⟩
    · have hx : nxt a b = (0, 0, 31) := by unfold nxt; rw [if_neg hr]
      rw [hx, if_neg (by decide)] at hn
      exact .inl ⟨hn, (hl _ hn).trans (if_neg (by decide)), fun e => absurd e hr⟩
  · have hn : nowS p a b = (p, 0, 0) := by unfold nowS; rw [h]; rfl
    exact .inr ⟨p, 0, hn, (hl _ hn).trans (if_pos rfl), h, .inl rfl⟩

theorem hearE_cases (o p a b c d : Int) : (hearE o p c d = 31 ∧ hearL o p a b c d = (a, b)) ∨ (hearE o p c d = 41 ∧ hearL o p a b c d = (a, b)) ∨
    (hearE o p c d = 0 ∧ c ≤ p + o ∧ ∃ X Y, hearL o p a b c d = (X, Y) ∧ (X ≤ a ∨ X ≤ c) ∧
      ∀ w, Calls Try.prog 21 #[.agg #[.int .i64 a, .int .i64 b], .agg #[.int .i64 c, .int .i64 d]] w fun e w' => e = .returned (.agg #[.int .i64 X, .int .i64 Y]) ∧ Below w.heap.size w w') := by
  cases hr : rightB c d
  · have e1 : hearE o p c d = 31 := by unfold hearE; rw [hr]; rfl
    exact .inl ⟨e1, by unfold hearL; rw [e1]; rfl⟩
  · by_cases hs : p + o < c
    · have e1 : hearE o p c d = 41 := by unfold hearE; rw [hr, if_pos rfl, if_pos hs]
      exact .inr (.inl ⟨e1, by unfold hearL; rw [e1]; rfl⟩)
    · have e1 : hearE o p c d = 0 := by unfold hearE; rw [hr, if_pos rfl, if_neg hs]
      refine .inr (.inr ⟨e1, by omega, ?_⟩)
      cases hl : lessB a b c d
      · exact ⟨a, b, by unfold hearL; rw [e1, if_pos rfl, hl]; rfl, .inl (Int.le_refl _), fun w => by have := max_any a b c d w; rw [hl] at this; exact this⟩
      · exact ⟨c, d, by unfold hearL; rw [e1, if_pos rfl, hl]; rfl, .inr (Int.le_refl _), fun w => by have := max_any a b c d w; rw [hl] at this; exact this⟩

/-- An act of the script lies in block b. -/
structure ActAt (w : World) (b o k : Nat) (z : ActV) : Prop where
  c0 : w.cell? ⟨b, o + k * 4, none⟩ = some (.int .i64 z.kind)
  c1 : w.cell? ⟨b, o + k * 4 + 1, none⟩ = some (.int .i64 z.x)
  c2 : w.cell? ⟨b, o + k * 4 + 2, none⟩ = some (.int .i64 z.c)
  c3 : w.cell? ⟨b, o + k * 4 + 3, none⟩ = some (.int .i64 z.d)
theorem ActAt.later {w w' : World} {B b o k : Nat} {z : ActV} (h : ActAt w b o k z) (hb : Below B w w') (hB : w.heap.size ≤ B) : ActAt w' b o k z := by
  have hlt : b < B := Nat.lt_of_lt_of_le (World.block_lt_of_cell? w _ h.c0) hB
  exact ⟨(hb.cell (p := ⟨b, o + k * 4, none⟩) hlt).trans h.c0, (hb.cell (p := ⟨b, o + k * 4 + 1, none⟩) hlt).trans h.c1, (hb.cell (p := ⟨b, o + k * 4 + 2, none⟩) hlt).trans h.c2, (hb.cell (p := ⟨b, o + k * 4 + 3, none⟩) hlt).trans h.c3⟩
theorem ActAt.mv {w w' : World} {M b o k : Nat} {z : ActV} (h : ActAt w b o k z) (hm : Mv M w w') (hn : b ≠ M) : ActAt w' b o k z := by
  have hlt : b < w.heap.size := World.block_lt_of_cell? w _ h.c0
  exact ⟨(hm.cell (p := ⟨b, o + k * 4, none⟩) hlt hn).trans h.c0, (hm.cell (p := ⟨b, o + k * 4 + 1, none⟩) hlt hn).trans h.c1, (hm.cell (p := ⟨b, o + k * 4 + 2, none⟩) hlt hn).trans h.c2, (hm.cell (p := ⟨b, o + k * 4 + 3, none⟩) hlt hn).trans h.c3⟩

section
set_option maxRecDepth 100000

set_option maxHeartbeats 4000000 in
theorem walkClockRises {w : World} (o : Int) (wo : (Lit.int .i64 o).wf = true) (v : Value) (xs : List ActV) (hx : Acts w v xs) :
    Calls Try.prog 4 #[.int .i64 o, v] w fun e w' => e = .returned (.bool true) ∧ Below w.heap.size w w' := by
  have Hx := hide hx
  obtain ⟨ao, cp, rfl, hxc, hxm, _⟩ := hx
  unfold maxLen at hxm
  by_cases ho : o < 0 ∨ 1099511627776 < o
  · have hN := fun w => new_no o ho w
    clear ho
    go_enter Try.func4, Try.ntmps4
    go_wp2_with fail
    refine (hN _).mono ?_
    rintro e w1 ⟨rfl, rfl⟩
    go_wp2_with fail
    refine (alive_any _).mono ?_
    rintro e w2 ⟨rfl, b2⟩
    have HB := hide b2
    clear b2
    go_wp2
    go_ret
    exact ⟨rfl, unhide HB⟩
  · obtain ⟨o0, o1⟩ : 0 ≤ o ∧ o ≤ 1099511627776 := by omega
    clear ho
    go_enter Try.func4, Try.ntmps4
    go_wp2_with fail
    refine (new_yes o o0 o1 _).mono ?_
    rintro e w1 ⟨rfl, rfl⟩
    have hk := (Four.new w o 0 0 0 53).alloc (.cells #[.int .i64 0, .int .i64 0] 32)
    have hH := Two.new (w.alloc (.cells #[.int .i64 o, .int .i64 0, .int .i64 0, .int .i64 0] 53)) 0 0 32
    have hB := ((Below.refl w.heap.size w).alloc (Nat.le_refl _) (.cells #[.int .i64 o, .int .i64 0, .int .i64 0, .int .i64 0] 53)).alloc (by simp) (.cells #[.int .i64 0, .int .i64 0] 32)
    have e : (w.alloc (.cells #[.int .i64 o, .int .i64 0, .int .i64 0, .int .i64 0] 53)).heap.size = w.heap.size + 1 := by simp
    rw [e] at hH
    have g0 : Good o 0 0 0 := ⟨o0, o1, by decide, by decide, by decide, by decide, by decide, by decide⟩
    have n0 : w.heap.size + 1 ≠ w.heap.size := by omega
    go_wp2_with fail
    generalize (w.alloc (.cells #[.int .i64 o, .int .i64 0, .int .i64 0, .int .i64 0] 53)).alloc (.cells #[.int .i64 0, .int .i64 0] 32) = W0 at *
    go_loopw [8, 9] (fun f i wr => ∃ (k : Nat) (p a b : Int), i = .int .i64 k ∧ f = .int .i64 p ∧ k ≤ xs.length ∧ k ≤ 100 ∧ Four wr w.heap.size o p a b ∧ Hid (Good o p a b) ∧ Hid (a ≤ p + o + k) ∧ Two wr (w.heap.size + 1) a b ∧ Below w.heap.size w wr) (fun _ i _ => 100 - (intOf i).toNat)
    case atStart => exact ⟨0, 0, 0, 0, rfl, rfl, Nat.zero_le _, by decide, hk, hide g0, hide (by simp; omega), hH, hB⟩
    case round =>
      clear hk hH hB g0 e
      obtain ⟨k, p, a, b, rfl, rfl, hk1, hk2, hF, hG, hA, hH, hbel⟩ := hrel
      obtain ⟨_, _, p0, p1, a0, a1, b0, b1⟩ := unhide hG
      by_cases hlt : k < xs.length ∧ k < 100
      · obtain ⟨hl1, hl2⟩ := hlt
        obtain ⟨z, hz⟩ : ∃ z, Hid (z = xs[k]) := ⟨xs[k], Eq.refl _⟩
        obtain ⟨ao', c', e, _, _, hcell⟩ := (unhide Hx).below hbel (Nat.le_refl _)
        injection e with e1 e2 e3
        subst e1 e3
        obtain ⟨bb, of, rfl, c0, c1, c2, c3⟩ := hcell k hl1
        rw [← unhide hz] at c0 c1 c2 c3
        have hC : ActAt wr bb of k z := ⟨c0, c1, c2, c3⟩
        have hbb : bb ≠ w.heap.size := by
          obtain ⟨_, _, e', _, _, hc'⟩ := unhide Hx
          injection e' with e1' _ _
          obtain ⟨_, _, e2', c', _⟩ := hc' k hl1
          rw [e2'] at e1'
          injection e1' with e1'
          injection e1' with e1'
          have := World.block_lt_of_cell? w _ c'
          simp only at this
          omega
        clear hcell e2 c0 c1 c2 c3 hz
        go_wp2_with fail
        refine (last_any _ _ _ _ _ _ hF).mono ?_
        rintro e w1 ⟨rfl, q⟩
        have nL : w1.heap.size ≠ w.heap.size := by have := (hF.later q).lt; omega
        have nL1 : w1.heap.size ≠ w.heap.size + 1 := by have := (hH.later q).lt; omega
        replace hF := (hF.later q).alloc (.cells #[.int .i64 a, .int .i64 b] 32)
        replace hH := (hH.later q).alloc (.cells #[.int .i64 a, .int .i64 b] 32)
        replace hC := (hC.later q (Nat.le_refl _)).later ((Below.refl _ _).alloc (Nat.le_refl _) (.cells #[.int .i64 a, .int .i64 b] 32)) (Nat.le_refl _)
        have hL := Two.new w1 a b 32
        replace hbel := hbel.trans (q.mono hbel.size)
        replace hbel := hbel.alloc hbel.size (.cells #[.int .i64 a, .int .i64 b] 32)
        clear q
        go_wp2_with fail
        refine (physical_any _ _ _ _ _ _ hF).mono ?_
        rintro e w2 ⟨rfl, q⟩
        replace hF := hF.later q
        replace hH := hH.later q
        replace hC := hC.later q (Nat.le_refl _)
        replace hL := hL.later q
        replace hbel := hbel.trans (q.mono hbel.size)
        generalize w1.heap.size = L at *
        clear q
        obtain ⟨kind, x, c, d⟩ := z
        have HC := hide hC
        obtain ⟨c0, c1, c2, c3⟩ := hC
        simp only at c0 c1 c2 c3
        by_cases h1 : kind = 1
        · have k1 : (kind == 1) = true := by simpa using h1
          clear h1
          have hS := fun y h => set_any w.heap.size o p a b x y h
          by_cases hr : x < p ∨ 1099511627776 < x
          · have e1 : setE p x = 42 := by unfold setE; rw [if_pos hr]
            have e2 : setP p x = p := by unfold setP; rw [if_pos hr]
            rw [e1, e2] at hS
            clear e1 e2 hr
            go_wp2_with fail
            refine (hS _ hF).mono ?_
            rintro e w3 ⟨rfl, hF3, m3⟩
            replace hH := hH.mv m3 n0
            have hsz := hbel.size
            replace hbel := hbel.trans (m3.below (Nat.le_refl _) hsz)
            replace hF := hF3
            clear m3 c0 c1 c2 c3 hsz hS HC hF3 hL
            go_wp2_with fail
            refine (physical_any _ _ _ _ _ _ hF).mono ?_
            rintro e w4 ⟨rfl, q⟩
            replace hF := hF.later q
            replace hH := hH.later q
            replace hbel := hbel.trans (q.mono hbel.size)
            clear q
            go_wp2_with fail
            refine (physical_any _ _ _ _ _ _ hF).mono ?_
            rintro e w5 ⟨rfl, q⟩
            replace hF := hF.later q
            replace hH := hH.later q
            replace hbel := hbel.trans (q.mono hbel.size)
            clear q
            go_wp2_with fail
            refine (last_any _ _ _ _ _ _ hF).mono ?_
            rintro e w9 ⟨rfl, q⟩
            have R1 := hide (hF.later q)
            have R2 := hide (hH.later q)
            have R3 := hide (hbel.trans (q.mono hbel.size))
            have hA : Hid (a ≤ p + o + (k + 1 : Nat)) := hide (by have := unhide hA; omega)
            have hT : a ≤ p + o + 100 := by have := unhide hA; omega
            obtain ⟨_, _, r0, r1, r2, r3, r4, r5⟩ := unhide hG
            have hfld := field0
            clear q hF hH hbel
            go_wp2
            go_roundw
            case rel => exact ⟨k + 1, p, a, b, by go_num, (by first | rfl | (congr 1; omega)), by omega, by omega, unhide R1, hG, hA, unhide R2, unhide R3⟩
            case measure => simp [intOf]; omega
          · have e1 : setE p x = 0 := by unfold setE; rw [if_neg hr]
            have e2 : setP p x = x := by unfold setP; rw [if_neg hr]
            have hG := hide ((unhide hG).set x)
            rw [e2] at hG
            rw [e1, e2] at hS
            have hr' : p ≤ x := by omega
            clear e1 e2 hr
            have hpx : p < x ∨ (¬ p < x ∧ x ≤ p) := by omega
            rcases hpx with hp | ⟨hp, hp'⟩
            all_goals
              go_wp2_with fail
              refine (hS _ hF).mono ?_
              rintro e w3 ⟨rfl, hF3, m3⟩
              replace hH := hH.mv m3 n0
              have hsz := hbel.size
              replace hbel := hbel.trans (m3.below (Nat.le_refl _) hsz)
              replace hF := hF3
              clear m3 c0 c1 c2 c3 hsz hS HC hF3 hL
              go_wp2_with fail
              refine (physical_any _ _ _ _ _ _ hF).mono ?_
              rintro e w5 ⟨rfl, q⟩
              replace hF := hF.later q
              replace hH := hH.later q
              replace hbel := hbel.trans (q.mono hbel.size)
              clear q
              go_wp2_with fail
              refine (last_any _ _ _ _ _ _ hF).mono ?_
              rintro e w9 ⟨rfl, q⟩
              have R1 := hide (hF.later q)
              have R2 := hide (hH.later q)
              have R3 := hide (hbel.trans (q.mono hbel.size))
              have hA : Hid (a ≤ x + o + (k + 1 : Nat)) := hide (by have := unhide hA; omega)
              have hT : a ≤ x + o + 100 := by have := unhide hA; omega
              obtain ⟨_, _, r0, r1, r2, r3, r4, r5⟩ := unhide hG
              have hfld := field0
              clear q hF hH hbel
              go_wp2
              go_roundw
              case rel => exact ⟨k + 1, x, a, b, by go_num, (by first | rfl | (congr 1; omega)), by omega, by omega, unhide R1, hG, hA, unhide R2, unhide R3⟩
              case measure => simp [intOf]; omega
        · have k1 : (kind == 1) = false := by simpa using h1
          by_cases h2 : kind = 2
          · have k2 : (kind == 2) = true := by simpa using h2
            have hN := fun y h => now_any w.heap.size o p a b y h b0
            have hGn := (unhide hG).now
            rcases nowS_cases2 p a b b0 with ⟨e1, e2, e3⟩ | ⟨X, Y, e1, e2, hless, hX⟩
            · have ha : a = 1099511627776 := e3 ((right_iff _ _).2 ⟨a0, a1, b0, b1⟩)
              have ha' : (a == 1099511627776) = true := by simpa using ha
              rw [e1, e2] at hN
              clear h1 h2 e1 e2 e3 hGn ha
              go_wp2_with fail
              refine (hN _ hF).mono ?_
              rintro e w3 ⟨rfl, hF3, m3⟩
              have hsz := hbel.size
              replace hH := (hH.mv m3 n0).alloc (.cells #[.int .i64 0, .int .i64 0] 32)
              replace hL := (hL.mv m3 nL).alloc (.cells #[.int .i64 0, .int .i64 0] 32)
              replace hbel := hbel.trans (m3.below (Nat.le_refl _) hsz)
              replace hbel := hbel.alloc hbel.size (.cells #[.int .i64 0, .int .i64 0] 32)
              replace hF := hF3.alloc (.cells #[.int .i64 0, .int .i64 0] 32)
              clear m3 c0 c1 c2 c3 hsz hN HC hF3
              go_wp2_with fail
              generalize w3.alloc (.cells #[.int .i64 0, .int .i64 0] 32) = W at *
              have R1 := fun i : Later W => (hL.later i.below).c0
              have R2 := fun i : Later W => (hL.later i.below).c1
              have hLl := hide (fun i : Later W => last_any _ _ _ _ _ _ (hF.later i.below))
              have inst : Nonempty (Later W) := ⟨⟨W, Below.refl _ _⟩⟩
              have HB := hide hbel
              have HF := hide hF
              have HH := hide hH
              clear hF hbel hL hH
              refine wp_region_later (by kernel_rfl) (by kernel_rfl) ?_
              repeat (first
                | go_big_quiet_step ((go_at_call 18; exact calls_later (unhide hLl _)))
                | quiet_step (fail))
              refine wpQuiet_nil ?_
              intro w' hw'
              obtain ⟨i, rfl⟩ := hw'
              go_wp2
              go_roundw
              case rel => exact ⟨k + 1, p, a, b, by go_num, rfl, by omega, by omega, (unhide HF).later i.below, hG, hide (by have := unhide hA; omega), (unhide HH).later i.below, (unhide HB).trans (i.below.mono (unhide HB).size)⟩
              case measure => simp [intOf]; omega
            · rw [e1, e2] at hN
              rw [e2] at hGn
              have hG := hide hGn
              have hLs := fun w => less_any a b X Y w
              have hRt := fun w => right_any X Y w
              rw [hless] at hLs
              rw [(right_iff X Y).2 ⟨hGn.a0, hGn.a1, hGn.b0, hGn.b1⟩] at hRt
              clear h1 h2 e1 e2 hless hGn
              go_wp2_with fail
              refine (hN _ hF).mono ?_
              rintro e w3 ⟨rfl, hF3, m3⟩
              have hsz := hbel.size
              have hHl := (hH.mv m3 n0).lt
              replace hH := (hH.mv m3 n0).alloc (.cells #[.int .i64 X, .int .i64 Y] 32)
              replace hL := (hL.mv m3 nL).alloc (.cells #[.int .i64 X, .int .i64 Y] 32)
              replace hbel := hbel.trans (m3.below (Nat.le_refl _) hsz)
              have nS : w3.heap.size ≠ w.heap.size := by have := hF3.lt; omega
              have nS1 : w3.heap.size ≠ w.heap.size + 1 := by omega
              have hSn := Two.new w3 X Y 32
              replace hbel := hbel.alloc hbel.size (.cells #[.int .i64 X, .int .i64 Y] 32)
              replace hF := hF3.alloc (.cells #[.int .i64 X, .int .i64 Y] 32)
              clear m3 c0 c1 c2 c3 hsz hN HC hF3
              go_wp2_with fail
              generalize w3.alloc (.cells #[.int .i64 X, .int .i64 Y] 32) = W at *
              generalize w3.heap.size = Sb at *
              have R1 := fun i : Later W => (hH.later i.below).c0
              have R2 := fun i : Later W => (hH.later i.below).c1
              have R3 := fun i : Later W => (hSn.later i.below).c0
              have R4 := fun i : Later W => (hSn.later i.below).c1
              have hLl := hide (fun i : Later W => last_any _ _ _ _ _ _ (hF.later i.below))
              have inst : Nonempty (Later W) := ⟨⟨W, Below.refl _ _⟩⟩
              refine wp_region_later (by kernel_rfl) (by kernel_rfl) ?_
              repeat (first
                | go_big_quiet_step ((go_at_call 19; exact calls_later (hLs _)))
                | go_big_quiet_step ((go_at_call 20; exact calls_later (hRt _)))
                | go_big_quiet_step ((go_at_call 18; exact calls_later (unhide hLl _)))
                | quiet_step (fail))
              refine wpQuiet_nil ?_
              intro w' hw'
              obtain ⟨⟨W2, q⟩, rfl⟩ := hw'
              replace hF := hF.later q
              replace hH := hH.later q
              replace hSn := hSn.later q
              replace hbel := hbel.trans (q.mono hbel.size)
              clear q R1 R2 R3 R4 hLl inst hL hLs hRt
              have hF' := (hF.setOther (q := ⟨w.heap.size + 1, 0, none⟩) n0 (.int .i64 X)).setOther (q := ⟨w.heap.size + 1, 1, none⟩) n0 (.int .i64 Y)
              have hH' := hH.put X Y
              have hbel' := (hbel.setCell (p := ⟨w.heap.size + 1, 0, none⟩) (by simp) (.int .i64 X)).setCell (p := ⟨w.heap.size + 1, 1, none⟩) (by simp) (.int .i64 Y)
              obtain ⟨d0, d1, g0, g1⟩ := hH
              obtain ⟨s0, s1, t0, t1⟩ := hSn
              go_wp2_with fail
              generalize ((World.setCell _ ⟨w.heap.size + 1, 0, none⟩ (.int .i64 X)).setCell ⟨w.heap.size + 1, 1, none⟩ (.int .i64 Y)) = W9 at *
              clear d0 d1 g0 g1 s0 s1 t0 t1 hF hbel
              have hF := hF'
              have hH := hH'
              have hbel := hbel'
              clear hF' hH' hbel'
              go_wp2_with fail
              refine (last_any _ _ _ _ _ _ hF).mono ?_
              rintro e w9 ⟨rfl, q⟩
              have R1 := hide (hF.later q)
              have R2 := hide (hH.later q)
              have R3 := hide (hbel.trans (q.mono hbel.size))
              have hA : Hid (X ≤ p + o + (k + 1 : Nat)) := hide (by have := unhide hA; omega)
              have hT : X ≤ p + o + 100 := by have := unhide hA; omega
              obtain ⟨_, _, r0, r1, r2, r3, r4, r5⟩ := unhide hG
              have hfld := field0
              clear q hF hH hbel
              go_wp2
              go_roundw
              case rel => exact ⟨k + 1, p, X, Y, by go_num, (by first | rfl | (congr 1; omega)), by omega, by omega, unhide R1, hG, hA, unhide R2, unhide R3⟩
              case measure => simp [intOf]; omega
          · have k2 : (kind == 2) = false := by simpa using h2
            by_cases h3 : kind = 3
            · have k3 : (kind == 3) = true := by simpa using h3
              have hE := fun y h => hear_any w.heap.size o p a b c d y h ⟨o0, o1⟩ ⟨p0, p1⟩
              have e9 := hearE_cases o p a b c d
              have hGh := (unhide hG).hear c d
              rcases e9 with ⟨e1, e2⟩ | ⟨e1, e2⟩ | ⟨e1, hco, X, Y, e3, hX, hM⟩
              · rw [e1, e2] at hE
                clear h1 h2 h3 e1 e2 hGh
                go_wp2_with fail
                refine (hE _ hF).mono ?_
                rintro e W ⟨rfl, hF3, m3⟩
                have hsz := hbel.size
                replace hH := hH.mv m3 n0
                replace hL := hL.mv m3 nL
                replace hbel := hbel.trans (m3.below (Nat.le_refl _) hsz)
                replace hF := hF3
                clear m3 c0 c1 c2 c3 hsz hE HC hF3
                go_wp2_with fail
                have R1 := fun i : Later W => (hH.later i.below).c0
                have R2 := fun i : Later W => (hH.later i.below).c1
                have R3 := fun i : Later W => (hL.later i.below).c0
                have R4 := fun i : Later W => (hL.later i.below).c1
                have hLl := hide (fun i : Later W => last_any _ _ _ _ _ _ (hF.later i.below))
                have inst : Nonempty (Later W) := ⟨⟨W, Below.refl _ _⟩⟩
                refine wp_region_later (by kernel_rfl) (by kernel_rfl) ?_
                repeat (first
                  | go_big_quiet_step ((go_at_call 18; exact calls_later (unhide hLl _)))
                  | quiet_step (fail))
                refine wpQuiet_nil ?_
                intro w' hw'
                obtain ⟨⟨W2, q⟩, rfl⟩ := hw'
                replace hF := hF.later q
                replace hH := hH.later q
                replace hbel := hbel.trans (q.mono hbel.size)
                clear q R1 R2 R3 R4 hLl inst hL
                go_wp2_with fail
                refine (last_any _ _ _ _ _ _ hF).mono ?_
                rintro e w9 ⟨rfl, q⟩
                have R1 := hide (hF.later q)
                have R2 := hide (hH.later q)
                have R3 := hide (hbel.trans (q.mono hbel.size))
                have hA : Hid (a ≤ p + o + (k + 1 : Nat)) := hide (by have := unhide hA; omega)
                have hT : a ≤ p + o + 100 := by have := unhide hA; omega
                obtain ⟨_, _, r0, r1, r2, r3, r4, r5⟩ := unhide hG
                have hfld := field0
                clear q hF hH hbel
                go_wp2
                go_roundw
                case rel => exact ⟨k + 1, p, a, b, by go_num, (by first | rfl | (congr 1; omega)), by omega, by omega, unhide R1, hG, hA, unhide R2, unhide R3⟩
                case measure => simp [intOf]; omega
              · rw [e1, e2] at hE
                clear h1 h2 h3 e1 e2 hGh
                go_wp2_with fail
                refine (hE _ hF).mono ?_
                rintro e W ⟨rfl, hF3, m3⟩
                have hsz := hbel.size
                replace hH := hH.mv m3 n0
                replace hL := hL.mv m3 nL
                replace hbel := hbel.trans (m3.below (Nat.le_refl _) hsz)
                replace hF := hF3
                clear m3 c0 c1 c2 c3 hsz hE HC hF3
                go_wp2_with fail
                have R1 := fun i : Later W => (hH.later i.below).c0
                have R2 := fun i : Later W => (hH.later i.below).c1
                have R3 := fun i : Later W => (hL.later i.below).c0
                have R4 := fun i : Later W => (hL.later i.below).c1
                have hLl := hide (fun i : Later W => last_any _ _ _ _ _ _ (hF.later i.below))
                have inst : Nonempty (Later W) := ⟨⟨W, Below.refl _ _⟩⟩
                refine wp_region_later (by kernel_rfl) (by kernel_rfl) ?_
                repeat (first
                  | go_big_quiet_step ((go_at_call 18; exact calls_later (unhide hLl _)))
                  | quiet_step (fail))
                refine wpQuiet_nil ?_
                intro w' hw'
                obtain ⟨⟨W2, q⟩, rfl⟩ := hw'
                replace hF := hF.later q
                replace hH := hH.later q
                replace hbel := hbel.trans (q.mono hbel.size)
                clear q R1 R2 R3 R4 hLl inst hL
                go_wp2_with fail
                refine (last_any _ _ _ _ _ _ hF).mono ?_
                rintro e w9 ⟨rfl, q⟩
                have R1 := hide (hF.later q)
                have R2 := hide (hH.later q)
                have R3 := hide (hbel.trans (q.mono hbel.size))
                have hA : Hid (a ≤ p + o + (k + 1 : Nat)) := hide (by have := unhide hA; omega)
                have hT : a ≤ p + o + 100 := by have := unhide hA; omega
                obtain ⟨_, _, r0, r1, r2, r3, r4, r5⟩ := unhide hG
                have hfld := field0
                clear q hF hH hbel
                go_wp2
                go_roundw
                case rel => exact ⟨k + 1, p, a, b, by go_num, (by first | rfl | (congr 1; omega)), by omega, by omega, unhide R1, hG, hA, unhide R2, unhide R3⟩
                case measure => simp [intOf]; omega
              · rw [e1, e3] at hE
                rw [e3] at hGh
                have hG := hide hGh
                clear h1 h2 h3 e1 e3 hGh
                go_wp2_with fail
                refine (hE _ hF).mono ?_
                rintro e w3 ⟨rfl, hF3, m3⟩
                have hsz := hbel.size
                replace hH := hH.mv m3 n0
                replace hL := hL.mv m3 nL
                have hC := (unhide HC).mv m3 hbb
                replace hbel := hbel.trans (m3.below (Nat.le_refl _) hsz)
                replace hF := hF3
                clear m3 c0 c1 c2 c3 hsz hE HC hF3
                obtain ⟨c0, c1, c2, c3⟩ := hC
                simp only at c0 c1 c2 c3
                obtain ⟨d0, d1, g0, g1⟩ := id hH
                have HF := hide hF
                have HH := hide hH
                have HL := hide hL
                have HB := hide hbel
                have hD := (Below.refl w3.heap.size w3).drew
                clear hF hH hL hbel
                go_wp2_with fail
                go_region_with ((go_at_call 21; refine (hM _).mono ?_; rintro e w4 ⟨rfl, hb2⟩; have hh := ((unhide HH).later hD).later hb2; have d2 := hh.c0; have d3 := hh.c1; have g2 := hh.f0; have g3 := hh.f1; have hb3 := hide (hD.trans (hb2.mono (Nat.le_refl _))); clear hh hb2))
                all_goals
                  have hF := ((unhide HF).later (unhide hb3))
                  have hH := ((unhide HH).later (unhide hb3))
                  have hL := ((unhide HL).later (unhide hb3))
                  have hbel := (unhide HB).trans ((unhide hb3).mono (unhide HB).size)
                  clear HF HH HL HB hb3 d0 d1 g0 g1 d2 d3 g2 g3 hD
                  replace hF := (hF.setOther (q := ⟨w.heap.size + 1, 0, none⟩) n0 (.int .i64 X)).setOther (q := ⟨w.heap.size + 1, 1, none⟩) n0 (.int .i64 Y)
                  replace hL := (hL.other (q := ⟨w.heap.size + 1, 0, none⟩) nL1.symm (.int .i64 X)).other (q := ⟨w.heap.size + 1, 1, none⟩) nL1.symm (.int .i64 Y)
                  replace hH := hH.put X Y
                  replace hbel := (hbel.setCell (p := ⟨w.heap.size + 1, 0, none⟩) (by simp) (.int .i64 X)).setCell (p := ⟨w.heap.size + 1, 1, none⟩) (by simp) (.int .i64 Y)
                  generalize ((World.setCell _ ⟨w.heap.size + 1, 0, none⟩ (.int .i64 X)).setCell ⟨w.heap.size + 1, 1, none⟩ (.int .i64 Y)) = W at *
                  clear c0 c1 c2 c3
                  go_wp2_with fail
                  have R1 := fun i : Later W => (hH.later i.below).c0
                  have R2 := fun i : Later W => (hH.later i.below).c1
                  have R3 := fun i : Later W => (hL.later i.below).c0
                  have R4 := fun i : Later W => (hL.later i.below).c1
                  have hLl := hide (fun i : Later W => last_any _ _ _ _ _ _ (hF.later i.below))
                  have inst : Nonempty (Later W) := ⟨⟨W, Below.refl _ _⟩⟩
                  refine wp_region_later (by kernel_rfl) (by kernel_rfl) ?_
                  repeat (first
                    | go_big_quiet_step ((go_at_call 18; exact calls_later (unhide hLl _)))
                    | quiet_step (fail))
                  refine wpQuiet_nil ?_
                  intro w' hw'
                  obtain ⟨⟨W2, q⟩, rfl⟩ := hw'
                  replace hF := hF.later q
                  replace hH := hH.later q
                  replace hbel := hbel.trans (q.mono hbel.size)
                  clear q R1 R2 R3 R4 hLl inst hL
                  go_wp2_with fail
                  refine (last_any _ _ _ _ _ _ hF).mono ?_
                  rintro e w9 ⟨rfl, q⟩
                  have R1 := hide (hF.later q)
                  have R2 := hide (hH.later q)
                  have R3 := hide (hbel.trans (q.mono hbel.size))
                  have hA : Hid (X ≤ p + o + (k + 1 : Nat)) := hide (by have := unhide hA; omega)
                  have hT : X ≤ p + o + 100 := by have := unhide hA; omega
                  obtain ⟨_, _, r0, r1, r2, r3, r4, r5⟩ := unhide hG
                  have hfld := field0
                  clear q hF hH hbel
                  go_wp2
                  go_roundw
                  case rel => exact ⟨k + 1, p, X, Y, by go_num, (by first | rfl | (congr 1; omega)), by omega, by omega, unhide R1, hG, hA, unhide R2, unhide R3⟩
                  case measure => simp [intOf]; omega
            · have k3 : (kind == 3) = false := by simpa using h3
              clear h1 h2 h3 c1 c2 c3 HC hL
              go_wp2_with fail
              refine (last_any _ _ _ _ _ _ hF).mono ?_
              rintro e w9 ⟨rfl, q⟩
              have R1 := hide (hF.later q)
              have R2 := hide (hH.later q)
              have R3 := hide (hbel.trans (q.mono hbel.size))
              have hA : Hid (a ≤ p + o + (k + 1 : Nat)) := hide (by have := unhide hA; omega)
              have hT : a ≤ p + o + 100 := by have := unhide hA; omega
              obtain ⟨_, _, r0, r1, r2, r3, r4, r5⟩ := unhide hG
              have hfld := field0
              clear q hF hH hbel
              go_wp2
              go_roundw
              case rel => exact ⟨k + 1, p, a, b, by go_num, (by first | rfl | (congr 1; omega)), by omega, by omega, unhide R1, hG, hA, unhide R2, unhide R3⟩
              case measure => simp [intOf]; omega
      · have hlt' : xs.length ≤ k ∨ (k < xs.length ∧ 100 ≤ k) := by omega
        clear hlt
        rcases hlt' with hq | ⟨hq, hq2⟩
        all_goals
          go_wp2_with fail
          refine (alive_any _).mono ?_
          rintro e w2 ⟨rfl, b2⟩
          have HB := hide (hbel.trans (b2.mono hbel.size))
          clear b2 hbel
          go_wp2
          go_ret
          exact ⟨rfl, unhide HB⟩
end

end Go.Proofs.Ytjjnejknmgipiaa
