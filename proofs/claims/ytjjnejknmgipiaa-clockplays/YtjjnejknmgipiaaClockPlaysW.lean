/-
  The law ClockPlays: its walk.
-/
import Derived.Test.YtjjnejknmgipiaaClockRisesW
import Derived.Test.YtjjnejknmgipiaaRefN
import Derived.Test.YtjjnejknmgipiaaRefH
import Derived.Deep.RegionHeld
namespace Go.Proofs.Ytjjnejknmgipiaa
open Go.RowKit
set_option linter.unusedVariables false

section
set_option maxRecDepth 100000

set_option maxHeartbeats 4000000 in
theorem walkClockPlays {w : World} (o : Int) (wo : (Lit.int .i64 o).wf = true) (v : Value) (xs : List ActV) (hx : Acts w v xs) :
    Calls Try.prog 3 #[.int .i64 o, v] w fun e w' => e = .returned (.bool true) ∧ Below w.heap.size w w' := by
  have Hx := hide hx
  obtain ⟨ao, cp, rfl, hxc, hxm, _⟩ := hx
  unfold maxLen at hxm
  by_cases ho : o < 0 ∨ 1099511627776 < o
  · have hN := fun w => new_no o ho w
    have hN2 := fun w => refnew_no o ho w
    clear ho
    go_enter Try.func3, Try.ntmps3
    go_wp2_with fail
    refine (hN _).mono ?_
    rintro e w1 ⟨rfl, rfl⟩
    go_wp2_with fail
    refine (hN2 _).mono ?_
    rintro e w1 ⟨rfl, rfl⟩
    go_wp2_with fail
    refine (alive_any _).mono ?_
    rintro e w2 ⟨rfl, b2⟩
    have HB := hide b2
    clear b2
    go_wp2
    go_ret
    exact ⟨rfl, unhide HB⟩
  · obtain ⟨o0, o1⟩ : 0 ≤ o ∧ o ≤ 1099511627776 := by omega
    clear ho
    go_enter Try.func3, Try.ntmps3
    go_wp2_with fail
    refine (new_yes o o0 o1 _).mono ?_
    rintro e w1 ⟨rfl, rfl⟩
    go_wp2_with fail
    refine (refnew_yes o o0 o1 _).mono ?_
    rintro e w1 ⟨rfl, rfl⟩
    have hk := (Four.new w o 0 0 0 53).alloc (.cells #[.int .i64 0, .int .i64 o, .int .i64 0, .int .i64 0] 41)
    have hm := Four.new (w.alloc (.cells #[.int .i64 o, .int .i64 0, .int .i64 0, .int .i64 0] 53)) 0 o 0 0 41
    have hB := ((Below.refl w.heap.size w).alloc (Nat.le_refl _) (.cells #[.int .i64 o, .int .i64 0, .int .i64 0, .int .i64 0] 53)).alloc (by simp) (.cells #[.int .i64 0, .int .i64 o, .int .i64 0, .int .i64 0] 41)
    have e : (w.alloc (.cells #[.int .i64 o, .int .i64 0, .int .i64 0, .int .i64 0] 53)).heap.size = w.heap.size + 1 := by simp
    rw [e] at hm
    have g0 : Good o 0 0 0 := ⟨o0, o1, by decide, by decide, by decide, by decide, by decide, by decide⟩
    have n0 : w.heap.size + 1 ≠ w.heap.size := by omega
    have n1 : w.heap.size ≠ w.heap.size + 1 := by omega
    rw [e]
    generalize (w.alloc (.cells #[.int .i64 o, .int .i64 0, .int .i64 0, .int .i64 0] 53)).alloc (.cells #[.int .i64 0, .int .i64 o, .int .i64 0, .int .i64 0] 41) = W0 at *
    go_wp2_with fail
    go_loopw [9] (fun i wr => ∃ (k : Nat) (p a b : Int), i = .int .i64 k ∧ k ≤ xs.length ∧ k ≤ 100 ∧ Four wr w.heap.size o p a b ∧ Four wr (w.heap.size + 1) p o a b ∧ Hid (Good o p a b) ∧ Below w.heap.size w wr) (fun i _ => 100 - (intOf i).toNat)
    case atStart => exact ⟨0, 0, 0, 0, rfl, Nat.zero_le _, by decide, hk, hm, hide g0, hB⟩
    case round =>
      clear hk hm hB g0 e
      obtain ⟨k, p, a, b, rfl, hk1, hk2, hF, hM, hG, hbel⟩ := hrel
      obtain ⟨_, _, p0, p1, a0, a1, b0, b1⟩ := unhide hG
      by_cases hlt : k < xs.length ∧ k < 100
      · obtain ⟨hl1, hl2⟩ := hlt
        obtain ⟨z, hz⟩ : ∃ z, Hid (z = xs[k]) := ⟨xs[k], Eq.refl _⟩
        obtain ⟨ao', c', e, _, _, hcell⟩ := (unhide Hx).below hbel (Nat.le_refl _)
        injection e with e1 e2 e3
        subst e1 e3
        obtain ⟨bb, of, rfl, c0, c1, c2, c3⟩ := hcell k hl1
        rw [← unhide hz] at c0 c1 c2 c3
        have hC : ActAt wr bb of k z := ⟨c0, c1, c2, c3⟩
        have hbb : bb ≠ w.heap.size ∧ bb ≠ w.heap.size + 1 := by
          obtain ⟨_, _, e', _, _, hc'⟩ := unhide Hx
          injection e' with e1' _ _
          obtain ⟨_, _, e2', c', _⟩ := hc' k hl1
          rw [e2'] at e1'
          injection e1' with e1'
          injection e1' with e1'
          have := World.block_lt_of_cell? w _ c'
          simp only at this
          omega
        obtain ⟨hb1, hb2⟩ := hbb
        clear hcell e2 c0 c1 c2 c3 hz
        obtain ⟨kind, x, c, d⟩ := z
        by_cases h1 : kind = 1
        · have k1 : (kind == 1) = true := by simpa using h1
          clear h1
          replace hG := hide ((unhide hG).set x)
          have HC := hide hC
          obtain ⟨c0, c1, c2, c3⟩ := hC
          simp only at c0 c1 c2 c3
          have hS := fun y h => set_any w.heap.size o p a b x y h
          have hT := fun y h => refset_any (w.heap.size + 1) o p a b x y h
          generalize setE p x = E at *
          generalize setP p x = p' at *
          have hD := (Below.refl wr.heap.size wr).drew
          have HF := hide (hF.later hD)
          have HM := hide (hM.later hD)
          have HB := hide (hbel.trans (hD.mono hbel.size))
          have HC := hide ((unhide HC).later hD (Nat.le_refl _))
          clear hF hM hbel hD
          go_wp2_with fail
          go_region_held (fun w' => w'.cell? ⟨bb, of + k * 4 + 1, none⟩ = some (.int .i64 x)) (go_keep)
            (first | (go_at_call 11; refine (hS _ (unhide HF)).mono ?_; rintro e w3 ⟨rfl, h3, m3⟩; have HM := hide ((unhide HM).mv m3 n0); have HC := hide ((unhide HC).mv m3 hb1); have HB := hide ((unhide HB).trans (m3.below (Nat.le_refl _) (unhide HB).size)); have c3 := (unhide HC).c1; simp only at c3; have HF := hide h3; clear h3 m3) | (go_at_call 12; refine (hT _ (unhide HM)).mono ?_; rintro e w4 ⟨rfl, h4, m4⟩; have HF := hide ((unhide HF).mv m4 n1); have HC := hide ((unhide HC).mv m4 hb2); have HB := hide ((unhide HB).trans (m4.below (Nat.le_succ _) (unhide HB).size)); have c4 := (unhide HC).c1; simp only at c4; have HM := hide h4; clear h4 m4))
          have hF := unhide HF
          have hM := unhide HM
          have hbel := unhide HB
          generalize w4 = W at *
          clear HF HM HB HC c4 hS hT
          clear c0 c1 c2 c3
          go_wp2_with fail
          have R0 := fun i : Later W => (hM.later i.below).c0
          have R1 := fun i : Later W => (hM.later i.below).c2
          have R2 := fun i : Later W => (hM.later i.below).c3
          have hLl := hide (fun i : Later W => last_any _ _ _ _ _ _ (hF.later i.below))
          have hPl := hide (fun i : Later W => physical_any _ _ _ _ _ _ (hF.later i.below))
          have inst : Nonempty (Later W) := ⟨⟨W, Below.refl _ _⟩⟩
          have HF := hide hF
          have HM := hide hM
          have HB := hide hbel
          clear hF hM hbel
          refine wp_region_later (by kernel_rfl) (by kernel_rfl) ?_
          repeat (first
            | go_big_quiet_step ((go_at_call 18; exact calls_later (unhide hLl _)))
            | go_big_quiet_step ((go_at_call 17; exact calls_later (unhide hPl _)))
            | quiet_step (fail))
          refine wpQuiet_nil ?_
          intro w' hw'
          obtain ⟨i, rfl⟩ := hw'
          go_wp2
          go_roundw
          case rel => exact ⟨k + 1, _, _, _, by go_num, by omega, by omega, (unhide HF).later i.below, (unhide HM).later i.below, hG, (unhide HB).trans (i.below.mono (unhide HB).size)⟩
          case measure => simp [intOf]; omega
        · have k1 : (kind == 1) = false := by simpa using h1
          by_cases h2 : kind = 2
          · have k2 : (kind == 2) = true := by simpa using h2
            clear h1 h2
            replace hG := hide (unhide hG).now
            obtain ⟨c0, c1, c2, c3⟩ := hC
            simp only at c0 c1 c2 c3
            have hS := fun y h => now_any w.heap.size o p a b y h b0
            have hT := fun y h => refnow_any (w.heap.size + 1) o p a b y h b0
            generalize nowS p a b = E at *
            generalize nowL p a b = q' at *
            obtain ⟨x0, y0, E⟩ := E
            obtain ⟨a', b'⟩ := q'
            simp only at hS hT hG
            go_wp2_with fail
            refine (hS _ hF).mono ?_
            rintro e w3 ⟨rfl, hF3, m3⟩
            have hsz := hbel.size
            have hM3 := hM.mv m3 n0
            replace hM := (hM.mv m3 n0).alloc (.cells #[.int .i64 x0, .int .i64 y0] 32)
            replace hbel := hbel.trans (m3.below (Nat.le_refl _) hsz)
            have hs1 := Two.new w3 x0 y0 32
            replace hbel := hbel.alloc hbel.size (.cells #[.int .i64 x0, .int .i64 y0] 32)
            replace hF := hF3.alloc (.cells #[.int .i64 x0, .int .i64 y0] 32)
            have ns : w3.heap.size ≠ w.heap.size + 1 := by have := hM3.lt; omega
            clear m3 hsz hF3 hS
            go_wp2_with fail
            refine (hT _ hM).mono ?_
            rintro e w4 ⟨rfl, hM4, m4⟩
            have hsz := hbel.size
            replace hF := (hF.mv m4 n1).alloc (.cells #[.int .i64 x0, .int .i64 y0] 32)
            replace hs1 := (hs1.mv m4 ns).alloc (.cells #[.int .i64 x0, .int .i64 y0] 32)
            have hs2 := Two.new w4 x0 y0 32
            replace hbel := hbel.trans (m4.below (Nat.le_succ _) hsz)
            replace hbel := hbel.alloc hbel.size (.cells #[.int .i64 x0, .int .i64 y0] 32)
            replace hM := hM4.alloc (.cells #[.int .i64 x0, .int .i64 y0] 32)
            clear m4 hsz hM4 hT hM3
            obtain ⟨u0, u1, _, _⟩ := hs1
            obtain ⟨u2, u3, _, _⟩ := hs2
            go_wp2_with fail
            generalize w4.alloc (.cells #[.int .i64 x0, .int .i64 y0] 32) = W at *
            have R0 := fun i : Later W => (hM.later i.below).c0
            have R1 := fun i : Later W => (hM.later i.below).c2
            have R2 := fun i : Later W => (hM.later i.below).c3
            have hLl := hide (fun i : Later W => last_any _ _ _ _ _ _ (hF.later i.below))
            have hPl := hide (fun i : Later W => physical_any _ _ _ _ _ _ (hF.later i.below))
            have inst : Nonempty (Later W) := ⟨⟨W, Below.refl _ _⟩⟩
            have HF := hide hF
            have HM := hide hM
            have HB := hide hbel
            clear hF hM hbel
            refine wp_region_later (by kernel_rfl) (by kernel_rfl) ?_
            repeat (first
              | go_big_quiet_step ((go_at_call 18; exact calls_later (unhide hLl _)))
              | go_big_quiet_step ((go_at_call 17; exact calls_later (unhide hPl _)))
              | quiet_step (fail))
            refine wpQuiet_nil ?_
            intro w' hw'
            obtain ⟨i, rfl⟩ := hw'
            go_wp2
            go_roundw
            case rel => exact ⟨k + 1, _, _, _, by go_num, by omega, by omega, (unhide HF).later i.below, (unhide HM).later i.below, hG, (unhide HB).trans (i.below.mono (unhide HB).size)⟩
            case measure => simp [intOf]; omega
          · have k2 : (kind == 2) = false := by simpa using h2
            by_cases h3 : kind = 3
            · have k3 : (kind == 3) = true := by simpa using h3
              clear h1 h2 h3
              replace hG := hide ((unhide hG).hear c d)
              have HC := hide hC
              obtain ⟨c0, c1, c2, c3⟩ := hC
              simp only at c0 c1 c2 c3
              have hS := fun y h => hear_any w.heap.size o p a b c d y h ⟨o0, o1⟩ ⟨p0, p1⟩
              have hT := fun y h => refhear_any (w.heap.size + 1) o p a b c d y h ⟨o0, o1⟩ ⟨p0, p1⟩
              generalize hearE o p c d = E at *
              generalize hearL o p a b c d = q' at *
              obtain ⟨a', b'⟩ := q'
              simp only at hS hT hG
              have hD := (Below.refl wr.heap.size wr).drew
              have HF := hide (hF.later hD)
              have HM := hide (hM.later hD)
              have HB := hide (hbel.trans (hD.mono hbel.size))
              have HC := hide ((unhide HC).later hD (Nat.le_refl _))
              clear hF hM hbel hD
              go_wp2_with fail
              go_region_held (fun w' => w'.cell? ⟨bb, of + k * 4 + 2, none⟩ = some (.int .i64 c) ∧ w'.cell? ⟨bb, of + k * 4 + 3, none⟩ = some (.int .i64 d)) (go_keep)
                (first | (go_at_call 15; refine (hS _ (unhide HF)).mono ?_; rintro e w3 ⟨rfl, h3, m3⟩; have HM := hide ((unhide HM).mv m3 n0); have HC := hide ((unhide HC).mv m3 hb1); have HB := hide ((unhide HB).trans (m3.below (Nat.le_refl _) (unhide HB).size)); have c4 := (unhide HC).c2; have c5 := (unhide HC).c3; simp only at c4 c5; have HF := hide h3; clear h3 m3) | (go_at_call 16; refine (hT _ (unhide HM)).mono ?_; rintro e w4 ⟨rfl, h4, m4⟩; have HF := hide ((unhide HF).mv m4 n1); have HC := hide ((unhide HC).mv m4 hb2); have HB := hide ((unhide HB).trans (m4.below (Nat.le_succ _) (unhide HB).size)); have c6 := (unhide HC).c2; have c7 := (unhide HC).c3; simp only at c6 c7; have HM := hide h4; clear h4 m4))
              have hF := unhide HF
              have hM := unhide HM
              have hbel := unhide HB
              generalize w4 = W at *
              clear HF HM HB HC c6 c7 hS hT
              clear c0 c1 c2 c3
              go_wp2_with fail
              have R0 := fun i : Later W => (hM.later i.below).c0
              have R1 := fun i : Later W => (hM.later i.below).c2
              have R2 := fun i : Later W => (hM.later i.below).c3
              have hLl := hide (fun i : Later W => last_any _ _ _ _ _ _ (hF.later i.below))
              have hPl := hide (fun i : Later W => physical_any _ _ _ _ _ _ (hF.later i.below))
              have inst : Nonempty (Later W) := ⟨⟨W, Below.refl _ _⟩⟩
              have HF := hide hF
              have HM := hide hM
              have HB := hide hbel
              clear hF hM hbel
              refine wp_region_later (by kernel_rfl) (by kernel_rfl) ?_
              repeat (first
                | go_big_quiet_step ((go_at_call 18; exact calls_later (unhide hLl _)))
                | go_big_quiet_step ((go_at_call 17; exact calls_later (unhide hPl _)))
                | quiet_step (fail))
              refine wpQuiet_nil ?_
              intro w' hw'
              obtain ⟨i, rfl⟩ := hw'
              go_wp2
              go_roundw
              case rel => exact ⟨k + 1, _, _, _, by go_num, by omega, by omega, (unhide HF).later i.below, (unhide HM).later i.below, hG, (unhide HB).trans (i.below.mono (unhide HB).size)⟩
              case measure => simp [intOf]; omega
            · have k3 : (kind == 3) = false := by simpa using h3
              clear h1 h2 h3
              obtain ⟨c0, c1, c2, c3⟩ := hC
              simp only at c0 c1 c2 c3
              go_wp2_with fail
              generalize wr = W at *
              have R0 := fun i : Later W => (hM.later i.below).c0
              have R1 := fun i : Later W => (hM.later i.below).c2
              have R2 := fun i : Later W => (hM.later i.below).c3
              have hLl := hide (fun i : Later W => last_any _ _ _ _ _ _ (hF.later i.below))
              have hPl := hide (fun i : Later W => physical_any _ _ _ _ _ _ (hF.later i.below))
              have inst : Nonempty (Later W) := ⟨⟨W, Below.refl _ _⟩⟩
              have HF := hide hF
              have HM := hide hM
              have HB := hide hbel
              clear hF hM hbel
              refine wp_region_later (by kernel_rfl) (by kernel_rfl) ?_
              repeat (first
                | go_big_quiet_step ((go_at_call 18; exact calls_later (unhide hLl _)))
                | go_big_quiet_step ((go_at_call 17; exact calls_later (unhide hPl _)))
                | quiet_step (fail))
              refine wpQuiet_nil ?_
              intro w' hw'
              obtain ⟨i, rfl⟩ := hw'
              go_wp2
              go_roundw
              case rel => exact ⟨k + 1, _, _, _, by go_num, by omega, by omega, (unhide HF).later i.below, (unhide HM).later i.below, hG, (unhide HB).trans (i.below.mono (unhide HB).size)⟩
              case measure => simp [intOf]; omega
      · have hlt' : xs.length ≤ k ∨ (k < xs.length ∧ 100 ≤ k) := by omega
        clear hlt
        rcases hlt' with hq | ⟨hq, hq2⟩
        all_goals
          go_wp2_with fail
          refine (alive_any _).mono ?_
          rintro e w2 ⟨rfl, b2⟩
          have HB := hide (hbel.trans (b2.mono hbel.size))
          clear b2 hbel
          go_wp2
          go_ret
          exact ⟨rfl, unhide HB⟩
end

end Go.Proofs.Ytjjnejknmgipiaa
