/-
  The law StampPlus: its walk.
-/
import Derived.Test.YtjeefpibhkngiaaDoorField
import Derived.Test.YtjeefpibhkngiaaDoorView
namespace Go.Proofs.YtjeefpibhkngiaaDoor
open Go.RowKit
set_option linter.unusedVariables false

/-- The wall of a stamp so many ticks later. -/
def plusI (a t : Int) : Int := bnd (bnd a (-2199023255552) 2199023255552 + bnd t (-4398046511104) 4398046511104) 0 1099511627776

theorem plus_any' (a b t : Int) (w : World) : Calls Tryd.prog 19 #[(.agg #[.int .i64 a, .int .i64 b]), .int .i64 t] w fun e w' => e = .returned (.agg #[.int .i64 (plusI a t), .int .i64 65535]) ∧ Below w.heap.size w w' := plus_any a b t w

set_option maxRecDepth 100000 in
set_option maxHeartbeats 2000000 in
theorem walkStampPlusC (w : World) (p q a b : Int) (hp : -9223372036854775808 ≤ p ∧ p ≤ 9223372036854775807) (hq : -9223372036854775808 ≤ q ∧ q ≤ 9223372036854775807) (ha : -9223372036854775808 ≤ a ∧ a ≤ 9223372036854775807) (hb : -9223372036854775808 ≤ b ∧ b ≤ 9223372036854775807) (ht : Tab w) :
    Calls Tryd.prog 7 #[(.agg #[.int .i64 p, .int .i64 q]), .int .i64 a, .int .i64 b] w fun e w' => e = .returned (.bool true) ∧ Below w.heap.size w w' := by
  have hF := field0
  have hR := fun w => right_any p q w
  have hr : rightB p q = true → 0 ≤ p ∧ p ≤ 1099511627776 ∧ 0 ≤ q ∧ q ≤ 65535 := fun h => by
    unfold rightB at h
    simp at h
    omega
  have hB0 := (Below.refl w.heap.size w).alloc (Nat.le_refl _) (.cells #[.int .i64 p, .int .i64 q] 23)
  by_cases hc : rightB p q = true ∧ 0 ≤ a ∧ 0 ≤ b ∧ a ≤ 2199023255552 ∧ b ≤ 2199023255552
  · obtain ⟨h1, h2, h3, h4, h5⟩ := hc
    obtain ⟨r1, r2, r3, r4⟩ := hr h1
    rw [h1] at hR
    have eX : plusI p a = min (p + a) 1099511627776 := by unfold plusI bnd; omega
    have eY : plusI p (a + b) = min (p + a + b) 1099511627776 := by unfold plusI bnd; omega
    have eZ : p + a ≤ 1099511627776 → plusI (plusI p a) b = plusI p (a + b) := fun h => by rw [eX, eY]; unfold plusI bnd; omega
    have eU : plusI p (-a) = max (p - a) 0 := by unfold plusI bnd; omega
    have hX := fun w => plus_any' p q a w
    have hY := fun w => plus_any' p q (a + b) w
    have hZ := fun w => plus_any' (plusI p a) 65535 b w
    have hU := fun w => plus_any' p q (-a) w
    rw [eU] at hU
    have lX : rightB (plusI p a) 65535 = true := by rw [eX]; unfold rightB; simp; omega
    have lX2 : lessB (plusI p a) 65535 p q = false := by
      rw [eX]
      unfold lessB cmpS orI cmpI
      simp
      split <;> (try split) <;> (try split) <;> (try split) <;> omega
    have lY : lessB (plusI p (a + b)) 65535 (plusI p a) 65535 = false := by
      rw [eX, eY]
      unfold lessB cmpS orI cmpI
      simp
      split <;> (try split) <;> (try split) <;> (try split) <;> omega
    clear eX eY eU hr h1
    generalize plusI p a = X at *
    generalize plusI p (a + b) = Y at *
    have hRX := fun w => right_any X 65535 w
    rw [lX] at hRX
    have hL1 := fun w => less_any X 65535 p q w
    rw [lX2] at hL1
    have hL2 := fun w => less_any Y 65535 X 65535 w
    rw [lY] at hL2
    clear lX lX2 lY
    have main : ∀ Z : Int, (∀ w, Calls Tryd.prog 19 #[(.agg #[.int .i64 X, .int .i64 65535]), .int .i64 b] w fun e w' => e = .returned (.agg #[.int .i64 Z, .int .i64 65535]) ∧ Below w.heap.size w w') → (p + a ≤ 1099511627776 → Y = Z) →
        Calls Tryd.prog 7 #[(.agg #[.int .i64 p, .int .i64 q]), .int .i64 a, .int .i64 b] w fun e w' => e = .returned (.bool true) ∧ Below w.heap.size w w' := by
      intro Z hZ' hE
      have hg : (p + a ≤ 1099511627776 ∧ (Y == Z) = true) ∨ (1099511627776 < p + a) := by by_cases h : p + a ≤ 1099511627776; exact .inl ⟨h, by simpa using hE h⟩; exact .inr (by omega)
      clear hE
      rcases hg with ⟨hg, hyz⟩ | hg
      all_goals
        go_enter Tryd.func7, Tryd.ntmps7
        go_wp2_with fail
        refine (hR _).mono ?_
        rintro e w1 ⟨rfl, hb1⟩
        have s1 := (At.new w p q 23).below hb1 (Nat.le_refl _)
        have R1 := hB0.trans (hb1.mono (by simp))
        have z1 := R1.size
        have k0 := s1.c0
        have k1 := s1.c1
        clear hb1 hB0
        go_wp2_with fail
        refine (hX _).mono ?_
        rintro e w2 ⟨rfl, hb2⟩
        have s2 := s1.below hb2 (Nat.le_refl _)
        have R2 := R1.trans (hb2.mono z1)
        have z2 := R2.size
        clear hb2 s1 R1 z1 k0 k1
        have k0 := fun o => (s2.alloc o).c0
        have k1 := fun o => (s2.alloc o).c1
        go_wp2_with fail
        refine (hY _).mono ?_
        rintro e w3 ⟨rfl, hb3⟩
        have s3 := (s2.alloc _).below hb3 (Nat.le_refl _)
        have x3 := (At.new w2 X 65535 23).below hb3 (Nat.le_refl _)
        have R3 := (R2.alloc z2 _).trans (hb3.mono (by simp; omega))
        have z3 := R3.size
        clear hb3 s2 R2 z2 k0 k1
        have k0 := fun o => (x3.alloc o).c0
        have k1 := fun o => (x3.alloc o).c1
        go_wp2_with fail
        refine (hZ' _).mono ?_
        rintro e w4 ⟨rfl, hb4⟩
        have s4 := ((s3.alloc _).below hb4 (Nat.le_refl _)).alloc (.cells #[.int .i64 Z, .int .i64 65535] 23)
        have x4 := ((x3.alloc _).below hb4 (Nat.le_refl _)).alloc (.cells #[.int .i64 Z, .int .i64 65535] 23)
        have y4 := ((At.new w3 Y 65535 23).below hb4 (Nat.le_refl _)).alloc (.cells #[.int .i64 Z, .int .i64 65535] 23)
        have q4 := At.new w4 Z 65535 23
        have R4 := (R3.alloc z3 _).trans (hb4.mono (by simp; omega))
        have R5 := R4.alloc R4.size (.cells #[.int .i64 Z, .int .i64 65535] 23)
        clear hb4 s3 x3 R3 z3 k0 k1 R4
        go_wp2_with fail
        generalize w2.heap.size = n2 at *
        generalize w3.heap.size = n3 at *
        generalize w4.heap.size = n4 at *
        generalize w4.alloc (.cells #[.int .i64 Z, .int .i64 65535] 23) = W at *
        have T5 := ht.below R5
        have k0 := fun i : Later W => (s4.below i.below (Nat.le_refl _)).c0
        have k1 := fun i : Later W => (s4.below i.below (Nat.le_refl _)).c1
        have k2 := fun i : Later W => (x4.below i.below (Nat.le_refl _)).c0
        have k3 := fun i : Later W => (x4.below i.below (Nat.le_refl _)).c1
        have k4 := fun i : Later W => (y4.below i.below (Nat.le_refl _)).c0
        have k5 := fun i : Later W => (y4.below i.below (Nat.le_refl _)).c1
        have k6 := fun i : Later W => (q4.below i.below (Nat.le_refl _)).c0
        have k7 := fun i : Later W => (q4.below i.below (Nat.le_refl _)).c1
        have kt := hide (fun i : Later W => T5.below i.below)
        have inst : Nonempty (Later W) := ⟨⟨W, Below.refl _ _⟩⟩
        have HB := hide R5
        clear s4 x4 y4 q4 T5 R5
        refine wp_region_later (by kernel_rfl) (by kernel_rfl) ?_
        repeat (first
          | go_big_quiet_step ((go_at_call 12; exact calls_later (alive_any _ (unhide kt _))))
          | go_big_quiet_step ((go_at_call 13; exact calls_later (hRX _)))
          | go_big_quiet_step ((go_at_call 19; exact calls_later (hU _)))
          | go_big_quiet_step ((go_at_call 16; with_reducible exact calls_later (hL1 _)))
          | go_big_quiet_step ((go_at_call 16; with_reducible exact calls_later (hL2 _)))
          | quiet_step (fail))
        refine wpQuiet_nil ?_
        intro w' hw'
        obtain ⟨i, rfl⟩ := hw'
        go_wp2
        go_ret
        exact ⟨rfl, (unhide HB).trans (i.below.mono (unhide HB).size)⟩
    exact main _ hZ (fun h => (eZ h).symm)
  · clear hr
    have hn : rightB p q = true → ¬ (0 ≤ a ∧ 0 ≤ b ∧ a ≤ 2199023255552 ∧ b ≤ 2199023255552) := fun h1 h2 => hc ⟨h1, h2⟩
    clear hc
    generalize rightB p q = x at *
    cases x
    all_goals
      have hn' := hn
      clear hn
      go_enter Tryd.func7, Tryd.ntmps7
      go_wp2_with fail
      refine (hR _).mono ?_
      rintro e w1 ⟨rfl, hb1⟩
      have R1 := hB0.trans (hb1.mono (by simp))
      have z1 := R1.size
      have T1 := ht.below R1
      have Hn := hide hn'
      clear hb1 hB0 hn'
      go_wp2_with fail
      all_goals
        first
        | (refine (alive_any _ T1).mono ?_
           rintro e w2 ⟨rfl, hb2⟩
           have R2 := R1.trans (hb2.mono z1)
           clear hb2 R1 z1 T1
           go_wp2
           go_ret
           exact ⟨rfl, R2⟩)
        | (exfalso
           have := unhide Hn (by first | exact True.intro | rfl)
           omega)

theorem walkStampPlus {w : World} (ht : Tab w) (v : Value) (z : Int × Int) (hz : Stm v z) (a : Int) (wa : (Lit.int .i64 a).wf = true) (b : Int) (wb : (Lit.int .i64 b).wf = true) :
    Calls Tryd.prog 7 #[v, .int .i64 a, .int .i64 b] w fun e w' => e = .returned (.bool true) ∧ Below w.heap.size w w' := by
  obtain ⟨rfl, h0, h1, h2, h3⟩ := hz
  exact walkStampPlusC w z.1 z.2 a b ⟨h0, h1⟩ ⟨h2, h3⟩ (bounds_i64 wa) (bounds_i64 wb) ht

end Go.Proofs.YtjeefpibhkngiaaDoor
