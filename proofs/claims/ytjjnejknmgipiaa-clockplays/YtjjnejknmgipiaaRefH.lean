/-
  Contracts of the document's own clock: New, Set, Hear. No law is proved here.
-/
import Derived.Test.YtjjnejknmgipiaaHear
import Derived.Test.YtjjnejknmgipiaaRefS
namespace Go.Proofs.Ytjjnejknmgipiaa
open Go.RowKit
set_option linter.unusedVariables false

section
set_option maxRecDepth 100000
theorem refnew_yes (o : Int) (h0 : 0 ≤ o) (h1 : o ≤ 1099511627776) (w : World) : Calls Try.prog 9 #[.int .i64 o] w fun e w' =>
    e = .returned (.tuple #[.pointer (some ⟨w.heap.size, 0, none⟩), .int .i64 0]) ∧ w' = w.alloc (.cells #[.int .i64 0, .int .i64 o, .int .i64 0, .int .i64 0] 41) := by
  go_enter Try.func9, Try.ntmps9
  go_wp2
  go_ret2
  exact ⟨rfl, rfl⟩

theorem refnew_no (o : Int) (h : o < 0 ∨ 1099511627776 < o) (w : World) : Calls Try.prog 9 #[.int .i64 o] w fun e w' =>
    e = .returned (.tuple #[.pointer none, .int .i64 1]) ∧ w' = w := by
  by_cases h0 : o < 0
  · clear h
    go_enter Try.func9, Try.ntmps9
    go_wp2
    go_ret2
    exact ⟨rfl, rfl⟩
  · have h1 : 1099511627776 < o := by omega
    clear h
    go_enter Try.func9, Try.ntmps9
    go_wp2
    go_ret2
    exact ⟨rfl, rfl⟩

theorem refset_any (B : Nat) (o p a b x : Int) (w : World) (h : Four w B p o a b) : Calls Try.prog 12 #[.pointer (some ⟨B, 0, none⟩), .int .i64 x] w fun e w' =>
    e = .returned (.int .i64 (setE p x)) ∧ Four w' B (setP p x) o a b ∧ Mv B w w' := by
  have Hh := hide h
  obtain ⟨c0, c1, c2, c3, f0, f1, f2, f3⟩ := h
  by_cases h1 : x < p
  · have e1 : setE p x = 42 := by unfold setE; rw [if_pos (.inl h1)]
    have e2 : setP p x = p := by unfold setP; rw [if_pos (.inl h1)]
    rw [e1, e2]
    go_enter Try.func12, Try.ntmps12
    go_wp2
    go_ret
    exact ⟨rfl, unhide Hh, Mv.refl _ _⟩
  · by_cases h2 : 1099511627776 < x
    · have e1 : setE p x = 42 := by unfold setE; rw [if_pos (.inr h2)]
      have e2 : setP p x = p := by unfold setP; rw [if_pos (.inr h2)]
      rw [e1, e2]
      go_enter Try.func12, Try.ntmps12
      go_wp2
      go_ret
      exact ⟨rfl, unhide Hh, Mv.refl _ _⟩
    · have e1 : setE p x = 0 := by unfold setE; rw [if_neg (by omega)]
      have e2 : setP p x = x := by unfold setP; rw [if_neg (by omega)]
      rw [e1, e2]
      go_enter Try.func12, Try.ntmps12
      go_wp2
      go_ret
      exact ⟨rfl, (unhide Hh).set0 x, (Mv.refl _ _).set _ _⟩

set_option maxHeartbeats 1000000 in
theorem refhear_any (B : Nat) (o p a b c d : Int) (w : World) (h : Four w B p o a b) (ho : 0 ≤ o ∧ o ≤ 1099511627776) (hp : 0 ≤ p ∧ p ≤ 1099511627776) :
    Calls Try.prog 16 #[.pointer (some ⟨B, 0, none⟩), .agg #[.int .i64 c, .int .i64 d]] w fun e w' =>
      e = .returned (.int .i64 (hearE o p c d)) ∧ Four w' B p o (hearL o p a b c d).1 (hearL o p a b c d).2 ∧ Mv B w w' := by
  obtain ⟨ho0, ho1⟩ := ho
  obtain ⟨hp0, hp1⟩ := hp
  have hR := fun w => refright_any c d w
  have hh := h.alloc (.cells #[.int .i64 c, .int .i64 d] 32)
  have s0 := Two.new w c d 32
  have hB := (Below.refl w.heap.size w).alloc (Nat.le_refl _) (.cells #[.int .i64 c, .int .i64 d] 32)
  have n0 : B ≠ w.heap.size := by have := h.lt; omega
  clear h
  cases hr : rightB c d
  · have e1 : hearE o p c d = 31 := by unfold hearE; rw [hr]; rfl
    have e2 : hearL o p a b c d = (a, b) := by unfold hearL; rw [e1]; rfl
    rw [e1, e2]
    rw [hr] at hR
    clear hr e1 e2
    go_enter Try.func16, Try.ntmps16
    go_wp2_with fail
    refine (hR _).mono ?_
    rintro e w1 ⟨rfl, hb1⟩
    have HH := hide (hh.later hb1)
    have HB := hide (hB.trans (hb1.mono hB.size))
    clear hB hb1 hh s0
    go_wp2
    go_ret
    exact ⟨rfl, unhide HH, Mv.of (unhide HB)⟩
  · rw [hr] at hR
    have hq := (right_iff _ _).1 hr
    obtain ⟨q0, q1, q2, q3⟩ := hq
    by_cases hs : p + o < c
    · have e1 : hearE o p c d = 41 := by unfold hearE; rw [hr, if_pos rfl, if_pos hs]
      have e2 : hearL o p a b c d = (a, b) := by unfold hearL; rw [e1]; rfl
      rw [e1, e2]
      clear hr e1 e2
      go_enter Try.func16, Try.ntmps16
      go_wp2_with fail
      refine (hR _).mono ?_
      rintro e w1 ⟨rfl, hb1⟩
      replace hh := hh.later hb1
      replace s0 := s0.later hb1
      have HH := hide hh
      have HB := hide (hB.trans (hb1.mono hB.size))
      clear hB hb1
      obtain ⟨c0, c1, c2, c3, f0, f1, f2, f3⟩ := hh
      obtain ⟨d0, d1, g0, g1⟩ := s0
      go_wp2_with fail
      go_quiet (fail)
      go_wp2
      go_ret
      exact ⟨rfl, (unhide HH).later (below_drewN _ _ _), (Mv.of (unhide HB)).later (below_drewN _ _ _)⟩
    · have hs' : c ≤ p + o := by omega
      have e1 : hearE o p c d = 0 := by unfold hearE; rw [hr, if_pos rfl, if_neg hs]
      have main : ∀ (X Y : Int), (∀ w, Calls Try.prog 28 #[.agg #[.int .i64 a, .int .i64 b], .agg #[.int .i64 c, .int .i64 d]] w fun e w' => e = .returned (.agg #[.int .i64 X, .int .i64 Y]) ∧ Below w.heap.size w w') →
          Calls Try.prog 16 #[.pointer (some ⟨B, 0, none⟩), .agg #[.int .i64 c, .int .i64 d]] w fun e w' => e = .returned (.int .i64 0) ∧ Four w' B p o X Y ∧ Mv B w w' := by
        intro X Y hM
        clear hr e1 hs
        go_enter Try.func16, Try.ntmps16
        go_wp2_with fail
        refine (hR _).mono ?_
        rintro e w1 ⟨rfl, hb1⟩
        replace hh := hh.later hb1
        replace s0 := s0.later hb1
        have HH := hide hh
        have HB := hide (hB.trans (hb1.mono hB.size))
        clear hB hb1
        obtain ⟨c0, c1, c2, c3, f0, f1, f2, f3⟩ := hh
        obtain ⟨d0, d1, g0, g1⟩ := id s0
        have S0 := hide s0
        clear s0
        go_wp2_with fail
        go_quiet (fail)
        go_wp2_with fail
        have s0 := unhide S0
        have hD := below_drewN w1.heap.size w1 nq
        have hh := (unhide HH).later hD
        have s0 := s0.later hD
        have hB := (unhide HB).trans (hD.mono (unhide HB).size)
        clear HH HB hD c0 c1 c2 c3 f0 f1 f2 f3 d0 d1 g0 g1
        generalize w1.drewN nq = W at *
        obtain ⟨c0, c1, c2, c3, f0, f1, f2, f3⟩ := hh
        have hh : Four W B p o a b := ⟨c0, c1, c2, c3, f0, f1, f2, f3⟩
        obtain ⟨d0, d1, g0, g1⟩ := s0
        have HH := hide hh
        have HB := hide hB
        have hD := (Below.refl W.heap.size W).drew
        clear hh hB
        go_region_with ((go_at_call 28; refine (hM _).mono ?_; rintro e w2 ⟨rfl, hb2⟩; have hh := ((unhide HH).later hD).later hb2; have c2 := hh.c2; have c3 := hh.c3; have f2 := hh.f2; have f3 := hh.f3; have HH := hide hh; have HB := hide ((unhide HB).trans ((hD.trans (hb2.mono (Nat.le_refl _))).mono (unhide HB).size)); clear hh hb2))
        all_goals
          go_wp2
          go_ret
          exact ⟨rfl, ((unhide HH).set2 X).set3 Y, ((Mv.of (unhide HB)).set _ _).set _ _⟩
      rw [e1]
      unfold hearL
      rw [e1, if_pos rfl]
      cases hl : lessB a b c d
      · exact main a b (fun w => by have := refmax_any a b c d w; rw [hl] at this; exact this)
      · exact main c d (fun w => by have := refmax_any a b c d w; rw [hl] at this; exact this)
end

end Go.Proofs.Ytjjnejknmgipiaa
