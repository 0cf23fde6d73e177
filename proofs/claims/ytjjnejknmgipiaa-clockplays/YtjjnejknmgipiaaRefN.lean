/-
  Contracts of the document's own clock: New, Set, Now. No law is proved here.
-/
import Derived.Test.YtjjnejknmgipiaaNow
import Derived.Test.YtjjnejknmgipiaaRefS
namespace Go.Proofs.Ytjjnejknmgipiaa
open Go.RowKit
set_option linter.unusedVariables false

section
set_option maxRecDepth 100000
set_option maxHeartbeats 1000000 in
theorem refnow_any (B : Nat) (o p a b : Int) (w : World) (h : Four w B p o a b) (hb : 0 ≤ b) : Calls Try.prog 14 #[.pointer (some ⟨B, 0, none⟩)] w fun e w' =>
    e = .returned (.tuple #[.agg #[.int .i64 (nowS p a b).1, .int .i64 (nowS p a b).2.1], .int .i64 (nowS p a b).2.2]) ∧ Four w' B p o (nowL p a b).1 (nowL p a b).2 ∧ Mv B w w' := by
  have Hh := hide h
  have hlt := h.lt
  have k1 := fun o => (h.alloc o).c0
  have hX := fun w => refnext_any a b w
  cases hl : lessB a b p 0
  · have hls := (less_not _ _ _ _).1 hl
    have hn : nowS p a b = if (nxt a b).2.2 = 0 then nxt a b else (0, 0, 42) := by unfold nowS; rw [hl]; rfl
    have hM := fun w => refless_any a b p 0 w
    rw [hl] at hM
    have n0 : B ≠ w.heap.size := by omega
    have n1 : B ≠ w.heap.size + 1 := by omega
    have hcs : nxt a b = (0, 0, 31) ∨ ∃ x y, nxt a b = (x, y, 0) := by
      rcases nxt_cases a b with ⟨_, h⟩ | ⟨_, _, h⟩ | ⟨_, x, y, h, _⟩
      · exact .inl h
      · exact .inl h
      · exact .inr ⟨x, y, h⟩
    rcases hcs with hx | ⟨x, y, hx⟩
    · rw [hx] at hX hn
      rw [if_neg (by decide)] at hn
      have hn2 : nowL p a b = (a, b) := by unfold nowL; rw [hn]; rfl
      rw [hn, hn2]
      clear hn hn2 hx
      have hh := (h.alloc (.cells #[.int .i64 0, .int .i64 0] 32)).alloc (.cells #[.int .i64 p, .int .i64 0] 32)
      have hB := ((Below.refl w.heap.size w).alloc (Nat.le_refl _) (.cells #[.int .i64 0, .int .i64 0] 32)).alloc (by simp) (.cells #[.int .i64 p, .int .i64 0] 32)
      have s0 := (Two.new w 0 0 32).alloc (.cells #[.int .i64 p, .int .i64 0] 32)
      have s1 := Two.new (w.alloc (.cells #[.int .i64 0, .int .i64 0] 32)) p 0 32
      clear hl h hls
      go_enter Try.func14, Try.ntmps14
      go_wp2_with fail
      have e : (w.alloc (.cells #[.int .i64 0, .int .i64 0] 32)).heap.size = w.heap.size + 1 := by simp
      rw [e] at s1
      generalize (w.alloc (.cells #[.int .i64 0, .int .i64 0] 32)).alloc (.cells #[.int .i64 p, .int .i64 0] 32) = W at *
      have k0 := fun i : Later W => (s1.later i.below).c0
      have k1 := fun i : Later W => (s1.later i.below).c1
      have k2 := fun i : Later W => (hh.later i.below).c2
      have k3 := fun i : Later W => (hh.later i.below).c3
      have inst : Nonempty (Later W) := ⟨⟨W, Below.refl _ _⟩⟩
      refine wp_region_later (by kernel_rfl) (by kernel_rfl) ?_
      repeat (first
        | go_big_quiet_step ((go_at_call 25; exact calls_later (hM _)))
        | quiet_step (fail))
      refine wpQuiet_nil ?_
      intro w' hw'
      obtain ⟨⟨W2, hb2⟩, rfl⟩ := hw'
      replace s0 := s0.later hb2
      replace s1 := s1.later hb2
      replace hh := hh.later hb2
      replace hB := hB.trans (hb2.mono hB.size)
      clear hb2 inst k0 k1 k2 k3 hM e
      have c2 := hh.c2
      have c3 := hh.c3
      go_wp2_with fail
      refine (hX _).mono ?_
      rintro e w3 ⟨rfl, hb3⟩
      replace s0 := s0.later hb3
      replace hh := hh.later hb3
      replace hB := hB.trans (hb3.mono hB.size)
      clear hb3 s1 c2 c3 hX
      have Hs := hide (And.intro s0 hh)
      have HB := hide hB
      have q0 := fun o => (s0.alloc o).c0
      have q1 := fun o => (s0.alloc o).c1
      have q2 := fun o => (s0.alloc o).f0
      have q3 := fun o => (s0.alloc o).f1
      clear hB hh s0
      go_wp2
      obtain ⟨s0, hh⟩ := unhide Hs
      have t := (s0.alloc (.cells #[.int .i64 0, .int .i64 0] 32)).put 0 0
      refine bodyPost_ret (results_stp2 Try.results14 rfl rfl t.c0 t.c1) rfl ?_
      exact ⟨rfl, ((hh.alloc _).setOther (q := ⟨w.heap.size, 0, none⟩) n0.symm _).setOther (q := ⟨w.heap.size, 1, none⟩) n0.symm _, (((Mv.of (unhide HB)).alloc _).new (Nat.le_refl _) _).new (Nat.le_refl _) _⟩
    · rw [hx] at hX hn
      rw [if_pos rfl] at hn
      have hn2 : nowL p a b = (x, y) := by unfold nowL; rw [hn]; rfl
      rw [hn, hn2]
      clear hn hn2 hx
      have hh := (h.alloc (.cells #[.int .i64 0, .int .i64 0] 32)).alloc (.cells #[.int .i64 p, .int .i64 0] 32)
      have hB := ((Below.refl w.heap.size w).alloc (Nat.le_refl _) (.cells #[.int .i64 0, .int .i64 0] 32)).alloc (by simp) (.cells #[.int .i64 p, .int .i64 0] 32)
      have s0 := (Two.new w 0 0 32).alloc (.cells #[.int .i64 p, .int .i64 0] 32)
      have s1 := Two.new (w.alloc (.cells #[.int .i64 0, .int .i64 0] 32)) p 0 32
      clear hl h hls
      go_enter Try.func14, Try.ntmps14
      go_wp2_with fail
      have e : (w.alloc (.cells #[.int .i64 0, .int .i64 0] 32)).heap.size = w.heap.size + 1 := by simp
      rw [e] at s1
      generalize (w.alloc (.cells #[.int .i64 0, .int .i64 0] 32)).alloc (.cells #[.int .i64 p, .int .i64 0] 32) = W at *
      have k0 := fun i : Later W => (s1.later i.below).c0
      have k1 := fun i : Later W => (s1.later i.below).c1
      have k2 := fun i : Later W => (hh.later i.below).c2
      have k3 := fun i : Later W => (hh.later i.below).c3
      have inst : Nonempty (Later W) := ⟨⟨W, Below.refl _ _⟩⟩
      refine wp_region_later (by kernel_rfl) (by kernel_rfl) ?_
      repeat (first
        | go_big_quiet_step ((go_at_call 25; exact calls_later (hM _)))
        | quiet_step (fail))
      refine wpQuiet_nil ?_
      intro w' hw'
      obtain ⟨⟨W2, hb2⟩, rfl⟩ := hw'
      replace s0 := s0.later hb2
      replace s1 := s1.later hb2
      replace hh := hh.later hb2
      replace hB := hB.trans (hb2.mono hB.size)
      clear hb2 inst k0 k1 k2 k3 hM e
      have c2 := hh.c2
      have c3 := hh.c3
      go_wp2_with fail
      refine (hX _).mono ?_
      rintro e w3 ⟨rfl, hb3⟩
      replace s0 := s0.later hb3
      replace s1 := s1.later hb3
      replace hh := hh.later hb3
      replace hB := hB.trans (hb3.mono hB.size)
      clear hb3 c2 c3 hX
      have z3 := hB.size
      have Hs := hide (And.intro s0 (And.intro s1 hh))
      have HB := hide hB
      have p0 := fun o => (s1.alloc o).c0
      have p1 := fun o => (s1.alloc o).c1
      have p2 := fun o => (s1.alloc o).f0
      have p3 := fun o => (s1.alloc o).f1
      have m0 : w.heap.size + 1 ≠ w.heap.size := by omega
      have r0 := fun o u v => (((s0.alloc o).other (q := ⟨w.heap.size + 1, 0, none⟩) m0 u).other (q := ⟨w.heap.size + 1, 1, none⟩) m0 v)
      have r1 := fun o u v => (((hh.alloc o).setOther (q := ⟨w.heap.size + 1, 0, none⟩) n1.symm u).setOther (q := ⟨w.heap.size + 1, 1, none⟩) n1.symm v)
      have r2 := fun o => (s1.alloc o).put x y
      have q0 := fun o u v u' v' => (((r0 o u v).other (q := ⟨B, 2, none⟩) n0 u').other (q := ⟨B, 3, none⟩) n0 v')
      have q1 := fun o u' v' => (((r2 o).other (q := ⟨B, 2, none⟩) n1 u').other (q := ⟨B, 3, none⟩) n1 v')
      have a0 := fun o u v => (r1 o u v).c2
      have a1 := fun o u v => (r1 o u v).c3
      have a2 := fun o u v => (r1 o u v).f2
      have a3 := fun o u v => (r1 o u v).f3
      have a4 := fun o => (r2 o).c0
      have a5 := fun o => (r2 o).c1
      have a6 := fun o u v u' v' => (q0 o u v u' v').c0
      have a7 := fun o u v u' v' => (q0 o u v u' v').c1
      have a8 := fun o u v u' v' => (q0 o u v u' v').f0
      have a9 := fun o u v u' v' => (q0 o u v u' v').f1
      have b0 := fun o u' v' => (q1 o u' v').c0
      have b1 := fun o u' v' => (q1 o u' v').c1
      clear hB hh s0 s1 r0 r1 r2 q0 q1
      go_wp2
      obtain ⟨s0, s1, hh⟩ := unhide Hs
      have t := (((((s0.alloc (.cells #[.int .i64 x, .int .i64 y] 32)).other (q := ⟨w.heap.size + 1, 0, none⟩) m0 (.int .i64 x)).other (q := ⟨w.heap.size + 1, 1, none⟩) m0 (.int .i64 y)).other (q := ⟨B, 2, none⟩) n0 (.int .i64 x)).other (q := ⟨B, 3, none⟩) n0 (.int .i64 y)).put x y
      refine bodyPost_ret (results_stp2 Try.results14 rfl rfl t.c0 t.c1) rfl ?_
      exact ⟨rfl, ((((((hh.alloc _).setOther (q := ⟨w.heap.size + 1, 0, none⟩) n1.symm _).setOther (q := ⟨w.heap.size + 1, 1, none⟩) n1.symm _).set2 x).set3 y).setOther (q := ⟨w.heap.size, 0, none⟩) n0.symm _).setOther (q := ⟨w.heap.size, 1, none⟩) n0.symm _,
        (((((((Mv.of (unhide HB)).alloc _).new (by simp) _).new (by simp) _).set _ _).set _ _).new (Nat.le_refl _) _).new (Nat.le_refl _) _⟩
  · have hls := (less_iff _ _ _ _).1 hl
    have hM := fun w => refless_any a b p 0 w
    have hl2 : lessB p 0 a b = false := (less_not _ _ _ _).2 (by omega)
    have hpa : ¬ p = a := by omega
    rw [hl] at hM
    have e1 : nowS p a b = (p, 0, 0) := by unfold nowS; rw [if_pos hl]
    have e2 : nowL p a b = (p, 0) := by unfold nowL; rw [e1]; rfl
    rw [e1, e2]
    have hh := (h.alloc (.cells #[.int .i64 0, .int .i64 0] 32)).alloc (.cells #[.int .i64 p, .int .i64 0] 32)
    have hB := ((Below.refl w.heap.size w).alloc (Nat.le_refl _) (.cells #[.int .i64 0, .int .i64 0] 32)).alloc (by simp) (.cells #[.int .i64 p, .int .i64 0] 32)
    have s0 := (Two.new w 0 0 32).alloc (.cells #[.int .i64 p, .int .i64 0] 32)
    have s1 := Two.new (w.alloc (.cells #[.int .i64 0, .int .i64 0] 32)) p 0 32
    clear hl hls hl2 e1 e2 h
    go_enter Try.func14, Try.ntmps14
    go_wp2_with fail
    have e : (w.alloc (.cells #[.int .i64 0, .int .i64 0] 32)).heap.size = w.heap.size + 1 := by simp
    rw [e] at s1
    generalize (w.alloc (.cells #[.int .i64 0, .int .i64 0] 32)).alloc (.cells #[.int .i64 p, .int .i64 0] 32) = W at *
    have k0 := fun i : Later W => (s1.later i.below).c0
    have k1 := fun i : Later W => (s1.later i.below).c1
    have k2 := fun i : Later W => (hh.later i.below).c2
    have k3 := fun i : Later W => (hh.later i.below).c3
    have inst : Nonempty (Later W) := ⟨⟨W, Below.refl _ _⟩⟩
    refine wp_region_later (by kernel_rfl) (by kernel_rfl) ?_
    repeat (first
      | go_big_quiet_step ((go_at_call 25; exact calls_later (hM _)))
      | quiet_step (fail))
    refine wpQuiet_nil ?_
    intro w' hw'
    obtain ⟨⟨W2, hb2⟩, rfl⟩ := hw'
    replace s0 := s0.later hb2
    replace s1 := s1.later hb2
    replace hh := hh.later hb2
    replace hB := hB.trans (hb2.mono hB.size)
    clear hb2 inst k0 k1 k2 k3 hM hX e
    have n0 : B ≠ w.heap.size := by omega
    have n1 : B ≠ w.heap.size + 1 := by omega
    have q0 := fun u v => ((s0.other (q := ⟨B, 2, none⟩) n0 u).other (q := ⟨B, 3, none⟩) n0 v).c0
    have q1 := fun u v => ((s0.other (q := ⟨B, 2, none⟩) n0 u).other (q := ⟨B, 3, none⟩) n0 v).c1
    have q2 := fun u v => ((s1.other (q := ⟨B, 2, none⟩) n1 u).other (q := ⟨B, 3, none⟩) n1 v).c0
    have q3 := fun u v => ((s1.other (q := ⟨B, 2, none⟩) n1 u).other (q := ⟨B, 3, none⟩) n1 v).c1
    have Hs := hide (And.intro s0 hh)
    have HB := hide hB
    obtain ⟨c0, c1, c2, c3, f0, f1, f2, f3⟩ := hh
    obtain ⟨d0, d1, g0, g1⟩ := s0
    obtain ⟨d2, d3, g2, g3⟩ := s1
    clear hB
    go_wp2
    obtain ⟨s0, hh⟩ := unhide Hs
    have t := ((s0.other (q := ⟨B, 2, none⟩) n0 (.int .i64 p)).other (q := ⟨B, 3, none⟩) n0 (.int .i64 0)).put p 0
    refine bodyPost_ret (results_stp2 Try.results14 rfl rfl t.c0 t.c1) rfl ?_
    exact ⟨rfl, (((hh.set2 p).set3 0).setOther (q := ⟨w.heap.size, 0, none⟩) n0.symm _).setOther (q := ⟨w.heap.size, 1, none⟩) n0.symm _, ((((Mv.of (unhide HB)).set _ _).set _ _).new (Nat.le_refl _) _).new (Nat.le_refl _) _⟩
end

end Go.Proofs.Ytjjnejknmgipiaa
