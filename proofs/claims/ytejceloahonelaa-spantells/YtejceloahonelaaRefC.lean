/-
  The document's answer: Clip. No law is proved here.
-/
import Derived.Test.YtejceloahonelaaRef
namespace Go.Proofs.Ytejceloahonelaa
open Go.RowKit
set_option linter.unusedVariables false

section
set_option maxRecDepth 100000
set_option maxHeartbeats 2000000

theorem clip_one_a {af bf bt : ByteArray} (h : clipB af emp bf bt = true) : clipF af emp bf bt = af ∧ clipT af emp bf bt = emp := by
  have h0 := h
  rw [clipB_iff] at h
  unfold clipF clipT
  rw [h0, cond_true, cond_true]
  have hn := min_cases emp bt
  unfold H at h
  generalize Lib.maxS af bf = m at *
  generalize Lib.minS emp bt = n at *
  grind (splits := 40) [L.tot, L.irr, → L.tr, emp_lt, not_lt_emp, K.ne]
theorem clip_one_b {af at' bf : ByteArray} (h : clipB af at' bf emp = true) : clipF af at' bf emp = bf ∧ clipT af at' bf emp = emp := by
  rw [← clipF_sym, ← clipT_sym]
  rw [← clip_sym] at h
  exact clip_one_a h

theorem refClip_any (af at' bf bt : ByteArray) (w : World) (h1 : af.size ≤ 9223372036854775807) (h2 : at'.size ≤ 9223372036854775807) (h3 : bf.size ≤ 9223372036854775807) (h4 : bt.size ≤ 9223372036854775807) :
    Calls Try.prog 12 #[.agg #[.string af, .string at'], .agg #[.string bf, .string bt]] w fun e w' =>
      e = .returned (.tuple #[.agg #[.string (clipF af at' bf bt), .string (clipT af at' bf bt)], .bool (clipB af at' bf bt)]) ∧ Below w.heap.size w w' := by
  have H0 := hide (Three.new w af at' bf bt 23)
  have e0 : (at'.toList == []) = eqB at' emp := by unfold eqB; rw [emp_toList]
  have e1 : (bt.toList == []) = eqB bt emp := by unfold eqB; rw [emp_toList]
  have e2 : Op.bytesLess bf.toList af.toList = ltB bf af := rfl
  have e3 : (bf.toList == af.toList) = eqB bf af := rfl
  have e4 : Op.bytesLess bt.toList at'.toList = ltB bt at' := rfl
  cases hc : clipB af at' bf bt
  · have ex : clipF af at' bf bt = emp := by unfold clipF; rw [hc]; rfl
    have ey : clipT af at' bf bt = emp := by unfold clipT; rw [hc]; rfl
    rw [ex, ey]
    clear ex ey
    go_enter Try.func12, Try.ntmps12
    go_wp2_with fail
    refine (refMeet_any _ _ _ _ _ h1 h2 h3 h4).mono ?_
    rintro e w1 ⟨rfl, hb⟩
    rw [hc]
    have H1 := hide ((unhide H0).later hb)
    obtain ⟨⟨a0, a1, af0, af1⟩, ⟨b0, b1, bf0, bf1⟩, ⟨c0, c1, cf0, cf1⟩, _⟩ := unhide H1
    clear hb
    go_wp2_with fail
    refine bodyPost_ret (results_sp2 Try.results12 rfl rfl ((unhide H1).c.put emp emp)) rfl ?_
    exact ⟨rfl, ((unhide H1).below.setCell (by show w.heap.size ≤ w.heap.size + 2; omega) _).setCell (by show w.heap.size ≤ w.heap.size + 2; omega) _⟩
  · cases he : eqB at' emp
    · cases hg : eqB bt emp
      · have hmax : clipF af at' bf bt = Lib.maxS af bf := by unfold clipF; rw [hc]; rfl
        have hmin : clipT af at' bf bt = Lib.minS at' bt := by unfold clipT; rw [hc]; rfl
        rw [hmax, hmin]
        clear hmax hmin
        rw [he] at e0
        rw [hg] at e1
        have hm := max_cases af bf
        have hn := min_cases at' bt
        rcases hm with ⟨hm, em⟩ | ⟨hm, em⟩ <;> rcases hn with ⟨hn, en⟩ | ⟨hn, en⟩ <;> rw [em, en] <;> clear em en
        · have d2 : ltB bf af = false := lt_asymm hm
          have d3 : eqB bf af = false := by cases q : eqB bf af with | false => rfl | true => rw [(eqB_iff _ _).1 q] at hm; exact absurd hm (L.irr _)
          have d4 : ltB bt at' = false := by unfold L at hn; simpa using hn
          rw [d2] at e2
          rw [d3] at e3
          rw [d4] at e4
          clear d2 d3 d4 he hg hm hn
          go_enter Try.func12, Try.ntmps12
          go_wp2_with fail
          refine (refMeet_any _ _ _ _ _ h1 h2 h3 h4).mono ?_
          rintro e w1 ⟨rfl, hb⟩
          rw [hc]
          have H1 := hide ((unhide H0).later hb)
          obtain ⟨⟨a0, a1, af0, af1⟩, ⟨b0, b1, bf0, bf1⟩, ⟨c0, c1, cf0, cf1⟩, _⟩ := unhide H1
          clear hb
          have A0 : ∀ o, (w1.alloc o).cell? ⟨w.heap.size, 0, none⟩ = some (.string af) := fun o => ((unhide H1).a.alloc o).c0
          have A1 : ∀ o, (w1.alloc o).cell? ⟨w.heap.size, 1, none⟩ = some (.string at') := fun o => ((unhide H1).a.alloc o).c1
          have B0 : ∀ o, (w1.alloc o).cell? ⟨w.heap.size + 1, 0, none⟩ = some (.string bf) := fun o => ((unhide H1).b.alloc o).c0
          have B1 : ∀ o, (w1.alloc o).cell? ⟨w.heap.size + 1, 1, none⟩ = some (.string bt) := fun o => ((unhide H1).b.alloc o).c1
          have C0 : ∀ o, (w1.alloc o).cell? ⟨w.heap.size + 2, 0, none⟩ = some (.string emp) := fun o => ((unhide H1).c.alloc o).c0
          have C1 : ∀ o, (w1.alloc o).cell? ⟨w.heap.size + 2, 1, none⟩ = some (.string emp) := fun o => ((unhide H1).c.alloc o).c1
          have F0 : ∀ o, (w1.alloc o).frozen? ⟨w.heap.size + 2, 0, none⟩ = false := fun o => ((unhide H1).c.alloc o).f0
          have F1 : ∀ o, (w1.alloc o).frozen? ⟨w.heap.size + 2, 1, none⟩ = false := fun o => ((unhide H1).c.alloc o).f1
          go_wp2_with fail
          refine bodyPost_ret (results_sp2 Try.results12 rfl rfl (((unhide H1).c.alloc _).put bf at')) rfl ?_
          exact ⟨rfl, (((unhide H1).below.alloc (unhide H1).below.size _).setCell (by show w.heap.size ≤ w.heap.size + 2; omega) _).setCell (by show w.heap.size ≤ w.heap.size + 2; omega) _⟩
        · have d2 : ltB bf af = false := lt_asymm hm
          have d3 : eqB bf af = false := by cases q : eqB bf af with | false => rfl | true => rw [(eqB_iff _ _).1 q] at hm; exact absurd hm (L.irr _)
          have d4 : ltB bt at' = true := hn
          rw [d2] at e2
          rw [d3] at e3
          rw [d4] at e4
          clear d2 d3 d4 he hg hm hn
          go_enter Try.func12, Try.ntmps12
          go_wp2_with fail
          refine (refMeet_any _ _ _ _ _ h1 h2 h3 h4).mono ?_
          rintro e w1 ⟨rfl, hb⟩
          rw [hc]
          have H1 := hide ((unhide H0).later hb)
          obtain ⟨⟨a0, a1, af0, af1⟩, ⟨b0, b1, bf0, bf1⟩, ⟨c0, c1, cf0, cf1⟩, _⟩ := unhide H1
          clear hb
          have A0 : ∀ o, (w1.alloc o).cell? ⟨w.heap.size, 0, none⟩ = some (.string af) := fun o => ((unhide H1).a.alloc o).c0
          have A1 : ∀ o, (w1.alloc o).cell? ⟨w.heap.size, 1, none⟩ = some (.string at') := fun o => ((unhide H1).a.alloc o).c1
          have B0 : ∀ o, (w1.alloc o).cell? ⟨w.heap.size + 1, 0, none⟩ = some (.string bf) := fun o => ((unhide H1).b.alloc o).c0
          have B1 : ∀ o, (w1.alloc o).cell? ⟨w.heap.size + 1, 1, none⟩ = some (.string bt) := fun o => ((unhide H1).b.alloc o).c1
          have C0 : ∀ o, (w1.alloc o).cell? ⟨w.heap.size + 2, 0, none⟩ = some (.string emp) := fun o => ((unhide H1).c.alloc o).c0
          have C1 : ∀ o, (w1.alloc o).cell? ⟨w.heap.size + 2, 1, none⟩ = some (.string emp) := fun o => ((unhide H1).c.alloc o).c1
          have F0 : ∀ o, (w1.alloc o).frozen? ⟨w.heap.size + 2, 0, none⟩ = false := fun o => ((unhide H1).c.alloc o).f0
          have F1 : ∀ o, (w1.alloc o).frozen? ⟨w.heap.size + 2, 1, none⟩ = false := fun o => ((unhide H1).c.alloc o).f1
          go_wp2_with fail
          refine bodyPost_ret (results_sp2 Try.results12 rfl rfl (((unhide H1).c.alloc _).put bf bt)) rfl ?_
          exact ⟨rfl, (((unhide H1).below.alloc (unhide H1).below.size _).setCell (by show w.heap.size ≤ w.heap.size + 2; omega) _).setCell (by show w.heap.size ≤ w.heap.size + 2; omega) _⟩
        · have d4 : ltB bt at' = false := by unfold L at hn; simpa using hn
          rcases L.tot bf af with q | q | q
          · have d2 : ltB bf af = true := q
            have d3 : eqB bf af = eqB bf af := rfl
            rw [d2] at e2
            rw [d3] at e3
            rw [d4] at e4
            clear d2 d3 d4 he hg hm hn
            go_enter Try.func12, Try.ntmps12
            go_wp2_with fail
            refine (refMeet_any _ _ _ _ _ h1 h2 h3 h4).mono ?_
            rintro e w1 ⟨rfl, hb⟩
            rw [hc]
            have H1 := hide ((unhide H0).later hb)
            obtain ⟨⟨a0, a1, af0, af1⟩, ⟨b0, b1, bf0, bf1⟩, ⟨c0, c1, cf0, cf1⟩, _⟩ := unhide H1
            clear hb
            have A0 : ∀ o, (w1.alloc o).cell? ⟨w.heap.size, 0, none⟩ = some (.string af) := fun o => ((unhide H1).a.alloc o).c0
            have A1 : ∀ o, (w1.alloc o).cell? ⟨w.heap.size, 1, none⟩ = some (.string at') := fun o => ((unhide H1).a.alloc o).c1
            have B0 : ∀ o, (w1.alloc o).cell? ⟨w.heap.size + 1, 0, none⟩ = some (.string bf) := fun o => ((unhide H1).b.alloc o).c0
            have B1 : ∀ o, (w1.alloc o).cell? ⟨w.heap.size + 1, 1, none⟩ = some (.string bt) := fun o => ((unhide H1).b.alloc o).c1
            have C0 : ∀ o, (w1.alloc o).cell? ⟨w.heap.size + 2, 0, none⟩ = some (.string emp) := fun o => ((unhide H1).c.alloc o).c0
            have C1 : ∀ o, (w1.alloc o).cell? ⟨w.heap.size + 2, 1, none⟩ = some (.string emp) := fun o => ((unhide H1).c.alloc o).c1
            have F0 : ∀ o, (w1.alloc o).frozen? ⟨w.heap.size + 2, 0, none⟩ = false := fun o => ((unhide H1).c.alloc o).f0
            have F1 : ∀ o, (w1.alloc o).frozen? ⟨w.heap.size + 2, 1, none⟩ = false := fun o => ((unhide H1).c.alloc o).f1
            go_wp2_with fail
            refine bodyPost_ret (results_sp2 Try.results12 rfl rfl (((unhide H1).c.alloc _).put af at')) rfl ?_
            exact ⟨rfl, (((unhide H1).below.alloc (unhide H1).below.size _).setCell (by show w.heap.size ≤ w.heap.size + 2; omega) _).setCell (by show w.heap.size ≤ w.heap.size + 2; omega) _⟩
          · have d2 : ltB bf af = ltB bf af := rfl
            have d3 : eqB bf af = true := (eqB_iff _ _).2 q
            clear q
            rw [d2] at e2
            rw [d3] at e3
            rw [d4] at e4
            clear d2 d3 d4 he hg hm hn
            go_enter Try.func12, Try.ntmps12
            go_wp2_with fail
            refine (refMeet_any _ _ _ _ _ h1 h2 h3 h4).mono ?_
            rintro e w1 ⟨rfl, hb⟩
            rw [hc]
            have H1 := hide ((unhide H0).later hb)
            obtain ⟨⟨a0, a1, af0, af1⟩, ⟨b0, b1, bf0, bf1⟩, ⟨c0, c1, cf0, cf1⟩, _⟩ := unhide H1
            clear hb
            have A0 : ∀ o, (w1.alloc o).cell? ⟨w.heap.size, 0, none⟩ = some (.string af) := fun o => ((unhide H1).a.alloc o).c0
            have A1 : ∀ o, (w1.alloc o).cell? ⟨w.heap.size, 1, none⟩ = some (.string at') := fun o => ((unhide H1).a.alloc o).c1
            have B0 : ∀ o, (w1.alloc o).cell? ⟨w.heap.size + 1, 0, none⟩ = some (.string bf) := fun o => ((unhide H1).b.alloc o).c0
            have B1 : ∀ o, (w1.alloc o).cell? ⟨w.heap.size + 1, 1, none⟩ = some (.string bt) := fun o => ((unhide H1).b.alloc o).c1
            have C0 : ∀ o, (w1.alloc o).cell? ⟨w.heap.size + 2, 0, none⟩ = some (.string emp) := fun o => ((unhide H1).c.alloc o).c0
            have C1 : ∀ o, (w1.alloc o).cell? ⟨w.heap.size + 2, 1, none⟩ = some (.string emp) := fun o => ((unhide H1).c.alloc o).c1
            have F0 : ∀ o, (w1.alloc o).frozen? ⟨w.heap.size + 2, 0, none⟩ = false := fun o => ((unhide H1).c.alloc o).f0
            have F1 : ∀ o, (w1.alloc o).frozen? ⟨w.heap.size + 2, 1, none⟩ = false := fun o => ((unhide H1).c.alloc o).f1
            go_wp2_with fail
            refine bodyPost_ret (results_sp2 Try.results12 rfl rfl (((unhide H1).c.alloc _).put af at')) rfl ?_
            exact ⟨rfl, (((unhide H1).below.alloc (unhide H1).below.size _).setCell (by show w.heap.size ≤ w.heap.size + 2; omega) _).setCell (by show w.heap.size ≤ w.heap.size + 2; omega) _⟩
          · exact absurd q hm
        · have d4 : ltB bt at' = true := hn
          rcases L.tot bf af with q | q | q
          · have d2 : ltB bf af = true := q
            have d3 : eqB bf af = eqB bf af := rfl
            rw [d2] at e2
            rw [d3] at e3
            rw [d4] at e4
            clear d2 d3 d4 he hg hm hn
            go_enter Try.func12, Try.ntmps12
            go_wp2_with fail
            refine (refMeet_any _ _ _ _ _ h1 h2 h3 h4).mono ?_
            rintro e w1 ⟨rfl, hb⟩
            rw [hc]
            have H1 := hide ((unhide H0).later hb)
            obtain ⟨⟨a0, a1, af0, af1⟩, ⟨b0, b1, bf0, bf1⟩, ⟨c0, c1, cf0, cf1⟩, _⟩ := unhide H1
            clear hb
            have A0 : ∀ o, (w1.alloc o).cell? ⟨w.heap.size, 0, none⟩ = some (.string af) := fun o => ((unhide H1).a.alloc o).c0
            have A1 : ∀ o, (w1.alloc o).cell? ⟨w.heap.size, 1, none⟩ = some (.string at') := fun o => ((unhide H1).a.alloc o).c1
            have B0 : ∀ o, (w1.alloc o).cell? ⟨w.heap.size + 1, 0, none⟩ = some (.string bf) := fun o => ((unhide H1).b.alloc o).c0
            have B1 : ∀ o, (w1.alloc o).cell? ⟨w.heap.size + 1, 1, none⟩ = some (.string bt) := fun o => ((unhide H1).b.alloc o).c1
            have C0 : ∀ o, (w1.alloc o).cell? ⟨w.heap.size + 2, 0, none⟩ = some (.string emp) := fun o => ((unhide H1).c.alloc o).c0
            have C1 : ∀ o, (w1.alloc o).cell? ⟨w.heap.size + 2, 1, none⟩ = some (.string emp) := fun o => ((unhide H1).c.alloc o).c1
            have F0 : ∀ o, (w1.alloc o).frozen? ⟨w.heap.size + 2, 0, none⟩ = false := fun o => ((unhide H1).c.alloc o).f0
            have F1 : ∀ o, (w1.alloc o).frozen? ⟨w.heap.size + 2, 1, none⟩ = false := fun o => ((unhide H1).c.alloc o).f1
            go_wp2_with fail
            refine bodyPost_ret (results_sp2 Try.results12 rfl rfl (((unhide H1).c.alloc _).put af bt)) rfl ?_
            exact ⟨rfl, (((unhide H1).below.alloc (unhide H1).below.size _).setCell (by show w.heap.size ≤ w.heap.size + 2; omega) _).setCell (by show w.heap.size ≤ w.heap.size + 2; omega) _⟩
          · have d2 : ltB bf af = ltB bf af := rfl
            have d3 : eqB bf af = true := (eqB_iff _ _).2 q
            clear q
            rw [d2] at e2
            rw [d3] at e3
            rw [d4] at e4
            clear d2 d3 d4 he hg hm hn
            go_enter Try.func12, Try.ntmps12
            go_wp2_with fail
            refine (refMeet_any _ _ _ _ _ h1 h2 h3 h4).mono ?_
            rintro e w1 ⟨rfl, hb⟩
            rw [hc]
            have H1 := hide ((unhide H0).later hb)
            obtain ⟨⟨a0, a1, af0, af1⟩, ⟨b0, b1, bf0, bf1⟩, ⟨c0, c1, cf0, cf1⟩, _⟩ := unhide H1
            clear hb
            have A0 : ∀ o, (w1.alloc o).cell? ⟨w.heap.size, 0, none⟩ = some (.string af) := fun o => ((unhide H1).a.alloc o).c0
            have A1 : ∀ o, (w1.alloc o).cell? ⟨w.heap.size, 1, none⟩ = some (.string at') := fun o => ((unhide H1).a.alloc o).c1
            have B0 : ∀ o, (w1.alloc o).cell? ⟨w.heap.size + 1, 0, none⟩ = some (.string bf) := fun o => ((unhide H1).b.alloc o).c0
            have B1 : ∀ o, (w1.alloc o).cell? ⟨w.heap.size + 1, 1, none⟩ = some (.string bt) := fun o => ((unhide H1).b.alloc o).c1
            have C0 : ∀ o, (w1.alloc o).cell? ⟨w.heap.size + 2, 0, none⟩ = some (.string emp) := fun o => ((unhide H1).c.alloc o).c0
            have C1 : ∀ o, (w1.alloc o).cell? ⟨w.heap.size + 2, 1, none⟩ = some (.string emp) := fun o => ((unhide H1).c.alloc o).c1
            have F0 : ∀ o, (w1.alloc o).frozen? ⟨w.heap.size + 2, 0, none⟩ = false := fun o => ((unhide H1).c.alloc o).f0
            have F1 : ∀ o, (w1.alloc o).frozen? ⟨w.heap.size + 2, 1, none⟩ = false := fun o => ((unhide H1).c.alloc o).f1
            go_wp2_with fail
            refine bodyPost_ret (results_sp2 Try.results12 rfl rfl (((unhide H1).c.alloc _).put af bt)) rfl ?_
            exact ⟨rfl, (((unhide H1).below.alloc (unhide H1).below.size _).setCell (by show w.heap.size ≤ w.heap.size + 2; omega) _).setCell (by show w.heap.size ≤ w.heap.size + 2; omega) _⟩
          · exact absurd q hm
      · obtain rfl := (eqB_iff _ _).1 hg
        obtain ⟨ex, ey⟩ := clip_one_b hc
        rw [ex, ey]
        clear ex ey
        rw [he] at e0
        have em : emp.toList = [] := emp_toList
        go_enter Try.func12, Try.ntmps12
        go_wp2_with fail
        refine (refMeet_any _ _ _ _ _ h1 h2 h3 h4).mono ?_
        rintro e w1 ⟨rfl, hb⟩
        rw [hc]
        have H1 := hide ((unhide H0).later hb)
        obtain ⟨⟨a0, a1, af0, af1⟩, ⟨b0, b1, bf0, bf1⟩, ⟨c0, c1, cf0, cf1⟩, _⟩ := unhide H1
        clear hb
        go_wp2_with fail
        refine bodyPost_ret (results_sp2 Try.results12 rfl rfl ((unhide H1).c.put bf emp)) rfl ?_
        exact ⟨rfl, ((unhide H1).below.setCell (by show w.heap.size ≤ w.heap.size + 2; omega) _).setCell (by show w.heap.size ≤ w.heap.size + 2; omega) _⟩
    · obtain rfl := (eqB_iff _ _).1 he
      obtain ⟨ex, ey⟩ := clip_one_a hc
      rw [ex, ey]
      clear ex ey
      have em : emp.toList = [] := emp_toList
      go_enter Try.func12, Try.ntmps12
      go_wp2_with fail
      refine (refMeet_any _ _ _ _ _ h1 h2 h3 h4).mono ?_
      rintro e w1 ⟨rfl, hb⟩
      rw [hc]
      have H1 := hide ((unhide H0).later hb)
      obtain ⟨⟨a0, a1, af0, af1⟩, ⟨b0, b1, bf0, bf1⟩, ⟨c0, c1, cf0, cf1⟩, _⟩ := unhide H1
      clear hb
      go_wp2_with fail
      refine bodyPost_ret (results_sp2 Try.results12 rfl rfl ((unhide H1).c.put af emp)) rfl ?_
      exact ⟨rfl, ((unhide H1).below.setCell (by show w.heap.size ≤ w.heap.size + 2; omega) _).setCell (by show w.heap.size ≤ w.heap.size + 2; omega) _⟩

end

end Go.Proofs.Ytejceloahonelaa
