/-
  The law PackReads: its walk.
-/
import Derived.Test.YtaeipnmmknpoeaaRefRd2
import Derived.Test.YtaeipnmmknpoeaaPackBackW
namespace Go.Proofs.Ytaeipnmmknpoeaa
open Go.RowKit
set_option linter.unusedVariables false

theorem belowD {B : Nat} {w w' : World} (h : Below B w w') (n : Nat) : Below B w (w'.drewN n) := ⟨h.os, h.tape, h.output, h.size, h.block⟩

theorem RefRd.below {B : Nat} {w w' : World} {M i : Nat} {v : Value} {bad : Bool} (h : RefRd w M v i bad) (hb : Below B w w') (hB : w.heap.size ≤ B) : RefRd w' M v i bad := by
  unfold RefRd
  rw [hb.block M (Nat.lt_of_lt_of_le h.lt hB)]
  exact h

theorem RefRd.stays {w w' : World} {R M i : Nat} {v : Value} {bad : Bool} (h : RefRd w M v i bad) (hy : Stays R w w') (hne : R ≠ M) : RefRd w' M v i bad := by
  rcases hy with rfl | ⟨x, rfl⟩
  · exact h
  · unfold RefRd
    rw [Below.heap_setCell w ⟨R, 0, none⟩ x M (fun e => hne e.symm)]
    exact h

theorem Rd.touch {w w' : World} {R M i : Nat} {u : Value} {bad : Bool} {l : List UInt8} (h : Rd w R l) (ht : Touch M w w') (hm : RefRd w M u i bad) (hu : ∃ ao n c, u = .slice ao n c) (hne : R ≠ M) : Rd w' R l := by
  obtain ⟨ao, n, c, h1, h2, h3⟩ := h
  exact ⟨ao, n, c, (World.cell?_of_block (w := w) (a := ⟨R, 0, none⟩) (ht.block R hne)).trans h1, (World.frozen?_of_block (w := w) (a := ⟨R, 0, none⟩) (ht.block R hne)).trans h2, h3.touch ht hm hu⟩

theorem end_yes (R : Nat) (l : List UInt8) (w : World) (hr : Rd w R l) (hl : l.length ≤ 1099511627776) (h : l = []) :
    Calls Try.prog 22 #[.pointer (some ⟨R, 0, none⟩)] w fun e w' => e = .returned (.int .i64 0) ∧ w' = w := by
  have := end_any R l w hr hl
  rwa [if_pos h] at this
theorem end_no (R : Nat) (l : List UInt8) (w : World) (hr : Rd w R l) (hl : l.length ≤ 1099511627776) (h : ¬ l = []) :
    Calls Try.prog 22 #[.pointer (some ⟨R, 0, none⟩)] w fun e w' => e = .returned (.int .i64 11) ∧ w' = w := by
  have := end_any R l w hr hl
  rwa [if_neg h] at this

set_option maxRecDepth 100000 in
set_option maxHeartbeats 4000000 in
theorem walkPackReads (w : World) (vB : Value) (l : List UInt8) (hB : Sl w vB l) (v : Value) (xs : List ActV) (hx : Acts w v xs) :
    Calls Try.prog 4 #[vB, v] w fun e w' => e = .returned (.bool true) ∧ Below w.heap.size w w' := by
  have Hx := hide hx
  have HB := hide hB
  obtain ⟨ao, c, rfl, hxc, hxm, _⟩ := hx
  obtain ⟨aoB, cB, rfl, hlc, hbm, _⟩ := hB
  unfold maxLen at hxm hbm
  by_cases hlong : 400 < l.length
  · go_enter Try.func4, Try.ntmps4
    go_wp2_with fail
    refine (alive_any _).mono ?_
    rintro e w' ⟨rfl, hb⟩
    go_wp2
    go_ret
    exact ⟨rfl, hb⟩
  go_enter Try.func4, Try.ntmps4
  go_wp2_with fail
  refine (open_any _ _ _ (unhide HB) (by omega)).mono ?_
  rintro e w1 ⟨R, rfl, hR, hr1, hb1⟩
  have z1 := hb1.size
  go_wp2_with fail
  refine (refopen_any _ _ _ _).mono ?_
  rintro e w2 ⟨M, rfl, hM, hm2, hb2⟩
  have hRM : R ≠ M := by have := hr1.lt; omega
  have hr2 := hr1.below hb2 (Nat.le_refl _)
  have hbel2 := hb1.trans (hb2.mono z1)
  clear hb1 hb2 hr1
  go_wp2_with fail
  go_loopw [7] (fun i wr => ∃ (k j : Nat) (bad : Bool), i = .int .i64 k ∧ k ≤ xs.length ∧ k ≤ 60 ∧ j ≤ l.length ∧ Rd wr R (l.drop j) ∧ RefRd wr M (.slice aoB l.length cB) j bad ∧ Below w.heap.size w wr) (fun i _ => 60 - (intOf i).toNat)
  case atStart => exact ⟨0, 0, false, rfl, Nat.zero_le _, by decide, Nat.zero_le _, hr2, hm2, hbel2⟩
  case round =>
    obtain ⟨k, j, bad, rfl, hk1, hk2, hj, hrd, hrf, hbel⟩ := hrel
    clear hr2 hm2 hbel2
    by_cases hlt : k < xs.length ∧ k < 60
    · obtain ⟨hl1, hl2⟩ := hlt
      obtain ⟨a, ha⟩ : ∃ a, Hid (a = xs[k]) := ⟨xs[k], Eq.refl _⟩
      have hw := (unhide Hx).below hbel (Nat.le_refl _)
      have hsB := (unhide HB).below hbel (Nat.le_refl _)
      obtain ⟨ao', c', e, _, _, hcell⟩ := hw
      injection e with e1 e2 e3
      subst e1 e3
      obtain ⟨hn, hss, b, o, rfl, c0, c1, c2, c3⟩ := hcell k hl1
      rw [← unhide ha] at hn hss c0 c1 c2 c3
      have hsz := hbel.size
      have hRl := hrd.lt
      have hMl := hrf.lt
      have hb0 : Below wr.heap.size wr (wr.alloc (.cells #[.int .i64 a.kind, .int .i64 a.n, .bool a.f, .string a.s] 25)) := (Below.refl _ _).alloc (Nat.le_refl _) _
      have hrd1 := hrd.below hb0 (Nat.le_refl _)
      have hrf1 := hrf.below hb0 (Nat.le_refl _)
      have hsB1 := hsB.below hb0 (Nat.le_refl _)
      have hbel1 := hbel.trans (hb0.mono hsz)
      have hdl : (l.drop j).length ≤ 1099511627776 := by rw [List.length_drop]; omega
      clear hcell e2 hb0 hrd hrf hsB hbel
      by_cases h1 : a.kind = 1
      · have kb : (a.kind == 1) = true := by simpa using h1
        clear h1
        have hN := rnumber_any R _ a.n _ hrd1 hdl
        have Hrd1 := hide hrd1
        have Hrf1 := hide hrf1
        have Hbel1 := hide hbel1
        generalize hy : rdN (l.drop j) a.n = y at hN
        obtain ⟨x, er, rs⟩ := y
        have Hy := hide hy
        have HN := hide hN
        simp only at HN
        clear hN hy hrd1 hrf1 hbel1
        go_wp2_with fail
        refine (unhide HN).mono ?_
        rintro e w3 ⟨rfl, hrd3, hy3⟩
        have hrf3 := (unhide Hrf1).stays hy3 hRM
        have hsB3 := hy3.sl (unhide Hrd1) hsB1
        have d1 := hy3.cell (p := ⟨wr.heap.size, 1, none⟩) (by simp; omega)
        simp only [World.cell?_alloc_new] at d1
        simp at d1
        have hbel3 := (unhide Hbel1).trans (hy3.below (B := w.heap.size) (by omega))
        have hM3 := refnum_any M j bad aoB cB l a.n w3 hrf3 hsB3 (by omega) hj
        rw [unhide Hy] at hM3
        have HM3 := hide hM3
        have Hrd3 := hide hrd3
        have Hrf3 := hide hrf3
        have Hbel3 := hide hbel3
        clear hM3 hy3 hrd3 hrf3 hsB3 hbel3 c0 c1 c2 c3
        go_wp2_with fail
        refine (unhide HM3).mono ?_
        rintro e w4 ⟨q, bad', rfl, hrs, hjq, hrf4, ht4⟩
        have hrd4 := (unhide Hrd3).touch ht4 (unhide Hrf3) ⟨_, _, _, rfl⟩ hRM
        have hbel4 := (unhide Hbel3).trans (ht4.below (B := w.heap.size) (by omega))
        try simp only at hrs
        rw [hrs] at hrd4
        obtain ⟨jj, hjeq⟩ : ∃ jj, Hid (j + q = jj) := ⟨_, Eq.refl _⟩
        rw [unhide hjeq] at hrd4 hrf4 hjq
        have hrdT := hrd4
        have hrfT := hrf4
        have hbelT := hbel4
        have hjj := hjq
        clear hrd4 hrf4 hbel4 hjq hrs ht4 d1 HM3 HN Hrd3 Hrf3 Hbel3 Hrd1 Hrf1 Hbel1 Hy hsB1
        obtain ⟨m0, m1, m2, hmf⟩ := hrfT.cells
        obtain ⟨lr, hlr⟩ : ∃ lr, Hid ((l.drop jj).length = lr) := ⟨_, Eq.refl _⟩
        have hlr1 : lr + jj ≤ l.length := by rw [← unhide hlr, List.length_drop]; omega
        have hlr2 : l.length ≤ lr + jj := by rw [← unhide hlr, List.length_drop]; omega
        have hg1 : IntKind.i64.wrap ((l.length : Int) - (jj : Int)) = (lr : Int) := by rw [IntKind.wrap_i64]; omega
        have hg1' : (l.length : Int) - (jj : Int) = (lr : Int) := by omega
        have hdlT : (l.drop jj).length ≤ 1099511627776 := by rw [List.length_drop]; omega
        have hL := fun n => left_any R (l.drop jj) (w4.drewN n) hrdT hdlT
        rw [unhide hlr] at hL
        have HL := hide hL
        have Hrd := hide hrdT
        have Hrf := hide hrfT
        have Hbel := hide hbelT
        clear hL hrdT hrfT hbelT hg1'
        by_cases hend : jj = l.length
        · have hE := fun n => end_yes R (l.drop jj) (w4.drewN n) (unhide Hrd) hdlT (List.drop_eq_nil_of_le (by omega))
          have HE := hide hE
          have he1 : ((jj : Int) == (l.length : Int)) = true := by simp; omega
          clear hE hend
          go_wp2_with fail
          go_quiet (first | (go_at_call 21; exact Calls.quiet_of_same (unhide HL _)) | (go_at_call 22; exact Calls.quiet_of_same (unhide HE _)))
          go_wp2
          go_roundw
          case rel => exact ⟨k + 1, jj, _, by go_num, by omega, by omega, hjj, unhide Hrd, unhide Hrf, belowD (unhide Hbel) _⟩
          case measure => simp [intOf]; omega
        · have hE := fun n => end_no R (l.drop jj) (w4.drewN n) (unhide Hrd) hdlT (by intro h; have := congrArg List.length h; rw [List.length_drop, List.length_nil] at this; omega)
          have HE := hide hE
          have he1 : ((jj : Int) == (l.length : Int)) = false := by simp; omega
          clear hE hend
          go_wp2_with fail
          go_quiet (first | (go_at_call 21; exact Calls.quiet_of_same (unhide HL _)) | (go_at_call 22; exact Calls.quiet_of_same (unhide HE _)))
          go_wp2
          go_roundw
          case rel => exact ⟨k + 1, jj, _, by go_num, by omega, by omega, hjj, unhide Hrd, unhide Hrf, belowD (unhide Hbel) _⟩
          case measure => simp [intOf]; omega
      have k1 : (a.kind == 1) = false := by simpa using h1
      by_cases h2 : a.kind = 2
      · have kb : (a.kind == 2) = true := by simpa using h2
        clear h1 h2
        have hN := rflag_any R _ _ hrd1 hdl
        have Hrd1 := hide hrd1
        have Hrf1 := hide hrf1
        have Hbel1 := hide hbel1
        generalize hy : rdF (l.drop j) = y at hN
        obtain ⟨x, er, rs⟩ := y
        have Hy := hide hy
        have HN := hide hN
        simp only at HN
        clear hN hy hrd1 hrf1 hbel1
        go_wp2_with fail
        refine (unhide HN).mono ?_
        rintro e w3 ⟨rfl, hrd3, hy3⟩
        have hrf3 := (unhide Hrf1).stays hy3 hRM
        have hsB3 := hy3.sl (unhide Hrd1) hsB1
        have d1 := hy3.cell (p := ⟨wr.heap.size, 1, none⟩) (by simp; omega)
        simp only [World.cell?_alloc_new] at d1
        simp at d1
        have hbel3 := (unhide Hbel1).trans (hy3.below (B := w.heap.size) (by omega))
        have hM3 := refflag2_any M j bad aoB cB l w3 hrf3 hsB3 (by omega) hj
        rw [unhide Hy] at hM3
        have HM3 := hide hM3
        have Hrd3 := hide hrd3
        have Hrf3 := hide hrf3
        have Hbel3 := hide hbel3
        clear hM3 hy3 hrd3 hrf3 hsB3 hbel3 c0 c1 c2 c3
        go_wp2_with fail
        refine (unhide HM3).mono ?_
        rintro e w4 ⟨q, bad', rfl, hrs, hjq, hrf4, ht4⟩
        have hrd4 := (unhide Hrd3).touch ht4 (unhide Hrf3) ⟨_, _, _, rfl⟩ hRM
        have hbel4 := (unhide Hbel3).trans (ht4.below (B := w.heap.size) (by omega))
        try simp only at hrs
        rw [hrs] at hrd4
        obtain ⟨jj, hjeq⟩ : ∃ jj, Hid (j + q = jj) := ⟨_, Eq.refl _⟩
        rw [unhide hjeq] at hrd4 hrf4 hjq
        have hrdT := hrd4
        have hrfT := hrf4
        have hbelT := hbel4
        have hjj := hjq
        clear hrd4 hrf4 hbel4 hjq hrs ht4 d1 HM3 HN Hrd3 Hrf3 Hbel3 Hrd1 Hrf1 Hbel1 Hy hsB1
        obtain ⟨m0, m1, m2, hmf⟩ := hrfT.cells
        obtain ⟨lr, hlr⟩ : ∃ lr, Hid ((l.drop jj).length = lr) := ⟨_, Eq.refl _⟩
        have hlr1 : lr + jj ≤ l.length := by rw [← unhide hlr, List.length_drop]; omega
        have hlr2 : l.length ≤ lr + jj := by rw [← unhide hlr, List.length_drop]; omega
        have hg1 : IntKind.i64.wrap ((l.length : Int) - (jj : Int)) = (lr : Int) := by rw [IntKind.wrap_i64]; omega
        have hg1' : (l.length : Int) - (jj : Int) = (lr : Int) := by omega
        have hdlT : (l.drop jj).length ≤ 1099511627776 := by rw [List.length_drop]; omega
        have hL := fun n => left_any R (l.drop jj) (w4.drewN n) hrdT hdlT
        rw [unhide hlr] at hL
        have HL := hide hL
        have Hrd := hide hrdT
        have Hrf := hide hrfT
        have Hbel := hide hbelT
        clear hL hrdT hrfT hbelT hg1'
        by_cases hend : jj = l.length
        · have hE := fun n => end_yes R (l.drop jj) (w4.drewN n) (unhide Hrd) hdlT (List.drop_eq_nil_of_le (by omega))
          have HE := hide hE
          have he1 : ((jj : Int) == (l.length : Int)) = true := by simp; omega
          clear hE hend
          go_wp2_with fail
          go_quiet (first | (go_at_call 21; exact Calls.quiet_of_same (unhide HL _)) | (go_at_call 22; exact Calls.quiet_of_same (unhide HE _)))
          go_wp2
          go_roundw
          case rel => exact ⟨k + 1, jj, _, by go_num, by omega, by omega, hjj, unhide Hrd, unhide Hrf, belowD (unhide Hbel) _⟩
          case measure => simp [intOf]; omega
        · have hE := fun n => end_no R (l.drop jj) (w4.drewN n) (unhide Hrd) hdlT (by intro h; have := congrArg List.length h; rw [List.length_drop, List.length_nil] at this; omega)
          have HE := hide hE
          have he1 : ((jj : Int) == (l.length : Int)) = false := by simp; omega
          clear hE hend
          go_wp2_with fail
          go_quiet (first | (go_at_call 21; exact Calls.quiet_of_same (unhide HL _)) | (go_at_call 22; exact Calls.quiet_of_same (unhide HE _)))
          go_wp2
          go_roundw
          case rel => exact ⟨k + 1, jj, _, by go_num, by omega, by omega, hjj, unhide Hrd, unhide Hrf, belowD (unhide Hbel) _⟩
          case measure => simp [intOf]; omega
      have k2 : (a.kind == 2) = false := by simpa using h2
      by_cases h3 : a.kind = 3
      · have kb : (a.kind == 3) = true := by simpa using h3
        clear h1 h2 h3
        have hN := rtext_any R _ a.n _ hrd1 hdl
        have Hrd1 := hide hrd1
        have Hrf1 := hide hrf1
        have Hbel1 := hide hbel1
        generalize hy : rdT (l.drop j) a.n = y at hN
        obtain ⟨x, er, rs⟩ := y
        have Hy := hide hy
        have HN := hide hN
        simp only at HN
        clear hN hy hrd1 hrf1 hbel1
        go_wp2_with fail
        refine (unhide HN).mono ?_
        rintro e w3 ⟨rfl, hrd3, hy3⟩
        have hrf3 := (unhide Hrf1).stays hy3 hRM
        have hsB3 := hy3.sl (unhide Hrd1) hsB1
        have d1 := hy3.cell (p := ⟨wr.heap.size, 1, none⟩) (by simp; omega)
        simp only [World.cell?_alloc_new] at d1
        simp at d1
        have hbel3 := (unhide Hbel1).trans (hy3.below (B := w.heap.size) (by omega))
        have hM3 := reftext2_any M j bad aoB cB l a.n w3 hrf3 hsB3 (by omega) hj
        rw [unhide Hy] at hM3
        have HM3 := hide hM3
        have Hrd3 := hide hrd3
        have Hrf3 := hide hrf3
        have Hbel3 := hide hbel3
        clear hM3 hy3 hrd3 hrf3 hsB3 hbel3 c0 c1 c2 c3
        go_wp2_with fail
        refine (unhide HM3).mono ?_
        rintro e w4 ⟨q, bad', rfl, hrs, hjq, hrf4, ht4⟩
        have hrd4 := (unhide Hrd3).touch ht4 (unhide Hrf3) ⟨_, _, _, rfl⟩ hRM
        have hbel4 := (unhide Hbel3).trans (ht4.below (B := w.heap.size) (by omega))
        try simp only at hrs
        rw [hrs] at hrd4
        obtain ⟨jj, hjeq⟩ : ∃ jj, Hid (j + q = jj) := ⟨_, Eq.refl _⟩
        rw [unhide hjeq] at hrd4 hrf4 hjq
        have hrdT := hrd4
        have hrfT := hrf4
        have hbelT := hbel4
        have hjj := hjq
        clear hrd4 hrf4 hbel4 hjq hrs ht4 d1 HM3 HN Hrd3 Hrf3 Hbel3 Hrd1 Hrf1 Hbel1 Hy hsB1
        obtain ⟨m0, m1, m2, hmf⟩ := hrfT.cells
        obtain ⟨lr, hlr⟩ : ∃ lr, Hid ((l.drop jj).length = lr) := ⟨_, Eq.refl _⟩
        have hlr1 : lr + jj ≤ l.length := by rw [← unhide hlr, List.length_drop]; omega
        have hlr2 : l.length ≤ lr + jj := by rw [← unhide hlr, List.length_drop]; omega
        have hg1 : IntKind.i64.wrap ((l.length : Int) - (jj : Int)) = (lr : Int) := by rw [IntKind.wrap_i64]; omega
        have hg1' : (l.length : Int) - (jj : Int) = (lr : Int) := by omega
        have hdlT : (l.drop jj).length ≤ 1099511627776 := by rw [List.length_drop]; omega
        have hL := fun n => left_any R (l.drop jj) (w4.drewN n) hrdT hdlT
        rw [unhide hlr] at hL
        have HL := hide hL
        have Hrd := hide hrdT
        have Hrf := hide hrfT
        have Hbel := hide hbelT
        clear hL hrdT hrfT hbelT hg1'
        by_cases hend : jj = l.length
        · have hE := fun n => end_yes R (l.drop jj) (w4.drewN n) (unhide Hrd) hdlT (List.drop_eq_nil_of_le (by omega))
          have HE := hide hE
          have he1 : ((jj : Int) == (l.length : Int)) = true := by simp; omega
          clear hE hend
          go_wp2_with fail
          go_quiet (first | (go_at_call 21; exact Calls.quiet_of_same (unhide HL _)) | (go_at_call 22; exact Calls.quiet_of_same (unhide HE _)))
          go_wp2
          go_roundw
          case rel => exact ⟨k + 1, jj, _, by go_num, by omega, by omega, hjj, unhide Hrd, unhide Hrf, belowD (unhide Hbel) _⟩
          case measure => simp [intOf]; omega
        · have hE := fun n => end_no R (l.drop jj) (w4.drewN n) (unhide Hrd) hdlT (by intro h; have := congrArg List.length h; rw [List.length_drop, List.length_nil] at this; omega)
          have HE := hide hE
          have he1 : ((jj : Int) == (l.length : Int)) = false := by simp; omega
          clear hE hend
          go_wp2_with fail
          go_quiet (first | (go_at_call 21; exact Calls.quiet_of_same (unhide HL _)) | (go_at_call 22; exact Calls.quiet_of_same (unhide HE _)))
          go_wp2
          go_roundw
          case rel => exact ⟨k + 1, jj, _, by go_num, by omega, by omega, hjj, unhide Hrd, unhide Hrf, belowD (unhide Hbel) _⟩
          case measure => simp [intOf]; omega
      have k3 : (a.kind == 3) = false := by simpa using h3
      clear h1 h2 h3
      obtain ⟨jj, hjeq⟩ : ∃ jj, Hid (j = jj) := ⟨_, Eq.refl _⟩
      rw [unhide hjeq] at hrd1 hrf1 hj
      have hrdT := hrd1
      have hrfT := hrf1
      have hbelT := hbel1
      have hjj := hj
      clear hrd1 hrf1 hbel1 hj hsB1
      obtain ⟨m0, m1, m2, hmf⟩ := hrfT.cells
      obtain ⟨lr, hlr⟩ : ∃ lr, Hid ((l.drop jj).length = lr) := ⟨_, Eq.refl _⟩
      have hlr1 : lr + jj ≤ l.length := by rw [← unhide hlr, List.length_drop]; omega
      have hlr2 : l.length ≤ lr + jj := by rw [← unhide hlr, List.length_drop]; omega
      have hg1 : IntKind.i64.wrap ((l.length : Int) - (jj : Int)) = (lr : Int) := by rw [IntKind.wrap_i64]; omega
      have hg1' : (l.length : Int) - (jj : Int) = (lr : Int) := by omega
      have hdlT : (l.drop jj).length ≤ 1099511627776 := by rw [List.length_drop]; omega
      have hL := fun n => left_any R (l.drop jj) ((wr.alloc (.cells #[.int .i64 a.kind, .int .i64 a.n, .bool a.f, .string a.s] 25)).drewN n) hrdT hdlT
      rw [unhide hlr] at hL
      have HL := hide hL
      have Hrd := hide hrdT
      have Hrf := hide hrfT
      have Hbel := hide hbelT
      clear hL hrdT hrfT hbelT hg1'
      by_cases hend : jj = l.length
      · have hE := fun n => end_yes R (l.drop jj) ((wr.alloc (.cells #[.int .i64 a.kind, .int .i64 a.n, .bool a.f, .string a.s] 25)).drewN n) (unhide Hrd) hdlT (List.drop_eq_nil_of_le (by omega))
        have HE := hide hE
        have he1 : ((jj : Int) == (l.length : Int)) = true := by simp; omega
        clear hE hend
        go_wp2_with fail
        go_quiet (first | (go_at_call 21; exact Calls.quiet_of_same (unhide HL _)) | (go_at_call 22; exact Calls.quiet_of_same (unhide HE _)))
        go_wp2
        go_roundw
        case rel => exact ⟨k + 1, jj, _, by go_num, by omega, by omega, hjj, unhide Hrd, unhide Hrf, belowD (unhide Hbel) _⟩
        case measure => simp [intOf]; omega
      · have hE := fun n => end_no R (l.drop jj) ((wr.alloc (.cells #[.int .i64 a.kind, .int .i64 a.n, .bool a.f, .string a.s] 25)).drewN n) (unhide Hrd) hdlT (by intro h; have := congrArg List.length h; rw [List.length_drop, List.length_nil] at this; omega)
        have HE := hide hE
        have he1 : ((jj : Int) == (l.length : Int)) = false := by simp; omega
        clear hE hend
        go_wp2_with fail
        go_quiet (first | (go_at_call 21; exact Calls.quiet_of_same (unhide HL _)) | (go_at_call 22; exact Calls.quiet_of_same (unhide HE _)))
        go_wp2
        go_roundw
        case rel => exact ⟨k + 1, jj, _, by go_num, by omega, by omega, hjj, unhide Hrd, unhide Hrf, belowD (unhide Hbel) _⟩
        case measure => simp [intOf]; omega
    · go_wp2_with fail
      all_goals
        refine (alive_any _).mono ?_
        rintro e w2 ⟨rfl, hb2⟩
        have R4 := hbel.trans (hb2.mono hbel.size)
        clear hb2
        go_wp2
        go_ret
        exact ⟨rfl, R4⟩

end Go.Proofs.Ytaeipnmmknpoeaa
