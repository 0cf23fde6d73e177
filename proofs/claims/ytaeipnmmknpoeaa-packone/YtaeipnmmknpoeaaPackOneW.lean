/-
  The law PackOne: its walk.
-/
import Derived.Test.YtaeipnmmknpoeaaOne
import Derived.Test.YtaeipnmmknpoeaaPackBackW
import Derived.BigQuiet
namespace Go.Proofs.Ytaeipnmmknpoeaa
open Go.RowKit
set_option linter.unusedVariables false

theorem belowN {B : Nat} {w w' : World} (h : Below B w w') (n : Nat) : Below B w (w'.drewN n) := ⟨h.os, h.tape, h.output, h.size, h.block⟩

set_option maxRecDepth 100000 in
set_option maxHeartbeats 4000000 in
theorem walkPackOne (w : World) (vB : Value) (l : List UInt8) (hB : Sl w vB l) (v : Value) (xs : List ActV) (hx : Acts w v xs) :
    Calls Try.prog 6 #[vB, v] w fun e w' => e = .returned (.bool true) ∧ Below w.heap.size w w' := by
  have Hx := hide hx
  have HB := hide hB
  obtain ⟨ao, c, rfl, hxc, hxm, _⟩ := hx
  obtain ⟨aoB, cB, rfl, hlc, hbm, _⟩ := hB
  unfold maxLen at hxm hbm
  by_cases hlong : 400 < l.length
  · go_enter Try.func6, Try.ntmps6
    go_wp2_with fail
    refine (alive_any _).mono ?_
    rintro e w' ⟨rfl, hb⟩
    go_wp2
    go_ret
    exact ⟨rfl, hb⟩
  go_enter Try.func6, Try.ntmps6
  go_wp2_with fail
  refine (open_any _ _ _ (unhide HB) (by omega)).mono ?_
  rintro e w1 ⟨R, rfl, hR, hr1, hb1⟩
  go_wp2_with fail
  go_loopw [6, 7] (fun va i wr => ∃ (k : Nat) (again rest : List UInt8), i = .int .i64 k ∧ k ≤ xs.length ∧ k ≤ 60 ∧ l = again ++ rest ∧ Sl wr va again ∧ Rd wr R rest ∧ Sl wr (.slice aoB l.length cB) l ∧ Acts wr (.slice ao xs.length c) xs ∧ Below w.heap.size w wr) (fun _ i _ => 60 - (intOf i).toNat)
  case atStart => exact ⟨0, [], l, rfl, Nat.zero_le _, by decide, rfl, Sl.nil _, hr1, (unhide HB).below hb1 (Nat.le_refl _), (unhide Hx).below hb1 (Nat.le_refl _), hb1⟩
  case round =>
    obtain ⟨k, again, rest, rfl, hk1, hk2, hl, hA, hRd, hBw, hAct, hBel⟩ := hrel
    clear hr1 hb1 Hx HB
    have hlen1 : l.length ≤ again.length + rest.length := by rw [hl, List.length_append]; exact Nat.le_refl _
    have Hl := hide hl
    clear hl
    obtain ⟨aoA, cA, rfl, hAc, hAm, _⟩ := id hA
    unfold maxLen at hAm
    by_cases hlt : k < xs.length ∧ k < 60
    · obtain ⟨hl1, hl2⟩ := hlt
      obtain ⟨a, ha⟩ : ∃ a, Hid (a = xs[k]) := ⟨xs[k], Eq.refl _⟩
      obtain ⟨ao', c', e, _, _, hcell⟩ := id hAct
      injection e with e1 e2 e3
      subst e1 e3
      obtain ⟨hn, hss, b, o, rfl, c0, c1, c2, c3⟩ := hcell k hl1
      rw [← unhide ha] at c0
      have hsz := hBel.size
      clear hcell e2 c1 c2 c3 hn hss
      have hlr : rest.length ≤ 400 := by have := unhide Hl; have h := congrArg List.length this; rw [List.length_append] at h; omega
      have hla : again.length ≤ 400 := by have := unhide Hl; have h := congrArg List.length this; rw [List.length_append] at h; omega
      have hRl := hRd.lt
      by_cases h1 : a.kind = 1
      · have kb : (a.kind == 1) = true := by simpa using h1
        clear h1
        have hN := rnumber_any R _ 9223372036854775807 _ hRd (by omega)
        have ho := rdN_one rest 9223372036854775807
        generalize rdN rest 9223372036854775807 = y at hN ho
        obtain ⟨x, er, rs⟩ := y
        simp only at hN ho
        have HN := hide hN
        clear hN
        rcases ho with ⟨rfl, rfl, rfl⟩ | ⟨rfl, hrest, _, hx9⟩
        · go_wp2_with fail
          refine (unhide HN).mono ?_
          rintro e w2 ⟨rfl, hRd', hy2⟩
          have hA' := hy2.sl hRd hA
          have hBw' := hy2.sl hRd hBw
          have hAct' := hAct.stays hy2 hRd
          have hBel' := hBel.trans (hy2.below (B := w.heap.size) (by omega))
          have Hl' := Hl
          clear hy2 hA hBw hAct hBel hRd
          have hq1 : l.length ≤ again.length + rs.length := by rw [unhide Hl', List.length_append]; exact Nat.le_refl _
          have hq2 : again.length + rs.length ≤ l.length := by rw [unhide Hl', List.length_append]; exact Nat.le_refl _
          have hg1 : IntKind.i64.wrap ((l.length : Int) - (rs.length : Int)) = (again.length : Int) := by rw [IntKind.wrap_i64]; omega
          have hg2 : decide (l.length < again.length) = false := by simp; omega
          have hg3 : ((again.length : Nat) : Int) ≤ (cB : Int) := by omega
          have hg4 : again.length ≤ cB := by omega
          have hcA := fun nq => conv_sl (w2.drewN nq) _ _ hA'
          have htk : l.take again.length = again := by rw [unhide Hl']; exact List.take_left
          have hcB := fun nq => conv_sl (w2.drewN nq) (.slice aoB again.length cB) _ (hBw'.take again.length (by omega))
          rw [htk] at hcB
          have HA := hide hA'
          have HBw := hide hBw'
          have HAct := hide hAct'
          have HBel := hide hBel'
          clear htk hA' hBw' hAct' hBel'
          go_wp2_with fail
          go_quiet ((go_at_call 21; exact Calls.quiet_of_same (left_any R rs _ hRd' (by omega))))
          go_wp2
          go_roundw
          case rel => exact ⟨k + 1, again, rs, by go_num, by omega, by omega, unhide Hl', unhide HA, hRd', unhide HBw, unhide HAct, belowN (unhide HBel) _⟩
          case measure => simp [intOf]; omega
        · have Hrest := hide hrest
          clear hrest
          go_wp2_with fail
          refine (unhide HN).mono ?_
          rintro e w2 ⟨rfl, hRd2, hy2⟩
          have hA2 := hy2.sl hRd hA
          have hBw2 := hy2.sl hRd hBw
          have hAct2 := hAct.stays hy2 hRd
          have hBel2 := hBel.trans (hy2.below (B := w.heap.size) (by omega))
          have hzz := hBel2.size
          clear hy2 hA hBw hAct hBel hRd
          go_wp2_with fail
          refine (number_any _ again x _ hA2 (by omega) (by omega)).mono ?_
          rintro e w3 ⟨r3, rfl, ho3, hb3⟩
          rw [Int.toNat_natCast] at ho3
          have hA' := ho3.sl
          obtain ⟨aoN, cN, rfl, hNc, hNm, _⟩ := id hA'
          unfold maxLen at hNm
          have hBw' := hBw2.below hb3 (Nat.le_refl _)
          have hAct' := hAct2.below hb3 (Nat.le_refl _)
          have hRd' := hRd2.below hb3 (Nat.le_refl _)
          have hBel' := hBel2.trans (hb3.mono hzz)
          have Hl' : Hid (l = (again ++ enc x) ++ rs) := by rw [List.append_assoc, ← unhide Hrest]; exact unhide Hl
          generalize again ++ enc x = ag2 at *
          clear ho3 hb3 hA2 hBw2 hAct2 hRd2 hBel2
          have hq1 : l.length ≤ ag2.length + rs.length := by rw [unhide Hl', List.length_append]; exact Nat.le_refl _
          have hq2 : ag2.length + rs.length ≤ l.length := by rw [unhide Hl', List.length_append]; exact Nat.le_refl _
          have hg1 : IntKind.i64.wrap ((l.length : Int) - (rs.length : Int)) = (ag2.length : Int) := by rw [IntKind.wrap_i64]; omega
          have hg2 : decide (l.length < ag2.length) = false := by simp; omega
          have hg3 : ((ag2.length : Nat) : Int) ≤ (cB : Int) := by omega
          have hg4 : ag2.length ≤ cB := by omega
          have hcA := fun nq => conv_sl (w3.drewN nq) _ _ hA'
          have htk : l.take ag2.length = ag2 := by rw [unhide Hl']; exact List.take_left
          have hcB := fun nq => conv_sl (w3.drewN nq) (.slice aoB ag2.length cB) _ (hBw'.take ag2.length (by omega))
          rw [htk] at hcB
          have HA := hide hA'
          have HBw := hide hBw'
          have HAct := hide hAct'
          have HBel := hide hBel'
          clear htk hA' hBw' hAct' hBel'
          go_wp2_with fail
          go_quiet ((go_at_call 21; exact Calls.quiet_of_same (left_any R rs _ hRd' (by omega))))
          go_wp2
          go_roundw
          case rel => exact ⟨k + 1, ag2, rs, by go_num, by omega, by omega, unhide Hl', unhide HA, hRd', unhide HBw, unhide HAct, belowN (unhide HBel) _⟩
          case measure => simp [intOf]; omega
      have k1 : (a.kind == 1) = false := by simpa using h1
      by_cases h2 : a.kind = 2
      · have kb : (a.kind == 2) = true := by simpa using h2
        clear h1 h2
        have hN := rflag_any R _ _ hRd (by omega)
        have ho := rdF_one rest
        generalize rdF rest = y at hN ho
        obtain ⟨x, er, rs⟩ := y
        simp only at hN ho
        have HN := hide hN
        clear hN
        rcases ho with ⟨rfl, rfl, rfl⟩ | ⟨rfl, hrest⟩
        · go_wp2_with fail
          refine (unhide HN).mono ?_
          rintro e w2 ⟨rfl, hRd', hy2⟩
          have hA' := hy2.sl hRd hA
          have hBw' := hy2.sl hRd hBw
          have hAct' := hAct.stays hy2 hRd
          have hBel' := hBel.trans (hy2.below (B := w.heap.size) (by omega))
          have Hl' := Hl
          clear hy2 hA hBw hAct hBel hRd
          have hq1 : l.length ≤ again.length + rs.length := by rw [unhide Hl', List.length_append]; exact Nat.le_refl _
          have hq2 : again.length + rs.length ≤ l.length := by rw [unhide Hl', List.length_append]; exact Nat.le_refl _
          have hg1 : IntKind.i64.wrap ((l.length : Int) - (rs.length : Int)) = (again.length : Int) := by rw [IntKind.wrap_i64]; omega
          have hg2 : decide (l.length < again.length) = false := by simp; omega
          have hg3 : ((again.length : Nat) : Int) ≤ (cB : Int) := by omega
          have hg4 : again.length ≤ cB := by omega
          have hcA := fun nq => conv_sl (w2.drewN nq) _ _ hA'
          have htk : l.take again.length = again := by rw [unhide Hl']; exact List.take_left
          have hcB := fun nq => conv_sl (w2.drewN nq) (.slice aoB again.length cB) _ (hBw'.take again.length (by omega))
          rw [htk] at hcB
          have HA := hide hA'
          have HBw := hide hBw'
          have HAct := hide hAct'
          have HBel := hide hBel'
          clear htk hA' hBw' hAct' hBel'
          go_wp2_with fail
          go_quiet ((go_at_call 21; exact Calls.quiet_of_same (left_any R rs _ hRd' (by omega))))
          go_wp2
          go_roundw
          case rel => exact ⟨k + 1, again, rs, by go_num, by omega, by omega, unhide Hl', unhide HA, hRd', unhide HBw, unhide HAct, belowN (unhide HBel) _⟩
          case measure => simp [intOf]; omega
        · have Hrest := hide hrest
          clear hrest
          go_wp2_with fail
          refine (unhide HN).mono ?_
          rintro e w2 ⟨rfl, hRd2, hy2⟩
          have hA2 := hy2.sl hRd hA
          have hBw2 := hy2.sl hRd hBw
          have hAct2 := hAct.stays hy2 hRd
          have hBel2 := hBel.trans (hy2.below (B := w.heap.size) (by omega))
          have hzz := hBel2.size
          clear hy2 hA hBw hAct hBel hRd
          go_wp2_with fail
          refine (flag_any _ again x _ hA2 (by omega)).mono ?_
          rintro e w3 ⟨r3, rfl, ho3, hb3⟩
          have hA' := ho3.sl
          obtain ⟨aoN, cN, rfl, hNc, hNm, _⟩ := id hA'
          unfold maxLen at hNm
          have hBw' := hBw2.below hb3 (Nat.le_refl _)
          have hAct' := hAct2.below hb3 (Nat.le_refl _)
          have hRd' := hRd2.below hb3 (Nat.le_refl _)
          have hBel' := hBel2.trans (hb3.mono hzz)
          have Hl' : Hid (l = (again ++ encF x) ++ rs) := by rw [List.append_assoc, ← unhide Hrest]; exact unhide Hl
          generalize again ++ encF x = ag2 at *
          clear ho3 hb3 hA2 hBw2 hAct2 hRd2 hBel2
          have hq1 : l.length ≤ ag2.length + rs.length := by rw [unhide Hl', List.length_append]; exact Nat.le_refl _
          have hq2 : ag2.length + rs.length ≤ l.length := by rw [unhide Hl', List.length_append]; exact Nat.le_refl _
          have hg1 : IntKind.i64.wrap ((l.length : Int) - (rs.length : Int)) = (ag2.length : Int) := by rw [IntKind.wrap_i64]; omega
          have hg2 : decide (l.length < ag2.length) = false := by simp; omega
          have hg3 : ((ag2.length : Nat) : Int) ≤ (cB : Int) := by omega
          have hg4 : ag2.length ≤ cB := by omega
          have hcA := fun nq => conv_sl (w3.drewN nq) _ _ hA'
          have htk : l.take ag2.length = ag2 := by rw [unhide Hl']; exact List.take_left
          have hcB := fun nq => conv_sl (w3.drewN nq) (.slice aoB ag2.length cB) _ (hBw'.take ag2.length (by omega))
          rw [htk] at hcB
          have HA := hide hA'
          have HBw := hide hBw'
          have HAct := hide hAct'
          have HBel := hide hBel'
          clear htk hA' hBw' hAct' hBel'
          go_wp2_with fail
          go_quiet ((go_at_call 21; exact Calls.quiet_of_same (left_any R rs _ hRd' (by omega))))
          go_wp2
          go_roundw
          case rel => exact ⟨k + 1, ag2, rs, by go_num, by omega, by omega, unhide Hl', unhide HA, hRd', unhide HBw, unhide HAct, belowN (unhide HBel) _⟩
          case measure => simp [intOf]; omega
      have k2 : (a.kind == 2) = false := by simpa using h2
      by_cases h3 : a.kind = 3
      · have kb : (a.kind == 3) = true := by simpa using h3
        clear h1 h2 h3
        have hN := rtext_any R _ 400 _ hRd (by omega)
        have ho := rdT_one rest 400
        generalize rdT rest 400 = y at hN ho
        obtain ⟨x, er, rs⟩ := y
        simp only at hN ho
        have HN := hide hN
        clear hN
        rcases ho with ⟨rfl, rfl, rfl⟩ | ⟨rfl, hrest, hx4⟩
        · go_wp2_with fail
          refine (unhide HN).mono ?_
          rintro e w2 ⟨rfl, hRd', hy2⟩
          have hA' := hy2.sl hRd hA
          have hBw' := hy2.sl hRd hBw
          have hAct' := hAct.stays hy2 hRd
          have hBel' := hBel.trans (hy2.below (B := w.heap.size) (by omega))
          have Hl' := Hl
          clear hy2 hA hBw hAct hBel hRd
          have hq1 : l.length ≤ again.length + rs.length := by rw [unhide Hl', List.length_append]; exact Nat.le_refl _
          have hq2 : again.length + rs.length ≤ l.length := by rw [unhide Hl', List.length_append]; exact Nat.le_refl _
          have hg1 : IntKind.i64.wrap ((l.length : Int) - (rs.length : Int)) = (again.length : Int) := by rw [IntKind.wrap_i64]; omega
          have hg2 : decide (l.length < again.length) = false := by simp; omega
          have hg3 : ((again.length : Nat) : Int) ≤ (cB : Int) := by omega
          have hg4 : again.length ≤ cB := by omega
          have hcA := fun nq => conv_sl (w2.drewN nq) _ _ hA'
          have htk : l.take again.length = again := by rw [unhide Hl']; exact List.take_left
          have hcB := fun nq => conv_sl (w2.drewN nq) (.slice aoB again.length cB) _ (hBw'.take again.length (by omega))
          rw [htk] at hcB
          have HA := hide hA'
          have HBw := hide hBw'
          have HAct := hide hAct'
          have HBel := hide hBel'
          clear htk hA' hBw' hAct' hBel'
          go_wp2_with fail
          go_quiet ((go_at_call 21; exact Calls.quiet_of_same (left_any R rs _ hRd' (by omega))))
          go_wp2
          go_roundw
          case rel => exact ⟨k + 1, again, rs, by go_num, by omega, by omega, unhide Hl', unhide HA, hRd', unhide HBw, unhide HAct, belowN (unhide HBel) _⟩
          case measure => simp [intOf]; omega
        · have Hrest := hide hrest
          clear hrest
          go_wp2_with fail
          refine (unhide HN).mono ?_
          rintro e w2 ⟨rfl, hRd2, hy2⟩
          have hA2 := hy2.sl hRd hA
          have hBw2 := hy2.sl hRd hBw
          have hAct2 := hAct.stays hy2 hRd
          have hBel2 := hBel.trans (hy2.below (B := w.heap.size) (by omega))
          have hzz := hBel2.size
          clear hy2 hA hBw hAct hBel hRd
          go_wp2_with fail
          refine (text_any _ again ⟨x.toArray⟩ _ hA2 (by omega) (by show x.toArray.size ≤ _; rw [List.size_toArray]; omega)).mono ?_
          rintro e w3 ⟨r3, rfl, ho3, hb3⟩
          have hA' := ho3.sl
          obtain ⟨aoN, cN, rfl, hNc, hNm, _⟩ := id hA'
          unfold maxLen at hNm
          have hBw' := hBw2.below hb3 (Nat.le_refl _)
          have hAct' := hAct2.below hb3 (Nat.le_refl _)
          have hRd' := hRd2.below hb3 (Nat.le_refl _)
          have hBel' := hBel2.trans (hb3.mono hzz)
          have Hl' : Hid (l = (again ++ encT ⟨x.toArray⟩) ++ rs) := by rw [List.append_assoc, ← unhide Hrest]; exact unhide Hl
          generalize again ++ encT ⟨x.toArray⟩ = ag2 at *
          clear ho3 hb3 hA2 hBw2 hAct2 hRd2 hBel2
          have hq1 : l.length ≤ ag2.length + rs.length := by rw [unhide Hl', List.length_append]; exact Nat.le_refl _
          have hq2 : ag2.length + rs.length ≤ l.length := by rw [unhide Hl', List.length_append]; exact Nat.le_refl _
          have hg1 : IntKind.i64.wrap ((l.length : Int) - (rs.length : Int)) = (ag2.length : Int) := by rw [IntKind.wrap_i64]; omega
          have hg2 : decide (l.length < ag2.length) = false := by simp; omega
          have hg3 : ((ag2.length : Nat) : Int) ≤ (cB : Int) := by omega
          have hg4 : ag2.length ≤ cB := by omega
          have hcA := fun nq => conv_sl (w3.drewN nq) _ _ hA'
          have htk : l.take ag2.length = ag2 := by rw [unhide Hl']; exact List.take_left
          have hcB := fun nq => conv_sl (w3.drewN nq) (.slice aoB ag2.length cB) _ (hBw'.take ag2.length (by omega))
          rw [htk] at hcB
          have HA := hide hA'
          have HBw := hide hBw'
          have HAct := hide hAct'
          have HBel := hide hBel'
          clear htk hA' hBw' hAct' hBel'
          go_wp2_with fail
          go_quiet ((go_at_call 21; exact Calls.quiet_of_same (left_any R rs _ hRd' (by omega))))
          go_wp2
          go_roundw
          case rel => exact ⟨k + 1, ag2, rs, by go_num, by omega, by omega, unhide Hl', unhide HA, hRd', unhide HBw, unhide HAct, belowN (unhide HBel) _⟩
          case measure => simp [intOf]; omega
      have k3 : (a.kind == 3) = false := by simpa using h3
      clear h1 h2 h3
      have hA' := hA
      have hBw' := hBw
      have hAct' := hAct
      have hBel' := hBel
      have hRd' := hRd
      have Hl' := Hl
      clear hA hBw hAct hBel hRd
      have hq1 : l.length ≤ again.length + rest.length := by rw [unhide Hl', List.length_append]; exact Nat.le_refl _
      have hq2 : again.length + rest.length ≤ l.length := by rw [unhide Hl', List.length_append]; exact Nat.le_refl _
      have hg1 : IntKind.i64.wrap ((l.length : Int) - (rest.length : Int)) = (again.length : Int) := by rw [IntKind.wrap_i64]; omega
      have hg2 : decide (l.length < again.length) = false := by simp; omega
      have hg3 : ((again.length : Nat) : Int) ≤ (cB : Int) := by omega
      have hg4 : again.length ≤ cB := by omega
      have hcA := fun nq => conv_sl (wr.drewN nq) _ _ hA'
      have htk : l.take again.length = again := by rw [unhide Hl']; exact List.take_left
      have hcB := fun nq => conv_sl (wr.drewN nq) (.slice aoB again.length cB) _ (hBw'.take again.length (by omega))
      rw [htk] at hcB
      have HA := hide hA'
      have HBw := hide hBw'
      have HAct := hide hAct'
      have HBel := hide hBel'
      clear htk hA' hBw' hAct' hBel'
      go_wp2_with fail
      go_quiet ((go_at_call 21; exact Calls.quiet_of_same (left_any R rest _ hRd' (by omega))))
      go_wp2
      go_roundw
      case rel => exact ⟨k + 1, again, rest, by go_num, by omega, by omega, unhide Hl', unhide HA, hRd', unhide HBw, unhide HAct, belowN (unhide HBel) _⟩
      case measure => simp [intOf]; omega
    · go_wp2_with fail
      all_goals
        refine (alive_any _).mono ?_
        rintro e w2 ⟨rfl, hb2⟩
        have R4 := hBel.trans (hb2.mono hBel.size)
        clear hb2
        go_wp2
        go_ret
        exact ⟨rfl, R4⟩

end Go.Proofs.Ytaeipnmmknpoeaa
