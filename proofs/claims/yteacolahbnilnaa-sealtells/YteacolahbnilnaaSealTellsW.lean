/-
  The law SealTells: its walk.
-/
import Derived.Test.YteacolahbnilnaaRefScan
namespace Go.Proofs.Yteacolahbnilnaa
open Go.RowKit
set_option linter.unusedVariables false

set_option maxRecDepth 100000 in
set_option maxHeartbeats 4000000 in
theorem walkSealTells (w : World) (v : Value) (l : List UInt8) (hs : Sl w v l) :
    Calls Try.prog 3 #[v] w fun e w' => e = .returned (.bool true) ∧ Below w.heap.size w w' := by
  have hv : ∃ ao c, v = .slice ao l.length c ∧ l.length ≤ c ∧ c ≤ maxLen := by obtain ⟨ao, c, rfl, h1, h2, _⟩ := hs; exact ⟨_, _, rfl, h1, h2⟩
  obtain ⟨ao, c, rfl, hc1, hc2⟩ := hv
  unfold maxLen at hc2
  have Hs := hide hs
  clear hs
  by_cases hbig : 500 < l.length
  · go_enter Try.func3, Try.ntmps3
    go_wp2_with fail
    refine (alive_any _).mono ?_
    rintro e w3 ⟨rfl, hb3⟩
    go_wp2
    go_ret
    exact ⟨rfl, hb3⟩
  obtain ⟨rs, hsc⟩ := Scans.ex l.length l (Nat.le_refl _)
  have Hsc := hide hsc
  clear hsc
  -- the two frames: a value each, the same bytes, the same error
  have HF : Hid (∃ (y : List UInt8) (er : Int), Calls Try.prog 9 #[.slice ao l.length c] w (fun e w' => ∃ o d, e = .returned (.tuple #[.slice o y.length d, .int .i64 er]) ∧ Sl w' (.slice o y.length d) y ∧ Below w.heap.size w w') ∧
      ∀ w1, Below w.heap.size w w1 → Calls Try.prog 10 #[.slice ao l.length c] w1 (fun e w' => ∃ o d, e = .returned (.tuple #[.slice o y.length d, .int .i64 er]) ∧ Sl w' (.slice o y.length d) y ∧ Below w1.heap.size w1 w')) := by
    by_cases hf : Fits l
    · refine ⟨fr l, 0, (frame_yes _ l _ Hs.out hf).mono ?_, fun w1 h1 => (refframe_yes _ l _ (Hs.out.below h1 (Nat.le_refl _)) hf).mono ?_⟩
      · rintro e w' ⟨r, rfl, ho, hb⟩
        obtain ⟨o, d, rfl⟩ := ho.val
        exact ⟨o, d, rfl, ho.sl, hb⟩
      · rintro e w' ⟨r, rfl, ho, hb⟩
        obtain ⟨o, d, rfl⟩ := ho.val
        exact ⟨o, d, rfl, ho.sl, hb⟩
    · refine ⟨[], 21, (frame_no _ l _ Hs.out hf).mono ?_, fun w1 h1 => (refframe_no _ l _ (Hs.out.below h1 (Nat.le_refl _)) hf).mono ?_⟩
      · rintro e w' ⟨rfl, rfl⟩
        exact ⟨none, 0, rfl, Sl.nil _, Below.refl _ _⟩
      · rintro e w' ⟨rfl, rfl⟩
        exact ⟨none, 0, rfl, Sl.nil _, Below.refl _ _⟩
  have HW : Hid (∃ (x : List UInt8) (er : Int), (∀ w1, Below w.heap.size w w1 → Calls Try.prog 13 #[.slice ao l.length c] w1 (fun e w' => ∃ o d, e = .returned (.tuple #[.slice o x.length d, .int .i64 er]) ∧ Sl w' (.slice o x.length d) x ∧ Below w1.heap.size w1 w')) ∧
      ∀ w1, Below w.heap.size w w1 → Calls Try.prog 14 #[.slice ao l.length c] w1 (fun e w' => ∃ o d, e = .returned (.tuple #[.slice o x.length d, .int .i64 er]) ∧ Sl w' (.slice o x.length d) x ∧ Below w1.heap.size w1 w')) := by
    cases hw : whole l with
    | none =>
      refine ⟨[], 21, fun w1 h1 => (whole_any _ l _ (Hs.out.below h1 (Nat.le_refl _)) (by omega)).mono ?_, fun w1 h1 => (refwhole_any _ l _ (Hs.out.below h1 (Nat.le_refl _)) (by omega)).mono ?_⟩
      · rintro e w' ⟨⟨_, rfl⟩ | ⟨r, x, hx, _⟩, hb⟩
        · exact ⟨none, 0, rfl, Sl.nil _, hb⟩
        · rw [hw] at hx; cases hx
      · rintro e w' ⟨⟨_, rfl⟩ | ⟨r, x, hx, _⟩, q, rfl⟩
        · exact ⟨none, 0, rfl, Sl.nil _, belowN (Below.refl _ _) q⟩
        · rw [hw] at hx; cases hx
    | some x =>
      refine ⟨x, 0, fun w1 h1 => (whole_any _ l _ (Hs.out.below h1 (Nat.le_refl _)) (by omega)).mono ?_, fun w1 h1 => (refwhole_any _ l _ (Hs.out.below h1 (Nat.le_refl _)) (by omega)).mono ?_⟩
      · rintro e w' ⟨⟨hx, _⟩ | ⟨r, y, hy, rfl, ho⟩, hb⟩
        · rw [hw] at hx; cases hx
        · rw [hw] at hy; cases hy
          obtain ⟨o, d, rfl⟩ := ho.val
          exact ⟨o, d, rfl, ho.sl, hb⟩
      · rintro e w' ⟨⟨hx, _⟩ | ⟨r, y, hy, rfl, ho⟩, q, rfl⟩
        · rw [hw] at hx; cases hx
        · rw [hw] at hy; cases hy
          obtain ⟨o, d, rfl, _⟩ := id ho
          exact ⟨o, d, rfl, ho.drewN q, belowN (Below.refl _ _) q⟩
  obtain ⟨y, er, hF1, hF2⟩ := HF.out
  obtain ⟨x, ew, hW1, hW2⟩ := HW.out
  have HF1 := hide hF1
  have HF2 := hide hF2
  have HW1 := hide hW1
  have HW2 := hide hW2
  clear hF1 hF2 hW1 hW2 HF HW
  go_enter Try.func3, Try.ntmps3
  go_wp2_with fail
  refine HF1.out.mono ?_
  rintro e w1 ⟨fo, fd, rfl, hx1, hb1⟩
  have hz1 := hb1.size
  go_wp2_with fail
  refine (HF2.out w1 hb1).mono ?_
  rintro e w2 ⟨go, gd, rfl, hy2, hb2⟩
  have hB2 := hb1.trans (hb2.mono hz1)
  have hx2 := hx1.below hb2 (Nat.le_refl _)
  have hz2 := hb2.size
  clear hx1 hb1 hb2
  go_wp2_with fail
  refine (scan_any _ l rs _ (Hs.out.below hB2 (Nat.le_refl _)) (by omega) Hsc.out).mono ?_
  rintro e w3 ⟨r3, rfl, hrec, hb3⟩
  have hB3 := hB2.trans (hb3.mono (by omega))
  have hx3 := hx2.below hb3 (Nat.le_refl _)
  have hy3 := hy2.below hb3 (Nat.le_refl _)
  have hz3 := hb3.size
  obtain ⟨ra, rc, rfl⟩ := hrec.val
  clear hB2 hx2 hy2 hb3
  go_wp2_with fail
  refine (refscan_any _ l rs _ (Hs.out.below hB3 (Nat.le_refl _)) (by omega) Hsc.out).mono ?_
  rintro e w4 ⟨r4, rfl, hheld, hb4⟩
  have hbs2 := hheld.bss hb4
  have hB4 := hB3.trans (hb4.mono (by omega))
  have hx4 := hx3.below hb4 (Nat.le_refl _)
  have hy4 := hy3.below hb4 (Nat.le_refl _)
  have hbs1 := hrec.bss.below hb4 (Nat.le_refl _)
  have hz4 := hb4.size
  obtain ⟨ta, tc, rfl⟩ := hheld.val
  clear hB3 hx3 hy3 hb4 hrec hheld
  go_wp2_with fail
  refine (HW1.out w4 hB4).mono ?_
  rintro e w5 ⟨po, pd, rfl, hp5, hb5⟩
  have hB5 := hB4.trans (hb5.mono (by omega))
  have hx5 := hx4.below hb5 (Nat.le_refl _)
  have hy5 := hy4.below hb5 (Nat.le_refl _)
  have hbs15 := hbs1.below hb5 (Nat.le_refl _)
  have hbs25 := hbs2.below hb5 (Nat.le_refl _)
  have hz5 := hb5.size
  clear hB4 hx4 hy4 hb5 hbs1 hbs2
  go_wp2_with fail
  refine (HW2.out w5 hB5).mono ?_
  rintro e w6 ⟨qo, qd, rfl, hq6, hb6⟩
  have hB6 := hB5.trans (hb6.mono (by omega))
  have hx6 := hx5.below hb6 (Nat.le_refl _)
  have hy6 := hy5.below hb6 (Nat.le_refl _)
  have hp6 := hp5.below hb6 (Nat.le_refl _)
  have hbs16 := hbs15.below hb6 (Nat.le_refl _)
  have hbs26 := hbs25.below hb6 (Nat.le_refl _)
  have hz6 := hb6.size
  clear hB5 hx5 hy5 hp5 hb6 hbs15 hbs25
  go_wp2_with fail
  refine (alive_any _).mono ?_
  rintro e w7 ⟨rfl, hb7⟩
  have hB7 := hB6.trans (hb7.mono (by omega))
  have hx7 := hx6.below hb7 (Nat.le_refl _)
  have hy7 := hy6.below hb7 (Nat.le_refl _)
  have hp7 := hp6.below hb7 (Nat.le_refl _)
  have hq7 := hq6.below hb7 (Nat.le_refl _)
  have hbs17 := hbs16.below hb7 (Nat.le_refl _)
  have hbs27 := hbs26.below hb7 (Nat.le_refl _)
  have hs7 := Hs.out.below hB7 (Nat.le_refl _)
  clear hB6 hx6 hy6 hp6 hq6 hb7 hbs16 hbs26
  go_wp2_with fail
  refine (sum_any _ l _ hs7).mono ?_
  rintro e w' ⟨rfl, hw⟩
  obtain rfl := hw.symm
  clear hw
  go_wp2_with fail
  refine (refsum_any _ l _ hs7).mono ?_
  rintro e w' ⟨rfl, hw⟩
  obtain rfl := hw.symm
  clear hw
  have cX := conv_sl w7 _ _ hx7
  have cY := conv_sl w7 _ _ hy7
  have HP := hide hp7
  have HQ := hide hq7
  have HB7 := hide hB7
  clear hx7 hy7 hp7 hq7 hB7 hs7
  go_wp2_with fail
  refine (same_yes _ _ rs _ hbs17 hbs27).mono ?_
  rintro e w8 ⟨rfl, q8, rfl⟩
  have cP := conv_sl (w7.drewN q8) _ _ (HP.out.drewN q8)
  have cQ := conv_sl (w7.drewN q8) _ _ (HQ.out.drewN q8)
  clear hbs17 hbs27 cX cY
  go_wp2
  go_ret
  exact ⟨rfl, belowN (unhide HB7) q8⟩

end Go.Proofs.Yteacolahbnilnaa
