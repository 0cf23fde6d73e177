/-
  The law PackNil: its walk.
-/
import Derived.Test.YtaeipnmmknpoeaaAlive
namespace Go.Proofs.Ytaeipnmmknpoeaa
open Go.RowKit
set_option linter.unusedVariables false

theorem conv_lit0 (w : World) : (convert 23 9 (.slice (some ⟨w.heap.size, 0, none⟩) 1 1)).run Try.prog (w.alloc (.cells #[.int .u8 0] 5)) = .ok (.string ⟨#[0]⟩) (w.alloc (.cells #[.int .u8 0] 5)) :=
  conv_sl _ _ [0] ⟨_, _, rfl, Nat.le_refl _, by decide, fun e => (by cases e), fun a ha j u hu => (by cases ha; exact cell_new1 w 0 0 rfl j u hu)⟩

theorem enc_neg (x : Int) (h : x ≤ 0) : [] ++ enc x.toNat = [0] := by rw [show x.toNat = 0 by omega, enc_zero]; rfl

set_option maxRecDepth 100000 in
set_option maxHeartbeats 1000000 in
theorem walkPackNil (a0 : Int) (w0 : (Lit.int .i64 a0).wf = true) (w : World) :
    Calls Try.prog 7 #[.int .i64 a0] w fun e w' => e = .returned (.bool true) ∧ Below w.heap.size w w' := by
  by_cases hneg : a0 ≤ 0
  · go_enter Try.func7, Try.ntmps7
    go_wp2_with fail
    refine (nil_number _ _).mono ?_
    rintro e w' ⟨rfl, rfl⟩
    go_wp2_with fail
    refine (nil_flag _).mono ?_
    rintro e w' ⟨rfl, rfl⟩
    go_wp2_with fail
    refine (nil_text _ _).mono ?_
    rintro e w' ⟨rfl, rfl⟩
    go_wp2_with fail
    refine (number_any _ [] a0 _ (Sl.nil _) (by decide) (by omega)).mono ?_
    rintro e w1 ⟨r1, rfl, ho1, hb1⟩
    have hs1 := ho1.sl
    rw [enc_neg _ (by omega)] at hs1
    obtain ⟨ao, c, rfl, _⟩ := id hs1
    have hcv : (convert 23 9 (.slice ao 1 c)).run Try.prog w1 = .ok (.string ⟨#[0]⟩) w1 := conv_sl w1 _ [0] hs1
    clear ho1 hs1
    go_wp2_with fail
    refine (alive_any _).mono ?_
    rintro e w2 ⟨rfl, hb2⟩
    have hcv2 := conv_lit0 w2
    have hsz := hb1.size
    have hsz2 := hb2.size
    have HB := hide ((hb1.trans (hb2.mono hsz)).alloc (by omega) (.cells #[.int .u8 0] 5))
    clear hb1 hb2 hcv
    go_wp2_with fail
    refine (nil_left _).mono ?_
    rintro e w' ⟨rfl, rfl⟩
    go_wp2_with fail
    refine (nil_end _).mono ?_
    rintro e w' ⟨rfl, rfl⟩
    go_wp2
    go_ret
    exact ⟨rfl, unhide HB⟩
  · go_enter Try.func7, Try.ntmps7
    go_wp2_with fail
    refine (nil_number _ _).mono ?_
    rintro e w' ⟨rfl, rfl⟩
    go_wp2_with fail
    refine (nil_flag _).mono ?_
    rintro e w' ⟨rfl, rfl⟩
    go_wp2_with fail
    refine (nil_text _ _).mono ?_
    rintro e w' ⟨rfl, rfl⟩
    go_wp2_with fail
    refine (number_any _ [] 0 _ (Sl.nil _) (by decide) (by omega)).mono ?_
    rintro e w1 ⟨r1, rfl, ho1, hb1⟩
    have hs1 := ho1.sl
    rw [enc_neg _ (by omega)] at hs1
    obtain ⟨ao, c, rfl, _⟩ := id hs1
    have hcv : (convert 23 9 (.slice ao 1 c)).run Try.prog w1 = .ok (.string ⟨#[0]⟩) w1 := conv_sl w1 _ [0] hs1
    clear ho1 hs1
    go_wp2_with fail
    refine (alive_any _).mono ?_
    rintro e w2 ⟨rfl, hb2⟩
    have hcv2 := conv_lit0 w2
    have hsz := hb1.size
    have hsz2 := hb2.size
    have HB := hide ((hb1.trans (hb2.mono hsz)).alloc (by omega) (.cells #[.int .u8 0] 5))
    clear hb1 hb2 hcv
    go_wp2_with fail
    refine (nil_left _).mono ?_
    rintro e w' ⟨rfl, rfl⟩
    go_wp2_with fail
    refine (nil_end _).mono ?_
    rintro e w' ⟨rfl, rfl⟩
    go_wp2
    go_ret
    exact ⟨rfl, unhide HB⟩

end Go.Proofs.Ytaeipnmmknpoeaa
