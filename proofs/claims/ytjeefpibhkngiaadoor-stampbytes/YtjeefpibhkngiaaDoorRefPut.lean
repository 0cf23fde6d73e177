/-
  The document's own answers for what is put behind: numbers.
-/
import Derived.Test.YtjeefpibhkngiaaDoorBackMath
namespace Go.Proofs.YtjeefpibhkngiaaDoor
open Go.RowKit
set_option linter.unusedVariables false

set_option maxRecDepth 100000 in
set_option maxHeartbeats 400000 in
theorem refnumber_any (x : Int) (w : World) (hx : x ≤ 9223372036854775807) :
    Calls Tryd.prog 40 #[.int .i64 x] w fun e w' => ∃ r, e = .returned r ∧ Own w.heap.size w' r (enc x.toNat) ∧ Below w.heap.size w w' := by
  have hfull : Onb w.heap.size w (.slice none 0 0) [] := .inl ⟨none, rfl, fun _ => rfl, fun a h => (by cases h)⟩
  by_cases hneg : x < 0
  all_goals
    go_enter Tryd.func40, Tryd.ntmps40
    go_wp2
    go_loopw [0, 3] (fun i out wr => ∃ (k : List UInt8) (y : Nat), i = .int .i64 y ∧ y ≤ 9223372036854775807 ∧ enc x.toNat = k ++ enc y ∧ Onb w.heap.size wr out k ∧ Below w.heap.size w wr)
      (fun i _ _ => (intOf i).toNat)
    case atStart => exact ⟨[], x.toNat, by first | (congr 1; omega) | (rw [Int.toNat_of_nonneg (by omega)]), by omega, rfl, hfull, Below.refl _ _⟩
    case round =>
      obtain ⟨k, y, rfl, hy, hk, hown, hbel⟩ := hrel
      have hk9 : k.length ≤ 9 := by have := enc_len9 (v := x.toNat) (by omega); rw [hk, List.length_append] at this; omega
      have Hk := hide hk
      clear hk
      by_cases hbig : 128 ≤ y
      · obtain ⟨b, hbv, hbe⟩ : ∃ b : UInt8, (b.toNat : Int) = 128 + (y : Int) % 128 ∧ Hid (b = UInt8.ofNat (y % 128 + 128)) := ⟨_, by simp [UInt8.toNat_ofNat']; omega, rfl⟩
        have Hb := hide hbv
        clear hbv
        go_wp2_with (at_builtin; refine wpList_append_onb _ rfl (.tmp 8) (.tmp 13) rfl w.heap.size ?hB _ _ rfl (hown.alloc _) ⟨wr.heap.size, 0, none⟩ 1 [b] 1 rfl rfl ?hc (by decide) ?hl ?_)
        case hB => have := hbel.size; simp; omega
        case hl => omega
        case hc => exact cell_new1 _ _ _ Hb.out
        intro v' w1 ho hb
        go_wp2
        go_roundw
        case rel => exact ⟨k ++ [b], y / 128, by go_num, by omega, by rw [hbe.out]; exact number_step x y k Hk.out hbig, .inr ho, (hbel.alloc (by have := hbel.size; omega) _).trans hb⟩
        case measure => simp [intOf]; omega
      · obtain ⟨b, hbv, hbe⟩ : ∃ b : UInt8, (b.toNat : Int) = (y : Int) ∧ Hid (b = UInt8.ofNat y) := ⟨_, by simp [UInt8.toNat_ofNat']; omega, rfl⟩
        have Hb := hide hbv
        clear hbv
        go_wp2_with (at_builtin; refine wpList_append_onb _ rfl (.tmp 17) (.tmp 20) rfl w.heap.size ?hB' _ _ rfl (hown.alloc _) ⟨wr.heap.size, 0, none⟩ 1 [b] 1 rfl rfl ?hc' (by decide) ?hl' ?_)
        case hB' => have := hbel.size; simp; omega
        case hl' => omega
        case hc' => exact cell_new1 _ _ _ Hb.out
        intro v' w1 ho hb
        go_wp2
        go_ret
        refine ⟨v', rfl, ?_, (hbel.alloc (by have := hbel.size; omega) _).trans hb⟩
        rw [number_last x y k Hk.out (by omega), ← hbe.out]
        exact ho

end Go.Proofs.YtjeefpibhkngiaaDoor
