/-
  pack.Number: what it answers.
-/
import Derived.Test.YtjeefpibhkngiaaDoorPack
namespace Go.Proofs.YtjeefpibhkngiaaDoor
open Go.RowKit
set_option linter.unusedVariables false

theorem number_step (x : Int) (y : Nat) (k : List UInt8) (h : enc x.toNat = k ++ enc y) (hy : 128 ≤ y) : enc x.toNat = (k ++ [UInt8.ofNat (y % 128 + 128)]) ++ enc (y / 128) := by
  rw [h, enc_big hy]; simp

theorem number_last (x : Int) (y : Nat) (k : List UInt8) (h : enc x.toNat = k ++ enc y) (hy : y < 128) : enc x.toNat = k ++ [UInt8.ofNat y] := by
  rw [h, enc_small hy]

set_option maxRecDepth 100000 in
set_option maxHeartbeats 400000 in
theorem number_any (v : Value) (l : List UInt8) (x : Int) (w : World) (hs : Sl w v l) (hl : l.length ≤ 1099511627776) (hx : x ≤ 9223372036854775807) :
    Calls Tryd.prog 39 #[v, .int .i64 x] w fun e w' => ∃ r, e = .returned r ∧ Own w.heap.size w' r (l ++ enc x.toNat) ∧ Below w.heap.size w w' := by
  obtain ⟨ao, c, rfl, h1, h2, h3, h4⟩ := hs
  have hfull : Onb w.heap.size w (.slice ao l.length l.length) (l ++ []) := by rw [List.append_nil]; exact .inl ⟨ao, rfl, fun e => (h3 e).1, h4⟩
  unfold maxLen at h2
  have H3 : Hid (ao = none → l = [] ∧ c = 0) := h3
  have H4 : Hid (∀ a, ao = some a → ∀ j u, (bc l)[j]? = some u → w.cell? (a.add j) = some u) := h4
  clear h3 h4
  go_enter Tryd.func39, Tryd.ntmps39
  go_wp2
  all_goals
    go_loopw [1, 5] (fun i out wr => ∃ (k : List UInt8) (y : Nat), i = .int .i64 y ∧ y ≤ 9223372036854775807 ∧ enc x.toNat = k ++ enc y ∧ Onb w.heap.size wr out (l ++ k) ∧ Below w.heap.size w wr)
      (fun i _ _ => (intOf i).toNat)
    case atStart => exact ⟨[], x.toNat, by first | (congr 1; omega) | (rw [Int.toNat_of_nonneg (by omega)]), by omega, rfl, hfull, Below.refl _ _⟩
    case round =>
      obtain ⟨k, y, rfl, hy, hk, hown, hbel⟩ := hrel
      have hk9 : k.length ≤ 9 := by have := enc_len9 (v := x.toNat) (by omega); rw [hk, List.length_append] at this; omega
      have Hk : Hid (enc x.toNat = k ++ enc y) := hk
      clear hk
      by_cases hbig : 128 ≤ y
      · obtain ⟨b, hbv, hbe⟩ : ∃ b : UInt8, (b.toNat : Int) = (y : Int) % 128 + 128 ∧ Hid (b = UInt8.ofNat (y % 128 + 128)) := ⟨_, by simp [UInt8.toNat_ofNat']; omega, rfl⟩
        have Hb : Hid ((b.toNat : Int) = (y : Int) % 128 + 128) := hbv
        clear hbv
        go_wp2_with (at_builtin; refine wpList_append_onb _ rfl (.tmp 16) (.tmp 21) rfl w.heap.size ?hB _ _ rfl (hown.alloc _) ⟨wr.heap.size, 0, none⟩ 1 [b] 1 rfl rfl ?hc (by decide) ?hl ?_)
        case hB => have := hbel.size; simp; omega
        case hl => simp; omega
        case hc => exact cell_new1 _ _ _ Hb.out
        intro v' w1 ho hb
        go_wp2
        go_roundw
        case rel => exact ⟨k ++ [b], y / 128, by go_num, by omega, by rw [hbe.out]; exact number_step x y k Hk.out hbig, .inr ho, (hbel.alloc (by have := hbel.size; omega) _).trans hb⟩
        case measure => simp [intOf]; omega
      · obtain ⟨b, hbv, hbe⟩ : ∃ b : UInt8, (b.toNat : Int) = (y : Int) ∧ Hid (b = UInt8.ofNat y) := ⟨_, by simp [UInt8.toNat_ofNat']; omega, rfl⟩
        have Hb : Hid ((b.toNat : Int) = (y : Int)) := hbv
        clear hbv
        go_wp2_with (at_builtin; refine wpList_append_onb _ rfl (.tmp 25) (.tmp 28) rfl w.heap.size ?hB' _ _ rfl (hown.alloc _) ⟨wr.heap.size, 0, none⟩ 1 [b] 1 rfl rfl ?hc' (by decide) ?hl' ?_)
        case hB' => have := hbel.size; simp; omega
        case hl' => simp; omega
        case hc' => exact cell_new1 _ _ _ Hb.out
        intro v' w1 ho hb
        go_wp2
        go_ret
        refine ⟨v', rfl, ?_, (hbel.alloc (by have := hbel.size; omega) _).trans hb⟩
        rw [number_last x y k Hk.out (by omega), ← hbe.out, ← List.append_assoc]
        first | exact ho | (rw [List.append_assoc]; exact ho)

end Go.Proofs.YtjeefpibhkngiaaDoor
