/-
  The document's own answers for what is put behind: numbers, flags, texts, acts.
-/
import Derived.Test.YtaeipnmmknpoeaaBack
namespace Go.Proofs.Ytaeipnmmknpoeaa
open Go.RowKit
set_option linter.unusedVariables false

set_option maxRecDepth 100000 in
set_option maxHeartbeats 400000 in
theorem refnumber_any (x : Int) (w : World) (hx : x ≤ 9223372036854775807) :
    Calls Try.prog 26 #[.int .i64 x] w fun e w' => ∃ r, e = .returned r ∧ Own w.heap.size w' r (enc x.toNat) ∧ Below w.heap.size w w' := by
  have hfull : Onb w.heap.size w (.slice none 0 0) [] := .inl ⟨none, rfl, fun _ => rfl, fun a h => (by cases h)⟩
  by_cases hneg : x < 0
  all_goals
    go_enter Try.func26, Try.ntmps26
    go_wp2
    go_loopw [0, 3] (fun i out wr => ∃ (k : List UInt8) (y : Nat), i = .int .i64 y ∧ y ≤ 9223372036854775807 ∧ enc x.toNat = k ++ enc y ∧ Onb w.heap.size wr out k ∧ Below w.heap.size w wr)
      (fun i _ _ => (intOf i).toNat)
    case atStart => exact ⟨[], x.toNat, by first | (congr 1; omega) | (rw [Int.toNat_of_nonneg (by omega)]), by omega, rfl, hfull, Below.refl _ _⟩
    case round =>
      obtain ⟨k, y, rfl, hy, hk, hown, hbel⟩ := hrel
      have hk9 : k.length ≤ 9 := by have := enc_len9 (v := x.toNat) (by omega); rw [hk, List.length_append] at this; omega
      have Hk := hide hk
      clear hk
      by_cases hbig : 128 ≤ y
      · obtain ⟨b, hbv, hbe⟩ : ∃ b : UInt8, (b.toNat : Int) = 128 + (y : Int) % 128 ∧ Hid (b = UInt8.ofNat (y % 128 + 128)) := ⟨_, by simp [UInt8.toNat_ofNat']; omega, rfl⟩
        have Hb := hide hbv
        clear hbv
        go_wp2_with (at_builtin; refine wpList_append_onb _ rfl (.tmp 8) (.tmp 13) rfl w.heap.size ?hB _ _ rfl (hown.alloc _) ⟨wr.heap.size, 0, none⟩ 1 [b] 1 rfl rfl ?hc (by decide) ?hl ?_)
        case hB => have := hbel.size; simp; omega
        case hl => omega
        case hc => exact cell_new1 _ _ _ Hb.out
        intro v' w1 ho hb
        go_wp2
        go_roundw
        case rel => exact ⟨k ++ [b], y / 128, by go_num, by omega, by rw [hbe.out]; exact number_step x y k Hk.out hbig, .inr ho, (hbel.alloc (by have := hbel.size; omega) _).trans hb⟩
        case measure => simp [intOf]; omega
      · obtain ⟨b, hbv, hbe⟩ : ∃ b : UInt8, (b.toNat : Int) = (y : Int) ∧ Hid (b = UInt8.ofNat y) := ⟨_, by simp [UInt8.toNat_ofNat']; omega, rfl⟩
        have Hb := hide hbv
        clear hbv
        go_wp2_with (at_builtin; refine wpList_append_onb _ rfl (.tmp 17) (.tmp 20) rfl w.heap.size ?hB' _ _ rfl (hown.alloc _) ⟨wr.heap.size, 0, none⟩ 1 [b] 1 rfl rfl ?hc' (by decide) ?hl' ?_)
        case hB' => have := hbel.size; simp; omega
        case hl' => omega
        case hc' => exact cell_new1 _ _ _ Hb.out
        intro v' w1 ho hb
        go_wp2
        go_ret
        refine ⟨v', rfl, ?_, (hbel.alloc (by have := hbel.size; omega) _).trans hb⟩
        rw [number_last x y k Hk.out (by omega), ← hbe.out]
        exact ho

theorem own_lit1 (w : World) (b : UInt8) (n : Int) (hb : (b.toNat : Int) = n) : Own w.heap.size (w.alloc (.cells #[.int .u8 n] 5)) (.slice (some ⟨w.heap.size, 0, none⟩) 1 1) [b] := by
  have := World.ownsRow_lit (e := 5) (size := 1) (base := w.heap.size) w #[.int .u8 n] 1 (Nat.le_refl _) (by decide) rfl
  unfold Own bc
  simp only [List.map_cons, List.map_nil, hb]
  exact this

set_option maxRecDepth 100000 in
theorem refflag_any (b : Bool) (w : World) :
    Calls Try.prog 27 #[.bool b] w fun e w' => ∃ r, e = .returned r ∧ Own w.heap.size w' r (encF b) ∧ Below w.heap.size w w' := by
  cases b
  · go_enter Try.func27, Try.ntmps27
    go_wp2
    go_ret
    exact ⟨_, rfl, own_lit1 w 0 0 rfl, (Below.refl _ _).alloc (Nat.le_refl _) _⟩
  · go_enter Try.func27, Try.ntmps27
    go_wp2
    go_ret
    exact ⟨_, rfl, own_lit1 w 1 1 rfl, (Below.refl _ _).alloc (Nat.le_refl _) _⟩

set_option maxRecDepth 100000 in
set_option maxHeartbeats 400000 in
theorem reftext_any (s : ByteArray) (w : World) (hss : s.size ≤ 1099511627776) :
    Calls Try.prog 28 #[.string s] w fun e w' => ∃ r, e = .returned r ∧ Own w.heap.size w' r (encT s) ∧ Below w.heap.size w w' := by
  obtain ⟨i0, hi, hz0, hz1, hz2⟩ := info_parts Try.infoByte
  have h9 := enc_len9 (v := s.size) (by omega)
  go_enter Try.func28, Try.ntmps28
  go_wp2_with fail
  refine (refnumber_any s.size _ (by omega)).mono ?_
  rintro e w' ⟨r, rfl, ho, hb⟩
  rw [Int.toNat_natCast] at ho
  go_wp2_with (at_builtin; refine Lib.wpList_append_own_string _ rfl (.tmp 5) (.tmp 6) 23 9 rfl w.heap.size 5 i0 Try.underlying23 Try.underlying9 hi hz0 hz1 hz2 _ _ _ rfl ho s rfl ?h1 ?h2 hb.size ?_)
  case h1 => unfold maxLen; omega
  case h2 => omega
  intro v' w1 ho' hg _
  have R : Own w.heap.size w1 v' (encT s) := by
    unfold Own encT
    rw [bc_append, List.length_append, str_len]
    exact ho'
  have R2 : Below w.heap.size w w1 := hb.grown hg hb.size (fun k hk => (World.ownsRow.lt ho k hk).1)
  clear ho' hg ho hb
  go_wp2
  go_ret
  exact ⟨_, rfl, R, R2⟩

set_option maxRecDepth 100000 in
set_option maxHeartbeats 400000 in
theorem actbytes_any (a : ActV) (w : World) (hn : a.n ≤ 9223372036854775807) (hss : a.s.size ≤ 400) :
    Calls Try.prog 11 #[.agg #[.int .i64 a.kind, .int .i64 a.n, .bool a.f, .string a.s]] w fun e w' => ∃ r, e = .returned r ∧ Own w.heap.size w' r a.bytes ∧ Below w.heap.size w w' := by
  obtain ⟨kind, n, f, s⟩ := a
  simp only at hn hss
  have hb0 : ∀ o, Below w.heap.size w (w.alloc o) := fun o => (Below.refl _ _).alloc (Nat.le_refl _) _
  have Hb := hide hb0
  clear hb0
  unfold ActV.bytes
  simp only
  by_cases h1 : kind = 1
  · subst h1
    rw [if_pos rfl]
    go_enter Try.func11, Try.ntmps11
    go_wp2_with fail
    refine (refnumber_any n _ hn).mono ?_
    rintro e w1 ⟨r1, rfl, ho1, hb1⟩
    go_wp2
    go_ret
    exact ⟨_, rfl, ho1.mono (by simp), (unhide Hb _).trans (hb1.mono (by simp))⟩
  · have k1 : (kind == 1) = false := by simpa using h1
    rw [if_neg h1]
    by_cases h2 : kind = 2
    · subst h2
      rw [if_pos rfl]
      go_enter Try.func11, Try.ntmps11
      go_wp2_with fail
      refine (refflag_any f _).mono ?_
      rintro e w1 ⟨r1, rfl, ho1, hb1⟩
      go_wp2
      go_ret
      exact ⟨_, rfl, ho1.mono (by simp), (unhide Hb _).trans (hb1.mono (by simp))⟩
    · have k2 : (kind == 2) = false := by simpa using h2
      rw [if_neg h2]
      go_enter Try.func11, Try.ntmps11
      go_wp2_with fail
      refine (reftext_any s _ (by omega)).mono ?_
      rintro e w1 ⟨r1, rfl, ho1, hb1⟩
      go_wp2
      go_ret
      exact ⟨_, rfl, ho1.mono (by simp), (unhide Hb _).trans (hb1.mono (by simp))⟩

end Go.Proofs.Ytaeipnmmknpoeaa
