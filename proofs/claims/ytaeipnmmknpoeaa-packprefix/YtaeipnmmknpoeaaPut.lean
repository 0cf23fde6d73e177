/-
  pack.Flag, pack.Text: what they answer.
-/
import Derived.Test.YtaeipnmmknpoeaaNum
namespace Go.Proofs.Ytaeipnmmknpoeaa
open Go.RowKit
set_option linter.unusedVariables false

/-- The bytes of a flag, of a text. -/
def encF (b : Bool) : List UInt8 := if b then [1] else [0]
def encT (s : ByteArray) : List UInt8 := enc s.size ++ s.data.toList

theorem str_len (s : ByteArray) : s.data.toList.length = s.size := Array.length_toList

theorem enc_one : enc 1 = [1] := by rw [enc_small (by decide)]; rfl
theorem enc_zero : enc 0 = [0] := by rw [enc_small (by decide)]; rfl

set_option maxRecDepth 100000 in
set_option maxHeartbeats 400000 in
theorem flag_any (v : Value) (l : List UInt8) (b : Bool) (w : World) (hs : Sl w v l) (hl : l.length ≤ 1099511627776) :
    Calls Try.prog 24 #[v, .bool b] w fun e w' => ∃ r, e = .returned r ∧ Own w.heap.size w' r (l ++ encF b) ∧ Below w.heap.size w w' := by
  have hv : ∃ ao n c, v = .slice ao n c := by obtain ⟨ao, c, rfl, _⟩ := hs; exact ⟨_, _, _, rfl⟩
  obtain ⟨ao, n, c, rfl⟩ := hv
  cases b
  · go_enter Try.func24, Try.ntmps24
    go_wp2_with fail
    refine (number_any _ l 0 _ hs hl (by decide)).mono ?_
    rintro e w' ⟨r, rfl, ho, hb⟩
    go_wp2
    go_ret
    exact ⟨_, rfl, by simpa [encF, enc_zero] using ho, hb⟩
  · go_enter Try.func24, Try.ntmps24
    go_wp2_with fail
    refine (number_any _ l 1 _ hs hl (by decide)).mono ?_
    rintro e w' ⟨r, rfl, ho, hb⟩
    go_wp2
    go_ret
    exact ⟨_, rfl, by simpa [encF, enc_one] using ho, hb⟩

set_option maxRecDepth 100000 in
set_option maxHeartbeats 400000 in
theorem text_any (v : Value) (l : List UInt8) (s : ByteArray) (w : World) (hs : Sl w v l) (hl : l.length ≤ 1099511627776) (hss : s.size ≤ 1099511627776) :
    Calls Try.prog 25 #[v, .string s] w fun e w' => ∃ r, e = .returned r ∧ Own w.heap.size w' r (l ++ encT s) ∧ Below w.heap.size w w' := by
  have hv : ∃ ao n c, v = .slice ao n c := by obtain ⟨ao, c, rfl, _⟩ := hs; exact ⟨_, _, _, rfl⟩
  obtain ⟨ao, n, c, rfl⟩ := hv
  obtain ⟨i0, hi, hz0, hz1, hz2⟩ := info_parts Try.infoByte
  have h9 := enc_len9 (v := s.size) (by omega)
  go_enter Try.func25, Try.ntmps25
  go_wp2_with fail
  refine (number_any _ l s.size _ hs hl (by omega)).mono ?_
  rintro e w' ⟨r, rfl, ho, hb⟩
  rw [Int.toNat_natCast] at ho
  go_wp2_with (at_builtin; refine Lib.wpList_append_own_string _ rfl (.tmp 8) (.tmp 9) 23 9 rfl w.heap.size 5 i0 Try.underlying23 Try.underlying9 hi hz0 hz1 hz2 _ _ _ rfl ho s rfl ?h1 ?h2 hb.size ?_)
  case h1 => unfold maxLen; rw [List.length_append]; omega
  case h2 => rw [List.length_append]; omega
  intro v' w1 ho' hg _
  have R : Own w.heap.size w1 v' (l ++ encT s) := by
    unfold Own encT
    rw [← List.append_assoc, bc_append, List.length_append, List.length_append, str_len]
    exact ho'
  have R2 : Below w.heap.size w w1 := hb.grown hg hb.size (fun k hk => (World.ownsRow.lt ho k hk).1)
  clear ho' hg ho hb
  go_wp2
  go_ret
  exact ⟨_, rfl, R, R2⟩

end Go.Proofs.Ytaeipnmmknpoeaa
