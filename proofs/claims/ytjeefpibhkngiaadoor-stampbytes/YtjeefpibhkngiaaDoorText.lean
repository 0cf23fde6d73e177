/-
  Contract of stamp.Text, and the laws' live question. No law is proved here.
-/
import Derived.Test.YtjeefpibhkngiaaDoorNext
import Derived.Lib.ItoaLen
import Derived.Laws.Concat
namespace Go.Proofs.YtjeefpibhkngiaaDoor
open Go.RowKit
set_option linter.unusedVariables false

/-- A stamp's text. -/
def txt (a b : Int) : List UInt8 := Lib.itoa a ++ 46 :: Lib.itoa b

theorem str_add (l m : List UInt8) : (⟨l.toArray⟩ : ByteArray) ++ ⟨m.toArray⟩ = ⟨(l ++ m).toArray⟩ := by
  apply ByteArray.ext
  simp

section
set_option maxRecDepth 100000

set_option maxHeartbeats 1000000 in
theorem text_any (a b : Int) (a0 : -9223372036854775808 ≤ a) (a1 : a ≤ 9223372036854775807) (b0 : -9223372036854775808 ≤ b) (b1 : b ≤ 9223372036854775807) (w : World) (ht : Tab w) :
    Calls Tryd.prog 21 #[(.agg #[.int .i64 a, .int .i64 b])] w fun e w' => e = .returned (.string ⟨(txt a b).toArray⟩) ∧ Below w.heap.size w w' := by
  go_enter Tryd.func21, Tryd.ntmps21
  go_wp2_with fail
  have hB : Below w.heap.size w (w.alloc (.cells #[.int .i64 a, .int .i64 b] 23)) := (Below.refl _ _).alloc (Nat.le_refl _) _
  have ht1 : Tab (w.alloc (.cells #[.int .i64 a, .int .i64 b] 23)) := ht.below hB
  have c0 : (w.alloc (.cells #[.int .i64 a, .int .i64 b] 23)).cell? ⟨w.heap.size, 0, none⟩ = some (.int .i64 a) := by simp
  have c1 : (w.alloc (.cells #[.int .i64 a, .int .i64 b] 23)).cell? ⟨w.heap.size, 1, none⟩ = some (.int .i64 b) := by simp
  have hla := Lib.itoa_length_le a a0 a1
  have hlb := Lib.itoa_length_le b b0 b1
  have hA : ∀ w, (Op.stringOp .add ⟨(Lib.itoa a).toArray⟩ ⟨#[46]⟩).run Tryd.prog w = .ok (.string ⟨(Lib.itoa a ++ [46]).toArray⟩) w := fun w => run_string_add_lists w _ [46] (by omega) (by decide)
  have hC : ∀ w, (Op.stringOp .add ⟨(Lib.itoa a ++ [46]).toArray⟩ ⟨(Lib.itoa b).toArray⟩).run Tryd.prog w = .ok (.string ⟨(Lib.itoa a ++ [46] ++ Lib.itoa b).toArray⟩) w := fun w => run_string_add_lists w _ _ (by rw [List.length_append]; simp; omega) (by omega)
  have e : Lib.itoa a ++ [46] ++ Lib.itoa b = txt a b := by simp [txt]
  rw [e] at hC
  clear e hla hlb
  generalize Lib.itoa a ++ [46] = xa at *
  have HB := hide hB
  clear hB
  generalize (w.alloc (.cells #[.int .i64 a, .int .i64 b] 23)) = w1 at *
  have k0 : ∀ i : Later w1, i.val.cell? ⟨w.heap.size, 0, none⟩ = some (.int .i64 a) := fun i => i.cell c0
  have k1 : ∀ i : Later w1, i.val.cell? ⟨w.heap.size, 1, none⟩ = some (.int .i64 b) := fun i => i.cell c1
  have kt := hide (fun i : Later w1 => ht1.below i.below)
  have inst : Nonempty (Later w1) := ⟨⟨w1, Below.refl _ _⟩⟩
  clear c0 c1 ht1
  refine wp_region_later (by kernel_rfl) (by kernel_rfl) ?_
  repeat (first | go_big_quiet_step ((go_at_call 34; exact calls_later (itoa_any _ (by assumption) (by assumption) _ (unhide kt _)))) | quiet_step ((go_at_call 34; exact calls_later (itoa_any _ (by assumption) (by assumption) _ (unhide kt _)))))
  refine wpQuiet_nil ?_
  intro w' hw'
  obtain ⟨i, rfl⟩ := hw'
  go_wp2
  go_ret
  exact ⟨rfl, (unhide HB).trans (i.below.mono (unhide HB).size)⟩

theorem nxt_alive : nxt 3 65535 = (4, 0, 0) := by decide
theorem less_alive : lessB 3 9 4 0 = true := by decide
theorem txt_alive : txt 12 3 = [49, 50, 46, 51] := by
  have h1 : Lib.decDigits 1 = [49] := by rw [Lib.decDigits, dif_pos (by decide)]; rfl
  have h2 : Lib.decDigits 12 = [49, 50] := by rw [Lib.decDigits, dif_neg (by decide), show 12 / 10 = 1 from rfl, h1]; rfl
  have h3 : Lib.decDigits 3 = [51] := by rw [Lib.decDigits, dif_pos (by decide)]; rfl
  have e1 : Lib.itoa 12 = [49, 50] := h2
  have e2 : Lib.itoa 3 = [51] := h3
  rw [txt, e1, e2]
  rfl

set_option maxHeartbeats 1000000 in
theorem alive_any (w : World) (ht : Tab w) : Calls Tryd.prog 12 #[] w fun e w' => e = .returned (.bool true) ∧ Below w.heap.size w w' := by
  go_enter Tryd.func12, Tryd.ntmps12
  go_wp2_with fail
  have h1 := next_any 3 65535 w
  rw [nxt_alive] at h1
  refine h1.mono ?_
  clear h1
  rintro e w1 ⟨rfl, hb1⟩
  have ht1 := ht.below hb1
  have hsz1 := hb1.size
  go_wp2_with fail
  have h2 := fun w => less_any 3 9 4 0 w
  rw [less_alive] at h2
  refine (h2 _).mono ?_
  clear h2
  rintro e w2 ⟨rfl, hb2⟩
  have hb2' := ((Below.refl w1.heap.size w1).alloc (Nat.le_refl _) _).trans (hb2.mono (by simp))
  have ht2 := ht1.below hb2'
  have hsz2 := hb2'.size
  have HB := hide (hb1.trans (hb2'.mono hsz1))
  clear hb2 hb2' hb1 ht ht1
  go_wp2_with fail
  have h3 := text_any 12 3 (by decide) (by decide) (by decide) (by decide) w2 ht2
  rw [txt_alive] at h3
  refine h3.mono ?_
  clear h3
  rintro e w3 ⟨rfl, hb3⟩
  have HB3 := hide ((unhide HB).trans (hb3.mono (by omega)))
  clear hb3 HB
  go_wp2
  go_ret
  exact ⟨rfl, unhide HB3⟩
end

end Go.Proofs.YtjeefpibhkngiaaDoor
