/-
  The laws' live question: it answers true.
-/
import Derived.Test.YtdhjogfalkmggaaCrash2
import Derived.Lib.SlBytesConst
namespace Go.Proofs.Ytdhjogfalkmggaa
open Go.RowKit
set_option linter.unusedVariables false

theorem sl_mark (w : World) (cs : Array Value) (l : List UInt8) (h : cs.toList = bc l) (hl : l.length ≤ maxLen) (fr : Nat × Nat) : Sl (w.alloc (.cells cs 5 fr)) (.slice (some ⟨w.heap.size, 0, none⟩) l.length l.length) l := by
  refine ⟨_, _, rfl, Nat.le_refl _, hl, fun e => (by cases e), fun a ha j u hu => ?_⟩
  cases ha
  rw [Addr.add_lit, Nat.zero_add, World.cell?_alloc_mark, ← hu, ← h]
  simp

abbrev tSafe : List UInt8 := [115, 97, 102, 101]
abbrev tNew : List UInt8 := [110, 101, 119]
abbrev tSafenew : List UInt8 := [115, 97, 102, 101, 110, 101, 119]
abbrev tSafend : List UInt8 := [115, 97, 102, 101, 110, 100]

theorem left_alive : left tSafe tSafenew 2 true = tSafend := by decide +kernel

set_option maxRecDepth 100000 in
set_option maxHeartbeats 4000000 in
theorem alive_any (w : World) : Calls Try.prog 24 #[] w fun e w' => e = .returned (.bool true) ∧ Below w.heap.size w w' := by
  have l1 := fun y : World => sl_mark y #[.int .u8 115, .int .u8 97, .int .u8 102, .int .u8 101] tSafe rfl (by decide) (4, 5)
  have l2 := fun y : World => sl_mark y #[.int .u8 110, .int .u8 101, .int .u8 119] tNew rfl (by decide) (3, 4)
  have q1 := fun y : World => Lib.run_convert_bytes_const (P := Try.prog) y 26 5 #[.int .u8 115, .int .u8 97, .int .u8 102, .int .u8 101] 4 4 Try.underlying26 Try.underlying5
  have q2 := fun y : World => Lib.run_convert_bytes_const (P := Try.prog) y 26 5 #[.int .u8 110, .int .u8 101, .int .u8 119] 3 3 Try.underlying26 Try.underlying5
  obtain ⟨B, hB⟩ : ∃ B, Hid (B = w.heap.size) := ⟨_, hide rfl⟩
  have L1 := hide l1
  have L2 := hide l2
  clear l1 l2
  go_enter Try.func24, Try.ntmps24
  go_wp2_with fail
  refine (new_any _).mono ?_
  rintro e w1 ⟨rfl, hw1⟩
  have hD := Dk.new (S := fun k => w.heap.size ≤ k) w (Nat.le_refl _) 48
  rw [← hw1] at hD
  have hb : Below w.heap.size w w1 := by rw [hw1]; exact below_new _ _
  clear hw1
  go_wp2_with fail
  refine (append_ok (S := fun k => w.heap.size ≤ k) w.heap.size [] [] [] [] tSafe _ _ (hD.later (below_new _ _)) (fun k hk => by have := hb.size; simp at hk; omega) (unhide L1 w1) (by decide)).mono ?_
  rintro e w2 ⟨rfl, hD2, hf2⟩
  replace hb := (hb.alloc hb.size _).trans (hf2.below (fun k hk => hk) (by have := hb.size; simp; omega))
  rw [List.nil_append] at hD2
  clear hD hf2
  go_wp2_with fail
  refine (sync_ok (S := fun k => w.heap.size ≤ k) w.heap.size _ _ _ _ _ hD2).mono ?_
  rintro e w3 ⟨rfl, hD3, hf3⟩
  replace hb := hb.trans (hf3.below (fun k hk => hk) hb.size)
  clear hD2 hf3
  go_wp2_with fail
  refine (append_ok (S := fun k => w.heap.size ≤ k) w.heap.size _ _ _ _ tNew _ _ (hD3.later (below_new _ _)) (fun k hk => by have := hb.size; simp at hk; omega) (unhide L2 w3) (by decide)).mono ?_
  rintro e w4 ⟨rfl, hD4, hf4⟩
  replace hb := (hb.alloc hb.size _).trans (hf4.below (fun k hk => hk) (by have := hb.size; simp; omega))
  replace hD4 : Dk (fun k => w.heap.size ≤ k) w4 w.heap.size tSafenew [] tSafe [] := hD4
  clear hD3 hf4
  go_wp2_with fail
  refine (crash_ok (S := fun k => w.heap.size ≤ k) w.heap.size _ _ _ _ 2 true false _ hD4 (by decide)).mono ?_
  rintro e w5 ⟨X, rfl, hX, hb5⟩
  rw [left_alive] at hX
  have hD5 := hD4.later hb5
  replace hb := hb.trans (hb5.mono hb.size)
  clear hD4 hb5
  go_wp2_with fail
  refine (file_ok (S := fun k => w.heap.size ≤ k) w.heap.size _ _ _ _ _ hD5).mono ?_
  rintro e w6 ⟨rfl, ho, hb6⟩
  have cv : (convert 26 9 (.slice (some ⟨w5.heap.size, 0, none⟩) 7 7)).run Try.prog w6 = Result.ok (Value.string ⟨#[115, 97, 102, 101, 110, 101, 119]⟩) w6 := conv_sl w6 _ _ ho.sl
  replace hX := hX.later hb6
  have hD6 := hD5.later hb6
  replace hb := hb.trans (hb6.mono hb.size)
  clear hD5 hb6 ho
  go_wp2_with fail
  refine (dirty_ok (S := fun k => w.heap.size ≤ k) w.heap.size _ _ _ _ _ hD6).mono ?_
  rintro e w7 ⟨rfl, hb7⟩
  replace hX := hX.later hb7
  replace hb := hb.trans (hb7.mono hb.size)
  have hdt : dirt tSafenew [] tSafe [] = true := by decide
  rw [hdt]
  clear hD6 hb7 cv
  go_wp2_with fail
  refine (file_ok X _ _ _ _ _ hX).mono ?_
  rintro e w8 ⟨rfl, ho, hb8⟩
  have cv : (convert 26 9 (.slice (some ⟨w7.heap.size, 0, none⟩) 6 6)).run Try.prog w8 = Result.ok (Value.string ⟨#[115, 97, 102, 101, 110, 100]⟩) w8 := conv_sl w8 _ _ ho.sl
  replace hX := hX.later hb8
  replace hb := hb.trans (hb8.mono hb.size)
  clear hb8 ho
  go_wp2_with fail
  refine (dirty_ok X _ _ _ _ _ hX).mono ?_
  rintro e w9 ⟨rfl, hb9⟩
  replace hb := hb.trans (hb9.mono hb.size)
  rw [dirt_self]
  have HB := hide hb
  clear hb9 hb hX cv
  go_wp2
  go_ret
  exact ⟨rfl, unhide HB⟩

end Go.Proofs.Ytdhjogfalkmggaa
