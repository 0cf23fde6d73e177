/-
  The live question of layer 5. No law is proved here.
-/
import Derived.Test.YtejceloahonelaaKeys
import Derived.Test.YtejceloahonelaaLater
namespace Go.Proofs.Ytejceloahonelaa
open Go.RowKit
set_option linter.unusedVariables false

theorem tl (l : List UInt8) : (ByteArray.mk l.toArray).toList = l := ByteArray.toList_mk l

theorem k1 : clipB ⟨#[98]⟩ ⟨#[109]⟩ ⟨#[102]⟩ ⟨#[123]⟩ = true := by
  simp only [clipB, hasB, rightB, keyB, eqB, ltB, emp, brace, show Lib.maxS ⟨#[98]⟩ ⟨#[102]⟩ = ⟨#[102]⟩ from if_pos (by decide), tl]; decide
theorem k2 : clipF ⟨#[98]⟩ ⟨#[109]⟩ ⟨#[102]⟩ ⟨#[123]⟩ = ⟨#[102]⟩ := by
  unfold clipF; rw [k1, cond_true]; exact if_pos (by decide)
theorem k3 : clipT ⟨#[98]⟩ ⟨#[109]⟩ ⟨#[102]⟩ ⟨#[123]⟩ = ⟨#[109]⟩ := by
  unfold clipT; rw [k1, cond_true]; exact if_pos (by decide)
theorem k4 : hasB ⟨#[102]⟩ ⟨#[109]⟩ ⟨#[102, 122]⟩ = true := by
  simp only [hasB, rightB, keyB, eqB, ltB, emp, brace, tl]; decide
theorem k5 : hasB ⟨#[102]⟩ ⟨#[109]⟩ ⟨#[109]⟩ = false := by
  simp only [hasB, rightB, keyB, eqB, ltB, emp, brace, tl]; decide
theorem k6 : clipB ⟨#[102]⟩ ⟨#[109]⟩ ⟨#[103]⟩ ⟨#[]⟩ = true := by
  simp only [clipB, hasB, rightB, keyB, eqB, ltB, emp, brace, show Lib.maxS ⟨#[102]⟩ ⟨#[103]⟩ = ⟨#[103]⟩ from if_pos (by decide), tl]; decide
theorem k7 : rightB ⟨#[97]⟩ brace = true := by
  simp only [rightB, keyB, eqB, ltB, emp, brace, tl]; decide
theorem k8 : (keysOf ⟨#[102]⟩ ⟨#[109]⟩ [⟨#[103]⟩, ⟨#[97]⟩, ⟨#[103]⟩]).length = 1 := by
  have a : hasB ⟨#[102]⟩ ⟨#[109]⟩ ⟨#[103]⟩ = true := by simp only [hasB, rightB, keyB, eqB, ltB, emp, brace, tl]; decide
  have b : hasB ⟨#[102]⟩ ⟨#[109]⟩ ⟨#[97]⟩ = false := by simp only [hasB, rightB, keyB, eqB, ltB, emp, brace, tl]; decide
  simp only [keysOf, List.foldl_cons, List.foldl_nil, a, b, cond_true, cond_false, insS, lt_irrefl, eqB_self]
  rfl

section
set_option maxRecDepth 100000
set_option maxHeartbeats 1000000

theorem alive_any (w : World) : Calls Try.prog 10 #[] w fun e w' => e = .returned (.bool true) ∧ Below w.heap.size w w' := by
  go_enter Try.func10, Try.ntmps10
  go_wp2_with fail
  refine (clip_any _ _ _ _ _).mono ?_
  rintro e w1 ⟨rfl, hb⟩
  rw [k1, k2, k3]
  have H0 : Hid (Sp (w1.alloc (.cells #[.string ⟨#[102]⟩, .string ⟨#[109]⟩] 23)) w1.heap.size ⟨#[102]⟩ ⟨#[109]⟩ ∧ Below w.heap.size w (w1.alloc (.cells #[.string ⟨#[102]⟩, .string ⟨#[109]⟩] 23))) := ⟨Sp.new w1 _ _ _, hb.alloc hb.size _⟩
  clear hb
  go_wp2_with fail
  refine (has_any _ _ _ _).mono ?_
  rintro e w2 ⟨rfl, hb⟩
  rw [k4]
  have H1 := hide (And.intro ((unhide H0).1.later hb) ((unhide H0).2.trans (hb.mono (unhide H0).2.size)))
  clear hb
  obtain ⟨⟨c0, c1, f0, f1⟩, _⟩ := unhide H1
  go_wp2_with fail
  refine (has_any _ _ _ _).mono ?_
  rintro e w3 ⟨rfl, hb⟩
  rw [k5]
  have H2 := hide (And.intro ((unhide H1).1.later hb) ((unhide H1).2.trans (hb.mono (unhide H1).2.size)))
  clear hb
  obtain ⟨⟨c0, c1, f0, f1⟩, _⟩ := unhide H2
  go_wp2_with fail
  refine (meet_any _ _ _ _ _).mono ?_
  rintro e w4 ⟨rfl, hb⟩
  rw [k6]
  have H3 := hide (And.intro ((unhide H2).1.later hb) ((unhide H2).2.trans (hb.mono (unhide H2).2.size)))
  clear hb
  obtain ⟨⟨c0, c1, f0, f1⟩, _⟩ := unhide H3
  go_wp2_with fail
  refine (all_any _).mono ?_
  rintro e w5 ⟨rfl, hb⟩
  have H4 := hide (And.intro ((unhide H3).1.later hb) ((unhide H3).2.trans (hb.mono (unhide H3).2.size)))
  clear hb c0 c1 f0 f1
  obtain ⟨⟨c0, c1, f0, f1⟩, _⟩ := unhide H4
  go_wp2_with fail
  refine (right_any _ _ _).mono ?_
  rintro e w6 ⟨rfl, hb⟩
  rw [k7]
  have H5 := hide (And.intro ((unhide H4).1.later hb) ((unhide H4).2.trans (hb.mono (unhide H4).2.size)))
  clear hb
  obtain ⟨⟨c0, c1, f0, f1⟩, _⟩ := unhide H5
  go_wp2_with fail
  have hst : StrsAt (w6.alloc (.cells #[.string ⟨#[103]⟩, .string ⟨#[97]⟩, .string ⟨#[103]⟩] 9)) (some ⟨w6.heap.size, 0, none⟩) [⟨#[103]⟩, ⟨#[97]⟩, ⟨#[103]⟩] := fun _ => ⟨w6.heap.size, 0, rfl, fun j hj => by
    have hj' : j < 3 := hj
    rcases (by omega : j = 0 ∨ j = 1 ∨ j = 2) with rfl | rfl | rfl <;> simp⟩
  refine Calls.mono (keys_any _ _ _ 3 [⟨#[103]⟩, ⟨#[97]⟩, ⟨#[103]⟩] _ hst (by decide)) ?_
  rintro e w7 ⟨ao', c', rfl, _, hb⟩
  rw [k8]
  have H6 := hide ((unhide H5).2.trans ((below_alloc _ hb).mono (unhide H5).2.size))
  clear hb hst
  go_wp2_with fail
  go_ret
  exact ⟨rfl, unhide H6⟩

end

end Go.Proofs.Ytejceloahonelaa
