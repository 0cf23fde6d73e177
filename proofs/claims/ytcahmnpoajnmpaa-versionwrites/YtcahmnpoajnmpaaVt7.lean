/-
  The laws' live question: its answer. No law is proved here.
-/
import Derived.Test.YtcahmnpoajnmpaaVt5
import Derived.Test.YtcahmnpoajnmpaaVt6
namespace Go.Proofs.Ytcahmnpoajnmpaa
open Go.RowKit
set_option linter.unusedVariables false

def al_i : Itn := ⟨⟨7, 0, ⟨#[107]⟩, (0, 0)⟩, 1, (5, 0), ⟨#[118]⟩, false⟩
def al_v : Ver := ⟨(6, 0), ⟨#[118]⟩, false, 7⟩
theorem al_w : writeC ⟨[], false, Itn.zero⟩ al_i = (⟨[], true, al_i⟩, (5, 0), Met.zero, 0) := rfl
theorem al_r : resolveC ⟨[], true, al_i⟩ 7 0 true (6, 0) = (⟨[al_v], false, Itn.zero⟩, 0) := by
  unfold resolveC
  rw [if_neg (by decide), if_neg (by decide), if_pos (by decide), if_pos ⟨by decide, fun s hs => by cases hs⟩]
  rfl
theorem al_1 : readR [al_v] false Itn.zero (6, 0) (6, 0) 0 0 = (al_v, true, Met.zero, 0) := by rfl
theorem al_2 : readR [al_v] false Itn.zero (5, 0) (9, 0) 0 0 = (bare al_v, false, Met.zero, 82) := by rfl

section
set_option maxRecDepth 100000
set_option maxHeartbeats 20000000

theorem alive_any (w : World) : Calls Try.prog 11 #[] w fun e w' => e = .returned (.bool true) ∧ Below w.heap.size w w' := by
  have hW : ∀ w : World, Calls Try.prog 24 #[.agg #[.slice none 0 0, .bool false, .int .i64 0, .int .i64 0, .string ⟨#[]⟩, .int .i64 0, .int .i64 0, .int .i64 0, .int .i64 0, .int .i64 0, .string ⟨#[]⟩, .bool false],
      .agg #[.int .i64 7, .int .i64 0, .string ⟨#[107]⟩, .int .i64 0, .int .i64 0, .int .i64 1, .int .i64 5, .int .i64 0, .string ⟨#[118]⟩, .bool false]] w fun e w' => ∃ bo d, e = .returned (.tuple #[.agg #[.slice bo 0 d, .bool true, .int .i64 7, .int .i64 0, .string ⟨#[107]⟩, .int .i64 0, .int .i64 0, .int .i64 1, .int .i64 5, .int .i64 0, .string ⟨#[118]⟩, .bool false],
        .agg #[.int .i64 5, .int .i64 0], .agg #[.int .i64 0, .int .i64 0, .string ⟨#[]⟩, .int .i64 0, .int .i64 0], .int .i64 0]) ∧ VOwn w.heap.size w' bo d [] ∧ Below w.heap.size w w' := fun w => by
    have h := write_any none 0 [] false Itn.zero al_i w (Vs.zero w) (by decide)
    rw [al_w] at h
    exact h
  have hR : ∀ (w : World) (bo : Option Addr) (d : Nat), Vs w bo d [] → Calls Try.prog 26 #[.agg #[.slice bo 0 d, .bool true, .int .i64 7, .int .i64 0, .string ⟨#[107]⟩, .int .i64 0, .int .i64 0, .int .i64 1, .int .i64 5, .int .i64 0, .string ⟨#[118]⟩, .bool false], .int .i64 7, .int .i64 0, .bool true, .agg #[.int .i64 6, .int .i64 0]] w
      fun e w' => ∃ bo d, e = .returned (.tuple #[.agg #[.slice bo 1 d, .bool false, .int .i64 0, .int .i64 0, .string ⟨#[]⟩, .int .i64 0, .int .i64 0, .int .i64 0, .int .i64 0, .int .i64 0, .string ⟨#[]⟩, .bool false], .int .i64 0]) ∧ VOwn w.heap.size w' bo d [al_v] ∧ Below w.heap.size w w' := fun w bo d hv => by
    have h := resolve_any bo d [] true al_i 7 0 true (6, 0) w hv (by decide)
    rw [al_r] at h
    exact h
  have h1 : ∀ (w : World) (bo : Option Addr) (d : Nat), Vs w bo d [al_v] → Calls Try.prog 17 #[.agg #[.slice bo 1 d, .bool false, .int .i64 0, .int .i64 0, .string ⟨#[]⟩, .int .i64 0, .int .i64 0, .int .i64 0, .int .i64 0, .int .i64 0, .string ⟨#[]⟩, .bool false], .agg #[.int .i64 6, .int .i64 0], .agg #[.int .i64 6, .int .i64 0], .int .i64 0, .int .i64 0] w
      fun e w' => e = .returned (.tuple #[.agg #[.int .i64 6, .int .i64 0, .string ⟨#[118]⟩, .bool false, .int .i64 7], .bool true, .agg #[.int .i64 0, .int .i64 0, .string ⟨#[]⟩, .int .i64 0, .int .i64 0], .int .i64 0]) ∧ Below w.heap.size w w' := fun w bo d hv => by
    have h := read_any bo d [al_v] false Itn.zero (6, 0) (6, 0) 0 0 w hv (by decide)
    rw [al_1] at h
    exact h
  have h2 : ∀ (w : World) (bo : Option Addr) (d : Nat), Vs w bo d [al_v] → Calls Try.prog 17 #[.agg #[.slice bo 1 d, .bool false, .int .i64 0, .int .i64 0, .string ⟨#[]⟩, .int .i64 0, .int .i64 0, .int .i64 0, .int .i64 0, .int .i64 0, .string ⟨#[]⟩, .bool false], .agg #[.int .i64 5, .int .i64 0], .agg #[.int .i64 9, .int .i64 0], .int .i64 0, .int .i64 0] w
      fun e w' => e = .returned (.tuple #[.agg #[.int .i64 6, .int .i64 0, .string ⟨#[]⟩, .bool false, .int .i64 0], .bool false, .agg #[.int .i64 0, .int .i64 0, .string ⟨#[]⟩, .int .i64 0, .int .i64 0], .int .i64 82]) ∧ Below w.heap.size w w' := fun w bo d hv => by
    have h := read_any bo d [al_v] false Itn.zero (5, 0) (9, 0) 0 0 w hv (by decide)
    rw [al_2] at h
    exact h
  go_enter Try.func11, Try.ntmps11
  go_wp2_with fail
  refine (hW _).mono ?_
  rintro e w1 ⟨bo, d, rfl, ho1, hb1⟩
  have HB1 := hide ((((Below.refl w.heap.size w).alloc (Nat.le_refl _) (.cells #[.int .i64 7, .int .i64 0, .string ⟨#[107]⟩, .int .i64 0, .int .i64 0, .int .i64 1, .int .i64 5, .int .i64 0, .string ⟨#[118]⟩, .bool false] 28))).trans (hb1.mono (by simp)))
  clear hb1
  have C := ((Blk.new w1 #[.slice bo 0 d, .bool true, .int .i64 7, .int .i64 0, .string ⟨#[107]⟩, .int .i64 0, .int .i64 0, .int .i64 1, .int .i64 5, .int .i64 0, .string ⟨#[118]⟩, .bool false] 30).alloc (.cells #[.int .i64 5, .int .i64 0] 24)).alloc (.cells #[.int .i64 0, .int .i64 0, .string ⟨#[]⟩, .int .i64 0, .int .i64 0] 26)
  have T := (Blk.new (w1.alloc (.cells #[.slice bo 0 d, .bool true, .int .i64 7, .int .i64 0, .string ⟨#[107]⟩, .int .i64 0, .int .i64 0, .int .i64 1, .int .i64 5, .int .i64 0, .string ⟨#[118]⟩, .bool false] 30)) #[.int .i64 5, .int .i64 0] 24).alloc (.cells #[.int .i64 0, .int .i64 0, .string ⟨#[]⟩, .int .i64 0, .int .i64 0] 26)
  rw [show (w1.alloc (.cells #[.slice bo 0 d, .bool true, .int .i64 7, .int .i64 0, .string ⟨#[107]⟩, .int .i64 0, .int .i64 0, .int .i64 1, .int .i64 5, .int .i64 0, .string ⟨#[118]⟩, .bool false] 30)).heap.size = w1.heap.size + 1 by simp] at T
  have M := Blk.new ((w1.alloc (.cells #[.slice bo 0 d, .bool true, .int .i64 7, .int .i64 0, .string ⟨#[107]⟩, .int .i64 0, .int .i64 0, .int .i64 1, .int .i64 5, .int .i64 0, .string ⟨#[118]⟩, .bool false] 30)).alloc (.cells #[.int .i64 5, .int .i64 0] 24)) #[.int .i64 0, .int .i64 0, .string ⟨#[]⟩, .int .i64 0, .int .i64 0] 26
  rw [show ((w1.alloc (.cells #[.slice bo 0 d, .bool true, .int .i64 7, .int .i64 0, .string ⟨#[107]⟩, .int .i64 0, .int .i64 0, .int .i64 1, .int .i64 5, .int .i64 0, .string ⟨#[118]⟩, .bool false] 30)).alloc (.cells #[.int .i64 5, .int .i64 0] 24)).heap.size = w1.heap.size + 1 + 1 by simp] at M
  have hB : Below w1.heap.size w1 (((w1.alloc (.cells #[.slice bo 0 d, .bool true, .int .i64 7, .int .i64 0, .string ⟨#[107]⟩, .int .i64 0, .int .i64 0, .int .i64 1, .int .i64 5, .int .i64 0, .string ⟨#[118]⟩, .bool false] 30)).alloc (.cells #[.int .i64 5, .int .i64 0] 24)).alloc (.cells #[.int .i64 0, .int .i64 0, .string ⟨#[]⟩, .int .i64 0, .int .i64 0] 26)) := (((Below.refl w1.heap.size w1).alloc (Nat.le_refl _) _).alloc (by simp) _).alloc (by simp; omega) _
  have hv1 := ho1.vs.later hB
  clear ho1 hW C M
  go_wp2_with fail
  generalize ((w1.alloc _).alloc _).alloc _ = W1 at *
  refine (hR _ _ _ hv1).mono ?_
  rintro e w2 ⟨co, f, rfl, ho2, hb2⟩
  have HB2 := hide ((unhide HB1).trans ((hB.trans (hb2.mono hB.size)).mono (unhide HB1).size))
  replace T := T.later hb2
  clear hb2 hB hR hv1 HB1
  have D := Blk.new w2 #[.slice co 1 f, .bool false, .int .i64 0, .int .i64 0, .string ⟨#[]⟩, .int .i64 0, .int .i64 0, .int .i64 0, .int .i64 0, .int .i64 0, .string ⟨#[]⟩, .bool false] 30
  replace T := T.alloc (.cells #[.slice co 1 f, .bool false, .int .i64 0, .int .i64 0, .string ⟨#[]⟩, .int .i64 0, .int .i64 0, .int .i64 0, .int .i64 0, .int .i64 0, .string ⟨#[]⟩, .bool false] 30)
  have hv2 := ho2.vs.alloc (.cells #[.slice co 1 f, .bool false, .int .i64 0, .int .i64 0, .string ⟨#[]⟩, .int .i64 0, .int .i64 0, .int .i64 0, .int .i64 0, .int .i64 0, .string ⟨#[]⟩, .bool false] 30)
  have HB3 := hide ((unhide HB2).alloc (unhide HB2).size (.cells #[.slice co 1 f, .bool false, .int .i64 0, .int .i64 0, .string ⟨#[]⟩, .int .i64 0, .int .i64 0, .int .i64 0, .int .i64 0, .int .i64 0, .string ⟨#[]⟩, .bool false] 30))
  clear ho2 HB2
  go_wp2_with fail
  generalize w2.alloc _ = W2 at *
  refine (h1 _ _ _ hv2).mono ?_
  rintro e w3 ⟨rfl, hb3⟩
  replace T := T.later hb3
  replace D := D.later hb3
  replace hv2 := hv2.later hb3
  have HB4 := hide ((unhide HB3).trans (hb3.mono (unhide HB3).size))
  clear hb3 HB3 h1
  have V := (Blk.new w3 #[.int .i64 6, .int .i64 0, .string ⟨#[118]⟩, .bool false, .int .i64 7] 37).alloc (.cells #[.int .i64 0, .int .i64 0, .string ⟨#[]⟩, .int .i64 0, .int .i64 0] 26)
  have M := Blk.new (w3.alloc (.cells #[.int .i64 6, .int .i64 0, .string ⟨#[118]⟩, .bool false, .int .i64 7] 37)) #[.int .i64 0, .int .i64 0, .string ⟨#[]⟩, .int .i64 0, .int .i64 0] 26
  rw [show (w3.alloc (.cells #[.int .i64 6, .int .i64 0, .string ⟨#[118]⟩, .bool false, .int .i64 7] 37)).heap.size = w3.heap.size + 1 by simp] at M
  have hB : Below w3.heap.size w3 ((w3.alloc (.cells #[.int .i64 6, .int .i64 0, .string ⟨#[118]⟩, .bool false, .int .i64 7] 37)).alloc (.cells #[.int .i64 0, .int .i64 0, .string ⟨#[]⟩, .int .i64 0, .int .i64 0] 26)) := ((Below.refl w3.heap.size w3).alloc (Nat.le_refl _) _).alloc (by simp) _
  replace T := T.later hB
  replace D := D.later hB
  replace hv2 := hv2.later hB
  have HB5 := hide ((unhide HB4).trans (hB.mono (unhide HB4).size))
  clear hB HB4 M
  have D_0 := D.c 0; have D_1 := D.c 1; have D_2 := D.c 2; have D_3 := D.c 3; have D_4 := D.c 4; have D_5 := D.c 5; have D_6 := D.c 6; have D_7 := D.c 7; have D_8 := D.c 8; have D_9 := D.c 9; have D_10 := D.c 10; have D_11 := D.c 11; simp only [List.getElem?_cons_zero, List.getElem?_cons_succ] at D_0 D_1 D_2 D_3 D_4 D_5 D_6 D_7 D_8 D_9 D_10 D_11
  go_wp2_with fail
  generalize (w3.alloc _).alloc _ = W3 at *
  refine (h2 _ _ _ hv2).mono ?_
  rintro e w4 ⟨rfl, hb4⟩
  replace T := T.later hb4
  replace V := V.later hb4
  have HB6 := hide ((unhide HB5).trans (hb4.mono (unhide HB5).size))
  clear D_0 D_1 D_2 D_3 D_4 D_5 D_6 D_7 D_8 D_9 D_10 D_11
  clear hb4 HB5 h2 D hv2
  have A := (Blk.new w4 #[.int .i64 6, .int .i64 0, .string ⟨#[]⟩, .bool false, .int .i64 0] 37).alloc (.cells #[.int .i64 0, .int .i64 0, .string ⟨#[]⟩, .int .i64 0, .int .i64 0] 26)
  have M := Blk.new (w4.alloc (.cells #[.int .i64 6, .int .i64 0, .string ⟨#[]⟩, .bool false, .int .i64 0] 37)) #[.int .i64 0, .int .i64 0, .string ⟨#[]⟩, .int .i64 0, .int .i64 0] 26
  rw [show (w4.alloc (.cells #[.int .i64 6, .int .i64 0, .string ⟨#[]⟩, .bool false, .int .i64 0] 37)).heap.size = w4.heap.size + 1 by simp] at M
  have hB : Below w4.heap.size w4 ((w4.alloc (.cells #[.int .i64 6, .int .i64 0, .string ⟨#[]⟩, .bool false, .int .i64 0] 37)).alloc (.cells #[.int .i64 0, .int .i64 0, .string ⟨#[]⟩, .int .i64 0, .int .i64 0] 26)) := ((Below.refl w4.heap.size w4).alloc (Nat.le_refl _) _).alloc (by simp) _
  replace T := T.later hB
  replace V := V.later hB
  have HB7 := hide ((unhide HB6).trans (hB.mono (unhide HB6).size))
  clear hB HB6 A M
  have T_0 := T.c 0; have T_1 := T.c 1; simp only [List.getElem?_cons_zero, List.getElem?_cons_succ] at T_0 T_1
  have V_0 := V.c 0; have V_1 := V.c 1; have V_2 := V.c 2; have V_3 := V.c 3; have V_4 := V.c 4; simp only [List.getElem?_cons_zero, List.getElem?_cons_succ] at V_0 V_1 V_2 V_3 V_4
  go_wp2
  go_ret
  exact ⟨rfl, unhide HB7⟩
end

end Go.Proofs.Ytcahmnpoajnmpaa
