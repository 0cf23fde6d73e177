/-
  The laws' live question: it answers true.
-/
import Derived.Test.YteacolahbnilnaaConv
import Derived.Lib.SlBytesConst
namespace Go.Proofs.Yteacolahbnilnaa
open Go.RowKit
set_option linter.unusedVariables false

abbrev x9 : List UInt8 := [49, 50, 51, 52, 53, 54, 55, 56, 57]
abbrev f17 : List UInt8 := [0, 0, 0, 9, 203, 244, 57, 38, 49, 50, 51, 52, 53, 54, 55, 56, 57]
theorem fr_x9 : fr x9 = f17 := by decide +kernel

theorem own_lit (w : World) (cs : Array Value) (l : List UInt8) (h : cs.toList = bc l) (hl : l.length ≤ maxLen) : Own w.heap.size (w.alloc (.cells cs 5)) (.slice (some ⟨w.heap.size, 0, none⟩) l.length l.length) l := by
  unfold Own
  rw [← h]
  refine World.ownsRow_lit w cs l.length (Nat.le_refl _) hl ?_
  rw [← Array.length_toList, h, bc_length, Nat.mul_one]

theorem scans_x9 : Scans (f17 ++ [1]) [x9] := by
  have := Scans.frames (r := [x9]) [1] (fun x hx => by simp at hx; subst hx; exact ⟨by decide, by decide⟩) (fst_short (by decide))
  rw [frs_cons, show frs [] = [] from rfl, List.append_nil, fr_x9] at this
  exact this

theorem total_x9 : total [x9] = 17 := rfl

/-- The first of rows of slices. -/
theorem Recs.at {B : Nat} {w : World} {v : Value} {rs : List (List UInt8)} (h : Recs B w v rs) (i : Nat) (hi : i < rs.length) : ∃ g cap ao c, v = .slice (some ⟨g, 0, none⟩) rs.length cap ∧ w.cell? ⟨g, i, none⟩ = some (.slice ao rs[i].length c) ∧ Own B w (.slice ao rs[i].length c) rs[i] ∧ B ≤ g := by
  obtain ⟨vs, h1, h2⟩ := h
  have hl := h1.1
  rcases h1.2 with ⟨_, h0⟩ | ⟨g, cap, cur, rfl, hb, _⟩
  · omega
  · have hc := h1.cellAt i (by omega)
    rw [List.getElem?_eq_getElem (by omega)] at hc
    have ho := h2 i vs[i] rs[i] (List.getElem?_eq_getElem _) (List.getElem?_eq_getElem _)
    obtain ⟨ao, c, e, _⟩ := ho.sl
    rw [e] at hc ho
    exact ⟨g, cap, ao, c, rfl, hc, ho, hb⟩

theorem Recs.val {B : Nat} {w : World} {v : Value} {rs : List (List UInt8)} (h : Recs B w v rs) : ∃ ao c, v = .slice ao rs.length c := by
  obtain ⟨vs, h1, _⟩ := h
  rcases h1.2 with ⟨rfl, h0⟩ | ⟨g, cap, cur, rfl, _⟩
  · exact ⟨none, 0, by rw [h0]⟩
  · exact ⟨_, _, rfl⟩

theorem sl_mark (w : World) (cs : Array Value) (l : List UInt8) (h : cs.toList = bc l) (hl : l.length ≤ maxLen) (fr : Nat × Nat) : Sl (w.alloc (.cells cs 5 fr)) (.slice (some ⟨w.heap.size, 0, none⟩) l.length l.length) l := by
  refine ⟨_, _, rfl, Nat.le_refl _, hl, fun e => (by cases e), fun a ha j u hu => ?_⟩
  cases ha
  rw [Addr.add_lit, Nat.zero_add, World.cell?_alloc_mark, ← hu, ← h]
  simp

set_option maxRecDepth 100000 in
set_option maxHeartbeats 2000000 in
theorem alive_any (w : World) : Calls Try.prog 8 #[] w fun e w' => e = .returned (.bool true) ∧ Below w.heap.size w w' := by
  have hl9 := sl_mark w #[.int .u8 49, .int .u8 50, .int .u8 51, .int .u8 52, .int .u8 53, .int .u8 54, .int .u8 55, .int .u8 56, .int .u8 57] x9 rfl (by decide) (9, 10)
  have hcb := Lib.run_convert_bytes_const (P := Try.prog) w 22 5 #[.int .u8 49, .int .u8 50, .int .u8 51, .int .u8 52, .int .u8 53, .int .u8 54, .int .u8 55, .int .u8 56, .int .u8 57] 9 9 Try.underlying22 Try.underlying5
  go_enter Try.func8, Try.ntmps8
  go_wp2_with fail
  refine (frame_yes _ x9 _ hl9 ⟨by decide, by decide⟩).mono ?_
  rintro e w1 ⟨r1, rfl, ho1, hb1⟩
  rw [fr_x9] at ho1
  obtain ⟨ao1, c1, rfl, _⟩ := id ho1.sl
  have hB1 : Below w.heap.size w w1 := ((Below.refl _ w).alloc (Nat.le_refl _) _).trans (hb1.mono (by simp))
  have hl0 := Own.lit0 w1
  have hs1 : Sl (w1.alloc (.cells #[] 5)) (.slice ao1 17 c1) f17 := (ho1.later ((Below.refl _ w1).alloc (Nat.le_refl _) _)).sl
  clear hb1 hl9
  go_wp2_with (at_builtin; refine wpList_append_sl _ rfl (.tmp 12) (.tmp 13) rfl w1.heap.size (by simp) _ _ rfl hl0 _ _ rfl hs1 (by decide) ?_)
  intro v2 w2 ho2 hg2
  have hB2 : Below w1.heap.size w1 w2 := ((Below.refl _ w1).alloc (Nat.le_refl _) _).grown hg2 (by simp) (fun k hk => (World.ownsRow.lt hl0 k hk).1)
  replace ho2 : Own w1.heap.size w2 v2 f17 := ho2
  have hl1 := own_lit w2 #[.int .u8 1] [1] rfl (by decide)
  have hz2 := hB2.size
  clear hs1 hl0 hg2 hcb
  go_wp2_with (at_builtin; refine wpList_append_sl _ rfl (.tmp 14) (.tmp 15) rfl w1.heap.size (by simp; omega) _ _ rfl (World.ownsRow.alloc ho2 _) _ _ rfl hl1.sl (by decide) ?_)
  intro v3 w3 ho3 hg3
  have hB3 : Below w1.heap.size w1 w3 := (hB2.alloc hz2 _).grown hg3 (by simp; omega) (fun k hk => (World.ownsRow.lt ho2 k hk).1)
  clear hl1 hg3 ho2 hB2
  go_wp2_with fail
  refine (scan_any v3 (f17 ++ [1]) [x9] w3 ho3.sl (by decide) scans_x9).mono ?_
  rintro e w4 ⟨r4, rfl, hrec, hb4⟩
  rw [total_x9]
  have hz3 := hB3.size
  have hB4 : Below w1.heap.size w1 w4 := hB3.trans (hb4.mono hz3)
  have hs4 := (ho1.later hB4).sl
  obtain ⟨b, o, rfl⟩ := hs4.addr (by decide)
  have hc8 : (convert 22 9 (.slice (some ⟨b, o, none⟩) 8 c1)).run Try.prog w4 = .ok (.string ⟨#[0, 0, 0, 9, 203, 244, 57, 38]⟩) w4 := conv_sl _ _ _ (hs4.take 8 (by decide))
  obtain ⟨g, cap, ra, rc, rfl, hcell, hro, _⟩ := hrec.at 0 (by decide)
  have hc9 : (convert 22 9 (.slice ra 9 rc)).run Try.prog w4 = .ok (.string ⟨#[49, 50, 51, 52, 53, 54, 55, 56, 57]⟩) w4 := conv_sl _ _ _ hro.sl
  have hcap : 17 ≤ c1 ∧ c1 ≤ maxLen := by obtain ⟨_, _, e, k1, k2, _⟩ := hs4; injection e with e1 e2 e3; subst e3; exact ⟨k1, k2⟩
  obtain ⟨hcp1, hcp2⟩ := hcap
  unfold maxLen at hcp2
  have HB := hide (hB1.trans (hB4.mono hB1.size))
  clear hB1 hB4 hs4 hrec hro ho1 ho3 hb4 hB3
  go_wp2
  go_ret
  exact ⟨rfl, unhide HB⟩

end Go.Proofs.Yteacolahbnilnaa
