/-
  The law SealOwn: its walk.
-/
import Derived.Test.YteacolahbnilnaaStopsMath
namespace Go.Proofs.Yteacolahbnilnaa
open Go.RowKit
set_option linter.unusedVariables false

theorem frame_any (v : Value) (l : List UInt8) (w : World) (hs : Sl w v l) :
    Calls Try.prog 9 #[v] w fun e w' => ∃ r x, e = .returned (.tuple #[r, .int .i64 x]) ∧ Below w.heap.size w w' := by
  by_cases hf : Fits l
  · exact (frame_yes v l w hs hf).mono fun e w' ⟨r, he, _, hb⟩ => ⟨r, 0, he, hb⟩
  · exact (frame_no v l w hs hf).mono fun e w' ⟨he, hw⟩ => ⟨_, 21, he, by rw [hw]; exact Below.refl _ _⟩

set_option maxRecDepth 100000 in
set_option maxHeartbeats 2000000 in
theorem own_early (w : World) (v : Value) (l : List UInt8) (hs : Sl w v l) (v2 : Value) (m : List UInt8) (hs2 : Sl w v2 m) (h : 500 < l.length ∨ 500 < m.length ∨ l.length = 0 ∨ m.length = 0) :
    Calls Try.prog 7 #[v, v2] w fun e w' => e = .returned (.bool true) ∧ Below w.heap.size w w' := by
  have hv : ∃ ao c, v = .slice ao l.length c ∧ l.length ≤ c ∧ c ≤ maxLen := by obtain ⟨ao, c, rfl, h1, h2, _⟩ := hs; exact ⟨_, _, rfl, h1, h2⟩
  obtain ⟨ao, c, rfl, hc1, hc2⟩ := hv
  have hv2 : ∃ ao c, v2 = .slice ao m.length c ∧ m.length ≤ c ∧ c ≤ maxLen := by obtain ⟨ao, c, rfl, h1, h2, _⟩ := hs2; exact ⟨_, _, rfl, h1, h2⟩
  obtain ⟨bo, d, rfl, hd1, hd2⟩ := hv2
  unfold maxLen at hc2 hd2
  have Hs := hide hs
  have Hs2 := hide hs2
  clear hs hs2
  by_cases hbig : 500 < l.length ∨ 500 < m.length
  · by_cases hb1 : 500 < l.length
    all_goals
      go_enter Try.func7, Try.ntmps7
      go_wp2_with fail
      refine (frame_any _ l _ Hs.out).mono ?_
      rintro e w1 ⟨r1, x1, rfl, hw1⟩
      go_wp2_with fail
      refine (frame_any _ m _ (Hs2.out.below hw1 (Nat.le_refl _))).mono ?_
      rintro e w2 ⟨r2, x2, rfl, hw2⟩
      have HB := hide (hw1.trans (hw2.mono hw1.size))
      clear hw1 hw2
      go_wp2_with fail
      refine (alive_any _).mono ?_
      rintro e w3 ⟨rfl, hb3⟩
      go_wp2
      go_ret
      exact ⟨rfl, HB.out.trans (hb3.mono HB.out.size)⟩
  · by_cases hl0 : l.length = 0
    · obtain rfl : l = [] := List.eq_nil_of_length_eq_zero hl0
      have Hs0 : Hid (Sl w (.slice ao 0 c) []) := Hs
      clear Hs hl0
      go_enter Try.func7, Try.ntmps7
      go_wp2_with fail
      refine (frame_no _ [] _ Hs0.out (fun h => by have := h.1; simp at this)).mono ?_
      rintro e w1 ⟨rfl, hw⟩
      obtain rfl := hw.symm
      clear hw
      go_wp2_with fail
      refine (frame_any _ m _ Hs2.out).mono ?_
      rintro e w2 ⟨r2, x2, rfl, hw2⟩
      have HB := hide hw2
      clear hw2
      go_wp2_with fail
      refine (alive_any _).mono ?_
      rintro e w3 ⟨rfl, hb3⟩
      go_wp2
      go_ret
      exact ⟨rfl, HB.out.trans (hb3.mono HB.out.size)⟩
    · go_enter Try.func7, Try.ntmps7
      go_wp2_with fail
      refine (frame_yes _ l _ Hs.out ⟨by omega, by omega⟩).mono ?_
      rintro e w1 ⟨r1, rfl, _, hw1⟩
      go_wp2_with fail
      refine (frame_no _ m _ (Hs2.out.below hw1 (Nat.le_refl _)) (fun h => by have := h.1; omega)).mono ?_
      rintro e w2 ⟨rfl, hw⟩
      obtain rfl := hw.symm
      have HB := hide hw1
      clear hw hw1
      go_wp2_with fail
      refine (alive_any _).mono ?_
      rintro e w3 ⟨rfl, hb3⟩
      go_wp2
      go_ret
      exact ⟨rfl, HB.out.trans (hb3.mono HB.out.size)⟩

theorem fr_inj {l m : List UInt8} (h : fr l = fr m) : l = m := by
  have := congrArg (List.drop 8) h
  simpa [fr, four] using this

theorem frames_apart (l m : List UInt8) : ((fr l == fr m) == (l == m)) = true := by
  by_cases h : l = m
  · subst h; simp
  · have h' : ¬ fr l = fr m := fun e => h (fr_inj e)
    rw [show (fr l == fr m) = false from beq_eq_false_iff_ne.2 h', show (l == m) = false from beq_eq_false_iff_ne.2 h]
    rfl

/-- One byte of a record of one's own is written. -/
theorem put_byte {B g n cap : Nat} {L : List UInt8} {w : World} (ho : Own B w (.slice (some ⟨g, 0, none⟩) n cap) L) (j : Nat) (hj : j < L.length) (hn : L.length = n) :
    w.cell? ⟨g, j, none⟩ = some (.int .u8 (L[j].toNat : Int)) ∧ w.frozen? ⟨g, j, none⟩ = false ∧
      Own B (w.setCell ⟨g, j, none⟩ (.int .u8 (((L[j].toNat : Int) + 1) % 256))) (.slice (some ⟨g, 0, none⟩) n cap) (L.set j (L[j] + 1)) ∧ w.grownBy (w.setCell ⟨g, j, none⟩ (.int .u8 (((L[j].toNat : Int) + 1) % 256))) (some g) := by
  subst hn
  have hc := World.ownsRow.cellAt ho j (by omega)
  rw [bc_get, List.getElem?_eq_getElem hj] at hc
  have hf := World.ownsRow.frozenAt ho j
  have hst := World.ownsRow.stored ho j (.int .u8 (((L[j].toNat : Int) + 1) % 256))
  refine ⟨hc, hf, ?_, hst.2⟩
  have e : ((L[j].toNat : Int) + 1) % 256 = ((L[j] + 1).toNat : Int) := by
    rw [UInt8.toNat_add]
    simp
  unfold Own
  rw [← bc_set, List.length_set]
  have h1 := hst.1
  rw [e] at h1 ⊢
  exact h1

set_option maxRecDepth 100000 in
set_option maxHeartbeats 4000000 in
theorem own_late (w : World) (v : Value) (l : List UInt8) (hs : Sl w v l) (v2 : Value) (m : List UInt8) (hs2 : Sl w v2 m) (h1 : 1 ≤ l.length) (h2 : l.length ≤ 500) (h3 : 1 ≤ m.length) (h4 : m.length ≤ 500) :
    Calls Try.prog 7 #[v, v2] w fun e w' => e = .returned (.bool true) ∧ Below w.heap.size w w' := by
  have hv : ∃ ao c, v = .slice ao l.length c ∧ l.length ≤ c ∧ c ≤ maxLen := by obtain ⟨ao, c, rfl, h1, h2, _⟩ := hs; exact ⟨_, _, rfl, h1, h2⟩
  obtain ⟨ao, c, rfl, hc1, hc2⟩ := hv
  have hv2 : ∃ ao c, v2 = .slice ao m.length c ∧ m.length ≤ c ∧ c ≤ maxLen := by obtain ⟨ao, c, rfl, h1, h2, _⟩ := hs2; exact ⟨_, _, rfl, h1, h2⟩
  obtain ⟨bo, d, rfl, hd1, hd2⟩ := hv2
  unfold maxLen at hc2 hd2
  have Hs := hide hs
  have Hs2 := hide hs2
  clear hs hs2
  have hfit : Fits l := ⟨h1, by omega⟩
  have hfit2 : Fits m := ⟨h3, by omega⟩
  go_enter Try.func7, Try.ntmps7
  go_wp2_with fail
  refine (frame_yes _ l _ Hs.out hfit).mono ?_
  rintro e w1 ⟨r1, rfl, ho1, hb1⟩
  obtain ⟨fo, fc, rfl⟩ := ho1.val
  have hz1 := hb1.size
  go_wp2_with fail
  refine (frame_yes _ m _ (Hs2.out.below hb1 (Nat.le_refl _)) hfit2).mono ?_
  rintro e w2 ⟨r2, rfl, ho2, hb2⟩
  obtain ⟨go, gc, rfl⟩ := ho2.val
  have hz2 := hb2.size
  have hX := ho1.later hb2
  have hB2 := hb1.trans (hb2.mono hz1)
  have HX := hide hX
  have HY := hide ho2
  have HB2 := hide hB2
  clear ho1 ho2 hb1 hb2 hB2 hX
  have hsc : Scans (fr l) [l] := by
    have := Scans.frames (r := [l]) [] (fun x hx => by simp at hx; subst hx; exact hfit) (fst_short (by simp))
    simpa [frs] using this
  have hfl : (fr l).length ≤ 508 := by rw [fr_length]; omega
  go_wp2_with fail
  refine (scan_any _ (fr l) [l] _ HX.out.sl (by omega) hsc).mono ?_
  rintro e w3 ⟨r3, rfl, hrec, hb3⟩
  obtain ⟨g, cap, ra, rc, rfl, hcell, hro, hgB⟩ := hrec.at 0 (by simp)
  have hz3 := hb3.size
  have hX3 := HX.out.later hb3
  simp only [List.getElem_cons_zero, List.length_cons, List.length_nil, Nat.zero_add] at hcell hro ⊢
  obtain ⟨gr, cap2, hra⟩ := row_form hro h1
  injection hra with hra1 hra2 hra3
  subst hra1
  clear hra3
  have hglt := World.ownsRow.lt hro gr rfl
  have hgne : g ≠ gr := by
    obtain ⟨vs, k1, k2⟩ := hrec
    rcases rows_apart hro k1 (by decide) with e | e
    · cases e
    · intro e'; apply e; rw [e']; rfl
  have hgl : g < w3.heap.size := World.block_lt_of_cell? w3 _ hcell
  clear hrec
  go_wp2_with fail
  refine (whole_any _ (fr l) _ hX3.sl (by omega)).mono ?_
  rintro e w4 ⟨⟨hno, _⟩ | ⟨r4, x', hx', rfl, ho4⟩, hb4⟩
  · rw [whole_fr hfit] at hno; cases hno
  rw [whole_fr hfit] at hx'
  obtain rfl : l = x' := by simpa using hx'
  obtain ⟨gw, cap3, rfl⟩ := row_form ho4 h1
  have hgw := World.ownsRow.lt ho4 gw rfl
  have hcell4 := (hb4.cell (p := ⟨g, 0, none⟩) hgl).trans hcell
  have hro4 := hro.later hb4
  have hB4 : Below w2.heap.size w2 w4 := hb3.trans (hb4.mono hz3)
  have Hro4 := hide hro4
  have HB4 := hide hB4
  have Ho4 := hide ho4
  have Hcell4 := hide hcell4
  clear hcell hro hb3 hb4 hB4 hX3 ho4 hro4 hcell4 hx' hsc
  go_wp2_with fail
  go_loopw [13] (fun i wr => ∃ (k : Nat) (cur : List UInt8), k ≤ l.length ∧ i = .int .i64 k ∧ wr.cell? ⟨g, 0, none⟩ = some (.slice (some ⟨gr, 0, none⟩) l.length rc) ∧ Hid (cur.length = l.length ∧ Own w2.heap.size wr (.slice (some ⟨gr, 0, none⟩) l.length rc) cur ∧ Own w3.heap.size wr (.slice (some ⟨gw, 0, none⟩) l.length cap3) l ∧ Below w2.heap.size w2 wr)) (fun i _ => l.length - (intOf i).toNat)
  case atStart => exact ⟨0, l, by omega, rfl, unhide Hcell4, ⟨rfl, unhide Hro4, unhide Ho4, unhide HB4⟩⟩
  case round =>
    obtain ⟨k, cur, hk, rfl, hcl, Hr⟩ := hrel
    by_cases hlt : k < l.length
    · obtain ⟨hcur, hOw, hOw2, hBr⟩ := Hr.out
      obtain ⟨hcb, hfz, hOw', hgr⟩ := put_byte hOw k (by omega) hcur
      have hkI : (k : Int) < (l.length : Int) := by omega
      obtain ⟨cn, hcn⟩ : ∃ cn, Hid (cur[k].toNat = cn) := ⟨_, hide rfl⟩
      have hcn8 : (cur[k].toNat : Int) < 256 := by have := cur[k].toNat_lt; omega
      rw [hcn.out] at hcb hOw' hgr hcn8
      have K1 := World.ownsRow.kept hOw2 hgr (.inr (by simp [Value.ownBlock]; omega))
      have K2 := hBr.setCell (p := ⟨gr, k, none⟩) hglt.1 (.int .u8 (((cn : Int) + 1) % 256))
      have hgr3 : g < wr.heap.size := World.block_lt_of_cell? wr _ hcl
      have K3 := (hgr.block g (by have := hBr.size; have := hgr3; omega) (by intro e; injection e with e; exact hgne e))
      have HK := hide (show (cur.set k (cur[k] + 1)).length = l.length ∧ Own w2.heap.size _ (.slice (some ⟨gr, 0, none⟩) l.length rc) (cur.set k (cur[k] + 1)) ∧ _ ∧ _ from ⟨by rw [List.length_set]; exact hcur, hOw', K1, K2⟩)
      have hcl' : (wr.setCell ⟨gr, k, none⟩ (.int .u8 (((cn : Int) + 1) % 256))).drew.cell? ⟨g, 0, none⟩ = some (.slice (some ⟨gr, 0, none⟩) l.length rc) := (World.cell?_of_block (w := wr) K3).trans hcl
      clear hOw hOw2 hBr hOw' hgr K1 K2 K3
      go_wp2_with fail
      have Hcl' := hide hcl'
      clear hcl'
      go_region
      go_wp2
      go_roundw
      case rel =>
        obtain ⟨k1, k2, k3, k4⟩ := HK.out
        exact ⟨k + 1, _, by omega, by go_num, unhide Hcl', ⟨k1, k2, k3, k4.drew⟩⟩
      case measure => simp [intOf]; omega
    · obtain ⟨_, _, hOw2, hBr⟩ := Hr.out
      have HOw2 := hide hOw2
      have HBr := hide hBr
      clear hOw2 hBr Hr
      go_wp2
      go_loopw [14] (fun i ws => ∃ (q : Nat) (cur : List UInt8), q ≤ l.length ∧ i = .int .i64 q ∧ Hid (cur.length = l.length ∧ Own w3.heap.size ws (.slice (some ⟨gw, 0, none⟩) l.length cap3) cur ∧ Below w2.heap.size w2 ws)) (fun i _ => l.length - (intOf i).toNat)
      case atStart => exact ⟨0, l, by omega, rfl, ⟨rfl, unhide HOw2, unhide HBr⟩⟩
      case round =>
        obtain ⟨q, cur2, hq, rfl, Hr⟩ := hrel
        by_cases hlt2 : q < l.length
        · obtain ⟨hcur, hOw, hBr⟩ := Hr.out
          obtain ⟨hcb, hfz, hOw', hgr⟩ := put_byte hOw q (by omega) hcur
          have hqI : (q : Int) < (l.length : Int) := by omega
          obtain ⟨cn, hcn⟩ : ∃ cn, Hid (cur2[q].toNat = cn) := ⟨_, hide rfl⟩
          have hcn8 : (cur2[q].toNat : Int) < 256 := by have := cur2[q].toNat_lt; omega
          rw [hcn.out] at hcb hOw' hgr hcn8
          have K2 := hBr.setCell (p := ⟨gw, q, none⟩) (Nat.le_trans hz3 hgw.1) (.int .u8 (((cn : Int) + 1) % 256))
          have HK := hide (show (cur2.set q (cur2[q] + 1)).length = l.length ∧ Own w3.heap.size _ (.slice (some ⟨gw, 0, none⟩) l.length cap3) (cur2.set q (cur2[q] + 1)) ∧ _ from ⟨by rw [List.length_set]; exact hcur, hOw', K2⟩)
          clear hOw hBr hOw' hgr K2
          go_wp2
          go_roundw
          case rel => exact ⟨q + 1, _, by omega, by go_num, unhide HK⟩
          case measure => simp [intOf]; omega
        · obtain ⟨_, _, hBr2⟩ := Hr.out
          have hX5 := HX.out.later hBr2
          have hY5 := HY.out.later hBr2
          have HBt := hide (HB2.out.trans (hBr2.mono HB2.out.size))
          clear hBr2 Hr
          go_wp2_with fail
          refine (whole_any _ (fr l) _ hX5.sl (by omega)).mono ?_
          rintro e w6 ⟨⟨hno, _⟩ | ⟨r6, x', hx', rfl, ho6⟩, hb6⟩
          · rw [whole_fr hfit] at hno; cases hno
          rw [whole_fr hfit] at hx'
          obtain rfl : l = x' := by simpa using hx'
          obtain ⟨zo, zc, rfl⟩ := ho6.val
          go_wp2_with fail
          refine (alive_any _).mono ?_
          rintro e w7 ⟨rfl, hb7⟩
          have HB6 := HBt.out.trans (hb6.mono HBt.out.size)
          have HB7 := hide (HB6.trans (hb7.mono HB6.size))
          have cZ := conv_sl w7 _ _ (ho6.later hb7).sl
          have cX := conv_sl w7 _ _ ((hX5.later hb6).later hb7).sl
          have cY := conv_sl w7 _ _ ((hY5.later hb6).later hb7).sl
          have cB := conv_sl w7 _ _ (Hs.out.below HB7.out (Nat.le_refl _))
          have cC := conv_sl w7 _ _ (Hs2.out.below HB7.out (Nat.le_refl _))
          clear HB6 hb6 hb7 ho6 hX5 hY5 hx'
          go_wp2
          go_ret
          exact ⟨ret_bool (frames_apart l m), unhide HB7⟩

theorem walkSealOwn (w : World) (v : Value) (l : List UInt8) (hs : Sl w v l) (v2 : Value) (m : List UInt8) (hs2 : Sl w v2 m) :
    Calls Try.prog 7 #[v, v2] w fun e w' => e = .returned (.bool true) ∧ Below w.heap.size w w' := by
  by_cases h : 500 < l.length ∨ 500 < m.length ∨ l.length = 0 ∨ m.length = 0
  · exact own_early w v l hs v2 m hs2 h
  · exact own_late w v l hs v2 m hs2 (by omega) (by omega) (by omega) (by omega)

end Go.Proofs.Yteacolahbnilnaa
