/-
  The document's journal: one change, done. No law is proved here.
-/
import Derived.Test.YteanjnkfoddfmaaJRj

namespace Go.Proofs.Yteanjnkfoddfmaa
open Go.RowKit
set_option linter.unusedVariables false
set_option linter.unusedSimpArgs false

set_option maxRecDepth 100000 in
set_option maxHeartbeats 2000000 in
theorem change_none {P : Nat → Prop} (J M t v o b : Nat) (d : List UInt8) (L : List (List UInt8)) (ao : Option Addr) (c : Nat) (l : List UInt8) (w : World) (h : Rj P w J M t v o (b, d, L)) (hs : Sl w (.slice ao l.length c) l) (hl : l.length ≤ 1099511627776) (h0 : (rdN l 3).1 = 0) (hn : chOf l = none) :
    Calls Try.prog 49 #[.pointer (some ⟨J, 0, none⟩), .slice ao l.length c] w (Chd P J M t v o (b, d, L) l w) := by
  have Hs := hide hs
  have Hn := hide hn
  clear h hs hn
  go_enter Try.func49, Try.ntmps49
  go_wp2_with fail
  refine (rr_open ao c l w).mono ?_
  rintro e w1 ⟨R, rfl, hR, hr1, hb1⟩
  have hs1 := (unhide Hs).later hb1
  have Hr1 := hide hr1
  have Hs1 := hide hs1
  have HB1 := hide hb1
  clear hr1 hs1 hb1
  go_wp2_with fail
  refine (rr_n (unhide Hr1) (unhide Hs1) hl 3).mono ?_
  rintro e w2 ⟨rfl, hr2, ht2⟩
  have hs2 := (unhide Hr1).sl (unhide Hs1) ht2
  have hb2 := (unhide HB1).trans (ht2.below hR)
  rw [h0]
  have HB2 := hide hb2
  clear hr2 ht2 hs2 hb2 Hr1 Hs1 HB1 h0
  go_wp2
  go_ret
  exact .inr ⟨one_none (unhide Hn), rfl, unhide HB2⟩

set_option maxRecDepth 100000 in
set_option maxHeartbeats 2000000 in
theorem change_one {P : Nat → Prop} (J M t v o b : Nat) (d : List UInt8) (L : List (List UInt8)) (ao : Option Addr) (c : Nat) (l : List UInt8) (w : World) (h : Rj P w J M t v o (b, d, L)) (hs : Sl w (.slice ao l.length c) l) (hl : l.length ≤ 1099511627776) (hL : L.length ≤ 1099511627776) (r : List UInt8) (e3 : rdN l 3 = (1, 0, r)) (e40 : rdN l 1099511627776 = (1, 0, r)) :
    Calls Try.prog 49 #[.pointer (some ⟨J, 0, none⟩), .slice ao l.length c] w (Chd P J M t v o (b, d, L) l w) := by
  have hch := ch_one e40
  have hsl : (rdT r 65536).1.length ≤ 65536 := by
    rcases rdT_one r 65536 with ⟨_, _, h⟩ | ⟨_, _, h⟩
    · rw [h]; simp
    · omega
  have Hj := hide h
  have Hs := hide hs
  have Hch := hide hch
  clear h hs hch e40
  go_enter Try.func49, Try.ntmps49
  go_wp2_with fail
  refine (rr_open ao c l w).mono ?_
  rintro e w1 ⟨R, rfl, hR, hr1, hb1⟩
  have hs1 := (unhide Hs).later hb1
  have Hr1 := hide hr1
  have Hs1 := hide hs1
  have HB1 := hide hb1
  clear hr1 hs1 hb1
  go_wp2_with fail
  refine (rr_n (unhide Hr1) (unhide Hs1) hl 3).mono ?_
  rintro e w2 ⟨rfl, hr2, ht2⟩
  have hs2 := (unhide Hr1).sl (unhide Hs1) ht2
  have hb2 := (unhide HB1).trans (ht2.below hR)
  rw [e3] at hr2 ⊢
  have hr2' : Rr w2 R ao c l r false := hr2
  have Hr2 := hide hr2'
  have Hs2 := hide hs2
  have HB2 := hide hb2
  clear hr2 hr2' ht2 hs2 hb2 Hr1 Hs1 HB1 e3
  go_wp2_with fail
  refine (rr_t (unhide Hr2) (unhide Hs2) hl 65536).mono ?_
  rintro e w3 ⟨rfl, hr3, ht3⟩
  have Hr3 := hide hr3
  have HB3 := hide ((unhide HB2).trans (ht3.below hR))
  clear hr3 ht3 Hr2 Hs2 HB2
  generalize rdT r 65536 = y at *
  obtain ⟨s, er, r2⟩ := y
  simp only at Hr3 Hch hsl
  generalize hX : bs s = X at *
  have HX := hide hX
  clear hX
  by_cases hok : er = 0 ∧ r2 = []
  · obtain ⟨rfl, rfl⟩ := hok
    go_wp2_with fail
    refine (rr_end_b (unhide Hr3) hl true rfl).mono ?_
    rintro e w4 ⟨rfl, hb4⟩
    have HB4 := hide ((unhide HB3).trans (hb4.mono (unhide HB3).size))
    clear hb4 Hr3 HB3
    have hlv := (unhide Hj).later (unhide HB4)
    obtain ⟨lv, l1, l2⟩ := hlv.c3
    have hbl := below_new w4 (.cells #[] 26)
    have C3 := (hbl.cell (p := ⟨J, 3, none⟩) (World.block_lt_of_cell? w4 _ l1)).trans l1
    have hq0 := Rq.lit (B := w.heap.size) (P := P) w4 (unhide HB4).size hlv.pl
    have hbq := l2.frame (fun k hk => hbl.block k (hlv.pl k hk))
    obtain ⟨lo, lc, rfl, lc1, lc2, _⟩ := id l2
    replace lc1 : L.length ≤ lc := lc1
    unfold maxLen at lc2
    have HQ0 := hide hq0
    have HBQ := hide hbq
    have HBL := hide hbl
    clear hlv l2 hq0 hbq hbl
    go_wp2_with (at_builtin; refine wpList_append_rq rfl (.tmp 24) (.tmp 28) rfl rfl rfl (unhide HQ0) (by have := (unhide HB4).size; have := (unhide HBL).size; omega) (unhide HBQ) (by simp; omega) ?_)
    intro v2 w6 hq6 hf6
    have hb6 : Below w.heap.size w w6 := ((unhide HB4).trans ((unhide HBL).mono (unhide HB4).size)).trans (hf6.below (fun k hk => by simp only [Value.ownBlock, Option.some.injEq] at hk; have := (unhide HB4).size; omega) (by have := (unhide HB4).size; have := (unhide HBL).size; omega))
    have Hq6 := hide hq6
    have HB6 := hide hb6
    clear hq6 hf6 hb6 HQ0 HBQ HBL C3 l1 HB4
    obtain ⟨v2o, v2c, rfl⟩ := (unhide Hq6).val
    have hcv := conv_bytes w6 X
    have hxs : X.size = s.length := by rw [← unhide HX]; exact bs_size s
    have hsl7 : Sl (Lib.bytesWorld w6 5 X) (.slice (some ⟨w6.heap.size, 0, none⟩) X.size (grownCap w6 X.size 0 5)) s := by
      rw [hxs, ← unhide HX]
      exact bytesWorld_sl w6 s (by unfold maxLen; omega)
    have hz7 := Lib.bytesWorld_size w6 5 X
    have hb8 : Below w6.heap.size w6 ((Lib.bytesWorld w6 5 X).alloc (.cells #[.slice (some ⟨w6.heap.size, 0, none⟩) X.size (grownCap w6 X.size 0 5)] 26)) := (bytesWorld_below w6 X).alloc (by omega) _
    have hz8 : ((Lib.bytesWorld w6 5 X).alloc (.cells #[.slice (some ⟨w6.heap.size, 0, none⟩) X.size (grownCap w6 X.size 0 5)] 26)).heap.size = w6.heap.size + 2 := by simp; omega
    have hq8 := (unhide Hq6).grow hb8
    have hbq8 : Bsq (fun k => P k ∨ (w6.heap.size ≤ k ∧ k < ((Lib.bytesWorld w6 5 X).alloc (.cells #[.slice (some ⟨w6.heap.size, 0, none⟩) X.size (grownCap w6 X.size 0 5)] 26)).heap.size)) ((Lib.bytesWorld w6 5 X).alloc (.cells #[.slice (some ⟨w6.heap.size, 0, none⟩) X.size (grownCap w6 X.size 0 5)] 26)) (.slice (some ⟨(Lib.bytesWorld w6 5 X).heap.size, 0, none⟩) 1 1) [s] :=
      bsq_lit _ _ s _ hsl7 (fun g hg => by simp only [Value.ownBlock, Option.some.injEq] at hg; exact .inr ⟨by omega, by omega⟩) (.inr ⟨by omega, by omega⟩)
    have HQ8 := hide hq8
    have HBQ8 := hide hbq8
    have HB8 := hide ((unhide HB6).trans (hb8.mono (unhide HB6).size))
    have HZ8 := hide hz8
    have HZ6 := hide (unhide HB6).size
    have HXS := hide hxs
    clear hq8 hbq8 hb8 hz8 hz7 hsl7 Hq6 HB6 hxs
    go_wp2_with (at_builtin; refine wpList_append_rq rfl (.tmp 29) (.tmp 32) rfl rfl rfl (unhide HQ8) (unhide HB8).size (unhide HBQ8) (by simp; omega) ?_)
    intro v9 w9 hq9 hf9'
    obtain ⟨v9o, v9c, rfl⟩ := hq9.val
    have hll : (L ++ [s]).length = L.length + 1 := by simp
    rw [hll] at hq9 ⊢
    clear hll
    have hlo9 := (unhide HQ8).lt
    have hb9 : Below w.heap.size w w9 := (unhide HB8).trans (hf9'.below (fun k hk => (hlo9 k hk).1) (unhide HB8).size)
    have HZ : Hid (w.heap.size ≤ w6.heap.size ∧ (Lib.bytesWorld w6 5 X).heap.size + 1 ≤ w9.heap.size) := ⟨unhide HZ6, by have := hf9'.size; simpa using this⟩
    have Hq9 := hide hq9
    have HB9 := hide hb9
    clear hq9 hf9' hb9 hlo9 HQ8 HBQ8 HB8 HZ8 HZ6 HXS hcv
    have hj9 := (unhide Hj).newL (unhide HB9) (unhide Hq9) (fun k hk => hk.imp id (fun h => by have := unhide HZ; exact ⟨by omega, by omega⟩))
    have hf9 := (Fr.of (S := fun k => k = J) (unhide HB9)).set (p := ⟨J, 3, none⟩) rfl (.slice v9o (L.length + 1) v9c)
    have hlt9 := ((unhide Hj).later (unhide HB9))
    obtain ⟨lv9, l9, _⟩ := hlt9.c3
    have fz9 := hlt9.fz 3
    have HC : Hid (Chd P J M t v o (b, d, L) l w (.returned (.bool true)) (w9.setCell ⟨J, 3, none⟩ (.slice v9o (L.length + 1) v9c))) := .inl ⟨(b, d, L ++ [s]), _, (one_some ((unhide Hch).trans (if_pos (by simp)))).trans rfl, rfl, hj9, fun k hk => hk.imp id (fun h => h.1), hf9⟩
    clear hj9 hf9 hlt9 Hq9 HB9 HZ Hj Hch
    go_wp2
    go_ret
    exact unhide HC
  · have HCN : Hid (chOf l = none) := (unhide Hch).trans (if_neg hok)
    have hbb : (!(false || er != 0) && decide (r2 = [])) = false := by
      by_cases h1 : er = 0
      · have h2 : ¬ r2 = [] := fun e => hok ⟨h1, e⟩
        simp [h2]
      · simp [h1]
    have Hbb := hide hbb
    clear hok hbb Hch
    go_wp2_with fail
    refine (rr_end_b (unhide Hr3) hl false (unhide Hbb)).mono ?_
    rintro e w4 ⟨rfl, hb4⟩
    have HB4 := hide ((unhide HB3).trans (hb4.mono (unhide HB3).size))
    have HN : Hid (one l (b, d, L) = none) := one_none (unhide HCN)
    clear hb4
    go_wp2
    go_ret
    exact .inr ⟨unhide HN, rfl, unhide HB4⟩

set_option maxRecDepth 100000 in
set_option maxHeartbeats 2000000 in
theorem change_two {P : Nat → Prop} (J M t v o b : Nat) (d : List UInt8) (L : List (List UInt8)) (ao : Option Addr) (c : Nat) (l : List UInt8) (w : World) (h : Rj P w J M t v o (b, d, L)) (hs : Sl w (.slice ao l.length c) l) (hl : l.length ≤ 1099511627776) (hL : L.length ≤ 1099511627776) (r : List UInt8) (e3 : rdN l 3 = (2, 0, r)) (e40 : rdN l 1099511627776 = (2, 0, r)) :
    Calls Try.prog 49 #[.pointer (some ⟨J, 0, none⟩), .slice ao l.length c] w (Chd P J M t v o (b, d, L) l w) := by
  have hch := ch_two e40
  have hsl : (rdN r 1099511627776).1 ≤ 1099511627776 := by
    rcases rdN_one r 1099511627776 with ⟨_, _, h⟩ | ⟨_, _, h, _⟩
    · rw [h]; simp
    · omega
  have Hj := hide h
  have Hs := hide hs
  have Hch := hide hch
  clear h hs hch e40
  go_enter Try.func49, Try.ntmps49
  go_wp2_with fail
  refine (rr_open ao c l w).mono ?_
  rintro e w1 ⟨R, rfl, hR, hr1, hb1⟩
  have hs1 := (unhide Hs).later hb1
  have Hr1 := hide hr1
  have Hs1 := hide hs1
  have HB1 := hide hb1
  clear hr1 hs1 hb1
  go_wp2_with fail
  refine (rr_n (unhide Hr1) (unhide Hs1) hl 3).mono ?_
  rintro e w2 ⟨rfl, hr2, ht2⟩
  have hs2 := (unhide Hr1).sl (unhide Hs1) ht2
  have hb2 := (unhide HB1).trans (ht2.below hR)
  rw [e3] at hr2 ⊢
  have hr2' : Rr w2 R ao c l r false := hr2
  have Hr2 := hide hr2'
  have Hs2 := hide hs2
  have HB2 := hide hb2
  clear hr2 hr2' ht2 hs2 hb2 Hr1 Hs1 HB1 e3
  go_wp2_with fail
  refine (rr_n (unhide Hr2) (unhide Hs2) hl 1099511627776).mono ?_
  rintro e w3 ⟨rfl, hr3, ht3⟩
  have Hr3 := hide hr3
  have HB3 := hide ((unhide HB2).trans (ht3.below hR))
  clear hr3 ht3 Hr2 Hs2 HB2
  generalize rdN r 1099511627776 = y at *
  obtain ⟨n, er, r2⟩ := y
  simp only at Hr3 Hch hsl
  by_cases hok : er = 0 ∧ r2 = []
  · obtain ⟨rfl, rfl⟩ := hok
    go_wp2_with fail
    refine (rr_end_b (unhide Hr3) hl true rfl).mono ?_
    rintro e w4 ⟨rfl, hb4⟩
    have HB4 := hide ((unhide HB3).trans (hb4.mono (unhide HB3).size))
    clear hb4 Hr3 HB3
    have hlv := (unhide Hj).later (unhide HB4)
    obtain ⟨lv, l1, l2⟩ := hlv.c3
    have hbl := below_new w4 (.cells #[] 26)
    have C3 := (hbl.cell (p := ⟨J, 3, none⟩) (World.block_lt_of_cell? w4 _ l1)).trans l1
    have hq0 := Rq.lit (B := w.heap.size) (P := P) w4 (unhide HB4).size hlv.pl
    have hbq := l2.frame (fun k hk => hbl.block k (hlv.pl k hk))
    obtain ⟨lo, lc, rfl, lc1, lc2, _⟩ := id l2
    replace lc1 : L.length ≤ lc := lc1
    unfold maxLen at lc2
    have HQ0 := hide hq0
    have HBQ := hide hbq
    have HBL := hide hbl
    clear hlv l2 hq0 hbq hbl
    have hcc : chOf l = some (.first n) := (unhide Hch).trans (if_pos (by simp))
    by_cases hle : n ≤ L.length
    · have hle1 : ¬ (L.length : Int) < (n : Int) := by omega
      have hle2 : (n : Int) ≤ (lc : Int) := by omega
      have HO : Hid (one l (b, d, L) = some (b, d, L.take n)) := (one_some hcc).trans (if_pos hle)
      have HBQ' := hide ((unhide HBQ).take n hle)
      have htl : (L.take n).length = n := by rw [List.length_take]; omega
      clear hcc Hch HBQ
      go_wp2_with (at_builtin; refine wpList_append_rq rfl (.tmp 53) (.tmp 59) rfl rfl rfl (unhide HQ0) (by have := (unhide HB4).size; have := (unhide HBL).size; omega) (unhide HBQ') (by simp; omega) ?_)
      intro v9 w9 hq9 hf9'
      replace hq9 : Rq w.heap.size P w9 v9 (L.take n) := hq9
      obtain ⟨v9o, v9c, rfl⟩ := hq9.val
      rw [htl] at hq9 ⊢
      have hb9 : Below w.heap.size w w9 := ((unhide HB4).trans ((unhide HBL).mono (unhide HB4).size)).trans (hf9'.below (fun k hk => by simp only [Value.ownBlock, Option.some.injEq] at hk; have := (unhide HB4).size; omega) (by have := (unhide HB4).size; have := (unhide HBL).size; omega))
      have hj9 := (unhide Hj).newL hb9 hq9 (fun k hk => .inl hk)
      have hf9 := (Fr.of (S := fun k => k = J) hb9).set (p := ⟨J, 3, none⟩) rfl (.slice v9o n v9c)
      have hlt9 := ((unhide Hj).later hb9)
      obtain ⟨lv9, l9, _⟩ := hlt9.c3
      have fz9 := hlt9.fz 3
      have HC : Hid (Chd P J M t v o (b, d, L) l w (.returned (.bool true)) (w9.setCell ⟨J, 3, none⟩ (.slice v9o n v9c))) := .inl ⟨(b, d, L.take n), _, unhide HO, rfl, hj9, fun k hk => hk.imp id (fun h => h.1), hf9⟩
      clear hj9 hf9 hlt9 hq9 hb9 hf9' Hj HQ0 HBQ' HBL HB4 HO C3 l1
      go_wp2
      go_ret
      exact unhide HC
    · have hle1 : (L.length : Int) < (n : Int) := by omega
      have HO : Hid (one l (b, d, L) = none) := (one_some hcc).trans (if_neg hle)
      clear hcc Hch HBQ HQ0 HBL C3
      go_wp2
      go_ret
      exact .inr ⟨unhide HO, rfl, unhide HB4⟩
  · have HCN : Hid (chOf l = none) := (unhide Hch).trans (if_neg hok)
    have hbb : (!(false || er != 0) && decide (r2 = [])) = false := by
      by_cases h1 : er = 0
      · have h2 : ¬ r2 = [] := fun e => hok ⟨h1, e⟩
        simp [h2]
      · simp [h1]
    have Hbb := hide hbb
    clear hok hbb Hch
    go_wp2_with fail
    refine (rr_end_b (unhide Hr3) hl false (unhide Hbb)).mono ?_
    rintro e w4 ⟨rfl, hb4⟩
    have HB4 := hide ((unhide HB3).trans (hb4.mono (unhide HB3).size))
    have HN : Hid (one l (b, d, L) = none) := one_none (unhide HCN)
    clear hb4
    go_wp2
    go_ret
    exact .inr ⟨unhide HN, rfl, unhide HB4⟩

theorem conv_out (W : World) (s : List UInt8) (X : ByteArray) (hX : bs s = X) (hs : s.length ≤ 1099511627776) :
    ∃ g cc W2, (convert 9 26 (.string X)).run Try.prog W = .ok (.slice (some ⟨g, 0, none⟩) s.length cc) W2 ∧ Below W.heap.size W W2 ∧ W.heap.size ≤ g ∧ g < W2.heap.size ∧ Sl W2 (.slice (some ⟨g, 0, none⟩) s.length cc) s := by
  subst hX
  refine ⟨_, _, _, ?_, bytesWorld_below W (bs s), Nat.le_refl _, by rw [Lib.bytesWorld_size]; omega, bytesWorld_sl W s (by unfold maxLen; omega)⟩
  have := conv_bytes W (bs s)
  rw [bs_size] at this
  exact this

set_option maxRecDepth 100000 in
set_option maxHeartbeats 4000000 in
theorem change_three {P : Nat → Prop} (J M t v o b : Nat) (d : List UInt8) (L : List (List UInt8)) (ao : Option Addr) (c : Nat) (l : List UInt8) (w : World) (h : Rj P w J M t v o (b, d, L)) (hs : Sl w (.slice ao l.length c) l) (hl : l.length ≤ 1099511627776) (hL : L.length ≤ 1099511627776) (hb40 : b ≤ 1099511627776) (r : List UInt8) (e3 : rdN l 3 = (3, 0, r)) (e40 : rdN l 1099511627776 = (3, 0, r)) :
    Calls Try.prog 49 #[.pointer (some ⟨J, 0, none⟩), .slice ao l.length c] w (Chd P J M t v o (b, d, L) l w) := by
  have hch := ch_three e40
  have hnl : (rdN r 1099511627776).1 ≤ 1099511627776 := by
    rcases rdN_one r 1099511627776 with ⟨_, _, h⟩ | ⟨_, _, h, _⟩
    · rw [h]; simp
    · omega
  have hsl : ∀ r, (rdT r 65536).1.length ≤ 65536 := fun r => by
    rcases rdT_one r 65536 with ⟨_, _, h⟩ | ⟨_, _, h⟩
    · rw [h]; simp
    · omega
  have Hj := hide h
  have Hs := hide hs
  have Hch := hide hch
  clear h hs hch e40
  go_enter Try.func49, Try.ntmps49
  go_wp2_with fail
  refine (rr_open ao c l w).mono ?_
  rintro e w1 ⟨R, rfl, hR, hr1, hb1⟩
  have hs1 := (unhide Hs).later hb1
  have Hr1 := hide hr1
  have Hs1 := hide hs1
  have HB1 := hide hb1
  clear hr1 hs1 hb1
  go_wp2_with fail
  refine (rr_n (unhide Hr1) (unhide Hs1) hl 3).mono ?_
  rintro e w2 ⟨rfl, hr2, ht2⟩
  have hs2 := (unhide Hr1).sl (unhide Hs1) ht2
  have hb2 := (unhide HB1).trans (ht2.below hR)
  rw [e3] at hr2 ⊢
  have hr2' : Rr w2 R ao c l r false := hr2
  have Hr2 := hide hr2'
  have Hs2 := hide hs2
  have HB2 := hide hb2
  clear hr2 hr2' ht2 hs2 hb2 Hr1 Hs1 HB1 e3
  go_wp2_with fail
  refine (rr_n (unhide Hr2) (unhide Hs2) hl 1099511627776).mono ?_
  rintro e w3 ⟨rfl, hr3, ht3⟩
  have Hr3 := hide hr3
  have HB3 := hide ((unhide HB2).trans (ht3.below hR))
  have Hs3 := hide ((unhide Hr2).sl (unhide Hs2) ht3)
  clear hr3 ht3 Hr2 Hs2 HB2
  generalize rdN r 1099511627776 = y at *
  obtain ⟨n, er, r2⟩ := y
  simp only at Hr3 Hch hnl
  go_wp2_with fail
  refine (rr_t (unhide Hr3) (unhide Hs3) hl 65536).mono ?_
  rintro e w4 ⟨rfl, hr4, ht4⟩
  have Hr4 := hide hr4
  have HB4 := hide ((unhide HB3).trans (ht4.below hR))
  clear hr4 ht4 Hr3 Hs3 HB3
  replace hsl := hsl r2
  generalize rdT r2 65536 = y at *
  obtain ⟨s, er2, r3⟩ := y
  simp only at Hr4 Hch hsl
  generalize hX : bs s = X at *
  have HX := hide hX
  clear hX
  by_cases hok : er = 0 ∧ er2 = 0 ∧ r3 = []
  · obtain ⟨rfl, rfl, rfl⟩ := hok
    go_wp2_with fail
    refine (rr_end_b (unhide Hr4) hl true rfl).mono ?_
    rintro e w5 ⟨rfl, hb5⟩
    have HB5 := hide ((unhide HB4).trans (hb5.mono (unhide HB4).size))
    clear hb5 Hr4 HB4
    have hcc : chOf l = some (.lay n s) := (unhide Hch).trans (if_pos (by simp))
    have hj5 := (unhide Hj).later (unhide HB5)
    obtain ⟨lv, l1, l2⟩ := hj5.c3
    have b1 := hj5.c1
    replace b1 : w5.cell? ⟨J, 1, none⟩ = some (.int .i64 (b : Int)) := b1
    obtain ⟨lo, lc, rfl, lc1, lc2, _⟩ := id l2
    replace lc1 : L.length ≤ lc := lc1
    replace l1 : w5.cell? ⟨J, 3, none⟩ = some (.slice lo L.length lc) := l1
    unfold maxLen at lc2
    have Hl2 := hide l2
    have fz5 := hj5.fz 3
    clear hj5 l2
    by_cases h1 : n < b
    · have h1i : (n : Int) < (b : Int) := by omega
      have HO : Hid (one l (b, d, L) = some (n, s, [])) := (one_some hcc).trans (by show some (n, s, _) = _; rw [if_neg (by omega)])
      clear hcc Hch Hl2
      go_wp2_with fail
      go_quiet (fail)
      have hb6 : Below w.heap.size w (w5.drewN nq) := belowN (unhide HB5) nq
      have hjW := ((unhide Hj).later hb6).setL (.slice none 0 0) [] ⟨none, 0, rfl, Nat.le_refl _, Nat.zero_le _, fun _ => ⟨rfl, rfl⟩, fun a ha => by cases ha⟩
      have hfW := (Fr.of (S := fun k => k = J) hb6).set (p := ⟨J, 3, none⟩) rfl (.slice none 0 0)
      have hPW : ∀ q, P q → P q ∨ w.heap.size ≤ q := fun q hq => .inl hq
      have l1' : (w5.drewN nq).cell? ⟨J, 3, none⟩ = some (.slice lo L.length lc) := l1
      have fz5' : (w5.drewN nq).frozen? ⟨J, 3, none⟩ = false := fz5
      clear l1 fz5 b1 HB5 hb6
      generalize w5.drewN nq = W5 at *
      have hlt1 := hjW.c1
      have hlf1 := hjW.fz 1
      have hjW1 := hjW.setB n
      obtain ⟨g2, cc2, W2, hrun2, hb2W, hg2a, hg2b, hsl2⟩ := conv_out ((W5.setCell ⟨J, 3, none⟩ (.slice none 0 0)).setCell ⟨J, 1, none⟩ (.int .i64 (n : Int))) s X (unhide HX) (by omega)
      have hjW2 := hjW1.grow hb2W
      obtain ⟨dv2, hd2c, _⟩ := hjW2.c2
      have hlf2 := hjW2.fz 2
      have hjW3 := hjW2.setD (.slice (some ⟨g2, 0, none⟩) s.length cc2) s hsl2 (fun g hg => by simp only [Value.ownBlock, Option.some.injEq] at hg; exact .inr ⟨by omega, by omega⟩)
      have hfrW3 : Fr (fun k => k = J) w (W2.setCell ⟨J, 2, none⟩ (.slice (some ⟨g2, 0, none⟩) s.length cc2)) := ((hfW.set (p := ⟨J, 1, none⟩) rfl _).trans (Fr.of hb2W)).set (p := ⟨J, 2, none⟩) rfl _
      have HC : Hid (Chd P J M t v o (b, d, L) l w (.returned (.bool true)) (W2.setCell ⟨J, 2, none⟩ (.slice (some ⟨g2, 0, none⟩) s.length cc2))) := .inl ⟨_, _, unhide HO, rfl, hjW3, fun k hk => by
        rcases hk with hk | hk
        · exact hPW k hk
        · right
          have h0 := hfW.size
          have h1 := ((Fr.refl (fun k => k = J) (W5.setCell ⟨J, 3, none⟩ (.slice none 0 0))).set (p := ⟨J, 1, none⟩) rfl (.int .i64 (n : Int))).size
          have h2 := hk.1
          exact Nat.le_trans h0 (Nat.le_trans h1 h2), hfrW3⟩
      clear hjW hjW1 hjW2 hjW3 hfrW3 hfW hPW hb2W hsl2 hg2a hg2b
      go_wp2
      all_goals go_ret
      all_goals exact unhide HC
    · by_cases h2 : b + L.length < n
      · have h1i : ¬ (n : Int) < (b : Int) := by omega
        have h2i : (b : Int) + (L.length : Int) < (n : Int) := by omega
        have HO : Hid (one l (b, d, L) = some (n, s, [])) := (one_some hcc).trans (by show some (n, s, _) = _; rw [if_neg (by omega)])
        clear hcc Hch Hl2
        go_wp2_with fail
        go_quiet (fail)
        have hb6 : Below w.heap.size w (w5.drewN nq) := belowN (unhide HB5) nq
        have hjW := ((unhide Hj).later hb6).setL (.slice none 0 0) [] ⟨none, 0, rfl, Nat.le_refl _, Nat.zero_le _, fun _ => ⟨rfl, rfl⟩, fun a ha => by cases ha⟩
        have hfW := (Fr.of (S := fun k => k = J) hb6).set (p := ⟨J, 3, none⟩) rfl (.slice none 0 0)
        have hPW : ∀ q, P q → P q ∨ w.heap.size ≤ q := fun q hq => .inl hq
        have l1' : (w5.drewN nq).cell? ⟨J, 3, none⟩ = some (.slice lo L.length lc) := l1
        have fz5' : (w5.drewN nq).frozen? ⟨J, 3, none⟩ = false := fz5
        clear l1 fz5 b1 HB5 hb6
        generalize w5.drewN nq = W5 at *
        have hlt1 := hjW.c1
        have hlf1 := hjW.fz 1
        have hjW1 := hjW.setB n
        obtain ⟨g2, cc2, W2, hrun2, hb2W, hg2a, hg2b, hsl2⟩ := conv_out ((W5.setCell ⟨J, 3, none⟩ (.slice none 0 0)).setCell ⟨J, 1, none⟩ (.int .i64 (n : Int))) s X (unhide HX) (by omega)
        have hjW2 := hjW1.grow hb2W
        obtain ⟨dv2, hd2c, _⟩ := hjW2.c2
        have hlf2 := hjW2.fz 2
        have hjW3 := hjW2.setD (.slice (some ⟨g2, 0, none⟩) s.length cc2) s hsl2 (fun g hg => by simp only [Value.ownBlock, Option.some.injEq] at hg; exact .inr ⟨by omega, by omega⟩)
        have hfrW3 : Fr (fun k => k = J) w (W2.setCell ⟨J, 2, none⟩ (.slice (some ⟨g2, 0, none⟩) s.length cc2)) := ((hfW.set (p := ⟨J, 1, none⟩) rfl _).trans (Fr.of hb2W)).set (p := ⟨J, 2, none⟩) rfl _
        have HC : Hid (Chd P J M t v o (b, d, L) l w (.returned (.bool true)) (W2.setCell ⟨J, 2, none⟩ (.slice (some ⟨g2, 0, none⟩) s.length cc2))) := .inl ⟨_, _, unhide HO, rfl, hjW3, fun k hk => by
          rcases hk with hk | hk
          · exact hPW k hk
          · right
            have h0 := hfW.size
            have h1 := ((Fr.refl (fun k => k = J) (W5.setCell ⟨J, 3, none⟩ (.slice none 0 0))).set (p := ⟨J, 1, none⟩) rfl (.int .i64 (n : Int))).size
            have h2 := hk.1
            exact Nat.le_trans h0 (Nat.le_trans h1 h2), hfrW3⟩
        clear hjW hjW1 hjW2 hjW3 hfrW3 hfW hPW hb2W hsl2 hg2a hg2b
        go_wp2
        all_goals go_ret
        all_goals exact unhide HC
      · have h1i : ¬ (n : Int) < (b : Int) := by omega
        have h2i : ¬ (b : Int) + (L.length : Int) < (n : Int) := by omega
        obtain ⟨k, hk⟩ : ∃ k, k = n - b := ⟨_, rfl⟩
        have HO : Hid (one l (b, d, L) = some (n, s, L.drop k)) := (one_some hcc).trans (by show some (n, s, _) = _; rw [if_pos ⟨by omega, by omega⟩, hk])
        have hnk : (n : Int) - (b : Int) = (k : Int) := by omega
        have hkL : k ≤ L.length := by omega
        have hkLi : (k : Int) ≤ (L.length : Int) := by omega
        have hlci : (L.length : Int) ≤ (lc : Int) := by omega
        have hkw : IntKind.i64.wrap (k : Int) = (k : Int) := by rw [IntKind.wrap_i64]; omega
        clear hcc Hch hk
        go_wp2_with fail
        go_quiet (fail)
        have hb6 : Below w.heap.size w (w5.drewN nq).drew := (belowN (unhide HB5) nq).drew
        have l1' : (w5.drewN nq).drew.cell? ⟨J, 3, none⟩ = some (.slice lo L.length lc) := l1
        have b1' : (w5.drewN nq).drew.cell? ⟨J, 1, none⟩ = some (.int .i64 (b : Int)) := b1
        have fz5' : (w5.drewN nq).drew.frozen? ⟨J, 3, none⟩ = false := fz5
        have hj6 := (unhide Hj).later hb6
        have hl6 : Bsq P (w5.drewN nq).drew (.slice lo L.length lc) L := (unhide Hl2).frame (fun k hk => rfl)
        go_wp2_with fail
        refine wp_region_held_drew (S := fun y => y.cell? ⟨J, 1, none⟩ = some (.int .i64 (b : Int))) (by kernel_rfl) b1' (fun hS => ?_)
        generalize (w5.drewN nq).drew = V at *
        have hbl := below_new V (.cells #[] 26)
        have HQ0 := hide (Rq.lit (B := w.heap.size) (P := P) V hb6.size hj6.pl)
        have HBQ := hide ((hl6.drop k hkL).frame (fun k hk => hbl.block k (hj6.pl k hk)))
        have HB6 := hide (hb6.trans (hbl.mono hb6.size))
        have HZ1 := hide (unhide HB6).size
        have C1 := (hbl.cell (p := ⟨J, 1, none⟩) (World.block_lt_of_cell? V _ b1')).trans b1'
        have C3 := (hbl.cell (p := ⟨J, 3, none⟩) (World.block_lt_of_cell? V _ l1')).trans l1'
        clear hb6 hj6 hl6 hbl l1 b1 fz5 HB5 Hl2 fz5'
        refine held_take 0 95 rfl rfl (by kernel_rfl) (by kernel_rfl) (by kernel_rfl) (fun _ _ _ h => h) (by rfl) hS (v := ?_) ?_ ?_
        rotate_left
        · intro y hSy
          clear hSy
          go_simp
          with_reducible rfl
        simp only [Act.put, List.setIfInBounds_toArray, List.set_cons_zero, List.set_cons_succ]
        refine held_take 2 97 rfl rfl (by kernel_rfl) (by kernel_rfl) (by kernel_rfl) (fun _ _ _ h => h) (by rfl) hS (v := ?_) ?_ ?_
        rotate_left
        · intro y hSy
          clear hSy
          go_simp
          with_reducible rfl
        simp only [Act.put, List.setIfInBounds_toArray, List.set_cons_zero, List.set_cons_succ]
        refine held_take 3 98 rfl rfl (by kernel_rfl) (by kernel_rfl) (by kernel_rfl) (fun _ _ _ h => h) (by rfl) hS (v := ?_) ?_ ?_
        rotate_left
        · intro y hSy
          clear hSy
          go_simp
          with_reducible rfl
        simp only [Act.put, List.setIfInBounds_toArray, List.set_cons_zero, List.set_cons_succ]
        refine held_take 4 99 rfl rfl (by kernel_rfl) (by kernel_rfl) (by kernel_rfl) (fun _ _ _ h => h) (by rfl) hS (v := ?_) ?_ ?_
        rotate_left
        · intro y hSy
          clear hSy
          go_simp
          with_reducible rfl
        simp only [Act.put, List.setIfInBounds_toArray, List.set_cons_zero, List.set_cons_succ]
        refine held_take 6 101 rfl rfl (by kernel_rfl) (by kernel_rfl) (by kernel_rfl) (fun _ _ _ h => h) (by rfl) hS (v := ?_) ?_ ?_
        rotate_left
        · intro y hSy
          clear hSy
          go_simp
          with_reducible rfl
        simp only [Act.put, List.setIfInBounds_toArray, List.set_cons_zero, List.set_cons_succ]
        refine held_take 7 102 rfl rfl (by kernel_rfl) (by kernel_rfl) (by kernel_rfl) (fun _ _ _ h => h) (by rfl) hS (v := ?_) ?_ ?_
        rotate_left
        · intro y hSy
          clear hSy
          go_simp
          with_reducible rfl
        simp only [Act.put, List.setIfInBounds_toArray, List.set_cons_zero, List.set_cons_succ]
        refine held_take 8 103 rfl rfl (by kernel_rfl) (by kernel_rfl) (by kernel_rfl) (fun _ _ _ h => h) (by rfl) hS (v := ?_) ?_ ?_
        rotate_left
        · intro y hSy
          clear hSy
          go_simp
          with_reducible rfl
        simp only [Act.put, List.setIfInBounds_toArray, List.set_cons_zero, List.set_cons_succ]
        refine held_take 9 104 rfl rfl (by kernel_rfl) (by kernel_rfl) (by kernel_rfl) (fun _ _ _ h => h) (by rfl) hS (v := ?_) ?_ ?_
        rotate_left
        · intro y hSy
          clear hSy
          go_simp
          with_reducible rfl
        simp only [Act.put, List.setIfInBounds_toArray, List.set_cons_zero, List.set_cons_succ]
        refine held_take 10 105 rfl rfl (by kernel_rfl) (by kernel_rfl) (by kernel_rfl) (fun _ _ _ h => h) (by rfl) hS (v := .int .i64 (b : Int)) (fun y hSy => ?_) ?_
        · go_simp
        simp only [Act.put, List.setIfInBounds_toArray, List.set_cons_zero, List.set_cons_succ]
        refine held_take 11 106 rfl rfl (by kernel_rfl) (by kernel_rfl) (by kernel_rfl) (fun _ _ _ h => h) (by rfl) hS (v := ?_) ?_ ?_
        rotate_left
        · intro y hSy
          clear hSy
          go_simp
          with_reducible rfl
        simp only [Act.put, List.setIfInBounds_toArray, List.set_cons_zero, List.set_cons_succ]
        refine wpAnyH_ready (rs := [1, 5]) (by kernel_rfl) (by simp) ?_
        refine AllReadyH.cons rfl (fun K hK => ?_) (AllReadyH.cons rfl (fun K hK => ?_) AllReadyH.nil)
        · go_simp
          refine hK.out _ _ C1 (fun _ => ?_)
          clear hK K hS
          have hS := C1
          refine wpAnyH_ready (rs := [5]) (by kernel_rfl) (by simp) ?_
          refine AllReadyH.cons rfl (fun K hK => ?_) AllReadyH.nil
          go_simp
          refine hK.out _ _ C1 (fun _ => ?_)
          clear hK K
          refine held_take 12 107 rfl rfl (by kernel_rfl) (by kernel_rfl) (by kernel_rfl) (fun _ _ _ h => h) (by rfl) hS (v := ?_) ?_ ?_
          rotate_left
          · intro y hSy
            clear hSy
            go_simp
            with_reducible rfl
          simp only [Act.put, List.setIfInBounds_toArray, List.set_cons_zero, List.set_cons_succ]
          refine wpAnyH_ready (rs := [13]) (by kernel_rfl) (by simp) ?_
          refine AllReadyH.cons rfl (fun K hK => ?_) AllReadyH.nil
          refine step_append_rq rfl (.tmp 96) (.tmp 107) rfl rfl rfl (unhide HQ0) (unhide HZ1) (unhide HBQ) (by simp; omega) ?_
          intro v9 w9 hq9 hf9'
          replace hq9 : Rq w.heap.size P w9 v9 (L.drop k) := hq9
          obtain ⟨v9o, v9c, rfl⟩ := hq9.val
          have hdl : (L.drop k).length = L.length - k := List.length_drop
          rw [hdl] at hq9 ⊢
          have hb9 : Below w.heap.size w w9 := (unhide HB6).trans (hf9'.below (fun g hg => (unhide HQ0).lt g hg |>.1) (unhide HZ1))
          have hjx := (unhide Hj).later hb9
          have hS9 : w9.cell? ⟨J, 1, none⟩ = some (.int .i64 (b : Int)) := hjx.c1
          obtain ⟨lv9, l9, _⟩ := hjx.c3
          have fz9 := hjx.fz 3
          refine hK.out _ _ hS9 (fun _ => ?_)
          clear hK K hS
          have hS := hS9
          have hjW := (unhide Hj).newL hb9 hq9 (fun k hk => .inl hk)
          have hfW := (Fr.of (S := fun k => k = J) hb9).set (p := ⟨J, 3, none⟩) rfl (.slice v9o (L.length - k) v9c)
          have HjW := hide hjW
          have HfW := hide hfW
          clear hjW hfW hq9 hf9' hb9 hjx HQ0 HZ1 HBQ HB6 hdl
          refine held_take 14 109 rfl rfl (by kernel_rfl) (by kernel_rfl) (by kernel_rfl) (fun _ _ _ h => h) (by rfl) hS (v := ?_) ?_ ?_
          rotate_left
          · intro y hSy
            clear hSy
            go_simp
            with_reducible rfl
          simp only [Act.put, List.setIfInBounds_toArray, List.set_cons_zero, List.set_cons_succ]
          refine held_take 15 110 rfl rfl (by kernel_rfl) (by kernel_rfl) (by kernel_rfl) (fun _ _ _ h => h) (by rfl) hS (v := ?_) ?_ ?_
          rotate_left
          · intro y hSy
            clear hSy
            go_simp
            with_reducible rfl
          simp only [Act.put, List.setIfInBounds_toArray, List.set_cons_zero, List.set_cons_succ]
          refine wpAnyH_ready (rs := [16]) (by kernel_rfl) (by simp) ?_
          refine AllReadyH.cons rfl (fun K hK => ?_) AllReadyH.nil
          go_simp
          refine hK.out _ _ (jcell w9 J 3 1 _ _ (by decide) hS9) (fun _ => ?_)
          clear hK K hS
          refine wpAnyH_done (by kernel_rfl) ?_ _
          have hjW := unhide HjW
          have hfW := unhide HfW
          have hPW : ∀ q, (P q ∨ (w.heap.size ≤ q ∧ q < w9.heap.size)) → P q ∨ w.heap.size ≤ q := fun q hq => hq.imp id (fun h => h.1)
          clear HjW HfW hS9 l9 fz9
          generalize (w9.setCell ⟨J, 3, none⟩ (.slice v9o (L.length - k) v9c)) = W at *
          have hlt1 := hjW.c1
          have hlf1 := hjW.fz 1
          have hjW1 := hjW.setB n
          obtain ⟨g2, cc2, W2, hrun2, hb2W, hg2a, hg2b, hsl2⟩ := conv_out (W.setCell ⟨J, 1, none⟩ (.int .i64 (n : Int))) s X (unhide HX) (by omega)
          have hjW2 := hjW1.grow hb2W
          obtain ⟨dv2, hd2c, _⟩ := hjW2.c2
          have hlf2 := hjW2.fz 2
          have hjW3 := hjW2.setD (.slice (some ⟨g2, 0, none⟩) s.length cc2) s hsl2 (fun g hg => by simp only [Value.ownBlock, Option.some.injEq] at hg; exact .inr ⟨by omega, by omega⟩)
          have hfrW3 : Fr (fun k => k = J) w (W2.setCell ⟨J, 2, none⟩ (.slice (some ⟨g2, 0, none⟩) s.length cc2)) := ((hfW.set (p := ⟨J, 1, none⟩) rfl _).trans (Fr.of hb2W)).set (p := ⟨J, 2, none⟩) rfl _
          have HC : Hid (Chd P J M t v o (b, d, L) l w (.returned (.bool true)) (W2.setCell ⟨J, 2, none⟩ (.slice (some ⟨g2, 0, none⟩) s.length cc2))) := .inl ⟨_, _, unhide HO, rfl, hjW3, fun k hk => by
            rcases hk with hk | hk
            · exact hPW k hk
            · right
              have h0 := hfW.size
              have h1 := ((Fr.refl (fun k => k = J) W).set (p := ⟨J, 1, none⟩) rfl (.int .i64 (n : Int))).size
              have h2 := hk.1
              exact Nat.le_trans h0 (Nat.le_trans h1 h2), hfrW3⟩
          clear hjW hjW1 hjW2 hjW3 hfrW3 hfW hPW hb2W hsl2 hg2a hg2b
          go_wp2
          all_goals go_ret
          all_goals exact unhide HC
        · go_simp
          refine hK.out _ _ b1' (fun _ => ?_)
          clear hK K
          refine held_take 12 107 rfl rfl (by kernel_rfl) (by kernel_rfl) (by kernel_rfl) (fun _ _ _ h => h) (by rfl) hS (v := ?_) ?_ ?_
          rotate_left
          · intro y hSy
            clear hSy
            go_simp
            with_reducible rfl
          simp only [Act.put, List.setIfInBounds_toArray, List.set_cons_zero, List.set_cons_succ]
          refine wpAnyH_ready (rs := [1]) (by kernel_rfl) (by simp) ?_
          refine AllReadyH.cons rfl (fun K hK => ?_) AllReadyH.nil
          go_simp
          refine hK.out _ _ C1 (fun _ => ?_)
          clear hK K hS
          have hS := C1
          refine wpAnyH_ready (rs := [13]) (by kernel_rfl) (by simp) ?_
          refine AllReadyH.cons rfl (fun K hK => ?_) AllReadyH.nil
          refine step_append_rq rfl (.tmp 96) (.tmp 107) rfl rfl rfl (unhide HQ0) (unhide HZ1) (unhide HBQ) (by simp; omega) ?_
          intro v9 w9 hq9 hf9'
          replace hq9 : Rq w.heap.size P w9 v9 (L.drop k) := hq9
          obtain ⟨v9o, v9c, rfl⟩ := hq9.val
          have hdl : (L.drop k).length = L.length - k := List.length_drop
          rw [hdl] at hq9 ⊢
          have hb9 : Below w.heap.size w w9 := (unhide HB6).trans (hf9'.below (fun g hg => (unhide HQ0).lt g hg |>.1) (unhide HZ1))
          have hjx := (unhide Hj).later hb9
          have hS9 : w9.cell? ⟨J, 1, none⟩ = some (.int .i64 (b : Int)) := hjx.c1
          obtain ⟨lv9, l9, _⟩ := hjx.c3
          have fz9 := hjx.fz 3
          refine hK.out _ _ hS9 (fun _ => ?_)
          clear hK K hS
          have hS := hS9
          have hjW := (unhide Hj).newL hb9 hq9 (fun k hk => .inl hk)
          have hfW := (Fr.of (S := fun k => k = J) hb9).set (p := ⟨J, 3, none⟩) rfl (.slice v9o (L.length - k) v9c)
          have HjW := hide hjW
          have HfW := hide hfW
          clear hjW hfW hq9 hf9' hb9 hjx HQ0 HZ1 HBQ HB6 hdl
          refine held_take 14 109 rfl rfl (by kernel_rfl) (by kernel_rfl) (by kernel_rfl) (fun _ _ _ h => h) (by rfl) hS (v := ?_) ?_ ?_
          rotate_left
          · intro y hSy
            clear hSy
            go_simp
            with_reducible rfl
          simp only [Act.put, List.setIfInBounds_toArray, List.set_cons_zero, List.set_cons_succ]
          refine held_take 15 110 rfl rfl (by kernel_rfl) (by kernel_rfl) (by kernel_rfl) (fun _ _ _ h => h) (by rfl) hS (v := ?_) ?_ ?_
          rotate_left
          · intro y hSy
            clear hSy
            go_simp
            with_reducible rfl
          simp only [Act.put, List.setIfInBounds_toArray, List.set_cons_zero, List.set_cons_succ]
          refine wpAnyH_ready (rs := [16]) (by kernel_rfl) (by simp) ?_
          refine AllReadyH.cons rfl (fun K hK => ?_) AllReadyH.nil
          go_simp
          refine hK.out _ _ (jcell w9 J 3 1 _ _ (by decide) hS9) (fun _ => ?_)
          clear hK K hS
          refine wpAnyH_done (by kernel_rfl) ?_ _
          have hjW := unhide HjW
          have hfW := unhide HfW
          have hPW : ∀ q, (P q ∨ (w.heap.size ≤ q ∧ q < w9.heap.size)) → P q ∨ w.heap.size ≤ q := fun q hq => hq.imp id (fun h => h.1)
          clear HjW HfW hS9 l9 fz9
          generalize (w9.setCell ⟨J, 3, none⟩ (.slice v9o (L.length - k) v9c)) = W at *
          have hlt1 := hjW.c1
          have hlf1 := hjW.fz 1
          have hjW1 := hjW.setB n
          obtain ⟨g2, cc2, W2, hrun2, hb2W, hg2a, hg2b, hsl2⟩ := conv_out (W.setCell ⟨J, 1, none⟩ (.int .i64 (n : Int))) s X (unhide HX) (by omega)
          have hjW2 := hjW1.grow hb2W
          obtain ⟨dv2, hd2c, _⟩ := hjW2.c2
          have hlf2 := hjW2.fz 2
          have hjW3 := hjW2.setD (.slice (some ⟨g2, 0, none⟩) s.length cc2) s hsl2 (fun g hg => by simp only [Value.ownBlock, Option.some.injEq] at hg; exact .inr ⟨by omega, by omega⟩)
          have hfrW3 : Fr (fun k => k = J) w (W2.setCell ⟨J, 2, none⟩ (.slice (some ⟨g2, 0, none⟩) s.length cc2)) := ((hfW.set (p := ⟨J, 1, none⟩) rfl _).trans (Fr.of hb2W)).set (p := ⟨J, 2, none⟩) rfl _
          have HC : Hid (Chd P J M t v o (b, d, L) l w (.returned (.bool true)) (W2.setCell ⟨J, 2, none⟩ (.slice (some ⟨g2, 0, none⟩) s.length cc2))) := .inl ⟨_, _, unhide HO, rfl, hjW3, fun k hk => by
            rcases hk with hk | hk
            · exact hPW k hk
            · right
              have h0 := hfW.size
              have h1 := ((Fr.refl (fun k => k = J) W).set (p := ⟨J, 1, none⟩) rfl (.int .i64 (n : Int))).size
              have h2 := hk.1
              exact Nat.le_trans h0 (Nat.le_trans h1 h2), hfrW3⟩
          clear hjW hjW1 hjW2 hjW3 hfrW3 hfW hPW hb2W hsl2 hg2a hg2b
          go_wp2
          all_goals go_ret
          all_goals exact unhide HC
  · have HCN : Hid (chOf l = none) := (unhide Hch).trans (if_neg hok)
    have hbb : (!((false || er != 0) || er2 != 0) && decide (r3 = [])) = false := by
      by_cases h1 : er = 0
      · by_cases h2 : er2 = 0
        · have h3 : ¬ r3 = [] := fun e => hok ⟨h1, h2, e⟩
          simp [h3]
        · simp [h2]
      · simp [h1]
    have Hbb := hide hbb
    have Hr3 := Hr4
    have HB3 := HB4
    clear hok hbb Hch Hr4 HB4
    go_wp2_with fail
    refine (rr_end_b (unhide Hr3) hl false (unhide Hbb)).mono ?_
    rintro e w4 ⟨rfl, hb4⟩
    have HB4 := hide ((unhide HB3).trans (hb4.mono (unhide HB3).size))
    have HN : Hid (one l (b, d, L) = none) := one_none (unhide HCN)
    clear hb4
    go_wp2
    go_ret
    exact .inr ⟨unhide HN, rfl, unhide HB4⟩

theorem change_any {P : Nat → Prop} (J M t v o : Nat) (st : St) (x : Value) (l : List UInt8) (w : World) (h : Rj P w J M t v o st) (hs : Sl w x l) (hl : l.length ≤ 1099511627776) (hL : st.2.2.length ≤ 1099511627776) (hb : st.1 ≤ 1099511627776) :
    Calls Try.prog 49 #[.pointer (some ⟨J, 0, none⟩), x] w (Chd P J M t v o st l w) := by
  obtain ⟨b, d, L⟩ := st
  obtain ⟨ao, c, rfl, _⟩ := id hs
  rcases rd_kind l with ⟨k, r, h1, h3, e3, e40⟩ | ⟨h0, hn⟩
  · rcases (by omega : k = 1 ∨ k = 2 ∨ k = 3) with rfl | rfl | rfl
    · exact change_one J M t v o b d L ao c l w h hs hl hL r e3 e40
    · exact change_two J M t v o b d L ao c l w h hs hl hL r e3 e40
    · exact change_three J M t v o b d L ao c l w h hs hl hL hb r e3 e40
  · exact change_none J M t v o b d L ao c l w h hs hl h0 hn

end Go.Proofs.Yteanjnkfoddfmaa
