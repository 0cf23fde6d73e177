/-
  The document's own answers: wampumref06's file and Crash. No law is proved here.
-/
import Derived.Test.YtdhjogfalkmggaaRef
namespace Go.Proofs.Ytdhjogfalkmggaa
open Go.RowKit
set_option linter.unusedVariables false

section
set_option maxRecDepth 100000
variable {T : Nat → Prop}

set_option maxHeartbeats 2000000 in
theorem reffile_ok (M : Nat) (nf nc sf sc : List UInt8) (keep : Int) (torn : Bool) (w : World) (h : Rk T w M nf nc sf sc) (hT : ∀ k, w.heap.size ≤ k → T k) (hk0 : -9223372036854775808 ≤ keep) (hk : keep ≤ 9223372036854775807) :
    Calls Try.prog 27 #[.pointer (some ⟨M, 0, none⟩), .int .i64 keep, .bool torn] w fun e w' =>
      ∃ ao n c, e = .returned (.slice ao n c) ∧ Sl w' (.slice ao n c) (left sf nf keep torn) ∧ (∀ g, (Value.slice ao n c).ownBlock = some g → T g ∧ g < w'.heap.size) ∧ Below w.heap.size w w' := by
  obtain ⟨v0, v1, v2, v3, hq⟩ := h
  have hc := hide (fun i : Later w => refcommon_any v0 v1 sf nf i.val (hq.s0.later i.below) (hq.s1.later i.below) (by have := hq.b0; omega) (by have := hq.b1; omega))
  have HQ := hide (fun y (hy : Below w.heap.size w y) => hq.frame (w' := y) hy.size (fun k hk _ => hy.block k hk))
  have b0 := hq.b0
  have b1 := hq.b1
  obtain ⟨xo, xp, rfl, hxn, hxp, _⟩ := id hq.s0
  obtain ⟨ao, cp, rfl, hcn, hcp, _⟩ := id hq.s1
  unfold maxLen at hcp hxp
  have C0 := fun i : Later w => i.cell hq.c0
  have C1 := fun i : Later w => i.cell hq.c1
  have inst : Nonempty (Later w) := ⟨⟨w, Below.refl _ _⟩⟩
  have cr := cmn_right sf nf
  have cl := cmn_left sf nf
  have ct := hide (cmn_take sf nf)
  clear hq
  obtain ⟨m, hm⟩ : ∃ m, Hid (more sf nf keep = m) := ⟨_, hide rfl⟩
  have hmI : Hid (m = min keep.toNat (nf.length - cmn sf nf)) := hide (by rw [← unhide hm]; rfl)
  have hL0 : Hid (left sf nf keep torn = if keep < 1 then sf else if torn = true ∧ 0 < m then flp (nf.take (cmn sf nf + m)) else nf.take (cmn sf nf + m)) := by
    show _ = _
    unfold left
    rw [unhide hm]
  generalize cmn sf nf = c at *
  go_enter Try.func27, Try.ntmps27
  go_wp2_with fail
  refine wp_region_later (by kernel_rfl) (by kernel_rfl) ?_
  repeat (first
    | go_big_quiet_step ((go_at_call 30; with_reducible exact calls_later (unhide hc _)))
    | quiet_step (fail))
  refine wpQuiet_nil ?_
  intro w' hw'
  obtain ⟨i, rfl⟩ := hw'
  have d0 := C0 i
  have C1 := C1 i
  have HB := hide i.below
  generalize i.val = W at *
  clear C0 hc inst
  by_cases hcn' : c = nf.length
  · have hce : ((c : Int) == (nf.length : Int)) = true := by rw [hcn']; simp
    by_cases h1 : keep < 1
    · have e : Hid (left sf nf keep torn = sf) := by show _ = _; rw [unhide hL0, if_pos h1]
      have Hs := hide ((unhide HQ _ (unhide HB)).s0)
      have Hi := hide ((unhide HQ _ (unhide HB)).i0)
      clear hcn'
      go_wp2
      go_ret
      rw [unhide e]
      exact ⟨_, _, _, rfl, unhide Hs, fun g hg => ⟨(unhide Hi g hg).1, (unhide Hi g hg).2.1⟩, unhide HB⟩
    · have e : Hid (left sf nf keep torn = nf) := by
        show _ = _
        have hm0 : m = 0 := by have := unhide hmI; omega
        rw [unhide hL0, if_neg h1, if_neg (by omega), hm0, hcn', Nat.add_zero, List.take_length]
      have Hs := hide ((unhide HQ _ (unhide HB)).s1)
      have Hi := hide ((unhide HQ _ (unhide HB)).i1)
      clear hcn'
      go_wp2
      go_ret
      rw [unhide e]
      exact ⟨_, _, _, rfl, unhide Hs, fun g hg => ⟨(unhide Hi g hg).1, (unhide Hi g hg).2.1⟩, unhide HB⟩
  · have hce : ((c : Int) == (nf.length : Int)) = false := by
      rw [beq_eq_false_iff_ne]
      omega
    have hclt : c < nf.length := by omega
    clear hcn'
    by_cases h1 : keep < 1
    · by_cases h2 : c < sf.length
      · have e : Hid (left sf nf keep torn = sf) := by show _ = _; rw [unhide hL0, if_pos h1]
        have Hs := hide ((unhide HQ _ (unhide HB)).s0)
        have Hi := hide ((unhide HQ _ (unhide HB)).i0)
        have h2I : (c : Int) < (sf.length : Int) := by omega
        go_wp2
        go_ret
        rw [unhide e]
        exact ⟨_, _, _, rfl, unhide Hs, fun g hg => ⟨(unhide Hi g hg).1, (unhide Hi g hg).2.1⟩, unhide HB⟩
      · have h2I : ¬ (c : Int) < (sf.length : Int) := by omega
        have e : Hid (left sf nf keep torn = sf) := by show _ = _; rw [unhide hL0, if_pos h1]
        have ex : nf.take c = sf := by
          have := unhide ct
          rw [← this, List.take_of_length_le (by omega)]
        have hcs : c = sf.length := by omega
        have hb1 := below_new W (.cells #[] 5)
        have D1 := (unhide HQ _ ((unhide HB).alloc (unhide HB).size (.cells #[] 5))).c1
        have S1 := ((unhide HQ _ (unhide HB)).s1.later hb1).take c (by omega) cp (by omega) (Nat.le_refl _)
        rw [ex] at S1
        replace S1 := hide S1
        have hl0 := Own.lit0 W
        have HB1 := hide hb1
        have hsc : c ≤ 16777216 := by omega
        have hcn2 : (0 : Int) < (nf.length : Int) - (c : Int) := by omega
        clear hb1 ex hL0 hm hmI ct hcs
        by_cases h3 : keep < 0
        · go_wp2_with (at_builtin; refine wpList_append_ob _ rfl (.tmp 61) (.tmp 69) rfl W.heap.size _ _ [] sf (by simp) hl0 rfl rfl (unhide S1) (by simp; omega) ?_)
          intro v5 w1 ho hbb
          obtain ⟨po, pc, rfl⟩ := ho.val
          have Hw := hide ((unhide HB).trans (((unhide HB1).trans hbb).mono (unhide HB).size))
          have Ho := hide (ho.mono (unhide HB).size)
          clear hl0 S1 HB1 D1 hbb C1 ho
          cases torn
          all_goals
            go_wp2
            go_ret
            rw [unhide e]
            exact ⟨_, _, _, rfl, (unhide Ho).sl, fun g hg => ⟨hT g (World.ownsRow.lt (unhide Ho) g hg).1, (World.ownsRow.lt (unhide Ho) g hg).2⟩, unhide Hw⟩
        · obtain rfl : keep = 0 := by omega
          clear h1 h3
          go_wp2_with (at_builtin; refine wpList_append_ob _ rfl (.tmp 61) (.tmp 69) rfl W.heap.size _ _ [] sf (by simp) hl0 rfl rfl (unhide S1) (by simp; omega) ?_)
          intro v5 w1 ho hbb
          obtain ⟨po, pc, rfl⟩ := ho.val
          have Hw := hide ((unhide HB).trans (((unhide HB1).trans hbb).mono (unhide HB).size))
          have Ho := hide (ho.mono (unhide HB).size)
          clear hl0 S1 HB1 D1 hbb C1 ho
          cases torn
          all_goals
            go_wp2
            go_ret
            rw [unhide e]
            exact ⟨_, _, _, rfl, (unhide Ho).sl, fun g hg => ⟨hT g (World.ownsRow.lt (unhide Ho) g hg).1, (World.ownsRow.lt (unhide Ho) g hg).2⟩, unhide Hw⟩
    · have h1' : 1 ≤ keep := by omega
      have hL : Hid (left sf nf keep torn = if torn = true ∧ 0 < m then flp (nf.take (c + m)) else nf.take (c + m)) := by show _ = _; rw [unhide hL0, if_neg h1]
      have hm0 : 0 < m := by have := unhide hmI; omega
      have h1I : ¬ keep < 1 := h1
      clear h1 hL0
      by_cases hsm : keep ≤ (nf.length : Int) - (c : Int)
      · obtain ⟨mm, rfl⟩ : ∃ mm : Nat, keep = mm := ⟨keep.toNat, by omega⟩
        obtain rfl : m = mm := by have := unhide hmI; omega
        have hle : c + m ≤ nf.length := by omega
        have ht : ((c : Int) + (m : Int)).toNat = c + m := by omega
        have hb1 := below_new W (.cells #[] 5)
        have D1 := (unhide HQ _ ((unhide HB).alloc (unhide HB).size (.cells #[] 5))).c1
        have S1 := hide (((unhide HQ _ (unhide HB)).s1.later hb1).take (c + m) hle cp (by omega) (Nat.le_refl _))
        have hlen : (nf.take (c + m)).length = c + m := by rw [List.length_take]; omega
        obtain ⟨X, hX⟩ : ∃ X, Hid (nf.take (c + m) = X) := ⟨_, hide rfl⟩
        rw [unhide hX] at S1 hlen
        have hl0 := Own.lit0 W
        have HB1 := hide hb1
        clear hb1
        go_wp2_with (at_builtin; refine wpList_append_ob _ rfl (.tmp 61) (.tmp 69) rfl W.heap.size _ _ [] X (by simp) hl0 rfl rfl (unhide S1) (by simp; omega) ?_)
        intro v5 w1 ho hbb
        obtain ⟨po, pc, rfl⟩ := ho.val
        rw [hlen] at ho ⊢
        have hw := (unhide HB).trans (((unhide HB1).trans hbb).mono (unhide HB).size)
        replace ho := ho.mono (unhide HB).size
        clear hl0 S1 HB1 D1 hbb C1
        cases torn
        · have hL' : Hid (left sf nf (m : Int) false = X) := by
            show _ = _
            rw [unhide hL]
            exact unhide hX
          have Ho := hide ho
          have Hw := hide hw
          clear ho hw
          go_wp2
          go_ret
          rw [unhide hL']
          exact ⟨_, _, _, rfl, (unhide Ho).sl, fun g hg => ⟨hT g (World.ownsRow.lt (unhide Ho) g hg).1, (World.ownsRow.lt (unhide Ho) g hg).2⟩, unhide Hw⟩
        · have hL' : Hid (left sf nf (m : Int) true = flp X) := by
            show _ = _
            rw [unhide hL, ← unhide hX, if_pos ⟨rfl, hm0⟩]
          obtain ⟨g, cap, hrow⟩ := row_form ho (by omega)
          rw [hlen] at hrow
          rw [hrow] at ho ⊢
          clear hrow
          obtain ⟨x, hx⟩ : ∃ x, X[c + m - 1]? = some x := ⟨X[c + m - 1]'(by omega), List.getElem?_eq_getElem _⟩
          obtain ⟨hcb, hfz, ho', hgr⟩ := put_row ho (c + m - 1) (by omega) hlen x (x ^^^ 1) hx
          have ef : X.set (c + m - 1) (x ^^^ 1) = flp X := by
            unfold flp
            rw [hlen]
            simp [List.getD, hx]
          rw [ef] at ho'
          have Ho := hide ho'
          have Hw := hide (hw.setCell (p := ⟨g, c + m - 1, none⟩) (World.ownsRow.lt ho g rfl).1 (.int .u8 ((x ^^^ 1).toNat : Int)))
          clear ho hw ho' hgr ef hx
          have hxb := xor1 x
          go_wp2
          go_ret
          rw [unhide hL']
          exact ⟨_, _, _, rfl, (unhide Ho).sl, fun g hg => ⟨hT g (World.ownsRow.lt (unhide Ho) g hg).1, (World.ownsRow.lt (unhide Ho) g hg).2⟩, unhide Hw⟩
      · have hsub : (nf.length : Int) - (c : Int) = (m : Int) := by have := unhide hmI; omega
        have hmk : (m : Int) < keep := by omega
        clear hsm
        have hle : c + m ≤ nf.length := by omega
        have ht : ((c : Int) + (m : Int)).toNat = c + m := by omega
        have hb1 := below_new W (.cells #[] 5)
        have D1 := (unhide HQ _ ((unhide HB).alloc (unhide HB).size (.cells #[] 5))).c1
        have S1 := hide (((unhide HQ _ (unhide HB)).s1.later hb1).take (c + m) hle cp (by omega) (Nat.le_refl _))
        have hlen : (nf.take (c + m)).length = c + m := by rw [List.length_take]; omega
        obtain ⟨X, hX⟩ : ∃ X, Hid (nf.take (c + m) = X) := ⟨_, hide rfl⟩
        rw [unhide hX] at S1 hlen
        have hl0 := Own.lit0 W
        have HB1 := hide hb1
        clear hb1
        go_wp2_with (at_builtin; refine wpList_append_ob _ rfl (.tmp 61) (.tmp 69) rfl W.heap.size _ _ [] X (by simp) hl0 rfl rfl (unhide S1) (by simp; omega) ?_)
        intro v5 w1 ho hbb
        obtain ⟨po, pc, rfl⟩ := ho.val
        rw [hlen] at ho ⊢
        have hw := (unhide HB).trans (((unhide HB1).trans hbb).mono (unhide HB).size)
        replace ho := ho.mono (unhide HB).size
        clear hl0 S1 HB1 D1 hbb C1
        cases torn
        · have hL' : Hid (left sf nf keep false = X) := by
            show _ = _
            rw [unhide hL]
            exact unhide hX
          have Ho := hide ho
          have Hw := hide hw
          clear ho hw
          go_wp2
          go_ret
          rw [unhide hL']
          exact ⟨_, _, _, rfl, (unhide Ho).sl, fun g hg => ⟨hT g (World.ownsRow.lt (unhide Ho) g hg).1, (World.ownsRow.lt (unhide Ho) g hg).2⟩, unhide Hw⟩
        · have hL' : Hid (left sf nf keep true = flp X) := by
            show _ = _
            rw [unhide hL, ← unhide hX, if_pos ⟨rfl, hm0⟩]
          obtain ⟨g, cap, hrow⟩ := row_form ho (by omega)
          rw [hlen] at hrow
          rw [hrow] at ho ⊢
          clear hrow
          obtain ⟨x, hx⟩ : ∃ x, X[c + m - 1]? = some x := ⟨X[c + m - 1]'(by omega), List.getElem?_eq_getElem _⟩
          obtain ⟨hcb, hfz, ho', hgr⟩ := put_row ho (c + m - 1) (by omega) hlen x (x ^^^ 1) hx
          have ef : X.set (c + m - 1) (x ^^^ 1) = flp X := by
            unfold flp
            rw [hlen]
            simp [List.getD, hx]
          rw [ef] at ho'
          have Ho := hide ho'
          have Hw := hide (hw.setCell (p := ⟨g, c + m - 1, none⟩) (World.ownsRow.lt ho g rfl).1 (.int .u8 ((x ^^^ 1).toNat : Int)))
          clear ho hw ho' hgr ef hx
          have hxb := xor1 x
          go_wp2
          go_ret
          rw [unhide hL']
          exact ⟨_, _, _, rfl, (unhide Ho).sl, fun g hg => ⟨hT g (World.ownsRow.lt (unhide Ho) g hg).1, (World.ownsRow.lt (unhide Ho) g hg).2⟩, unhide Hw⟩
end

end Go.Proofs.Ytdhjogfalkmggaa
