/-
  Contracts of disk's Dirty, fileLeft and Crash. No law is proved here.
-/
import Derived.Test.YtdhjogfalkmggaaOps
import Derived.Test.YtdhjogfalkmggaaLater
namespace Go.Proofs.Ytdhjogfalkmggaa
open Go.RowKit
set_option linter.unusedVariables false

/-- Is something now that is not safe? -/
def dirt (nf nc sf sc : List UInt8) : Bool := !(nf == sf) || !(nc == sc)

theorem dirt_self (nf nc : List UInt8) : dirt nf nc nf nc = false := by simp [dirt]

section
set_option maxRecDepth 100000
variable {S : Nat → Prop}

theorem xor1 (b : UInt8) : bits BinOp.xor IntKind.u8 (b.toNat : Int) 1 = ((b ^^^ 1).toNat : Int) := by
  have h : ∀ n : Fin 256, bits BinOp.xor IntKind.u8 ((UInt8.ofNat n.1).toNat : Int) 1 = (((UInt8.ofNat n.1) ^^^ 1).toNat : Int) := by decide +kernel
  have := h ⟨b.toNat, b.toNat_lt⟩
  simpa using this

theorem bc_set (l : List UInt8) (j : Nat) (x : UInt8) : bc (l.set j x) = (bc l).set j (.int .u8 (x.toNat : Int)) := by
  simp [bc, List.map_set]

/-- The last byte of a row of one's own is turned. -/
theorem flip_last {B g n : Nat} {X : List UInt8} {w : World} (ho : Own B w (.slice (some ⟨g, 0, none⟩) n n) X) (hn : X.length = n) (h0 : 0 < n) :
    w.cell? ⟨g, n - 1, none⟩ = some (.int .u8 ((X.getD (X.length - 1) 0).toNat : Int)) ∧ w.frozen? ⟨g, n - 1, none⟩ = false ∧
      Own B (w.setCell ⟨g, n - 1, none⟩ (.int .u8 ((X.getD (X.length - 1) 0 ^^^ 1).toNat : Int))) (.slice (some ⟨g, 0, none⟩) n n) (flp X) ∧
      w.grownBy (w.setCell ⟨g, n - 1, none⟩ (.int .u8 ((X.getD (X.length - 1) 0 ^^^ 1).toNat : Int))) (some g) := by
  subst hn
  have hc := World.ownsRow.cellAt ho (X.length - 1) (by omega)
  rw [bc_get, List.getElem?_eq_getElem (by omega)] at hc
  have hf := World.ownsRow.frozenAt ho (X.length - 1)
  have hst := World.ownsRow.stored ho (X.length - 1) (.int .u8 ((X.getD (X.length - 1) 0 ^^^ 1).toNat : Int))
  refine ⟨?_, hf, ?_, hst.2⟩
  · rw [hc]
    simp [List.getD, List.getElem?_eq_getElem (show X.length - 1 < X.length by omega)]
  · unfold Own flp
    rw [bc_set, List.length_set]
    exact hst.1

theorem dirty_ok (B : Nat) (nf nc sf sc : List UInt8) (w : World) (h : Dk S w B nf nc sf sc) :
    Calls Try.prog 22 #[.pointer (some ⟨B, 0, none⟩)] w fun e w' => e = .returned (.bool (dirt nf nc sf sc)) ∧ Below w.heap.size w w' := by
  obtain ⟨v0, v1, v2, v3, hq, hg⟩ := h
  have e1 := hide (fun i : Later w => equal_any v0 v2 nf sf i.val (hq.s0.later i.below) (hq.s2.later i.below))
  have e2 := hide (fun i : Later w => equal_any v1 v3 nc sc i.val (hq.s1.later i.below) (hq.s3.later i.below))
  unfold dirt
  generalize (nf == sf) = p at *
  generalize (nc == sc) = q at *
  obtain ⟨ao, cp, rfl, _, hcp, _⟩ := id hq.s0
  obtain ⟨bo, dp, rfl, _, hdp, _⟩ := id hq.s1
  obtain ⟨xo, xp, rfl, _, hxp, _⟩ := id hq.s2
  obtain ⟨yo, yp, rfl, _, hyp, _⟩ := id hq.s3
  have C0 := fun i : Later w => i.cell hq.c0
  have C1 := fun i : Later w => i.cell hq.c1
  have C2 := fun i : Later w => i.cell hq.c2
  have C3 := fun i : Later w => i.cell hq.c3
  have inst : Nonempty (Later w) := ⟨⟨w, Below.refl _ _⟩⟩
  clear hq hg
  cases p
  all_goals
    go_enter Try.func22, Try.ntmps22
    go_wp2_with fail
    refine wp_region_later (by kernel_rfl) (by kernel_rfl) ?_
    repeat (first
      | go_big_quiet_step ((go_at_call 28; with_reducible exact calls_later (unhide e1 _)))
      | go_big_quiet_step ((go_at_call 28; with_reducible exact calls_later (unhide e2 _)))
      | quiet_step (fail))
    refine wpQuiet_nil ?_
    intro w' hw'
    obtain ⟨i, rfl⟩ := hw'
    go_wp2
    go_ret
    exact ⟨rfl, i.below⟩

set_option maxHeartbeats 2000000 in
theorem left_ok (B : Nat) (nf nc sf sc : List UInt8) (keep : Int) (torn : Bool) (w : World) (h : Dk S w B nf nc sf sc) (hk : keep ≤ 9223372036854775807) :
    Calls Try.prog 26 #[.pointer (some ⟨B, 0, none⟩), .int .i64 keep, .bool torn] w fun e w' =>
      ∃ g n, e = .returned (.slice (some ⟨g, 0, none⟩) n n) ∧ Own w.heap.size w' (.slice (some ⟨g, 0, none⟩) n n) (left sf nf keep torn) ∧ Below w.heap.size w w' := by
  obtain ⟨v0, v1, v2, v3, hq, hg⟩ := h
  have hc := hide (fun i : Later w => common_any v2 v0 sf nf i.val (hq.s2.later i.below) (hq.s0.later i.below) (by have := hq.b2; omega) (by have := hq.b0; omega))
  have s0 := hide hq.s0
  have s2 := hide hq.s2
  have b0 := hq.b0
  have b2 := hq.b2
  obtain ⟨ao, cp, rfl, hcn, hcp, _⟩ := id hq.s0
  obtain ⟨xo, xp, rfl, hxn, hxp, _⟩ := id hq.s2
  unfold maxLen at hcp hxp
  have C0 := fun i : Later w => i.cell hq.c0
  have C2 := fun i : Later w => i.cell hq.c2
  have c2 := hq.c2
  have inst : Nonempty (Later w) := ⟨⟨w, Below.refl _ _⟩⟩
  clear hq hg
  by_cases h1 : keep < 1
  · have e : left sf nf keep torn = sf := by unfold left; rw [if_pos h1]
    rw [e]
    clear hc C0 C2
    go_enter Try.func26, Try.ntmps26
    go_wp2_with fail
    refine (copied_any _ sf _ (unhide s2) (by omega)).mono ?_
    rintro e w1 ⟨rfl, ho, hw⟩
    have Ho := hide ho
    have Hw := hide hw
    clear ho hw
    go_wp2
    go_ret
    exact ⟨_, _, rfl, unhide Ho, unhide Hw⟩
  · have cr := cmn_right sf nf
    obtain ⟨m, hm⟩ : ∃ m, Hid (more sf nf keep = m) := ⟨_, hide rfl⟩
    have hL : Hid (left sf nf keep torn = if torn = true ∧ 0 < m then flp (nf.take (cmn sf nf + m)) else nf.take (cmn sf nf + m)) := by
      show _ = _
      unfold left
      rw [if_neg h1, unhide hm]
    have hmI : Hid ((m : Int) = min keep ((nf.length : Int) - (cmn sf nf : Int))) := by
      show _ = _
      rw [← unhide hm]
      unfold more
      omega
    generalize cmn sf nf = c at *
    go_enter Try.func26, Try.ntmps26
    go_wp2_with fail
    refine wp_region_later (by kernel_rfl) (by kernel_rfl) ?_
    repeat (first
      | go_big_quiet_step ((go_at_call 29; with_reducible exact calls_later (unhide hc _)))
      | quiet_step (fail))
    refine wpQuiet_nil ?_
    intro w' hw'
    obtain ⟨i, rfl⟩ := hw'
    have c0 := C0 i
    have s0' := hide ((unhide s0).later i.below)
    have hB := hide i.below
    have k1 : 1 ≤ keep := by omega
    generalize i.val = W at *
    clear C0 C2 hc s0 s2 c2 h1
    by_cases hsm : keep ≤ (nf.length : Int) - (c : Int)
    · obtain ⟨mm, rfl⟩ : ∃ mm : Nat, keep = mm := ⟨keep.toNat, by omega⟩
      obtain rfl : m = mm := by have := unhide hmI; omega
      have hle : c + m ≤ nf.length := by omega
      have ht : ((c : Int) + (m : Int)).toNat = c + m := by omega
      have Hs := hide ((unhide s0').take (c + m) hle cp (by omega) (Nat.le_refl _))
      have hlen : (nf.take (c + m)).length = c + m := by rw [List.length_take]; omega
      obtain ⟨X, hX⟩ : ∃ X, Hid (nf.take (c + m) = X) := ⟨_, hide rfl⟩
      rw [unhide hX] at Hs hlen
      go_wp2_with fail
      refine (copied_any _ X _ (unhide Hs) (by omega)).mono ?_
      rintro e w1 ⟨rfl, ho, hw⟩
      rw [hlen] at ho ⊢
      replace hw := (unhide hB).trans (hw.mono (unhide hB).size)
      replace ho := ho.mono (unhide hB).size
      obtain ⟨g, hgg⟩ : ∃ g, Hid (g = W.heap.size) := ⟨_, hide rfl⟩
      rw [← unhide hgg] at ho ⊢
      cases torn
      · have hL' : Hid (left sf nf (m : Int) false = X) := by
          show _ = _
          rw [unhide hL, ← unhide hX]
          rfl
        have Ho := hide ho
        have Hw := hide hw
        clear ho hw
        go_wp2
        go_ret
        rw [unhide hL']
        exact ⟨_, _, rfl, unhide Ho, unhide Hw⟩
      · by_cases hm0 : 0 < m
        · have hL' : Hid (left sf nf (m : Int) true = flp X) := by
            show _ = _
            rw [unhide hL, ← unhide hX, if_pos ⟨rfl, hm0⟩]
          obtain ⟨hcb, hfz, ho', hgr⟩ := flip_last ho hlen (by omega)
          have Ho := hide ho'
          have Hw := hide (hw.setCell (p := ⟨g, c + m - 1, none⟩) (World.ownsRow.lt ho g rfl).1 (.int .u8 ((X.getD (X.length - 1) 0 ^^^ 1).toNat : Int)))
          clear ho hw ho' hgr
          obtain ⟨b, hb⟩ : ∃ b, Hid (X.getD (X.length - 1) 0 = b) := ⟨_, hide rfl⟩
          rw [unhide hb] at hcb Ho Hw
          have hxb := xor1 b
          go_wp2
          go_ret
          rw [unhide hL']
          exact ⟨_, _, rfl, unhide Ho, unhide Hw⟩
        · exfalso
          clear hw ho
          omega
    · have hsub : (nf.length : Int) - (c : Int) = (m : Int) := by have := unhide hmI; omega
      have hmk : (m : Int) < keep := by omega
      clear hsm
      have hle : c + m ≤ nf.length := by omega
      have ht : ((c : Int) + (m : Int)).toNat = c + m := by omega
      have Hs := hide ((unhide s0').take (c + m) hle cp (by omega) (Nat.le_refl _))
      have hlen : (nf.take (c + m)).length = c + m := by rw [List.length_take]; omega
      obtain ⟨X, hX⟩ : ∃ X, Hid (nf.take (c + m) = X) := ⟨_, hide rfl⟩
      rw [unhide hX] at Hs hlen
      go_wp2_with fail
      refine (copied_any _ X _ (unhide Hs) (by omega)).mono ?_
      rintro e w1 ⟨rfl, ho, hw⟩
      rw [hlen] at ho ⊢
      replace hw := (unhide hB).trans (hw.mono (unhide hB).size)
      replace ho := ho.mono (unhide hB).size
      obtain ⟨g, hgg⟩ : ∃ g, Hid (g = W.heap.size) := ⟨_, hide rfl⟩
      rw [← unhide hgg] at ho ⊢
      cases torn
      · have hL' : Hid (left sf nf keep false = X) := by
          show _ = _
          rw [unhide hL, ← unhide hX]
          rfl
        have Ho := hide ho
        have Hw := hide hw
        clear ho hw
        go_wp2
        go_ret
        rw [unhide hL']
        exact ⟨_, _, rfl, unhide Ho, unhide Hw⟩
      · by_cases hm0 : 0 < m
        · have hL' : Hid (left sf nf keep true = flp X) := by
            show _ = _
            rw [unhide hL, ← unhide hX, if_pos ⟨rfl, hm0⟩]
          obtain ⟨hcb, hfz, ho', hgr⟩ := flip_last ho hlen (by omega)
          have Ho := hide ho'
          have Hw := hide (hw.setCell (p := ⟨g, c + m - 1, none⟩) (World.ownsRow.lt ho g rfl).1 (.int .u8 ((X.getD (X.length - 1) 0 ^^^ 1).toNat : Int)))
          clear ho hw ho' hgr
          obtain ⟨b, hb⟩ : ∃ b, Hid (X.getD (X.length - 1) 0 = b) := ⟨_, hide rfl⟩
          rw [unhide hb] at hcb Ho Hw
          have hxb := xor1 b
          go_wp2
          go_ret
          rw [unhide hL']
          exact ⟨_, _, rfl, unhide Ho, unhide Hw⟩
        · have hm1 : m = 0 := by omega
          have hL' : Hid (left sf nf keep true = X) := by
            show _ = _
            rw [unhide hL, ← unhide hX, if_neg (by omega)]
          have Ho := hide ho
          have Hw := hide hw
          clear ho hw
          go_wp2
          go_ret
          rw [unhide hL']
          have Ho' := unhide Ho
          simp only [hm1, Nat.add_zero] at Ho'
          exact ⟨_, _, rfl, Ho', unhide Hw⟩
end

end Go.Proofs.Ytdhjogfalkmggaa
