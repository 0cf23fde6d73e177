/-
  The document's own reader: what its Open, Number answer.
-/
import Derived.Test.YtjeefpibhkngiaaDoorBackMath
import Derived.ProofKit
import Derived.OpenShut
import Derived.BigQuiet
namespace Go.Proofs.YtjeefpibhkngiaaDoor
open Go.RowKit
set_option linter.unusedVariables false

/-- The document's reader at block M: the bytes v, at the place i. -/
def RefRd (w : World) (M : Nat) (v : Value) (i : Nat) (bad : Bool) : Prop := w.heap[M]? = some (.cells #[v, .int .i64 (i : Int), .bool bad] 44 (0, 0))

/-- Nothing but block M has turned. -/
structure Touch (M : Nat) (w w' : World) : Prop where
  os : w'.os = w.os
  tape : w'.tape = w.tape
  output : w'.output = w.output
  size : w'.heap.size = w.heap.size
  block : ∀ k, k ≠ M → w'.heap[k]? = w.heap[k]?

theorem Touch.refl (M : Nat) (w : World) : Touch M w w := ⟨rfl, rfl, rfl, rfl, fun _ _ => rfl⟩
theorem Touch.trans {M : Nat} {a b c : World} (h : Touch M a b) (k : Touch M b c) : Touch M a c :=
  ⟨k.os.trans h.os, k.tape.trans h.tape, k.output.trans h.output, k.size.trans h.size, fun q hq => (k.block q hq).trans (h.block q hq)⟩
theorem Touch.drewN {M : Nat} {a b : World} (h : Touch M a b) (n : Nat) : Touch M a (b.drewN n) := ⟨h.os, h.tape, h.output, h.size, h.block⟩
theorem Touch.setCell {M : Nat} {a b : World} (h : Touch M a b) (j : Nat) (x : Value) : Touch M a (b.setCell ⟨M, j, none⟩ x) :=
  ⟨h.os, h.tape, h.output, by simpa using h.size, fun q hq => (Below.heap_setCell b ⟨M, j, none⟩ x q hq).trans (h.block q hq)⟩
theorem Touch.below {M B : Nat} {w w' : World} (h : Touch M w w') (hB : B ≤ M) : Below B w w' :=
  ⟨h.os, h.tape, h.output, by rw [h.size]; exact Nat.le_refl _, fun k hk => h.block k (by omega)⟩

theorem RefRd.cells {w : World} {M : Nat} {v : Value} {i : Nat} {bad : Bool} (h : RefRd w M v i bad) :
    w.cell? ⟨M, 0, none⟩ = some v ∧ w.cell? ⟨M, 1, none⟩ = some (.int .i64 (i : Int)) ∧ w.cell? ⟨M, 2, none⟩ = some (.bool bad) ∧ (∀ j, w.frozen? ⟨M, j, none⟩ = false) := by
  unfold RefRd at h
  refine ⟨?_, ?_, ?_, fun j => ?_⟩
  · rw [cell_of_row w M 0 _ _ _ h]; rfl
  · rw [cell_of_row w M 1 _ _ _ h]; rfl
  · rw [cell_of_row w M 2 _ _ _ h]; rfl
  · simp [World.frozen?, h]

theorem RefRd.lt {w : World} {M : Nat} {v : Value} {i : Nat} {bad : Bool} (h : RefRd w M v i bad) : M < w.heap.size := (Array.getElem?_eq_some_iff.1 h).1

theorem RefRd.set1 {w : World} {M : Nat} {v : Value} {i : Nat} {bad : Bool} (h : RefRd w M v i bad) (j : Nat) : RefRd (w.setCell ⟨M, 1, none⟩ (.int .i64 (j : Int))) M v j bad := by
  unfold RefRd at h ⊢
  simp [World.setCell, Array.getElem?_modify, h]

theorem RefRd.set2 {w : World} {M : Nat} {v : Value} {i : Nat} {bad : Bool} (h : RefRd w M v i bad) (b : Bool) : RefRd (w.setCell ⟨M, 2, none⟩ (.bool b)) M v i b := by
  unfold RefRd at h ⊢
  simp [World.setCell, Array.getElem?_modify, h]

theorem Sl.touch {w w' : World} {M i : Nat} {u v : Value} {bad : Bool} {l : List UInt8} (h : Sl w v l) (ht : Touch M w w') (hm : RefRd w M u i bad) (hu : ∃ ao n c, u = .slice ao n c) : Sl w' v l := by
  obtain ⟨ao, c, rfl, h1, h2, h3, h4⟩ := h
  refine ⟨ao, c, rfl, h1, h2, h3, fun a ha j x hx => ?_⟩
  have hc := h4 a ha j x hx
  have hne : (a.add j).block ≠ M := by
    intro e
    have hsp := World.cell?_spot hc
    obtain ⟨ao', n', c', rfl⟩ := hu
    have hx' : ∃ b : UInt8, x = .int .u8 (b.toNat : Int) := by
      rw [bc_get] at hx
      cases hl : l[j]? with
      | none => rw [hl] at hx; cases hx
      | some b => rw [hl] at hx; cases hx; exact ⟨b, rfl⟩
    obtain ⟨y, rfl⟩ := hx'
    generalize a.add j = q at *
    obtain ⟨b, o, sp⟩ := q
    simp only at e hsp
    subst e hsp
    rw [cell_of_row w b o _ _ _ hm] at hc
    match o, hc with
    | 0, hc => simp at hc
    | 1, hc => simp at hc
    | 2, hc => simp at hc
    | o + 3, hc => simp at hc
  rw [World.cell?_of_block (w := w) (ht.block _ hne)]
  exact hc

set_option maxRecDepth 100000 in
theorem refopen_any (ao : Option Addr) (n c : Nat) (w : World) :
    Calls Tryd.prog 24 #[.slice ao n c] w fun e w' => ∃ M, e = .returned (.pointer (some ⟨M, 0, none⟩)) ∧ w.heap.size ≤ M ∧ RefRd w' M (.slice ao n c) 0 false ∧ Below w.heap.size w w' := by
  go_enter Tryd.func24, Tryd.ntmps24
  go_wp2
  go_ret
  exact ⟨w.heap.size, rfl, Nat.le_refl _, heap_alloc_new w _, (Below.refl _ _).alloc (Nat.le_refl _) _⟩

/-- What a reading of the document's reader leaves: the results, what is left, the reader. -/
def Left3 (M i : Nat) (ao : Option Addr) (c : Nat) (l : List UInt8) (x y : Value) (r : List UInt8) (w : World) (e : Ending) (w' : World) : Prop :=
  ∃ k bad', e = .returned (.tuple #[x, y]) ∧ r = l.drop (i + k) ∧ i + k ≤ l.length ∧ RefRd w' M (.slice ao l.length c) (i + k) bad' ∧ Touch M w w'

theorem first_at (l : List UInt8) (i k : Nat) (h : i + k < l.length) : ∃ h' : k < (l.drop i).length, (l.drop i)[k] = l[i + k] := ⟨by rw [List.length_drop]; omega, by rw [List.getElem_drop]⟩

theorem refnum_no {M i : Nat} {bad : Bool} {ao : Option Addr} {c : Nat} {l : List UInt8} {most : Int} {w : World} (n : Nat) (hm : RefRd w M (.slice ao l.length c) i bad) (hi : i ≤ l.length) (h : (first (l.drop i)).2 = 0 ∨ most < ((first (l.drop i)).1 : Int)) :
    Left3 M i ao c l (.int .i64 (rdN (l.drop i) most).1) (.int .i64 (rdN (l.drop i) most).2.1) (rdN (l.drop i) most).2.2 w (.returned (.tuple #[.int .i64 0, .int .i64 11])) ((w.drewN n).setCell ⟨M, 2, none⟩ (.bool true)) := by
  rw [rdN_no h]
  exact ⟨0, true, rfl, rfl, hi, RefRd.set2 (w := w.drewN n) hm true, ((Touch.refl M w).drewN n).setCell 2 _⟩

theorem refnum_yes {M i k x : Nat} {bad : Bool} {ao : Option Addr} {c : Nat} {l : List UInt8} {most : Int} {w : World} (n : Nat) (hm : RefRd w M (.slice ao l.length c) i bad) (hik : i + k < l.length) (hf : first (l.drop i) = (x, k + 1)) (h : (x : Int) ≤ most) :
    Left3 M i ao c l (.int .i64 (rdN (l.drop i) most).1) (.int .i64 (rdN (l.drop i) most).2.1) (rdN (l.drop i) most).2.2 w (.returned (.tuple #[.int .i64 (x : Int), .int .i64 0])) ((w.drewN n).setCell ⟨M, 1, none⟩ (.int .i64 ((i : Int) + (k : Int) + 1))) := by
  rw [rdN_yes (by rw [hf]; simp only; omega), hf]
  have e : ((i : Int) + (k : Int) + 1) = ((i + (k + 1) : Nat) : Int) := by omega
  rw [e]
  exact ⟨k + 1, bad, rfl, by simp [List.drop_drop], by omega, RefRd.set1 (w := w.drewN n) hm _, ((Touch.refl M w).drewN n).setCell 1 _⟩

theorem ret_pair {a b c d : Int} (h1 : a = c) (h2 : b = d) : Ending.returned (.tuple #[.int .i64 a, .int .i64 b]) = .returned (.tuple #[.int .i64 c, .int .i64 d]) := by rw [h1, h2]

set_option maxRecDepth 100000 in
set_option maxHeartbeats 1000000 in
theorem refnum_any (M i : Nat) (bad : Bool) (ao : Option Addr) (c : Nat) (l : List UInt8) (most : Int) (w : World) (hm : RefRd w M (.slice ao l.length c) i bad) (hs : Sl w (.slice ao l.length c) l) (hl : l.length ≤ 1099511627776) (hi : i ≤ l.length) :
    Calls Tryd.prog 38 #[.pointer (some ⟨M, 0, none⟩), .int .i64 most] w
      (Left3 M i ao c l (.int .i64 (rdN (l.drop i) most).1) (.int .i64 (rdN (l.drop i) most).2.1) (rdN (l.drop i) most).2.2 w) := by
  obtain ⟨c0, c1, c2, hf⟩ := hm.cells
  have Hm := hide hm
  have Hs := hide hs
  clear hm hs
  go_enter Tryd.func38, Tryd.ntmps38
  go_wp2
  go_loopw [6, 7, 8] (fun vv vp vk wr => ∃ k a p n : Nat, k ≤ 9 ∧ i + k ≤ l.length ∧ vk = .int .i64 k ∧ vv = .int .i64 a ∧ vp = .int .i64 (p : Int) ∧ p = 128 ^ min k 8 ∧ a < 128 ^ k ∧ first (l.drop i) = dec (9 - k) k a ((l.drop i).drop k) ∧ wr = w.drewN n)
    (fun _ _ vk _ => 9 - (intOf vk).toNat)
  case atStart => exact ⟨0, 0, 1, 0, by omega, by omega, rfl, rfl, rfl, rfl, by decide, rfl, rfl⟩
  case round =>
    obtain ⟨k, a, p, n, hk, hik, rfl, rfl, rfl, hp, ha, hfi, rfl⟩ := hrel
    have Ha := hide ha
    have Hfi := hide hfi
    have Hp := hide hp
    clear ha hfi hp
    by_cases h9 : k < 9
    · have h9i : (k : Int) < 9 := by omega
      by_cases hin : i + k < l.length
      · obtain ⟨b, o, rfl⟩ := (unhide Hs).addr (by omega)
        have hc := (unhide Hs).cell (i + k) hin
        have hcb : (l[i + k].toNat : Int) < 256 := by have := l[i + k].toNat_lt; omega
        obtain ⟨hk', hgk⟩ := first_at l i k hin
        obtain ⟨cn, hcn⟩ : ∃ cn, Hid (l[i + k].toNat = cn) := ⟨l[i + k].toNat, Eq.refl _⟩
        have Hgk : Hid ((l.drop i)[k].toNat = cn) := by rw [hgk]; exact hcn
        rw [unhide hcn] at hc hcb
        have hpk : p = 128 ^ k := by rw [unhide Hp, Nat.min_eq_left (by omega)]
        obtain ⟨d, hd⟩ : ∃ d, Hid (d = cn % 128 * 128 ^ k) := ⟨_, Eq.refl _⟩
        have hdl : a + d ≤ 9223372036854775807 := by
          have h1 := pow_step k a cn (unhide Ha)
          have h2 : 128 ^ (k + 1) ≤ 128 ^ 9 := Nat.pow_le_pow_right (by decide) (by omega)
          have e : (128 : Nat) ^ 9 = 9223372036854775808 := by decide
          rw [e] at h2
          rw [unhide hd]
          omega
        have hw1 : wrap64 ((cn : Int) % 128 * (p : Int)) = (d : Int) := by
          have e : (cn : Int) % 128 * (p : Int) = ((cn % 128 * p : Nat) : Int) := by simp
          rw [e, hpk, ← unhide hd]
          unfold wrap64
          omega
        have hini : (i : Int) + (k : Int) < (l.length : Int) := by omega
        clear hgk hcn hpk
        by_cases hbig : 128 ≤ cn
        · have hbigi : (128 : Int) ≤ (cn : Int) := by omega
          have hnx : first (l.drop i) = dec (9 - (k + 1)) (k + 1) (a + d) ((l.drop i).drop (k + 1)) := by
            rw [unhide Hfi, dec_more k a (l.drop i) h9 hk' (by rw [unhide Hgk]; exact hbig), unhide Hgk, ← unhide hd]
          have hal : a + d < 128 ^ (k + 1) := by rw [unhide hd]; exact pow_step k a cn (unhide Ha)
          have Hnx := hide hnx
          have Hal := hide hal
          clear hnx hal
          by_cases h8 : k < 8
          · have h8i : (k : Int) < 8 := by omega
            have hp8 : 128 * p = 128 ^ min (k + 1) 8 := by rw [unhide Hp, Nat.min_eq_left (by omega), Nat.min_eq_left (by omega), Nat.pow_succ, Nat.mul_comm]
            have hpl : 128 * p ≤ 72057594037927936 := by
              rw [hp8]
              exact Nat.le_trans (Nat.pow_le_pow_right (by decide) (Nat.min_le_right _ _)) (by decide)
            have Hp8 := hide hp8
            clear hp8
            go_wp2_with fail
            go_quiet (fail)
            go_wp2_with fail
            go_quiet (fail)
            go_wp2
            go_roundw
            case rel => exact ⟨k + 1, a + d, 128 * p, _, by omega, by omega, by go_num, by go_num, by go_num, unhide Hp8, unhide Hal, unhide Hnx, rfl⟩
            case measure => simp [intOf]; omega
          · have h8i : ¬ (k : Int) < 8 := by omega
            have hp8 : p = 128 ^ min (k + 1) 8 := by rw [unhide Hp, Nat.min_eq_right (by omega), Nat.min_eq_right (by omega)]
            have Hp8 := hide hp8
            clear hp8
            go_wp2_with fail
            go_quiet (fail)
            go_wp2_with fail
            go_quiet (fail)
            go_wp2
            go_roundw
            case rel => exact ⟨k + 1, a + d, p, _, by omega, by omega, by go_num, by go_num, rfl, unhide Hp8, unhide Hal, unhide Hnx, rfl⟩
            case measure => simp [intOf]; omega
        · have hmore : ¬ (128 : Int) ≤ (cn : Int) := by omega
          by_cases hgt : most < (a : Int) + (d : Int)
          · have hno : (first (l.drop i)).2 = 0 ∨ most < ((first (l.drop i)).1 : Int) := by
              rw [unhide Hfi]
              by_cases h00 : cn = 0 ∧ 0 < k
              · rw [dec_nought k a (l.drop i) h9 hk' (by rw [unhide Hgk]; exact h00.1) h00.2]; exact .inl rfl
              · rw [dec_last k a (l.drop i) h9 hk' (by rw [unhide Hgk]; omega) (by rw [unhide Hgk]; exact h00), unhide Hgk, ← unhide hd]
                right; simp only; omega
            have Hno := hide hno
            clear hno
            go_wp2_with fail
            go_quiet (fail)
            go_wp2_with fail
            go_quiet (fail)
            go_wp2
            go_ret2
            exact refnum_no _ (unhide Hm) hi (unhide Hno)
          · have hgt' : (a : Int) + (d : Int) ≤ most := by omega
            by_cases h0 : cn = 0
            · have hz : ((cn : Int) == 0) = true := by simp [h0]
              by_cases hk0 : 0 < k
              · have hk0i : (0 : Int) < (k : Int) := by omega
                have Hno : Hid ((first (l.drop i)).2 = 0 ∨ most < ((first (l.drop i)).1 : Int)) := by
                  rw [unhide Hfi, dec_nought k a (l.drop i) h9 hk' (by rw [unhide Hgk]; exact h0) hk0]; exact .inl rfl
                clear h0
                go_wp2_with fail
                go_quiet (fail)
                go_wp2_with fail
                go_quiet (fail)
                go_wp2
                go_ret2
                exact refnum_no _ (unhide Hm) hi (unhide Hno)
              · have hk0i : ¬ (0 : Int) < (k : Int) := by omega
                have Hf : Hid (first (l.drop i) = (a + d, k + 1)) := by
                  rw [unhide Hfi, dec_last k a (l.drop i) h9 hk' (by rw [unhide Hgk]; omega) (by omega), unhide Hgk, ← unhide hd]; rfl
                clear h0
                go_wp2_with fail
                go_quiet (fail)
                go_wp2_with fail
                go_quiet (fail)
                go_wp2
                go_ret2
                exact refnum_yes _ (unhide Hm) hin (unhide Hf) (by omega)
            · have hz : ((cn : Int) == 0) = false := by simp; omega
              have Hf : Hid (first (l.drop i) = (a + d, k + 1)) := by
                rw [unhide Hfi, dec_last k a (l.drop i) h9 hk' (by rw [unhide Hgk]; omega) (by rw [unhide Hgk]; omega), unhide Hgk, ← unhide hd]; rfl
              go_wp2_with fail
              go_quiet (fail)
              go_wp2_with fail
              go_quiet (fail)
              go_wp2
              go_ret2
              exact refnum_yes _ (unhide Hm) hin (unhide Hf) (by omega)
      · have hini : ¬ (i : Int) + (k : Int) < (l.length : Int) := by omega
        have Hno : Hid ((first (l.drop i)).2 = 0 ∨ most < ((first (l.drop i)).1 : Int)) := by
          rw [unhide Hfi, dec_none k a (l.drop i) (.inr (by rw [List.length_drop]; omega))]; exact .inl rfl
        go_wp2_with fail
        go_quiet (fail)
        go_wp2
        go_ret2
        exact refnum_no _ (unhide Hm) hi (unhide Hno)
    · have h9i : decide ((k : Int) < 9) = false := by simp; omega
      have Hno : Hid ((first (l.drop i)).2 = 0 ∨ most < ((first (l.drop i)).1 : Int)) := by
        rw [unhide Hfi, dec_none k a (l.drop i) (.inl (by omega))]; exact .inl rfl
      go_wp2_with fail
      go_quiet (fail)
      go_wp2
      go_ret2
      exact refnum_no _ (unhide Hm) hi (unhide Hno)

end Go.Proofs.YtjeefpibhkngiaaDoor
