/-
  P1PRefRd, P1PRefRd2, P1JRefRd, P1RefG, P1RefH, VMath, VChain: one behind the other. No law is proved here.
-/
import Derived.Test.YtcdehnghggleoaaGreatGz1
import Derived.BigQuiet
import Derived.RowKit
/-
  The document's own reader: what its Open, Number, Flag, Text answer.
-/
namespace Go.Proofs.YtcdehnghggleoaaGreat.P1
open Go.RowKit
set_option linter.unusedVariables false

/-- The document's reader at block M: the bytes v, at the place i. -/
def RefRd (w : World) (M : Nat) (v : Value) (i : Nat) (bad : Bool) : Prop := w.heap[M]? = some (.cells #[v, .int .i64 (i : Int), .bool bad] 77 (0, 0))

/-- Nothing but block M has turned. -/
structure Touch (M : Nat) (w w' : World) : Prop where
  os : w'.os = w.os
  tape : w'.tape = w.tape
  output : w'.output = w.output
  size : w'.heap.size = w.heap.size
  block : ∀ k, k ≠ M → w'.heap[k]? = w.heap[k]?

theorem Touch.refl (M : Nat) (w : World) : Touch M w w := ⟨rfl, rfl, rfl, rfl, fun _ _ => rfl⟩
theorem Touch.trans {M : Nat} {a b c : World} (h : Touch M a b) (k : Touch M b c) : Touch M a c :=
  ⟨k.os.trans h.os, k.tape.trans h.tape, k.output.trans h.output, k.size.trans h.size, fun q hq => (k.block q hq).trans (h.block q hq)⟩
theorem Touch.drewN {M : Nat} {a b : World} (h : Touch M a b) (n : Nat) : Touch M a (b.drewN n) := ⟨h.os, h.tape, h.output, h.size, h.block⟩
theorem Touch.setCell {M : Nat} {a b : World} (h : Touch M a b) (j : Nat) (x : Value) : Touch M a (b.setCell ⟨M, j, none⟩ x) :=
  ⟨h.os, h.tape, h.output, by simpa using h.size, fun q hq => (Below.heap_setCell b ⟨M, j, none⟩ x q hq).trans (h.block q hq)⟩
theorem Touch.below {M B : Nat} {w w' : World} (h : Touch M w w') (hB : B ≤ M) : Below B w w' :=
  ⟨h.os, h.tape, h.output, by rw [h.size]; exact Nat.le_refl _, fun k hk => h.block k (by omega)⟩

theorem RefRd.cells {w : World} {M : Nat} {v : Value} {i : Nat} {bad : Bool} (h : RefRd w M v i bad) :
    w.cell? ⟨M, 0, none⟩ = some v ∧ w.cell? ⟨M, 1, none⟩ = some (.int .i64 (i : Int)) ∧ w.cell? ⟨M, 2, none⟩ = some (.bool bad) ∧ (∀ j, w.frozen? ⟨M, j, none⟩ = false) := by
  unfold RefRd at h
  refine ⟨?_, ?_, ?_, fun j => ?_⟩
  · rw [cell_of_row w M 0 _ _ _ h]; rfl
  · rw [cell_of_row w M 1 _ _ _ h]; rfl
  · rw [cell_of_row w M 2 _ _ _ h]; rfl
  · simp [World.frozen?, h]

theorem RefRd.lt {w : World} {M : Nat} {v : Value} {i : Nat} {bad : Bool} (h : RefRd w M v i bad) : M < w.heap.size := (Array.getElem?_eq_some_iff.1 h).1

theorem RefRd.set1 {w : World} {M : Nat} {v : Value} {i : Nat} {bad : Bool} (h : RefRd w M v i bad) (j : Nat) : RefRd (w.setCell ⟨M, 1, none⟩ (.int .i64 (j : Int))) M v j bad := by
  unfold RefRd at h ⊢
  simp [World.setCell, Array.getElem?_modify, h]

theorem RefRd.set2 {w : World} {M : Nat} {v : Value} {i : Nat} {bad : Bool} (h : RefRd w M v i bad) (b : Bool) : RefRd (w.setCell ⟨M, 2, none⟩ (.bool b)) M v i b := by
  unfold RefRd at h ⊢
  simp [World.setCell, Array.getElem?_modify, h]

theorem Sl.touch {w w' : World} {M i : Nat} {u v : Value} {bad : Bool} {l : List UInt8} (h : Sl w v l) (ht : Touch M w w') (hm : RefRd w M u i bad) (hu : ∃ ao n c, u = .slice ao n c) : Sl w' v l := by
  obtain ⟨ao, c, rfl, h1, h2, h3, h4⟩ := h
  refine ⟨ao, c, rfl, h1, h2, h3, fun a ha j x hx => ?_⟩
  have hc := h4 a ha j x hx
  have hne : (a.add j).block ≠ M := by
    intro e
    have hsp := World.cell?_spot hc
    obtain ⟨ao', n', c', rfl⟩ := hu
    have hx' : ∃ b : UInt8, x = .int .u8 (b.toNat : Int) := by
      rw [bc_get] at hx
      cases hl : l[j]? with
      | none => rw [hl] at hx; cases hx
      | some b => rw [hl] at hx; cases hx; exact ⟨b, rfl⟩
    obtain ⟨y, rfl⟩ := hx'
    generalize a.add j = q at *
    obtain ⟨b, o, sp⟩ := q
    simp only at e hsp
    subst e hsp
    rw [cell_of_row w b o _ _ _ hm] at hc
    match o, hc with
    | 0, hc => simp at hc
    | 1, hc => simp at hc
    | 2, hc => simp at hc
    | o + 3, hc => simp at hc
  rw [World.cell?_of_block (w := w) (ht.block _ hne)]
  exact hc

set_option maxRecDepth 100000 in
theorem refopen_any (ao : Option Addr) (n c : Nat) (w : World) :
    Calls Tryz.prog 22 #[.slice ao n c] w fun e w' => ∃ M, e = .returned (.pointer (some ⟨M, 0, none⟩)) ∧ w.heap.size ≤ M ∧ RefRd w' M (.slice ao n c) 0 false ∧ Below w.heap.size w w' := by
  go_enter Tryz.func22, Tryz.ntmps22
  go_wp2
  go_ret
  exact ⟨w.heap.size, rfl, Nat.le_refl _, heap_alloc_new w _, (Below.refl _ _).alloc (Nat.le_refl _) _⟩

/-- What a reading of the document's reader leaves: the results, what is left, the reader. -/
def Left3 (M i : Nat) (ao : Option Addr) (c : Nat) (l : List UInt8) (x y : Value) (r : List UInt8) (w : World) (e : Ending) (w' : World) : Prop :=
  ∃ k bad', e = .returned (.tuple #[x, y]) ∧ r = l.drop (i + k) ∧ i + k ≤ l.length ∧ RefRd w' M (.slice ao l.length c) (i + k) bad' ∧ Touch M w w'

theorem first_at (l : List UInt8) (i k : Nat) (h : i + k < l.length) : ∃ h' : k < (l.drop i).length, (l.drop i)[k] = l[i + k] := ⟨by rw [List.length_drop]; omega, by rw [List.getElem_drop]⟩

theorem refnum_no {M i : Nat} {bad : Bool} {ao : Option Addr} {c : Nat} {l : List UInt8} {most : Int} {w : World} (n : Nat) (hm : RefRd w M (.slice ao l.length c) i bad) (hi : i ≤ l.length) (h : (first (l.drop i)).2 = 0 ∨ most < ((first (l.drop i)).1 : Int)) :
    Left3 M i ao c l (.int .i64 (rdN (l.drop i) most).1) (.int .i64 (rdN (l.drop i) most).2.1) (rdN (l.drop i) most).2.2 w (.returned (.tuple #[.int .i64 0, .int .i64 11])) ((w.drewN n).setCell ⟨M, 2, none⟩ (.bool true)) := by
  rw [rdN_no h]
  exact ⟨0, true, rfl, rfl, hi, RefRd.set2 (w := w.drewN n) hm true, ((Touch.refl M w).drewN n).setCell 2 _⟩

theorem refnum_yes {M i k x : Nat} {bad : Bool} {ao : Option Addr} {c : Nat} {l : List UInt8} {most : Int} {w : World} (n : Nat) (hm : RefRd w M (.slice ao l.length c) i bad) (hik : i + k < l.length) (hf : first (l.drop i) = (x, k + 1)) (h : (x : Int) ≤ most) :
    Left3 M i ao c l (.int .i64 (rdN (l.drop i) most).1) (.int .i64 (rdN (l.drop i) most).2.1) (rdN (l.drop i) most).2.2 w (.returned (.tuple #[.int .i64 (x : Int), .int .i64 0])) ((w.drewN n).setCell ⟨M, 1, none⟩ (.int .i64 ((i : Int) + (k : Int) + 1))) := by
  rw [rdN_yes (by rw [hf]; simp only; omega), hf]
  have e : ((i : Int) + (k : Int) + 1) = ((i + (k + 1) : Nat) : Int) := by omega
  rw [e]
  exact ⟨k + 1, bad, rfl, by simp [List.drop_drop], by omega, RefRd.set1 (w := w.drewN n) hm _, ((Touch.refl M w).drewN n).setCell 1 _⟩

theorem ret_pair {a b c d : Int} (h1 : a = c) (h2 : b = d) : Ending.returned (.tuple #[.int .i64 a, .int .i64 b]) = .returned (.tuple #[.int .i64 c, .int .i64 d]) := by rw [h1, h2]

set_option maxRecDepth 100000 in
set_option maxHeartbeats 1000000 in
theorem refnum_any (M i : Nat) (bad : Bool) (ao : Option Addr) (c : Nat) (l : List UInt8) (most : Int) (w : World) (hm : RefRd w M (.slice ao l.length c) i bad) (hs : Sl w (.slice ao l.length c) l) (hl : l.length ≤ 1099511627776) (hi : i ≤ l.length) :
    Calls Tryz.prog 55 #[.pointer (some ⟨M, 0, none⟩), .int .i64 most] w
      (Left3 M i ao c l (.int .i64 (rdN (l.drop i) most).1) (.int .i64 (rdN (l.drop i) most).2.1) (rdN (l.drop i) most).2.2 w) := by
  obtain ⟨c0, c1, c2, hf⟩ := hm.cells
  have Hm := hide hm
  have Hs := hide hs
  clear hm hs
  go_enter Tryz.func55, Tryz.ntmps55
  go_wp2
  go_loopw [6, 7, 8] (fun vv vp vk wr => ∃ k a p n : Nat, k ≤ 9 ∧ i + k ≤ l.length ∧ vk = .int .i64 k ∧ vv = .int .i64 a ∧ vp = .int .i64 (p : Int) ∧ p = 128 ^ min k 8 ∧ a < 128 ^ k ∧ first (l.drop i) = dec (9 - k) k a ((l.drop i).drop k) ∧ wr = w.drewN n)
    (fun _ _ vk _ => 9 - (intOf vk).toNat)
  case atStart => exact ⟨0, 0, 1, 0, by omega, by omega, rfl, rfl, rfl, rfl, by decide, rfl, rfl⟩
  case round =>
    obtain ⟨k, a, p, n, hk, hik, rfl, rfl, rfl, hp, ha, hfi, rfl⟩ := hrel
    have Ha := hide ha
    have Hfi := hide hfi
    have Hp := hide hp
    clear ha hfi hp
    by_cases h9 : k < 9
    · have h9i : (k : Int) < 9 := by omega
      by_cases hin : i + k < l.length
      · obtain ⟨b, o, rfl⟩ := (unhide Hs).addr (by omega)
        have hc := (unhide Hs).cell (i + k) hin
        have hcb : (l[i + k].toNat : Int) < 256 := by have := l[i + k].toNat_lt; omega
        obtain ⟨hk', hgk⟩ := first_at l i k hin
        obtain ⟨cn, hcn⟩ : ∃ cn, Hid (l[i + k].toNat = cn) := ⟨l[i + k].toNat, Eq.refl _⟩
        have Hgk : Hid ((l.drop i)[k].toNat = cn) := by rw [hgk]; exact hcn
        rw [unhide hcn] at hc hcb
        have hpk : p = 128 ^ k := by rw [unhide Hp, Nat.min_eq_left (by omega)]
        obtain ⟨d, hd⟩ : ∃ d, Hid (d = cn % 128 * 128 ^ k) := ⟨_, Eq.refl _⟩
        have hdl : a + d ≤ 9223372036854775807 := by
          have h1 := pow_step k a cn (unhide Ha)
          have h2 : 128 ^ (k + 1) ≤ 128 ^ 9 := Nat.pow_le_pow_right (by decide) (by omega)
          have e : (128 : Nat) ^ 9 = 9223372036854775808 := by decide
          rw [e] at h2
          rw [unhide hd]
          omega
        have hw1 : wrap64 ((cn : Int) % 128 * (p : Int)) = (d : Int) := by
          have e : (cn : Int) % 128 * (p : Int) = ((cn % 128 * p : Nat) : Int) := by simp
          rw [e, hpk, ← unhide hd]
          unfold wrap64
          omega
        have hini : (i : Int) + (k : Int) < (l.length : Int) := by omega
        clear hgk hcn hpk
        by_cases hbig : 128 ≤ cn
        · have hbigi : (128 : Int) ≤ (cn : Int) := by omega
          have hnx : first (l.drop i) = dec (9 - (k + 1)) (k + 1) (a + d) ((l.drop i).drop (k + 1)) := by
            rw [unhide Hfi, dec_more k a (l.drop i) h9 hk' (by rw [unhide Hgk]; exact hbig), unhide Hgk, ← unhide hd]
          have hal : a + d < 128 ^ (k + 1) := by rw [unhide hd]; exact pow_step k a cn (unhide Ha)
          have Hnx := hide hnx
          have Hal := hide hal
          clear hnx hal
          by_cases h8 : k < 8
          · have h8i : (k : Int) < 8 := by omega
            have hp8 : 128 * p = 128 ^ min (k + 1) 8 := by rw [unhide Hp, Nat.min_eq_left (by omega), Nat.min_eq_left (by omega), Nat.pow_succ, Nat.mul_comm]
            have hpl : 128 * p ≤ 72057594037927936 := by
              rw [hp8]
              exact Nat.le_trans (Nat.pow_le_pow_right (by decide) (Nat.min_le_right _ _)) (by decide)
            have Hp8 := hide hp8
            clear hp8
            go_wp2_with fail
            go_quiet (fail)
            go_wp2_with fail
            go_quiet (fail)
            go_wp2
            go_roundw
            case rel => exact ⟨k + 1, a + d, 128 * p, _, by omega, by omega, by go_num, by go_num, by go_num, unhide Hp8, unhide Hal, unhide Hnx, rfl⟩
            case measure => simp [intOf]; omega
          · have h8i : ¬ (k : Int) < 8 := by omega
            have hp8 : p = 128 ^ min (k + 1) 8 := by rw [unhide Hp, Nat.min_eq_right (by omega), Nat.min_eq_right (by omega)]
            have Hp8 := hide hp8
            clear hp8
            go_wp2_with fail
            go_quiet (fail)
            go_wp2_with fail
            go_quiet (fail)
            go_wp2
            go_roundw
            case rel => exact ⟨k + 1, a + d, p, _, by omega, by omega, by go_num, by go_num, rfl, unhide Hp8, unhide Hal, unhide Hnx, rfl⟩
            case measure => simp [intOf]; omega
        · have hmore : ¬ (128 : Int) ≤ (cn : Int) := by omega
          by_cases hgt : most < (a : Int) + (d : Int)
          · have hno : (first (l.drop i)).2 = 0 ∨ most < ((first (l.drop i)).1 : Int) := by
              rw [unhide Hfi]
              by_cases h00 : cn = 0 ∧ 0 < k
              · rw [dec_nought k a (l.drop i) h9 hk' (by rw [unhide Hgk]; exact h00.1) h00.2]; exact .inl rfl
              · rw [dec_last k a (l.drop i) h9 hk' (by rw [unhide Hgk]; omega) (by rw [unhide Hgk]; exact h00), unhide Hgk, ← unhide hd]
                right; simp only; omega
            have Hno := hide hno
            clear hno
            go_wp2_with fail
            go_quiet (fail)
            go_wp2_with fail
            go_quiet (fail)
            go_wp2
            go_ret2
            exact refnum_no _ (unhide Hm) hi (unhide Hno)
          · have hgt' : (a : Int) + (d : Int) ≤ most := by omega
            by_cases h0 : cn = 0
            · have hz : ((cn : Int) == 0) = true := by simp [h0]
              by_cases hk0 : 0 < k
              · have hk0i : (0 : Int) < (k : Int) := by omega
                have Hno : Hid ((first (l.drop i)).2 = 0 ∨ most < ((first (l.drop i)).1 : Int)) := by
                  rw [unhide Hfi, dec_nought k a (l.drop i) h9 hk' (by rw [unhide Hgk]; exact h0) hk0]; exact .inl rfl
                clear h0
                go_wp2_with fail
                go_quiet (fail)
                go_wp2_with fail
                go_quiet (fail)
                go_wp2
                go_ret2
                exact refnum_no _ (unhide Hm) hi (unhide Hno)
              · have hk0i : ¬ (0 : Int) < (k : Int) := by omega
                have Hf : Hid (first (l.drop i) = (a + d, k + 1)) := by
                  rw [unhide Hfi, dec_last k a (l.drop i) h9 hk' (by rw [unhide Hgk]; omega) (by omega), unhide Hgk, ← unhide hd]; rfl
                clear h0
                go_wp2_with fail
                go_quiet (fail)
                go_wp2_with fail
                go_quiet (fail)
                go_wp2
                go_ret2
                exact refnum_yes _ (unhide Hm) hin (unhide Hf) (by omega)
            · have hz : ((cn : Int) == 0) = false := by simp; omega
              have Hf : Hid (first (l.drop i) = (a + d, k + 1)) := by
                rw [unhide Hfi, dec_last k a (l.drop i) h9 hk' (by rw [unhide Hgk]; omega) (by rw [unhide Hgk]; omega), unhide Hgk, ← unhide hd]; rfl
              go_wp2_with fail
              go_quiet (fail)
              go_wp2_with fail
              go_quiet (fail)
              go_wp2
              go_ret2
              exact refnum_yes _ (unhide Hm) hin (unhide Hf) (by omega)
      · have hini : ¬ (i : Int) + (k : Int) < (l.length : Int) := by omega
        have Hno : Hid ((first (l.drop i)).2 = 0 ∨ most < ((first (l.drop i)).1 : Int)) := by
          rw [unhide Hfi, dec_none k a (l.drop i) (.inr (by rw [List.length_drop]; omega))]; exact .inl rfl
        go_wp2_with fail
        go_quiet (fail)
        go_wp2
        go_ret2
        exact refnum_no _ (unhide Hm) hi (unhide Hno)
    · have h9i : decide ((k : Int) < 9) = false := by simp; omega
      have Hno : Hid ((first (l.drop i)).2 = 0 ∨ most < ((first (l.drop i)).1 : Int)) := by
        rw [unhide Hfi, dec_none k a (l.drop i) (.inl (by omega))]; exact .inl rfl
      go_wp2_with fail
      go_quiet (fail)
      go_wp2
      go_ret2
      exact refnum_no _ (unhide Hm) hi (unhide Hno)

end Go.Proofs.YtcdehnghggleoaaGreat.P1

/-
  The document's own reader: Flag and Text.
-/
namespace Go.Proofs.YtcdehnghggleoaaGreat.P1
open Go.RowKit
set_option linter.unusedVariables false

theorem rdF_nil : rdF [] = (false, 11, []) := rfl

theorem rdF_yes (c : UInt8) (r : List UInt8) (h : c.toNat < 2) : rdF (c :: r) = (c.toNat == 1, 0, r) := by
  have : c = 0 ∨ c = 1 := by
    rcases (show c.toNat = 0 ∨ c.toNat = 1 by omega) with h | h
    · left; exact UInt8.toNat_inj.1 h
    · right; exact UInt8.toNat_inj.1 h
  rcases this with rfl | rfl
  · exact rdF_enc false r
  · exact rdF_enc true r

theorem rdF_no (c : UInt8) (r : List UInt8) (h : ¬ c.toNat < 2) : rdF (c :: r) = (false, 11, c :: r) := by
  unfold rdF
  rcases rdN_one (c :: r) 1 with ⟨h1, h2, h3⟩ | ⟨h1, h2, h3, _⟩
  · rw [h1, h2, h3]; rfl
  · exfalso
    generalize rdN (c :: r) 1 = y at *
    obtain ⟨x, e, q⟩ := y
    simp only at h2 h3
    rcases (show x = 0 ∨ x = 1 by omega) with rfl | rfl
    · rw [enc_zero] at h2
      injection h2 with h4 _
      subst h4
      exact h (by decide)
    · rw [enc_one] at h2
      injection h2 with h4 _
      subst h4
      exact h (by decide)

theorem Sl.ne {w : World} {b o n c M i : Nat} {u : Value} {bad : Bool} {l : List UInt8} (h : Sl w (.slice (some ⟨b, o, none⟩) n c) l) (hl : 0 < l.length) (hm : RefRd w M u i bad) (hu : ∃ ao n c, u = .slice ao n c) : b ≠ M := by
  intro e
  subst e
  have hc := h.cell 0 hl
  obtain ⟨ao', n', c', rfl⟩ := hu
  rw [cell_of_row w b (o + 0) _ _ _ hm] at hc
  match o, hc with
  | 0, hc => simp at hc
  | 1, hc => simp at hc
  | 2, hc => simp at hc
  | o + 3, hc => simp at hc

theorem refrd_bad {M i : Nat} {bad : Bool} {ao : Option Addr} {c : Nat} {l : List UInt8} {w : World} (n : Nat) (hm : RefRd w M (.slice ao l.length c) i bad) (hi : i ≤ l.length) (x y : Value) (r : List UInt8) (hr : r = l.drop i) :
    Left3 M i ao c l x y r w (.returned (.tuple #[x, y])) ((w.drewN n).setCell ⟨M, 2, none⟩ (.bool true)) :=
  ⟨0, true, rfl, hr, hi, RefRd.set2 (w := w.drewN n) hm true, ((Touch.refl M w).drewN n).setCell 2 _⟩

theorem refrd_go {M i : Nat} {bad : Bool} {ao : Option Addr} {c : Nat} {l : List UInt8} {w : World} {z : Int} (n m k : Nat) (hm : RefRd w M (.slice ao l.length c) i bad) (hi : i + k ≤ l.length) (x y : Value) (r : List UInt8) (hz : z = ((i + k : Nat) : Int)) (hr : r = l.drop (i + k)) :
    Left3 M i ao c l x y r w (.returned (.tuple #[x, y])) (((w.drewN n).setCell ⟨M, 1, none⟩ (.int .i64 z)).drewN m) := by
  subst hz
  exact ⟨k, bad, rfl, hr, hi, RefRd.set1 (w := w.drewN n) hm _, (((Touch.refl M w).drewN n).setCell 1 _).drewN m⟩

set_option maxRecDepth 100000 in
set_option maxHeartbeats 1000000 in
theorem refflag2_any (M i : Nat) (bad : Bool) (ao : Option Addr) (c : Nat) (l : List UInt8) (w : World) (hm : RefRd w M (.slice ao l.length c) i bad) (hs : Sl w (.slice ao l.length c) l) (hl : l.length ≤ 1099511627776) (hi : i ≤ l.length) :
    Calls Tryz.prog 89 #[.pointer (some ⟨M, 0, none⟩)] w (Left3 M i ao c l (.bool (rdF (l.drop i)).1) (.int .i64 (rdF (l.drop i)).2.1) (rdF (l.drop i)).2.2 w) := by
  obtain ⟨c0, c1, c2, hf⟩ := hm.cells
  have Hm := hide hm
  have Hs := hide hs
  clear hm hs
  by_cases hin : i < l.length
  · have hini : (i : Int) < (l.length : Int) := by omega
    obtain ⟨b, o, rfl⟩ := (unhide Hs).addr (by omega)
    have hc := (unhide Hs).cell i hin
    have hne := (unhide Hs).ne (by omega) (unhide Hm) ⟨_, _, _, rfl⟩
    have hcb : (l[i].toNat : Int) < 256 := by have := l[i].toNat_lt; omega
    have hdr : l.drop i = l[i] :: l.drop (i + 1) := List.drop_eq_getElem_cons hin
    by_cases h2 : l[i].toNat < 2
    · rw [hdr, rdF_yes _ _ h2]
      obtain ⟨cn, hcn⟩ : ∃ cn, Hid (l[i].toNat = cn) := ⟨l[i].toNat, Eq.refl _⟩
      rw [unhide hcn] at hc hcb h2 ⊢
      have h2i : (cn : Int) < 2 := by omega
      have hc' : ∀ n x, ((w.drewN n).setCell ⟨M, 1, none⟩ x).cell? ⟨b, o + i, none⟩ = some (.int .u8 (cn : Int)) := fun n x => by
        rw [World.cell?_setCell_other _ _ _ _ (by intro e; injection e with e1; exact hne e1.symm)]
        exact hc
      clear hdr
      go_enter Tryz.func89, Tryz.ntmps89
      go_wp2_with fail
      go_quiet (fail)
      go_wp2_with fail
      go_quiet (fail)
      go_wp2
      go_ret2
      have e1 : ((cn : Int) == 1) = (cn == 1) := by rw [Bool.eq_iff_iff]; simp; omega
      rw [← e1]
      exact refrd_go _ _ 1 (unhide Hm) (by omega) _ _ _ (by omega) rfl
    · rw [hdr, rdF_no _ _ h2, ← hdr]
      obtain ⟨cn, hcn⟩ : ∃ cn, Hid (l[i].toNat = cn) := ⟨l[i].toNat, Eq.refl _⟩
      rw [unhide hcn] at hc hcb h2
      have h2i : ¬ (cn : Int) < 2 := by omega
      clear hdr
      go_enter Tryz.func89, Tryz.ntmps89
      go_wp2_with fail
      go_quiet (fail)
      go_wp2
      go_ret2
      exact refrd_bad _ (unhide Hm) hi _ _ _ rfl
  · have hini : decide ((i : Int) < (l.length : Int)) = false := by simp; omega
    have hdr : l.drop i = [] := List.drop_eq_nil_of_le (by omega)
    rw [hdr, rdF_nil]
    clear hdr
    go_enter Tryz.func89, Tryz.ntmps89
    go_wp2_with fail
    go_quiet (fail)
    go_wp2
    go_ret2
    exact refrd_bad _ (unhide Hm) hi _ _ _ (List.drop_eq_nil_of_le (by omega)).symm

theorem Left3.after {M i k : Nat} {ao : Option Addr} {c : Nat} {l : List UInt8} {x y : Value} {r : List UInt8} {w w1 w' : World} {e : Ending} (h : Left3 M (i + k) ao c l x y r w1 e w') (ht : Touch M w w1) : Left3 M i ao c l x y r w e w' := by
  obtain ⟨q, b, h1, h2, h3, h4, h5⟩ := h
  exact ⟨k + q, b, h1, by rw [h2, Nat.add_assoc], by omega, by rw [← Nat.add_assoc]; exact h4, ht.trans h5⟩

theorem rdT_of {l : List UInt8} {most : Int} {x : Nat} {r : List UInt8} (h : rdN l most = (x, 0, r)) : rdT l most = if (r.length : Int) < x then ([], 11, l) else (r.take x, 0, r.drop x) := by
  by_cases hn : (first l).2 = 0 ∨ most < ((first l).1 : Int)
  · rw [rdN_no hn] at h; simp at h
  · rw [rdN_yes hn] at h
    simp only [Prod.mk.injEq] at h
    obtain ⟨h1, _, h3⟩ := h
    have hle := first_le l
    have hrl : (r.length : Int) = (l.length : Int) - (first l).2 := by rw [← h3, List.length_drop]; omega
    by_cases ht : (r.length : Int) < x
    · rw [if_pos ht, rdT_no (.inr (.inr (by rw [← hrl, h1]; exact ht)))]
    · rw [if_neg ht, rdT_yes (by rintro (h | h | h); exact hn (.inl h); exact hn (.inr h); rw [← hrl, h1] at h; exact ht h), h1, h3, ← List.drop_drop, h3]

theorem rdT_of_no {l : List UInt8} {most : Int} (h : (rdN l most).2.1 = 11) : rdT l most = ([], 11, l) := by
  by_cases hn : (first l).2 = 0 ∨ most < ((first l).1 : Int)
  · rcases hn with h | h
    · exact rdT_no (.inl h)
    · exact rdT_no (.inr (.inl h))
  · rw [rdN_yes hn] at h; simp at h

set_option maxRecDepth 100000 in
set_option maxHeartbeats 1000000 in
theorem reftext2_any (M i : Nat) (bad : Bool) (ao : Option Addr) (c : Nat) (l : List UInt8) (most : Int) (w : World) (hm : RefRd w M (.slice ao l.length c) i bad) (hs : Sl w (.slice ao l.length c) l) (hl : l.length ≤ 1099511627776) (hi : i ≤ l.length) :
    Calls Tryz.prog 56 #[.pointer (some ⟨M, 0, none⟩), .int .i64 most] w
      (Left3 M i ao c l (.string ⟨(rdT (l.drop i) most).1.toArray⟩) (.int .i64 (rdT (l.drop i) most).2.1) (rdT (l.drop i) most).2.2 w) := by
  obtain ⟨c0, c1, c2, hf⟩ := hm.cells
  have HN := hide (refnum_any M i bad ao c l most w hm hs hl hi)
  have hone := rdN_one (l.drop i) most
  have hof := @rdT_of (l.drop i) most
  have hno := @rdT_of_no (l.drop i) most
  have hlc : l.length ≤ c ∧ c ≤ maxLen := by obtain ⟨_, _, e, h1, h2, _⟩ := id hs; injection e with e1 e2 e3; subst e3; exact ⟨h1, h2⟩
  obtain ⟨hlc, hcm⟩ := hlc
  unfold maxLen at hcm
  have Hm := hide hm
  have Hs := hide hs
  clear hm hs
  generalize rdN (l.drop i) most = y at *
  obtain ⟨x, er, r⟩ := y
  simp only at HN hone hno
  rcases hone with ⟨rfl, rfl, rfl⟩ | ⟨rfl, hr, _, hx9⟩
  · rw [hno rfl]
    clear hof hno
    go_enter Tryz.func56, Tryz.ntmps56
    go_wp2_with fail
    refine (unhide HN).mono ?_
    rintro e w1 ⟨k, bad1, rfl, _, hk1, hm1, ht1⟩
    obtain ⟨d0, d1, d2, hf1⟩ := hm1.cells
    have Hm1 := hide hm1
    have Ht1 := hide ht1
    clear hm1 ht1 c0 c1 c2 hf
    go_wp2_with fail
    go_quiet (fail)
    go_wp2
    go_ret2
    refine ⟨0, true, rfl, rfl, hi, ?_, ?_⟩
    · exact RefRd.set2 (RefRd.set1 (w := w1.drewN _) (unhide Hm1) _) true
    · exact (((unhide Ht1).drewN _).setCell 1 _).setCell 2 _
  · have hof := hof rfl
    rw [hof]
    clear hno hof hr
    by_cases hlt : (r.length : Int) < x
    · rw [if_pos hlt]
      go_enter Tryz.func56, Tryz.ntmps56
      go_wp2_with fail
      refine (unhide HN).mono ?_
      rintro e w1 ⟨k, bad1, rfl, hrk, hk1, hm1, ht1⟩
      have hs1 := (unhide Hs).touch ht1 (unhide Hm) ⟨_, _, _, rfl⟩
      have hrl : r.length = l.length - (i + k) := by rw [hrk]; exact List.length_drop
      obtain ⟨j, hj⟩ : ∃ j, Hid (i + k = j) := ⟨_, Eq.refl _⟩
      rw [unhide hj] at hk1 hm1 hrl hrk
      obtain ⟨d0, d1, d2, hf1⟩ := hm1.cells
      have Hm1 := hide hm1
      have Ht1 := hide ht1
      have Hs1 := hide hs1
      have Hrk := hide hrk
      have hrl' : r.length + j = l.length := by omega
      clear hm1 ht1 c0 c1 c2 hf hs1 HN Hs hrk
      have hlti : (l.length : Int) - (j : Int) < (x : Int) := by omega
      clear hlt hrl'
      go_wp2_with fail
      go_quiet (fail)
      go_wp2
      go_ret2
      refine ⟨0, true, rfl, rfl, hi, ?_, ?_⟩
      · exact RefRd.set2 (RefRd.set1 (w := w1.drewN _) (unhide Hm1) _) true
      · exact (((unhide Ht1).drewN _).setCell 1 _).setCell 2 _
    · rw [if_neg hlt]
      go_enter Tryz.func56, Tryz.ntmps56
      go_wp2_with fail
      refine (unhide HN).mono ?_
      rintro e w1 ⟨k, bad1, rfl, hrk, hk1, hm1, ht1⟩
      have hs1 := (unhide Hs).touch ht1 (unhide Hm) ⟨_, _, _, rfl⟩
      have hrl : r.length = l.length - (i + k) := by rw [hrk]; exact List.length_drop
      obtain ⟨j, hj⟩ : ∃ j, Hid (i + k = j) := ⟨_, Eq.refl _⟩
      rw [unhide hj] at hk1 hm1 hrl hrk
      obtain ⟨d0, d1, d2, hf1⟩ := hm1.cells
      have Hm1 := hide hm1
      have Ht1 := hide ht1
      have Hs1 := hide hs1
      have Hrk := hide hrk
      have hrl' : r.length + j = l.length := by omega
      clear hm1 ht1 c0 c1 c2 hf hs1 HN Hs hrk
      have hlti : ¬ (l.length : Int) - (j : Int) < (x : Int) := by omega
      have hjx : (j : Int) + (x : Int) ≤ (c : Int) := by omega
      clear hlt hrl'
      go_wp2_with fail
      go_quiet (fail)
      go_wp2_with fail
      have hs2 := (unhide Hs1).touch (((Touch.refl M w1).drewN nq).setCell 1 (.int .i64 ((j : Int) + (x : Int)))) (unhide Hm1) ⟨_, _, _, rfl⟩
      have hdt := (hs2.drop j hk1).take x (by rw [List.length_drop]; omega)
      have hcv := fun m => conv_arr ((((w1.drewN nq).setCell ⟨M, 1, none⟩ (.int .i64 ((j : Int) + (x : Int))))).drewN m) _ _ hdt
      rw [← unhide Hrk] at hcv
      have hz1 : (j : Int) + (x : Int) - (x : Int) = (j : Int) := by omega
      have hz2 : ((j : Int) + (x : Int)).toNat = j + x := by omega
      have hz3 : IntKind.i64.wrap ((j : Int) + (x : Int) - (x : Int)) = (j : Int) := by rw [IntKind.wrap_i64]; omega
      have hz4 : (j : Int) ≤ (j : Int) + (x : Int) := by omega
      have hz5 : (0 : Int) ≤ (j : Int) + (x : Int) := by omega
      clear hdt hs2
      have hfin : ∀ m, Left3 M i ao c l (.string ⟨(r.take x).toArray⟩) (.int .i64 0) (r.drop x) w (.returned (.tuple #[.string ⟨(r.take x).toArray⟩, .int .i64 0])) (((w1.drewN nq).setCell ⟨M, 1, none⟩ (.int .i64 ((j : Int) + (x : Int)))).drewN m) := fun m => by
        have h := refrd_go (x := .string ⟨(r.take x).toArray⟩) (y := .int .i64 0) (r := r.drop x) (z := (j : Int) + (x : Int)) nq m x (unhide Hm1) (by omega) (by omega) (by rw [unhide Hrk, List.drop_drop])
        refine Left3.after (k := k) ?_ (unhide Ht1)
        rw [unhide hj]
        exact h
      have Hfin := hide hfin
      clear hfin
      by_cases hcj : c = j
      · have hx0 : x = 0 := by omega
        rw [if_pos hcj] at hcv
        subst hx0
        subst hcj
        simp only [Nat.sub_self] at hcv
        have hwc : IntKind.i64.wrap (c : Int) = (c : Int) := by rw [IntKind.wrap_i64]; omega
        simp at hcv
        go_quiet (fail)
        go_wp2
        go_ret2
        exact unhide Hfin _
      · rw [if_neg hcj, Nat.mul_one] at hcv
        go_quiet (fail)
        go_wp2
        go_ret2
        exact unhide Hfin _

end Go.Proofs.YtcdehnghggleoaaGreat.P1

/-
  The document's reader once more: whether all was well is told too; its N, T, Whole. No law is proved here.
-/
namespace Go.Proofs.YtcdehnghggleoaaGreat.P1
open Go.RowKit
theorem belowN {B : Nat} {w w' : World} (h : Below B w w') (n : Nat) : Below B w (w'.drewN n) := ⟨h.os, h.tape, h.output, h.size, h.block⟩
set_option linter.unusedVariables false

/-- What a reading of the document's reader leaves: the result, the error, what is left, the reader, and whether all was well. -/
def Left4 (M i : Nat) (bad : Bool) (ao : Option Addr) (c : Nat) (l : List UInt8) (x : Value) (er : Int) (r : List UInt8) (w : World) (e : Ending) (w' : World) : Prop :=
  ∃ k, e = .returned (.tuple #[x, .int .i64 er]) ∧ r = l.drop (i + k) ∧ i + k ≤ l.length ∧ RefRd w' M (.slice ao l.length c) (i + k) (bad || er != 0) ∧ Touch M w w'

theorem bad_yes (bad : Bool) : (bad || ((11 : Int) != 0)) = true := by cases bad <;> rfl
theorem bad_no (bad : Bool) : (bad || ((0 : Int) != 0)) = bad := by cases bad <;> rfl

theorem refnumb_no {M i : Nat} {bad : Bool} {ao : Option Addr} {c : Nat} {l : List UInt8} {most : Int} {w : World} (n : Nat) (hm : RefRd w M (.slice ao l.length c) i bad) (hi : i ≤ l.length) (h : (first (l.drop i)).2 = 0 ∨ most < ((first (l.drop i)).1 : Int)) :
    Left4 M i bad ao c l (.int .i64 (rdN (l.drop i) most).1) (rdN (l.drop i) most).2.1 (rdN (l.drop i) most).2.2 w (.returned (.tuple #[.int .i64 0, .int .i64 11])) ((w.drewN n).setCell ⟨M, 2, none⟩ (.bool true)) := by
  rw [rdN_no h]
  exact ⟨0, rfl, rfl, hi, by rw [bad_yes]; exact RefRd.set2 (w := w.drewN n) hm true, ((Touch.refl M w).drewN n).setCell 2 _⟩

theorem refnumb_yes {M i k x : Nat} {bad : Bool} {ao : Option Addr} {c : Nat} {l : List UInt8} {most : Int} {w : World} (n : Nat) (hm : RefRd w M (.slice ao l.length c) i bad) (hik : i + k < l.length) (hf : first (l.drop i) = (x, k + 1)) (h : (x : Int) ≤ most) :
    Left4 M i bad ao c l (.int .i64 (rdN (l.drop i) most).1) (rdN (l.drop i) most).2.1 (rdN (l.drop i) most).2.2 w (.returned (.tuple #[.int .i64 (x : Int), .int .i64 0])) ((w.drewN n).setCell ⟨M, 1, none⟩ (.int .i64 ((i : Int) + (k : Int) + 1))) := by
  rw [rdN_yes (by rw [hf]; simp only; omega), hf]
  have e : ((i : Int) + (k : Int) + 1) = ((i + (k + 1) : Nat) : Int) := by omega
  rw [e]
  exact ⟨k + 1, rfl, by simp [List.drop_drop], by omega, by rw [bad_no]; exact RefRd.set1 (w := w.drewN n) hm _, ((Touch.refl M w).drewN n).setCell 1 _⟩

set_option maxRecDepth 100000 in
set_option maxHeartbeats 1000000 in
theorem refnumb_any (M i : Nat) (bad : Bool) (ao : Option Addr) (c : Nat) (l : List UInt8) (most : Int) (w : World) (hm : RefRd w M (.slice ao l.length c) i bad) (hs : Sl w (.slice ao l.length c) l) (hl : l.length ≤ 1099511627776) (hi : i ≤ l.length) :
    Calls Tryz.prog 55 #[.pointer (some ⟨M, 0, none⟩), .int .i64 most] w
      (Left4 M i bad ao c l (.int .i64 (rdN (l.drop i) most).1) (rdN (l.drop i) most).2.1 (rdN (l.drop i) most).2.2 w) := by
  obtain ⟨c0, c1, c2, hf⟩ := hm.cells
  have Hm := hide hm
  have Hs := hide hs
  clear hm hs
  go_enter Tryz.func55, Tryz.ntmps55
  go_wp2
  go_loopw [6, 7, 8] (fun vv vp vk wr => ∃ k a p n : Nat, k ≤ 9 ∧ i + k ≤ l.length ∧ vk = .int .i64 k ∧ vv = .int .i64 a ∧ vp = .int .i64 (p : Int) ∧ p = 128 ^ min k 8 ∧ a < 128 ^ k ∧ first (l.drop i) = dec (9 - k) k a ((l.drop i).drop k) ∧ wr = w.drewN n)
    (fun _ _ vk _ => 9 - (intOf vk).toNat)
  case atStart => exact ⟨0, 0, 1, 0, by omega, by omega, rfl, rfl, rfl, rfl, by decide, rfl, rfl⟩
  case round =>
    obtain ⟨k, a, p, n, hk, hik, rfl, rfl, rfl, hp, ha, hfi, rfl⟩ := hrel
    have Ha := hide ha
    have Hfi := hide hfi
    have Hp := hide hp
    clear ha hfi hp
    by_cases h9 : k < 9
    · have h9i : (k : Int) < 9 := by omega
      by_cases hin : i + k < l.length
      · obtain ⟨b, o, rfl⟩ := (unhide Hs).addr (by omega)
        have hc := (unhide Hs).cell (i + k) hin
        have hcb : (l[i + k].toNat : Int) < 256 := by have := l[i + k].toNat_lt; omega
        obtain ⟨hk', hgk⟩ := first_at l i k hin
        obtain ⟨cn, hcn⟩ : ∃ cn, Hid (l[i + k].toNat = cn) := ⟨l[i + k].toNat, Eq.refl _⟩
        have Hgk : Hid ((l.drop i)[k].toNat = cn) := by rw [hgk]; exact hcn
        rw [unhide hcn] at hc hcb
        have hpk : p = 128 ^ k := by rw [unhide Hp, Nat.min_eq_left (by omega)]
        obtain ⟨d, hd⟩ : ∃ d, Hid (d = cn % 128 * 128 ^ k) := ⟨_, Eq.refl _⟩
        have hdl : a + d ≤ 9223372036854775807 := by
          have h1 := pow_step k a cn (unhide Ha)
          have h2 : 128 ^ (k + 1) ≤ 128 ^ 9 := Nat.pow_le_pow_right (by decide) (by omega)
          have e : (128 : Nat) ^ 9 = 9223372036854775808 := by decide
          rw [e] at h2
          rw [unhide hd]
          omega
        have hw1 : wrap64 ((cn : Int) % 128 * (p : Int)) = (d : Int) := by
          have e : (cn : Int) % 128 * (p : Int) = ((cn % 128 * p : Nat) : Int) := by simp
          rw [e, hpk, ← unhide hd]
          unfold wrap64
          omega
        have hini : (i : Int) + (k : Int) < (l.length : Int) := by omega
        clear hgk hcn hpk
        by_cases hbig : 128 ≤ cn
        · have hbigi : (128 : Int) ≤ (cn : Int) := by omega
          have hnx : first (l.drop i) = dec (9 - (k + 1)) (k + 1) (a + d) ((l.drop i).drop (k + 1)) := by
            rw [unhide Hfi, dec_more k a (l.drop i) h9 hk' (by rw [unhide Hgk]; exact hbig), unhide Hgk, ← unhide hd]
          have hal : a + d < 128 ^ (k + 1) := by rw [unhide hd]; exact pow_step k a cn (unhide Ha)
          have Hnx := hide hnx
          have Hal := hide hal
          clear hnx hal
          by_cases h8 : k < 8
          · have h8i : (k : Int) < 8 := by omega
            have hp8 : 128 * p = 128 ^ min (k + 1) 8 := by rw [unhide Hp, Nat.min_eq_left (by omega), Nat.min_eq_left (by omega), Nat.pow_succ, Nat.mul_comm]
            have hpl : 128 * p ≤ 72057594037927936 := by
              rw [hp8]
              exact Nat.le_trans (Nat.pow_le_pow_right (by decide) (Nat.min_le_right _ _)) (by decide)
            have Hp8 := hide hp8
            clear hp8
            go_wp2_with fail
            go_quiet (fail)
            go_wp2_with fail
            go_quiet (fail)
            go_wp2
            go_roundw
            case rel => exact ⟨k + 1, a + d, 128 * p, _, by omega, by omega, by go_num, by go_num, by go_num, unhide Hp8, unhide Hal, unhide Hnx, rfl⟩
            case measure => simp [intOf]; omega
          · have h8i : ¬ (k : Int) < 8 := by omega
            have hp8 : p = 128 ^ min (k + 1) 8 := by rw [unhide Hp, Nat.min_eq_right (by omega), Nat.min_eq_right (by omega)]
            have Hp8 := hide hp8
            clear hp8
            go_wp2_with fail
            go_quiet (fail)
            go_wp2_with fail
            go_quiet (fail)
            go_wp2
            go_roundw
            case rel => exact ⟨k + 1, a + d, p, _, by omega, by omega, by go_num, by go_num, rfl, unhide Hp8, unhide Hal, unhide Hnx, rfl⟩
            case measure => simp [intOf]; omega
        · have hmore : ¬ (128 : Int) ≤ (cn : Int) := by omega
          by_cases hgt : most < (a : Int) + (d : Int)
          · have hno : (first (l.drop i)).2 = 0 ∨ most < ((first (l.drop i)).1 : Int) := by
              rw [unhide Hfi]
              by_cases h00 : cn = 0 ∧ 0 < k
              · rw [dec_nought k a (l.drop i) h9 hk' (by rw [unhide Hgk]; exact h00.1) h00.2]; exact .inl rfl
              · rw [dec_last k a (l.drop i) h9 hk' (by rw [unhide Hgk]; omega) (by rw [unhide Hgk]; exact h00), unhide Hgk, ← unhide hd]
                right; simp only; omega
            have Hno := hide hno
            clear hno
            go_wp2_with fail
            go_quiet (fail)
            go_wp2_with fail
            go_quiet (fail)
            go_wp2
            go_ret2
            exact refnumb_no _ (unhide Hm) hi (unhide Hno)
          · have hgt' : (a : Int) + (d : Int) ≤ most := by omega
            by_cases h0 : cn = 0
            · have hz : ((cn : Int) == 0) = true := by simp [h0]
              by_cases hk0 : 0 < k
              · have hk0i : (0 : Int) < (k : Int) := by omega
                have Hno : Hid ((first (l.drop i)).2 = 0 ∨ most < ((first (l.drop i)).1 : Int)) := by
                  rw [unhide Hfi, dec_nought k a (l.drop i) h9 hk' (by rw [unhide Hgk]; exact h0) hk0]; exact .inl rfl
                clear h0
                go_wp2_with fail
                go_quiet (fail)
                go_wp2_with fail
                go_quiet (fail)
                go_wp2
                go_ret2
                exact refnumb_no _ (unhide Hm) hi (unhide Hno)
              · have hk0i : ¬ (0 : Int) < (k : Int) := by omega
                have Hf : Hid (first (l.drop i) = (a + d, k + 1)) := by
                  rw [unhide Hfi, dec_last k a (l.drop i) h9 hk' (by rw [unhide Hgk]; omega) (by omega), unhide Hgk, ← unhide hd]; rfl
                clear h0
                go_wp2_with fail
                go_quiet (fail)
                go_wp2_with fail
                go_quiet (fail)
                go_wp2
                go_ret2
                exact refnumb_yes _ (unhide Hm) hin (unhide Hf) (by omega)
            · have hz : ((cn : Int) == 0) = false := by simp; omega
              have Hf : Hid (first (l.drop i) = (a + d, k + 1)) := by
                rw [unhide Hfi, dec_last k a (l.drop i) h9 hk' (by rw [unhide Hgk]; omega) (by rw [unhide Hgk]; omega), unhide Hgk, ← unhide hd]; rfl
              go_wp2_with fail
              go_quiet (fail)
              go_wp2_with fail
              go_quiet (fail)
              go_wp2
              go_ret2
              exact refnumb_yes _ (unhide Hm) hin (unhide Hf) (by omega)
      · have hini : ¬ (i : Int) + (k : Int) < (l.length : Int) := by omega
        have Hno : Hid ((first (l.drop i)).2 = 0 ∨ most < ((first (l.drop i)).1 : Int)) := by
          rw [unhide Hfi, dec_none k a (l.drop i) (.inr (by rw [List.length_drop]; omega))]; exact .inl rfl
        go_wp2_with fail
        go_quiet (fail)
        go_wp2
        go_ret2
        exact refnumb_no _ (unhide Hm) hi (unhide Hno)
    · have h9i : decide ((k : Int) < 9) = false := by simp; omega
      have Hno : Hid ((first (l.drop i)).2 = 0 ∨ most < ((first (l.drop i)).1 : Int)) := by
        rw [unhide Hfi, dec_none k a (l.drop i) (.inl (by omega))]; exact .inl rfl
      go_wp2_with fail
      go_quiet (fail)
      go_wp2
      go_ret2
      exact refnumb_no _ (unhide Hm) hi (unhide Hno)

set_option maxRecDepth 100000 in
set_option maxHeartbeats 1000000 in
theorem reftextb_any (M i : Nat) (bad : Bool) (ao : Option Addr) (c : Nat) (l : List UInt8) (most : Int) (w : World) (hm : RefRd w M (.slice ao l.length c) i bad) (hs : Sl w (.slice ao l.length c) l) (hl : l.length ≤ 1099511627776) (hi : i ≤ l.length) :
    Calls Tryz.prog 56 #[.pointer (some ⟨M, 0, none⟩), .int .i64 most] w
      (Left4 M i bad ao c l (.string ⟨(rdT (l.drop i) most).1.toArray⟩) (rdT (l.drop i) most).2.1 (rdT (l.drop i) most).2.2 w) := by
  obtain ⟨c0, c1, c2, hf⟩ := hm.cells
  have HN := hide (refnumb_any M i bad ao c l most w hm hs hl hi)
  have hone := rdN_one (l.drop i) most
  have hof := @rdT_of (l.drop i) most
  have hno := @rdT_of_no (l.drop i) most
  have hlc : l.length ≤ c ∧ c ≤ maxLen := by obtain ⟨_, _, e, h1, h2, _⟩ := id hs; injection e with e1 e2 e3; subst e3; exact ⟨h1, h2⟩
  obtain ⟨hlc, hcm⟩ := hlc
  unfold maxLen at hcm
  have Hm := hide hm
  have Hs := hide hs
  clear hm hs
  generalize rdN (l.drop i) most = y at *
  obtain ⟨x, er, r⟩ := y
  simp only at HN hone hno
  rcases hone with ⟨rfl, rfl, rfl⟩ | ⟨rfl, hr, _, hx9⟩
  · rw [hno rfl]
    clear hof hno
    go_enter Tryz.func56, Tryz.ntmps56
    go_wp2_with fail
    refine (unhide HN).mono ?_
    rintro e w1 ⟨k, rfl, _, hk1, hm1, ht1⟩
    obtain ⟨d0, d1, d2, hf1⟩ := hm1.cells
    have Hm1 := hide hm1
    have Ht1 := hide ht1
    clear hm1 ht1 c0 c1 c2 hf
    go_wp2_with fail
    go_quiet (fail)
    go_wp2
    go_ret2
    refine ⟨0, rfl, rfl, hi, ?_, ?_⟩
    · rw [bad_yes]; exact RefRd.set2 (RefRd.set1 (w := w1.drewN _) (unhide Hm1) _) true
    · exact (((unhide Ht1).drewN _).setCell 1 _).setCell 2 _
  · have hof := hof rfl
    rw [hof]
    clear hno hof hr
    by_cases hlt : (r.length : Int) < x
    · rw [if_pos hlt]
      go_enter Tryz.func56, Tryz.ntmps56
      go_wp2_with fail
      refine (unhide HN).mono ?_
      rintro e w1 ⟨k, rfl, hrk, hk1, hm1, ht1⟩
      have hs1 := (unhide Hs).touch ht1 (unhide Hm) ⟨_, _, _, rfl⟩
      have hrl : r.length = l.length - (i + k) := by rw [hrk]; exact List.length_drop
      obtain ⟨j, hj⟩ : ∃ j, Hid (i + k = j) := ⟨_, Eq.refl _⟩
      rw [unhide hj] at hk1 hm1 hrl hrk
      obtain ⟨d0, d1, d2, hf1⟩ := hm1.cells
      have Hm1 := hide hm1
      have Ht1 := hide ht1
      have Hs1 := hide hs1
      have Hrk := hide hrk
      have hrl' : r.length + j = l.length := by omega
      clear hm1 ht1 c0 c1 c2 hf hs1 HN Hs hrk
      have hlti : (l.length : Int) - (j : Int) < (x : Int) := by omega
      clear hlt hrl'
      go_wp2_with fail
      go_quiet (fail)
      go_wp2
      go_ret2
      refine ⟨0, rfl, rfl, hi, ?_, ?_⟩
      · rw [bad_yes]; exact RefRd.set2 (RefRd.set1 (w := w1.drewN _) (unhide Hm1) _) true
      · exact (((unhide Ht1).drewN _).setCell 1 _).setCell 2 _
    · rw [if_neg hlt]
      go_enter Tryz.func56, Tryz.ntmps56
      go_wp2_with fail
      refine (unhide HN).mono ?_
      rintro e w1 ⟨k, rfl, hrk, hk1, hm1, ht1⟩
      have hs1 := (unhide Hs).touch ht1 (unhide Hm) ⟨_, _, _, rfl⟩
      have hrl : r.length = l.length - (i + k) := by rw [hrk]; exact List.length_drop
      obtain ⟨j, hj⟩ : ∃ j, Hid (i + k = j) := ⟨_, Eq.refl _⟩
      rw [unhide hj] at hk1 hm1 hrl hrk
      obtain ⟨d0, d1, d2, hf1⟩ := hm1.cells
      have Hm1 := hide hm1
      have Ht1 := hide ht1
      have Hs1 := hide hs1
      have Hrk := hide hrk
      have hrl' : r.length + j = l.length := by omega
      clear hm1 ht1 c0 c1 c2 hf hs1 HN Hs hrk
      have hlti : ¬ (l.length : Int) - (j : Int) < (x : Int) := by omega
      have hjx : (j : Int) + (x : Int) ≤ (c : Int) := by omega
      clear hlt hrl'
      go_wp2_with fail
      go_quiet (fail)
      go_wp2_with fail
      have hs2 := (unhide Hs1).touch (((Touch.refl M w1).drewN nq).setCell 1 (.int .i64 ((j : Int) + (x : Int)))) (unhide Hm1) ⟨_, _, _, rfl⟩
      have hdt := (hs2.drop j hk1).take x (by rw [List.length_drop]; omega)
      have hcv := fun m => conv_arr ((((w1.drewN nq).setCell ⟨M, 1, none⟩ (.int .i64 ((j : Int) + (x : Int))))).drewN m) _ _ hdt
      rw [← unhide Hrk] at hcv
      have hz1 : (j : Int) + (x : Int) - (x : Int) = (j : Int) := by omega
      have hz2 : ((j : Int) + (x : Int)).toNat = j + x := by omega
      have hz3 : IntKind.i64.wrap ((j : Int) + (x : Int) - (x : Int)) = (j : Int) := by rw [IntKind.wrap_i64]; omega
      have hz4 : (j : Int) ≤ (j : Int) + (x : Int) := by omega
      have hz5 : (0 : Int) ≤ (j : Int) + (x : Int) := by omega
      clear hdt hs2
      have hfin : ∀ m, Left4 M i bad ao c l (.string ⟨(r.take x).toArray⟩) 0 (r.drop x) w (.returned (.tuple #[.string ⟨(r.take x).toArray⟩, .int .i64 0])) (((w1.drewN nq).setCell ⟨M, 1, none⟩ (.int .i64 ((j : Int) + (x : Int)))).drewN m) := fun m => by
        have h := RefRd.set1 (w := w1.drewN nq) (unhide Hm1) (j + x)
        have hjk := unhide hj
        have e : i + (k + x) = j + x := by omega
        have e2 : ((j + x : Nat) : Int) = (j : Int) + (x : Int) := by omega
        refine ⟨k + x, rfl, by rw [unhide Hrk, List.drop_drop, e], by omega, ?_, (((unhide Ht1).drewN nq).setCell 1 _).drewN m⟩
        rw [e]
        rw [e2] at h
        exact h
      have Hfin := hide hfin
      clear hfin
      by_cases hcj : c = j
      · have hx0 : x = 0 := by omega
        rw [if_pos hcj] at hcv
        subst hx0
        subst hcj
        simp only [Nat.sub_self] at hcv
        have hwc : IntKind.i64.wrap (c : Int) = (c : Int) := by rw [IntKind.wrap_i64]; omega
        simp at hcv
        go_quiet (fail)
        go_wp2
        go_ret2
        exact unhide Hfin _
      · rw [if_neg hcj, Nat.mul_one] at hcv
        go_quiet (fail)
        go_wp2
        go_ret2
        exact unhide Hfin _

/-- The same, without the error. -/
def LeftN (M i : Nat) (bad : Bool) (ao : Option Addr) (c : Nat) (l : List UInt8) (x : Value) (er : Int) (r : List UInt8) (w : World) (e : Ending) (w' : World) : Prop :=
  ∃ k, e = .returned x ∧ r = l.drop (i + k) ∧ i + k ≤ l.length ∧ RefRd w' M (.slice ao l.length c) (i + k) (bad || er != 0) ∧ Touch M w w'

set_option maxRecDepth 100000 in
theorem refn_any (M i : Nat) (bad : Bool) (ao : Option Addr) (c : Nat) (l : List UInt8) (most : Int) (w : World) (hm : RefRd w M (.slice ao l.length c) i bad) (hs : Sl w (.slice ao l.length c) l) (hl : l.length ≤ 1099511627776) (hi : i ≤ l.length) :
    Calls Tryz.prog 23 #[.pointer (some ⟨M, 0, none⟩), .int .i64 most] w
      (LeftN M i bad ao c l (.int .i64 (rdN (l.drop i) most).1) (rdN (l.drop i) most).2.1 (rdN (l.drop i) most).2.2 w) := by
  have HN := hide (refnumb_any M i bad ao c l most w hm hs hl hi)
  clear hm hs
  generalize rdN (l.drop i) most = y at *
  go_enter Tryz.func23, Tryz.ntmps23
  go_wp2_with fail
  refine (unhide HN).mono ?_
  rintro e w1 ⟨k, rfl, hr, hk1, hm1, ht1⟩
  have H1 := hide hm1
  have H2 := hide ht1
  have H3 := hide hr
  clear hm1 ht1 hr HN
  go_wp2
  go_ret
  exact ⟨k, rfl, unhide H3, hk1, unhide H1, unhide H2⟩

set_option maxRecDepth 100000 in
theorem reft_any (M i : Nat) (bad : Bool) (ao : Option Addr) (c : Nat) (l : List UInt8) (most : Int) (w : World) (hm : RefRd w M (.slice ao l.length c) i bad) (hs : Sl w (.slice ao l.length c) l) (hl : l.length ≤ 1099511627776) (hi : i ≤ l.length) :
    Calls Tryz.prog 24 #[.pointer (some ⟨M, 0, none⟩), .int .i64 most] w
      (LeftN M i bad ao c l (.string ⟨(rdT (l.drop i) most).1.toArray⟩) (rdT (l.drop i) most).2.1 (rdT (l.drop i) most).2.2 w) := by
  have HN := hide (reftextb_any M i bad ao c l most w hm hs hl hi)
  clear hm hs
  generalize rdT (l.drop i) most = y at *
  obtain ⟨y1, y2, y3⟩ := y
  generalize (⟨y1.toArray⟩ : ByteArray) = X at *
  go_enter Tryz.func24, Tryz.ntmps24
  go_wp2_with fail
  refine (unhide HN).mono ?_
  rintro e w1 ⟨k, rfl, hr, hk1, hm1, ht1⟩
  have H1 := hide hm1
  have H2 := hide ht1
  have H3 := hide hr
  clear hm1 ht1 hr HN
  go_wp2
  go_ret
  exact ⟨k, rfl, unhide H3, hk1, unhide H1, unhide H2⟩

set_option maxRecDepth 100000 in
theorem refend_any (M i : Nat) (bad : Bool) (ao : Option Addr) (c n : Nat) (w : World) (hm : RefRd w M (.slice ao n c) i bad) (hi : i ≤ n) (hn : n ≤ 1099511627776) :
    Calls Tryz.prog 27 #[.pointer (some ⟨M, 0, none⟩)] w fun e w' => e = .returned (.bool (!bad && decide (i = n))) ∧ Below w.heap.size w w' := by
  obtain ⟨c0, c1, c2, hf⟩ := hm.cells
  clear hm
  cases bad
  · by_cases h : i = n
    · have hI : ((i : Int) == (n : Int)) = true := by rw [beq_iff_eq]; omega
      have hd : decide (i = n) = true := by simpa using h
      rw [hd]
      clear h hd
      go_enter Tryz.func27, Tryz.ntmps27
      go_wp2_with fail
      go_quiet (fail)
      go_wp2
      go_ret
      exact ⟨rfl, belowN (Below.refl _ _) _⟩
    · have hI : ((i : Int) == (n : Int)) = false := by rw [beq_eq_false_iff_ne]; omega
      have hd : decide (i = n) = false := by simpa using h
      rw [hd]
      clear h hd
      go_enter Tryz.func27, Tryz.ntmps27
      go_wp2_with fail
      go_quiet (fail)
      go_wp2
      go_ret
      exact ⟨rfl, belowN (Below.refl _ _) _⟩
  · go_enter Tryz.func27, Tryz.ntmps27
    go_wp2_with fail
    go_quiet (fail)
    go_wp2
    go_ret
    exact ⟨rfl, belowN (Below.refl _ _) _⟩

end Go.Proofs.YtcdehnghggleoaaGreat.P1

/-
  Contract of the document's own answer for the reading of a stamp. No law is proved here.
-/
namespace Go.Proofs.YtcdehnghggleoaaGreat.P1
open Go.RowKit
set_option linter.unusedVariables false

/-- New memory, and block M: all else is as it was. -/
structure Turned (M : Nat) (w w' : World) : Prop where
  os : w'.os = w.os
  tape : w'.tape = w.tape
  output : w'.output = w.output
  size : w.heap.size ≤ w'.heap.size
  block : ∀ k, k < w.heap.size → k ≠ M → w'.heap[k]? = w.heap[k]?

theorem Turned.of {M : Nat} {w w' : World} (h : Below w.heap.size w w') : Turned M w w' := ⟨h.os, h.tape, h.output, h.size, fun k hk _ => h.block k hk⟩
theorem Turned.touch {M : Nat} {w w1 w2 : World} (h : Turned M w w1) (k : Touch M w1 w2) : Turned M w w2 :=
  ⟨k.os.trans h.os, k.tape.trans h.tape, k.output.trans h.output, by rw [k.size]; exact h.size, fun q hq hn => (k.block q hn).trans (h.block q hq hn)⟩
theorem Turned.new {M : Nat} {w w1 : World} (h : Turned M w w1) {q : Addr} (hq : w.heap.size ≤ q.block) (x : Value) : Turned M w (w1.setCell q x) :=
  ⟨h.os, h.tape, h.output, by simpa [World.setCell] using h.size, fun k hk hn => (Below.heap_setCell _ _ _ _ (by omega)).trans (h.block k hk hn)⟩
theorem Turned.below {M B : Nat} {w w' : World} (h : Turned M w w') (hB : B ≤ M) (hw : B ≤ w.heap.size) : Below B w w' :=
  ⟨h.os, h.tape, h.output, h.size, fun k hk => h.block k (by omega) (by omega)⟩
theorem Turned.cell {M : Nat} {w w' : World} (h : Turned M w w') {p : Addr} (hp : p.block < w.heap.size) (hn : p.block ≠ M) : w'.cell? p = w.cell? p := World.cell?_of_block (w := w) (h.block _ hp hn)

theorem Touch.cell {M : Nat} {w w' : World} (h : Touch M w w') {p : Addr} (hp : p.block ≠ M) : w'.cell? p = w.cell? p := World.cell?_of_block (w := w) (h.block _ hp)
theorem Touch.frozen {M : Nat} {w w' : World} (h : Touch M w w') {p : Addr} (hp : p.block ≠ M) : w'.frozen? p = w.frozen? p := by
  simp only [World.frozen?, h.block _ hp]

theorem RefRd.other {w : World} {M : Nat} {v : Value} {i : Nat} {bad : Bool} (h : RefRd w M v i bad) {q : Addr} (hq : q.block ≠ M) (x : Value) : RefRd (w.setCell q x) M v i bad := by
  unfold RefRd at *
  rw [Below.heap_setCell _ _ _ _ (fun e => hq e.symm)]
  exact h
theorem RefRd.below {w w' : World} {M B : Nat} {v : Value} {i : Nat} {bad : Bool} (h : RefRd w M v i bad) (hb : Below B w w') (hB : w.heap.size ≤ B) : RefRd w' M v i bad := by
  unfold RefRd at *
  rw [hb.block M (Nat.lt_of_lt_of_le (Array.getElem?_eq_some_iff.1 h).1 hB)]
  exact h

/-- What the reading of a stamp by the document's reader leaves. -/
def LeftS (M i : Nat) (ao : Option Addr) (c : Nat) (l : List UInt8) (w : World) (e : Ending) (w' : World) : Prop :=
  ∃ k bad', e = .returned (.tuple #[.agg #[.int .i64 (rdS (l.drop i)).1, .int .i64 (rdS (l.drop i)).2.1], .int .i64 (rdS (l.drop i)).2.2.1]) ∧ (rdS (l.drop i)).2.2.2 = l.drop (i + k) ∧ i + k ≤ l.length ∧ RefRd w' M (.slice ao l.length c) (i + k) bad' ∧ Turned M w w'

set_option maxRecDepth 100000 in
set_option maxHeartbeats 4000000 in
theorem refget_any (M i : Nat) (bad : Bool) (ao : Option Addr) (c : Nat) (l : List UInt8) (w : World) (hm : RefRd w M (.slice ao l.length c) i bad) (hs : Sl w (.slice ao l.length c) l) (hl : l.length ≤ 1099511627776) (hi : i ≤ l.length) :
    Calls Tryz.prog 88 #[.pointer (some ⟨M, 0, none⟩)] w (LeftS M i ao c l w) := by
  have hMl := hm.lt
  have hB0 : Below w.heap.size w (w.alloc (.cells #[.int .i64 0, .int .i64 0] 36)) := (Below.refl _ _).alloc (Nat.le_refl _) _
  have hm0 := hm.below hB0 (Nat.le_refl _)
  have hs0 := hs.below hB0 (Nat.le_refl _)
  obtain ⟨_, c1, _, _⟩ := hm0.cells
  have hN := refnum_any M i bad ao c l 1099511627776 _ hm0 hs0 hl hi
  have HN := hide hN
  have T0 : Turned M w (w.alloc (.cells #[.int .i64 0, .int .i64 0] 36)) := Turned.of hB0
  clear hN
  go_enter Tryz.func88, Tryz.ntmps88
  go_wp2_with fail
  refine (unhide HN).mono ?_
  rintro e w1 ⟨k, bad1, rfl, hr1, hk1, hm1, ht1⟩
  have hs1 := hs0.touch ht1 hm0 ⟨_, _, _, rfl⟩
  have hne : w.heap.size ≠ M := by omega
  have k0 : w1.cell? ⟨w.heap.size, 0, none⟩ = some (.int .i64 0) := (ht1.cell hne).trans (by go_simp)
  have k1 : w1.cell? ⟨w.heap.size, 1, none⟩ = some (.int .i64 0) := (ht1.cell hne).trans (by go_simp)
  have f0 : w1.frozen? ⟨w.heap.size, 0, none⟩ = false := (ht1.frozen hne).trans (by go_simp)
  have f1 : w1.frozen? ⟨w.heap.size, 1, none⟩ = false := (ht1.frozen hne).trans (by go_simp)
  have T1 := T0.touch ht1
  have HN2 := hide (refnum_any M (i + k) bad1 ao c l 65535 _ hm1 hs1 hl hk1)
  clear ht1 T0 hs0 HN
  go_wp2_with fail
  refine (unhide HN2).mono ?_
  rintro e w2 ⟨k2, bad2, rfl, hr2, hk2, hm2, ht2⟩
  replace k0 := (ht2.cell (p := ⟨w.heap.size, 0, none⟩) hne).trans k0
  replace k1 := (ht2.cell (p := ⟨w.heap.size, 1, none⟩) hne).trans k1
  replace f0 := (ht2.frozen (p := ⟨w.heap.size, 0, none⟩) hne).trans f0
  replace f1 := (ht2.frozen (p := ⟨w.heap.size, 1, none⟩) hne).trans f1
  have T2 := T1.touch ht2
  have hdS : rdS (l.drop i) = if (rdN (l.drop i) 1099511627776).2.1 = 0 ∧ (rdN (l.drop (i + k)) 65535).2.1 = 0 then ((rdN (l.drop i) 1099511627776).1, (rdN (l.drop (i + k)) 65535).1, 0, (rdN (l.drop (i + k)) 65535).2.2) else (0, 0, 11, l.drop i) := by
    rw [← hr1]; rfl
  clear ht2 HN2 T1 hs1 hm1 hm0 c1 hB0
  obtain ⟨d0, d1, d2, df⟩ := hm2.cells
  have hneM : M ≠ w.heap.size := by omega
  have e10 : ∀ v, (w2.setCell ⟨M, 1, none⟩ v).cell? ⟨M, 2, none⟩ = some (.bool bad2) := fun v => (World.cell?_setCell_other _ _ _ _ (by simp)).trans d2
  have g0 : ∀ u v, ((w2.setCell ⟨M, 1, none⟩ u).setCell ⟨M, 2, none⟩ v).cell? ⟨w.heap.size, 0, none⟩ = some (.int .i64 0) := fun u v => ((World.cell?_setCell_other _ _ _ _ (fun e => hneM (congrArg Addr.block e))).trans (World.cell?_setCell_other _ _ _ _ (fun e => hneM (congrArg Addr.block e)))).trans k0
  have g1 : ∀ u v, ((w2.setCell ⟨M, 1, none⟩ u).setCell ⟨M, 2, none⟩ v).cell? ⟨w.heap.size, 1, none⟩ = some (.int .i64 0) := fun u v => ((World.cell?_setCell_other _ _ _ _ (fun e => hneM (congrArg Addr.block e))).trans (World.cell?_setCell_other _ _ _ _ (fun e => hneM (congrArg Addr.block e)))).trans k1
  have Hbad : Hid (rdS (l.drop i) = (0, 0, 11, l.drop i) → LeftS M i ao c l w (.returned (.tuple #[.agg #[.int .i64 0, .int .i64 0], .int .i64 11])) ((((w2.setCell ⟨M, 1, none⟩ (.int .i64 i)).setCell ⟨M, 2, none⟩ (.bool true)).setCell ⟨w.heap.size, 0, none⟩ (.int .i64 0)).setCell ⟨w.heap.size, 1, none⟩ (.int .i64 0))) := fun h => by
    refine ⟨0, true, by rw [h]; rfl, by rw [h]; rfl, hi, ?_, ?_⟩
    · exact ((((hm2.set1 i).set2 true).other (q := ⟨w.heap.size, 0, none⟩) hne _).other (q := ⟨w.heap.size, 1, none⟩) hne _)
    · exact ((T2.touch (((Touch.refl M w2).setCell 1 _).setCell 2 _)).new (Nat.le_refl _) _).new (Nat.le_refl _) _
  generalize hx : rdN (l.drop i) 1099511627776 = X at *
  generalize hy : rdN (l.drop (i + k)) 65535 = Y at *
  have hX : (X.2.1 = 0 ∨ X.2.1 = 11) := by rw [← hx]; rcases rdN_one (l.drop i) 1099511627776 with ⟨h, _⟩ | ⟨h, _⟩ <;> simp [h]
  have hY : (Y.2.1 = 0 ∨ Y.2.1 = 11) := by rw [← hy]; rcases rdN_one (l.drop (i + k)) 65535 with ⟨h, _⟩ | ⟨h, _⟩ <;> simp [h]
  clear hx hy
  obtain ⟨x, ex, rx⟩ := X
  obtain ⟨y, ey, ry⟩ := Y
  simp only at hX hY hdS hr1 hr2
  have Hr2 := hide hr2
  clear hr1 hr2
  rcases hX with rfl | rfl
  · rcases hY with rfl | rfl
    · rw [if_pos ⟨rfl, rfl⟩] at hdS
      have HdS := hide hdS
      clear hdS Hbad g0 g1 e10
      go_wp2
      obtain ⟨p0, p1⟩ := set2 w2 w.heap.size _ _ (.int .i64 x) (.int .i64 y) k0 k1
      refine bodyPost_ret (results_stp2 Tryz.results88 rfl rfl p0 p1) rfl ?_
      refine ⟨k + k2, bad2, by rw [unhide HdS]; rfl, by rw [unhide HdS]; simp only; rw [unhide Hr2, Nat.add_assoc], by omega, ?_, (T2.new (Nat.le_refl _) _).new (Nat.le_refl _) _⟩
      rw [← Nat.add_assoc]
      exact (hm2.other (q := ⟨w.heap.size, 0, none⟩) hne _).other (q := ⟨w.heap.size, 1, none⟩) hne _
    · rw [if_neg (by simp)] at hdS
      have HL := hide (unhide Hbad hdS)
      clear hdS Hbad
      go_wp2
      obtain ⟨p0, p1⟩ := set2 ((w2.setCell ⟨M, 1, none⟩ (.int .i64 i)).setCell ⟨M, 2, none⟩ (.bool true)) w.heap.size _ _ (.int .i64 0) (.int .i64 0) (g0 _ _) (g1 _ _)
      refine bodyPost_ret (results_stp2 Tryz.results88 rfl rfl p0 p1) rfl ?_
      exact unhide HL
  · rw [if_neg (by simp)] at hdS
    have HL := hide (unhide Hbad hdS)
    clear hdS Hbad hY
    go_wp2
    obtain ⟨p0, p1⟩ := set2 ((w2.setCell ⟨M, 1, none⟩ (.int .i64 i)).setCell ⟨M, 2, none⟩ (.bool true)) w.heap.size _ _ (.int .i64 0) (.int .i64 0) (g0 _ _) (g1 _ _)
    refine bodyPost_ret (results_stp2 Tryz.results88 rfl rfl p0 p1) rfl ?_
    exact unhide HL

end Go.Proofs.YtcdehnghggleoaaGreat.P1

/-
  The document's reader: F and G, whether all was well is told too. No law is proved here.
-/
namespace Go.Proofs.YtcdehnghggleoaaGreat.P1
open Go.RowKit
set_option linter.unusedVariables false

theorem refrd_bad4 {M i : Nat} {bad : Bool} {ao : Option Addr} {c : Nat} {l : List UInt8} {w : World} (n : Nat) (hm : RefRd w M (.slice ao l.length c) i bad) (hi : i ≤ l.length) (x : Value) (r : List UInt8) (hr : r = l.drop i) :
    Left4 M i bad ao c l x 11 r w (.returned (.tuple #[x, .int .i64 11])) ((w.drewN n).setCell ⟨M, 2, none⟩ (.bool true)) :=
  ⟨0, rfl, hr, hi, by rw [bad_yes]; exact RefRd.set2 (w := w.drewN n) hm true, ((Touch.refl M w).drewN n).setCell 2 _⟩
theorem refrd_go4 {M i : Nat} {bad : Bool} {ao : Option Addr} {c : Nat} {l : List UInt8} {w : World} {z : Int} (n m k : Nat) (hm : RefRd w M (.slice ao l.length c) i bad) (hi : i + k ≤ l.length) (x : Value) (r : List UInt8) (hz : z = ((i + k : Nat) : Int)) (hr : r = l.drop (i + k)) :
    Left4 M i bad ao c l x 0 r w (.returned (.tuple #[x, .int .i64 0])) (((w.drewN n).setCell ⟨M, 1, none⟩ (.int .i64 z)).drewN m) := by
  subst hz
  exact ⟨k, rfl, hr, hi, by rw [bad_no]; exact RefRd.set1 (w := w.drewN n) hm _, (((Touch.refl M w).drewN n).setCell 1 _).drewN m⟩

set_option maxRecDepth 100000 in
set_option maxHeartbeats 1000000 in
theorem refflagb_any (M i : Nat) (bad : Bool) (ao : Option Addr) (c : Nat) (l : List UInt8) (w : World) (hm : RefRd w M (.slice ao l.length c) i bad) (hs : Sl w (.slice ao l.length c) l) (hl : l.length ≤ 1099511627776) (hi : i ≤ l.length) :
    Calls Tryz.prog 89 #[.pointer (some ⟨M, 0, none⟩)] w (Left4 M i bad ao c l (.bool (rdF (l.drop i)).1) (rdF (l.drop i)).2.1 (rdF (l.drop i)).2.2 w) := by
  obtain ⟨c0, c1, c2, hf⟩ := hm.cells
  have Hm := hide hm
  have Hs := hide hs
  clear hm hs
  by_cases hin : i < l.length
  · have hini : (i : Int) < (l.length : Int) := by omega
    obtain ⟨b, o, rfl⟩ := (unhide Hs).addr (by omega)
    have hc := (unhide Hs).cell i hin
    have hne := (unhide Hs).ne (by omega) (unhide Hm) ⟨_, _, _, rfl⟩
    have hcb : (l[i].toNat : Int) < 256 := by have := l[i].toNat_lt; omega
    have hdr : l.drop i = l[i] :: l.drop (i + 1) := List.drop_eq_getElem_cons hin
    by_cases h2 : l[i].toNat < 2
    · rw [hdr, rdF_yes _ _ h2]
      obtain ⟨cn, hcn⟩ : ∃ cn, Hid (l[i].toNat = cn) := ⟨l[i].toNat, Eq.refl _⟩
      rw [unhide hcn] at hc hcb h2 ⊢
      have h2i : (cn : Int) < 2 := by omega
      have hc' : ∀ n x, ((w.drewN n).setCell ⟨M, 1, none⟩ x).cell? ⟨b, o + i, none⟩ = some (.int .u8 (cn : Int)) := fun n x => by
        rw [World.cell?_setCell_other _ _ _ _ (by intro e; injection e with e1; exact hne e1.symm)]
        exact hc
      clear hdr
      go_enter Tryz.func89, Tryz.ntmps89
      go_wp2_with fail
      go_quiet (fail)
      go_wp2_with fail
      go_quiet (fail)
      go_wp2
      go_ret2
      have e1 : ((cn : Int) == 1) = (cn == 1) := by rw [Bool.eq_iff_iff]; simp; omega
      rw [← e1]
      exact refrd_go4 _ _ 1 (unhide Hm) (by omega) _ _ (by omega) rfl
    · rw [hdr, rdF_no _ _ h2, ← hdr]
      obtain ⟨cn, hcn⟩ : ∃ cn, Hid (l[i].toNat = cn) := ⟨l[i].toNat, Eq.refl _⟩
      rw [unhide hcn] at hc hcb h2
      have h2i : ¬ (cn : Int) < 2 := by omega
      clear hdr
      go_enter Tryz.func89, Tryz.ntmps89
      go_wp2_with fail
      go_quiet (fail)
      go_wp2
      go_ret2
      exact refrd_bad4 _ (unhide Hm) hi _ _ rfl
  · have hini : decide ((i : Int) < (l.length : Int)) = false := by simp; omega
    have hdr : l.drop i = [] := List.drop_eq_nil_of_le (by omega)
    rw [hdr, rdF_nil]
    clear hdr
    go_enter Tryz.func89, Tryz.ntmps89
    go_wp2_with fail
    go_quiet (fail)
    go_wp2
    go_ret2
    exact refrd_bad4 _ (unhide Hm) hi _ _ (List.drop_eq_nil_of_le (by omega)).symm

set_option maxRecDepth 100000 in
theorem reff_any (M i : Nat) (bad : Bool) (ao : Option Addr) (c : Nat) (l : List UInt8) (w : World) (hm : RefRd w M (.slice ao l.length c) i bad) (hs : Sl w (.slice ao l.length c) l) (hl : l.length ≤ 1099511627776) (hi : i ≤ l.length) :
    Calls Tryz.prog 58 #[.pointer (some ⟨M, 0, none⟩)] w
      (LeftN M i bad ao c l (.bool (rdF (l.drop i)).1) (rdF (l.drop i)).2.1 (rdF (l.drop i)).2.2 w) := by
  have HN := hide (refflagb_any M i bad ao c l w hm hs hl hi)
  clear hm hs
  generalize rdF (l.drop i) = y at *
  obtain ⟨y1, y2, y3⟩ := y
  go_enter Tryz.func58, Tryz.ntmps58
  go_wp2_with fail
  refine (unhide HN).mono ?_
  rintro e w1 ⟨k, rfl, hr, hk1, hm1, ht1⟩
  have H1 := hide hm1
  have H2 := hide ht1
  have H3 := hide hr
  clear hm1 ht1 hr HN
  go_wp2
  go_ret
  exact ⟨k, rfl, unhide H3, hk1, unhide H1, unhide H2⟩

theorem sl_setI {w : World} {v : Value} {l : List UInt8} (h : Sl w v l) {p : Addr} {n : Int} (hp : w.cell? p = some (.int .i64 n)) (x : Value) : Sl (w.setCell p x) v l := by
  obtain ⟨bo, d, rfl, h1, h2, h3, h4⟩ := h
  refine ⟨bo, d, rfl, h1, h2, h3, fun a ha j u hu => ?_⟩
  have hc := h4 a ha j u hu
  rw [World.cell?_setCell_other]
  · exact hc
  · intro e
    rw [e, hc] at hp
    rw [bc_get] at hu
    cases hl : l[j]? with
    | none => rw [hl] at hu; cases hu
    | some b => rw [hl] at hu; cases hu; cases hp
theorem Turned.trans {M : Nat} {a b c : World} (h : Turned M a b) (k : Turned M b c) : Turned M a c :=
  ⟨k.os.trans h.os, k.tape.trans h.tape, k.output.trans h.output, Nat.le_trans h.size k.size, fun q hq hn => (k.block q (Nat.lt_of_lt_of_le hq h.size) hn).trans (h.block q hq hn)⟩

/-- What the reading of a stamp by the document's reader leaves. -/
def LeftG (M i : Nat) (bad : Bool) (ao : Option Addr) (c : Nat) (l : List UInt8) (w : World) (x : Value) (w' : World) : Prop :=
  ∃ k, x = .agg #[.int .i64 (rdS (l.drop i)).1, .int .i64 (rdS (l.drop i)).2.1] ∧ (rdS (l.drop i)).2.2.2 = l.drop (i + k) ∧ i + k ≤ l.length ∧ RefRd w' M (.slice ao l.length c) (i + k) (bad || (rdS (l.drop i)).2.2.1 != 0) ∧ Sl w' (.slice ao l.length c) l ∧ Turned M w w'

set_option maxRecDepth 100000 in
set_option maxHeartbeats 4000000 in
theorem refgetb_any (M i : Nat) (bad : Bool) (ao : Option Addr) (c : Nat) (l : List UInt8) (w : World) (hm : RefRd w M (.slice ao l.length c) i bad) (hs : Sl w (.slice ao l.length c) l) (hl : l.length ≤ 1099511627776) (hi : i ≤ l.length) :
    Calls Tryz.prog 88 #[.pointer (some ⟨M, 0, none⟩)] w fun e w' => ∃ x er, e = .returned (.tuple #[x, .int .i64 er]) ∧ LeftG M i bad ao c l w x w' := by
  have hMl := hm.lt
  have hB0 : Below w.heap.size w (w.alloc (.cells #[.int .i64 0, .int .i64 0] 36)) := (Below.refl _ _).alloc (Nat.le_refl _) _
  have hm0 := hm.below hB0 (Nat.le_refl _)
  have hs0 := hs.below hB0 (Nat.le_refl _)
  obtain ⟨_, c1, _, _⟩ := hm0.cells
  have hN := refnumb_any M i bad ao c l 1099511627776 _ hm0 hs0 hl hi
  have HN := hide hN
  have T0 : Turned M w (w.alloc (.cells #[.int .i64 0, .int .i64 0] 36)) := Turned.of hB0
  clear hN
  go_enter Tryz.func88, Tryz.ntmps88
  go_wp2_with fail
  refine (unhide HN).mono ?_
  rintro e w1 ⟨k, rfl, hr1, hk1, hm1, ht1⟩
  have hs1 := hs0.touch ht1 hm0 ⟨_, _, _, rfl⟩
  have hne : w.heap.size ≠ M := by omega
  have k0 : w1.cell? ⟨w.heap.size, 0, none⟩ = some (.int .i64 0) := (ht1.cell hne).trans (by go_simp)
  have k1 : w1.cell? ⟨w.heap.size, 1, none⟩ = some (.int .i64 0) := (ht1.cell hne).trans (by go_simp)
  have f0 : w1.frozen? ⟨w.heap.size, 0, none⟩ = false := (ht1.frozen hne).trans (by go_simp)
  have f1 : w1.frozen? ⟨w.heap.size, 1, none⟩ = false := (ht1.frozen hne).trans (by go_simp)
  have T1 := T0.touch ht1
  have HN2 := hide (refnumb_any M (i + k) _ ao c l 65535 _ hm1 hs1 hl hk1)
  have Hs1 := hide hs1
  clear ht1 T0 hs0 HN
  go_wp2_with fail
  refine (unhide HN2).mono ?_
  rintro e w2 ⟨k2, rfl, hr2, hk2, hm2, ht2⟩
  have hs2 := (unhide Hs1).touch ht2 hm1 ⟨_, _, _, rfl⟩
  replace k0 := (ht2.cell (p := ⟨w.heap.size, 0, none⟩) hne).trans k0
  replace k1 := (ht2.cell (p := ⟨w.heap.size, 1, none⟩) hne).trans k1
  replace f0 := (ht2.frozen (p := ⟨w.heap.size, 0, none⟩) hne).trans f0
  replace f1 := (ht2.frozen (p := ⟨w.heap.size, 1, none⟩) hne).trans f1
  have T2 := T1.touch ht2
  have hdS : rdS (l.drop i) = if (rdN (l.drop i) 1099511627776).2.1 = 0 ∧ (rdN (l.drop (i + k)) 65535).2.1 = 0 then ((rdN (l.drop i) 1099511627776).1, (rdN (l.drop (i + k)) 65535).1, 0, (rdN (l.drop (i + k)) 65535).2.2) else (0, 0, 11, l.drop i) := by
    rw [← hr1]; rfl
  clear ht2 HN2 T1 hs1 hm1 hm0 c1 hB0 Hs1
  obtain ⟨d0, d1, d2, df⟩ := hm2.cells
  have hneM : M ≠ w.heap.size := by omega
  have e10 : ∀ v, (w2.setCell ⟨M, 1, none⟩ v).cell? ⟨M, 2, none⟩ = some (.bool ((bad || (rdN (l.drop i) 1099511627776).2.1 != 0) || (rdN (l.drop (i + k)) 65535).2.1 != 0)) := fun v => (World.cell?_setCell_other _ _ _ _ (by simp)).trans d2
  have g0 : ∀ u v, ((w2.setCell ⟨M, 1, none⟩ u).setCell ⟨M, 2, none⟩ v).cell? ⟨w.heap.size, 0, none⟩ = some (.int .i64 0) := fun u v => ((World.cell?_setCell_other _ _ _ _ (fun e => hneM (congrArg Addr.block e))).trans (World.cell?_setCell_other _ _ _ _ (fun e => hneM (congrArg Addr.block e)))).trans k0
  have g1 : ∀ u v, ((w2.setCell ⟨M, 1, none⟩ u).setCell ⟨M, 2, none⟩ v).cell? ⟨w.heap.size, 1, none⟩ = some (.int .i64 0) := fun u v => ((World.cell?_setCell_other _ _ _ _ (fun e => hneM (congrArg Addr.block e))).trans (World.cell?_setCell_other _ _ _ _ (fun e => hneM (congrArg Addr.block e)))).trans k1
  have sT : ∀ w3 x, Sl w3 (.slice ao l.length c) l → w3.cell? ⟨w.heap.size, 0, none⟩ = some (.int .i64 0) → w3.cell? ⟨w.heap.size, 1, none⟩ = some (.int .i64 0) → ∀ y, Sl ((w3.setCell ⟨w.heap.size, 0, none⟩ x).setCell ⟨w.heap.size, 1, none⟩ y) (.slice ao l.length c) l := fun w3 x h a b y =>
    sl_setI (sl_setI h a x) (n := 0) ((World.cell?_setCell_other _ _ _ _ (by simp)).trans b) y
  have Hbad : Hid (rdS (l.drop i) = (0, 0, 11, l.drop i) → LeftG M i bad ao c l w (.agg #[.int .i64 0, .int .i64 0]) ((((w2.setCell ⟨M, 1, none⟩ (.int .i64 i)).setCell ⟨M, 2, none⟩ (.bool true)).setCell ⟨w.heap.size, 0, none⟩ (.int .i64 0)).setCell ⟨w.heap.size, 1, none⟩ (.int .i64 0))) := fun h => by
    have ht : Touch M w2 ((w2.setCell ⟨M, 1, none⟩ (.int .i64 i)).setCell ⟨M, 2, none⟩ (.bool true)) := ((Touch.refl M w2).setCell 1 _).setCell 2 _
    refine ⟨0, by rw [h]; rfl, by rw [h]; rfl, hi, ?_, sT _ _ (hs2.touch ht hm2 ⟨_, _, _, rfl⟩) (g0 _ _) (g1 _ _) _, ?_⟩
    · rw [h]
      simp only [bad_yes]
      exact ((((hm2.set1 i).set2 true).other (q := ⟨w.heap.size, 0, none⟩) hne _).other (q := ⟨w.heap.size, 1, none⟩) hne _)
    · exact ((T2.touch ht).new (Nat.le_refl _) _).new (Nat.le_refl _) _
  have Hs2 := hide hs2
  have HsT := hide sT
  clear hs2 sT
  generalize hx : rdN (l.drop i) 1099511627776 = X at *
  generalize hy : rdN (l.drop (i + k)) 65535 = Y at *
  have hX : (X.2.1 = 0 ∨ X.2.1 = 11) := by rw [← hx]; rcases rdN_one (l.drop i) 1099511627776 with ⟨h, _⟩ | ⟨h, _⟩ <;> simp [h]
  have hY : (Y.2.1 = 0 ∨ Y.2.1 = 11) := by rw [← hy]; rcases rdN_one (l.drop (i + k)) 65535 with ⟨h, _⟩ | ⟨h, _⟩ <;> simp [h]
  clear hx hy
  obtain ⟨x, ex, rx⟩ := X
  obtain ⟨y, ey, ry⟩ := Y
  simp only at hX hY hdS hr1 hr2
  have Hr2 := hide hr2
  clear hr1 hr2
  rcases hX with rfl | rfl
  · rcases hY with rfl | rfl
    · rw [if_pos ⟨rfl, rfl⟩] at hdS
      have HdS := hide hdS
      simp only [bad_no] at hm2 d2
      have Hm2 := hide hm2
      clear hdS Hbad g0 g1 e10 hm2
      go_wp2
      obtain ⟨p0, p1⟩ := set2 w2 w.heap.size _ _ (.int .i64 x) (.int .i64 y) k0 k1
      refine bodyPost_ret (results_stp2 Tryz.results88 rfl rfl p0 p1) rfl ?_
      refine ⟨_, _, rfl, k + k2, by rw [unhide HdS], by rw [unhide HdS]; simp only; rw [unhide Hr2, Nat.add_assoc], by omega, ?_, unhide HsT _ _ (unhide Hs2) k0 k1 _, (T2.new (Nat.le_refl _) _).new (Nat.le_refl _) _⟩
      rw [← Nat.add_assoc, unhide HdS]
      simp only [bad_no]
      exact ((unhide Hm2).other (q := ⟨w.heap.size, 0, none⟩) hne _).other (q := ⟨w.heap.size, 1, none⟩) hne _
    · rw [if_neg (by simp)] at hdS
      have HL := hide (unhide Hbad hdS)
      simp only [bad_no, bad_yes] at d2 e10
      clear hdS Hbad hm2
      go_wp2
      obtain ⟨p0, p1⟩ := set2 ((w2.setCell ⟨M, 1, none⟩ (.int .i64 i)).setCell ⟨M, 2, none⟩ (.bool true)) w.heap.size _ _ (.int .i64 0) (.int .i64 0) (g0 _ _) (g1 _ _)
      refine bodyPost_ret (results_stp2 Tryz.results88 rfl rfl p0 p1) rfl ?_
      exact ⟨_, _, rfl, unhide HL⟩
  · rw [if_neg (by simp)] at hdS
    have HL := hide (unhide Hbad hdS)
    simp only [bad_yes, Bool.true_or] at d2 e10
    clear hdS Hbad hY hm2
    go_wp2
    obtain ⟨p0, p1⟩ := set2 ((w2.setCell ⟨M, 1, none⟩ (.int .i64 i)).setCell ⟨M, 2, none⟩ (.bool true)) w.heap.size _ _ (.int .i64 0) (.int .i64 0) (g0 _ _) (g1 _ _)
    refine bodyPost_ret (results_stp2 Tryz.results88 rfl rfl p0 p1) rfl ?_
    exact ⟨_, _, rfl, unhide HL⟩

end Go.Proofs.YtcdehnghggleoaaGreat.P1

/-
  One key's versions, by lists: which is read, what is in doubt, what rises. Of no program. No law is proved here.
-/
namespace Go.Proofs.YtcdehnghggleoaaGreat
set_option linter.unusedVariables false

/-- A stamp: wall, logical. -/
abbrev Stp := Int × Int
def ltB (a b : Stp) : Bool := decide (a.1 < b.1 ∨ a.1 = b.1 ∧ a.2 < b.2)
def okS (a : Stp) : Bool := decide (0 ≤ a.1 ∧ a.1 ≤ 1099511627776 ∧ 0 ≤ a.2 ∧ a.2 ≤ 65535)
/-- Not above. -/
def upB (a b : Stp) : Bool := !ltB b a

theorem ltB_iff (a b : Stp) : ltB a b = true ↔ (a.1 < b.1 ∨ a.1 = b.1 ∧ a.2 < b.2) := by unfold ltB; simp
theorem ltB_not (a b : Stp) : ltB a b = false ↔ ¬ (a.1 < b.1 ∨ a.1 = b.1 ∧ a.2 < b.2) := by unfold ltB; simp
theorem upB_iff (a b : Stp) : upB a b = true ↔ ¬ (b.1 < a.1 ∨ b.1 = a.1 ∧ b.2 < a.2) := by unfold upB; rw [Bool.not_eq_true', ltB_not]
theorem upB_not (a b : Stp) : upB a b = false ↔ (b.1 < a.1 ∨ b.1 = a.1 ∧ b.2 < a.2) := by unfold upB; rw [Bool.not_eq_false', ltB_iff]

theorem ltB_trans {a b c : Stp} (h : ltB a b = true) (k : ltB b c = true) : ltB a c = true := by rw [ltB_iff] at *; omega
theorem ltB_irr (a : Stp) : ltB a a = false := by rw [ltB_not]; omega
theorem upB_self (a : Stp) : upB a a = true := by rw [upB_iff]; omega
theorem upB_of_lt {a b : Stp} (h : ltB a b = true) : upB a b = true := by rw [ltB_iff] at h; rw [upB_iff]; omega
theorem upB_trans {a b c : Stp} (h : upB a b = true) (k : upB b c = true) : upB a c = true := by rw [upB_iff] at *; omega
theorem upB_lt {a b c : Stp} (h : ltB a b = true) (k : upB b c = true) : upB a c = true := upB_trans (upB_of_lt h) k
theorem stp_eq {a b : Stp} (h : upB a b = true) (k : upB b a = true) : a = b := by
  rw [upB_iff] at *
  obtain ⟨x, y⟩ := a
  obtain ⟨u, v⟩ := b
  simp only at *
  rw [Prod.mk.injEq]
  omega

/-- A version: its stamp, its value, whether it is gone, whose it is. -/
structure Ver where
  at_ : Stp
  val : ByteArray
  gone : Bool
  by_ : Int

def lastS (vs : List Ver) : Option Stp := vs.getLast?.map (·.at_)

/-- Their stamps are right, and rise. -/
def riseB : List Ver → Bool
  | [] => true
  | v :: r => okS v.at_ && (match r with | [] => true | u :: _ => ltB v.at_ u.at_) && riseB r

theorem riseB_cons (v : Ver) (r : List Ver) : riseB (v :: r) = true ↔ okS v.at_ = true ∧ (∀ u, r.head? = some u → ltB v.at_ u.at_ = true) ∧ riseB r = true := by
  cases r with
  | nil => simp [riseB]
  | cons u q => simp [riseB, and_assoc]

/-- All behind the first are above it. -/
theorem rise_above : ∀ (r : List Ver) (v : Ver), riseB (v :: r) = true → ∀ u ∈ r, ltB v.at_ u.at_ = true
  | [], v, h, u, hu => by cases hu
  | x :: q, v, h, u, hu => by
    obtain ⟨h1, h2, h3⟩ := (riseB_cons v (x :: q)).1 h
    have hx := h2 x rfl
    rcases List.mem_cons.1 hu with rfl | hq
    · exact hx
    · exact ltB_trans hx (rise_above q x h3 u hq)

theorem rise_snoc : ∀ (vs : List Ver) (v : Ver), riseB (vs ++ [v]) = true ↔ riseB vs = true ∧ okS v.at_ = true ∧ ∀ s, lastS vs = some s → ltB s v.at_ = true
  | [], v => by simp [riseB, lastS]
  | x :: r, v => by
    rw [List.cons_append, riseB_cons, riseB_cons, rise_snoc r v]
    cases r with
    | nil =>
      simp [lastS, riseB]
      intro _
      exact And.comm
    | cons u q =>
      have e : lastS (x :: u :: q) = lastS (u :: q) := by simp [lastS]
      rw [e]
      simp only [List.cons_append, List.head?_cons]
      constructor
      · rintro ⟨a, b, c, d, f⟩; exact ⟨⟨a, b, c⟩, d, f⟩
      · rintro ⟨⟨a, b, c⟩, d, f⟩; exact ⟨a, b, c, d, f⟩

theorem rise_last (vs : List Ver) (h : riseB vs = true) (s : Stp) (hs : lastS vs = some s) : okS s = true ∧ ∀ u ∈ vs, upB u.at_ s = true := by
  rcases List.eq_nil_or_concat vs with rfl | ⟨r, v, rfl⟩
  · cases hs
  · rw [List.concat_eq_append] at *
    obtain ⟨h1, h2, h3⟩ := (rise_snoc r v).1 h
    have e : s = v.at_ := by simpa [lastS] using hs.symm
    subst e
    refine ⟨h2, fun u hu => ?_⟩
    rcases List.mem_append.1 hu with hu | hu
    · clear hs
      induction r with
      | nil => cases hu
      | cons x q ih =>
        have hab := rise_above (q ++ [v]) x (by simpa using h)
        rcases List.mem_cons.1 hu with rfl | hq
        · exact upB_of_lt (hab v (by simp))
        · have hq' := (riseB_cons x (q ++ [v])).1 (by simpa using h)
          have hs2 := (rise_snoc q v).1 hq'.2.2
          exact ih hq'.2.2 hs2.1 hs2.2.2 (by simp [hq]) hq
    · simp at hu; subst hu; exact upB_self _

/-- The last version that is not above a stamp. -/
def bestV (vs : List Ver) (a : Stp) : Option Ver := (vs.filter fun v => upB v.at_ a).getLast?
/-- The last version that is above it, and not above a limit. -/
def doubtV (vs : List Ver) (a l : Stp) : Option Ver := (vs.filter fun v => !upB v.at_ a && upB v.at_ l).getLast?

theorem bestV_snoc (vs : List Ver) (v : Ver) (a : Stp) : bestV (vs ++ [v]) a = if upB v.at_ a = true then some v else bestV vs a := by
  unfold bestV
  rw [List.filter_append]
  by_cases h : upB v.at_ a = true
  · rw [if_pos h]; simp [h]
  · rw [if_neg h]; simp [h]
theorem doubtV_snoc (vs : List Ver) (v : Ver) (a l : Stp) : doubtV (vs ++ [v]) a l = if upB v.at_ a = false ∧ upB v.at_ l = true then some v else doubtV vs a l := by
  unfold doubtV
  rw [List.filter_append]
  by_cases h : upB v.at_ a = false ∧ upB v.at_ l = true
  · rw [if_pos h]; simp [h.1, h.2]
  · rw [if_neg h]
    have e : (!upB v.at_ a && upB v.at_ l) = false := by
      cases h1 : upB v.at_ a <;> cases h2 : upB v.at_ l <;> simp_all
    simp [e]
theorem doubtV_self (vs : List Ver) (a : Stp) : doubtV vs a a = none := by
  unfold doubtV
  have e : (fun v : Ver => !upB v.at_ a && upB v.at_ a) = fun _ => false := by
    funext v
    cases upB v.at_ a <;> rfl
  rw [e]
  simp

/-- In versions that rise, those not above a stamp are the first ones. -/
theorem rise_take : ∀ (vs : List Ver) (a : Stp), riseB vs = true → vs.filter (fun v => upB v.at_ a) = vs.takeWhile (fun v => upB v.at_ a)
  | [], a, _ => rfl
  | v :: r, a, h => by
    have hr := ((riseB_cons v r).1 h).2.2
    by_cases hv : upB v.at_ a = true
    · rw [List.filter_cons_of_pos (by simpa using hv), List.takeWhile_cons_of_pos (by simpa using hv), rise_take r a hr]
    · rw [List.takeWhile_cons_of_neg (by simpa using hv)]
      rw [List.filter_eq_nil_iff]
      intro u hu
      rcases List.mem_cons.1 hu with rfl | hq
      · exact hv
      · intro hup
        exact hv (upB_lt (rise_above r v h u hq) hup)

/-- How many are not above a stamp. -/
def cntV (vs : List Ver) (a : Stp) : Nat := (vs.takeWhile fun v => upB v.at_ a).length

theorem cntV_le (vs : List Ver) (a : Stp) : cntV vs a ≤ vs.length := by
  unfold cntV
  exact (List.takeWhile_sublist _).length_le

theorem rise_cnt : ∀ (vs : List Ver) (a : Stp), riseB vs = true → ∀ i (h : i < vs.length), (i < cntV vs a ↔ upB vs[i].at_ a = true)
  | v :: r, a, h, i, hi => by
    have hr := ((riseB_cons v r).1 h).2.2
    by_cases hv : upB v.at_ a = true
    · have e : cntV (v :: r) a = cntV r a + 1 := by unfold cntV; rw [List.takeWhile_cons_of_pos (by simpa using hv)]; rfl
      cases i with
      | zero => simp [e, hv]
      | succ i =>
        rw [e]
        have := rise_cnt r a hr i (by simpa using hi)
        simp only [List.getElem_cons_succ]
        rw [← this]
        omega
    · have e : cntV (v :: r) a = 0 := by unfold cntV; rw [List.takeWhile_cons_of_neg (by simpa using hv)]; rfl
      rw [e]
      constructor
      · intro h0; omega
      · intro hup
        exfalso
        cases i with
        | zero => exact hv hup
        | succ i =>
          simp only [List.getElem_cons_succ] at hup
          exact hv (upB_lt (rise_above r v h _ (List.getElem_mem _)) hup)

theorem bestV_cnt (vs : List Ver) (a : Stp) (h : riseB vs = true) : bestV vs a = (vs.take (cntV vs a)).getLast? := by
  unfold bestV cntV
  rw [rise_take vs a h]
  congr 1
  exact (List.prefix_iff_eq_take.1 (List.takeWhile_prefix _))

end Go.Proofs.YtcdehnghggleoaaGreat

/-
  A chain: what is written, decided and read, by lists. Of no program. No law is proved here.
-/
namespace Go.Proofs.YtcdehnghggleoaaGreat
set_option linter.unusedVariables false

/-- Who a transaction is. -/
structure Met where
  id : Int
  ep : Int
  anchor : ByteArray
  start : Stp
/-- What is not decided. -/
structure Itn where
  txn : Met
  seq : Int
  at_ : Stp
  val : ByteArray
  gone : Bool
structure Chn where
  vs : List Ver
  opn : Bool
  itn : Itn
def Met.zero : Met := ⟨0, 0, ⟨#[]⟩, (0, 0)⟩
def Itn.zero : Itn := ⟨Met.zero, 0, (0, 0), ⟨#[]⟩, false⟩
def Chn.zero : Chn := ⟨[], false, Itn.zero⟩
def Ver.zero : Ver := ⟨(0, 0), ⟨#[]⟩, false, 0⟩

def nextS (s : Stp) : Option Stp :=
  if okS s = true then (if s.2 = 65535 then (if s.1 < 1099511627776 then some (s.1 + 1, 0) else none) else some (s.1, s.2 + 1)) else none
def maxS (a b : Stp) : Stp := if ltB a b = true then b else a

theorem nextS_lt {s n : Stp} (h : nextS s = some n) : ltB s n = true ∧ okS n = true := by
  unfold nextS at h
  split at h
  · rename_i ho
    unfold okS at ho
    simp only [decide_eq_true_eq] at ho
    split at h
    · split at h
      · injection h with h; subst h
        refine ⟨by rw [ltB_iff]; left; show s.1 < s.1 + 1; omega, ?_⟩
        unfold okS
        simp only [decide_eq_true_eq]
        omega
      · cases h
    · injection h with h; subst h
      refine ⟨by rw [ltB_iff]; right; exact ⟨rfl, by show s.2 < s.2 + 1; omega⟩, ?_⟩
      unfold okS
      simp only [decide_eq_true_eq]
      omega
  · cases h

theorem maxS_left (a b : Stp) : upB a (maxS a b) = true := by
  unfold maxS
  split
  · exact upB_of_lt (by assumption)
  · exact upB_self a
theorem maxS_right (a b : Stp) : upB b (maxS a b) = true := by
  unfold maxS
  split
  · exact upB_self b
  · rename_i h
    rw [Bool.not_eq_true, ltB_not] at h
    rw [upB_iff]
    exact h
theorem lt_up {a b c : Stp} (h : ltB a b = true) (k : upB b c = true) : ltB a c = true := by
  rw [ltB_iff] at *
  rw [upB_iff] at k
  omega

/-- A chain is right. -/
def rightC (c : Chn) : Prop := riseB c.vs = true ∧ (c.opn = true → okS c.itn.at_ = true ∧ ∀ s, lastS c.vs = some s → ltB s c.itn.at_ = true) ∧ (c.opn = false → c.itn = Itn.zero)

theorem rightC_zero : rightC Chn.zero := ⟨rfl, fun h => (by cases h), fun _ => rfl⟩

/-- The stamp that an intent is to have. -/
def atC (c : Chn) (i : Itn) : Option Stp :=
  ((match lastS c.vs with | none => some i.at_ | some s => (nextS s).map (maxS i.at_)).map fun a => if c.opn = true then maxS a c.itn.at_ else a)

theorem atC_above {c : Chn} {i : Itn} {a : Stp} (h : atC c i = some a) : upB i.at_ a = true ∧ (∀ s, lastS c.vs = some s → ltB s a = true) ∧ (c.opn = true → upB c.itn.at_ a = true) := by
  unfold atC at h
  obtain ⟨x, hx, rfl⟩ := Option.map_eq_some_iff.1 h
  have hup : upB x (if c.opn = true then maxS x c.itn.at_ else x) = true := by
    split
    · exact maxS_left _ _
    · exact upB_self x
  have h3 : c.opn = true → upB c.itn.at_ (if c.opn = true then maxS x c.itn.at_ else x) = true := fun ho => by
    rw [if_pos ho]
    exact maxS_right _ _
  cases hl : lastS c.vs with
  | none =>
    rw [hl] at hx
    simp only [Option.some.injEq] at hx
    subst hx
    exact ⟨hup, fun s hs => (by cases hs), h3⟩
  | some s =>
    rw [hl] at hx
    obtain ⟨n, hn, rfl⟩ := Option.map_eq_some_iff.1 hx
    refine ⟨upB_trans (maxS_left _ _) hup, fun s' hs' => ?_, h3⟩
    injection hs' with hs'
    subst hs'
    exact lt_up (lt_up (nextS_lt hn).1 (maxS_right _ _)) hup

/-- An intent is laid: the chain, its stamp, whose intent is in the way, the error. -/
def writeC (c : Chn) (i : Itn) : Chn × Stp × Met × Int :=
  if c.opn = true ∧ c.itn.txn.id ≠ i.txn.id then (Chn.zero, (0, 0), c.itn.txn, 81)
  else if (c.vs.any fun v => decide (v.by_ = i.txn.id)) = true then (Chn.zero, (0, 0), Met.zero, 83)
  else if c.opn = true ∧ i.txn.ep < c.itn.txn.ep then (Chn.zero, (0, 0), Met.zero, 84)
  else if c.opn = true ∧ c.itn.txn.ep = i.txn.ep ∧ i.seq ≤ c.itn.seq then (c, c.itn.at_, Met.zero, 0)
  else match atC c i with
    | none => (Chn.zero, (0, 0), Met.zero, 31)
    | some a => if okS a = true then (⟨c.vs, true, { i with at_ := a }⟩, a, Met.zero, 0) else (Chn.zero, (0, 0), Met.zero, 31)

/-- Where an intent is laid: the chain as it is, with its own there already; or the intent in its place. -/
theorem writeC_ok {c x : Chn} {i : Itn} {a : Stp} {m : Met} (h : writeC c i = (x, a, m, 0)) : m = Met.zero ∧ (c.opn = true → c.itn.txn.id = i.txn.id) ∧ (∀ v ∈ c.vs, v.by_ ≠ i.txn.id) ∧
    ((x = c ∧ a = c.itn.at_ ∧ c.opn = true ∧ c.itn.txn.ep = i.txn.ep ∧ i.seq ≤ c.itn.seq) ∨ (atC c i = some a ∧ okS a = true ∧ x = ⟨c.vs, true, { i with at_ := a }⟩)) := by
  unfold writeC at h
  split at h
  · simp at h
  rename_i h1
  split at h
  · simp at h
  rename_i h2
  have hby : ∀ v ∈ c.vs, v.by_ ≠ i.txn.id := fun v hv e => h2 (by rw [List.any_eq_true]; exact ⟨v, hv, by simp [e]⟩)
  have hid : c.opn = true → c.itn.txn.id = i.txn.id := fun ho => by
    rcases Classical.em (c.itn.txn.id = i.txn.id) with e | e
    · exact e
    · exact absurd ⟨ho, e⟩ h1
  split at h
  · simp at h
  split at h
  · rename_i h4
    simp only [Prod.mk.injEq] at h
    obtain ⟨rfl, rfl, rfl, _⟩ := h
    exact ⟨rfl, hid, hby, .inl ⟨rfl, rfl, h4.1, h4.2.1, h4.2.2⟩⟩
  cases ha : atC c i with
  | none => rw [ha] at h; simp at h
  | some b =>
    rw [ha] at h
    simp only at h
    split at h
    · rename_i ho
      simp only [Prod.mk.injEq] at h
      obtain ⟨rfl, rfl, rfl, _⟩ := h
      exact ⟨rfl, hid, hby, .inr ⟨rfl, ho, rfl⟩⟩
    · simp at h

theorem writeC_right {c x : Chn} {i : Itn} {a : Stp} {m : Met} (hr : rightC c) (h : writeC c i = (x, a, m, 0)) : rightC x := by
  obtain ⟨_, _, _, hx⟩ := writeC_ok h
  rcases hx with ⟨rfl, _⟩ | ⟨h1, h2, rfl⟩
  · exact hr
  · exact ⟨hr.1, fun _ => ⟨h2, (atC_above h1).2.1⟩, fun h => by cases h⟩

/-- An intent is decided. -/
def resolveC (c : Chn) (id ep : Int) (commit : Bool) (a : Stp) : Chn × Int :=
  if c.opn = false ∨ c.itn.txn.id ≠ id then (c, 0)
  else if commit = false ∧ ep < c.itn.txn.ep then (c, 0)
  else if commit = true ∧ c.itn.txn.ep = ep then
    if okS a = true ∧ (∀ s, lastS c.vs = some s → ltB s a = true) then (⟨c.vs ++ [⟨a, c.itn.val, c.itn.gone, id⟩], false, Itn.zero⟩, 0) else (Chn.zero, 84)
  else (⟨c.vs, false, Itn.zero⟩, 0)

theorem resolveC_ok {c x : Chn} {id ep : Int} {commit : Bool} {a : Stp} (h : resolveC c id ep commit a = (x, 0)) :
    (x = c ∧ (c.opn = false ∨ c.itn.txn.id ≠ id ∨ (commit = false ∧ ep < c.itn.txn.ep))) ∨
    (c.opn = true ∧ c.itn.txn.id = id ∧ ((commit = true ∧ c.itn.txn.ep = ep ∧ okS a = true ∧ (∀ s, lastS c.vs = some s → ltB s a = true) ∧ x = ⟨c.vs ++ [⟨a, c.itn.val, c.itn.gone, id⟩], false, Itn.zero⟩) ∨ (¬ (commit = true ∧ c.itn.txn.ep = ep) ∧ x = ⟨c.vs, false, Itn.zero⟩))) := by
  unfold resolveC at h
  split at h
  · rename_i h1
    simp only [Prod.mk.injEq, and_true] at h
    exact .inl ⟨h.symm, h1.elim .inl (fun e => .inr (.inl e))⟩
  rename_i h1
  have ho : c.opn = true := by cases hh : c.opn <;> simp_all
  have hid : c.itn.txn.id = id := by
    rcases Classical.em (c.itn.txn.id = id) with e | e
    · exact e
    · exact absurd (.inr e) h1
  split at h
  · rename_i h2
    simp only [Prod.mk.injEq, and_true] at h
    exact .inl ⟨h.symm, .inr (.inr h2)⟩
  split at h
  · rename_i h3
    split at h
    · rename_i h4
      simp only [Prod.mk.injEq, and_true] at h
      exact .inr ⟨ho, hid, .inl ⟨h3.1, h3.2, h4.1, h4.2, h.symm⟩⟩
    · simp at h
  · rename_i h3
    simp only [Prod.mk.injEq, and_true] at h
    exact .inr ⟨ho, hid, .inr ⟨h3, h.symm⟩⟩

theorem resolveC_right {c x : Chn} {id ep : Int} {commit : Bool} {a : Stp} (hr : rightC c) (h : resolveC c id ep commit a = (x, 0)) : rightC x := by
  rcases resolveC_ok h with ⟨rfl, _⟩ | ⟨_, _, ⟨_, _, h1, h2, rfl⟩ | ⟨_, rfl⟩⟩
  · exact hr
  · exact ⟨(rise_snoc _ _).2 ⟨hr.1, h1, h2⟩, fun h => (by cases h), fun _ => rfl⟩
  · exact ⟨hr.1, fun h => (by cases h), fun _ => rfl⟩

/-- What is read: the version, whether there is one, whose intent is in the way, the error. -/
def readC (c : Chn) (a l : Stp) (id ep : Int) : Ver × Bool × Met × Int :=
  if c.opn = true ∧ c.itn.txn.id = id ∧ c.itn.txn.ep = ep then
    (if c.itn.gone = true then (Ver.zero, false, Met.zero, 0) else (⟨c.itn.at_, c.itn.val, false, id⟩, true, Met.zero, 0))
  else if c.opn = true ∧ c.itn.txn.id ≠ id ∧ upB c.itn.at_ l = true then (Ver.zero, false, c.itn.txn, 81)
  else match doubtV c.vs a l with
    | some v => (⟨v.at_, ⟨#[]⟩, false, 0⟩, false, Met.zero, 82)
    | none => match bestV c.vs a with
      | some v => if v.gone = true then (Ver.zero, false, Met.zero, 0) else (v, true, Met.zero, 0)
      | none => (Ver.zero, false, Met.zero, 0)

/-- What is read of versions alone. -/
def seenV (vs : List Ver) (a : Stp) : Ver × Bool × Met × Int :=
  match bestV vs a with
  | some v => if v.gone = true then (Ver.zero, false, Met.zero, 0) else (v, true, Met.zero, 0)
  | none => (Ver.zero, false, Met.zero, 0)

/-- By one who has no intent, where none is in the way, up to the stamp itself. -/
theorem readC_self {c : Chn} {a : Stp} {id ep : Int} (h : c.opn = true → c.itn.txn.id ≠ id ∧ upB c.itn.at_ a = false) : readC c a a id ep = seenV c.vs a := by
  unfold readC
  rw [if_neg (fun k => (h k.1).1 k.2.1), if_neg (fun k => by have := (h k.1).2; rw [k.2.2] at this; cases this), doubtV_self]
  rfl

theorem seenV_snoc (vs : List Ver) (v : Ver) (a : Stp) (h : ltB a v.at_ = true) : seenV (vs ++ [v]) a = seenV vs a := by
  unfold seenV
  rw [bestV_snoc, if_neg]
  intro k
  rw [upB_iff] at k
  rw [ltB_iff] at h
  omega

/-- Whether it can be refreshed. -/
def refreshC (c : Chn) (id : Int) (f t : Stp) : Met × Int :=
  if c.opn = true ∧ c.itn.txn.id ≠ id ∧ upB c.itn.at_ t = true then (c.itn.txn, 81)
  else if (c.vs.any fun v => !upB v.at_ f && upB v.at_ t) = true then (Met.zero, 221) else (Met.zero, 0)

/-- Nothing between: what is read at the one is read at the other. -/
theorem refreshC_seen {c : Chn} {id : Int} {f t : Stp} {m : Met} (hlt : ltB f t = true) (h : refreshC c id f t = (m, 0)) :
    (c.opn = true → c.itn.txn.id = id ∨ upB c.itn.at_ t = false) ∧ doubtV c.vs f t = none ∧ bestV c.vs f = bestV c.vs t := by
  unfold refreshC at h
  split at h
  · simp at h
  rename_i h1
  split at h
  · simp at h
  rename_i h2
  have hno : ∀ v ∈ c.vs, (!upB v.at_ f && upB v.at_ t) = false := fun v hv => by
    cases hh : (!upB v.at_ f && upB v.at_ t)
    · rfl
    · exact absurd (List.any_eq_true.2 ⟨v, hv, hh⟩) h2
  refine ⟨fun ho => ?_, ?_, ?_⟩
  · rcases Classical.em (c.itn.txn.id = id) with e | e
    · exact .inl e
    · right
      cases hh : upB c.itn.at_ t
      · rfl
      · exact absurd ⟨ho, e, hh⟩ h1
  · unfold doubtV
    rw [List.filter_eq_nil_iff.2 (fun v hv => by rw [hno v hv]; simp)]
    rfl
  · unfold bestV
    congr 1
    apply List.filter_congr
    intro v hv
    have h3 := hno v hv
    cases hf : upB v.at_ f
    · rw [hf] at h3
      simpa using h3.symm
    · rw [upB_trans hf (upB_of_lt hlt)]

/-- Is this intent there? -/
def queryC (c : Chn) (id ep seq : Int) (a : Stp) : Bool := c.opn && decide (c.itn.txn.id = id) && decide (c.itn.txn.ep = ep) && decide (seq ≤ c.itn.seq) && upB c.itn.at_ a

end Go.Proofs.YtcdehnghggleoaaGreat
