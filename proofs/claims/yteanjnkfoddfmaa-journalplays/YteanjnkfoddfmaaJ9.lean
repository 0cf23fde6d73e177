/-
  The document's reader once more: whether all was well is told too; its N, T, Whole. No law is proved here.
-/
import Derived.Test.YteanjnkfoddfmaaJ8
namespace Go.Proofs.Yteanjnkfoddfmaa
open Go.RowKit
set_option linter.unusedVariables false

/-- What a reading of the document's reader leaves: the result, the error, what is left, the reader, and whether all was well. -/
def Left4 (M i : Nat) (bad : Bool) (ao : Option Addr) (c : Nat) (l : List UInt8) (x : Value) (er : Int) (r : List UInt8) (w : World) (e : Ending) (w' : World) : Prop :=
  ∃ k, e = .returned (.tuple #[x, .int .i64 er]) ∧ r = l.drop (i + k) ∧ i + k ≤ l.length ∧ RefRd w' M (.slice ao l.length c) (i + k) (bad || er != 0) ∧ Touch M w w'

theorem bad_yes (bad : Bool) : (bad || ((11 : Int) != 0)) = true := by cases bad <;> rfl
theorem bad_no (bad : Bool) : (bad || ((0 : Int) != 0)) = bad := by cases bad <;> rfl

theorem refnumb_no {M i : Nat} {bad : Bool} {ao : Option Addr} {c : Nat} {l : List UInt8} {most : Int} {w : World} (n : Nat) (hm : RefRd w M (.slice ao l.length c) i bad) (hi : i ≤ l.length) (h : (first (l.drop i)).2 = 0 ∨ most < ((first (l.drop i)).1 : Int)) :
    Left4 M i bad ao c l (.int .i64 (rdN (l.drop i) most).1) (rdN (l.drop i) most).2.1 (rdN (l.drop i) most).2.2 w (.returned (.tuple #[.int .i64 0, .int .i64 11])) ((w.drewN n).setCell ⟨M, 2, none⟩ (.bool true)) := by
  rw [rdN_no h]
  exact ⟨0, rfl, rfl, hi, by rw [bad_yes]; exact RefRd.set2 (w := w.drewN n) hm true, ((Touch.refl M w).drewN n).setCell 2 _⟩

theorem refnumb_yes {M i k x : Nat} {bad : Bool} {ao : Option Addr} {c : Nat} {l : List UInt8} {most : Int} {w : World} (n : Nat) (hm : RefRd w M (.slice ao l.length c) i bad) (hik : i + k < l.length) (hf : first (l.drop i) = (x, k + 1)) (h : (x : Int) ≤ most) :
    Left4 M i bad ao c l (.int .i64 (rdN (l.drop i) most).1) (rdN (l.drop i) most).2.1 (rdN (l.drop i) most).2.2 w (.returned (.tuple #[.int .i64 (x : Int), .int .i64 0])) ((w.drewN n).setCell ⟨M, 1, none⟩ (.int .i64 ((i : Int) + (k : Int) + 1))) := by
  rw [rdN_yes (by rw [hf]; simp only; omega), hf]
  have e : ((i : Int) + (k : Int) + 1) = ((i + (k + 1) : Nat) : Int) := by omega
  rw [e]
  exact ⟨k + 1, rfl, by simp [List.drop_drop], by omega, by rw [bad_no]; exact RefRd.set1 (w := w.drewN n) hm _, ((Touch.refl M w).drewN n).setCell 1 _⟩

set_option maxRecDepth 100000 in
set_option maxHeartbeats 1000000 in
theorem refnumb_any (M i : Nat) (bad : Bool) (ao : Option Addr) (c : Nat) (l : List UInt8) (most : Int) (w : World) (hm : RefRd w M (.slice ao l.length c) i bad) (hs : Sl w (.slice ao l.length c) l) (hl : l.length ≤ 1099511627776) (hi : i ≤ l.length) :
    Calls Try.prog 71 #[.pointer (some ⟨M, 0, none⟩), .int .i64 most] w
      (Left4 M i bad ao c l (.int .i64 (rdN (l.drop i) most).1) (rdN (l.drop i) most).2.1 (rdN (l.drop i) most).2.2 w) := by
  obtain ⟨c0, c1, c2, hf⟩ := hm.cells
  have Hm := hide hm
  have Hs := hide hs
  clear hm hs
  go_enter Try.func71, Try.ntmps71
  go_wp2
  go_loopw [6, 7, 8] (fun vv vp vk wr => ∃ k a p n : Nat, k ≤ 9 ∧ i + k ≤ l.length ∧ vk = .int .i64 k ∧ vv = .int .i64 a ∧ vp = .int .i64 (p : Int) ∧ p = 128 ^ min k 8 ∧ a < 128 ^ k ∧ first (l.drop i) = dec (9 - k) k a ((l.drop i).drop k) ∧ wr = w.drewN n)
    (fun _ _ vk _ => 9 - (intOf vk).toNat)
  case atStart => exact ⟨0, 0, 1, 0, by omega, by omega, rfl, rfl, rfl, rfl, by decide, rfl, rfl⟩
  case round =>
    obtain ⟨k, a, p, n, hk, hik, rfl, rfl, rfl, hp, ha, hfi, rfl⟩ := hrel
    have Ha := hide ha
    have Hfi := hide hfi
    have Hp := hide hp
    clear ha hfi hp
    by_cases h9 : k < 9
    · have h9i : (k : Int) < 9 := by omega
      by_cases hin : i + k < l.length
      · obtain ⟨b, o, rfl⟩ := (unhide Hs).addr (by omega)
        have hc := (unhide Hs).cell (i + k) hin
        have hcb : (l[i + k].toNat : Int) < 256 := by have := l[i + k].toNat_lt; omega
        obtain ⟨hk', hgk⟩ := first_at l i k hin
        obtain ⟨cn, hcn⟩ : ∃ cn, Hid (l[i + k].toNat = cn) := ⟨l[i + k].toNat, Eq.refl _⟩
        have Hgk : Hid ((l.drop i)[k].toNat = cn) := by rw [hgk]; exact hcn
        rw [unhide hcn] at hc hcb
        have hpk : p = 128 ^ k := by rw [unhide Hp, Nat.min_eq_left (by omega)]
        obtain ⟨d, hd⟩ : ∃ d, Hid (d = cn % 128 * 128 ^ k) := ⟨_, Eq.refl _⟩
        have hdl : a + d ≤ 9223372036854775807 := by
          have h1 := pow_step k a cn (unhide Ha)
          have h2 : 128 ^ (k + 1) ≤ 128 ^ 9 := Nat.pow_le_pow_right (by decide) (by omega)
          have e : (128 : Nat) ^ 9 = 9223372036854775808 := by decide
          rw [e] at h2
          rw [unhide hd]
          omega
        have hw1 : wrap64 ((cn : Int) % 128 * (p : Int)) = (d : Int) := by
          have e : (cn : Int) % 128 * (p : Int) = ((cn % 128 * p : Nat) : Int) := by simp
          rw [e, hpk, ← unhide hd]
          unfold wrap64
          omega
        have hini : (i : Int) + (k : Int) < (l.length : Int) := by omega
        clear hgk hcn hpk
        by_cases hbig : 128 ≤ cn
        · have hbigi : (128 : Int) ≤ (cn : Int) := by omega
          have hnx : first (l.drop i) = dec (9 - (k + 1)) (k + 1) (a + d) ((l.drop i).drop (k + 1)) := by
            rw [unhide Hfi, dec_more k a (l.drop i) h9 hk' (by rw [unhide Hgk]; exact hbig), unhide Hgk, ← unhide hd]
          have hal : a + d < 128 ^ (k + 1) := by rw [unhide hd]; exact pow_step k a cn (unhide Ha)
          have Hnx := hide hnx
          have Hal := hide hal
          clear hnx hal
          by_cases h8 : k < 8
          · have h8i : (k : Int) < 8 := by omega
            have hp8 : 128 * p = 128 ^ min (k + 1) 8 := by rw [unhide Hp, Nat.min_eq_left (by omega), Nat.min_eq_left (by omega), Nat.pow_succ, Nat.mul_comm]
            have hpl : 128 * p ≤ 72057594037927936 := by
              rw [hp8]
              exact Nat.le_trans (Nat.pow_le_pow_right (by decide) (Nat.min_le_right _ _)) (by decide)
            have Hp8 := hide hp8
            clear hp8
            go_wp2_with fail
            go_quiet (fail)
            go_wp2_with fail
            go_quiet (fail)
            go_wp2
            go_roundw
            case rel => exact ⟨k + 1, a + d, 128 * p, _, by omega, by omega, by go_num, by go_num, by go_num, unhide Hp8, unhide Hal, unhide Hnx, rfl⟩
            case measure => simp [intOf]; omega
          · have h8i : ¬ (k : Int) < 8 := by omega
            have hp8 : p = 128 ^ min (k + 1) 8 := by rw [unhide Hp, Nat.min_eq_right (by omega), Nat.min_eq_right (by omega)]
            have Hp8 := hide hp8
            clear hp8
            go_wp2_with fail
            go_quiet (fail)
            go_wp2_with fail
            go_quiet (fail)
            go_wp2
            go_roundw
            case rel => exact ⟨k + 1, a + d, p, _, by omega, by omega, by go_num, by go_num, rfl, unhide Hp8, unhide Hal, unhide Hnx, rfl⟩
            case measure => simp [intOf]; omega
        · have hmore : ¬ (128 : Int) ≤ (cn : Int) := by omega
          by_cases hgt : most < (a : Int) + (d : Int)
          · have hno : (first (l.drop i)).2 = 0 ∨ most < ((first (l.drop i)).1 : Int) := by
              rw [unhide Hfi]
              by_cases h00 : cn = 0 ∧ 0 < k
              · rw [dec_nought k a (l.drop i) h9 hk' (by rw [unhide Hgk]; exact h00.1) h00.2]; exact .inl rfl
              · rw [dec_last k a (l.drop i) h9 hk' (by rw [unhide Hgk]; omega) (by rw [unhide Hgk]; exact h00), unhide Hgk, ← unhide hd]
                right; simp only; omega
            have Hno := hide hno
            clear hno
            go_wp2_with fail
            go_quiet (fail)
            go_wp2_with fail
            go_quiet (fail)
            go_wp2
            go_ret2
            exact refnumb_no _ (unhide Hm) hi (unhide Hno)
          · have hgt' : (a : Int) + (d : Int) ≤ most := by omega
            by_cases h0 : cn = 0
            · have hz : ((cn : Int) == 0) = true := by simp [h0]
              by_cases hk0 : 0 < k
              · have hk0i : (0 : Int) < (k : Int) := by omega
                have Hno : Hid ((first (l.drop i)).2 = 0 ∨ most < ((first (l.drop i)).1 : Int)) := by
                  rw [unhide Hfi, dec_nought k a (l.drop i) h9 hk' (by rw [unhide Hgk]; exact h0) hk0]; exact .inl rfl
                clear h0
                go_wp2_with fail
                go_quiet (fail)
                go_wp2_with fail
                go_quiet (fail)
                go_wp2
                go_ret2
                exact refnumb_no _ (unhide Hm) hi (unhide Hno)
              · have hk0i : ¬ (0 : Int) < (k : Int) := by omega
                have Hf : Hid (first (l.drop i) = (a + d, k + 1)) := by
                  rw [unhide Hfi, dec_last k a (l.drop i) h9 hk' (by rw [unhide Hgk]; omega) (by omega), unhide Hgk, ← unhide hd]; rfl
                clear h0
                go_wp2_with fail
                go_quiet (fail)
                go_wp2_with fail
                go_quiet (fail)
                go_wp2
                go_ret2
                exact refnumb_yes _ (unhide Hm) hin (unhide Hf) (by omega)
            · have hz : ((cn : Int) == 0) = false := by simp; omega
              have Hf : Hid (first (l.drop i) = (a + d, k + 1)) := by
                rw [unhide Hfi, dec_last k a (l.drop i) h9 hk' (by rw [unhide Hgk]; omega) (by rw [unhide Hgk]; omega), unhide Hgk, ← unhide hd]; rfl
              go_wp2_with fail
              go_quiet (fail)
              go_wp2_with fail
              go_quiet (fail)
              go_wp2
              go_ret2
              exact refnumb_yes _ (unhide Hm) hin (unhide Hf) (by omega)
      · have hini : ¬ (i : Int) + (k : Int) < (l.length : Int) := by omega
        have Hno : Hid ((first (l.drop i)).2 = 0 ∨ most < ((first (l.drop i)).1 : Int)) := by
          rw [unhide Hfi, dec_none k a (l.drop i) (.inr (by rw [List.length_drop]; omega))]; exact .inl rfl
        go_wp2_with fail
        go_quiet (fail)
        go_wp2
        go_ret2
        exact refnumb_no _ (unhide Hm) hi (unhide Hno)
    · have h9i : decide ((k : Int) < 9) = false := by simp; omega
      have Hno : Hid ((first (l.drop i)).2 = 0 ∨ most < ((first (l.drop i)).1 : Int)) := by
        rw [unhide Hfi, dec_none k a (l.drop i) (.inl (by omega))]; exact .inl rfl
      go_wp2_with fail
      go_quiet (fail)
      go_wp2
      go_ret2
      exact refnumb_no _ (unhide Hm) hi (unhide Hno)

set_option maxRecDepth 100000 in
set_option maxHeartbeats 1000000 in
theorem reftextb_any (M i : Nat) (bad : Bool) (ao : Option Addr) (c : Nat) (l : List UInt8) (most : Int) (w : World) (hm : RefRd w M (.slice ao l.length c) i bad) (hs : Sl w (.slice ao l.length c) l) (hl : l.length ≤ 1099511627776) (hi : i ≤ l.length) :
    Calls Try.prog 93 #[.pointer (some ⟨M, 0, none⟩), .int .i64 most] w
      (Left4 M i bad ao c l (.string ⟨(rdT (l.drop i) most).1.toArray⟩) (rdT (l.drop i) most).2.1 (rdT (l.drop i) most).2.2 w) := by
  obtain ⟨c0, c1, c2, hf⟩ := hm.cells
  have HN := hide (refnumb_any M i bad ao c l most w hm hs hl hi)
  have hone := rdN_one (l.drop i) most
  have hof := @rdT_of (l.drop i) most
  have hno := @rdT_of_no (l.drop i) most
  have hlc : l.length ≤ c ∧ c ≤ maxLen := by obtain ⟨_, _, e, h1, h2, _⟩ := id hs; injection e with e1 e2 e3; subst e3; exact ⟨h1, h2⟩
  obtain ⟨hlc, hcm⟩ := hlc
  unfold maxLen at hcm
  have Hm := hide hm
  have Hs := hide hs
  clear hm hs
  generalize rdN (l.drop i) most = y at *
  obtain ⟨x, er, r⟩ := y
  simp only at HN hone hno
  rcases hone with ⟨rfl, rfl, rfl⟩ | ⟨rfl, hr, _, hx9⟩
  · rw [hno rfl]
    clear hof hno
    go_enter Try.func93, Try.ntmps93
    go_wp2_with fail
    refine (unhide HN).mono ?_
    rintro e w1 ⟨k, rfl, _, hk1, hm1, ht1⟩
    obtain ⟨d0, d1, d2, hf1⟩ := hm1.cells
    have Hm1 := hide hm1
    have Ht1 := hide ht1
    clear hm1 ht1 c0 c1 c2 hf
    go_wp2_with fail
    go_quiet (fail)
    go_wp2
    go_ret2
    refine ⟨0, rfl, rfl, hi, ?_, ?_⟩
    · rw [bad_yes]; exact RefRd.set2 (RefRd.set1 (w := w1.drewN _) (unhide Hm1) _) true
    · exact (((unhide Ht1).drewN _).setCell 1 _).setCell 2 _
  · have hof := hof rfl
    rw [hof]
    clear hno hof hr
    by_cases hlt : (r.length : Int) < x
    · rw [if_pos hlt]
      go_enter Try.func93, Try.ntmps93
      go_wp2_with fail
      refine (unhide HN).mono ?_
      rintro e w1 ⟨k, rfl, hrk, hk1, hm1, ht1⟩
      have hs1 := (unhide Hs).touch ht1 (unhide Hm) ⟨_, _, _, rfl⟩
      have hrl : r.length = l.length - (i + k) := by rw [hrk]; exact List.length_drop
      obtain ⟨j, hj⟩ : ∃ j, Hid (i + k = j) := ⟨_, Eq.refl _⟩
      rw [unhide hj] at hk1 hm1 hrl hrk
      obtain ⟨d0, d1, d2, hf1⟩ := hm1.cells
      have Hm1 := hide hm1
      have Ht1 := hide ht1
      have Hs1 := hide hs1
      have Hrk := hide hrk
      have hrl' : r.length + j = l.length := by omega
      clear hm1 ht1 c0 c1 c2 hf hs1 HN Hs hrk
      have hlti : (l.length : Int) - (j : Int) < (x : Int) := by omega
      clear hlt hrl'
      go_wp2_with fail
      go_quiet (fail)
      go_wp2
      go_ret2
      refine ⟨0, rfl, rfl, hi, ?_, ?_⟩
      · rw [bad_yes]; exact RefRd.set2 (RefRd.set1 (w := w1.drewN _) (unhide Hm1) _) true
      · exact (((unhide Ht1).drewN _).setCell 1 _).setCell 2 _
    · rw [if_neg hlt]
      go_enter Try.func93, Try.ntmps93
      go_wp2_with fail
      refine (unhide HN).mono ?_
      rintro e w1 ⟨k, rfl, hrk, hk1, hm1, ht1⟩
      have hs1 := (unhide Hs).touch ht1 (unhide Hm) ⟨_, _, _, rfl⟩
      have hrl : r.length = l.length - (i + k) := by rw [hrk]; exact List.length_drop
      obtain ⟨j, hj⟩ : ∃ j, Hid (i + k = j) := ⟨_, Eq.refl _⟩
      rw [unhide hj] at hk1 hm1 hrl hrk
      obtain ⟨d0, d1, d2, hf1⟩ := hm1.cells
      have Hm1 := hide hm1
      have Ht1 := hide ht1
      have Hs1 := hide hs1
      have Hrk := hide hrk
      have hrl' : r.length + j = l.length := by omega
      clear hm1 ht1 c0 c1 c2 hf hs1 HN Hs hrk
      have hlti : ¬ (l.length : Int) - (j : Int) < (x : Int) := by omega
      have hjx : (j : Int) + (x : Int) ≤ (c : Int) := by omega
      clear hlt hrl'
      go_wp2_with fail
      go_quiet (fail)
      go_wp2_with fail
      have hs2 := (unhide Hs1).touch (((Touch.refl M w1).drewN nq).setCell 1 (.int .i64 ((j : Int) + (x : Int)))) (unhide Hm1) ⟨_, _, _, rfl⟩
      have hdt := (hs2.drop j hk1).take x (by rw [List.length_drop]; omega)
      have hcv := fun m => conv_arr ((((w1.drewN nq).setCell ⟨M, 1, none⟩ (.int .i64 ((j : Int) + (x : Int))))).drewN m) _ _ hdt
      rw [← unhide Hrk] at hcv
      have hz1 : (j : Int) + (x : Int) - (x : Int) = (j : Int) := by omega
      have hz2 : ((j : Int) + (x : Int)).toNat = j + x := by omega
      have hz3 : IntKind.i64.wrap ((j : Int) + (x : Int) - (x : Int)) = (j : Int) := by rw [IntKind.wrap_i64]; omega
      have hz4 : (j : Int) ≤ (j : Int) + (x : Int) := by omega
      have hz5 : (0 : Int) ≤ (j : Int) + (x : Int) := by omega
      clear hdt hs2
      have hfin : ∀ m, Left4 M i bad ao c l (.string ⟨(r.take x).toArray⟩) 0 (r.drop x) w (.returned (.tuple #[.string ⟨(r.take x).toArray⟩, .int .i64 0])) (((w1.drewN nq).setCell ⟨M, 1, none⟩ (.int .i64 ((j : Int) + (x : Int)))).drewN m) := fun m => by
        have h := RefRd.set1 (w := w1.drewN nq) (unhide Hm1) (j + x)
        have hjk := unhide hj
        have e : i + (k + x) = j + x := by omega
        have e2 : ((j + x : Nat) : Int) = (j : Int) + (x : Int) := by omega
        refine ⟨k + x, rfl, by rw [unhide Hrk, List.drop_drop, e], by omega, ?_, (((unhide Ht1).drewN nq).setCell 1 _).drewN m⟩
        rw [e]
        rw [e2] at h
        exact h
      have Hfin := hide hfin
      clear hfin
      by_cases hcj : c = j
      · have hx0 : x = 0 := by omega
        rw [if_pos hcj] at hcv
        subst hx0
        subst hcj
        simp only [Nat.sub_self] at hcv
        have hwc : IntKind.i64.wrap (c : Int) = (c : Int) := by rw [IntKind.wrap_i64]; omega
        simp at hcv
        go_quiet (fail)
        go_wp2
        go_ret2
        exact unhide Hfin _
      · rw [if_neg hcj, Nat.mul_one] at hcv
        go_quiet (fail)
        go_wp2
        go_ret2
        exact unhide Hfin _

/-- The same, without the error. -/
def LeftN (M i : Nat) (bad : Bool) (ao : Option Addr) (c : Nat) (l : List UInt8) (x : Value) (er : Int) (r : List UInt8) (w : World) (e : Ending) (w' : World) : Prop :=
  ∃ k, e = .returned x ∧ r = l.drop (i + k) ∧ i + k ≤ l.length ∧ RefRd w' M (.slice ao l.length c) (i + k) (bad || er != 0) ∧ Touch M w w'

set_option maxRecDepth 100000 in
theorem refn_any (M i : Nat) (bad : Bool) (ao : Option Addr) (c : Nat) (l : List UInt8) (most : Int) (w : World) (hm : RefRd w M (.slice ao l.length c) i bad) (hs : Sl w (.slice ao l.length c) l) (hl : l.length ≤ 1099511627776) (hi : i ≤ l.length) :
    Calls Try.prog 46 #[.pointer (some ⟨M, 0, none⟩), .int .i64 most] w
      (LeftN M i bad ao c l (.int .i64 (rdN (l.drop i) most).1) (rdN (l.drop i) most).2.1 (rdN (l.drop i) most).2.2 w) := by
  have HN := hide (refnumb_any M i bad ao c l most w hm hs hl hi)
  clear hm hs
  generalize rdN (l.drop i) most = y at *
  go_enter Try.func46, Try.ntmps46
  go_wp2_with fail
  refine (unhide HN).mono ?_
  rintro e w1 ⟨k, rfl, hr, hk1, hm1, ht1⟩
  have H1 := hide hm1
  have H2 := hide ht1
  have H3 := hide hr
  clear hm1 ht1 hr HN
  go_wp2
  go_ret
  exact ⟨k, rfl, unhide H3, hk1, unhide H1, unhide H2⟩

set_option maxRecDepth 100000 in
theorem reft_any (M i : Nat) (bad : Bool) (ao : Option Addr) (c : Nat) (l : List UInt8) (most : Int) (w : World) (hm : RefRd w M (.slice ao l.length c) i bad) (hs : Sl w (.slice ao l.length c) l) (hl : l.length ≤ 1099511627776) (hi : i ≤ l.length) :
    Calls Try.prog 72 #[.pointer (some ⟨M, 0, none⟩), .int .i64 most] w
      (LeftN M i bad ao c l (.string ⟨(rdT (l.drop i) most).1.toArray⟩) (rdT (l.drop i) most).2.1 (rdT (l.drop i) most).2.2 w) := by
  have HN := hide (reftextb_any M i bad ao c l most w hm hs hl hi)
  clear hm hs
  generalize rdT (l.drop i) most = y at *
  obtain ⟨y1, y2, y3⟩ := y
  generalize (⟨y1.toArray⟩ : ByteArray) = X at *
  go_enter Try.func72, Try.ntmps72
  go_wp2_with fail
  refine (unhide HN).mono ?_
  rintro e w1 ⟨k, rfl, hr, hk1, hm1, ht1⟩
  have H1 := hide hm1
  have H2 := hide ht1
  have H3 := hide hr
  clear hm1 ht1 hr HN
  go_wp2
  go_ret
  exact ⟨k, rfl, unhide H3, hk1, unhide H1, unhide H2⟩

set_option maxRecDepth 100000 in
theorem refend_any (M i : Nat) (bad : Bool) (ao : Option Addr) (c n : Nat) (w : World) (hm : RefRd w M (.slice ao n c) i bad) (hi : i ≤ n) (hn : n ≤ 1099511627776) :
    Calls Try.prog 47 #[.pointer (some ⟨M, 0, none⟩)] w fun e w' => e = .returned (.bool (!bad && decide (i = n))) ∧ Below w.heap.size w w' := by
  obtain ⟨c0, c1, c2, hf⟩ := hm.cells
  clear hm
  cases bad
  · by_cases h : i = n
    · have hI : ((i : Int) == (n : Int)) = true := by rw [beq_iff_eq]; omega
      have hd : decide (i = n) = true := by simpa using h
      rw [hd]
      clear h hd
      go_enter Try.func47, Try.ntmps47
      go_wp2_with fail
      go_quiet (fail)
      go_wp2
      go_ret
      exact ⟨rfl, belowN (Below.refl _ _) _⟩
    · have hI : ((i : Int) == (n : Int)) = false := by rw [beq_eq_false_iff_ne]; omega
      have hd : decide (i = n) = false := by simpa using h
      rw [hd]
      clear h hd
      go_enter Try.func47, Try.ntmps47
      go_wp2_with fail
      go_quiet (fail)
      go_wp2
      go_ret
      exact ⟨rfl, belowN (Below.refl _ _) _⟩
  · go_enter Try.func47, Try.ntmps47
    go_wp2_with fail
    go_quiet (fail)
    go_wp2
    go_ret
    exact ⟨rfl, belowN (Below.refl _ _) _⟩

end Go.Proofs.Yteanjnkfoddfmaa
