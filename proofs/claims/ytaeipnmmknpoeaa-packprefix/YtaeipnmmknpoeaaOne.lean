/-
  What is read has just the bytes that it was read from.
-/
import Derived.Test.YtaeipnmmknpoeaaBack
namespace Go.Proofs.Ytaeipnmmknpoeaa
open Go.RowKit
set_option linter.unusedVariables false

theorem ofNat_self (c : UInt8) (n : Nat) (h : c.toNat = n) : UInt8.ofNat n = c := by subst h; simp

theorem dec_one : ∀ (n i a : Nat) (l : List UInt8), (dec n i a l).2 ≠ 0 → ∃ v, (dec n i a l).1 = a + v * 128 ^ i ∧ (dec n i a l).2 = i + (enc v).length ∧ l = enc v ++ l.drop (enc v).length ∧ (0 < i → 0 < v)
  | 0, _, _, _, h => by simp [dec] at h
  | _ + 1, _, _, [], h => by simp [dec] at h
  | n + 1, i, a, c :: l, h => by
    have hc := c.toNat_lt
    rw [dec] at h ⊢
    by_cases hb : 128 ≤ c.toNat
    · rw [if_pos hb] at h ⊢
      obtain ⟨v, h1, h2, h3, h4⟩ := dec_one n (i + 1) (a + c.toNat % 128 * 128 ^ i) l h
      have hv := h4 (by omega)
      have he : enc (c.toNat % 128 + 128 * v) = c :: enc v := by
        rw [enc_big (by omega), show (c.toNat % 128 + 128 * v) / 128 = v by omega, ofNat_self c _ (by omega)]
      refine ⟨c.toNat % 128 + 128 * v, ?_, ?_, ?_, fun _ => by omega⟩
      · rw [h1, Nat.add_mul, Nat.pow_succ, Nat.mul_comm 128 v, Nat.mul_assoc, Nat.mul_comm 128 (128 ^ i)]
        omega
      · rw [h2, he, List.length_cons]; omega
      · rw [he, List.length_cons, List.drop_succ_cons, List.cons_append, ← h3]
    · rw [if_neg hb] at h ⊢
      by_cases h0 : c.toNat = 0 ∧ 0 < i
      · rw [if_pos h0] at h; exact absurd rfl h
      · rw [if_neg h0]
        have he : enc c.toNat = [c] := by rw [enc_small (by omega), ofNat_self c _ rfl]
        refine ⟨c.toNat, by rw [Nat.mod_eq_of_lt (by omega)], by rw [he]; rfl, by rw [he]; rfl, fun hi => ?_⟩
        omega

theorem first_one (l : List UInt8) (h : (first l).2 ≠ 0) : l = enc (first l).1 ++ l.drop (first l).2 := by
  obtain ⟨v, h1, h2, h3, _⟩ := dec_one 9 0 0 l h
  have e1 : (first l).1 = v := by unfold first; rw [h1]; simp
  have e2 : (first l).2 = (enc v).length := by unfold first; rw [h2]; simp
  rw [e1, e2]
  exact h3

/-- What became of a number's reading: nothing, or its bytes. -/
theorem rdN_one (l : List UInt8) (most : Int) : ((rdN l most).2.1 = 11 ∧ (rdN l most).2.2 = l ∧ (rdN l most).1 = 0) ∨
    ((rdN l most).2.1 = 0 ∧ l = enc (rdN l most).1 ++ (rdN l most).2.2 ∧ ((rdN l most).1 : Int) ≤ most ∧ (rdN l most).1 ≤ 9223372036854775807) := by
  by_cases h : (first l).2 = 0 ∨ most < ((first l).1 : Int)
  · rw [rdN_no h]; exact .inl ⟨rfl, rfl, rfl⟩
  · rw [rdN_yes h]
    exact .inr ⟨rfl, first_one l (fun e => h (.inl e)), by simp only; omega, first_lt l⟩

theorem rdF_one (l : List UInt8) : ((rdF l).2.1 = 11 ∧ (rdF l).2.2 = l ∧ (rdF l).1 = false) ∨ ((rdF l).2.1 = 0 ∧ l = encF (rdF l).1 ++ (rdF l).2.2) := by
  unfold rdF
  rcases rdN_one l 1 with ⟨h1, h2, h3⟩ | ⟨h1, h2, h3, _⟩
  · exact .inl ⟨h1, h2, by rw [h3]; rfl⟩
  · refine .inr ⟨h1, ?_⟩
    generalize rdN l 1 = y at *
    obtain ⟨x, e, r⟩ := y
    simp only at h2 h3 ⊢
    have : x = 0 ∨ x = 1 := by omega
    rcases this with rfl | rfl
    · rw [enc_zero] at h2; exact h2
    · rw [enc_one] at h2; exact h2

theorem rdT_one (l : List UInt8) (most : Int) : ((rdT l most).2.1 = 11 ∧ (rdT l most).2.2 = l ∧ (rdT l most).1 = []) ∨
    ((rdT l most).2.1 = 0 ∧ l = encT ⟨(rdT l most).1.toArray⟩ ++ (rdT l most).2.2 ∧ ((rdT l most).1.length : Int) ≤ most) := by
  by_cases h : (first l).2 = 0 ∨ most < ((first l).1 : Int) ∨ ((l.length : Int) - (first l).2 < (first l).1)
  · rw [rdT_no h]; exact .inl ⟨rfl, rfl, rfl⟩
  · rw [rdT_yes h]
    refine .inr ⟨rfl, ?_, ?_⟩
    · simp only
      have hk : (first l).2 ≠ 0 := fun e => h (.inl e)
      have hle := first_le l
      have hlen : ((l.drop (first l).2).take (first l).1).length = (first l).1 := by rw [List.length_take, List.length_drop]; omega
      have hz : (⟨((l.drop (first l).2).take (first l).1).toArray⟩ : ByteArray).size = (first l).1 := by
        show (((l.drop (first l).2).take (first l).1).toArray).size = _
        rw [List.size_toArray, hlen]
      unfold encT
      rw [hz]
      conv => lhs; rw [first_one l hk]
      rw [List.append_assoc]
      congr 1
      show _ = (l.drop (first l).2).take (first l).1 ++ _
      rw [← List.drop_drop]
      exact (List.take_append_drop _ _).symm
    · simp only
      rw [List.length_take]
      omega

end Go.Proofs.Ytaeipnmmknpoeaa
