/-
  What stamp.Put made is read by stamp.Get, and what is read has just those bytes. No law is proved here.
-/
import Derived.Test.YtjeefpibhkngiaaDoorGetS
import Derived.Test.YtjeefpibhkngiaaDoorOrderMath
namespace Go.Proofs.YtjeefpibhkngiaaDoor
open Go.RowKit
set_option linter.unusedVariables false

theorem ofNat_back {n : Nat} (h : n < 256) : (UInt8.ofNat n).toNat = n := by simp [UInt8.toNat_ofNat']; omega

/-- What was put behind is read: with what was read ahead of it. -/
theorem dec_enc : ∀ (n i a v : Nat) (r : List UInt8), v < 128 ^ n → (0 < v ∨ i = 0) → (0 < n) → dec n i a (enc v ++ r) = (a + v * 128 ^ i, i + (enc v).length)
  | 0, _, _, _, _, _, _, h => absurd h (by decide)
  | n + 1, i, a, v, r, hv, h0, _ => by
    by_cases hs : v < 128
    · rw [enc_small hs, List.singleton_append, dec, ofNat_back (by omega), if_neg (by omega), if_neg (by omega), Nat.mod_eq_of_lt hs]
      simp
    · have hd : v / 128 < 128 ^ n := by rw [Nat.pow_succ] at hv; exact Nat.div_lt_of_lt_mul (by rw [Nat.mul_comm]; exact hv)
      have hn : 0 < n := by
        rcases Nat.eq_zero_or_pos n with rfl | h
        · simp at hd; omega
        · exact h
      rw [enc_big (by omega), List.cons_append, dec, ofNat_back (by omega), if_pos (by omega), dec_enc n (i + 1) _ (v / 128) r hd (.inl (by omega)) hn]
      have e : (v % 128 + 128) % 128 = v % 128 := by omega
      have e2 : v * 128 ^ i = v % 128 * 128 ^ i + v / 128 * 128 ^ (i + 1) := by
        rw [Nat.pow_succ, Nat.mul_comm (128 ^ i) 128, ← Nat.mul_assoc, ← Nat.add_mul]
        congr 1
        omega
      rw [e, e2]
      simp only [List.length_cons, Prod.mk.injEq]
      constructor <;> omega

theorem first_enc (v : Nat) (r : List UInt8) (h : v ≤ 9223372036854775807) : first (enc v ++ r) = (v, (enc v).length) := by
  unfold first
  rw [dec_enc 9 0 0 v r (Nat.lt_of_le_of_lt h (by decide)) (.inr rfl) (by decide)]
  simp

theorem rdN_enc (v : Nat) (r : List UInt8) (most : Int) (hv : v ≤ 9223372036854775807) (hm : (v : Int) ≤ most) : rdN (enc v ++ r) most = (v, 0, r) := by
  have e := first_enc v r hv
  have hp := enc_pos v
  rw [rdN_yes (by rw [e]; simp only; omega), e]
  simp

theorem ofNat_self (c : UInt8) (n : Nat) (h : c.toNat = n) : UInt8.ofNat n = c := by subst h; simp

theorem dec_one : ∀ (n i a : Nat) (l : List UInt8), (dec n i a l).2 ≠ 0 → ∃ v, (dec n i a l).1 = a + v * 128 ^ i ∧ (dec n i a l).2 = i + (enc v).length ∧ l = enc v ++ l.drop (enc v).length ∧ (0 < i → 0 < v)
  | 0, _, _, _, h => by simp [dec] at h
  | _ + 1, _, _, [], h => by simp [dec] at h
  | n + 1, i, a, c :: l, h => by
    have hc := c.toNat_lt
    rw [dec] at h ⊢
    by_cases hb : 128 ≤ c.toNat
    · rw [if_pos hb] at h ⊢
      obtain ⟨v, h1, h2, h3, h4⟩ := dec_one n (i + 1) (a + c.toNat % 128 * 128 ^ i) l h
      have hv := h4 (by omega)
      have he : enc (c.toNat % 128 + 128 * v) = c :: enc v := by
        rw [enc_big (by omega), show (c.toNat % 128 + 128 * v) / 128 = v by omega, ofNat_self c _ (by omega)]
      refine ⟨c.toNat % 128 + 128 * v, ?_, ?_, ?_, fun _ => by omega⟩
      · rw [h1, Nat.add_mul, Nat.pow_succ, Nat.mul_comm 128 v, Nat.mul_assoc, Nat.mul_comm 128 (128 ^ i)]
        omega
      · rw [h2, he, List.length_cons]; omega
      · rw [he, List.length_cons, List.drop_succ_cons, List.cons_append, ← h3]
    · rw [if_neg hb] at h ⊢
      by_cases h0 : c.toNat = 0 ∧ 0 < i
      · rw [if_pos h0] at h; exact absurd rfl h
      · rw [if_neg h0]
        have he : enc c.toNat = [c] := by rw [enc_small (by omega), ofNat_self c _ rfl]
        refine ⟨c.toNat, by rw [Nat.mod_eq_of_lt (by omega)], by rw [he]; rfl, by rw [he]; rfl, fun hi => ?_⟩
        omega

theorem first_one (l : List UInt8) (h : (first l).2 ≠ 0) : l = enc (first l).1 ++ l.drop (first l).2 := by
  obtain ⟨v, h1, h2, h3, _⟩ := dec_one 9 0 0 l h
  have e1 : (first l).1 = v := by unfold first; rw [h1]; simp
  have e2 : (first l).2 = (enc v).length := by unfold first; rw [h2]; simp
  rw [e1, e2]
  exact h3

/-- What became of a number's reading: nothing, or its bytes. -/
theorem rdN_one (l : List UInt8) (most : Int) : ((rdN l most).2.1 = 11 ∧ (rdN l most).2.2 = l ∧ (rdN l most).1 = 0) ∨
    ((rdN l most).2.1 = 0 ∧ l = enc (rdN l most).1 ++ (rdN l most).2.2 ∧ ((rdN l most).1 : Int) ≤ most ∧ (rdN l most).1 ≤ 9223372036854775807) := by
  by_cases h : (first l).2 = 0 ∨ most < ((first l).1 : Int)
  · rw [rdN_no h]; exact .inl ⟨rfl, rfl, rfl⟩
  · rw [rdN_yes h]
    exact .inr ⟨rfl, first_one l (fun e => h (.inl e)), by simp only; omega, first_lt l⟩


theorem rdS_enc (a b : Int) (r : List UInt8) (h : rightB a b = true) : rdS (encS a b ++ r) = (a.toNat, b.toNat, 0, r) := by
  obtain ⟨h1, h2, h3, h4⟩ := (right_iff a b).1 h
  have e1 := rdN_enc a.toNat (enc b.toNat ++ r) 1099511627776 (by omega) (by omega)
  have e2 := rdN_enc b.toNat r 65535 (by omega) (by omega)
  unfold rdS encS
  rw [List.append_assoc, e1]
  simp only [e2]
  rfl

theorem rdS_cases (l : List UInt8) : rdS l = (0, 0, 11, l) ∨ ∃ x y r, rdS l = (x, y, 0, r) ∧ l = encS x y ++ r ∧ rightB x y = true := by
  unfold rdS
  rcases rdN_one l 1099511627776 with ⟨h1, _, _⟩ | ⟨h1, h2, h3, _⟩
  · rw [if_neg (by rw [h1]; simp)]
    exact .inl rfl
  · rcases rdN_one (rdN l 1099511627776).2.2 65535 with ⟨g1, _, _⟩ | ⟨g1, g2, g3, _⟩
    · rw [if_neg (by rw [g1]; simp)]
      exact .inl rfl
    · rw [if_pos ⟨h1, g1⟩]
      refine .inr ⟨_, _, _, rfl, ?_, (right_iff _ _).2 (by omega)⟩
      unfold encS
      rw [Int.toNat_natCast, Int.toNat_natCast, List.append_assoc, ← g2, ← h2]

theorem encS_len (a b : Int) (ha : a ≤ 9223372036854775807) (hb : b ≤ 9223372036854775807) : (encS a b).length ≤ 18 := by
  have h1 := enc_len9 (v := a.toNat) (by omega)
  have h2 := enc_len9 (v := b.toNat) (by omega)
  unfold encS
  rw [List.length_append]
  omega

theorem At.moved {w w' : World} {B R : Nat} {a b : Int} (h : At w B a b) (hm : Moved R w w') (hne : B ≠ R) : At w' B a b :=
  ⟨(hm.cell _ h.lt (fun e => hne (congrArg Addr.block e))).trans h.c0, (hm.cell _ h.lt (fun e => hne (congrArg Addr.block e))).trans h.c1⟩

end Go.Proofs.YtjeefpibhkngiaaDoor
