/-
  Of stamps' texts, as lists of bytes. No law is proved here.
-/
import Derived.Test.YtjeefpibhkngiaaDoorText
namespace Go.Proofs.YtjeefpibhkngiaaDoor
open Go.RowKit
set_option linter.unusedVariables false

theorem ofNat_toNat {n : Nat} (h : n < 256) : (UInt8.ofNat n).toNat = n := by simp [UInt8.toNat_ofNat']; omega

/-- The number of a list of figures. -/
def valD (l : List UInt8) : Nat := l.foldl (fun n c => n * 10 + (c.toNat - 48)) 0

theorem valD_snoc (l : List UInt8) (c : UInt8) : valD (l ++ [c]) = valD l * 10 + (c.toNat - 48) := by unfold valD; rw [List.foldl_append]; rfl

theorem dd_val (u : Nat) : valD (Lib.decDigits u) = u := by
  induction u using Nat.strongRecOn with
  | _ u ih =>
    rw [Lib.decDigits]
    by_cases h : u < 10
    · rw [dif_pos h]
      simp only [valD, List.foldl_cons, List.foldl_nil]
      rw [ofNat_toNat (by omega)]
      omega
    · rw [dif_neg h, valD_snoc, ih (u / 10) (by omega), ofNat_toNat (by omega)]
      omega

theorem dd_digits (u : Nat) : ∀ c ∈ Lib.decDigits u, 48 ≤ c.toNat ∧ c.toNat ≤ 57 := by
  induction u using Nat.strongRecOn with
  | _ u ih =>
    intro c hc
    rw [Lib.decDigits] at hc
    by_cases h : u < 10
    · rw [dif_pos h] at hc
      simp only [List.mem_singleton] at hc
      subst hc
      rw [ofNat_toNat (by omega)]
      omega
    · rw [dif_neg h, List.mem_append] at hc
      rcases hc with hc | hc
      · exact ih (u / 10) (by omega) c hc
      · simp only [List.mem_singleton] at hc
        subst hc
        rw [ofNat_toNat (by omega)]
        omega

theorem dd_pos (u : Nat) : 0 < (Lib.decDigits u).length := by rw [Lib.decDigits_length]; exact Lib.nDigits_pos u

theorem itoa_pos (n : Int) : 0 < (Lib.itoa n).length := by
  unfold Lib.itoa
  split
  · simp
  · exact dd_pos _

theorem itoa_chars (n : Int) : ∀ c ∈ Lib.itoa n, (n < 0 ∧ c.toNat = 45) ∨ (48 ≤ c.toNat ∧ c.toNat ≤ 57) := by
  intro c hc
  unfold Lib.itoa at hc
  split at hc
  · rename_i h
    rw [List.mem_cons] at hc
    rcases hc with rfl | hc
    · exact .inl ⟨h, rfl⟩
    · exact .inr (dd_digits _ c hc)
  · exact .inr (dd_digits _ c hc)

theorem itoa_no (n : Int) : (46 : UInt8) ∉ Lib.itoa n := fun h => by
  have e : (46 : UInt8).toNat = 46 := rfl
  rcases itoa_chars n 46 h with h | h <;> omega

theorem itoa_inj {n m : Int} (h : Lib.itoa n = Lib.itoa m) : n = m := by
  have head : ∀ (u : Nat) (r : List UInt8), Lib.decDigits u ≠ 45 :: r := fun u r e => by
    have := dd_digits u 45 (by rw [e]; simp)
    have e45 : (45 : UInt8).toNat = 45 := rfl
    omega
  unfold Lib.itoa at h
  split at h
  · split at h
    · have h2 := congrArg valD (List.cons.inj h).2
      rw [dd_val, dd_val] at h2
      omega
    · exact absurd h.symm (head _ _)
  · split at h
    · exact absurd h (head _ _)
    · have h2 := congrArg valD h
      rw [dd_val, dd_val] at h2
      omega

theorem split_at {s : UInt8} : ∀ {l1 l2 r1 r2 : List UInt8}, s ∉ l1 → s ∉ l2 → l1 ++ s :: r1 = l2 ++ s :: r2 → l1 = l2 ∧ r1 = r2
  | [], [], r1, r2, _, _, h => ⟨rfl, by simpa using h⟩
  | [], y :: l2, r1, r2, _, h2, h => by
    rw [List.nil_append, List.cons_append] at h
    exact absurd (List.cons.inj h).1 (fun e => h2 (by rw [e]; simp))
  | x :: l1, [], r1, r2, h1, _, h => by
    rw [List.nil_append, List.cons_append] at h
    exact absurd (List.cons.inj h).1.symm (fun e => h1 (by rw [e]; simp))
  | x :: l1, y :: l2, r1, r2, h1, h2, h => by
    rw [List.cons_append, List.cons_append] at h
    obtain ⟨e, h⟩ := List.cons.inj h
    obtain ⟨e1, e2⟩ := split_at (fun k => h1 (by simp [k])) (fun k => h2 (by simp [k])) h
    exact ⟨by rw [e, e1], e2⟩

theorem txt_inj {a b c d : Int} (h : txt a b = txt c d) : a = c ∧ b = d := by
  unfold txt at h
  obtain ⟨h1, h2⟩ := split_at (itoa_no a) (itoa_no c) h
  exact ⟨itoa_inj h1, itoa_inj h2⟩

theorem txt_count (a b : Int) : (txt a b).count 46 = 1 := by
  unfold txt
  rw [List.count_append, List.count_cons, List.count_eq_zero_of_not_mem (itoa_no a), List.count_eq_zero_of_not_mem (itoa_no b)]
  rfl

theorem txt_len (a b : Int) : 3 ≤ (txt a b).length := by
  have h1 := itoa_pos a
  have h2 := itoa_pos b
  unfold txt
  rw [List.length_append, List.length_cons]
  omega

theorem txt_len_le (a b : Int) (a0 : -9223372036854775808 ≤ a) (a1 : a ≤ 9223372036854775807) (b0 : -9223372036854775808 ≤ b) (b1 : b ≤ 9223372036854775807) : (txt a b).length ≤ 43 := by
  have h1 := Lib.itoa_length_le a a0 a1
  have h2 := Lib.itoa_length_le b b0 b1
  unfold txt
  rw [List.length_append, List.length_cons]
  omega

theorem txt_chars (a b : Int) : ∀ c ∈ txt a b, c.toNat = 46 ∨ (48 ≤ c.toNat ∧ c.toNat ≤ 57) ∨ (c.toNat = 45 ∧ rightB a b = false) := by
  intro c hc
  unfold txt at hc
  rw [List.mem_append, List.mem_cons] at hc
  rcases hc with hc | rfl | hc
  · rcases itoa_chars a c hc with ⟨h, h2⟩ | h
    · exact .inr (.inr ⟨h2, by unfold rightB; simp; omega⟩)
    · exact .inr (.inl h)
  · exact .inl rfl
  · rcases itoa_chars b c hc with ⟨h, h2⟩ | h
    · exact .inr (.inr ⟨h2, by unfold rightB; simp; omega⟩)
    · exact .inr (.inl h)

theorem count_step (l : List UInt8) (k : Nat) (hk : k < l.length) (s : UInt8) : (l.take (k + 1)).count s = (l.take k).count s + if l[k] = s then 1 else 0 := by
  rw [List.take_add_one, List.getElem?_eq_getElem hk, List.count_append]
  congr 1
  simp [List.count_singleton]

end Go.Proofs.YtjeefpibhkngiaaDoor
