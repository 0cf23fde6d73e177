/-
  The laws' live question: it answers true.
-/
import Derived.Test.YtaeipnmmknpoeaaReader
namespace Go.Proofs.Ytaeipnmmknpoeaa
open Go.RowKit
set_option linter.unusedVariables false

theorem ofNat_toNat {n : Nat} (h : n < 256) : (UInt8.ofNat n).toNat = n := by simp [UInt8.toNat_ofNat']; omega

/-- What was put behind is read: with what was read ahead of it. -/
theorem dec_enc : ∀ (n i a v : Nat) (r : List UInt8), v < 128 ^ n → (0 < v ∨ i = 0) → (0 < n) → dec n i a (enc v ++ r) = (a + v * 128 ^ i, i + (enc v).length)
  | 0, _, _, _, _, _, _, h => absurd h (by decide)
  | n + 1, i, a, v, r, hv, h0, _ => by
    by_cases hs : v < 128
    · rw [enc_small hs, List.singleton_append, dec, ofNat_toNat (by omega), if_neg (by omega), if_neg (by omega), Nat.mod_eq_of_lt hs]
      simp
    · have hd : v / 128 < 128 ^ n := by rw [Nat.pow_succ] at hv; exact Nat.div_lt_of_lt_mul (by rw [Nat.mul_comm]; exact hv)
      have hn : 0 < n := by
        rcases Nat.eq_zero_or_pos n with rfl | h
        · simp at hd; omega
        · exact h
      rw [enc_big (by omega), List.cons_append, dec, ofNat_toNat (by omega), if_pos (by omega), dec_enc n (i + 1) _ (v / 128) r hd (.inl (by omega)) hn]
      have e : (v % 128 + 128) % 128 = v % 128 := by omega
      have e2 : v * 128 ^ i = v % 128 * 128 ^ i + v / 128 * 128 ^ (i + 1) := by
        rw [Nat.pow_succ, Nat.mul_comm (128 ^ i) 128, ← Nat.mul_assoc, ← Nat.add_mul]
        congr 1
        omega
      rw [e, e2]
      simp only [List.length_cons, Prod.mk.injEq]
      constructor <;> omega

theorem first_enc (v : Nat) (r : List UInt8) (h : v ≤ 9223372036854775807) : first (enc v ++ r) = (v, (enc v).length) := by
  unfold first
  rw [dec_enc 9 0 0 v r (Nat.lt_of_le_of_lt h (by decide)) (.inr rfl) (by decide)]
  simp

theorem enc300 : enc 300 = [172, 2] := by rw [enc_big (by decide), enc_small (by decide)]; rfl
theorem enc2 : enc 2 = [2] := by rw [enc_small (by decide)]; rfl

theorem alive_read1 : rdN [172, 2, 2, 104, 105] 1000 = (300, 0, [2, 104, 105]) := by
  have := first_enc 300 [2, 104, 105] (by decide)
  rw [enc300] at this
  have e : first [172, 2, 2, 104, 105] = (300, 2) := this
  rw [rdN_yes (by rw [e]; decide), e]
  rfl
theorem alive_read2 : rdT [2, 104, 105] 2 = ([104, 105], 0, []) := by
  have := first_enc 2 [104, 105] (by decide)
  rw [enc2] at this
  have e : first [2, 104, 105] = (2, 1) := this
  rw [rdT_yes (by rw [e]; decide), e]
  rfl

set_option maxRecDepth 100000 in
set_option maxHeartbeats 1000000 in
theorem alive_any (w : World) : Calls Try.prog 12 #[] w fun e w' => e = .returned (.bool true) ∧ Below w.heap.size w w' := by
  go_enter Try.func12, Try.ntmps12
  go_wp2_with fail
  refine (number_any _ [] 300 _ (Sl.nil w) (by decide) (by decide)).mono ?_
  rintro e w1 ⟨r1, rfl, ho1, hb1⟩
  have hs1 := ho1.sl
  rw [show (300 : Int).toNat = 300 from rfl, enc300, List.nil_append] at hs1
  clear ho1
  go_wp2_with fail
  refine (text_any _ [172, 2] ⟨#[104, 105]⟩ _ hs1 (by decide) (by decide)).mono ?_
  rintro e w2 ⟨r2, rfl, ho2, hb2⟩
  have hs2 := ho2.sl
  have e2 : [172, 2] ++ encT ⟨#[104, 105]⟩ = [172, 2, 2, 104, 105] := by
    show [172, 2] ++ (enc 2 ++ [104, 105]) = _
    rw [enc2]; rfl
  rw [e2] at hs2
  clear ho2 hs1 e2
  go_wp2_with fail
  refine (open_any _ _ _ hs2 (by decide)).mono ?_
  rintro e w3 ⟨R, rfl, hR, hr3, hb3⟩
  have hs3 := hs2.below hb3 (Nat.le_refl _)
  clear hs2
  go_wp2_with fail
  have hN := rnumber_any R _ 1000 _ hr3 (by decide)
  rw [alive_read1] at hN
  refine hN.mono ?_
  clear hN
  rintro e w4 ⟨rfl, hr4, hy4⟩
  have hs4 := hy4.sl hr3 hs3
  clear hs3
  go_wp2_with fail
  have hN := rtext_any R _ 2 _ hr4 (by decide)
  rw [alive_read2] at hN
  refine hN.mono ?_
  clear hN
  rintro e w5 ⟨rfl, hr5, hy5⟩
  have hs5 := hy5.sl hr4 hs4
  clear hs4
  have hsz1 := hb1.size
  have hsz2 := hb2.size
  have hB : Below w.heap.size w w5 := (((hb1.trans (hb2.mono hsz1)).trans (hb3.mono (by omega))).trans (hy4.below (by omega))).trans (hy5.below (by omega))
  have Hs := hide hs5
  have HB := hide hB
  have Hr := hide hr5
  obtain ⟨ao, c, rfl, _⟩ := id hs5
  obtain ⟨b, o, rfl⟩ := hs5.addr (by decide)
  have c0 := hs5.cell 0 (by decide)
  have c1 := hs5.cell 1 (by decide)
  simp at c0 c1
  clear hs5 hB hr5 hy5 hy4 hr4 hr3 hb3 hb2 hb1
  go_wp2_with fail
  refine (end_any R _ _ (unhide Hr) (by decide)).mono ?_
  rintro e w6 ⟨rfl, rfl⟩
  go_wp2
  go_ret
  exact ⟨rfl, unhide HB⟩

end Go.Proofs.Ytaeipnmmknpoeaa
