/-
  wampumref02.Sum: what it answers.
-/
import Derived.Test.YteacolahbnilnaaSum
namespace Go.Proofs.Yteacolahbnilnaa
open Go.RowKit
set_option linter.unusedVariables false

theorem ref_test (y cn m : Nat) : ((y : Int) % 2 != (cn : Int) / 2 ^ m % 2) = decide (¬ y % 2 = cn / 2 ^ m % 2) := by
  have e1 : (y : Int) % 2 = ((y % 2 : Nat) : Int) := by omega
  have e2 : (cn : Int) / 2 ^ m % 2 = ((cn / 2 ^ m % 2 : Nat) : Int) := by simp
  rw [e1, e2]
  by_cases h : y % 2 = cn / 2 ^ m % 2
  · rw [h]; simp
  · rw [decide_eq_true h, bne_iff_ne]; omega

set_option maxRecDepth 100000 in
set_option maxHeartbeats 1000000 in
theorem refsum_any (v : Value) (l : List UInt8) (w : World) (hs : Sl w v l) :
    Calls Try.prog 16 #[v] w fun e w' => e = .returned (.int .u32 (crc l)) ∧ w' = w := by
  have hv : ∃ ao c, v = .slice ao l.length c ∧ l.length ≤ c ∧ c ≤ maxLen := by obtain ⟨ao, c, rfl, h1, h2, _⟩ := hs; exact ⟨_, _, rfl, h1, h2⟩
  obtain ⟨ao, c, rfl, h1, h2⟩ := hv
  unfold maxLen at h2
  have Hs : Hid (Sl w (.slice ao l.length c) l) := hs
  clear hs
  go_enter Try.func16, Try.ntmps16
  go_wp2
  go_loop [3, 4] (fun s i => ∃ (k n : Nat), k ≤ l.length ∧ i = .int .i64 k ∧ s = .int .u32 n ∧ n < 4294967296 ∧ Hid (n = crcS 4294967295 (l.take k))) (fun _ i => l.length - (intOf i).toNat)
  case atStart => exact ⟨0, 4294967295, by omega, rfl, rfl, by decide, rfl⟩
  case round =>
    obtain ⟨k, n, hk, rfl, rfl, hn, Hn⟩ := hrel
    by_cases hlt : k < l.length
    · obtain ⟨b, o, rfl⟩ := Hs.out.addr (by omega)
      have hc := Hs.out.cell k hlt
      have hcb : (l[k].toNat : Int) < 256 := by have := l[k].toNat_lt; omega
      obtain ⟨cn, hcn⟩ : ∃ cn, Hid (l[k].toNat = cn) := ⟨l[k].toNat, Eq.refl l[k].toNat⟩
      rw [hcn.out] at hc hcb
      go_wp2
      go_loop [3, 5] (fun s j => ∃ (m y : Nat), m ≤ 8 ∧ j = .int .i64 m ∧ s = .int .u32 y ∧ y < 4294967296 ∧ Hid (y ^^^ (cn / 2 ^ m) = stpN m (n ^^^ cn))) (fun _ j => 8 - (intOf j).toNat)
      case atStart => exact ⟨0, n, by omega, rfl, rfl, hn, by show _ = _; simp [stpN]⟩
      case round =>
        obtain ⟨m, y, hm, rfl, rfl, hy, Hy⟩ := hrel
        by_cases hm8 : m < 8
        · by_cases hbit : y % 2 = cn / 2 ^ m % 2
          · have ht := ref_test y cn m
            rw [decide_eq_false (by simpa using hbit)] at ht
            have hst := ref_step n cn m y Hy.out
            rw [if_pos hbit] at hst
            have Hst := hide hst
            clear hst
            go_wp2
            go_round
            case rel => exact ⟨m + 1, y / 2, by omega, by go_num, by go_num, by omega, unhide Hst⟩
            case measure => simp [intOf]; omega
          · have ht := ref_test y cn m
            rw [decide_eq_true hbit] at ht
            have hst := ref_step n cn m y Hy.out
            rw [if_neg hbit] at hst
            have Hst := hide hst
            clear hst
            go_wp2
            go_round
            case rel =>
              refine ⟨m + 1, (y / 2) ^^^ 3988292384, by omega, by go_num, ?_, Nat.xor_lt_two_pow (n := 32) (by omega) (by decide), unhide Hst⟩
              have e : (y : Int) / 2 = ((y / 2 : Nat) : Int) := by omega
              rw [e, show (3988292384 : Int) = ((3988292384 : Nat) : Int) from rfl, u32_xor_nat _ _ (by omega) (by decide)]
            case measure => simp [intOf]; omega
        · go_wp2
          go_round
          case rel =>
            refine ⟨k + 1, y, by omega, by go_num, rfl, hy, ?_⟩
            have e8 : m = 8 := by omega
            subst e8
            show y = _
            have hcz : cn / 2 ^ 8 = 0 := Nat.div_eq_of_lt (by omega)
            have hyo := Hy.out
            rw [hcz, Nat.xor_zero] at hyo
            rw [hyo, take_snoc l k hlt, crcS_snoc, ← Hn.out]
            unfold bstep
            rw [hcn.out]
          case measure => simp [intOf]; omega
    · go_wp2
      go_ret
      refine ⟨ret_u32 ?_, rfl⟩
      have e : crc l = 4294967295 - n := by
        unfold crc
        rw [ref_last hn, Hn.out, List.take_of_length_le (by omega)]
      rw [e]
      omega

end Go.Proofs.Yteacolahbnilnaa
