/-
  seal.Sum: what it answers.
-/
import Derived.Test.YteacolahbnilnaaRows
import Derived.Test.YteacolahbnilnaaBase
import Derived.Test.YteacolahbnilnaaCrc
import Derived.Laws.BitsAllLaws
namespace Go.Proofs.Yteacolahbnilnaa
open Go.RowKit
set_option linter.unusedVariables false

theorem sum_step (y : Nat) (hy : y < 4294967296) : bits .xor .u32 ((y : Int) / 2) (3988292384 * bits .and .u32 (y : Int) 1 % 4294967296) = ((stp y : Nat) : Int) := by
  have e1 : bits .and .u32 (y : Int) 1 = ((y % 2 : Nat) : Int) := by
    rw [show (1 : Int) = ((1 : Nat) : Int) from rfl, u32_and_nat y 1 hy (by decide), Nat.and_one_is_mod]
  have e2 : (3988292384 * ((y % 2 : Nat) : Int) % 4294967296) = ((3988292384 * (y % 2) : Nat) : Int) := by omega
  have e3 : (y : Int) / 2 = ((y / 2 : Nat) : Int) := by omega
  rw [e1, e2, e3, u32_xor_nat _ _ (by omega) (by omega)]
  rfl

theorem take_snoc (l : List UInt8) (k : Nat) (h : k < l.length) : l.take (k + 1) = l.take k ++ [l[k]] := List.take_succ_eq_append_getElem h

theorem ret_u32 {a b : Int} (h : a = b) : Ending.returned (.int .u32 a) = .returned (.int .u32 b) := by rw [h]

set_option maxRecDepth 100000 in
set_option maxHeartbeats 1000000 in
theorem sum_any (v : Value) (l : List UInt8) (w : World) (hs : Sl w v l) :
    Calls Try.prog 15 #[v] w fun e w' => e = .returned (.int .u32 (crc l)) ∧ w' = w := by
  have hv : ∃ ao c, v = .slice ao l.length c ∧ l.length ≤ c ∧ c ≤ maxLen := by obtain ⟨ao, c, rfl, h1, h2, _⟩ := hs; exact ⟨_, _, rfl, h1, h2⟩
  obtain ⟨ao, c, rfl, h1, h2⟩ := hv
  unfold maxLen at h2
  have Hs : Hid (Sl w (.slice ao l.length c) l) := hs
  clear hs
  go_enter Try.func15, Try.ntmps15
  go_wp2
  go_loop [3, 9] (fun s i => ∃ (k n : Nat), k ≤ l.length ∧ i = .int .i64 k ∧ s = .int .u32 n ∧ n < 4294967296 ∧ Hid (n = crcS 4294967295 (l.take k))) (fun _ i => l.length - (intOf i).toNat)
  case atStart => exact ⟨0, 4294967295, by omega, rfl, rfl, by decide, rfl⟩
  case round =>
    obtain ⟨k, n, hk, rfl, rfl, hn, Hn⟩ := hrel
    by_cases hlt : k < l.length
    · obtain ⟨b, o, rfl⟩ := Hs.out.addr (by omega)
      have hc := Hs.out.cell k hlt
      have hcb : (l[k].toNat : Int) < 256 := by have := l[k].toNat_lt; omega
      obtain ⟨cn, hcn⟩ : ∃ cn, Hid (l[k].toNat = cn) := ⟨l[k].toNat, Eq.refl l[k].toNat⟩
      rw [hcn.out] at hc hcb
      go_wp2
      go_loop [3, 17] (fun s j => ∃ (m y : Nat), m ≤ 8 ∧ j = .int .i64 m ∧ s = .int .u32 y ∧ y < 4294967296 ∧ Hid (y = stpN m (n ^^^ cn))) (fun _ j => 8 - (intOf j).toNat)
      case atStart => exact ⟨0, n ^^^ cn, by omega, rfl, by rw [u32_xor_nat n cn hn (by omega)], Nat.xor_lt_two_pow (n := 32) hn (by omega), rfl⟩
      case round =>
        obtain ⟨m, y, hm, rfl, rfl, hy, Hy⟩ := hrel
        by_cases hm8 : m < 8
        · go_wp2
          go_round
          case rel => exact ⟨m + 1, stp y, by omega, by go_num, by rw [sum_step y hy], stp_lt hy, by rw [stpN_succ, ← Hy.out]; exact rfl⟩
          case measure => simp [intOf]; omega
        · go_wp2
          go_round
          case rel =>
            refine ⟨k + 1, y, by omega, by go_num, rfl, hy, ?_⟩
            have e8 : m = 8 := by omega
            subst e8
            show y = _
            rw [Hy.out, take_snoc l k hlt, crcS_snoc, ← Hn.out]
            unfold bstep
            rw [hcn.out]
          case measure => simp [intOf]; omega
    · go_wp2
      go_ret
      refine ⟨ret_u32 ?_, rfl⟩
      rw [show (4294967295 : Int) = ((4294967295 : Nat) : Int) from rfl, u32_xor_nat n _ hn (by decide), Hn.out, List.take_of_length_le (by omega)]
      rfl

end Go.Proofs.Yteacolahbnilnaa
