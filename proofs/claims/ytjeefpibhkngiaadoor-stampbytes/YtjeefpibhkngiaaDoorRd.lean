/-
  bytes.Clone, pack.Open, pack.first: what they answer.
-/
import Derived.Test.YtjeefpibhkngiaaDoorPut
namespace Go.Proofs.YtjeefpibhkngiaaDoor
open Go.RowKit
set_option linter.unusedVariables false

theorem Own.lit0 (w : World) : Own w.heap.size (w.alloc (.cells #[] 5)) (.slice (some ⟨w.heap.size, 0, none⟩) 0 0) [] :=
  World.ownsRow_lit w #[] 0 (Nat.le_refl _) (Nat.zero_le _) rfl

set_option maxRecDepth 100000 in
set_option maxHeartbeats 400000 in
theorem clone_any (v : Value) (l : List UInt8) (w : World) (hs : Sl w v l) (hl : l.length ≤ 1099511627776) :
    Calls Tryd.prog 36 #[v] w fun e w' => ∃ r, e = .returned r ∧ Own w.heap.size w' r l ∧ Below w.heap.size w w' := by
  obtain ⟨ao, c, rfl, h1, h2, h3, h4⟩ := hs
  obtain ⟨i0, hi, hz0, hz1, hz2⟩ := info_parts Tryd.infoByte
  have hE := fun (a : Option Addr) (n c : Nat) (w : World) => Lib.run_eql_slice_nil (P := Tryd.prog) w 35 5 a n c 0 0 Tryd.underlying35
  cases ao with
  | none =>
    obtain ⟨rfl, rfl⟩ := h3 rfl
    clear h3 h4
    go_enter Tryd.func36, Tryd.ntmps36
    go_wp2
    go_ret
    exact ⟨_, rfl, World.ownsRow_nil _ _ _ _, Below.refl _ _⟩
  | some a =>
    have H4 : Hid (∀ j u, (bc l)[j]? = some u → w.cell? (a.add j) = some u) := h4 a rfl
    clear h3 h4
    have h0 := Own.lit0 w
    go_enter Tryd.func36, Tryd.ntmps36
    go_wp2_with (at_builtin; refine wpList_append_own _ rfl (.tmp 5) (.tmp 6) 35 rfl w.heap.size 5 i0 (.int .u8 0) 1 1 Tryd.underlying35 hi hz0 hz1 hz2 rfl (by decide) _ _ _ rfl h0 a l.length c (bc l) rfl ?h1 ?h2 (bc_one _) ?h3 ?h4 ?h5 ?_)
    case h1 => simp [bc_length]
    case h2 =>
      intro j u hu
      have hc := H4.out j u hu
      rw [World.cell?_of_block (w := w) (Below.heap_alloc w _ _ (World.block_lt_of_cell? w _ hc))]
      exact hc
    case h3 => unfold maxLen; simp; omega
    case h4 => simp; omega
    case h5 => simp
    intro v' w1 ho hg _
    have R : Own w.heap.size w1 v' l := by unfold Own; simpa [bc] using ho
    have R2 : Below w.heap.size w w1 := ((Below.refl _ w).alloc (Nat.le_refl _) _).grown hg (by simp) (fun k hk => (World.ownsRow.lt h0 k hk).1)
    clear ho hg h0
    go_wp2
    go_ret
    exact ⟨_, rfl, R, R2⟩

/-- The number that bytes begin with, and how many bytes it has (n: how many may be looked at; i, v: what was read). -/
def dec : Nat → Nat → Nat → List UInt8 → Nat × Nat
  | 0, _, _, _ => (0, 0)
  | _ + 1, _, _, [] => (0, 0)
  | n + 1, i, v, c :: l =>
    if 128 ≤ c.toNat then dec n (i + 1) (v + c.toNat % 128 * 128 ^ i) l
    else if c.toNat = 0 ∧ 0 < i then (0, 0) else (v + c.toNat % 128 * 128 ^ i, i + 1)

def first (l : List UInt8) : Nat × Nat := dec 9 0 0 l

theorem wraps_i64 (n : Int) (h₀ : 0 ≤ n) (h₁ : n < 2 ^ 63) : IntKind.i64.wrap n = n := by rw [IntKind.wrap_i64]; omega

theorem pow128 (k : Nat) : 128 ^ k = 2 ^ (7 * k) := by rw [Nat.pow_mul]

theorem digit_lt (k c : Nat) (hk : k ≤ 8) : c % 128 * 128 ^ k < 2 ^ 63 := by
  have h1 : 128 ^ k ≤ 128 ^ 8 := Nat.pow_le_pow_right (by decide) hk
  have h2 : c % 128 ≤ 127 := by omega
  have h3 : c % 128 * 128 ^ k ≤ 127 * 128 ^ 8 := Nat.mul_le_mul h2 h1
  exact Nat.lt_of_le_of_lt h3 (by decide)

/-- One digit of seven bits more. -/
theorem or_step (k v c : Nat) (hk : k ≤ 8) (hv : v < 128 ^ k) : bits .or .i64 v (wrap64 ((c : Int) % 128 * 2 ^ (7 * k))) = ((v + c % 128 * 128 ^ k : Nat) : Int) := by
  have hd := digit_lt k c hk
  have e1 : (c : Int) % 128 * 2 ^ (7 * k) = ((c % 128 * 128 ^ k : Nat) : Int) := by rw [pow128]; simp
  have e2 : wrap64 ((c % 128 * 128 ^ k : Nat) : Int) = ((c % 128 * 128 ^ k : Nat) : Int) := by unfold wrap64; omega
  have h8 : 128 ^ k ≤ 128 ^ 8 := Nat.pow_le_pow_right (by decide) hk
  have hv63 : v < 2 ^ 63 := Nat.lt_of_lt_of_le hv (Nat.le_trans h8 (by decide))
  rw [e1, e2, (bits_nat .i64 63 (by decide) wraps_i64 v _ hv63 hd).2, pow128, Nat.or_comm, Nat.mul_comm, ← Nat.two_pow_add_eq_or_of_lt (by rw [← pow128]; exact hv)]
  congr 1
  omega

theorem or_zero (k v : Nat) (hk : k ≤ 8) (hv : v < 128 ^ k) : bits .or .i64 v (wrap64 0) = ((v + 0 % 128 * 128 ^ k : Nat) : Int) := by
  have := or_step k v 0 hk hv
  simpa using this

theorem dec_more (k v : Nat) (l : List UInt8) (hk : k < 9) (hl : k < l.length) (h : 128 ≤ l[k].toNat) : dec (9 - k) k v (l.drop k) = dec (9 - (k + 1)) (k + 1) (v + l[k].toNat % 128 * 128 ^ k) (l.drop (k + 1)) := by
  rw [List.drop_eq_getElem_cons hl, show 9 - k = (9 - (k + 1)) + 1 by omega, dec, if_pos h]

theorem dec_last (k v : Nat) (l : List UInt8) (hk : k < 9) (hl : k < l.length) (h : l[k].toNat < 128) (h0 : ¬ (l[k].toNat = 0 ∧ 0 < k)) : dec (9 - k) k v (l.drop k) = (v + l[k].toNat % 128 * 128 ^ k, k + 1) := by
  rw [List.drop_eq_getElem_cons hl, show 9 - k = (9 - (k + 1)) + 1 by omega, dec, if_neg (by omega), if_neg h0]

theorem dec_nought (k v : Nat) (l : List UInt8) (hk : k < 9) (hl : k < l.length) (h : l[k].toNat = 0) (h0 : 0 < k) : dec (9 - k) k v (l.drop k) = (0, 0) := by
  rw [List.drop_eq_getElem_cons hl, show 9 - k = (9 - (k + 1)) + 1 by omega, dec, if_neg (by omega), if_pos ⟨h, h0⟩]

theorem dec_none (k v : Nat) (l : List UInt8) (h : k = 9 ∨ l.length ≤ k) : dec (9 - k) k v (l.drop k) = (0, 0) := by
  rcases h with rfl | h
  · rfl
  · rw [List.drop_eq_nil_of_le h]
    cases 9 - k <;> rfl

theorem pow_step (k v c : Nat) (hv : v < 128 ^ k) : v + c % 128 * 128 ^ k < 128 ^ (k + 1) := by
  have h2 : c % 128 ≤ 127 := by omega
  have h3 : c % 128 * 128 ^ k ≤ 127 * 128 ^ k := Nat.mul_le_mul_right _ h2
  rw [Nat.pow_succ]
  omega

theorem ret_two {a b c d : Int} (h1 : a = c) (h2 : b = d) : Ending.returned (.tuple #[.int .i64 a, .int .i64 b]) = .returned (.tuple #[.int .i64 c, .int .i64 d]) := by rw [h1, h2]

set_option maxRecDepth 100000 in
set_option maxHeartbeats 400000 in
theorem first_any (v : Value) (l : List UInt8) (w : World) (hs : Sl w v l) (hl : l.length ≤ 1099511627776) :
    Calls Tryd.prog 44 #[v] w fun e w' => e = .returned (.tuple #[.int .i64 (first l).1, .int .i64 (first l).2]) ∧ w' = w := by
  have hv : ∃ ao c, v = .slice ao l.length c ∧ l.length ≤ c ∧ c ≤ maxLen := by obtain ⟨ao, c, rfl, h1, h2, _⟩ := hs; exact ⟨_, _, rfl, h1, h2⟩
  obtain ⟨ao, c, rfl, h1, h2⟩ := hv
  unfold maxLen at h2
  have Hs : Hid (Sl w (.slice ao l.length c) l) := hs
  clear hs
  by_cases h9 : 9 < l.length
  all_goals
    go_enter Tryd.func44, Tryd.ntmps44
    go_wp2
    go_loop [2, 12] (fun x i => ∃ k v : Nat, k ≤ 9 ∧ k ≤ l.length ∧ i = .int .i64 k ∧ x = .int .i64 v ∧ v < 128 ^ k ∧ first l = dec (9 - k) k v (l.drop k)) (fun _ i => 9 - (intOf i).toNat)
    case atStart => exact ⟨0, 0, by omega, by omega, rfl, rfl, by decide, rfl⟩
    case round =>
      obtain ⟨k, v, hk, hkl, rfl, rfl, hv, hf⟩ := hrel
      have Hf : Hid (first l = dec (9 - k) k v (l.drop k)) := hf
      have Hv : Hid (v < 128 ^ k) := hv
      clear hf hv
      by_cases hlt : k < 9 ∧ k < l.length
      · obtain ⟨hk9, hb⟩ := hlt
        obtain ⟨b, o, rfl⟩ := Hs.out.addr (by omega)
        have hc := Hs.out.cell k hb
        have hcb : (l[k].toNat : Int) < 256 := by have := l[k].toNat_lt; omega
        obtain ⟨cn, hcn⟩ : ∃ cn, Hid (l[k].toNat = cn) := ⟨l[k].toNat, Eq.refl l[k].toNat⟩
        rw [hcn.out] at hc hcb
        go_wp2
        · go_round
          case rel => exact ⟨k + 1, v + cn % 128 * 128 ^ k, by omega, by omega, by go_num, by rw [or_step k v cn (by omega) Hv.out], pow_step k v cn Hv.out, by rw [Hf.out, dec_more k v l hk9 hb (by rw [hcn.out]; omega), hcn.out]⟩
          case measure => simp [intOf]; omega
        all_goals
          go_ret2
          refine ⟨?_, rfl⟩
          first
          | (rw [Hf.out, dec_nought k v l hk9 hb (by rw [hcn.out]; assumption) (by assumption)]; rfl)
          | (rw [Hf.out, dec_last k v l hk9 hb (by rw [hcn.out]; omega) (by rw [hcn.out]; omega), hcn.out, or_step k v cn (by omega) Hv.out]; rfl)
          | (obtain rfl : cn = 0 := by assumption
             rw [Hf.out, dec_last k v l hk9 hb (by rw [hcn.out]; omega) (by rw [hcn.out]; omega), hcn.out, or_zero k v (by omega) Hv.out]; rfl)
      · go_wp2
        go_ret2
        refine ⟨?_, rfl⟩
        rw [Hf.out, dec_none k v l (by omega)]
        rfl

end Go.Proofs.YtjeefpibhkngiaaDoor
