/-
  The sum of bytes, by numbers: a step of one bit, a step of one byte, and why turned bits give another sum. Of no program.
  Frames, by lists: what bytes begin with, and what they are scanned as. Of no program.
  seal.Sum: what it answers.
  seal.get, seal.put, seal.fits: what they answer.
  seal.first: what it answers.
  seal.Frame, bytes.Clone, seal.Whole: what they answer.
  seal.frames: what its loop's body is handed.
  What a Scan under way has gathered.
  seal.Scan: what it answers.
-/
import Derived.Test.YteanjnkfoddfmaaL1
import Derived.Test.YteanjnkfoddfmaaRows
import Derived.Laws.BitsAllLaws
import Derived.Deep.QuietTactic
import Derived.BigQuiet
import Derived.RangeFuncNested
import Derived.RangeFuncBound
import Derived.RangeFuncCalls
import Derived.RangeFuncLeaves
import Derived.RangeFuncBox
import Derived.Shelf.Abstract
import Derived.Shelf.RegionOpen
import Derived.OwnWalkIn
import Derived.TacticsInMore
import Derived.LoopNIn
import Derived.LoopIn
import Derived.Maps.AppendAt
namespace Go.Proofs.Yteanjnkfoddfmaa
set_option linter.unusedVariables false

/-- One bit's step. -/
def stp (s : Nat) : Nat := (s / 2) ^^^ (3988292384 * (s % 2))
def stpN : Nat → Nat → Nat
  | 0, s => s
  | n + 1, s => stpN n (stp s)

theorem stpN_add : ∀ (m n s : Nat), stpN (m + n) s = stpN n (stpN m s)
  | 0, n, s => by simp [stpN]
  | m + 1, n, s => by rw [show m + 1 + n = (m + n) + 1 by omega]; simp only [stpN]; rw [stpN_add m n]

theorem stpN_succ (n s : Nat) : stpN (n + 1) s = stp (stpN n s) := by rw [stpN_add n 1]; rfl

theorem stp_lt {s : Nat} (h : s < 2 ^ 32) : stp s < 2 ^ 32 := by
  unfold stp
  refine Nat.xor_lt_two_pow (by omega) ?_
  have : s % 2 ≤ 1 := by omega
  have h2 : 3988292384 * (s % 2) ≤ 3988292384 * 1 := Nat.mul_le_mul_left _ this
  omega

theorem stpN_lt : ∀ (n : Nat) {s : Nat}, s < 2 ^ 32 → stpN n s < 2 ^ 32
  | 0, _, h => h
  | n + 1, _, h => stpN_lt n (stp_lt h)

theorem xor_mod2 (a b : Nat) : (a ^^^ b) % 2 = (a % 2) ^^^ (b % 2) := by
  have := Nat.xor_mod_two_pow (a := a) (b := b) (n := 1)
  simpa using this

theorem poly_xor (a b : Nat) : 3988292384 * ((a % 2) ^^^ (b % 2)) = (3988292384 * (a % 2)) ^^^ (3988292384 * (b % 2)) := by
  rcases Nat.mod_two_eq_zero_or_one a with ha | ha <;> rcases Nat.mod_two_eq_zero_or_one b with hb | hb <;> rw [ha, hb] <;> rfl

theorem xor_div2 (a b : Nat) : (a ^^^ b) / 2 = (a / 2) ^^^ (b / 2) := by
  have := Nat.xor_div_two_pow (a := a) (b := b) (n := 1)
  simpa using this

theorem stp_xor (a b : Nat) : stp (a ^^^ b) = stp a ^^^ stp b := by
  unfold stp
  rw [xor_div2, xor_mod2, poly_xor]
  ac_rfl

theorem stpN_xor : ∀ (n a b : Nat), stpN n (a ^^^ b) = stpN n a ^^^ stpN n b
  | 0, _, _ => rfl
  | n + 1, a, b => by simp only [stpN]; rw [stp_xor, stpN_xor n]

theorem stp_double (a : Nat) : stp (2 * a) = a := by
  unfold stp
  rw [show 2 * a / 2 = a by omega, show 2 * a % 2 = 0 by omega]
  simp

theorem stpN_shift : ∀ (n a : Nat), stpN n (2 ^ n * a) = a
  | 0, a => by simp [stpN]
  | n + 1, a => by
    simp only [stpN]
    rw [show 2 ^ (n + 1) * a = 2 * (2 ^ n * a) by rw [Nat.pow_succ]; simp only [Nat.mul_comm, Nat.mul_left_comm], stp_double, stpN_shift n]

/-- Nothing but nought steps to nought. -/
theorem stp_zero {s : Nat} (h : s < 2 ^ 32) (h0 : stp s = 0) : s = 0 := by
  unfold stp at h0
  have e : s / 2 = 3988292384 * (s % 2) := by
    have := congrArg (· ^^^ (3988292384 * (s % 2))) h0
    simpa [Nat.xor_assoc] using this
  omega

theorem stpN_zero : ∀ (n : Nat) {s : Nat}, s < 2 ^ 32 → stpN n s = 0 → s = 0
  | 0, _, _, h => h
  | n + 1, _, h, h0 => stp_zero h (stpN_zero n (stp_lt h) h0)

/-- One byte's step; the sum. -/
def bstep (s : Nat) (c : UInt8) : Nat := stpN 8 (s ^^^ c.toNat)
def crcS (s : Nat) (l : List UInt8) : Nat := l.foldl bstep s
def crc (l : List UInt8) : Nat := crcS 4294967295 l ^^^ 4294967295

theorem bstep_lt {s : Nat} (c : UInt8) (h : s < 2 ^ 32) : bstep s c < 2 ^ 32 :=
  stpN_lt 8 (Nat.xor_lt_two_pow h (Nat.lt_trans c.toNat_lt (by decide)))

theorem crcS_lt : ∀ (l : List UInt8) {s : Nat}, s < 2 ^ 32 → crcS s l < 2 ^ 32
  | [], _, h => h
  | c :: l, _, h => crcS_lt l (bstep_lt c h)

theorem crc_lt (l : List UInt8) : crc l < 2 ^ 32 := Nat.xor_lt_two_pow (crcS_lt l (by decide)) (by decide)

theorem crcS_snoc (s : Nat) (l : List UInt8) (c : UInt8) : crcS s (l ++ [c]) = bstep (crcS s l) c := by simp [crcS]

/-- Bytes as one number, the first the lowest. -/
def num : List UInt8 → Nat
  | [] => 0
  | c :: l => c.toNat + 256 * num l

theorem add_xor {c m : Nat} (h : c < 256) : c + 256 * m = c ^^^ (256 * m) := by
  have := Nat.two_pow_add_eq_or_of_lt (i := 8) h m
  have h2 : (2 ^ 8 * m) ^^^ c = (2 ^ 8 * m) ||| c := by
    apply Nat.eq_of_testBit_eq
    intro i
    rw [Nat.testBit_xor, Nat.testBit_or, Nat.testBit_two_pow_mul]
    by_cases hi : 8 ≤ i
    · have : c.testBit i = false := Nat.testBit_lt_two_pow (Nat.lt_of_lt_of_le h (show 2 ^ 8 ≤ 2 ^ i from Nat.pow_le_pow_right (by decide) hi))
      simp [this]
    · simp [hi]
  rw [show (256 : Nat) = 2 ^ 8 from rfl, Nat.add_comm, this, ← h2, Nat.xor_comm]

theorem crcS_num : ∀ (l : List UInt8) (s : Nat), crcS s l = stpN (8 * l.length) (s ^^^ num l)
  | [], s => by simp [crcS, num, stpN]
  | c :: l, s => by
    have e : crcS s (c :: l) = crcS (bstep s c) l := rfl
    rw [e, crcS_num l, List.length_cons, show 8 * (l.length + 1) = 8 + 8 * l.length by omega, stpN_add]
    congr 1
    rw [show num (c :: l) = c.toNat + 256 * num l from rfl]
    unfold bstep
    rw [add_xor c.toNat_lt, ← Nat.xor_assoc, stpN_xor 8 (s ^^^ c.toNat), show 256 * num l = 2 ^ 8 * num l from rfl, stpN_shift]

/-- Bits within 32 beside one another turned: another sum. -/
theorem crc_turned {l m : List UInt8} (hl : m.length = l.length) (d at_ : Nat) (hd : d < 2 ^ 32) (h0 : d ≠ 0) (hat : at_ ≤ 8 * l.length) (hn : num m = num l ^^^ (2 ^ at_ * d)) : crc m ≠ crc l := by
  intro e
  unfold crc at e
  have e2 : crcS 4294967295 m = crcS 4294967295 l := by
    have := congrArg (· ^^^ 4294967295) e
    simpa [Nat.xor_assoc] using this
  rw [crcS_num, crcS_num, hl, hn, ← Nat.xor_assoc, stpN_xor] at e2
  have e3 : stpN (8 * l.length) (2 ^ at_ * d) = 0 := by
    have := congrArg (fun x => stpN (8 * l.length) (4294967295 ^^^ num l) ^^^ x) e2
    simpa [← Nat.xor_assoc] using this
  rw [show 8 * l.length = at_ + (8 * l.length - at_) by omega, stpN_add, stpN_shift] at e3
  exact h0 (stpN_zero _ hd e3)

theorem num_set : ∀ (l : List UInt8) (k b : Nat) (h : k < l.length) (hb : b < 8), num (l.set k (l[k] ^^^ UInt8.ofNat (2 ^ b))) = num l ^^^ 2 ^ (8 * k + b)
  | c :: l, 0, b, _, hb => by
    have hc := c.toNat_lt
    have hp : 2 ^ b < 256 := by
      have : 2 ^ b < 2 ^ 8 := Nat.pow_lt_pow_right (by decide) hb
      simpa using this
    have e : (c ^^^ UInt8.ofNat (2 ^ b)).toNat = c.toNat ^^^ 2 ^ b := by
      rw [UInt8.toNat_xor, UInt8.toNat_ofNat', Nat.mod_eq_of_lt (by simpa using hp)]
    simp only [List.set_cons_zero, List.getElem_cons_zero, num]
    rw [e, add_xor (Nat.xor_lt_two_pow (n := 8) hc hp), add_xor hc, Nat.mul_zero, Nat.zero_add]
    ac_rfl
  | c :: l, k + 1, b, h, hb => by
    have ih := num_set l k b (by simpa using h) hb
    simp only [List.set_cons_succ, List.getElem_cons_succ, num]
    rw [ih, add_xor c.toNat_lt, add_xor c.toNat_lt, show 8 * (k + 1) + b = 8 + (8 * k + b) by omega, Nat.pow_add 2 8 (8 * k + b), show (256 : Nat) = 2 ^ 8 from rfl]
    have : 2 ^ 8 * (num l ^^^ 2 ^ (8 * k + b)) = (2 ^ 8 * num l) ^^^ (2 ^ 8 * 2 ^ (8 * k + b)) := by
      have e := Nat.shiftLeft_xor_distrib (a := num l) (b := 2 ^ (8 * k + b)) (i := 8)
      simp only [Nat.shiftLeft_eq] at e
      rw [Nat.mul_comm, e, Nat.mul_comm (num l), Nat.mul_comm (2 ^ (8 * k + b))]
    rw [this, Nat.xor_assoc]

/-- One bit more of those that are turned. -/
theorem mod_step (d i : Nat) : d % 2 ^ (i + 1) = (d % 2 ^ i) + 2 ^ i * (d / 2 ^ i % 2) := by
  rw [Nat.pow_succ, Nat.mod_mul]

theorem turned_step (n d at_ i : Nat) (h : d / 2 ^ i % 2 = 1) : (n ^^^ (2 ^ at_ * (d % 2 ^ i))) ^^^ 2 ^ (at_ + i) = n ^^^ (2 ^ at_ * (d % 2 ^ (i + 1))) := by
  rw [Nat.xor_assoc, mod_step, h, Nat.mul_one]
  congr 1
  have hlt : d % 2 ^ i < 2 ^ i := Nat.mod_lt _ (Nat.two_pow_pos i)
  have e : d % 2 ^ i + 2 ^ i = (d % 2 ^ i) ^^^ 2 ^ i := by
    have h1 := Nat.two_pow_add_eq_or_of_lt hlt 1
    rw [Nat.mul_one] at h1
    rw [Nat.add_comm, h1]
    apply Nat.eq_of_testBit_eq
    intro j
    rw [Nat.testBit_xor, Nat.testBit_or, Nat.testBit_two_pow]
    by_cases hj : i = j
    · subst hj
      have : (d % 2 ^ i).testBit i = false := Nat.testBit_lt_two_pow hlt
      simp [this]
    · simp [hj]
  rw [e]
  have e2 := Nat.shiftLeft_xor_distrib (a := d % 2 ^ i) (b := 2 ^ i) (i := at_)
  simp only [Nat.shiftLeft_eq] at e2
  rw [Nat.mul_comm (2 ^ at_) (d % 2 ^ i ^^^ 2 ^ i), e2, Nat.mul_comm (2 ^ at_), Nat.pow_add, Nat.mul_comm (2 ^ at_) (2 ^ i)]

theorem turned_still (d i : Nat) (h : d / 2 ^ i % 2 = 0) : d % 2 ^ (i + 1) = d % 2 ^ i := by
  rw [mod_step, h, Nat.mul_zero, Nat.add_zero]

/-- The document's step of one bit, against a step of the byte whole. -/
theorem ref_step (s c k r : Nat) (hr : r ^^^ (c / 2 ^ k) = stpN k (s ^^^ c)) : (if r % 2 = c / 2 ^ k % 2 then r / 2 else (r / 2) ^^^ 3988292384) ^^^ (c / 2 ^ (k + 1)) = stpN (k + 1) (s ^^^ c) := by
  rw [stpN_succ, ← hr]
  unfold stp
  rw [xor_div2, xor_mod2, Nat.div_div_eq_div_mul, ← Nat.pow_succ]
  rcases Nat.mod_two_eq_zero_or_one r with ha | ha <;> rcases Nat.mod_two_eq_zero_or_one (c / 2 ^ k) with hb | hb <;> rw [ha, hb] <;> simp
  all_goals ac_rfl

theorem ref_last {r : Nat} (h : r < 2 ^ 32) : 4294967295 - r = r ^^^ 4294967295 := by
  apply Nat.eq_of_testBit_eq
  intro i
  rw [show 4294967295 - r = 2 ^ 32 - (r + 1) by omega, Nat.testBit_two_pow_sub_succ h, Nat.testBit_xor, show (4294967295 : Nat) = 2 ^ 32 - 1 from rfl, Nat.testBit_two_pow_sub_one]
  by_cases hi : i < 32
  · simp [hi]
  · have : r.testBit i = false := Nat.testBit_lt_two_pow (Nat.lt_of_lt_of_le h (Nat.pow_le_pow_right (by decide) (by omega)))
    simp [hi, this]

end Go.Proofs.Yteanjnkfoddfmaa

namespace Go.Proofs.Yteanjnkfoddfmaa
set_option linter.unusedVariables false

/-- A number's four bytes; the number of four bytes. -/
def four (n : Nat) : List UInt8 := [UInt8.ofNat (n / 16777216), UInt8.ofNat (n / 65536), UInt8.ofNat (n / 256), UInt8.ofNat n]
def of4 (l : List UInt8) : Nat := ((l[0]?.getD 0).toNat * 256 + (l[1]?.getD 0).toNat) * 65536 + (l[2]?.getD 0).toNat * 256 + (l[3]?.getD 0).toNat

theorem of4_four {n : Nat} (h : n < 2 ^ 32) (t : List UInt8) : of4 (four n ++ t) = n := by
  simp [of4, four, UInt8.toNat_ofNat']
  omega

theorem of4_lt (l : List UInt8) : of4 l < 2 ^ 32 := by
  unfold of4
  have h0 := (l[0]?.getD 0).toNat_lt
  have h1 := (l[1]?.getD 0).toNat_lt
  have h2 := (l[2]?.getD 0).toNat_lt
  have h3 := (l[3]?.getD 0).toNat_lt
  omega

/-- A record's frame. -/
def fr (x : List UInt8) : List UInt8 := four x.length ++ (four (crc x) ++ x)

theorem fr_length (x : List UInt8) : (fr x).length = 8 + x.length := by simp [fr, four]; omega

/-- The record that bytes begin with. -/
def fst (l : List UInt8) : Option (List UInt8) :=
  if 8 ≤ l.length ∧ 1 ≤ of4 l ∧ of4 l ≤ 65536 ∧ of4 l ≤ l.length - 8 ∧ crc ((l.drop 8).take (of4 l)) = of4 (l.drop 4) then some ((l.drop 8).take (of4 l)) else none

theorem fst_some {l x : List UInt8} (h : fst l = some x) : 8 + x.length ≤ l.length ∧ 1 ≤ x.length ∧ x.length ≤ 65536 ∧ x = (l.drop 8).take x.length := by
  unfold fst at h
  split at h
  · rename_i hc
    obtain ⟨h1, h2, h3, h4, h5⟩ := hc
    simp only [Option.some.injEq] at h
    subst h
    have e : ((l.drop 8).take (of4 l)).length = of4 l := by rw [List.length_take, List.length_drop]; omega
    rw [e]
    exact ⟨by omega, h2, h3, rfl⟩
  · cases h

theorem fst_short {l : List UInt8} (h : l.length ≤ 8) : fst l = none := by
  unfold fst
  rw [if_neg (by omega)]

theorem fst_fr {x : List UInt8} (h1 : 1 ≤ x.length) (h2 : x.length ≤ 65536) (t : List UInt8) : fst (fr x ++ t) = some x := by
  have e0 : of4 (fr x ++ t) = x.length := by unfold fr; rw [List.append_assoc]; exact of4_four (by omega) _
  have e1 : (fr x ++ t).drop 4 = four (crc x) ++ (x ++ t) := by simp [fr, four]
  have e2 : (fr x ++ t).drop 8 = x ++ t := by simp [fr, four]
  unfold fst
  rw [e0, e1, e2, of4_four (crc_lt x), List.take_left' rfl]
  have hl : (fr x ++ t).length = 8 + x.length + t.length := by rw [List.length_append, fr_length]
  rw [if_pos ⟨by omega, h1, h2, by omega, rfl⟩]

/-- A frame whose record has another sum is none. -/
theorem fst_bad {x y : List UInt8} (h1 : y.length = x.length) (h : crc y ≠ crc x) (h2 : x.length ≤ 65536) (t : List UInt8) : fst (four x.length ++ (four (crc x) ++ (y ++ t))) = none := by
  unfold fst
  rw [of4_four (by omega)]
  rw [if_neg]
  rintro ⟨-, -, -, -, h5⟩
  have e1 : (four x.length ++ (four (crc x) ++ (y ++ t))).drop 4 = four (crc x) ++ (y ++ t) := by simp [four]
  have e2 : (four x.length ++ (four (crc x) ++ (y ++ t))).drop 8 = y ++ t := by simp [four]
  rw [e1, e2, of4_four (crc_lt x), List.take_left' h1] at h5
  exact h h5

/-- A frame that is cut is none. -/
theorem fst_cut {x : List UInt8} (h2 : x.length ≤ 65536) {n : Nat} (hn : n < 8 + x.length) : fst ((fr x).take n) = none := by
  by_cases h4 : n < 4
  · exact fst_short (by rw [List.length_take]; omega)
  · unfold fst
    rw [if_neg]
    rintro ⟨h1, -, -, h5, -⟩
    have e : of4 ((fr x).take n) = x.length := by
      obtain ⟨k, rfl⟩ : ∃ k, n = 4 + k := ⟨n - 4, by omega⟩
      have : (fr x).take (4 + k) = four x.length ++ (four (crc x) ++ x).take k := by
        unfold fr
        rw [show 4 + k = (four x.length).length + k from rfl, List.take_length_add_append]
      rw [this, of4_four (by omega)]
    rw [List.length_take, fr_length] at h1
    rw [e, List.length_take, fr_length] at h5
    omega

/-- What bytes are scanned as: their records. -/
def Scans : List UInt8 → List (List UInt8) → Prop
  | l, [] => fst l = none
  | l, x :: r => fst l = some x ∧ Scans (l.drop (8 + x.length)) r

theorem Scans.ex : ∀ (n : Nat) (l : List UInt8), l.length ≤ n → ∃ r, Scans l r
  | 0, l, h => ⟨[], fst_short (by omega)⟩
  | n + 1, l, h => by
    cases hf : fst l with
    | none => exact ⟨[], hf⟩
    | some x =>
      have := fst_some hf
      obtain ⟨r, hr⟩ := Scans.ex n (l.drop (8 + x.length)) (by rw [List.length_drop]; omega)
      exact ⟨x :: r, hf, hr⟩

/-- How many bytes frames of such records have. -/
def total (r : List (List UInt8)) : Nat := (r.map fun x => 8 + x.length).sum
theorem total_cons (x : List UInt8) (r : List (List UInt8)) : total (x :: r) = 8 + x.length + total r := by simp [total]
theorem total_snoc (x : List UInt8) (r : List (List UInt8)) : total (r ++ [x]) = total r + (8 + x.length) := by simp [total]

theorem total_small : ∀ {r : List (List UInt8)}, (∀ x ∈ r, x.length ≤ 65536) → total r ≤ 65544 * r.length
  | [], _ => by simp [total]
  | x :: r, h => by
    have h1 := h x (by simp)
    have h2 := total_small (r := r) (fun y hy => h y (by simp [hy]))
    rw [total_cons, List.length_cons]
    omega

theorem Scans.total_le : ∀ {r : List (List UInt8)} {l : List UInt8}, Scans l r → total r ≤ l.length
  | [], _, _ => Nat.zero_le _
  | x :: r, l, h => by
    have h1 := fst_some h.1
    have h2 := Scans.total_le h.2
    rw [List.length_drop] at h2
    rw [total_cons]
    omega

theorem Scans.count_le : ∀ {r : List (List UInt8)} {l : List UInt8}, Scans l r → r.length ≤ l.length
  | [], _, _ => Nat.zero_le _
  | x :: r, l, h => by
    have h1 := fst_some h.1
    have h2 := Scans.count_le h.2
    rw [List.length_drop] at h2
    rw [List.length_cons]
    omega

/-- Frames, one behind the other. -/
def frs (r : List (List UInt8)) : List UInt8 := (r.map fr).flatten
theorem frs_cons (x : List UInt8) (r : List (List UInt8)) : frs (x :: r) = fr x ++ frs r := by simp [frs]
theorem frs_snoc (x : List UInt8) (r : List (List UInt8)) : frs (r ++ [x]) = frs r ++ fr x := by simp [frs]
theorem frs_append (r s : List (List UInt8)) : frs (r ++ s) = frs r ++ frs s := by simp [frs]
theorem frs_length : ∀ (r : List (List UInt8)), (frs r).length = total r
  | [] => rfl
  | x :: r => by rw [frs_cons, List.length_append, fr_length, frs_length r, total_cons]

/-- May be framed. -/
def Fits (x : List UInt8) : Prop := 1 ≤ x.length ∧ x.length ≤ 65536

theorem Scans.frames : ∀ {r : List (List UInt8)} (t : List UInt8), (∀ x ∈ r, Fits x) → fst t = none → Scans (frs r ++ t) r
  | [], t, _, ht => by simpa [frs, Scans] using ht
  | x :: r, t, h, ht => by
    have hx := h x (by simp)
    refine ⟨?_, ?_⟩
    · rw [frs_cons, List.append_assoc]; exact fst_fr hx.1 hx.2 _
    · rw [frs_cons, List.append_assoc, List.drop_left' (by rw [fr_length])]
      exact Scans.frames t (fun y hy => h y (by simp [hy])) ht

end Go.Proofs.Yteanjnkfoddfmaa

namespace Go.Proofs.Yteanjnkfoddfmaa
open Go.RowKit
set_option linter.unusedVariables false

theorem sum_step (y : Nat) (hy : y < 4294967296) : bits .xor .u32 ((y : Int) / 2) (3988292384 * bits .and .u32 (y : Int) 1 % 4294967296) = ((stp y : Nat) : Int) := by
  have e1 : bits .and .u32 (y : Int) 1 = ((y % 2 : Nat) : Int) := by
    rw [show (1 : Int) = ((1 : Nat) : Int) from rfl, u32_and_nat y 1 hy (by decide), Nat.and_one_is_mod]
  have e2 : (3988292384 * ((y % 2 : Nat) : Int) % 4294967296) = ((3988292384 * (y % 2) : Nat) : Int) := by omega
  have e3 : (y : Int) / 2 = ((y / 2 : Nat) : Int) := by omega
  rw [e1, e2, e3, u32_xor_nat _ _ (by omega) (by omega)]
  rfl

theorem take_snoc (l : List UInt8) (k : Nat) (h : k < l.length) : l.take (k + 1) = l.take k ++ [l[k]] := List.take_succ_eq_append_getElem h

theorem ret_u32 {a b : Int} (h : a = b) : Ending.returned (.int .u32 a) = .returned (.int .u32 b) := by rw [h]

set_option maxRecDepth 100000 in
set_option maxHeartbeats 1000000 in
theorem sum_any (v : Value) (l : List UInt8) (w : World) (hs : Sl w v l) :
    Calls Try.prog 91 #[v] w fun e w' => e = .returned (.int .u32 (crc l)) ∧ w' = w := by
  have hv : ∃ ao c, v = .slice ao l.length c ∧ l.length ≤ c ∧ c ≤ maxLen := by obtain ⟨ao, c, rfl, h1, h2, _⟩ := hs; exact ⟨_, _, rfl, h1, h2⟩
  obtain ⟨ao, c, rfl, h1, h2⟩ := hv
  unfold maxLen at h2
  have Hs : Hid (Sl w (.slice ao l.length c) l) := hs
  clear hs
  go_enter Try.func91, Try.ntmps91
  go_wp2
  go_loop [3, 9] (fun s i => ∃ (k n : Nat), k ≤ l.length ∧ i = .int .i64 k ∧ s = .int .u32 n ∧ n < 4294967296 ∧ Hid (n = crcS 4294967295 (l.take k))) (fun _ i => l.length - (intOf i).toNat)
  case atStart => exact ⟨0, 4294967295, by omega, rfl, rfl, by decide, rfl⟩
  case round =>
    obtain ⟨k, n, hk, rfl, rfl, hn, Hn⟩ := hrel
    by_cases hlt : k < l.length
    · obtain ⟨b, o, rfl⟩ := Hs.out.addr (by omega)
      have hc := Hs.out.cell k hlt
      have hcb : (l[k].toNat : Int) < 256 := by have := l[k].toNat_lt; omega
      obtain ⟨cn, hcn⟩ : ∃ cn, Hid (l[k].toNat = cn) := ⟨l[k].toNat, Eq.refl l[k].toNat⟩
      rw [hcn.out] at hc hcb
      go_wp2
      go_loop [3, 17] (fun s j => ∃ (m y : Nat), m ≤ 8 ∧ j = .int .i64 m ∧ s = .int .u32 y ∧ y < 4294967296 ∧ Hid (y = stpN m (n ^^^ cn))) (fun _ j => 8 - (intOf j).toNat)
      case atStart => exact ⟨0, n ^^^ cn, by omega, rfl, by rw [u32_xor_nat n cn hn (by omega)], Nat.xor_lt_two_pow (n := 32) hn (by omega), rfl⟩
      case round =>
        obtain ⟨m, y, hm, rfl, rfl, hy, Hy⟩ := hrel
        by_cases hm8 : m < 8
        · go_wp2
          go_round
          case rel => exact ⟨m + 1, stp y, by omega, by go_num, by rw [sum_step y hy], stp_lt hy, by rw [stpN_succ, ← Hy.out]; exact rfl⟩
          case measure => simp [intOf]; omega
        · go_wp2
          go_round
          case rel =>
            refine ⟨k + 1, y, by omega, by go_num, rfl, hy, ?_⟩
            have e8 : m = 8 := by omega
            subst e8
            show y = _
            rw [Hy.out, take_snoc l k hlt, crcS_snoc, ← Hn.out]
            unfold bstep
            rw [hcn.out]
          case measure => simp [intOf]; omega
    · go_wp2
      go_ret
      refine ⟨ret_u32 ?_, rfl⟩
      rw [show (4294967295 : Int) = ((4294967295 : Nat) : Int) from rfl, u32_xor_nat n _ hn (by decide), Hn.out, List.take_of_length_le (by omega)]
      rfl

end Go.Proofs.Yteanjnkfoddfmaa

namespace Go.Proofs.Yteanjnkfoddfmaa
open Go.RowKit
set_option linter.unusedVariables false

/-- The number of bytes, the highest first. -/
def ofp (l : List UInt8) : Nat := l.foldl (fun v c => v * 256 + c.toNat) 0
theorem ofp_snoc (l : List UInt8) (c : UInt8) : ofp (l ++ [c]) = ofp l * 256 + c.toNat := by simp [ofp]
theorem ofp_four (l : List UInt8) (h : 4 ≤ l.length) : ofp (l.take 4) = of4 l := by
  match l, h with
  | a :: b :: c :: d :: t, _ => simp [ofp, of4]; omega

theorem or8 (v c : Nat) (hv : v < 16777216) (hc : c < 256) : bits .or .u32 ((v * 256 : Nat) : Int) (c : Int) = ((v * 256 + c : Nat) : Int) := by
  rw [u32_or_nat _ _ (by omega) (by omega)]
  have := Nat.two_pow_add_eq_or_of_lt (i := 8) hc v
  rw [show v * 256 = 2 ^ 8 * v from Nat.mul_comm _ _, this]


set_option maxRecDepth 100000 in
set_option maxHeartbeats 1000000 in
theorem get_any (v : Value) (l : List UInt8) (w : World) (hs : Sl w v l) (hl : 4 ≤ l.length) :
    Calls Try.prog 95 #[v] w fun e w' => e = .returned (.int .u32 (of4 l)) ∧ w' = w := by
  have hv : ∃ ao c, v = .slice ao l.length c ∧ l.length ≤ c ∧ c ≤ maxLen := by obtain ⟨ao, c, rfl, h1, h2, _⟩ := hs; exact ⟨_, _, rfl, h1, h2⟩
  obtain ⟨ao, c, rfl, h1, h2⟩ := hv
  unfold maxLen at h2
  obtain ⟨b, o, rfl⟩ := hs.addr (by omega)
  have Hs : Hid (Sl w (.slice (some ⟨b, o, none⟩) l.length c) l) := hs
  clear hs
  go_enter Try.func95, Try.ntmps95
  go_wp2
  go_loop [3, 9] (fun s i => ∃ (k n : Nat), k ≤ 4 ∧ i = .int .i64 k ∧ s = .int .u32 n ∧ Hid (n < 256 ^ k) ∧ Hid (n = ofp (l.take k))) (fun _ i => 4 - (intOf i).toNat)
  case atStart => exact ⟨0, 0, by omega, rfl, rfl, (by decide : 0 < 256 ^ 0), rfl⟩
  case round =>
    obtain ⟨k, n, hk, rfl, rfl, hn, Hn⟩ := hrel
    by_cases hlt : k < 4
    · have hc := Hs.out.cell k (by omega)
      have hcb : (l[k].toNat : Int) < 256 := by have := l[k].toNat_lt; omega
      obtain ⟨cn, hcn⟩ : ∃ cn, Hid (l[k].toNat = cn) := ⟨l[k].toNat, Eq.refl l[k].toNat⟩
      rw [hcn.out] at hc hcb
      have hn3 : n < 16777216 := Nat.lt_of_lt_of_le hn.out (show 256 ^ k ≤ 256 ^ 3 from Nat.pow_le_pow_right (by decide) (by omega))
      go_wp2
      go_round
      case rel =>
        refine ⟨k + 1, n * 256 + cn, by omega, by go_num, ?_, ?_, ?_⟩
        · rw [← or8 n cn hn3 (by omega)]; first | rfl | (congr 2; omega)
        · have := hn.out
          show _ < 256 ^ (k + 1)
          rw [Nat.pow_succ]; omega
        · show _ = ofp _
          rw [take_snoc l k (by omega), ofp_snoc, ← Hn.out, hcn.out]
      case measure => simp [intOf]; omega
    · go_wp2
      go_ret
      refine ⟨ret_u32 ?_, rfl⟩
      have e4 : k = 4 := by omega
      subst e4
      rw [Hn.out, ofp_four l hl]


set_option maxRecDepth 100000 in
theorem fits_yes (n : Int) (w : World) (h1 : 1 ≤ n) (h2 : n ≤ 65536) : Calls Try.prog 89 #[.int .i64 n] w fun e w' => e = .returned (.bool true) ∧ w' = w := by
  go_enter Try.func89, Try.ntmps89
  go_wp2
  go_ret
  exact ⟨rfl, rfl⟩

set_option maxRecDepth 100000 in
theorem fits_no (n : Int) (w : World) (h : n < 1 ∨ 65536 < n) : Calls Try.prog 89 #[.int .i64 n] w fun e w' => e = .returned (.bool false) ∧ w' = w := by
  rcases h with h | h
  · go_enter Try.func89, Try.ntmps89
    go_wp2
    go_ret
    exact ⟨rfl, rfl⟩
  · have h1 : 1 ≤ n := by omega
    go_enter Try.func89, Try.ntmps89
    go_wp2
    go_ret
    exact ⟨ret_bool (decide_eq_false (by omega)), rfl⟩

/-- Bytes in a block of their own. -/
theorem cell_new4 (w : World) (n : Nat) (a b c d : Int) (ha : ((UInt8.ofNat (n / 16777216)).toNat : Int) = a) (hb : ((UInt8.ofNat (n / 65536)).toNat : Int) = b) (hc : ((UInt8.ofNat (n / 256)).toNat : Int) = c) (hd : ((UInt8.ofNat n).toNat : Int) = d) :
    ∀ j u, (bc (four n))[j]? = some u → (w.alloc (.cells #[.int .u8 a, .int .u8 b, .int .u8 c, .int .u8 d] 5)).cell? ((⟨w.heap.size, 0, none⟩ : Addr).add j) = some u := by
  intro j u hu
  match j, hu with
  | 0, hu => simp [bc, four] at hu; subst hu; subst ha; simp [Addr.add]
  | 1, hu => simp [bc, four] at hu; subst hu; subst hb; simp [Addr.add]
  | 2, hu => simp [bc, four] at hu; subst hu; subst hc; simp [Addr.add]
  | 3, hu => simp [bc, four] at hu; subst hu; subst hd; simp [Addr.add]
  | j + 4, hu => simp [bc, four] at hu

set_option maxRecDepth 100000 in
set_option maxHeartbeats 1000000 in
theorem put_any (B : Nat) (v : Value) (l : List UInt8) (n : Nat) (w : World) (hB : B ≤ w.heap.size) (ho : Own B w v l) (hl : l.length ≤ 1099511627776) (hn : n < 4294967296) :
    Calls Try.prog 90 #[v, .int .u32 n] w fun e w' => ∃ r, e = .returned r ∧ Own B w' r (l ++ four n) ∧ Below B w w' := by
  obtain ⟨i0, hi, hz0, hz1, hz2⟩ := info_parts Try.infoByte
  have hv : ∃ ao n c, v = .slice ao n c := by obtain ⟨ao, c, rfl, _⟩ := ho.sl; exact ⟨_, _, _, rfl⟩
  obtain ⟨ao, m, c, rfl⟩ := hv
  go_enter Try.func90, Try.ntmps90
  go_wp2_with (at_builtin; refine wpList_append_onb _ rfl (.tmp 5) (.tmp 17) rfl B ?hB _ _ rfl (.inr (World.ownsRow.alloc ho _)) ⟨w.heap.size, 0, none⟩ 4 (four n) 4 rfl rfl ?hc (by decide) ?hl ?_)
  case hB => simp; omega
  case hl => omega
  case hc => refine cell_new4 w n _ _ _ _ ?_ ?_ ?_ ?_ <;> simp [UInt8.toNat_ofNat'] <;> omega
  intro v' w1 ho' hb
  go_wp2
  go_ret
  exact ⟨_, rfl, ho', ((Below.refl B w).alloc hB _).trans hb⟩

end Go.Proofs.Yteanjnkfoddfmaa

namespace Go.Proofs.Yteanjnkfoddfmaa
open Go.RowKit
set_option linter.unusedVariables false

/-- What bytes begin with, as the call answers it: a slice of the same memory, and true; or nothing, and false. -/
def Begins (a : Value) (l : List UInt8) (e : Ending) : Prop :=
  (fst l = none ∧ e = .returned (.tuple #[.slice none 0 0, .bool false])) ∨ ∃ v x, fst l = some x ∧ e = .returned (.tuple #[v, .bool true]) ∧ ∀ w, Sl w a l → Sl w v x

theorem Sl.mid {w : World} {b o n c : Nat} {l : List UInt8} (h : Sl w (.slice (some ⟨b, o, none⟩) n c) l) (i k : Nat) (hk : i + k ≤ l.length) (hp : 0 < k) (hi : 0 < i) : Sl w (.slice (some ⟨b, o + i, none⟩) k (c - i)) ((l.drop i).take k) := by
  have hn : n = l.length ∧ l.length ≤ c := by obtain ⟨_, _, e, h1, _⟩ := h; injection e with e1 e2 e3; subst e2; subst e3; exact ⟨rfl, h1⟩
  have h1 := h.drop i (by omega)
  rw [if_neg (by omega)] at h1
  have h2 := h1.take k (by rw [List.length_drop]; omega)
  have e : i ≠ 0 := by omega
  simpa [Addr.add, e] using h2


theorem fst_none_of {l : List UInt8} {n : Nat} (hn : of4 l = n) (h : n < 1 ∨ 65536 < n ∨ l.length - 8 < n) : fst l = none := by
  unfold fst
  rw [hn, if_neg (by omega)]

theorem fst_ne {l : List UInt8} {n : Nat} (hn : of4 l = n) (h : crc ((l.drop 8).take n) ≠ of4 (l.drop 4)) : fst l = none := by
  unfold fst
  rw [hn, if_neg (fun h' => h h'.2.2.2.2)]

theorem fst_yes {l : List UInt8} {n : Nat} (hn : of4 l = n) (h8 : 8 ≤ l.length) (h1 : 1 ≤ n) (h2 : n ≤ 65536) (h3 : n ≤ l.length - 8) (h : crc ((l.drop 8).take n) = of4 (l.drop 4)) : fst l = some ((l.drop 8).take n) := by
  unfold fst
  rw [hn, if_pos ⟨h8, h1, h2, h3, h⟩]

set_option maxRecDepth 100000 in
set_option maxHeartbeats 1000000 in
theorem sfirst_any (v : Value) (l : List UInt8) (w : World) (hs : Sl w v l) (hl : l.length ≤ 1099511627776) :
    Calls Try.prog 79 #[v] w fun e w' => Begins v l e ∧ ∃ n, w' = w.drewN n := by
  have hv : ∃ ao c, v = .slice ao l.length c ∧ l.length ≤ c ∧ c ≤ maxLen := by obtain ⟨ao, c, rfl, h1, h2, _⟩ := hs; exact ⟨_, _, rfl, h1, h2⟩
  obtain ⟨ao, c, rfl, h1, h2⟩ := hv
  unfold maxLen at h2
  have Hs : Hid (Sl w (.slice ao l.length c) l) := hs
  clear hs
  by_cases h8 : 8 ≤ l.length
  · obtain ⟨b, o, rfl⟩ := Hs.out.addr (by omega)
    have hof := of4_lt l
    obtain ⟨n, hn⟩ : ∃ n, Hid (of4 l = n) := ⟨of4 l, Eq.refl (of4 l)⟩
    rw [hn.out] at hof
    have HG : Hid (Calls Try.prog 95 #[.slice (some ⟨b, o, none⟩) l.length c] w fun e w' => e = .returned (.int .u32 n) ∧ w' = w) := by
      have := get_any _ l _ Hs.out (by omega)
      rw [hn.out] at this
      exact this
    by_cases hfit : 1 ≤ n ∧ n ≤ 65536
    · obtain ⟨hf1, hf2⟩ := hfit
      by_cases hrest : n ≤ l.length - 8
      · have hr := Hs.out.mid 8 n (by omega) (by omega) (by omega)
        have h4 := Hs.out.mid 4 (l.length - 4) (by omega) (by omega) (by omega)
        rw [List.take_of_length_le (by simp)] at h4
        obtain ⟨s, Hs1⟩ : ∃ s, Hid (crc ((l.drop 8).take n) = s) := ⟨_, Eq.refl (crc ((l.drop 8).take n))⟩
        obtain ⟨t, Ht1⟩ : ∃ t, Hid (of4 (l.drop 4) = t) := ⟨_, Eq.refl (of4 (l.drop 4))⟩
        have HS : Hid (∀ q, Calls Try.prog 91 #[.slice (some ⟨b, o + 8, none⟩) n (c - 8)] (w.drewN q) fun e w' => e = .returned (.int .u32 s) ∧ w' = w.drewN q) := by
          intro q
          rw [← Hs1.out]
          exact sum_any _ _ _ (hr.drewN q)
        have HT : Hid (∀ q, Calls Try.prog 95 #[.slice (some ⟨b, o + 4, none⟩) (l.length - 4) (c - 4)] (w.drewN q) fun e w' => e = .returned (.int .u32 t) ∧ w' = w.drewN q) := by
          intro q
          rw [← Ht1.out]
          exact get_any _ _ _ (h4.drewN q) (by rw [List.length_drop]; omega)
        clear hr h4
        by_cases hst : s = t
        · subst hst
          go_enter Try.func79, Try.ntmps79
          go_wp2_with (first | (go_at_call 95; refine HG.out.mono ?_; rintro e w' ⟨rfl, rfl⟩) | (go_at_call 89; refine (fits_yes _ _ (by omega) (by omega)).mono ?_; rintro e w' ⟨rfl, rfl⟩))
          go_quiet (first | (go_at_call 91; exact Calls.quiet_of_same (HS.out _)) | (go_at_call 95; exact Calls.quiet_of_same (HT.out _)))
          go_wp2
          go_ret2
          refine ⟨.inr ⟨_, _, fst_yes hn.out h8 hf1 hf2 hrest (by rw [Hs1.out, Ht1.out]), rfl, ?_⟩, _, rfl⟩
          intro w2 h2'
          rw [show 8 + n - 8 = n by omega]
          exact h2'.mid 8 n (by omega) (by omega) (by omega)
        · have hst' : ((s : Int) == (t : Int)) = false := by simp; omega
          go_enter Try.func79, Try.ntmps79
          go_wp2_with (first | (go_at_call 95; refine HG.out.mono ?_; rintro e w' ⟨rfl, rfl⟩) | (go_at_call 89; refine (fits_yes _ _ (by omega) (by omega)).mono ?_; rintro e w' ⟨rfl, rfl⟩))
          go_quiet (first | (go_at_call 91; exact Calls.quiet_of_same (HS.out _)) | (go_at_call 95; exact Calls.quiet_of_same (HT.out _)))
          go_wp2
          go_ret2
          exact ⟨.inl ⟨fst_ne hn.out (by rw [Hs1.out, Ht1.out]; exact hst), rfl⟩, _, rfl⟩
      · go_enter Try.func79, Try.ntmps79
        go_wp2_with (first | (go_at_call 95; refine HG.out.mono ?_; rintro e w' ⟨rfl, rfl⟩) | (go_at_call 89; refine (fits_yes _ _ (by omega) (by omega)).mono ?_; rintro e w' ⟨rfl, rfl⟩))
        go_ret2
        exact ⟨.inl ⟨fst_none_of hn.out (by omega), rfl⟩, 0, rfl⟩
    · go_enter Try.func79, Try.ntmps79
      go_wp2_with (first | (go_at_call 95; refine HG.out.mono ?_; rintro e w' ⟨rfl, rfl⟩) | (go_at_call 89; refine (fits_no _ _ (by omega)).mono ?_; rintro e w' ⟨rfl, rfl⟩))
      go_ret2
      exact ⟨.inl ⟨fst_none_of hn.out (by omega), rfl⟩, 0, rfl⟩
  · go_enter Try.func79, Try.ntmps79
    go_wp2
    go_ret2
    exact ⟨.inl ⟨fst_short (by omega), rfl⟩, 0, rfl⟩

end Go.Proofs.Yteanjnkfoddfmaa

namespace Go.Proofs.Yteanjnkfoddfmaa
open Go.RowKit
set_option linter.unusedVariables false

/-- What Frame answers, and what becomes of memory. -/
def Framed (w : World) (l : List UInt8) (e : Ending) (w' : World) : Prop :=
  ∃ r, e = .returned (.tuple #[r, .int .i64 0]) ∧ Own w.heap.size w' r (fr l) ∧ Below w.heap.size w w'

theorem Sl.cells {w : World} {ao : Option Addr} {n c : Nat} {l : List UInt8} (h : Sl w (.slice ao n c) l) {a : Addr} (ha : ao = some a) : ∀ j u, (bc l)[j]? = some u → w.cell? (a.add j) = some u := by
  obtain ⟨bo, d, e, h1, h2, h3, h4⟩ := h
  injection e with e1 e2 e3
  subst e1
  exact h4 a ha

theorem Sl.len {w : World} {ao : Option Addr} {n c : Nat} {l : List UInt8} (h : Sl w (.slice ao n c) l) : n = l.length := by
  obtain ⟨bo, d, e, h1, h2, h3, h4⟩ := h
  injection e with e1 e2 e3

set_option maxRecDepth 100000 in
set_option maxHeartbeats 1000000 in
theorem frame_yes (v : Value) (l : List UInt8) (w : World) (hs : Sl w v l) (hf : Fits l) :
    Calls Try.prog 69 #[v] w fun e w' => Framed w l e w' := by
  obtain ⟨i0, hi, hz0, hz1, hz2⟩ := info_parts Try.infoByte
  obtain ⟨hf1, hf2⟩ := hf
  have hv : ∃ ao c, v = .slice ao l.length c ∧ l.length ≤ c ∧ c ≤ maxLen := by obtain ⟨ao, c, rfl, h1, h2, _⟩ := hs; exact ⟨_, _, rfl, h1, h2⟩
  obtain ⟨ao, c, rfl, h1, h2⟩ := hv
  unfold maxLen at h2
  obtain ⟨b, o, rfl⟩ := hs.addr (by omega)
  have Hs : Hid (Sl w (.slice (some ⟨b, o, none⟩) l.length c) l) := hs
  clear hs
  go_enter Try.func69, Try.ntmps69
  go_wp2_with (first | (go_at_call 89; refine (fits_yes _ _ (by omega) (by omega)).mono ?_; rintro e w' ⟨rfl, hw⟩; obtain rfl := hw.symm) | (at_make; refine wpList_make_own _ rfl _ _ 26 rfl _ 5 i0 (.int .u8 0) 1 Try.underlying26 hi hz0 hz1 .i64 .i64 _ (8 + l.length) rfl rfl (by omega) (by rw [hz2]; omega) (by unfold maxLen; omega) (Nat.le_refl _) ?_; intro w0 hown0 hgrow0))
  have hb0 : Below w.heap.size w w0 := (Below.refl _ w).grown hgrow0 (Nat.le_refl _) (fun k hk => by cases hk)
  have ho0 : Own w.heap.size w0 (.slice (some ⟨w.heap.size, 0, none⟩) 0 (8 + l.length)) [] := hown0
  clear hown0 hgrow0
  refine (put_any w.heap.size _ [] l.length _ hb0.size ho0 (by simp) (by omega)).mono ?_
  rintro e w1 ⟨r1, rfl, ho1, hb1⟩
  have hB1 := hb0.trans hb1
  have hs1 := Hs.out.below hB1 (Nat.le_refl _)
  clear ho0 hb0 hb1
  go_wp2_with fail
  refine (sum_any _ l _ hs1).mono ?_
  rintro e w' ⟨rfl, hw⟩
  obtain rfl := hw.symm
  clear hw
  go_wp2_with fail
  refine (put_any w.heap.size _ _ (crc l) _ hB1.size ho1 (by simp [four]) (crc_lt l)).mono ?_
  rintro e w2 ⟨r2, rfl, ho2, hb2⟩
  have hB2 := hB1.trans hb2
  have hs2 := (Hs.out.below hB2 (Nat.le_refl _)).cells rfl
  have hlen : (([] : List UInt8) ++ four l.length ++ four (crc l)).length = 8 := rfl
  clear ho1 hB1 hb2 hs1
  go_wp2_with (at_builtin; refine wpList_append_onb _ rfl (.tmp 22) (.tmp 23) rfl w.heap.size hB2.size _ _ rfl (.inr ho2) ⟨b, o, none⟩ c l l.length rfl rfl hs2 hf1 ?hl ?_)
  case hl => rw [hlen]; omega
  intro v' w3 ho3 hb3
  have R1 : Own w.heap.size w3 v' (fr l) := by
    have e : [] ++ four l.length ++ four (crc l) ++ l = fr l := by simp [fr]
    rw [← e]; exact ho3
  have R2 := hB2.trans hb3
  clear ho3 hb3 ho2 hB2 hs2
  go_wp2
  go_ret2
  exact ⟨_, rfl, R1, R2⟩

set_option maxRecDepth 100000 in
theorem frame_no (v : Value) (l : List UInt8) (w : World) (hs : Sl w v l) (hf : ¬ Fits l) :
    Calls Try.prog 69 #[v] w fun e w' => e = .returned (.tuple #[.slice none 0 0, .int .i64 21]) ∧ w' = w := by
  have hv : ∃ ao c, v = .slice ao l.length c ∧ l.length ≤ c ∧ c ≤ maxLen := by obtain ⟨ao, c, rfl, h1, h2, _⟩ := hs; exact ⟨_, _, rfl, h1, h2⟩
  obtain ⟨ao, c, rfl, h1, h2⟩ := hv
  unfold maxLen at h2
  unfold Fits at hf
  clear hs
  go_enter Try.func69, Try.ntmps69
  go_wp2_with (first | (go_at_call 89; refine (fits_no _ _ (by omega)).mono ?_; rintro e w' ⟨rfl, hw⟩; obtain rfl := hw.symm))
  go_ret2
  exact ⟨rfl, rfl⟩



/-- The record that bytes are one frame of. -/
def whole (l : List UInt8) : Option (List UInt8) :=
  match fst l with
  | some x => if 8 + x.length = l.length then some x else none
  | none => none

/-- What Whole answers, and what becomes of memory. -/
def Wholed (w : World) (l : List UInt8) (e : Ending) (w' : World) : Prop :=
  ((whole l = none ∧ e = .returned (.tuple #[.slice none 0 0, .int .i64 21])) ∨ ∃ r x, whole l = some x ∧ e = .returned (.tuple #[r, .int .i64 0]) ∧ Own w.heap.size w' r x) ∧ Below w.heap.size w w'

theorem belowN {B : Nat} {w w' : World} (h : Below B w w') (n : Nat) : Below B w (w'.drewN n) := ⟨h.os, h.tape, h.output, h.size, h.block⟩

set_option maxRecDepth 100000 in
set_option maxHeartbeats 1000000 in
theorem whole_any (v : Value) (l : List UInt8) (w : World) (hs : Sl w v l) (hl : l.length ≤ 1099511627776) :
    Calls Try.prog 62 #[v] w fun e w' => Wholed w l e w' := by
  have hv : ∃ ao c, v = .slice ao l.length c ∧ l.length ≤ c ∧ c ≤ maxLen := by obtain ⟨ao, c, rfl, h1, h2, _⟩ := hs; exact ⟨_, _, rfl, h1, h2⟩
  obtain ⟨ao, c, rfl, h1, h2⟩ := hv
  unfold maxLen at h2
  have Hs : Hid (Sl w (.slice ao l.length c) l) := hs
  clear hs
  go_enter Try.func62, Try.ntmps62
  go_wp2_with fail
  refine (sfirst_any _ l _ Hs.out hl).mono ?_
  rintro e w' ⟨⟨hn, rfl⟩ | ⟨rv, x, hx, rfl, hsx0⟩, q, rfl⟩
  · go_wp2
    go_ret2
    exact ⟨.inl ⟨by unfold whole; rw [hn], rfl⟩, belowN (Below.refl _ _) q⟩
  · have hsx := hsx0 _ Hs.out
    clear hsx0
    obtain ⟨xo, xc, rfl, hx1, hx2, _⟩ := id hsx
    have hfa := (fst_some hx).1
    have hfb := (fst_some hx).2.1
    have hfc := (fst_some hx).2.2.1
    have Hx := hide hx
    have Hsx := hide hsx
    clear hx hsx
    unfold maxLen at hx2
    by_cases hlt : 8 + x.length < l.length
    · go_wp2
      go_ret2
      exact ⟨.inl ⟨by unfold whole; rw [Hx.out]; simp; omega, rfl⟩, belowN (Below.refl _ _) q⟩
    · go_wp2_with fail
      refine (clone_any _ x _ (Hsx.out.drewN q) (by omega)).mono ?_
      rintro e w1 ⟨r, rfl, ho, hb⟩
      go_wp2
      go_ret2
      exact ⟨.inr ⟨_, _, by unfold whole; rw [Hx.out]; simp; omega, rfl, ho⟩, (belowN (Below.refl w.heap.size w) q).trans hb⟩

end Go.Proofs.Yteanjnkfoddfmaa

namespace Go.Proofs.Yteanjnkfoddfmaa
open Go.RowKit Go.Shelf
set_option linter.unusedVariables false

attribute [local go_sem] Oper.semAt_some

/-- A stretch of memory that holds bytes. -/
def Piece (w0 : World) : Type := { p : Value × List UInt8 // Sl w0 p.1 p.2 ∧ p.2.length ≤ 65536 }

theorem grown_drewN (w : World) (n : Nat) (row : Option Nat) : w.grownBy (w.drewN n) row := ⟨rfl, rfl, rfl, Nat.le_refl _, fun _ _ _ => rfl⟩

theorem Sl.rest {w : World} {ao : Option Addr} {n c : Nat} {l : List UInt8} (h : Sl w (.slice ao n c) l) (k : Nat) (hk : k ≤ l.length) :
    ∃ v, v = Value.slice (if c = k then ao else ao.map (·.add (k * 1))) (n - k) (c - k) ∧ Sl w v (l.drop k) := ⟨_, rfl, h.drop k hk⟩

set_option maxRecDepth 100000 in
set_option maxHeartbeats 2000000 in
theorem frames1_in (n : Nat) (hn : 1 ≤ n) (l Bn : Nat) (w0 : World) (v : Value) (bs : List UInt8) (rs : List (List UInt8)) (hbs : bs.length ≤ 1099511627776) (hv : Sl w0 v bs) (hsc : Scans bs rs) (J Jx : List (Piece w0) → World → Prop) (W : World)
    (hJ : AbidesFrom W.heap.size J) (hB : Below w0.heap.size w0 W)
    (hY : ∀ pre x W1, J pre W1 → pre.length < rs.length → YieldAt Fence.wide (n - 1) Try.prog l #[x.1.1] W1 fun e W' =>
      (e = .returned (.bool true) ∧ J (pre ++ [x]) W' ∧ Below w0.heap.size W1 W') ∨ (e = .returned (.bool false) ∧ Jx (pre ++ [x]) W'))
    (hBn : W.cell? ⟨Bn, 0, none⟩ = some v) (h0 : J [] W) :
    CallsIn Fence.wide n Try.prog 96 #[.func (.yield l) #[] #[], .pointer (some ⟨Bn, 0, none⟩)] W fun e W' => (∃ v, e = .returned v) ∧
      ((∃ ys, ys.map (fun p : Piece w0 => p.1.2) = rs ∧ J ys W') ∨ (∃ pre, True ∧ Jx pre W')) := by
  refine callsIn_of_wp Try.func96 rfl trivial ?_ rfl
  simp only [Try.ntmps96, List.size_toArray, List.length_cons, List.length_nil, Nat.reduceAdd, Nat.reduceSub, Array.replicate_succ, Array.replicate_zero, List.push_toArray, List.append_toArray, List.nil_append, List.cons_append]
  have hvs : ∃ ao c, v = .slice ao bs.length c := by obtain ⟨ao, c, rfl, _⟩ := hv; exact ⟨_, _, rfl⟩
  obtain ⟨ao, c, rfl⟩ := hvs
  gi_wp2
  gi_loopw [3] (fun p wr => ∃ (pre : List (Piece w0)) (rest : List (List UInt8)) (lr : List UInt8) (ao : Option Addr) (c : Nat), p = .slice ao lr.length c ∧ Sl w0 p lr ∧ lr.length ≤ 1099511627776 ∧ Hid (Scans lr rest ∧ rs = pre.map (fun p => p.1.2) ++ rest) ∧ J pre wr ∧ Below w0.heap.size w0 wr)
    (fun p wr => match p with | .slice _ n _ => n | _ => 0)
  case atStart => exact ⟨[], rs, bs, ao, c, rfl, hv, hbs, ⟨hsc, rfl⟩, h0, hB⟩
  case round =>
    obtain ⟨pre, rest, lr, ao, c, rfl, hs, hlr, Hsc, hJs, hBr⟩ := hrel
    have hsr := hs.below hBr (Nat.le_refl _)
    gi_wp2_with (refine ⟨trivial, ?_⟩; gi_at_call 79; refine (callsIn_wide.2 (sfirst_any _ lr _ hsr hlr)).mono ?_)
    rintro e w' ⟨⟨hno, rfl⟩ | ⟨rv, x, hx, rfl, hsx0⟩, q, rfl⟩
    · have e0 : rest = [] := by
        cases rest with
        | nil => rfl
        | cons x r => have := Hsc.out.1.1; rw [hno] at this; cases this
      subst e0
      have hR : rs = pre.map (fun p : Piece w0 => p.1.2) := by rw [Hsc.out.2, List.append_nil]
      have hJq : J pre (wr.drewN q) := hJ pre _ _ none hJs (grown_drewN wr q none) (fun r e => by cases e)
      have HR := hide hR
      clear hR hno hsr
      gi_wp2
      all_goals
        refine ⟨fun _ h => (by cases h), ?_⟩
        gi_wp2
        refine bodyPost_ret (results_none rfl _ _ _) rfl ?_
        exact ⟨⟨_, rfl⟩, .inl ⟨pre, (unhide HR).symm, hJq⟩⟩
    · have hfs1 := (fst_some hx).1
      have hfs3 := (fst_some hx).2.2.1
      obtain ⟨r, hr⟩ : ∃ r, rest = x :: r := by
        cases rest with
        | nil => have := Hsc.out.1; rw [Scans, hx] at this; cases this
        | cons y r => have := Hsc.out.1.1; rw [hx] at this; cases this; exact ⟨r, rfl⟩
      subst hr
      have hsx := hsx0 _ hs
      obtain ⟨xo, xc, rfl, _⟩ := id hsx
      obtain ⟨pc, hpc⟩ : ∃ pc : Piece w0, pc.1 = (.slice xo x.length xc, x) := ⟨⟨(.slice xo x.length xc, x), hsx, hfs3⟩, rfl⟩
      have hJq : J pre (wr.drewN q) := hJ pre _ _ none hJs (grown_drewN wr q none) (fun r e => by cases e)
      have hlt : pre.length < rs.length := by rw [Hsc.out.2]; simp
      obtain ⟨fn, tmps, assign, body, hy, hR⟩ := hY pre pc (wr.drewN q) hJq hlt
      rw [hpc] at hy
      dsimp only at hy
      obtain ⟨lb, lo, rfl⟩ := hs.addr (by omega)
      have hcap : lr.length ≤ c ∧ c ≤ maxLen := by obtain ⟨_, _, e, k1, k2, _⟩ := hs; injection e with e1 e2 e3; subst e3; exact ⟨k1, k2⟩
      obtain ⟨hc1, hc2⟩ := hcap
      unfold maxLen at hc2
      have hdr := hs.drop (8 + x.length) hfs1
      have Hdr := hide hdr
      have Hx := hide hx
      clear hx hdr hsx0 hsr hsx
      gi_wp2
      refine hR.mono ?_
      rintro e W3 (⟨rfl, hJ3, hk3⟩ | ⟨rfl, hJx3⟩)
      · gi_wp2
        go_roundw
        case rel =>
          have e : (Option.map (fun y : Addr => y.add ((8 + x.length) * 1)) (some ⟨lb, lo, none⟩)) = some ⟨lb, lo + (8 + x.length), none⟩ := by simp [Addr.add]
          have hS := unhide Hdr
          rw [e] at hS
          refine ⟨pre ++ [pc], r, lr.drop (8 + x.length), _, _, by rw [List.length_drop], hS, by rw [List.length_drop]; omega, ⟨Hsc.out.1.2, ?_⟩, hJ3, hBr.trans ((belowN (Below.refl _ wr) q).trans hk3)⟩
          rw [Hsc.out.2]
          simp [hpc]
        case measure => simp; omega
      · gi_wp2
        refine bodyPost_ret (results_none rfl _ _ _) rfl ?_
        exact ⟨⟨_, rfl⟩, .inr ⟨_, trivial, hJx3⟩⟩

set_option maxRecDepth 100000 in
set_option maxHeartbeats 1000000 in
theorem frames_in (n : Nat) (ao : Option Addr) (len c : Nat) (w : World) :
    CallsIn Fence.wide n Try.prog 82 #[.slice ao len c] w fun e w' => e = .returned (.func (.func 96) #[] #[.pointer (some ⟨w.heap.size, 0, none⟩)]) ∧ w' = w.alloc (.cells #[.slice ao len c] 26) := by
  refine callsIn_of_wp Try.func82 rfl trivial ?_ rfl
  simp only [Try.ntmps82, List.size_toArray, List.length_cons, List.length_nil, Nat.reduceAdd, Nat.reduceSub, Array.replicate_succ, Array.replicate_zero, List.push_toArray, List.append_toArray, List.nil_append, List.cons_append]
  gi_wp2
  go_ret
  exact ⟨rfl, rfl⟩

theorem frames_stops (n : Nat) (hn : 1 ≤ n) (Bn : Nat) (w0 : World) (v : Value) (bs : List UInt8) (rs : List (List UInt8)) (hbs : bs.length ≤ 1099511627776) (hv : Sl w0 v bs) (hsc : Scans bs rs) (w : World) (hB : Below w0.heap.size w0 w) (hBn : Bn < w.heap.size) (hc : w.cell? ⟨Bn, 0, none⟩ = some v) :
    SeqStopsK Fence.wide n Try.prog 96 #[.pointer (some ⟨Bn, 0, none⟩)] (fun x : Piece w0 => #[x.1.1]) (Below w0.heap.size) (fun ys => ys.map (fun p => p.1.2) = rs) (fun _ => True) rs.length w := fun l J Jx W hW hJ _ hY h0 =>
  frames1_in n hn l Bn w0 v bs rs hbs hv hsc J Jx W hJ (hB.trans (hW.mono hB.size)) hY ((hW.cell (p := ⟨Bn, 0, none⟩) hBn).trans hc) h0

end Go.Proofs.Yteanjnkfoddfmaa

namespace Go.Proofs.Yteanjnkfoddfmaa
open Go.RowKit Go.Shelf
set_option linter.unusedVariables false

attribute [local go_sem] Oper.semAt_some

theorem Try.infoBytes : (Try.prog.info? 26).map (fun i => (i.zero, i.size, i.bytes)) = some (some (.slice none 0 0), 1, 24) := by kernel_rfl

/-- The value v owns a row of slices, each of which owns bytes of its own. -/
def Recs (B : Nat) (w : World) (v : Value) (rs : List (List UInt8)) : Prop :=
  ∃ vs : List Value, w.ownsRow B 26 1 v rs.length vs ∧ ∀ (i : Nat) (u : Value) (x : List UInt8), vs[i]? = some u → rs[i]? = some x → Own B w u x

/-- What a Scan under way has gathered. -/
def Coll (w : World) (pre : List (List UInt8)) (W : World) : Prop :=
  ∃ v, Boxed W w.heap.size 54 v ∧ Recs w.heap.size W v pre ∧ Boxed W (w.heap.size + 1) 3 (.int .i64 (total pre)) ∧ Below w.heap.size w W


/-- Rows of different element types lie apart. -/
theorem rows_apart {W : World} {b1 b2 s1 s2 n1 n2 : Nat} {e1 e2 : TypeId} {v1 v2 : Value} {x1 x2 : List Value} (h1 : W.ownsRow b1 e1 s1 v1 n1 x1) (h2 : W.ownsRow b2 e2 s2 v2 n2 x2) (hne : e1 ≠ e2) : v1.ownBlock = none ∨ v1.ownBlock ≠ v2.ownBlock := by
  rcases h1.2 with ⟨rfl, _⟩ | ⟨g, cap, cur, rfl, _, hg, _⟩
  · exact .inl rfl
  · refine .inr fun e => ?_
    rcases h2.2 with ⟨rfl, _⟩ | ⟨g', cap', cur', rfl, _, hg', _⟩
    · simp [Value.ownBlock] at e
    · obtain rfl : g = g' := by simpa [Value.ownBlock] using e
      rw [hg] at hg'
      simp at hg'
      exact hne hg'.2

theorem row_not_box {W : World} {B b1 s1 n1 : Nat} {e1 t : TypeId} {v1 u : Value} {x1 : List Value} (h1 : W.ownsRow b1 e1 s1 v1 n1 x1) (h2 : Boxed W B t u) (hne : t ≠ e1) : v1.ownBlock = none ∨ v1.ownBlock ≠ some B :=
  .inr (h2.not_row hne h1).symm

theorem below_grown {w w' : World} (h : Below w.heap.size w w') : w.grownBy w' none := ⟨h.os, h.tape, h.output, h.size, fun k hk _ => h.block k hk⟩

/-- Only new memory: rows stay. -/
theorem row_below {W W' : World} {b e s n : Nat} {v : Value} {xs : List Value} (h : W.ownsRow b e s v n xs) (hb : Below W.heap.size W W') : W'.ownsRow b e s v n xs :=
  h.kept (below_grown hb) (by cases hv : v.ownBlock <;> simp)


theorem Recs.later {B : Nat} {W W' : World} {v : Value} {rs : List (List UInt8)} (h : Recs B W v rs) (hb : Below W.heap.size W W') : Recs B W' v rs := by
  obtain ⟨vs, h1, h2⟩ := h
  exact ⟨vs, row_below h1 hb, fun i u x hu hx => (h2 i u x hu hx).later hb⟩

theorem cells_row {W : World} {b e s n : Nat} {v : Value} {xs : List Value} (h : W.ownsRow b e s v n xs) {row : Option Nat} (hrow : ∀ r, row = some r → ∃ o : Obj, W.heap[r]? = some o ∧ o.isCells = false) : v.ownBlock = none ∨ v.ownBlock ≠ row := by
  rcases h.2 with ⟨rfl, _⟩ | ⟨g, cap, cur, rfl, _, hg, _⟩
  · exact .inl rfl
  · refine .inr fun e' => ?_
    obtain ⟨o, ho, hc⟩ := hrow g (by simpa [Value.ownBlock] using e'.symm)
    rw [hg] at ho; cases ho; cases hc

theorem cells_box {W : World} {B : Nat} {t : TypeId} {u : Value} (h : Boxed W B t u) {row : Option Nat} (hrow : ∀ r, row = some r → ∃ o : Obj, W.heap[r]? = some o ∧ o.isCells = false) : some B ≠ row := by
  intro e
  obtain ⟨o, ho, hc⟩ := hrow B e.symm
  rw [show W.heap[B]? = _ from h] at ho; cases ho; cases hc

theorem Recs.kept {B : Nat} {W W' : World} {v : Value} {rs : List (List UInt8)} (h : Recs B W v rs) {row : Option Nat} (hg : W.grownBy W' row) (hrow : ∀ r, row = some r → ∃ o : Obj, W.heap[r]? = some o ∧ o.isCells = false) : Recs B W' v rs := by
  obtain ⟨vs, h1, h2⟩ := h
  exact ⟨vs, h1.kept hg (cells_row h1 hrow), fun i u x hu hx => World.ownsRow.kept (h2 i u x hu hx) hg (cells_row (h2 i u x hu hx) hrow)⟩

theorem coll_own {α : Type} (w : World) (f : α → List UInt8) (B : Nat) (hB : w.heap.size ≤ B) : OwnFrom B (fun (pre : List α) W => Coll w (pre.map f) W) := by
  rintro s W W' row ⟨v, b1, hr, b2, hbel⟩ hg hrow
  have hrow' : ∀ r, row = some r → ∃ o : Obj, W.heap[r]? = some o ∧ o.isCells = false := fun r e => (hrow r e).2
  exact ⟨v, b1.kept hg (cells_box b1 hrow'), hr.kept hg hrow', b2.kept hg (cells_box b2 hrow'), hbel.grown hg hbel.size (fun k e => Nat.le_trans hB (hrow k e).1)⟩

/-- One record more: behind the clone, the append and the store back. -/
theorem coll_step {w W W1 w1 : World} {pre : List (List UInt8)} {v r v' : Value} {x : List UInt8} {vs : List Value} {tmp : Obj}
    (b1 : Boxed W w.heap.size 54 v) (hrow : W.ownsRow w.heap.size 26 1 v pre.length vs) (hrec : ∀ (i : Nat) (u : Value) (x : List UInt8), vs[i]? = some u → pre[i]? = some x → Own w.heap.size W u x)
    (b2 : Boxed W (w.heap.size + 1) 3 (.int .i64 (total pre))) (hbel : Below w.heap.size w W) (hW1 : Below W.heap.size W W1) (hr : Own W.heap.size W1 r x)
    (hown' : w1.ownsRow w.heap.size 26 1 v' (pre.length + 1) (vs ++ [r])) (hgrow : (W1.alloc tmp).grownBy w1 v.ownBlock) :
    Boxed w1 w.heap.size 54 v ∧ Boxed (w1.setCell ⟨w.heap.size, 0, none⟩ v') w.heap.size 54 v' ∧ Recs w.heap.size (w1.setCell ⟨w.heap.size, 0, none⟩ v') v' (pre ++ [x]) ∧
      Boxed (w1.setCell ⟨w.heap.size, 0, none⟩ v') (w.heap.size + 1) 3 (.int .i64 (total pre)) ∧ Below w.heap.size W (w1.setCell ⟨w.heap.size, 0, none⟩ v') ∧ KeepsOthers W (w1.setCell ⟨w.heap.size, 0, none⟩ v') ∧ Boxed w1 (w.heap.size + 1) 3 (.int .i64 (total pre)) := by
  have hg1 := below_grown hW1
  have b1' : Boxed W1 w.heap.size 54 v := b1.kept hg1 (by simp)
  have b2' : Boxed W1 (w.heap.size + 1) 3 (.int .i64 (total pre)) := b2.kept hg1 (by simp)
  have hrow1 := row_below hrow hW1
  have hsz := hbel.size
  have hsz1 := hW1.size
  have hr0 : Own w.heap.size W1 r x := hr.mono hsz
  obtain ⟨k1, k2, k3, k4, k5⟩ := b1'.appended (by decide) hrow1 (by omega) (Nat.le_refl _) hown' hgrow
  have hsc := grownBy_setCell' w1 w.heap.size v'
  have keep : ∀ (u : Value) (y : List UInt8), Own w.heap.size W1 u y → Own w.heap.size (w1.setCell ⟨w.heap.size, 0, none⟩ v') u y := by
    intro u y hu
    have u1 : Own w.heap.size (W1.alloc tmp) u y := World.ownsRow.alloc hu tmp
    have u2 : Own w.heap.size w1 u y := World.ownsRow.kept u1 hgrow (rows_apart u1 (World.ownsRow.alloc hrow1 tmp) (by decide))
    exact World.ownsRow.kept u2 hsc (row_not_box u2 k1 (by decide))
  have c1 : Boxed w1 (w.heap.size + 1) 3 (.int .i64 (total pre)) := (b2'.alloc tmp).kept hgrow ((b2'.alloc tmp).not_row (by decide) (World.ownsRow.alloc hrow1 tmp))
  refine ⟨k1, k2, ⟨vs ++ [r], by simpa using k3, ?_⟩, c1.kept hsc (by simp), ?_, ?_, c1⟩
  · intro i u y hu hy
    have hlen : vs.length = pre.length := by have := hrow.1; omega
    by_cases hi : i < pre.length
    · rw [List.getElem?_append_left (by omega)] at hu hy
      exact keep u y ((hrec i u y hu hy).later hW1)
    · rw [List.getElem?_append_right (by omega)] at hu hy
      by_cases hi0 : i = pre.length
      · subst hi0
        rw [hlen] at hu
        simp at hu hy
        subst hu; subst hy
        exact keep _ _ hr0
      · rw [List.getElem?_eq_none (by simp; omega)] at hy; cases hy
  · exact (hW1.mono hsz).trans k5
  · exact (KeepsOthers.of_grownBy hg1 (fun j o e _ => by cases e)).trans k4

/-- .. and the count of bytes behind it. -/
theorem coll_count {w W : World} {pre : List (List UInt8)} {v : Value} {n : Nat} (m : Nat) (h1 : Boxed W w.heap.size 54 v) (h2 : Recs w.heap.size W v pre) (h3 : Boxed W (w.heap.size + 1) 3 (.int .i64 n)) (h4 : Below w.heap.size w W) (hm : m = total pre) :
    Coll w pre (W.setCell ⟨w.heap.size + 1, 0, none⟩ (.int .i64 m)) ∧ Below w.heap.size W (W.setCell ⟨w.heap.size + 1, 0, none⟩ (.int .i64 m)) ∧ KeepsOthers W (W.setCell ⟨w.heap.size + 1, 0, none⟩ (.int .i64 m)) := by
  subst hm
  have hg := grownBy_setCell' W (w.heap.size + 1) (.int .i64 (total pre))
  have hb : Below w.heap.size W (W.setCell ⟨w.heap.size + 1, 0, none⟩ (.int .i64 (total pre))) := (Below.refl _ W).setCell (p := ⟨w.heap.size + 1, 0, none⟩) (by simp) _
  refine ⟨⟨v, h1.kept hg (by simp), ?_, h3.set _, h4.trans hb⟩, hb, KeepsOthers.setCell _ _ _⟩
  obtain ⟨vs, k1, k2⟩ := h2
  exact ⟨vs, k1.kept hg (row_not_box k1 h3 (by decide)), fun i u x hu hx => World.ownsRow.kept (k2 i u x hu hx) hg (row_not_box (k2 i u x hu hx) h3 (by decide))⟩

/-- append onto a row of the call's own, as one step of a region that draws its order, inside a fence. -/
theorem step_append_own_in {F : Fence} {n : Nat} {P : Program} {ops : Array Oper} {o : Oper} {a : Act} {w : World} {K : Act → World → Prop} {Q : Exit → Act → World → Prop} {E : Prop}
    (hg : o.guard = none) (s x : Operand) (t : TypeId) (hop : o.op = Op.call { callee := Callee.builtin Builtin.append, args := #[s, x], argTypes := #[t, t] })
    (base : Nat) (e : TypeId) (i : TypeInfo) (z : Value) (size bytes : Nat) (h1 : P.underlying t = some (.slice e)) (h2 : P.info? e = some i) (h3 : i.zero = some z) (h4 : i.size = size) (h5 : i.bytes = bytes) (h6 : z.cells.size = size) (h7 : 0 < size)
    (v : Value) (k : Nat) (xs : List Value) (hs : a.eval s = v) (hown : w.ownsRow base e size v k xs) (ad : Addr) (m c : Nat) (news : List Value) (hx : a.eval x = .slice (some ad) m c) (hn : news.length = m * size)
    (hc : ∀ j u, news[j]? = some u → w.cell? (ad.add j) = some u) (h1c : ∀ u ∈ news, u.oneCell' = true) (b1 : k + m ≤ maxLen) (b2 : (k + m) * bytes ≤ 140737488355328) (b3 : base ≤ w.heap.size)
    (hK : ∀ v' w', w'.ownsRow base e size v' (k + m) (xs ++ news) → w.grownBy w' v.ownBlock → K (a.put o.dst v') w') :
    if Region.wanted o (yielded ops a.tmps) = true then Oper.wpIn F n P o a w K Q else E := by
  have hw : Region.wanted o (yielded ops a.tmps) = true := by simp [Region.wanted, hg]
  rw [if_pos hw]
  obtain ⟨v', w', hrun, r1, r2, r3⟩ := run_append_own (P := P) w base t o.type e i z size bytes h1 h2 h3 h4 h5 h6 h7 v k xs hown ad m c news hn hc h1c b1 b2 b3
  unfold Oper.wpIn
  refine ⟨?_, ?_⟩
  · simp [Oper.about, hop, resolve, Target.leads, Sem.run_pure]
  · rw [Oper.semAt_plain F _ _ (by rw [hop]; intro c hc'; cases hc')]
    simp [execOp, hop, resolve, invoke, builtin, hs, hx, hrun, Result.andThen]
    exact hK v' w' r1 r2

end Go.Proofs.Yteanjnkfoddfmaa

namespace Go.Proofs.Yteanjnkfoddfmaa
open Go.RowKit Go.Shelf
set_option linter.unusedVariables false

attribute [local go_sem] Oper.semAt_some

theorem map_piece (w : World) (pre : List (Piece w)) (x : Piece w) (ps : List (List UInt8)) (xl : List UInt8) (h : pre.map (fun p : Piece w => p.1.2) = ps) (hx : x.1.2 = xl) : (pre ++ [x]).map (fun p : Piece w => p.1.2) = ps ++ [xl] := by
  rw [List.map_append, h]; simp [hx]

theorem coll_eq {w W : World} {ps qs : List (List UInt8)} (h : Coll w ps W) (e : qs = ps) : Coll w qs W := by rw [e]; exact h

set_option maxRecDepth 100000 in
set_option maxHeartbeats 2000000 in
theorem scan_any (v : Value) (bs : List UInt8) (rs : List (List UInt8)) (w : World) (hs : Sl w v bs) (hl : bs.length ≤ 1099511627776) (hsc : Scans bs rs) :
    Calls Try.prog 66 #[v] w fun e w' => ∃ r, e = .returned (.tuple #[r, .int .i64 (total rs)]) ∧ Recs w.heap.size w' r rs ∧ Below w.heap.size w w' := by
  have hv : ∃ ao c, v = .slice ao bs.length c ∧ bs.length ≤ c ∧ c ≤ maxLen := by obtain ⟨ao, c, rfl, h1, h2, _⟩ := hs; exact ⟨_, _, rfl, h1, h2⟩
  obtain ⟨ao, c, rfl, h1, h2⟩ := hv
  obtain ⟨i0, hi, hz0, hz1, hz2⟩ := info_parts Try.infoBytes
  refine (callsIn_wide (n := 3)).1 ?_
  refine callsIn_of_wp_marks Try.func66 rfl trivial ?_ rfl
  simp only [Try.ntmps66, List.size_toArray, List.length_cons, List.length_nil, Nat.reduceAdd, Nat.reduceSub, Array.replicate_succ, Array.replicate_zero, List.push_toArray, List.append_toArray, List.nil_append, List.cons_append]
  gi_wp2_with (refine ⟨trivial, ?_⟩; gi_at_call 82; refine (frames_in _ _ _ _ _).mono ?_; rintro e w' ⟨rfl, rfl⟩)
  have bO := Boxed.new w 54 (.slice none 0 0)
  have bN := Boxed.new (w.alloc (.cells #[.slice none 0 0] 54)) 3 (.int .i64 0)
  have bB := Boxed.new ((w.alloc (.cells #[.slice none 0 0] 54)).alloc (.cells #[.int .i64 0] 3)) 26 (.slice ao bs.length c)
  rw [World.size_alloc] at bN bB
  rw [World.size_alloc] at bB
  have hB0 : Below w.heap.size w (((w.alloc (.cells #[.slice none 0 0] 54)).alloc (.cells #[.int .i64 0] 3)).alloc (.cells #[.slice ao bs.length c] 26)) := (((Below.refl _ w).alloc (Nat.le_refl _) _).alloc (by simp) _).alloc (by simp; omega) _
  have hcnt := hsc.count_le
  have htot := hsc.total_le
  refine wpIn_rangeFunc_ownG rfl (by decide) (gf := 96) (lb := #[.pointer (some ⟨w.heap.size + 1 + 1, 0, none⟩)]) rfl trivial (enters_of Try.func96 (by kernel_rfl) rfl)
    (frames_stops (3 - 1) (by decide) (w.heap.size + 1 + 1) w _ bs rs hl hs hsc _ hB0 (by simp) bB.cell) belowK_t (belowK_b (by simp; omega)) (Below.refl _ _) (fun _ => rfl)
    (fun pre W => Coll w (pre.map (fun p : Piece w => p.1.2)) W)
    (fun _ _ _ => False)
    (coll_own w (fun p : Piece w => p.1.2) _ (by simp; omega))
    (fun _ _ _ _ _ hs _ _ => hs)
    ⟨_, (bO.alloc _).alloc _, ⟨[], World.ownsRow_nil _ _ _ _, fun i u x hu => by simp at hu⟩, bN.alloc _, hB0⟩
    (fun x => { tmps := #[.slice ao bs.length c, undef, .slice none 0 0, .int .i64 0, .pointer (some ⟨w.heap.size, 0, none⟩), .pointer (some ⟨w.heap.size + 1, 0, none⟩), x.1.1, .slice ao bs.length c, .func (.func 96) #[] #[.pointer (some ⟨w.heap.size + 1 + 1, 0, none⟩)], x.1.1, undef, undef, undef, undef, undef, undef, undef, undef, undef, undef, undef, undef], defers := [] }) ?assign ?body ?done ?stop
  case assign =>
    intro l x W K hK
    gi_wp2
    exact hK
  case body =>
    rintro l pre x W ⟨v, b1, ⟨vs, hrow, hrec⟩, b2, hbel⟩ hlt
    obtain ⟨⟨xv, xl⟩, hx, hx2⟩ := x
    obtain ⟨xo, xc, hxe, _⟩ := id hx
    dsimp only at hxe
    subst hxe
    have hc1 := b1.cell
    have hx2' : xl.length ≤ 65536 := hx2
    have hxW : Sl W.drew (.slice xo xl.length xc) xl := hx.below hbel.drew (Nat.le_refl _)
    obtain ⟨ps, hps⟩ : ∃ ps, Hid (pre.map (fun p : Piece w => p.1.2) = ps) := ⟨_, Eq.refl _⟩
    have hpl : ps.length < rs.length := by rw [← hps.out, List.length_map]; exact hlt
    have hpt : total ps ≤ 65544 * ps.length := total_small (fun y hy => by
      rw [← hps.out, List.mem_map] at hy
      obtain ⟨p, _, rfl⟩ := hy
      exact p.2.2)
    rw [hps.out] at hrow hrec b2
    clear hlt
    gi_wp2
    refine wpIn_region_any (by kernel_rfl) ?_
    change wpAnyIn _ _ _ _ _ _ _ _ _ (World.drew _)
    refine wpAnyIn_ready (rs := [0, 1]) (by kernel_rfl) (by simp) (AllReadyIn.cons rfl (fun K hK => ?A) (AllReadyIn.cons rfl (fun K hK => ?B) AllReadyIn.nil))
    case' A =>
      go_simp; refine hK _ _ ?_; clear hK K
      refine wpAnyIn_ready (rs := [1]) (by kernel_rfl) (by simp) (AllReadyIn.cons rfl (fun K hK => ?_) AllReadyIn.nil)
      go_simp; refine hK _ _ ?_; clear hK K
      refine wpAnyIn_ready (rs := [2]) (by kernel_rfl) (by simp) (AllReadyIn.cons rfl (fun K hK => ?_) AllReadyIn.nil)
      go_simp
      refine ⟨trivial, (CallsIn.inRound l (callsIn_wide.2 (clone_any _ xl _ hxW (by omega)))).mono ?_⟩
      rintro e W1 ⟨r, rfl, ho, hb⟩
      obtain ⟨ro, rc, rfl, _⟩ := id ho.sl
      have hcW : W1.cell? ⟨w.heap.size, 0, none⟩ = some v := (hb.cell (p := ⟨w.heap.size, 0, none⟩) b1.lt).trans hc1
      have hcW2 : (W1.alloc (.cells #[.slice ro xl.length rc] 26)).cell? ⟨w.heap.size, 0, none⟩ = some v := (World.cell?_of_block (w := W1) (Below.heap_alloc W1 _ _ (World.block_lt_of_cell? W1 _ hcW))).trans hcW
      dsimp only
      refine hK _ _ ?_; clear hK K
      refine wpAnyIn_ready (rs := [3]) (by kernel_rfl) (by simp) (AllReadyIn.cons rfl (fun K hK => ?_) AllReadyIn.nil)
      go_simp; refine hK _ _ ?_; clear hK K
    case' B =>
      go_simp; refine hK _ _ ?_; clear hK K
      refine wpAnyIn_ready (rs := [0, 2]) (by kernel_rfl) (by simp) (AllReadyIn.cons rfl (fun K hK => ?B1) (AllReadyIn.cons rfl (fun K hK => ?B2) AllReadyIn.nil))
    case' B1 =>
      go_simp; refine hK _ _ ?_; clear hK K
      refine wpAnyIn_ready (rs := [2]) (by kernel_rfl) (by simp) (AllReadyIn.cons rfl (fun K hK => ?_) AllReadyIn.nil)
      go_simp
      refine ⟨trivial, (CallsIn.inRound l (callsIn_wide.2 (clone_any _ xl _ hxW (by omega)))).mono ?_⟩
      rintro e W1 ⟨r, rfl, ho, hb⟩
      obtain ⟨ro, rc, rfl, _⟩ := id ho.sl
      have hcW : W1.cell? ⟨w.heap.size, 0, none⟩ = some v := (hb.cell (p := ⟨w.heap.size, 0, none⟩) b1.lt).trans hc1
      have hcW2 : (W1.alloc (.cells #[.slice ro xl.length rc] 26)).cell? ⟨w.heap.size, 0, none⟩ = some v := (World.cell?_of_block (w := W1) (Below.heap_alloc W1 _ _ (World.block_lt_of_cell? W1 _ hcW))).trans hcW
      dsimp only
      refine hK _ _ ?_; clear hK K
      refine wpAnyIn_ready (rs := [3]) (by kernel_rfl) (by simp) (AllReadyIn.cons rfl (fun K hK => ?_) AllReadyIn.nil)
      go_simp; refine hK _ _ ?_; clear hK K
    case' B2 =>
      go_simp
      refine ⟨trivial, (CallsIn.inRound l (callsIn_wide.2 (clone_any _ xl _ hxW (by omega)))).mono ?_⟩
      rintro e W1 ⟨r, rfl, ho, hb⟩
      obtain ⟨ro, rc, rfl, _⟩ := id ho.sl
      have hcW : W1.cell? ⟨w.heap.size, 0, none⟩ = some v := (hb.cell (p := ⟨w.heap.size, 0, none⟩) b1.lt).trans hc1
      have hcW2 : (W1.alloc (.cells #[.slice ro xl.length rc] 26)).cell? ⟨w.heap.size, 0, none⟩ = some v := (World.cell?_of_block (w := W1) (Below.heap_alloc W1 _ _ (World.block_lt_of_cell? W1 _ hcW))).trans hcW
      dsimp only
      refine hK _ _ ?_; clear hK K
      refine wpAnyIn_ready (rs := [0, 3]) (by kernel_rfl) (by simp) (AllReadyIn.cons rfl (fun K hK => ?B21) (AllReadyIn.cons rfl (fun K hK => ?B22) AllReadyIn.nil))
    case' B21 =>
      go_simp; refine hK _ _ ?_; clear hK K
      refine wpAnyIn_ready (rs := [3]) (by kernel_rfl) (by simp) (AllReadyIn.cons rfl (fun K hK => ?_) AllReadyIn.nil)
      go_simp; refine hK _ _ ?_; clear hK K
    case' B22 =>
      go_simp; refine hK _ _ ?_; clear hK K
      refine wpAnyIn_ready (rs := [0]) (by kernel_rfl) (by simp) (AllReadyIn.cons rfl (fun K hK => ?_) AllReadyIn.nil)
      go_simp; refine hK _ _ ?_; clear hK K
    all_goals
      have hsz := hb.size
      have hsz2 := hbel.size
      have hsz3 : W.heap.size ≤ W1.heap.size := hsz
      refine wpAnyIn_ready (rs := [4]) (by kernel_rfl) (by simp) (AllReadyIn.cons rfl (fun K hK => ?_) AllReadyIn.nil)
      refine step_append_own_in rfl (.tmp 10) (.tmp 13) 54 rfl w.heap.size 26 i0 (.slice none 0 0) 1 24 Try.underlying54 hi hz0 hz1 hz2 rfl (by decide) v _ vs rfl ((row_below (W := W.drew) hrow hb).alloc _) ⟨W1.heap.size, 0, none⟩ 1 1 [.slice ro xl.length rc] rfl rfl (cell_one_new _ _ _) (by simp [Value.oneCell']) (by unfold maxLen; omega) (by omega) (by simp; omega) ?_
      intro v' w1 hown' hgrow
      obtain ⟨g', cap', rfl⟩ := ownsRow_succ hown'
      obtain ⟨k1, k2, k3, k4, k5, k6, k7⟩ := coll_step (W := W.drew) (x := xl) b1 hrow hrec b2 hbel.drew hb ho hown' hgrow
      have hd1 := k1.cell
      have hd2 := k1.frozen
      have hd3 := k7.cell
      have hd4 := k7.frozen
      refine hK _ _ ?_; clear hK K
      refine wpAnyIn_ready (rs := [5]) (by kernel_rfl) (by simp) (AllReadyIn.cons rfl (fun K hK => ?_) AllReadyIn.nil)
      go_simp; refine hK _ _ ?_; clear hK K
      refine wpAnyIn_done (by kernel_rfl) ?_ _
      gi_wp2
      obtain ⟨j1, j2, j3⟩ := coll_count (total ps + (8 + xl.length)) k2 k3 k4 (hbel.drew.trans k5) (total_snoc xl ps).symm
      have e : (((total ps + (8 + xl.length) : Nat) : Int)) = (total ps : Int) + (8 + (xl.length : Int)) := by omega
      rw [e] at j1 j2 j3
      refine ⟨(((KeepsOthers.drew W).trans k6).trans j3).from _, ((Below.refl _ W).drew.trans k5).trans j2, ?_⟩
      exact coll_eq j1 (map_piece w pre _ ps xl hps.out rfl)
  case done =>
    rintro D ys W hD hys ⟨v, b1, hrecs, b2, hbel⟩ hK
    rw [show ys.map (fun p : Piece w => p.1.2) = rs from hys] at hrecs b2
    have hc := b1.cell
    have hc2 := b2.cell
    clear hys
    gi_wp2
    gi_region
    gi_wp2
    have hKd : W.drew.heap[D]? = some (.deferred (some [])) := hK
    refine ⟨by simp, .inl ⟨_, _, rfl, run_takeDeferred hKd, ?_⟩⟩
    have hD' : w.heap.size ≤ D := by simp at hD; omega
    have hrow' : ∀ r, some D = some r → ∃ o : Obj, W.drew.heap[r]? = some o ∧ o.isCells = false := fun r e => by cases e; exact ⟨_, hKd, rfl⟩
    exact ⟨_, results_tmp2 rfl _ _ _, v, rfl, Recs.kept (W := W.drew) hrecs (grownBy_putObj' _ D _) hrow', hbel.drew.trans (belowK_b (w := w) (Nat.le_refl _) W.drew D _ _ hD' hKd rfl rfl)⟩
  case stop =>
    rintro D c pre W _ _ h _
    exact h.elim

end Go.Proofs.Yteanjnkfoddfmaa
