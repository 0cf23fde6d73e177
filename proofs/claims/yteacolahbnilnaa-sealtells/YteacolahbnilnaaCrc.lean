/-
  The sum of bytes, by numbers: a step of one bit, a step of one byte, and why turned bits give another sum. Of no program.
-/
namespace Go.Proofs.Yteacolahbnilnaa
set_option linter.unusedVariables false

/-- One bit's step. -/
def stp (s : Nat) : Nat := (s / 2) ^^^ (3988292384 * (s % 2))
def stpN : Nat → Nat → Nat
  | 0, s => s
  | n + 1, s => stpN n (stp s)

theorem stpN_add : ∀ (m n s : Nat), stpN (m + n) s = stpN n (stpN m s)
  | 0, n, s => by simp [stpN]
  | m + 1, n, s => by rw [show m + 1 + n = (m + n) + 1 by omega]; simp only [stpN]; rw [stpN_add m n]

theorem stpN_succ (n s : Nat) : stpN (n + 1) s = stp (stpN n s) := by rw [stpN_add n 1]; rfl

theorem stp_lt {s : Nat} (h : s < 2 ^ 32) : stp s < 2 ^ 32 := by
  unfold stp
  refine Nat.xor_lt_two_pow (by omega) ?_
  have : s % 2 ≤ 1 := by omega
  have h2 : 3988292384 * (s % 2) ≤ 3988292384 * 1 := Nat.mul_le_mul_left _ this
  omega

theorem stpN_lt : ∀ (n : Nat) {s : Nat}, s < 2 ^ 32 → stpN n s < 2 ^ 32
  | 0, _, h => h
  | n + 1, _, h => stpN_lt n (stp_lt h)

theorem xor_mod2 (a b : Nat) : (a ^^^ b) % 2 = (a % 2) ^^^ (b % 2) := by
  have := Nat.xor_mod_two_pow (a := a) (b := b) (n := 1)
  simpa using this

theorem poly_xor (a b : Nat) : 3988292384 * ((a % 2) ^^^ (b % 2)) = (3988292384 * (a % 2)) ^^^ (3988292384 * (b % 2)) := by
  rcases Nat.mod_two_eq_zero_or_one a with ha | ha <;> rcases Nat.mod_two_eq_zero_or_one b with hb | hb <;> rw [ha, hb] <;> rfl

theorem xor_div2 (a b : Nat) : (a ^^^ b) / 2 = (a / 2) ^^^ (b / 2) := by
  have := Nat.xor_div_two_pow (a := a) (b := b) (n := 1)
  simpa using this

theorem stp_xor (a b : Nat) : stp (a ^^^ b) = stp a ^^^ stp b := by
  unfold stp
  rw [xor_div2, xor_mod2, poly_xor]
  ac_rfl

theorem stpN_xor : ∀ (n a b : Nat), stpN n (a ^^^ b) = stpN n a ^^^ stpN n b
  | 0, _, _ => rfl
  | n + 1, a, b => by simp only [stpN]; rw [stp_xor, stpN_xor n]

theorem stp_double (a : Nat) : stp (2 * a) = a := by
  unfold stp
  rw [show 2 * a / 2 = a by omega, show 2 * a % 2 = 0 by omega]
  simp

theorem stpN_shift : ∀ (n a : Nat), stpN n (2 ^ n * a) = a
  | 0, a => by simp [stpN]
  | n + 1, a => by
    simp only [stpN]
    rw [show 2 ^ (n + 1) * a = 2 * (2 ^ n * a) by rw [Nat.pow_succ]; simp only [Nat.mul_comm, Nat.mul_left_comm], stp_double, stpN_shift n]

/-- Nothing but nought steps to nought. -/
theorem stp_zero {s : Nat} (h : s < 2 ^ 32) (h0 : stp s = 0) : s = 0 := by
  unfold stp at h0
  have e : s / 2 = 3988292384 * (s % 2) := by
    have := congrArg (· ^^^ (3988292384 * (s % 2))) h0
    simpa [Nat.xor_assoc] using this
  omega

theorem stpN_zero : ∀ (n : Nat) {s : Nat}, s < 2 ^ 32 → stpN n s = 0 → s = 0
  | 0, _, _, h => h
  | n + 1, _, h, h0 => stp_zero h (stpN_zero n (stp_lt h) h0)

/-- One byte's step; the sum. -/
def bstep (s : Nat) (c : UInt8) : Nat := stpN 8 (s ^^^ c.toNat)
def crcS (s : Nat) (l : List UInt8) : Nat := l.foldl bstep s
def crc (l : List UInt8) : Nat := crcS 4294967295 l ^^^ 4294967295

theorem bstep_lt {s : Nat} (c : UInt8) (h : s < 2 ^ 32) : bstep s c < 2 ^ 32 :=
  stpN_lt 8 (Nat.xor_lt_two_pow h (Nat.lt_trans c.toNat_lt (by decide)))

theorem crcS_lt : ∀ (l : List UInt8) {s : Nat}, s < 2 ^ 32 → crcS s l < 2 ^ 32
  | [], _, h => h
  | c :: l, _, h => crcS_lt l (bstep_lt c h)

theorem crc_lt (l : List UInt8) : crc l < 2 ^ 32 := Nat.xor_lt_two_pow (crcS_lt l (by decide)) (by decide)

theorem crcS_snoc (s : Nat) (l : List UInt8) (c : UInt8) : crcS s (l ++ [c]) = bstep (crcS s l) c := by simp [crcS]

/-- Bytes as one number, the first the lowest. -/
def num : List UInt8 → Nat
  | [] => 0
  | c :: l => c.toNat + 256 * num l

theorem add_xor {c m : Nat} (h : c < 256) : c + 256 * m = c ^^^ (256 * m) := by
  have := Nat.two_pow_add_eq_or_of_lt (i := 8) h m
  have h2 : (2 ^ 8 * m) ^^^ c = (2 ^ 8 * m) ||| c := by
    apply Nat.eq_of_testBit_eq
    intro i
    rw [Nat.testBit_xor, Nat.testBit_or, Nat.testBit_two_pow_mul]
    by_cases hi : 8 ≤ i
    · have : c.testBit i = false := Nat.testBit_lt_two_pow (Nat.lt_of_lt_of_le h (show 2 ^ 8 ≤ 2 ^ i from Nat.pow_le_pow_right (by decide) hi))
      simp [this]
    · simp [hi]
  rw [show (256 : Nat) = 2 ^ 8 from rfl, Nat.add_comm, this, ← h2, Nat.xor_comm]

theorem crcS_num : ∀ (l : List UInt8) (s : Nat), crcS s l = stpN (8 * l.length) (s ^^^ num l)
  | [], s => by simp [crcS, num, stpN]
  | c :: l, s => by
    have e : crcS s (c :: l) = crcS (bstep s c) l := rfl
    rw [e, crcS_num l, List.length_cons, show 8 * (l.length + 1) = 8 + 8 * l.length by omega, stpN_add]
    congr 1
    rw [show num (c :: l) = c.toNat + 256 * num l from rfl]
    unfold bstep
    rw [add_xor c.toNat_lt, ← Nat.xor_assoc, stpN_xor 8 (s ^^^ c.toNat), show 256 * num l = 2 ^ 8 * num l from rfl, stpN_shift]

/-- Bits within 32 beside one another turned: another sum. -/
theorem crc_turned {l m : List UInt8} (hl : m.length = l.length) (d at_ : Nat) (hd : d < 2 ^ 32) (h0 : d ≠ 0) (hat : at_ ≤ 8 * l.length) (hn : num m = num l ^^^ (2 ^ at_ * d)) : crc m ≠ crc l := by
  intro e
  unfold crc at e
  have e2 : crcS 4294967295 m = crcS 4294967295 l := by
    have := congrArg (· ^^^ 4294967295) e
    simpa [Nat.xor_assoc] using this
  rw [crcS_num, crcS_num, hl, hn, ← Nat.xor_assoc, stpN_xor] at e2
  have e3 : stpN (8 * l.length) (2 ^ at_ * d) = 0 := by
    have := congrArg (fun x => stpN (8 * l.length) (4294967295 ^^^ num l) ^^^ x) e2
    simpa [← Nat.xor_assoc] using this
  rw [show 8 * l.length = at_ + (8 * l.length - at_) by omega, stpN_add, stpN_shift] at e3
  exact h0 (stpN_zero _ hd e3)

theorem num_set : ∀ (l : List UInt8) (k b : Nat) (h : k < l.length) (hb : b < 8), num (l.set k (l[k] ^^^ UInt8.ofNat (2 ^ b))) = num l ^^^ 2 ^ (8 * k + b)
  | c :: l, 0, b, _, hb => by
    have hc := c.toNat_lt
    have hp : 2 ^ b < 256 := by
      have : 2 ^ b < 2 ^ 8 := Nat.pow_lt_pow_right (by decide) hb
      simpa using this
    have e : (c ^^^ UInt8.ofNat (2 ^ b)).toNat = c.toNat ^^^ 2 ^ b := by
      rw [UInt8.toNat_xor, UInt8.toNat_ofNat', Nat.mod_eq_of_lt (by simpa using hp)]
    simp only [List.set_cons_zero, List.getElem_cons_zero, num]
    rw [e, add_xor (Nat.xor_lt_two_pow (n := 8) hc hp), add_xor hc, Nat.mul_zero, Nat.zero_add]
    ac_rfl
  | c :: l, k + 1, b, h, hb => by
    have ih := num_set l k b (by simpa using h) hb
    simp only [List.set_cons_succ, List.getElem_cons_succ, num]
    rw [ih, add_xor c.toNat_lt, add_xor c.toNat_lt, show 8 * (k + 1) + b = 8 + (8 * k + b) by omega, Nat.pow_add 2 8 (8 * k + b), show (256 : Nat) = 2 ^ 8 from rfl]
    have : 2 ^ 8 * (num l ^^^ 2 ^ (8 * k + b)) = (2 ^ 8 * num l) ^^^ (2 ^ 8 * 2 ^ (8 * k + b)) := by
      have e := Nat.shiftLeft_xor_distrib (a := num l) (b := 2 ^ (8 * k + b)) (i := 8)
      simp only [Nat.shiftLeft_eq] at e
      rw [Nat.mul_comm, e, Nat.mul_comm (num l), Nat.mul_comm (2 ^ (8 * k + b))]
    rw [this, Nat.xor_assoc]

/-- One bit more of those that are turned. -/
theorem mod_step (d i : Nat) : d % 2 ^ (i + 1) = (d % 2 ^ i) + 2 ^ i * (d / 2 ^ i % 2) := by
  rw [Nat.pow_succ, Nat.mod_mul]

theorem turned_step (n d at_ i : Nat) (h : d / 2 ^ i % 2 = 1) : (n ^^^ (2 ^ at_ * (d % 2 ^ i))) ^^^ 2 ^ (at_ + i) = n ^^^ (2 ^ at_ * (d % 2 ^ (i + 1))) := by
  rw [Nat.xor_assoc, mod_step, h, Nat.mul_one]
  congr 1
  have hlt : d % 2 ^ i < 2 ^ i := Nat.mod_lt _ (Nat.two_pow_pos i)
  have e : d % 2 ^ i + 2 ^ i = (d % 2 ^ i) ^^^ 2 ^ i := by
    have h1 := Nat.two_pow_add_eq_or_of_lt hlt 1
    rw [Nat.mul_one] at h1
    rw [Nat.add_comm, h1]
    apply Nat.eq_of_testBit_eq
    intro j
    rw [Nat.testBit_xor, Nat.testBit_or, Nat.testBit_two_pow]
    by_cases hj : i = j
    · subst hj
      have : (d % 2 ^ i).testBit i = false := Nat.testBit_lt_two_pow hlt
      simp [this]
    · simp [hj]
  rw [e]
  have e2 := Nat.shiftLeft_xor_distrib (a := d % 2 ^ i) (b := 2 ^ i) (i := at_)
  simp only [Nat.shiftLeft_eq] at e2
  rw [Nat.mul_comm (2 ^ at_) (d % 2 ^ i ^^^ 2 ^ i), e2, Nat.mul_comm (2 ^ at_), Nat.pow_add, Nat.mul_comm (2 ^ at_) (2 ^ i)]

theorem turned_still (d i : Nat) (h : d / 2 ^ i % 2 = 0) : d % 2 ^ (i + 1) = d % 2 ^ i := by
  rw [mod_step, h, Nat.mul_zero, Nat.add_zero]

/-- The document's step of one bit, against a step of the byte whole. -/
theorem ref_step (s c k r : Nat) (hr : r ^^^ (c / 2 ^ k) = stpN k (s ^^^ c)) : (if r % 2 = c / 2 ^ k % 2 then r / 2 else (r / 2) ^^^ 3988292384) ^^^ (c / 2 ^ (k + 1)) = stpN (k + 1) (s ^^^ c) := by
  rw [stpN_succ, ← hr]
  unfold stp
  rw [xor_div2, xor_mod2, Nat.div_div_eq_div_mul, ← Nat.pow_succ]
  rcases Nat.mod_two_eq_zero_or_one r with ha | ha <;> rcases Nat.mod_two_eq_zero_or_one (c / 2 ^ k) with hb | hb <;> rw [ha, hb] <;> simp
  all_goals ac_rfl

theorem ref_last {r : Nat} (h : r < 2 ^ 32) : 4294967295 - r = r ^^^ 4294967295 := by
  apply Nat.eq_of_testBit_eq
  intro i
  rw [show 4294967295 - r = 2 ^ 32 - (r + 1) by omega, Nat.testBit_two_pow_sub_succ h, Nat.testBit_xor, show (4294967295 : Nat) = 2 ^ 32 - 1 from rfl, Nat.testBit_two_pow_sub_one]
  by_cases hi : i < 32
  · simp [hi]
  · have : r.testBit i = false := Nat.testBit_lt_two_pow (Nat.lt_of_lt_of_le h (Nat.pow_le_pow_right (by decide) (by omega)))
    simp [hi, this]

end Go.Proofs.Yteacolahbnilnaa
