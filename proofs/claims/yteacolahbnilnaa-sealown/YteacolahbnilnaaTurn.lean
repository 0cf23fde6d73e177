/-
  Bits that are turned in bytes of the call's own.
-/
import Derived.Test.YteacolahbnilnaaSealBackW
namespace Go.Proofs.Yteacolahbnilnaa
open Go.RowKit
set_option linter.unusedVariables false

theorem whole_cut {x : List UInt8} (h2 : x.length ≤ 65536) {n : Nat} (hn : n < 8 + x.length) : whole ((fr x).take n) = none := by
  unfold whole
  rw [fst_cut h2 hn]

theorem bit_cast (d k : Nat) : ((d : Int) / 2 ^ k).tmod 2 = ((d / 2 ^ k % 2 : Nat) : Int) := by
  have e : (d : Int) / 2 ^ k = ((d / 2 ^ k : Nat) : Int) := by simp
  rw [e, show (2 : Int) = ((2 : Nat) : Int) from rfl, Int.ofNat_tmod]

theorem bit_true (d k : Nat) (h : d / 2 ^ k % 2 = 1) : (((d : Int) / 2 ^ k).tmod 2 == 1) = true := by rw [bit_cast, h]; rfl
theorem bit_false (d k : Nat) (h : ¬ d / 2 ^ k % 2 = 1) : (((d : Int) / 2 ^ k).tmod 2 == 1) = false := by rw [bit_cast, show d / 2 ^ k % 2 = 0 by omega]; rfl

/-- A frame's head with other bytes behind it. -/
def tf (l r : List UInt8) : List UInt8 := four l.length ++ (four (crc l) ++ r)

theorem tf_length (l r : List UInt8) : (tf l r).length = 8 + r.length := by simp [tf, four]; omega

theorem tf_get (l r : List UInt8) (i : Nat) : (tf l r)[8 + i]? = r[i]? := by
  unfold tf
  rw [List.getElem?_append_right (by simp [four]; omega), List.getElem?_append_right (by simp [four]; omega)]
  simp only [four, List.length_cons, List.length_nil]
  congr 1
  omega

theorem tf_set (l r : List UInt8) (i : Nat) (c : UInt8) : (tf l r).set (8 + i) c = tf l (r.set i c) := by
  unfold tf
  rw [List.set_append_right _ _ (by simp [four]; omega), List.set_append_right _ _ (by simp [four]; omega)]
  simp only [four, List.length_cons, List.length_nil]
  rw [show 8 + i - (0 + 1 + 1 + 1 + 1) - (0 + 1 + 1 + 1 + 1) = i by omega]

theorem bc_set (l : List UInt8) (i : Nat) (c : UInt8) : (bc l).set i (.int .u8 (c.toNat : Int)) = bc (l.set i c) := by
  unfold bc
  rw [List.map_set]

/-- One bit of bytes of one's own is turned. -/
theorem turn_bit {B g n cap : Nat} {L : List UInt8} {w : World} (ho : Own B w (.slice (some ⟨g, 0, none⟩) n cap) L) (j b : Nat) (hj : j < L.length) (hb : b < 8) (hn : L.length = n) :
    w.cell? ⟨g, j, none⟩ = some (.int .u8 (L[j].toNat : Int)) ∧ w.frozen? ⟨g, j, none⟩ = false ∧ B ≤ g ∧
      Own B (w.setCell ⟨g, j, none⟩ (.int .u8 (bits .xor .u8 (L[j].toNat : Int) (2 ^ b % 256)))) (.slice (some ⟨g, 0, none⟩) n cap) (L.set j (L[j] ^^^ UInt8.ofNat (2 ^ b))) := by
  subst hn
  have hp : 2 ^ b < 256 := by
    have : 2 ^ b < 2 ^ 8 := Nat.pow_lt_pow_right (by decide) hb
    simpa using this
  have hc := World.ownsRow.cellAt ho j (by omega)
  rw [bc_get, List.getElem?_eq_getElem hj] at hc
  have hf := World.ownsRow.frozenAt ho j
  refine ⟨hc, hf, (World.ownsRow.lt ho g rfl).1, ?_⟩
  have hst := (World.ownsRow.stored ho j (.int .u8 (bits .xor .u8 (L[j].toNat : Int) (2 ^ b % 256)))).1
  have e : bits .xor .u8 (L[j].toNat : Int) (2 ^ b % 256) = ((L[j] ^^^ UInt8.ofNat (2 ^ b)).toNat : Int) := by
    have e1 : (2 ^ b % 256 : Int) = ((2 ^ b : Nat) : Int) := by
      have h3 : ((2 ^ b : Nat) : Int) < 256 := by omega
      have h4 : ((2 ^ b : Nat) : Int) = (2 : Int) ^ b := by rw [Int.natCast_pow]; rfl
      rw [← h4]
      exact Int.emod_eq_of_lt (Int.natCast_nonneg _) h3
    rw [e1, u8_xor_nat _ _ L[j].toNat_lt hp, UInt8.toNat_xor, UInt8.toNat_ofNat', Nat.mod_eq_of_lt (by simpa using hp)]
  unfold Own
  rw [← bc_set, List.length_set]
  rw [e] at hst ⊢
  exact hst

theorem tmod_cases (x : Int) (n : Nat) (hn : 0 < n) : ∃ q : Nat, q < n ∧ ((x.tmod n = (q : Int) ∧ 0 ≤ x.tmod n) ∨ (x.tmod n = -(q : Int) ∧ x.tmod n < 0)) := by
  have h1 := Int.natAbs_tmod x n
  have h2 : (x.tmod n).natAbs < n := by
    rw [h1]
    simpa using Nat.mod_lt x.natAbs hn
  refine ⟨(x.tmod n).natAbs, h2, ?_⟩
  omega


end Go.Proofs.Yteacolahbnilnaa
