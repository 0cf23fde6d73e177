/-
  Frames, by lists: what bytes begin with, and what they are scanned as. Of no program.
-/
import Derived.Test.YteacolahbnilnaaCrc
namespace Go.Proofs.Yteacolahbnilnaa
set_option linter.unusedVariables false

/-- A number's four bytes; the number of four bytes. -/
def four (n : Nat) : List UInt8 := [UInt8.ofNat (n / 16777216), UInt8.ofNat (n / 65536), UInt8.ofNat (n / 256), UInt8.ofNat n]
def of4 (l : List UInt8) : Nat := ((l[0]?.getD 0).toNat * 256 + (l[1]?.getD 0).toNat) * 65536 + (l[2]?.getD 0).toNat * 256 + (l[3]?.getD 0).toNat

theorem of4_four {n : Nat} (h : n < 2 ^ 32) (t : List UInt8) : of4 (four n ++ t) = n := by
  simp [of4, four, UInt8.toNat_ofNat']
  omega

theorem of4_lt (l : List UInt8) : of4 l < 2 ^ 32 := by
  unfold of4
  have h0 := (l[0]?.getD 0).toNat_lt
  have h1 := (l[1]?.getD 0).toNat_lt
  have h2 := (l[2]?.getD 0).toNat_lt
  have h3 := (l[3]?.getD 0).toNat_lt
  omega

/-- A record's frame. -/
def fr (x : List UInt8) : List UInt8 := four x.length ++ (four (crc x) ++ x)

theorem fr_length (x : List UInt8) : (fr x).length = 8 + x.length := by simp [fr, four]; omega

/-- The record that bytes begin with. -/
def fst (l : List UInt8) : Option (List UInt8) :=
  if 8 ≤ l.length ∧ 1 ≤ of4 l ∧ of4 l ≤ 65536 ∧ of4 l ≤ l.length - 8 ∧ crc ((l.drop 8).take (of4 l)) = of4 (l.drop 4) then some ((l.drop 8).take (of4 l)) else none

theorem fst_some {l x : List UInt8} (h : fst l = some x) : 8 + x.length ≤ l.length ∧ 1 ≤ x.length ∧ x.length ≤ 65536 ∧ x = (l.drop 8).take x.length := by
  unfold fst at h
  split at h
  · rename_i hc
    obtain ⟨h1, h2, h3, h4, h5⟩ := hc
    simp only [Option.some.injEq] at h
    subst h
    have e : ((l.drop 8).take (of4 l)).length = of4 l := by rw [List.length_take, List.length_drop]; omega
    rw [e]
    exact ⟨by omega, h2, h3, rfl⟩
  · cases h

theorem fst_short {l : List UInt8} (h : l.length ≤ 8) : fst l = none := by
  unfold fst
  rw [if_neg (by omega)]

theorem fst_fr {x : List UInt8} (h1 : 1 ≤ x.length) (h2 : x.length ≤ 65536) (t : List UInt8) : fst (fr x ++ t) = some x := by
  have e0 : of4 (fr x ++ t) = x.length := by unfold fr; rw [List.append_assoc]; exact of4_four (by omega) _
  have e1 : (fr x ++ t).drop 4 = four (crc x) ++ (x ++ t) := by simp [fr, four]
  have e2 : (fr x ++ t).drop 8 = x ++ t := by simp [fr, four]
  unfold fst
  rw [e0, e1, e2, of4_four (crc_lt x), List.take_left' rfl]
  have hl : (fr x ++ t).length = 8 + x.length + t.length := by rw [List.length_append, fr_length]
  rw [if_pos ⟨by omega, h1, h2, by omega, rfl⟩]

/-- A frame whose record has another sum is none. -/
theorem fst_bad {x y : List UInt8} (h1 : y.length = x.length) (h : crc y ≠ crc x) (h2 : x.length ≤ 65536) (t : List UInt8) : fst (four x.length ++ (four (crc x) ++ (y ++ t))) = none := by
  unfold fst
  rw [of4_four (by omega)]
  rw [if_neg]
  rintro ⟨-, -, -, -, h5⟩
  have e1 : (four x.length ++ (four (crc x) ++ (y ++ t))).drop 4 = four (crc x) ++ (y ++ t) := by simp [four]
  have e2 : (four x.length ++ (four (crc x) ++ (y ++ t))).drop 8 = y ++ t := by simp [four]
  rw [e1, e2, of4_four (crc_lt x), List.take_left' h1] at h5
  exact h h5

/-- A frame that is cut is none. -/
theorem fst_cut {x : List UInt8} (h2 : x.length ≤ 65536) {n : Nat} (hn : n < 8 + x.length) : fst ((fr x).take n) = none := by
  by_cases h4 : n < 4
  · exact fst_short (by rw [List.length_take]; omega)
  · unfold fst
    rw [if_neg]
    rintro ⟨h1, -, -, h5, -⟩
    have e : of4 ((fr x).take n) = x.length := by
      obtain ⟨k, rfl⟩ : ∃ k, n = 4 + k := ⟨n - 4, by omega⟩
      have : (fr x).take (4 + k) = four x.length ++ (four (crc x) ++ x).take k := by
        unfold fr
        rw [show 4 + k = (four x.length).length + k from rfl, List.take_length_add_append]
      rw [this, of4_four (by omega)]
    rw [List.length_take, fr_length] at h1
    rw [e, List.length_take, fr_length] at h5
    omega

/-- What bytes are scanned as: their records. -/
def Scans : List UInt8 → List (List UInt8) → Prop
  | l, [] => fst l = none
  | l, x :: r => fst l = some x ∧ Scans (l.drop (8 + x.length)) r

theorem Scans.ex : ∀ (n : Nat) (l : List UInt8), l.length ≤ n → ∃ r, Scans l r
  | 0, l, h => ⟨[], fst_short (by omega)⟩
  | n + 1, l, h => by
    cases hf : fst l with
    | none => exact ⟨[], hf⟩
    | some x =>
      have := fst_some hf
      obtain ⟨r, hr⟩ := Scans.ex n (l.drop (8 + x.length)) (by rw [List.length_drop]; omega)
      exact ⟨x :: r, hf, hr⟩

/-- How many bytes frames of such records have. -/
def total (r : List (List UInt8)) : Nat := (r.map fun x => 8 + x.length).sum
theorem total_cons (x : List UInt8) (r : List (List UInt8)) : total (x :: r) = 8 + x.length + total r := by simp [total]
theorem total_snoc (x : List UInt8) (r : List (List UInt8)) : total (r ++ [x]) = total r + (8 + x.length) := by simp [total]

theorem total_small : ∀ {r : List (List UInt8)}, (∀ x ∈ r, x.length ≤ 65536) → total r ≤ 65544 * r.length
  | [], _ => by simp [total]
  | x :: r, h => by
    have h1 := h x (by simp)
    have h2 := total_small (r := r) (fun y hy => h y (by simp [hy]))
    rw [total_cons, List.length_cons]
    omega

theorem Scans.total_le : ∀ {r : List (List UInt8)} {l : List UInt8}, Scans l r → total r ≤ l.length
  | [], _, _ => Nat.zero_le _
  | x :: r, l, h => by
    have h1 := fst_some h.1
    have h2 := Scans.total_le h.2
    rw [List.length_drop] at h2
    rw [total_cons]
    omega

theorem Scans.count_le : ∀ {r : List (List UInt8)} {l : List UInt8}, Scans l r → r.length ≤ l.length
  | [], _, _ => Nat.zero_le _
  | x :: r, l, h => by
    have h1 := fst_some h.1
    have h2 := Scans.count_le h.2
    rw [List.length_drop] at h2
    rw [List.length_cons]
    omega

/-- Frames, one behind the other. -/
def frs (r : List (List UInt8)) : List UInt8 := (r.map fr).flatten
theorem frs_cons (x : List UInt8) (r : List (List UInt8)) : frs (x :: r) = fr x ++ frs r := by simp [frs]
theorem frs_snoc (x : List UInt8) (r : List (List UInt8)) : frs (r ++ [x]) = frs r ++ fr x := by simp [frs]
theorem frs_append (r s : List (List UInt8)) : frs (r ++ s) = frs r ++ frs s := by simp [frs]
theorem frs_length : ∀ (r : List (List UInt8)), (frs r).length = total r
  | [] => rfl
  | x :: r => by rw [frs_cons, List.length_append, fr_length, frs_length r, total_cons]

/-- May be framed. -/
def Fits (x : List UInt8) : Prop := 1 ≤ x.length ∧ x.length ≤ 65536

theorem Scans.frames : ∀ {r : List (List UInt8)} (t : List UInt8), (∀ x ∈ r, Fits x) → fst t = none → Scans (frs r ++ t) r
  | [], t, _, ht => by simpa [frs, Scans] using ht
  | x :: r, t, h, ht => by
    have hx := h x (by simp)
    refine ⟨?_, ?_⟩
    · rw [frs_cons, List.append_assoc]; exact fst_fr hx.1 hx.2 _
    · rw [frs_cons, List.append_assoc, List.drop_left' (by rw [fr_length])]
      exact Scans.frames t (fun y hy => h y (by simp [hy])) ht

end Go.Proofs.Yteacolahbnilnaa
