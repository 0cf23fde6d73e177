/-
  What spans have in common, for the statements: of no program. No law is proved here.
-/
import Derived.Test.YtejceloahonelaaMath
namespace Go.Proofs.Ytejceloahonelaa
open Go.RowKit
set_option linter.unusedVariables false

theorem clipF_sym (af at' bf bt : ByteArray) : clipF bf bt af at' = clipF af at' bf bt := by
  unfold clipF; rw [clip_sym, max_comm]
theorem clipT_sym (af at' bf bt : ByteArray) : clipT bf bt af at' = clipT af at' bf bt := by
  unfold clipT; rw [clip_sym, min_comm]

/-- The first key. -/
def aa : ByteArray := ⟨#[97]⟩
theorem aa_toList : aa.toList = [97] := ByteArray.toList_mk [97]
theorem K_aa : K aa := by unfold K keyB; rw [aa_toList]; decide
theorem aa_le {k : ByteArray} (h : K k) : ¬ L k aa := by
  have h0 := h
  unfold K keyB at h
  simp only [Bool.and_eq_true, List.all_eq_true] at h
  unfold L; rw [ltB_iff, aa_toList]
  cases hx : k.toList with
  | nil => exact absurd (toList_inj (by rw [hx, emp_toList])) (K.ne h0)
  | cons a l =>
    have := h.2 a (by rw [hx]; exact List.mem_cons_self)
    unfold letB at this
    simp only [Bool.and_eq_true, decide_eq_true_eq] at this
    intro hl
    rcases List.cons_lt_cons_iff.1 hl with hl | ⟨_, hl⟩
    · have := UInt8.lt_iff_toNat_lt.1 hl
      have e : (97 : UInt8).toNat = 97 := rfl
      omega
    · exact absurd hl (List.not_lt_nil _)

theorem all_has (k : ByteArray) : hasB aa brace k = keyB k := by
  apply bool_ext
  rw [has_iff]
  unfold H
  constructor
  · exact fun h => h.2.1
  · intro h
    exact ⟨K_aa, h, .inr ⟨brace_ne, .inl rfl, K.lt K_aa, aa_le h, K.lt h⟩⟩

/-- What the document says of two that meet. -/
def refMeetB (af at' bf bt : ByteArray) : Bool := rightB af at' && rightB bf bt && (hasB af at' bf || hasB bf bt af)

theorem refMeet_eq (af at' bf bt : ByteArray) : refMeetB af at' bf bt = clipB af at' bf bt := by
  apply bool_ext
  unfold refMeetB
  rw [clipB_iff, Bool.and_eq_true, Bool.and_eq_true, Bool.or_eq_true, has_iff, has_iff, right_iff, right_iff]
  have hm := max_cases af bf
  generalize Lib.maxS af bf = m at *
  unfold H R at *
  rcases hm with ⟨hm, rfl⟩ | ⟨hm, rfl⟩ <;> grind (splits := 40) [L.tot, L.irr, → L.tr, emp_lt, not_lt_emp, K.ne]

theorem clip_right {af at' bf bt : ByteArray} (h : clipB af at' bf bt = true) : rightB (clipF af at' bf bt) (clipT af at' bf bt) = true := by
  unfold clipF clipT
  rw [h]
  rw [clipB_iff] at h
  rw [right_iff]
  simp only [cond_true]
  have hm := max_cases af bf
  have hn := min_cases at' bt
  unfold H R at *
  generalize Lib.maxS af bf = m at *
  generalize Lib.minS at' bt = n at *
  rcases hm with ⟨hm, rfl⟩ | ⟨hm, rfl⟩ <;> rcases hn with ⟨hn, rfl⟩ | ⟨hn, rfl⟩ <;> grind (splits := 40) [L.tot, L.irr, → L.tr, emp_lt, not_lt_emp, K.ne]

theorem clip_again {af at' bf bt : ByteArray} (h : clipB af at' bf bt = true) :
    clipB (clipF af at' bf bt) (clipT af at' bf bt) af at' = true ∧ clipF (clipF af at' bf bt) (clipT af at' bf bt) af at' = clipF af at' bf bt ∧ clipT (clipF af at' bf bt) (clipT af at' bf bt) af at' = clipT af at' bf bt := by
  have hr := clip_right h
  have h0 := h
  rw [right_iff] at hr
  rw [clipB_iff] at h
  have ef : clipF af at' bf bt = Lib.maxS af bf := by unfold clipF; rw [h0]; rfl
  have et : clipT af at' bf bt = Lib.minS at' bt := by unfold clipT; rw [h0]; rfl
  rw [ef, et] at hr ⊢
  have hm := max_cases af bf
  have hn := min_cases at' bt
  have e1 : Lib.maxS (Lib.maxS af bf) af = Lib.maxS af bf := by
    have := max_cases (Lib.maxS af bf) af
    generalize Lib.maxS (Lib.maxS af bf) af = z at *
    generalize Lib.maxS af bf = m at *
    grind (splits := 40) [L.tot, L.irr, → L.tr]
  have e2 : Lib.minS (Lib.minS at' bt) at' = Lib.minS at' bt := by
    have := min_cases (Lib.minS at' bt) at'
    generalize Lib.minS (Lib.minS at' bt) at' = z at *
    generalize Lib.minS at' bt = m at *
    grind (splits := 40) [L.tot, L.irr, → L.tr]
  have hc : clipB (Lib.maxS af bf) (Lib.minS at' bt) af at' = true := by
    rw [clipB_iff, e1]
    refine ⟨?_, h.1⟩
    have hb := both af at' bf bt (Lib.maxS af bf)
    rw [ef, et] at hb
    rw [← has_iff, hb, Bool.and_eq_true, has_iff, has_iff]
    exact h
  refine ⟨hc, ?_, ?_⟩
  · unfold clipF; rw [hc, cond_true, e1]
  · unfold clipT; rw [hc, cond_true, e2]

theorem clip_self (f t : ByteArray) : clipB f t f t = rightB f t := by
  apply bool_ext
  rw [clipB_iff, right_iff]
  have hm := max_cases f f
  generalize Lib.maxS f f = m at *
  unfold H R at *
  rcases hm with ⟨hm, rfl⟩ | ⟨hm, rfl⟩ <;> grind (splits := 40) [L.tot, L.irr, → L.tr, emp_lt, not_lt_emp, K.ne]

theorem clip_all (f t : ByteArray) : clipB f t aa brace = rightB f t := by
  apply bool_ext
  rw [clipB_iff, right_iff]
  have hm := max_cases f aa
  generalize Lib.maxS f aa = m at *
  unfold H R at *
  have h1 := @aa_le f
  have h2 := @K.lt f
  have h3 := @K.lt m
  have h4 := @K_aa
  have h5 := K.lt K_aa
  have h6 := brace_ne
  rcases hm with ⟨hm, rfl⟩ | ⟨hm, rfl⟩ <;> grind (splits := 40) [L.tot, L.irr, → L.tr, emp_lt, not_lt_emp, K.ne]

theorem clip_one (k f t : ByteArray) : clipB k emp f t = hasB f t k := by
  apply bool_ext
  rw [clipB_iff, has_iff]
  have hm := max_cases k f
  generalize Lib.maxS k f = m at *
  unfold H at *
  rcases hm with ⟨hm, rfl⟩ | ⟨hm, rfl⟩ <;> grind (splits := 40) [L.tot, L.irr, → L.tr, emp_lt, not_lt_emp, K.ne]

theorem clip_meets {af at' bf bt : ByteArray} (h : clipB af at' bf bt = true) :
    clipB (clipF af at' bf bt) (clipT af at' bf bt) af at' = true ∧ clipB (clipF af at' bf bt) (clipT af at' bf bt) bf bt = true := by
  refine ⟨(clip_again h).1, ?_⟩
  have h' : clipB bf bt af at' = true := by rw [clip_sym]; exact h
  have := (clip_again h').1
  rw [clipF_sym, clipT_sym] at this
  exact this

/-- A span cut in two. -/
theorem parts {f t a : ByteArray} (ht : t ≠ emp) (ha : hasB f t a = true) (hn : a ≠ f) (k : ByteArray) :
    rightB f a = true ∧ rightB a t = true ∧ clipB f a a t = false ∧ hasB f t k = (hasB f a k != hasB a t k) ∧ (hasB f a k && hasB a t k) = false ∧ clipB f a f t = true ∧ clipF f a f t = f ∧ clipT f a f t = a := by
  rw [has_iff] at ha
  have hr1 : rightB f a = true := by
    rw [right_iff]; unfold H R at *; grind (splits := 40) [L.tot, L.irr, → L.tr, emp_lt, not_lt_emp, K.ne]
  have hr2 : rightB a t = true := by
    rw [right_iff]; unfold H R at *; grind (splits := 40) [L.tot, L.irr, → L.tr, emp_lt, not_lt_emp, K.ne]
  have hc : clipB f a a t = false := by
    rw [← Bool.not_eq_true, clipB_iff]
    have hm := max_cases f a
    generalize Lib.maxS f a = m at *
    unfold H at *
    grind (splits := 40) [L.tot, L.irr, → L.tr, emp_lt, not_lt_emp, K.ne]
  have h1 : hasB f t k = true ↔ (hasB f a k = true ∨ hasB a t k = true) := by
    rw [has_iff, has_iff, has_iff]; unfold H at *; grind (splits := 40) [L.tot, L.irr, → L.tr, emp_lt, not_lt_emp, K.ne]
  have h2 : ¬ (hasB f a k = true ∧ hasB a t k = true) := by
    rw [has_iff, has_iff]; unfold H at *; grind (splits := 40) [L.tot, L.irr, → L.tr, emp_lt, not_lt_emp, K.ne]
  have hc2 : clipB f a f t = true := by
    rw [clipB_iff]
    have hm := max_cases f f
    generalize Lib.maxS f f = m at *
    unfold H at *
    grind (splits := 40) [L.tot, L.irr, → L.tr, emp_lt, not_lt_emp, K.ne]
  refine ⟨hr1, hr2, hc, ?_, ?_, hc2, ?_, ?_⟩
  · revert h1 h2; cases hasB f t k <;> cases hasB f a k <;> cases hasB a t k <;> simp
  · revert h2; cases hasB f a k <;> cases hasB a t k <;> simp
  · unfold clipF; rw [hc2, cond_true]
    have hm := max_cases f f
    grind [L.irr]
  · unfold clipT; rw [hc2, cond_true]
    have hm := min_cases a t
    unfold H at ha
    grind [L.irr, L.tot, → L.tr]

end Go.Proofs.Ytejceloahonelaa
