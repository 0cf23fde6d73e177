/-
  The order of texts, and what spans have: of no program. No law is proved here.
-/
import Derived.Test.YtejceloahonelaaClip
namespace Go.Proofs.Ytejceloahonelaa
open Go.RowKit
set_option linter.unusedVariables false

theorem toList_inj {x y : ByteArray} (h : x.toList = y.toList) : x = y := by
  rw [ByteArray.toList_eq, ByteArray.toList_eq] at h
  cases x; cases y
  simp at h
  rw [h]

theorem ltB_iff (x y : ByteArray) : ltB x y = true ↔ x.toList < y.toList := by unfold ltB; rw [bytesLess_eq]; simp
theorem eqB_iff (x y : ByteArray) : eqB x y = true ↔ x = y := by
  unfold eqB
  constructor
  · intro h; exact toList_inj (by simpa using h)
  · rintro rfl; simp
theorem eqB_self (x : ByteArray) : eqB x x = true := (eqB_iff x x).2 rfl

theorem lt_irrefl (x : ByteArray) : ltB x x = false := by
  rw [← Bool.not_eq_true, ltB_iff]; exact List.lt_irrefl _
theorem lt_trans {x y z : ByteArray} (h : ltB x y = true) (k : ltB y z = true) : ltB x z = true := by
  rw [ltB_iff] at *; exact List.lt_trans h k
theorem lt_asymm {x y : ByteArray} (h : ltB x y = true) : ltB y x = false := by
  cases k : ltB y x with
  | false => rfl
  | true => have := lt_trans h k; rw [lt_irrefl] at this; exact this.symm
theorem lt_total {x y : ByteArray} (h : ltB x y = false) (k : ltB y x = false) : x = y := by
  rw [← Bool.not_eq_true, ltB_iff] at h k
  exact toList_inj (List.le_antisymm (List.not_lt.1 k) (List.not_lt.1 h))

/-- Less, said as a proposition. -/
def L (x y : ByteArray) : Prop := ltB x y = true
def K (x : ByteArray) : Prop := keyB x = true
theorem L.irr (x : ByteArray) : ¬ L x x := by unfold L; rw [lt_irrefl]; simp
theorem L.tr {x y z : ByteArray} (h : L x y) (k : L y z) : L x z := lt_trans h k
theorem L.tot (x y : ByteArray) : L x y ∨ x = y ∨ L y x := by
  unfold L
  cases h : ltB x y with
  | true => exact .inl rfl
  | false => cases k : ltB y x with
    | true => exact .inr (.inr rfl)
    | false => exact .inr (.inl (lt_total h k))

theorem emp_lt {x : ByteArray} (h : x ≠ emp) : L emp x := by
  unfold L; rw [ltB_iff, emp_toList]
  cases hx : x.toList with
  | nil => exact absurd (toList_inj (by rw [hx, emp_toList])) h
  | cons a l => exact List.nil_lt_cons a l
theorem not_lt_emp (x : ByteArray) : ¬ L x emp := by
  unfold L; rw [ltB_iff, emp_toList]; exact List.not_lt_nil _
theorem key_emp_not : ¬ K emp := by unfold K; rw [keyB_short (by decide)]; simp
theorem K.ne {x : ByteArray} (h : K x) : x ≠ emp := by rintro rfl; exact key_emp_not h
theorem key_brace_not : ¬ K brace := by
  unfold K keyB; rw [brace_toList]; decide
theorem brace_ne : brace ≠ emp := by intro h; have := congrArg ByteArray.size h; revert this; decide
theorem K.lt {x : ByteArray} (h : K x) : L x brace := by
  have h0 := h
  unfold K keyB at h
  simp only [Bool.and_eq_true, List.all_eq_true] at h
  unfold L; rw [ltB_iff, brace_toList]
  cases hx : x.toList with
  | nil => exact absurd (toList_inj (by rw [hx, emp_toList])) (K.ne h0)
  | cons a l =>
    have := h.2 a (by rw [hx]; exact List.mem_cons_self)
    unfold letB at this
    simp only [Bool.and_eq_true, decide_eq_true_eq] at this
    refine List.cons_lt_cons_iff.2 (.inl ?_)
    exact UInt8.lt_iff_toNat_lt.2 (by have : (123 : UInt8).toNat = 123 := rfl; omega)

/-- A right span. -/
def R (f t : ByteArray) : Prop := K f ∧ (t = emp ∨ (t ≠ emp ∧ (t = brace ∨ K t) ∧ L f t))
/-- A span has a key. -/
def H (f t k : ByteArray) : Prop := K f ∧ K k ∧ ((t = emp ∧ k = f) ∨ (t ≠ emp ∧ (t = brace ∨ K t) ∧ L f t ∧ ¬ L k f ∧ L k t))

theorem right_iff (f t : ByteArray) : rightB f t = true ↔ R f t := by
  unfold rightB R K
  simp only [Bool.and_eq_true, Bool.or_eq_true, Bool.not_eq_true', Bool.or_eq_false_iff, eqB_iff]
  refine and_congr_right fun hf => ?_
  constructor
  · rintro (h | ⟨h1, h2, h3⟩)
    · exact .inl h
    · by_cases he : t = emp
      · exact .inl he
      · refine .inr ⟨he, h1, ?_⟩
        have h3' : t ≠ f := by intro e; rw [e, eqB_self] at h3; exact absurd h3 (by simp)
        rcases L.tot f t with h | h | h
        · exact h
        · exact absurd h.symm h3'
        · unfold L at h; rw [h] at h2; exact absurd h2 (by simp)
  · rintro (h | ⟨_, h1, h2⟩)
    · exact .inl h
    · refine .inr ⟨h1, lt_asymm h2, ?_⟩
      cases h3 : eqB t f with
      | false => rfl
      | true => rw [(eqB_iff _ _).1 h3] at h2; exact absurd h2 (L.irr f)

theorem has_iff (f t k : ByteArray) : hasB f t k = true ↔ H f t k := by
  unfold hasB H
  rw [Bool.and_eq_true, Bool.and_eq_true, right_iff]
  cases he : eqB t emp with
  | true =>
    have e := (eqB_iff _ _).1 he
    simp only [cond_true, eqB_iff]
    unfold R K
    constructor
    · rintro ⟨⟨⟨h1, _⟩, h2⟩, h3⟩; exact ⟨h1, h2, .inl ⟨e, h3⟩⟩
    · rintro ⟨h1, h2, ⟨_, h3⟩ | ⟨h3, _⟩⟩
      · exact ⟨⟨⟨h1, .inl e⟩, h2⟩, h3⟩
      · exact absurd e h3
  | false =>
    have e : t ≠ emp := by rintro rfl; rw [eqB_self] at he; exact absurd he (by simp)
    simp only [cond_false, Bool.and_eq_true, Bool.not_eq_true']
    unfold R K
    constructor
    · rintro ⟨⟨⟨h1, h | ⟨_, h4, h5⟩⟩, h2⟩, h3, h6⟩
      · exact absurd h e
      · exact ⟨h1, h2, .inr ⟨e, h4, h5, by unfold L; rw [h3]; simp, h6⟩⟩
    · rintro ⟨h1, h2, ⟨h, _⟩ | ⟨_, h4, h5, h3, h6⟩⟩
      · exact absurd h e
      · exact ⟨⟨⟨h1, .inr ⟨e, h4, h5⟩⟩, h2⟩, by unfold L at h3; simpa using h3, h6⟩

theorem max_cases (x y : ByteArray) : (L x y ∧ Lib.maxS x y = y) ∨ (¬ L x y ∧ Lib.maxS x y = x) := by
  unfold Lib.maxS L
  rw [ltB_iff, ByteArray.toList_eq, ByteArray.toList_eq]
  by_cases h : x.data.toList < y.data.toList
  · exact .inl ⟨h, if_pos h⟩
  · exact .inr ⟨h, if_neg h⟩
theorem min_cases (x y : ByteArray) : (¬ L y x ∧ Lib.minS x y = x) ∨ (L y x ∧ Lib.minS x y = y) := by
  unfold Lib.minS L
  rw [ltB_iff, ByteArray.toList_eq, ByteArray.toList_eq]
  by_cases h : x.data.toList < y.data.toList ∨ x.data.toList = y.data.toList
  · refine .inl ⟨?_, if_pos h⟩
    rcases h with h | h
    · exact List.lt_asymm h
    · rw [h]; exact List.lt_irrefl _
  · refine .inr ⟨?_, if_neg h⟩
    rw [not_or] at h
    rcases Std.le_total (a := x.data.toList) (b := y.data.toList) with k | k
    · exact absurd (Std.le_antisymm k (List.not_lt.1 h.1)) h.2
    · rcases Decidable.em (y.data.toList < x.data.toList) with q | q
      · exact q
      · exact absurd (Std.le_antisymm (List.not_lt.1 q) k) h.2

theorem bool_ext {a b : Bool} (h : a = true ↔ b = true) : a = b := by cases a <;> cases b <;> simp_all

theorem clipB_iff (af at' bf bt : ByteArray) : clipB af at' bf bt = true ↔ H af at' (Lib.maxS af bf) ∧ H bf bt (Lib.maxS af bf) := by
  unfold clipB; rw [Bool.and_eq_true, has_iff, has_iff]

theorem max_comm (x y : ByteArray) : Lib.maxS x y = Lib.maxS y x := by
  rcases max_cases x y with ⟨h, e⟩ | ⟨h, e⟩ <;> rcases max_cases y x with ⟨k, e'⟩ | ⟨k, e'⟩ <;> rw [e, e'] <;> grind [L.tot, L.irr, → L.tr]
theorem min_comm (x y : ByteArray) : Lib.minS x y = Lib.minS y x := by
  rcases min_cases x y with ⟨h, e⟩ | ⟨h, e⟩ <;> rcases min_cases y x with ⟨k, e'⟩ | ⟨k, e'⟩ <;> rw [e, e'] <;> grind [L.tot, L.irr, → L.tr]

theorem clip_sym (af at' bf bt : ByteArray) : clipB bf bt af at' = clipB af at' bf bt := by
  apply bool_ext
  rw [clipB_iff, clipB_iff]
  rw [max_comm bf af]
  exact And.comm

/-- In both. -/
theorem both (af at' bf bt k : ByteArray) : hasB (clipF af at' bf bt) (clipT af at' bf bt) k = (hasB af at' k && hasB bf bt k) := by
  apply bool_ext
  rw [Bool.and_eq_true, has_iff, has_iff, has_iff]
  unfold clipF clipT
  have hm := max_cases af bf
  have hn := min_cases at' bt
  cases h : clipB af at' bf bt with
  | true =>
    rw [clipB_iff] at h
    simp only [cond_true]
    unfold H at *
    generalize Lib.maxS af bf = m at *
    generalize Lib.minS at' bt = n at *
    rcases hm with ⟨hm, rfl⟩ | ⟨hm, rfl⟩ <;> rcases hn with ⟨hn, rfl⟩ | ⟨hn, rfl⟩ <;> grind (splits := 40) [L.tot, L.irr, → L.tr, emp_lt, not_lt_emp, K.ne]
  | false =>
    have h' : ¬ (H af at' (Lib.maxS af bf) ∧ H bf bt (Lib.maxS af bf)) := by rw [← clipB_iff, h]; simp
    simp only [cond_false]
    constructor
    · rintro ⟨h1, _⟩; exact absurd h1 key_emp_not
    · intro hb
      refine absurd ?_ h'
      clear h'
      unfold H at *
      generalize Lib.maxS af bf = m at *
      rcases hm with ⟨hm, rfl⟩ | ⟨hm, rfl⟩ <;> grind (splits := 40) [L.tot, L.irr, → L.tr, emp_lt, not_lt_emp, K.ne]

end Go.Proofs.Ytejceloahonelaa
