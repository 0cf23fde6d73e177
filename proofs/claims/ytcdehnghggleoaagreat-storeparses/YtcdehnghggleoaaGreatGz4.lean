/-
  S5Math2, S5Lst, SKeys, Vs1, Vs2, Vs3, Vs4, Vs5, Vs6: one behind the other. No law is proved here.
-/
import Derived.Test.YtcdehnghggleoaaGreatGz3
import Derived.Lib.SlicesCompact
/-
  What spans have in common, for the statements: of no program. No law is proved here.
-/
namespace Go.Proofs.YtcdehnghggleoaaGreat.S5
open Go.RowKit
set_option linter.unusedVariables false

theorem clipF_sym (af at' bf bt : ByteArray) : clipF bf bt af at' = clipF af at' bf bt := by
  unfold clipF; rw [clip_sym, max_comm]
theorem clipT_sym (af at' bf bt : ByteArray) : clipT bf bt af at' = clipT af at' bf bt := by
  unfold clipT; rw [clip_sym, min_comm]

/-- The first key. -/
def aa : ByteArray := ⟨#[97]⟩
theorem aa_toList : aa.toList = [97] := ByteArray.toList_mk [97]
theorem K_aa : K aa := by unfold K keyB; rw [aa_toList]; decide
theorem aa_le {k : ByteArray} (h : K k) : ¬ L k aa := by
  have h0 := h
  unfold K keyB at h
  simp only [Bool.and_eq_true, List.all_eq_true] at h
  unfold L; rw [ltB_iff, aa_toList]
  cases hx : k.toList with
  | nil => exact absurd (toList_inj (by rw [hx, emp_toList])) (K.ne h0)
  | cons a l =>
    have := h.2 a (by rw [hx]; exact List.mem_cons_self)
    unfold letB at this
    simp only [Bool.and_eq_true, decide_eq_true_eq] at this
    intro hl
    rcases List.cons_lt_cons_iff.1 hl with hl | ⟨_, hl⟩
    · have := UInt8.lt_iff_toNat_lt.1 hl
      have e : (97 : UInt8).toNat = 97 := rfl
      omega
    · exact absurd hl (List.not_lt_nil _)

theorem all_has (k : ByteArray) : hasB aa brace k = keyB k := by
  apply bool_ext
  rw [has_iff]
  unfold H
  constructor
  · exact fun h => h.2.1
  · intro h
    exact ⟨K_aa, h, .inr ⟨brace_ne, .inl rfl, K.lt K_aa, aa_le h, K.lt h⟩⟩

/-- What the document says of two that meet. -/
def refMeetB (af at' bf bt : ByteArray) : Bool := rightB af at' && rightB bf bt && (hasB af at' bf || hasB bf bt af)

theorem refMeet_eq (af at' bf bt : ByteArray) : refMeetB af at' bf bt = clipB af at' bf bt := by
  apply bool_ext
  unfold refMeetB
  rw [clipB_iff, Bool.and_eq_true, Bool.and_eq_true, Bool.or_eq_true, has_iff, has_iff, right_iff, right_iff]
  have hm := max_cases af bf
  generalize Lib.maxS af bf = m at *
  unfold H R at *
  rcases hm with ⟨hm, rfl⟩ | ⟨hm, rfl⟩ <;> grind (splits := 40) [L.tot, L.irr, → L.tr, emp_lt, not_lt_emp, K.ne]

theorem clip_right {af at' bf bt : ByteArray} (h : clipB af at' bf bt = true) : rightB (clipF af at' bf bt) (clipT af at' bf bt) = true := by
  unfold clipF clipT
  rw [h]
  rw [clipB_iff] at h
  rw [right_iff]
  simp only [cond_true]
  have hm := max_cases af bf
  have hn := min_cases at' bt
  unfold H R at *
  generalize Lib.maxS af bf = m at *
  generalize Lib.minS at' bt = n at *
  rcases hm with ⟨hm, rfl⟩ | ⟨hm, rfl⟩ <;> rcases hn with ⟨hn, rfl⟩ | ⟨hn, rfl⟩ <;> grind (splits := 40) [L.tot, L.irr, → L.tr, emp_lt, not_lt_emp, K.ne]

theorem clip_again {af at' bf bt : ByteArray} (h : clipB af at' bf bt = true) :
    clipB (clipF af at' bf bt) (clipT af at' bf bt) af at' = true ∧ clipF (clipF af at' bf bt) (clipT af at' bf bt) af at' = clipF af at' bf bt ∧ clipT (clipF af at' bf bt) (clipT af at' bf bt) af at' = clipT af at' bf bt := by
  have hr := clip_right h
  have h0 := h
  rw [right_iff] at hr
  rw [clipB_iff] at h
  have ef : clipF af at' bf bt = Lib.maxS af bf := by unfold clipF; rw [h0]; rfl
  have et : clipT af at' bf bt = Lib.minS at' bt := by unfold clipT; rw [h0]; rfl
  rw [ef, et] at hr ⊢
  have hm := max_cases af bf
  have hn := min_cases at' bt
  have e1 : Lib.maxS (Lib.maxS af bf) af = Lib.maxS af bf := by
    have := max_cases (Lib.maxS af bf) af
    generalize Lib.maxS (Lib.maxS af bf) af = z at *
    generalize Lib.maxS af bf = m at *
    grind (splits := 40) [L.tot, L.irr, → L.tr]
  have e2 : Lib.minS (Lib.minS at' bt) at' = Lib.minS at' bt := by
    have := min_cases (Lib.minS at' bt) at'
    generalize Lib.minS (Lib.minS at' bt) at' = z at *
    generalize Lib.minS at' bt = m at *
    grind (splits := 40) [L.tot, L.irr, → L.tr]
  have hc : clipB (Lib.maxS af bf) (Lib.minS at' bt) af at' = true := by
    rw [clipB_iff, e1]
    refine ⟨?_, h.1⟩
    have hb := both af at' bf bt (Lib.maxS af bf)
    rw [ef, et] at hb
    rw [← has_iff, hb, Bool.and_eq_true, has_iff, has_iff]
    exact h
  refine ⟨hc, ?_, ?_⟩
  · unfold clipF; rw [hc, cond_true, e1]
  · unfold clipT; rw [hc, cond_true, e2]

theorem clip_self (f t : ByteArray) : clipB f t f t = rightB f t := by
  apply bool_ext
  rw [clipB_iff, right_iff]
  have hm := max_cases f f
  generalize Lib.maxS f f = m at *
  unfold H R at *
  rcases hm with ⟨hm, rfl⟩ | ⟨hm, rfl⟩ <;> grind (splits := 40) [L.tot, L.irr, → L.tr, emp_lt, not_lt_emp, K.ne]

theorem clip_all (f t : ByteArray) : clipB f t aa brace = rightB f t := by
  apply bool_ext
  rw [clipB_iff, right_iff]
  have hm := max_cases f aa
  generalize Lib.maxS f aa = m at *
  unfold H R at *
  have h1 := @aa_le f
  have h2 := @K.lt f
  have h3 := @K.lt m
  have h4 := @K_aa
  have h5 := K.lt K_aa
  have h6 := brace_ne
  rcases hm with ⟨hm, rfl⟩ | ⟨hm, rfl⟩ <;> grind (splits := 40) [L.tot, L.irr, → L.tr, emp_lt, not_lt_emp, K.ne]

theorem clip_one (k f t : ByteArray) : clipB k emp f t = hasB f t k := by
  apply bool_ext
  rw [clipB_iff, has_iff]
  have hm := max_cases k f
  generalize Lib.maxS k f = m at *
  unfold H at *
  rcases hm with ⟨hm, rfl⟩ | ⟨hm, rfl⟩ <;> grind (splits := 40) [L.tot, L.irr, → L.tr, emp_lt, not_lt_emp, K.ne]

theorem clip_meets {af at' bf bt : ByteArray} (h : clipB af at' bf bt = true) :
    clipB (clipF af at' bf bt) (clipT af at' bf bt) af at' = true ∧ clipB (clipF af at' bf bt) (clipT af at' bf bt) bf bt = true := by
  refine ⟨(clip_again h).1, ?_⟩
  have h' : clipB bf bt af at' = true := by rw [clip_sym]; exact h
  have := (clip_again h').1
  rw [clipF_sym, clipT_sym] at this
  exact this

/-- A span cut in two. -/
theorem parts {f t a : ByteArray} (ht : t ≠ emp) (ha : hasB f t a = true) (hn : a ≠ f) (k : ByteArray) :
    rightB f a = true ∧ rightB a t = true ∧ clipB f a a t = false ∧ hasB f t k = (hasB f a k != hasB a t k) ∧ (hasB f a k && hasB a t k) = false ∧ clipB f a f t = true ∧ clipF f a f t = f ∧ clipT f a f t = a := by
  rw [has_iff] at ha
  have hr1 : rightB f a = true := by
    rw [right_iff]; unfold H R at *; grind (splits := 40) [L.tot, L.irr, → L.tr, emp_lt, not_lt_emp, K.ne]
  have hr2 : rightB a t = true := by
    rw [right_iff]; unfold H R at *; grind (splits := 40) [L.tot, L.irr, → L.tr, emp_lt, not_lt_emp, K.ne]
  have hc : clipB f a a t = false := by
    rw [← Bool.not_eq_true, clipB_iff]
    have hm := max_cases f a
    generalize Lib.maxS f a = m at *
    unfold H at *
    grind (splits := 40) [L.tot, L.irr, → L.tr, emp_lt, not_lt_emp, K.ne]
  have h1 : hasB f t k = true ↔ (hasB f a k = true ∨ hasB a t k = true) := by
    rw [has_iff, has_iff, has_iff]; unfold H at *; grind (splits := 40) [L.tot, L.irr, → L.tr, emp_lt, not_lt_emp, K.ne]
  have h2 : ¬ (hasB f a k = true ∧ hasB a t k = true) := by
    rw [has_iff, has_iff]; unfold H at *; grind (splits := 40) [L.tot, L.irr, → L.tr, emp_lt, not_lt_emp, K.ne]
  have hc2 : clipB f a f t = true := by
    rw [clipB_iff]
    have hm := max_cases f f
    generalize Lib.maxS f f = m at *
    unfold H at *
    grind (splits := 40) [L.tot, L.irr, → L.tr, emp_lt, not_lt_emp, K.ne]
  refine ⟨hr1, hr2, hc, ?_, ?_, hc2, ?_, ?_⟩
  · revert h1 h2; cases hasB f t k <;> cases hasB f a k <;> cases hasB a t k <;> simp
  · revert h2; cases hasB f a k <;> cases hasB a t k <;> simp
  · unfold clipF; rw [hc2, cond_true]
    have hm := max_cases f f
    grind [L.irr]
  · unfold clipT; rw [hc2, cond_true]
    have hm := min_cases a t
    unfold H at ha
    grind [L.irr, L.tot, → L.tr]

end Go.Proofs.YtcdehnghggleoaaGreat.S5

/-
  Lists of texts: sorted, and each once: of no program. No law is proved here.
-/
namespace Go.Proofs.YtcdehnghggleoaaGreat.S5
open Go.RowKit
set_option linter.unusedVariables false

def ofL (l : List UInt8) : ByteArray := ⟨l.toArray⟩
theorem ofL_toList (l : List UInt8) : (ofL l).toList = l := ByteArray.toList_mk l
theorem ofL_of (x : ByteArray) : ofL x.toList = x := toList_inj (ofL_toList _)

/-- A text put into a rising list. -/
def insS : List ByteArray → ByteArray → List ByteArray
  | [], x => [x]
  | y :: r, x => cond (ltB y x) (y :: insS r x) (cond (eqB y x) (y :: r) (x :: y :: r))

/-- The keys of a list that a span has, each once, rising. -/
def keysOf (f t : ByteArray) (l : List ByteArray) : List ByteArray := l.foldl (fun out x => cond (hasB f t x) (insS out x) out) []

theorem mem_insS (x z : ByteArray) : ∀ out, z ∈ insS out x ↔ z = x ∨ z ∈ out
  | [] => by simp [insS]
  | y :: r => by
    unfold insS
    cases h : ltB y x with
    | true => simp only [cond_true, List.mem_cons, mem_insS x z r]; grind
    | false =>
      cases k : eqB y x with
      | true =>
        have e := (eqB_iff _ _).1 k
        subst e
        simp
      | false => simp

theorem rise_insS (x : ByteArray) : ∀ {out}, out.Pairwise L → (insS out x).Pairwise L
  | [], _ => by simp [insS]
  | y :: r, hp => by
    have hp' := List.pairwise_cons.1 hp
    unfold insS
    cases h : ltB y x with
    | true =>
      refine List.pairwise_cons.2 ⟨fun z hz => ?_, rise_insS x hp'.2⟩
      rcases (mem_insS x z r).1 hz with rfl | hz
      · exact h
      · exact hp'.1 z hz
    | false =>
      cases k : eqB y x with
      | true => exact hp
      | false =>
        have hxy : L x y := by
          rcases L.tot x y with q | q | q
          · exact q
          · rw [q, eqB_self] at k; exact absurd k (by simp)
          · unfold L at q; rw [h] at q; exact absurd q (by simp)
        refine List.pairwise_cons.2 ⟨fun z hz => ?_, hp⟩
        rcases List.mem_cons.1 hz with rfl | hz
        · exact hxy
        · exact L.tr hxy (hp'.1 z hz)

theorem keys_fold (f t : ByteArray) : ∀ (l out : List ByteArray), out.Pairwise L →
    (l.foldl (fun out x => cond (hasB f t x) (insS out x) out) out).Pairwise L ∧ ∀ z, z ∈ l.foldl (fun out x => cond (hasB f t x) (insS out x) out) out ↔ z ∈ out ∨ (z ∈ l ∧ hasB f t z = true)
  | [], out, h => ⟨h, fun z => by simp⟩
  | x :: r, out, h => by
    rw [List.foldl_cons]
    cases hx : hasB f t x with
    | true =>
      obtain ⟨h1, h2⟩ := keys_fold f t r _ (rise_insS x h)
      refine ⟨h1, fun z => ?_⟩
      rw [cond_true, h2, mem_insS, List.mem_cons]
      grind
    | false =>
      obtain ⟨h1, h2⟩ := keys_fold f t r _ h
      refine ⟨h1, fun z => ?_⟩
      rw [cond_false, h2, List.mem_cons]
      grind

theorem keys_rise (f t : ByteArray) (l : List ByteArray) : (keysOf f t l).Pairwise L := (keys_fold f t l [] List.Pairwise.nil).1
theorem keys_mem (f t : ByteArray) (l : List ByteArray) (z : ByteArray) : z ∈ keysOf f t l ↔ z ∈ l ∧ hasB f t z = true := by
  have := (keys_fold f t l [] List.Pairwise.nil).2 z
  unfold keysOf
  simpa using this

theorem len_insS (x : ByteArray) : ∀ out, (insS out x).length ≤ out.length + 1
  | [] => by simp [insS]
  | y :: r => by
    unfold insS
    have := len_insS x r
    cases ltB y x <;> cases eqB y x <;> simp <;> omega
theorem len_fold (f t : ByteArray) : ∀ (l out : List ByteArray), (l.foldl (fun out x => cond (hasB f t x) (insS out x) out) out).length ≤ out.length + l.length
  | [], out => by simp
  | x :: r, out => by
    rw [List.foldl_cons, List.length_cons]
    have h1 := len_fold f t r (cond (hasB f t x) (insS out x) out)
    have h2 := len_insS x out
    have h3 : (cond (hasB f t x) (insS out x) out).length ≤ out.length + 1 := by cases hasB f t x <;> simp <;> omega
    omega
theorem keys_len (f t : ByteArray) (l : List ByteArray) : (keysOf f t l).length ≤ l.length := by
  have := len_fold f t l []
  unfold keysOf
  simpa using this

/-- Two rising lists with the same members are one. -/
theorem rise_eq : ∀ {a b : List ByteArray}, a.Pairwise L → b.Pairwise L → (∀ z, z ∈ a ↔ z ∈ b) → a = b
  | [], [], _, _, _ => rfl
  | [], y :: r, _, _, h => absurd ((h y).2 List.mem_cons_self) (by simp)
  | x :: r, [], _, _, h => absurd ((h x).1 List.mem_cons_self) (by simp)
  | x :: r, y :: s, ha, hb, h => by
    have ha' := List.pairwise_cons.1 ha
    have hb' := List.pairwise_cons.1 hb
    have e : x = y := by
      rcases List.mem_cons.1 ((h x).1 List.mem_cons_self) with e | hx
      · exact e
      · rcases List.mem_cons.1 ((h y).2 List.mem_cons_self) with e | hy
        · exact e.symm
        · exact absurd (L.tr (ha'.1 y hy) (hb'.1 x hx)) (L.irr x)
    subst e
    refine congrArg (x :: ·) (rise_eq ha'.2 hb'.2 fun z => ?_)
    have := h z
    rw [List.mem_cons, List.mem_cons] at this
    by_cases e : z = x
    · subst e
      constructor
      · intro hz; exact absurd (ha'.1 z hz) (L.irr z)
      · intro hz; exact absurd (hb'.1 z hz) (L.irr z)
    · simpa [e] using this

theorem keys_of {f t : ByteArray} {l k : List ByteArray} (h1 : k.Pairwise L) (h2 : ∀ z, z ∈ k ↔ z ∈ l ∧ hasB f t z = true) : k = keysOf f t l :=
  rise_eq h1 (keys_rise f t l) fun z => by rw [h2, keys_mem]

section
variable (zs : List (List UInt8))

theorem compact_rise (h : zs.Pairwise (· ≤ ·)) : (Lib.compact zs).Pairwise (· < ·) := by
  unfold Lib.compact Lib.compactUpTo
  rw [List.pairwise_map]
  have hr : ((List.range zs.length).filter (Lib.keeps zs.toArray)).Pairwise (· < ·) := List.pairwise_lt_range.filter _
  rw [List.pairwise_iff_getElem] at h
  refine hr.imp_of_mem fun {i j} hi hj hij => ?_
  rw [List.mem_filter, List.mem_range] at hi hj
  have hk := hj.2
  unfold Lib.keeps at hk
  simp only [decide_eq_true_eq] at hk
  have g : ∀ k, k < zs.length → zs.toArray[k]! = zs[k]! := fun k hk => by simp [hk]
  have hne : zs.toArray[j]! ≠ zs.toArray[j - 1]! := hk.resolve_left (by omega)
  rw [g j hj.1, g (j - 1) (by omega), getElem!_pos zs j hj.1, getElem!_pos zs (j - 1) (by omega)] at hne
  rw [g i hi.1, g j hj.1, getElem!_pos zs i hi.1, getElem!_pos zs j hj.1]
  have h1 : zs[j - 1] < zs[j] := Std.lt_of_le_of_ne (h (j - 1) j (by omega) hj.1 (by omega)) (fun e => hne e.symm)
  by_cases e : i = j - 1
  · subst e; exact h1
  · exact List.lt_of_le_of_lt (h i (j - 1) hi.1 (by omega) (by omega)) h1

theorem compact_mem (x : List UInt8) : x ∈ Lib.compact zs ↔ x ∈ zs := by
  unfold Lib.compact Lib.compactUpTo
  rw [List.mem_map]
  have g : ∀ k, k < zs.length → zs.toArray[k]! = zs[k]! := fun k hk => by simp [hk]
  constructor
  · rintro ⟨j, hj, rfl⟩
    rw [List.mem_filter, List.mem_range] at hj
    rw [g j hj.1, getElem!_pos zs j hj.1]
    exact List.getElem_mem _
  · intro hx
    obtain ⟨n, hn, e⟩ := List.getElem_of_mem hx
    -- the first place that holds x
    have first : ∀ n, (hn : n < zs.length) → zs[n] = x → ∃ j, ∃ hj : j < zs.length, zs[j] = x ∧ (j = 0 ∨ zs[j - 1]! ≠ x) := by
      intro n
      induction n with
      | zero => intro hn e; exact ⟨0, hn, e, .inl rfl⟩
      | succ n ih =>
        intro hn e
        by_cases q : zs[n]'(by omega) = x
        · exact ih (by omega) q
        · refine ⟨n + 1, hn, e, .inr ?_⟩
          rw [Nat.add_sub_cancel, getElem!_pos zs n (by omega)]; exact q
    obtain ⟨j, hj, e, hk⟩ := first n hn e
    refine ⟨j, ?_, ?_⟩
    · rw [List.mem_filter, List.mem_range]
      refine ⟨hj, ?_⟩
      unfold Lib.keeps
      simp only [decide_eq_true_eq]
      by_cases h0 : j = 0
      · exact .inl h0
      · refine .inr ?_
        rw [g j hj, g (j - 1) (by omega), getElem!_pos zs j hj, e]
        exact fun q => (hk.resolve_left h0) q.symm
    · rw [g j hj, getElem!_pos zs j hj, e]

end

theorem sort_le (zs : List (List UInt8)) : (zs.mergeSort fun x y => decide (x ≤ y)).Pairwise (· ≤ ·) := by
  have := List.pairwise_mergeSort (le := fun x y : List UInt8 => decide (x ≤ y)) (fun a b c h1 h2 => by simp only [decide_eq_true_eq] at *; exact List.le_trans h1 h2) (fun a b => by rcases List.le_total a b with h | h <;> simp [h]) zs
  exact this.imp fun h => by simpa using h

/-- What Keys does: those that the span has, sorted, each once. -/
theorem keys_eq (f t : ByteArray) (D : List ByteArray) :
    (Lib.compact (((D.filter fun x => hasB f t x).map ByteArray.toList).mergeSort fun x y => decide (x ≤ y))).map ofL = keysOf f t D := by
  refine keys_of ?_ fun z => ?_
  · rw [List.pairwise_map]
    refine (compact_rise _ (sort_le _)).imp fun {a b} h => ?_
    unfold L; rw [ltB_iff, ofL_toList, ofL_toList]; exact h
  · rw [List.mem_map]
    constructor
    · rintro ⟨x, hx, rfl⟩
      rw [compact_mem, (List.mergeSort_perm _ _).mem_iff, List.mem_map] at hx
      obtain ⟨y, hy, rfl⟩ := hx
      rw [ofL_of]
      exact List.mem_filter.1 hy
    · intro hz
      refine ⟨z.toList, ?_, ofL_of z⟩
      rw [compact_mem, (List.mergeSort_perm _ _).mem_iff, List.mem_map]
      exact ⟨z, List.mem_filter.2 hz, rfl⟩

end Go.Proofs.YtcdehnghggleoaaGreat.S5

/-
  A store's keys: as they are collected, as they are sorted, those of a span. No law is proved here.
-/
namespace Go.Proofs.YtcdehnghggleoaaGreat
open Go.RowKit Go.Maps
set_option linter.unusedVariables false

theorem strKeys_DL (l : List Ent) : strKeys (DL l) = l.map fun e => e.key.data.toList := by
  simp [strKeys, DL, strOf, Function.comp_def]
theorem ofL_data (k : ByteArray) : S5.ofL k.data.toList = k := by unfold S5.ofL; simp
theorem mem_keys {l : List Ent} {ss : List (List UInt8)} (h : ss.Perm (strKeys (DL l))) (z : ByteArray) : z ∈ ss.map S5.ofL ↔ ∃ e ∈ l, e.key = z := by
  rw [strKeys_DL] at h
  simp only [List.mem_map, h.mem_iff]
  constructor
  · rintro ⟨_, ⟨e, he, rfl⟩, rfl⟩
    exact ⟨e, he, (ofL_data _).symm⟩
  · rintro ⟨e, he, rfl⟩
    exact ⟨_, ⟨e, he, rfl⟩, ofL_data _⟩

/-- Those entries that a span has. -/
def inE (f t : ByteArray) (l : List Ent) : List Ent := l.filter fun e => S5.hasB f t e.key
theorem rise_inE {l : List Ent} (h : riseE l) (f t : ByteArray) : riseE (inE f t l) := h.filter _

theorem keysOf_DL {l : List Ent} (hr : riseE l) {ss : List (List UInt8)} (h : ss.Perm (strKeys (DL l))) (f t : ByteArray) : S5.keysOf f t (ss.map S5.ofL) = (inE f t l).map (·.key) := by
  refine (S5.keys_of ?_ fun z => ?_).symm
  · exact List.pairwise_map.2 (rise_inE hr f t)
  · rw [mem_keys h, List.mem_map]
    constructor
    · rintro ⟨e, he, rfl⟩
      obtain ⟨h1, h2⟩ := List.mem_filter.1 he
      exact ⟨⟨e, h1, rfl⟩, h2⟩
    · rintro ⟨⟨e, he, rfl⟩, h2⟩
      exact ⟨e, List.mem_filter.2 ⟨he, h2⟩, rfl⟩

theorem lt_data {a b : ByteArray} (h : S5.L a b) : a.data.toList < b.data.toList := by
  have := (S5.ltB_iff a b).1 h
  rwa [ByteArray.toList_eq, ByteArray.toList_eq] at this

theorem sort_DL {l : List Ent} (hr : riseE l) {ss : List (List UInt8)} (h : ss.Perm (strKeys (DL l))) : ss.mergeSort (fun x y => decide (x ≤ y)) = l.map fun e => e.key.data.toList := by
  have tr : ∀ a b c : List UInt8, leB a b = true → leB b c = true → leB a c = true := fun a b c h1 h2 => by simp only [leB, decide_eq_true_eq] at *; exact List.le_trans h1 h2
  have to : ∀ a b : List UInt8, (leB a b || leB b a) = true := fun a b => by simp only [leB, Bool.or_eq_true, decide_eq_true_eq]; exact List.le_total a b
  have hs : (l.map fun e => e.key.data.toList).Pairwise fun a b => leB a b = true := by
    refine List.pairwise_map.2 (hr.imp fun q => ?_)
    simp only [leB, decide_eq_true_eq]
    exact List.le_of_lt (lt_data q)
  rw [strKeys_DL] at h
  refine List.Perm.eq_of_pairwise (le := fun a b => leB a b = true) (fun a b _ _ h1 h2 => ?_) (List.pairwise_mergeSort tr to ss) hs ((List.mergeSort_perm ss leB).trans h)
  simp only [leB, decide_eq_true_eq] at h1 h2
  exact List.le_antisymm h1 h2

theorem enc_data (k : ByteArray) : encStr k.data.toList = .string k := by simp [encStr]

end Go.Proofs.YtcdehnghggleoaaGreat

/-
  Contracts of version's small functions. No law is proved here.
-/
namespace Go.Proofs.YtcdehnghggleoaaGreat
open Go.RowKit
set_option linter.unusedVariables false

section
set_option maxRecDepth 100000
set_option maxHeartbeats 1000000

theorem isown_any (ao : Option Addr) (n c : Nat) (o : Bool) (i : Itn) (id : Int) (w : World) :
    Calls Tryz.prog 76 #[(.agg #[.slice ao n c, .bool o, .int .i64 i.txn.id, .int .i64 i.txn.ep, .string i.txn.anchor, .int .i64 i.txn.start.1, .int .i64 i.txn.start.2, .int .i64 i.seq, .int .i64 i.at_.1, .int .i64 i.at_.2, .string i.val, .bool i.gone]), .int .i64 id] w fun e w' => e = .returned (.bool (o && decide (i.txn.id = id))) ∧ Below w.heap.size w w' := by
  cases o
  · go_enter Tryz.func76, Tryz.ntmps76
    go_wp2
    go_ret
    exact ⟨rfl, by go_grown⟩
  · go_enter Tryz.func76, Tryz.ntmps76
    go_wp2
    go_ret
    exact ⟨by simp [BEq.beq], by go_grown⟩

theorem isothers_any (ao : Option Addr) (n c : Nat) (o : Bool) (i : Itn) (id : Int) (w : World) :
    Calls Tryz.prog 67 #[(.agg #[.slice ao n c, .bool o, .int .i64 i.txn.id, .int .i64 i.txn.ep, .string i.txn.anchor, .int .i64 i.txn.start.1, .int .i64 i.txn.start.2, .int .i64 i.seq, .int .i64 i.at_.1, .int .i64 i.at_.2, .string i.val, .bool i.gone]), .int .i64 id] w fun e w' => e = .returned (.bool (o && decide (i.txn.id ≠ id))) ∧ Below w.heap.size w w' := by
  cases o
  · go_enter Tryz.func67, Tryz.ntmps67
    go_wp2
    go_ret
    exact ⟨rfl, by go_grown⟩
  · go_enter Tryz.func67, Tryz.ntmps67
    go_wp2
    go_ret
    exact ⟨by simp [bne, BEq.beq], by go_grown⟩

end

end Go.Proofs.YtcdehnghggleoaaGreat

/-
  Contracts of version's found, decided, slices.Equal over versions; struct equality. No law is proved here.
-/
namespace Go.Proofs.YtcdehnghggleoaaGreat
open Go.RowKit
set_option linter.unusedVariables false

section
set_option maxRecDepth 100000
set_option maxHeartbeats 1000000

/-- The version that an intent makes at a stamp. -/
def mkV (i : Itn) (a : Stp) : Ver := ⟨a, i.val, i.gone, i.txn.id⟩
/-- What Read answers where it ends at a version. -/
def foundV (v : Ver) : Ver × Bool × Met × Int := if v.gone = true then (Ver.zero, false, Met.zero, 0) else (v, true, Met.zero, 0)

theorem results_v {fn : Func} {k : Nat} (hf : fn.results = #[.cell k 97]) {tmps : Array Value} {w : World} {B : Nat} (v : Ver) (hk : tmps[k]? = some (.pointer (some ⟨B, 0, none⟩)))
    (h : Blk w B [.int .i64 v.at_.1, .int .i64 v.at_.2, .string v.val, .bool v.gone, .int .i64 v.by_]) : (results fn tmps).run Tryz.prog w = .ok (.agg #[.int .i64 v.at_.1, .int .i64 v.at_.2, .string v.val, .bool v.gone, .int .i64 v.by_]) w := by
  simp [results, hf, go_sem, h.c, hk]

theorem results_vbme {fn : Func} {k1 k2 k3 k4 : Nat} (hf : fn.results = #[.cell k1 97, .tmp k2, .cell k3 38, .tmp k4]) {tmps : Array Value} {w : World} {B C : Nat} (v : Ver) (m : Met) {x y : Value}
    (hk1 : tmps[k1]? = some (.pointer (some ⟨B, 0, none⟩))) (hk2 : tmps[k2]? = some x) (hk3 : tmps[k3]? = some (.pointer (some ⟨C, 0, none⟩))) (hk4 : tmps[k4]? = some y)
    (h : Blk w B [.int .i64 v.at_.1, .int .i64 v.at_.2, .string v.val, .bool v.gone, .int .i64 v.by_]) (k : Blk w C [.int .i64 m.id, .int .i64 m.ep, .string m.anchor, .int .i64 m.start.1, .int .i64 m.start.2]) : (results fn tmps).run Tryz.prog w = .ok (.tuple #[(.agg #[.int .i64 v.at_.1, .int .i64 v.at_.2, .string v.val, .bool v.gone, .int .i64 v.by_]), x, (.agg #[.int .i64 m.id, .int .i64 m.ep, .string m.anchor, .int .i64 m.start.1, .int .i64 m.start.2]), y]) w := by
  simp [results, hf, go_sem, h.c, k.c, hk1, hk2, hk3, hk4]

theorem results_me {fn : Func} {k3 k4 : Nat} (hf : fn.results = #[.cell k3 38, .tmp k4]) {tmps : Array Value} {w : World} {C : Nat} (m : Met) {y : Value}
    (hk3 : tmps[k3]? = some (.pointer (some ⟨C, 0, none⟩))) (hk4 : tmps[k4]? = some y) (k : Blk w C [.int .i64 m.id, .int .i64 m.ep, .string m.anchor, .int .i64 m.start.1, .int .i64 m.start.2]) : (results fn tmps).run Tryz.prog w = .ok (.tuple #[(.agg #[.int .i64 m.id, .int .i64 m.ep, .string m.anchor, .int .i64 m.start.1, .int .i64 m.start.2]), y]) w := by
  simp [results, hf, go_sem, k.c, hk3, hk4]

theorem decided_any (i : Itn) (a : Stp) (w : World) : Calls Tryz.prog 78 #[(.agg #[.int .i64 i.txn.id, .int .i64 i.txn.ep, .string i.txn.anchor, .int .i64 i.txn.start.1, .int .i64 i.txn.start.2, .int .i64 i.seq, .int .i64 i.at_.1, .int .i64 i.at_.2, .string i.val, .bool i.gone]), (.agg #[.int .i64 a.1, .int .i64 a.2])] w fun e w' => e = .returned (.agg #[.int .i64 (mkV i a).at_.1, .int .i64 (mkV i a).at_.2, .string (mkV i a).val, .bool (mkV i a).gone, .int .i64 (mkV i a).by_]) ∧ Below w.heap.size w w' := by
  go_enter Tryz.func78, Tryz.ntmps78
  go_wp2
  refine bodyPost_ret (v := (.agg #[.int .i64 (mkV i a).at_.1, .int .i64 (mkV i a).at_.2, .string (mkV i a).val, .bool (mkV i a).gone, .int .i64 (mkV i a).by_])) (by simp [results, Tryz.results78, go_sem, mkV]) rfl ⟨rfl, ?_⟩
  exact (((Below.refl _ _).alloc (Nat.le_refl _) _).alloc (by simp) _).alloc (by simp; omega) _

theorem found_any (v : Ver) (w : World) : Calls Tryz.prog 77 #[(.agg #[.int .i64 v.at_.1, .int .i64 v.at_.2, .string v.val, .bool v.gone, .int .i64 v.by_])] w fun e w' => e = .returned (.tuple #[(.agg #[.int .i64 (foundV v).1.at_.1, .int .i64 (foundV v).1.at_.2, .string (foundV v).1.val, .bool (foundV v).1.gone, .int .i64 (foundV v).1.by_]), .bool (foundV v).2.1, (.agg #[.int .i64 (foundV v).2.2.1.id, .int .i64 (foundV v).2.2.1.ep, .string (foundV v).2.2.1.anchor, .int .i64 (foundV v).2.2.1.start.1, .int .i64 (foundV v).2.2.1.start.2]), .int .i64 (foundV v).2.2.2]) ∧ Below w.heap.size w w' := by
  cases hg : v.gone
  · have e : foundV v = (v, true, Met.zero, 0) := by unfold foundV; rw [if_neg (by simp [hg])]
    rw [e]
    go_enter Tryz.func77, Tryz.ntmps77
    go_wp2
    refine bodyPost_ret (v := .tuple #[(.agg #[.int .i64 v.at_.1, .int .i64 v.at_.2, .string v.val, .bool v.gone, .int .i64 v.by_]), .bool true, (.agg #[.int .i64 Met.zero.id, .int .i64 Met.zero.ep, .string Met.zero.anchor, .int .i64 Met.zero.start.1, .int .i64 Met.zero.start.2]), .int .i64 0]) (by simp [results, Tryz.results77, go_sem, Met.zero, hg]) rfl ⟨rfl, ?_⟩
    exact (((Below.refl _ _).alloc (Nat.le_refl _) _).alloc (by simp) _).alloc (by simp; omega) _
  · have e : foundV v = (Ver.zero, false, Met.zero, 0) := by unfold foundV; rw [if_pos hg]
    rw [e]
    go_enter Tryz.func77, Tryz.ntmps77
    go_wp2
    refine bodyPost_ret (v := .tuple #[(.agg #[.int .i64 Ver.zero.at_.1, .int .i64 Ver.zero.at_.2, .string Ver.zero.val, .bool Ver.zero.gone, .int .i64 Ver.zero.by_]), .bool false, (.agg #[.int .i64 Met.zero.id, .int .i64 Met.zero.ep, .string Met.zero.anchor, .int .i64 Met.zero.start.1, .int .i64 Met.zero.start.2]), .int .i64 0]) (by simp [results, Tryz.results77, go_sem, Met.zero, Ver.zero]) rfl ⟨rfl, ?_⟩
    exact (((Below.refl _ _).alloc (Nat.le_refl _) _).alloc (by simp) _).alloc (by simp; omega) _

end

/-- Whether two versions are alike. -/
def sameV (u v : Ver) : Bool := decide (u.at_.1 = v.at_.1 ∧ u.at_.2 = v.at_.2 ∧ u.val.toList = v.val.toList ∧ u.gone = v.gone ∧ u.by_ = v.by_)

theorem eqlV (u v : Ver) (w : World) : (binOp .eql 97 (.agg #[.int .i64 u.at_.1, .int .i64 u.at_.2, .string u.val, .bool u.gone, .int .i64 u.by_]) (.agg #[.int .i64 v.at_.1, .int .i64 v.at_.2, .string v.val, .bool v.gone, .int .i64 v.by_])).run Tryz.prog w = .ok (.bool (sameV u v)) w := by
  unfold sameV
  by_cases h0 : u.at_.1 = v.at_.1 <;> by_cases h1 : u.at_.2 = v.at_.2 <;> by_cases h2 : u.val.toList = v.val.toList <;> by_cases h3 : u.gone = v.gone <;> by_cases h4 : u.by_ = v.by_ <;> simp [go_sem, h0, h1, h2, h3, h4]

end Go.Proofs.YtcdehnghggleoaaGreat

/-
  Struct equality: stamps, who a transaction is, intents, versions. No law is proved here.
-/
namespace Go.Proofs.YtcdehnghggleoaaGreat
open Go.RowKit
set_option linter.unusedVariables false

section
set_option maxRecDepth 100000
set_option maxHeartbeats 1000000

/-- Alike. -/
def sameS (u v : Stp) : Bool := decide (u.1 = v.1 ∧ u.2 = v.2)
/-- Alike. -/
def sameM (u v : Met) : Bool := decide (u.id = v.id ∧ u.ep = v.ep ∧ u.anchor.toList = v.anchor.toList ∧ u.start.1 = v.start.1 ∧ u.start.2 = v.start.2)
/-- Alike. -/
def sameI (u v : Itn) : Bool := decide (u.txn.id = v.txn.id ∧ u.txn.ep = v.txn.ep ∧ u.txn.anchor.toList = v.txn.anchor.toList ∧ u.txn.start.1 = v.txn.start.1 ∧ u.txn.start.2 = v.txn.start.2 ∧ u.seq = v.seq ∧ u.at_.1 = v.at_.1 ∧ u.at_.2 = v.at_.2 ∧ u.val.toList = v.val.toList ∧ u.gone = v.gone)

theorem eqlS (u v : Stp) (w : World) : (binOp .eql 36 (.agg #[.int .i64 u.1, .int .i64 u.2]) (.agg #[.int .i64 v.1, .int .i64 v.2])).run Tryz.prog w = .ok (.bool (sameS u v)) w := by
  unfold sameS
  by_cases h0 : u.1 = v.1
  case neg => simp [go_sem, h0]
  by_cases h1 : u.2 = v.2
  case neg => simp [go_sem, h0, h1]
  case pos => simp [go_sem, h0, h1]

theorem neqS (u v : Stp) (w : World) : (binOp .neq 36 (.agg #[.int .i64 u.1, .int .i64 u.2]) (.agg #[.int .i64 v.1, .int .i64 v.2])).run Tryz.prog w = .ok (.bool (!sameS u v)) w := by
  unfold sameS
  by_cases h0 : u.1 = v.1
  case neg => simp [go_sem, h0]
  by_cases h1 : u.2 = v.2
  case neg => simp [go_sem, h0, h1]
  case pos => simp [go_sem, h0, h1]

theorem eqlM (u v : Met) (w : World) : (binOp .eql 38 (.agg #[.int .i64 u.id, .int .i64 u.ep, .string u.anchor, .int .i64 u.start.1, .int .i64 u.start.2]) (.agg #[.int .i64 v.id, .int .i64 v.ep, .string v.anchor, .int .i64 v.start.1, .int .i64 v.start.2])).run Tryz.prog w = .ok (.bool (sameM u v)) w := by
  unfold sameM
  by_cases h0 : u.id = v.id
  case neg => simp [go_sem, h0]
  by_cases h1 : u.ep = v.ep
  case neg => simp [go_sem, h0, h1]
  by_cases h2 : u.anchor.toList = v.anchor.toList
  case neg => simp [go_sem, h0, h1, h2]
  by_cases h3 : u.start.1 = v.start.1
  case neg => simp [go_sem, h0, h1, h2, h3]
  by_cases h4 : u.start.2 = v.start.2
  case neg => simp [go_sem, h0, h1, h2, h3, h4]
  case pos => simp [go_sem, h0, h1, h2, h3, h4]

theorem neqM (u v : Met) (w : World) : (binOp .neq 38 (.agg #[.int .i64 u.id, .int .i64 u.ep, .string u.anchor, .int .i64 u.start.1, .int .i64 u.start.2]) (.agg #[.int .i64 v.id, .int .i64 v.ep, .string v.anchor, .int .i64 v.start.1, .int .i64 v.start.2])).run Tryz.prog w = .ok (.bool (!sameM u v)) w := by
  unfold sameM
  by_cases h0 : u.id = v.id
  case neg => simp [go_sem, h0]
  by_cases h1 : u.ep = v.ep
  case neg => simp [go_sem, h0, h1]
  by_cases h2 : u.anchor.toList = v.anchor.toList
  case neg => simp [go_sem, h0, h1, h2]
  by_cases h3 : u.start.1 = v.start.1
  case neg => simp [go_sem, h0, h1, h2, h3]
  by_cases h4 : u.start.2 = v.start.2
  case neg => simp [go_sem, h0, h1, h2, h3, h4]
  case pos => simp [go_sem, h0, h1, h2, h3, h4]

theorem eqlI (u v : Itn) (w : World) : (binOp .eql 42 (.agg #[.int .i64 u.txn.id, .int .i64 u.txn.ep, .string u.txn.anchor, .int .i64 u.txn.start.1, .int .i64 u.txn.start.2, .int .i64 u.seq, .int .i64 u.at_.1, .int .i64 u.at_.2, .string u.val, .bool u.gone]) (.agg #[.int .i64 v.txn.id, .int .i64 v.txn.ep, .string v.txn.anchor, .int .i64 v.txn.start.1, .int .i64 v.txn.start.2, .int .i64 v.seq, .int .i64 v.at_.1, .int .i64 v.at_.2, .string v.val, .bool v.gone])).run Tryz.prog w = .ok (.bool (sameI u v)) w := by
  unfold sameI
  by_cases h0 : u.txn.id = v.txn.id
  case neg => simp [go_sem, h0]
  by_cases h1 : u.txn.ep = v.txn.ep
  case neg => simp [go_sem, h0, h1]
  by_cases h2 : u.txn.anchor.toList = v.txn.anchor.toList
  case neg => simp [go_sem, h0, h1, h2]
  by_cases h3 : u.txn.start.1 = v.txn.start.1
  case neg => simp [go_sem, h0, h1, h2, h3]
  by_cases h4 : u.txn.start.2 = v.txn.start.2
  case neg => simp [go_sem, h0, h1, h2, h3, h4]
  by_cases h5 : u.seq = v.seq
  case neg => simp [go_sem, h0, h1, h2, h3, h4, h5]
  by_cases h6 : u.at_.1 = v.at_.1
  case neg => simp [go_sem, h0, h1, h2, h3, h4, h5, h6]
  by_cases h7 : u.at_.2 = v.at_.2
  case neg => simp [go_sem, h0, h1, h2, h3, h4, h5, h6, h7]
  by_cases h8 : u.val.toList = v.val.toList
  case neg => simp [go_sem, h0, h1, h2, h3, h4, h5, h6, h7, h8]
  by_cases h9 : u.gone = v.gone
  case neg => simp [go_sem, h0, h1, h2, h3, h4, h5, h6, h7, h8, h9]
  case pos => simp [go_sem, h0, h1, h2, h3, h4, h5, h6, h7, h8, h9]

theorem neqI (u v : Itn) (w : World) : (binOp .neq 42 (.agg #[.int .i64 u.txn.id, .int .i64 u.txn.ep, .string u.txn.anchor, .int .i64 u.txn.start.1, .int .i64 u.txn.start.2, .int .i64 u.seq, .int .i64 u.at_.1, .int .i64 u.at_.2, .string u.val, .bool u.gone]) (.agg #[.int .i64 v.txn.id, .int .i64 v.txn.ep, .string v.txn.anchor, .int .i64 v.txn.start.1, .int .i64 v.txn.start.2, .int .i64 v.seq, .int .i64 v.at_.1, .int .i64 v.at_.2, .string v.val, .bool v.gone])).run Tryz.prog w = .ok (.bool (!sameI u v)) w := by
  unfold sameI
  by_cases h0 : u.txn.id = v.txn.id
  case neg => simp [go_sem, h0]
  by_cases h1 : u.txn.ep = v.txn.ep
  case neg => simp [go_sem, h0, h1]
  by_cases h2 : u.txn.anchor.toList = v.txn.anchor.toList
  case neg => simp [go_sem, h0, h1, h2]
  by_cases h3 : u.txn.start.1 = v.txn.start.1
  case neg => simp [go_sem, h0, h1, h2, h3]
  by_cases h4 : u.txn.start.2 = v.txn.start.2
  case neg => simp [go_sem, h0, h1, h2, h3, h4]
  by_cases h5 : u.seq = v.seq
  case neg => simp [go_sem, h0, h1, h2, h3, h4, h5]
  by_cases h6 : u.at_.1 = v.at_.1
  case neg => simp [go_sem, h0, h1, h2, h3, h4, h5, h6]
  by_cases h7 : u.at_.2 = v.at_.2
  case neg => simp [go_sem, h0, h1, h2, h3, h4, h5, h6, h7]
  by_cases h8 : u.val.toList = v.val.toList
  case neg => simp [go_sem, h0, h1, h2, h3, h4, h5, h6, h7, h8]
  by_cases h9 : u.gone = v.gone
  case neg => simp [go_sem, h0, h1, h2, h3, h4, h5, h6, h7, h8, h9]
  case pos => simp [go_sem, h0, h1, h2, h3, h4, h5, h6, h7, h8, h9]

theorem neqV (u v : Ver) (w : World) : (binOp .neq 97 (.agg #[.int .i64 u.at_.1, .int .i64 u.at_.2, .string u.val, .bool u.gone, .int .i64 u.by_]) (.agg #[.int .i64 v.at_.1, .int .i64 v.at_.2, .string v.val, .bool v.gone, .int .i64 v.by_])).run Tryz.prog w = .ok (.bool (!sameV u v)) w := by
  unfold sameV
  by_cases h0 : u.at_.1 = v.at_.1
  case neg => simp [go_sem, h0]
  by_cases h1 : u.at_.2 = v.at_.2
  case neg => simp [go_sem, h0, h1]
  by_cases h2 : u.val.toList = v.val.toList
  case neg => simp [go_sem, h0, h1, h2]
  by_cases h3 : u.gone = v.gone
  case neg => simp [go_sem, h0, h1, h2, h3]
  by_cases h4 : u.by_ = v.by_
  case neg => simp [go_sem, h0, h1, h2, h3, h4]
  case pos => simp [go_sem, h0, h1, h2, h3, h4]

end

theorem bytes_eq {a b : ByteArray} (h : a.toList = b.toList) : a = b := by
  rw [ByteArray.toList_eq, ByteArray.toList_eq] at h
  obtain ⟨⟨x⟩⟩ := a
  obtain ⟨⟨y⟩⟩ := b
  simp at h
  rw [h]

theorem sameS_iff (u v : Stp) : sameS u v = true ↔ u = v := by
  unfold sameS
  obtain ⟨a, b⟩ := u
  obtain ⟨c, d⟩ := v
  simp
theorem sameM_iff (u v : Met) : sameM u v = true ↔ u = v := by
  unfold sameM
  obtain ⟨a, b, c, d, e⟩ := u
  obtain ⟨a', b', c', d', e'⟩ := v
  simp only [decide_eq_true_eq, Met.mk.injEq, Prod.mk.injEq]
  constructor
  · rintro ⟨h1, h2, h3, h4, h5⟩; exact ⟨h1, h2, bytes_eq h3, h4, h5⟩
  · rintro ⟨h1, h2, h3, h4, h5⟩; exact ⟨h1, h2, by rw [h3], h4, h5⟩
theorem sameI_iff (u v : Itn) : sameI u v = true ↔ u = v := by
  have hm := sameM_iff u.txn v.txn
  unfold sameM at hm
  unfold sameI
  obtain ⟨t, s, a, b, c⟩ := u
  obtain ⟨t', s', a', b', c'⟩ := v
  simp only [decide_eq_true_eq, Itn.mk.injEq] at *
  rw [← hm]
  constructor
  · rintro ⟨h1, h2, h3, h4, h5, h6, h7, h8, h9, h10⟩; exact ⟨⟨h1, h2, h3, h4, h5⟩, h6, Prod.ext h7 h8, bytes_eq h9, h10⟩
  · rintro ⟨⟨h1, h2, h3, h4, h5⟩, h6, h7, h9, h10⟩; exact ⟨h1, h2, h3, h4, h5, h6, by rw [h7], by rw [h7], by rw [h9], h10⟩
theorem sameV_iff (u v : Ver) : sameV u v = true ↔ u = v := by
  unfold sameV
  obtain ⟨a, b, c, d⟩ := u
  obtain ⟨a', b', c', d'⟩ := v
  simp only [decide_eq_true_eq, Ver.mk.injEq]
  constructor
  · rintro ⟨h1, h2, h3, h4, h5⟩; exact ⟨Prod.ext h1 h2, bytes_eq h3, h4, h5⟩
  · rintro ⟨h1, h2, h3, h4⟩; exact ⟨by rw [h1], by rw [h1], by rw [h2], h3, h4⟩
theorem sameI_self (u : Itn) : sameI u u = true := (sameI_iff u u).2 rfl
theorem sameM_self (u : Met) : sameM u u = true := (sameM_iff u u).2 rfl
theorem sameS_self (u : Stp) : sameS u u = true := (sameS_iff u u).2 rfl
theorem sameV_self (u : Ver) : sameV u u = true := (sameV_iff u u).2 rfl

/-- Two rows of versions are alike. -/
def sameVs : List Ver → List Ver → Bool
  | [], [] => true
  | u :: us, v :: vs => sameV u v && sameVs us vs
  | _, _ => false
theorem sameVs_iff : ∀ (us vs : List Ver), sameVs us vs = true ↔ us = vs
  | [], [] => by simp [sameVs]
  | [], _ :: _ => by simp [sameVs]
  | _ :: _, [] => by simp [sameVs]
  | u :: us, v :: vs => by rw [sameVs, Bool.and_eq_true, sameV_iff, sameVs_iff us vs]; simp
/-- They differ where a place differs. -/
theorem sameVs_not {us vs : List Ver} (k : Nat) (h1 : k < us.length) (h2 : k < vs.length) (h : sameV us[k] vs[k] = false) : sameVs us vs = false := by
  cases hh : sameVs us vs
  · rfl
  · have := (sameVs_iff us vs).1 hh
    subst this
    rw [sameV_self] at h
    cases h
theorem sameVs_len {us vs : List Ver} (h : us.length ≠ vs.length) : sameVs us vs = false := by
  cases hh : sameVs us vs
  · rfl
  · have := (sameVs_iff us vs).1 hh
    subst this
    exact absurd rfl h
/-- They are alike where all places are. -/
theorem sameVs_all {us vs : List Ver} (hl : us.length = vs.length) (h : ∀ k (h1 : k < us.length) (h2 : k < vs.length), sameV us[k] vs[k] = true) : sameVs us vs = true := by
  rw [sameVs_iff]
  exact List.ext_getElem hl fun k h1 h2 => (sameV_iff _ _).1 (h k h1 h2)
/-- Two chains are alike. -/
def sameC (a b : Chn) : Bool := (a.opn == b.opn) && sameI a.itn b.itn && sameVs a.vs b.vs
theorem sameC_iff (a b : Chn) : sameC a b = true ↔ a = b := by
  unfold sameC
  rw [Bool.and_eq_true, Bool.and_eq_true, sameVs_iff, sameI_iff]
  obtain ⟨x, y, z⟩ := a
  obtain ⟨x', y', z'⟩ := b
  simp
  constructor
  · rintro ⟨⟨h1, h2⟩, h3⟩; exact ⟨h3, h1, h2⟩
  · rintro ⟨h3, h1, h2⟩; exact ⟨⟨h1, h2⟩, h3⟩

end Go.Proofs.YtcdehnghggleoaaGreat

/-
  Contracts of slices.Equal over versions, version.Same, the document's Same. No law is proved here.
-/
namespace Go.Proofs.YtcdehnghggleoaaGreat
open Go.RowKit
set_option linter.unusedVariables false

theorem Vs.split {w : World} {ao : Option Addr} {c : Nat} {vs : List Ver} (h : Vs w ao c vs) : vs = [] ∨ ∃ b o, ao = some ⟨b, o, none⟩ ∧ b < w.heap.size ∧ ∀ i (h : i < vs.length), VAt w b (o + i * 5) vs[i] := by
  match vs, h with
  | [], _ => exact .inl rfl
  | v :: r, h =>
    right
    obtain ⟨b, o, e, hv⟩ := h.each 0 (by simp)
    refine ⟨b, o, e, hv.lt, fun i hi => ?_⟩
    obtain ⟨b', o', e', hv'⟩ := h.each i hi
    rw [e] at e'
    injection e' with e'
    injection e' with h1 h2
    subst h1 h2
    exact hv'

section
set_option maxRecDepth 100000
set_option maxHeartbeats 1000000

theorem refsame_any (ao bo : Option Addr) (c d : Nat) (us vs : List Ver) (o p : Bool) (i j : Itn) (w : World) (hu : Vs w ao c us) (hv : Vs w bo d vs) :
    Calls Tryz.prog 29 #[(.agg #[.slice ao us.length c, .bool o, .int .i64 i.txn.id, .int .i64 i.txn.ep, .string i.txn.anchor, .int .i64 i.txn.start.1, .int .i64 i.txn.start.2, .int .i64 i.seq, .int .i64 i.at_.1, .int .i64 i.at_.2, .string i.val, .bool i.gone]), (.agg #[.slice bo vs.length d, .bool p, .int .i64 j.txn.id, .int .i64 j.txn.ep, .string j.txn.anchor, .int .i64 j.txn.start.1, .int .i64 j.txn.start.2, .int .i64 j.seq, .int .i64 j.at_.1, .int .i64 j.at_.2, .string j.val, .bool j.gone])] w fun e w' => e = .returned (.bool (sameC ⟨us, o, i⟩ ⟨vs, p, j⟩)) ∧ Below w.heap.size w w' := by
  have l1 := hu.len
  have l2 := hv.len
  simp only [maxLen] at l1 l2
  have q := neqI i j
  unfold sameC
  simp only
  have main : ∀ z, (z = (o == p && sameI i j && sameVs us vs)) → Calls Tryz.prog 29 #[(.agg #[.slice ao us.length c, .bool o, .int .i64 i.txn.id, .int .i64 i.txn.ep, .string i.txn.anchor, .int .i64 i.txn.start.1, .int .i64 i.txn.start.2, .int .i64 i.seq, .int .i64 i.at_.1, .int .i64 i.at_.2, .string i.val, .bool i.gone]), (.agg #[.slice bo vs.length d, .bool p, .int .i64 j.txn.id, .int .i64 j.txn.ep, .string j.txn.anchor, .int .i64 j.txn.start.1, .int .i64 j.txn.start.2, .int .i64 j.seq, .int .i64 j.at_.1, .int .i64 j.at_.2, .string j.val, .bool j.gone])] w fun e w' => e = .returned (.bool z) ∧ Below w.heap.size w w' := by
    intro z hz
    by_cases hop : o = p
    case neg =>
      have e : z = false := by rw [hz, show (o == p) = false by simp [hop]]; rfl
      subst e
      generalize us.length = m at *
      generalize vs.length = n at *
      clear hz hu hv
      cases o <;> cases p
      case false.false => exact absurd rfl hop
      case true.true => exact absurd rfl hop
      all_goals
        go_enter Tryz.func29, Tryz.ntmps29
        go_wp2
        go_ret
        exact ⟨rfl, ((Below.refl _ _).alloc (Nat.le_refl _) _).alloc (by simp) _⟩
    case pos =>
    subst hop
    have hoo : (o != o) = false := by simp
    cases hs : sameI i j
    · have e : z = false := by rw [hz, hs]; simp
      subst e
      rw [hs] at q
      clear hs hz
      generalize us.length = m at *
      generalize vs.length = n at *
      clear hu hv
      cases o
      all_goals
        go_enter Tryz.func29, Tryz.ntmps29
        go_wp2
        go_ret
        exact ⟨rfl, ((Below.refl _ _).alloc (Nat.le_refl _) _).alloc (by simp) _⟩
    rw [hs] at q
    rw [hs, show (o == o) = true by simp] at hz
    simp only [Bool.true_and] at hz
    clear hs
    by_cases hl : us.length = vs.length
    case neg =>
      have e : z = false := by rw [hz]; exact sameVs_len hl
      subst e
      have hl' : ((us.length : Int) == (vs.length : Int)) = false := by rw [beq_eq_false_iff_ne]; omega
      clear hl hz
      generalize us.length = m at *
      generalize vs.length = n at *
      clear hu hv
      cases o
      all_goals
        go_enter Tryz.func29, Tryz.ntmps29
        go_wp2
        go_ret
        exact ⟨rfl, ((Below.refl _ _).alloc (Nat.le_refl _) _).alloc (by simp) _⟩
    case pos =>
    have HR := hide hz
    obtain ⟨n, hn⟩ : ∃ n, us.length = n := ⟨_, rfl⟩
    have Hn := hide (And.intro hn (hl.symm.trans hn))
    rw [← hl]
    rw [hn] at l1 ⊢
    have Hu := hide hu
    have Hv := hide hv
    have B0 := Blk.new w #[.slice ao n c, .bool o, .int .i64 i.txn.id, .int .i64 i.txn.ep, .string i.txn.anchor, .int .i64 i.txn.start.1, .int .i64 i.txn.start.2, .int .i64 i.seq, .int .i64 i.at_.1, .int .i64 i.at_.2, .string i.val, .bool i.gone] 61
    have B1 := Blk.new (w.alloc (.cells #[.slice ao n c, .bool o, .int .i64 i.txn.id, .int .i64 i.txn.ep, .string i.txn.anchor, .int .i64 i.txn.start.1, .int .i64 i.txn.start.2, .int .i64 i.seq, .int .i64 i.at_.1, .int .i64 i.at_.2, .string i.val, .bool i.gone] 61)) #[.slice bo n d, .bool o, .int .i64 j.txn.id, .int .i64 j.txn.ep, .string j.txn.anchor, .int .i64 j.txn.start.1, .int .i64 j.txn.start.2, .int .i64 j.seq, .int .i64 j.at_.1, .int .i64 j.at_.2, .string j.val, .bool j.gone] 61
    replace B0 := B0.alloc (.cells #[.slice bo n d, .bool o, .int .i64 j.txn.id, .int .i64 j.txn.ep, .string j.txn.anchor, .int .i64 j.txn.start.1, .int .i64 j.txn.start.2, .int .i64 j.seq, .int .i64 j.at_.1, .int .i64 j.at_.2, .string j.val, .bool j.gone] 61)
    rw [show (w.alloc (.cells #[.slice ao n c, .bool o, .int .i64 i.txn.id, .int .i64 i.txn.ep, .string i.txn.anchor, .int .i64 i.txn.start.1, .int .i64 i.txn.start.2, .int .i64 i.seq, .int .i64 i.at_.1, .int .i64 i.at_.2, .string i.val, .bool i.gone] 61)).heap.size = w.heap.size + 1 by simp] at B1
    have Hw := hide (And.intro B0 B1)
    have HW : Hid (Below w.heap.size w ((w.alloc (.cells #[.slice ao n c, .bool o, .int .i64 i.txn.id, .int .i64 i.txn.ep, .string i.txn.anchor, .int .i64 i.txn.start.1, .int .i64 i.txn.start.2, .int .i64 i.seq, .int .i64 i.at_.1, .int .i64 i.at_.2, .string i.val, .bool i.gone] 61)).alloc (.cells #[.slice bo n d, .bool o, .int .i64 j.txn.id, .int .i64 j.txn.ep, .string j.txn.anchor, .int .i64 j.txn.start.1, .int .i64 j.txn.start.2, .int .i64 j.seq, .int .i64 j.at_.1, .int .i64 j.at_.2, .string j.val, .bool j.gone] 61))) := hide (((Below.refl _ _).alloc (Nat.le_refl _) _).alloc (by simp) _)
    clear hl hu hv l2 hn hz B0 B1
    go_enter Tryz.func29, Tryz.ntmps29
    cases o
    all_goals
      go_wp2
      generalize ((w.alloc _).alloc _) = W at *
      go_loopw [5] (fun u wr => ∃ k : Nat, u = .int .i64 k ∧ k ≤ n ∧ Hid (∀ j (h1 : j < us.length) (h2 : j < vs.length), j < k → sameV us[j] vs[j] = true) ∧ Hid (Below W.heap.size W wr)) (fun u _ => n - (intOf u).toNat)
      case atStart => exact ⟨0, rfl, by omega, (fun j _ _ h => absurd h (Nat.not_lt_zero _)), Below.refl _ _⟩
      case round =>
        obtain ⟨k, rfl, hk, Ha, Hb⟩ := hrel
        have b0 := (unhide Hw).1.later (unhide Hb)
        have b1 := (unhide Hw).2.later (unhide Hb)
        have x0 := b0.c 0
        have y0 := b1.c 0
        simp at x0 y0
        clear b0 b1
        by_cases hlt : k < n
        · have h1 : k < us.length := by have := (unhide Hn).1; omega
          have h2 : k < vs.length := by have := (unhide Hn).2; omega
          have A := (unhide Hu).each k h1
          have C := (unhide Hv).each k h2
          obtain ⟨b, o, ea, x⟩ := A
          obtain ⟨b', o', eb, y⟩ := C
          have HWW := unhide HW
          have lx : b < W.heap.size := Nat.lt_of_lt_of_le x.lt HWW.size
          have ly : b' < W.heap.size := Nat.lt_of_lt_of_le y.lt HWW.size
          replace x := (x.block (HWW.block _ x.lt)).block ((unhide Hb).block _ lx)
          replace y := (y.block (HWW.block _ y.lt)).block ((unhide Hb).block _ ly)
          rw [ea] at x0
          rw [eb] at y0
          clear ea eb HWW lx ly
          obtain ⟨u, hu0⟩ : ∃ u, us[k] = u := ⟨_, rfl⟩
          obtain ⟨v, hv0⟩ : ∃ v, vs[k] = v := ⟨_, rfl⟩
          rw [hu0] at x
          rw [hv0] at y
          have Hs := hide (And.intro hu0 hv0)
          obtain ⟨x1, x2, x3, x4, x5⟩ := x
          obtain ⟨y1, y2, y3, y4, y5⟩ := y
          clear hu0 hv0
          have qv := neqV u v
          cases hq : sameV u v
          · rw [hq] at qv
            have Hq := hide hq
            clear hq
            go_wp2_with fail
            go_quiet (fail)
            go_wp2
            go_ret
            refine ⟨?_, (unhide HW).trans ((bdn (unhide Hb) _).mono (unhide HW).size)⟩
            obtain ⟨e1, e2⟩ := unhide Hs
            rw [unhide HR, sameVs_not k h1 h2 (by rw [e1, e2]; exact unhide Hq)]
            rfl
          · rw [hq] at qv
            have Hq := hide hq
            clear hq
            go_wp2_with fail
            go_quiet (fail)
            go_wp2
            go_roundw
            case rel =>
              refine ⟨k + 1, by go_num, by omega, (fun j a b hj => ?_), bdn (unhide Hb) _⟩
              by_cases e : j = k
              · subst e
                obtain ⟨e1, e2⟩ := unhide Hs
                rw [e1, e2]; exact unhide Hq
              · exact unhide Ha j a b (by omega)
            case measure => simp [intOf]; omega
        · go_wp2
          go_ret
          refine ⟨?_, (unhide HW).trans ((unhide Hb).mono (unhide HW).size)⟩
          obtain ⟨e1, e2⟩ := unhide Hn
          rw [unhide HR, sameVs_all (e1.trans e2.symm) (fun j a b => unhide Ha j a b (by omega))]
          rfl
  exact main _ rfl
end

end Go.Proofs.YtcdehnghggleoaaGreat

/-
  Contracts of version.fits, version.Right. No law is proved here.
-/
namespace Go.Proofs.YtcdehnghggleoaaGreat
open Go.RowKit
set_option linter.unusedVariables false

/-- A stamp may come behind those versions. -/
def fitB (vs : List Ver) (s : Stp) : Bool := okS s && (match lastS vs with | none => true | some l => ltB l s)
theorem fitB_iff (vs : List Ver) (s : Stp) : fitB vs s = true ↔ okS s = true ∧ ∀ l, lastS vs = some l → ltB l s = true := by
  unfold fitB
  rw [Bool.and_eq_true]
  cases lastS vs with
  | none => simp
  | some l => simp
theorem rise_step (vs : List Ver) (k : Nat) (h : k < vs.length) : riseB (vs.take (k + 1)) = (riseB (vs.take k) && fitB (vs.take k) vs[k].at_) := by
  rw [List.take_succ_eq_append_getElem h, Bool.eq_iff_iff, rise_snoc, Bool.and_eq_true, fitB_iff]
theorem rise_pre {vs : List Ver} (h : riseB vs = true) : ∀ k, riseB (vs.take k) = true := by
  have aux : ∀ d k, vs.length - k = d → k ≤ vs.length → riseB (vs.take k) = true := by
    intro d
    induction d with
    | zero => intro k hk hl; rw [List.take_of_length_le (by omega)]; exact h
    | succ d ih =>
      intro k hk hl
      have := ih (k + 1) (by omega) (by omega)
      rw [rise_step vs k (by omega), Bool.and_eq_true] at this
      exact this.1
  intro k
  by_cases hk : k ≤ vs.length
  · exact aux _ k rfl hk
  · rw [List.take_of_length_le (by omega)]; exact h
theorem rise_not {vs : List Ver} {k : Nat} (h : riseB (vs.take k) = false) : riseB vs = false := by
  cases hh : riseB vs
  · rfl
  · rw [rise_pre hh k] at h; cases h
theorem lastS_at (vs : List Ver) (m : Nat) (h : vs.length = m + 1) : lastS vs = some (vs[m]'(by omega)).at_ := by
  unfold lastS
  rw [List.getLast?_eq_getElem?]
  simp [h]

/-- Whether a chain is right. -/
def rightCB (c : Chn) : Bool := riseB c.vs && (if c.opn = true then fitB c.vs c.itn.at_ else sameI c.itn Itn.zero)
theorem rightCB_iff (c : Chn) : rightCB c = true ↔ rightC c := by
  unfold rightCB rightC
  rw [Bool.and_eq_true]
  cases h : c.opn
  · simp [sameI_iff]
  · simp [fitB_iff]

section
set_option maxRecDepth 100000
set_option maxHeartbeats 1000000

theorem eqlI0 (i : Itn) (w : World) : (binOp .eql 42 (.agg #[.int .i64 i.txn.id, .int .i64 i.txn.ep, .string i.txn.anchor, .int .i64 i.txn.start.1, .int .i64 i.txn.start.2, .int .i64 i.seq, .int .i64 i.at_.1, .int .i64 i.at_.2, .string i.val, .bool i.gone]) (.agg #[.int .i64 0, .int .i64 0, .string ⟨#[]⟩, .int .i64 0, .int .i64 0, .int .i64 0, .int .i64 0, .int .i64 0, .string ⟨#[]⟩, .bool false])).run Tryz.prog w = .ok (.bool (sameI i Itn.zero)) w := eqlI i Itn.zero w

theorem fits_any (ao : Option Addr) (c : Nat) (vs : List Ver) (s : Stp) (w : World) (h : Vs w ao c vs) :
    Calls Tryz.prog 54 #[.slice ao vs.length c, (.agg #[.int .i64 s.1, .int .i64 s.2])] w fun e w' => e = .returned (.bool (fitB vs s)) ∧ Below w.heap.size w w' := by
  have l1 := h.len
  simp only [maxLen] at l1
  have hR := fun w => right_any s.1 s.2 w
  rw [right_eq] at hR
  unfold fitB
  have inst : ∀ W : World, Nonempty (Later W) := fun W => ⟨⟨W, Below.refl _ _⟩⟩
  have nw := fun (w : World) => Blk.new w #[.int .i64 s.1, .int .i64 s.2] 36
  have hB : Below w.heap.size w (w.alloc (.cells #[.int .i64 s.1, .int .i64 s.2] 36)) := (Below.refl _ _).alloc (Nat.le_refl _) _
  cases hs : okS s
  · rw [hs] at hR
    clear hs
    rw [Bool.false_and]
    generalize vs.length = n at *
    have N := nw w
    clear nw
    go_enter Tryz.func54, Tryz.ntmps54
    go_wp2_with fail
    generalize w.alloc _ = W at *
    have k0 := fun i : Later W => (N.later i.below).c 0
    have k1 := fun i : Later W => (N.later i.below).c 1
    simp only [List.getElem?_cons_zero, List.getElem?_cons_succ] at k0 k1
    have ii := inst W
    refine wp_region_later (by kernel_rfl) (by kernel_rfl) ?_
    repeat (first
      | go_big_quiet_step ((go_at_call 87; exact calls_later (hR _)))
      | quiet_step (fail))
    refine wpQuiet_nil ?_
    intro w' hw'
    obtain ⟨⟨W2, hb2⟩, rfl⟩ := hw'
    go_wp2
    go_ret
    exact ⟨rfl, hB.trans (hb2.mono hB.size)⟩
  · rw [hs] at hR
    clear hs
    rw [Bool.true_and]
    rcases h.split with rfl | ⟨b, o, rfl, hb, hv⟩
    · have N := nw w
      clear nw
      have e : (match lastS [] with | none => true | some l => ltB l s) = true := rfl
      rw [e]
      clear e
      go_enter Tryz.func54, Tryz.ntmps54
      go_wp2_with fail
      generalize w.alloc _ = W at *
      have k0 := fun i : Later W => (N.later i.below).c 0
      have k1 := fun i : Later W => (N.later i.below).c 1
      simp only [List.getElem?_cons_zero, List.getElem?_cons_succ] at k0 k1
      have ii := inst W
      refine wp_region_later (by kernel_rfl) (by kernel_rfl) ?_
      repeat (first
        | go_big_quiet_step ((go_at_call 87; exact calls_later (hR _)))
        | quiet_step (fail))
      refine wpQuiet_nil ?_
      intro w' hw'
      obtain ⟨⟨W2, hb2⟩, rfl⟩ := hw'
      go_wp2
      go_ret
      exact ⟨rfl, hB.trans (hb2.mono hB.size)⟩
    · rcases Nat.eq_zero_or_pos vs.length with h0 | h0
      · have e : vs = [] := List.eq_nil_of_length_eq_zero h0
        subst e
        have N := nw w
        clear nw
        have e : (match lastS [] with | none => true | some l => ltB l s) = true := rfl
        rw [e]
        clear e
        go_enter Tryz.func54, Tryz.ntmps54
        go_wp2_with fail
        generalize w.alloc _ = W at *
        have k0 := fun i : Later W => (N.later i.below).c 0
        have k1 := fun i : Later W => (N.later i.below).c 1
        simp only [List.getElem?_cons_zero, List.getElem?_cons_succ] at k0 k1
        have ii := inst W
        refine wp_region_later (by kernel_rfl) (by kernel_rfl) ?_
        repeat (first
          | go_big_quiet_step ((go_at_call 87; exact calls_later (hR _)))
          | quiet_step (fail))
        refine wpQuiet_nil ?_
        intro w' hw'
        obtain ⟨⟨W2, hb2⟩, rfl⟩ := hw'
        go_wp2
        go_ret
        exact ⟨rfl, hB.trans (hb2.mono hB.size)⟩
      · obtain ⟨m, hm⟩ : ∃ m, vs.length = m + 1 := ⟨vs.length - 1, by omega⟩
        have e : (match lastS vs with | none => true | some l => ltB l s) = ltB (vs[m]'(by omega)).at_ s := by rw [lastS_at vs m hm]
        rw [e]
        clear e
        have x := (hv m (by omega)).block (hB.block b hb)
        obtain ⟨v, hv0⟩ : ∃ v, vs[m]'(by omega) = v := ⟨_, rfl⟩
        rw [hv0] at x ⊢
        clear hv0
        rw [hm] at l1 ⊢
        have hL := fun w => less_any v.at_.1 v.at_.2 s.1 s.2 w
        rw [less_eq] at hL
        generalize ltB v.at_ s = z at *
        have hm0 : (((m : Int) + 1) == 0) = false := by rw [beq_eq_false_iff_ne]; omega
        have N := nw w
        clear nw hm h0 h hv hb
        go_enter Tryz.func54, Tryz.ntmps54
        go_wp2_with fail
        generalize w.alloc _ = W at *
        have k0 := fun i : Later W => (N.later i.below).c 0
        have k1 := fun i : Later W => (N.later i.below).c 1
        have k2 := fun i : Later W => i.cell x.c0
        have k3 := fun i : Later W => i.cell x.c1
        simp only [List.getElem?_cons_zero, List.getElem?_cons_succ] at k0 k1
        have ii := inst W
        refine wp_region_later (by kernel_rfl) (by kernel_rfl) ?_
        repeat (first
          | go_big_quiet_step ((first | (go_at_call 87; exact calls_later (hR _)) | (go_at_call 81; exact calls_later (hL _))))
          | quiet_step (fail))
        refine wpQuiet_nil ?_
        intro w' hw'
        obtain ⟨⟨W2, hb2⟩, rfl⟩ := hw'
        go_wp2
        go_ret
        exact ⟨rfl, hB.trans (hb2.mono hB.size)⟩

theorem right_c (ao : Option Addr) (c : Nat) (vs : List Ver) (o : Bool) (i : Itn) (w : World) (h : Vs w ao c vs) :
    Calls Tryz.prog 19 #[(.agg #[.slice ao vs.length c, .bool o, .int .i64 i.txn.id, .int .i64 i.txn.ep, .string i.txn.anchor, .int .i64 i.txn.start.1, .int .i64 i.txn.start.2, .int .i64 i.seq, .int .i64 i.at_.1, .int .i64 i.at_.2, .string i.val, .bool i.gone])] w fun e w' => e = .returned (.bool (rightCB ⟨vs, o, i⟩)) ∧ Below w.heap.size w w' := by
  have l1 := h.len
  have l2 := h.le
  have l3 := h.cm
  simp only [maxLen] at l1 l3
  obtain ⟨z, hz⟩ : ∃ z, z = rightCB ⟨vs, o, i⟩ := ⟨_, rfl⟩
  rw [← hz]
  have Hz := hide hz
  have Hv := hide h
  obtain ⟨n, hn⟩ : ∃ n, vs.length = n := ⟨_, rfl⟩
  have Hn := hide hn
  rw [hn] at l1 l2 ⊢
  have hB : Below w.heap.size w (w.alloc (.cells #[.slice ao n c, .bool o, .int .i64 i.txn.id, .int .i64 i.txn.ep, .string i.txn.anchor, .int .i64 i.txn.start.1, .int .i64 i.txn.start.2, .int .i64 i.seq, .int .i64 i.at_.1, .int .i64 i.at_.2, .string i.val, .bool i.gone] 61)) := (Below.refl _ _).alloc (Nat.le_refl _) _
  have N := Blk.new w #[.slice ao n c, .bool o, .int .i64 i.txn.id, .int .i64 i.txn.ep, .string i.txn.anchor, .int .i64 i.txn.start.1, .int .i64 i.txn.start.2, .int .i64 i.seq, .int .i64 i.at_.1, .int .i64 i.at_.2, .string i.val, .bool i.gone] 61
  have HN := hide (And.intro hB N)
  have q := eqlI0 i
  clear hz h hn N hB
  go_enter Tryz.func19, Tryz.ntmps19
  go_wp2
  generalize w.alloc _ = W at *
  go_loopw [8] (fun u wr => ∃ k : Nat, u = .int .i64 k ∧ k ≤ n ∧ Hid (riseB (vs.take k) = true) ∧ Hid (Below W.heap.size W wr)) (fun u _ => n - (intOf u).toNat)
  case atStart => exact ⟨0, rfl, by omega, rfl, Below.refl _ _⟩
  case round =>
    obtain ⟨k, rfl, hk, Ha, Hb⟩ := hrel
    have hlt0 : w.heap.size < wr.heap.size := Nat.lt_of_lt_of_le (unhide HN).2.lt (unhide Hb).size
    by_cases hlt : k < n
    · have h1 : k < vs.length := by have := unhide Hn; omega
      obtain ⟨b, o', rfl, x⟩ := (unhide Hv).each k h1
      have lx := Nat.lt_of_lt_of_le x.lt (unhide HN).1.size
      replace x := (x.block ((unhide HN).1.block _ x.lt)).block ((unhide Hb).block _ lx)
      have lx' := Nat.lt_of_lt_of_le lx (unhide Hb).size
      obtain ⟨v, hv0⟩ : ∃ v, vs[k] = v := ⟨_, rfl⟩
      rw [hv0] at x
      have N := (unhide HN).2.later (unhide Hb)
      have N0 := N.c 0
      simp only [List.getElem?_cons_zero] at N0
      have hf := fun w' (hb : Below wr.heap.size wr w') => fits_any _ c (vs.take k) v.at_ w' ((((unhide Hv).later (unhide HN).1).later (unhide Hb)).later hb |>.take k (by omega))
      rw [List.length_take_of_le (by omega)] at hf
      have hst := rise_step vs k h1
      rw [hv0, unhide Ha, Bool.true_and] at hst
      have Hst := hide hst
      have x0 := x.c0
      have x1 := x.c1
      have x2 := x.c2
      have x3 := x.c3
      have x4 := x.c4
      clear hst hv0 N
      cases hq : fitB (vs.take k) v.at_
      · rw [hq] at hf Hst
        clear hq
        have hck : ¬ (c : Int) < (k : Int) := by omega
        have V := Blk.new wr #[.int .i64 v.at_.1, .int .i64 v.at_.2, .string v.val, .bool v.gone, .int .i64 v.by_] 97
        have hB2 : Below wr.heap.size wr (wr.alloc (.cells #[.int .i64 v.at_.1, .int .i64 v.at_.2, .string v.val, .bool v.gone, .int .i64 v.by_] 97)) := (Below.refl _ _).alloc (Nat.le_refl _) _
        have C0 := fun i : Later (wr.alloc (.cells #[.int .i64 v.at_.1, .int .i64 v.at_.2, .string v.val, .bool v.gone, .int .i64 v.by_] 97)) => i.cell (((World.cell?_alloc_lt _ _ _ (by simp; omega)).trans N0 : (wr.alloc (.cells #[.int .i64 v.at_.1, .int .i64 v.at_.2, .string v.val, .bool v.gone, .int .i64 v.by_] 97)).cell? ⟨w.heap.size, 0, none⟩ = _))
        go_wp2_with fail
        generalize wr.alloc _ = W2 at *
        have ii : Nonempty (Later W2) := ⟨⟨W2, Below.refl _ _⟩⟩
        have k0 := fun i : Later W2 => (V.later i.below).c 0
        have k1 := fun i : Later W2 => (V.later i.below).c 1
        simp only [List.getElem?_cons_zero, List.getElem?_cons_succ] at k0 k1
        have hf' := fun i : Later W2 => hf i.val (hB2.trans (i.below.mono hB2.size))
        have HB2 := hide hB2
        clear hf V hB2
        refine wp_region_later (by kernel_rfl) (by kernel_rfl) ?_
        repeat (first
          | go_big_quiet_step ((go_at_call 54; exact calls_later (hf' _)))
          | quiet_step (fail))
        refine wpQuiet_nil ?_
        intro w' hw'
        obtain ⟨⟨W3, hb3⟩, rfl⟩ := hw'
        go_wp2
        go_ret
        refine ⟨?_, (unhide HN).1.trans (((unhide Hb).trans (((unhide HB2).trans (hb3.mono (unhide HB2).size)).mono (unhide Hb).size)).mono (unhide HN).1.size)⟩
        rw [unhide Hz]
        unfold rightCB
        rw [show riseB vs = false from rise_not (unhide Hst)]
        rfl
      · rw [hq] at hf Hst
        clear hq
        have hck : ¬ (c : Int) < (k : Int) := by omega
        have V := Blk.new wr #[.int .i64 v.at_.1, .int .i64 v.at_.2, .string v.val, .bool v.gone, .int .i64 v.by_] 97
        have hB2 : Below wr.heap.size wr (wr.alloc (.cells #[.int .i64 v.at_.1, .int .i64 v.at_.2, .string v.val, .bool v.gone, .int .i64 v.by_] 97)) := (Below.refl _ _).alloc (Nat.le_refl _) _
        have C0 := fun i : Later (wr.alloc (.cells #[.int .i64 v.at_.1, .int .i64 v.at_.2, .string v.val, .bool v.gone, .int .i64 v.by_] 97)) => i.cell (((World.cell?_alloc_lt _ _ _ (by simp; omega)).trans N0 : (wr.alloc (.cells #[.int .i64 v.at_.1, .int .i64 v.at_.2, .string v.val, .bool v.gone, .int .i64 v.by_] 97)).cell? ⟨w.heap.size, 0, none⟩ = _))
        go_wp2_with fail
        generalize wr.alloc _ = W2 at *
        have ii : Nonempty (Later W2) := ⟨⟨W2, Below.refl _ _⟩⟩
        have k0 := fun i : Later W2 => (V.later i.below).c 0
        have k1 := fun i : Later W2 => (V.later i.below).c 1
        simp only [List.getElem?_cons_zero, List.getElem?_cons_succ] at k0 k1
        have hf' := fun i : Later W2 => hf i.val (hB2.trans (i.below.mono hB2.size))
        have HB2 := hide hB2
        clear hf V hB2
        refine wp_region_later (by kernel_rfl) (by kernel_rfl) ?_
        repeat (first
          | go_big_quiet_step ((go_at_call 54; exact calls_later (hf' _)))
          | quiet_step (fail))
        refine wpQuiet_nil ?_
        intro w' hw'
        obtain ⟨⟨W3, hb3⟩, rfl⟩ := hw'
        go_wp2
        go_roundw
        case rel => exact ⟨k + 1, by go_num, by omega, unhide Hst, (unhide Hb).trans (((unhide HB2).trans (hb3.mono (unhide HB2).size)).mono (unhide Hb).size)⟩
        case measure => simp [intOf]; omega
    · have N := (unhide HN).2.later (unhide Hb)
      have hr : riseB vs = true := by
        have := unhide Ha
        rwa [List.take_of_length_le (by have := unhide Hn; omega)] at this
      have HBw := hide ((unhide HN).1.trans ((unhide Hb).mono (unhide HN).1.size))
      have n0 := N.c 0
      have n1 := N.c 1
      have n2 := N.c 2
      have n3 := N.c 3
      have n4 := N.c 4
      have n5 := N.c 5
      have n6 := N.c 6
      have n7 := N.c 7
      have n8 := N.c 8
      have n9 := N.c 9
      have na := N.c 10
      have nb := N.c 11
      simp only [List.getElem?_cons_zero, List.getElem?_cons_succ] at n0 n1 n2 n3 n4 n5 n6 n7 n8 n9 na nb
      have hz : z = if o = true then fitB vs i.at_ else sameI i Itn.zero := by rw [unhide Hz]; unfold rightCB; rw [hr, Bool.true_and]
      cases o
      · rw [if_neg (by simp)] at hz
        rw [← hz] at q
        clear N hr hz
        go_wp2
        go_ret
        exact ⟨rfl, unhide HBw⟩
      · rw [if_pos rfl] at hz
        have hf := fun w' (hb : Below wr.heap.size wr w') => fits_any ao c vs i.at_ w' (((unhide Hv).later (unhide HN).1).later (unhide Hb) |>.later hb)
        rw [unhide Hn, ← hz] at hf
        clear N hr hz
        go_wp2_with fail
        refine (hf _ (Below.refl _ _)).mono ?_
        rintro e w1 ⟨rfl, hb1⟩
        have H1 := hide ((unhide HBw).trans (hb1.mono (unhide HBw).size))
        clear hb1 hf
        go_wp2
        go_ret
        exact ⟨rfl, unhide H1⟩
end

end Go.Proofs.YtcdehnghggleoaaGreat

/-
  Contracts of the document's last, Right, and of the law's Fits. No law is proved here.
-/
namespace Go.Proofs.YtcdehnghggleoaaGreat
open Go.RowKit
set_option linter.unusedVariables false

/-- The last version's stamp, and whether there is one. -/
def lastP (vs : List Ver) : Stp × Bool := match lastS vs with | none => ((0, 0), false) | some s => (s, true)

section
set_option maxRecDepth 100000
set_option maxHeartbeats 1000000

theorem last_any (ao : Option Addr) (c : Nat) (vs : List Ver) (o : Bool) (i : Itn) (w : World) (h : Vs w ao c vs) :
    Calls Tryz.prog 92 #[(.agg #[.slice ao vs.length c, .bool o, .int .i64 i.txn.id, .int .i64 i.txn.ep, .string i.txn.anchor, .int .i64 i.txn.start.1, .int .i64 i.txn.start.2, .int .i64 i.seq, .int .i64 i.at_.1, .int .i64 i.at_.2, .string i.val, .bool i.gone])] w fun e w' => e = .returned (.tuple #[(.agg #[.int .i64 (lastP vs).1.1, .int .i64 (lastP vs).1.2]), .bool (lastP vs).2]) ∧ Below w.heap.size w w' := by
  have l1 := h.len
  simp only [maxLen] at l1
  unfold lastP
  rcases Nat.eq_zero_or_pos vs.length with h0 | h0
  · have e : vs = [] := List.eq_nil_of_length_eq_zero h0
    subst e
    go_enter Tryz.func92, Tryz.ntmps92
    go_wp2
    refine bodyPost_ret (v := .tuple #[.agg #[.int .i64 0, .int .i64 0], .bool false]) (by simp [results, Tryz.results92, go_sem]) rfl ⟨rfl, ?_⟩
    exact ((Below.refl _ _).alloc (Nat.le_refl _) _).alloc (by simp) _
  · obtain ⟨m, hm⟩ : ∃ m, vs.length = m + 1 := ⟨vs.length - 1, by omega⟩
    rw [lastS_at vs m hm]
    obtain ⟨b, p, rfl, x⟩ := h.each m (by omega)
    obtain ⟨v, hv0⟩ : ∃ v, vs[m]'(by omega) = v := ⟨_, rfl⟩
    rw [hv0] at x ⊢
    clear hv0
    rw [hm] at l1 ⊢
    have hm0 : (((m : Int) + 1) == 0) = false := by rw [beq_eq_false_iff_ne]; omega
    have y := x.block (w' := (w.alloc (.cells #[.slice (some ⟨b, p, none⟩) (m+1) c, .bool o, .int .i64 i.txn.id, .int .i64 i.txn.ep, .string i.txn.anchor, .int .i64 i.txn.start.1, .int .i64 i.txn.start.2, .int .i64 i.seq, .int .i64 i.at_.1, .int .i64 i.at_.2, .string i.val, .bool i.gone] 61)).alloc (.cells #[.int .i64 0, .int .i64 0] 36)) ((((Below.refl w.heap.size w).alloc (Nat.le_refl _) _).alloc (by simp) _).block b x.lt)
    have y0 := y.c0
    have y1 := y.c1
    clear h x y hm h0
    go_enter Tryz.func92, Tryz.ntmps92
    go_wp2
    refine bodyPost_ret (v := .tuple #[(.agg #[.int .i64 v.at_.1, .int .i64 v.at_.2]), .bool true]) (by simp [results, Tryz.results92, go_sem]) rfl ⟨rfl, ?_⟩
    exact ((Below.refl _ _).alloc (Nat.le_refl _) _).alloc (by simp) _

theorem refright_c (ao : Option Addr) (c : Nat) (vs : List Ver) (o : Bool) (i : Itn) (w : World) (h : Vs w ao c vs) :
    Calls Tryz.prog 60 #[(.agg #[.slice ao vs.length c, .bool o, .int .i64 i.txn.id, .int .i64 i.txn.ep, .string i.txn.anchor, .int .i64 i.txn.start.1, .int .i64 i.txn.start.2, .int .i64 i.seq, .int .i64 i.at_.1, .int .i64 i.at_.2, .string i.val, .bool i.gone])] w fun e w' => e = .returned (.bool (rightCB ⟨vs, o, i⟩)) ∧ Below w.heap.size w w' := by
  have l1 := h.len
  have l2 := h.le
  have l3 := h.cm
  simp only [maxLen] at l1 l3
  obtain ⟨z, hz⟩ : ∃ z, z = rightCB ⟨vs, o, i⟩ := ⟨_, rfl⟩
  rw [← hz]
  have Hz := hide hz
  have Hv := hide h
  obtain ⟨n, hn⟩ : ∃ n, vs.length = n := ⟨_, rfl⟩
  have Hn := hide hn
  rw [hn] at l1 l2 ⊢
  have hB : Below w.heap.size w (w.alloc (.cells #[.slice ao n c, .bool o, .int .i64 i.txn.id, .int .i64 i.txn.ep, .string i.txn.anchor, .int .i64 i.txn.start.1, .int .i64 i.txn.start.2, .int .i64 i.seq, .int .i64 i.at_.1, .int .i64 i.at_.2, .string i.val, .bool i.gone] 61)) := (Below.refl _ _).alloc (Nat.le_refl _) _
  have N := Blk.new w #[.slice ao n c, .bool o, .int .i64 i.txn.id, .int .i64 i.txn.ep, .string i.txn.anchor, .int .i64 i.txn.start.1, .int .i64 i.txn.start.2, .int .i64 i.seq, .int .i64 i.at_.1, .int .i64 i.at_.2, .string i.val, .bool i.gone] 61
  have HN := hide (And.intro hB N)
  have q := eqlI0 i
  clear hz h hn N hB
  go_enter Tryz.func60, Tryz.ntmps60
  go_wp2
  generalize w.alloc _ = W at *
  go_loopw [3] (fun u wr => ∃ k : Nat, u = .int .i64 k ∧ k ≤ n ∧ Hid (riseB (vs.take k) = true) ∧ Hid (Below W.heap.size W wr)) (fun u _ => n - (intOf u).toNat)
  case atStart => exact ⟨0, rfl, by omega, rfl, Below.refl _ _⟩
  case round =>
    obtain ⟨k, rfl, hk, Ha, Hb⟩ := hrel
    have hlt0 : w.heap.size < wr.heap.size := Nat.lt_of_lt_of_le (unhide HN).2.lt (unhide Hb).size
    by_cases hlt : k < n
    · have h1 : k < vs.length := by have := unhide Hn; omega
      obtain ⟨b, o', rfl, x⟩ := (unhide Hv).each k h1
      have lx := Nat.lt_of_lt_of_le x.lt (unhide HN).1.size
      replace x := (x.block ((unhide HN).1.block _ x.lt)).block ((unhide Hb).block _ lx)
      have lx' := Nat.lt_of_lt_of_le lx (unhide Hb).size
      obtain ⟨v, hv0⟩ : ∃ v, vs[k] = v := ⟨_, rfl⟩
      rw [hv0] at x
      have N := (unhide HN).2.later (unhide Hb)
      have N0 := N.c 0
      simp only [List.getElem?_cons_zero] at N0
      have hR := fun w => refright_any v.at_.1 v.at_.2 w
      rw [right_eq] at hR
      have hst := rise_step vs k h1
      rw [hv0, unhide Ha, Bool.true_and] at hst
      have x0 := x.c0
      have x1 := x.c1
      cases hok : okS v.at_
      · have hf : fitB (vs.take k) v.at_ = false := by unfold fitB; rw [hok, Bool.false_and]
        rw [hf] at hst
        rw [hok] at hR
        have Hst := hide hst
        clear hst hv0 hf hok
        go_wp2_with fail
        refine (hR _).mono ?_
        rintro e w2 ⟨rfl, hb2⟩
        have HB2 := hide hb2
        have ii : Nonempty (Later w2) := ⟨⟨w2, Below.refl _ _⟩⟩
        clear hb2 hR
        go_wp2_with fail
        refine wp_region_later (by kernel_rfl) (by kernel_rfl) ?_
        repeat (first
          | go_big_quiet_step (fail)
          | quiet_step (fail))
        refine wpQuiet_nil ?_
        intro w' hw'
        obtain ⟨⟨W3, hb3⟩, rfl⟩ := hw'
        go_wp2
        go_ret
        refine ⟨?_, (unhide HN).1.trans (((unhide Hb).trans (((unhide HB2).trans (hb3.mono (unhide HB2).size)).mono (unhide Hb).size)).mono (unhide HN).1.size)⟩
        rw [unhide Hz]
        unfold rightCB
        rw [show riseB vs = false from rise_not (unhide Hst)]
        rfl
      · rw [hok] at hR
        rcases Nat.eq_zero_or_pos k with hk0 | hk0
        · subst hk0
          simp only [Nat.zero_mul, Nat.add_zero] at x0 x1
          have hf : fitB (vs.take 0) v.at_ = true := by unfold fitB; rw [hok, Bool.true_and]; rfl
          rw [hf] at hst
          have Hst := hide hst
          clear hst hv0 hf hok
          go_wp2_with fail
          refine (hR _).mono ?_
          rintro e w2 ⟨rfl, hb2⟩
          have HB2 := hide hb2
          have ii : Nonempty (Later w2) := ⟨⟨w2, Below.refl _ _⟩⟩
          clear hb2 hR
          go_wp2_with fail
          refine wp_region_later (by kernel_rfl) (by kernel_rfl) ?_
          repeat (first
            | go_big_quiet_step (fail)
            | quiet_step (fail))
          refine wpQuiet_nil ?_
          intro w' hw'
          obtain ⟨⟨W3, hb3⟩, rfl⟩ := hw'
          go_wp2
          go_roundw
          case rel => exact ⟨1, by go_num, by omega, unhide Hst, (unhide Hb).trans (((unhide HB2).trans (hb3.mono (unhide HB2).size)).mono (unhide Hb).size)⟩
          case measure => simp [intOf]; omega
        · obtain ⟨m, rfl⟩ : ∃ m, k = m + 1 := ⟨k - 1, by omega⟩
          obtain ⟨b1, o1, e1, y⟩ := (unhide Hv).each m (by omega)
          injection e1 with e1
          injection e1 with e1 e2
          subst e1 e2
          obtain ⟨u, hu0⟩ : ∃ u, vs[m]'(by omega) = u := ⟨_, rfl⟩
          rw [hu0] at y
          have lt : lastS (vs.take (m + 1)) = some u.at_ := by
            rw [lastS_at _ m (by rw [List.length_take]; omega), List.getElem_take, hu0]
          have hf : fitB (vs.take (m + 1)) v.at_ = ltB u.at_ v.at_ := by unfold fitB; rw [hok, Bool.true_and, lt]
          rw [hf] at hst
          have hL := fun w => refless_any u.at_.1 u.at_.2 v.at_.1 v.at_.2 w
          rw [less_eq] at hL
          replace y := (y.block ((unhide HN).1.block _ y.lt)).block ((unhide Hb).block _ lx)
          have y0 := y.c0
          have y1 := y.c1
          clear hv0 hf hok hu0 lt
          cases hq : ltB u.at_ v.at_
          · rw [hq] at hst hL
            have Hst := hide hst
            clear hst hq
            go_wp2_with fail
            refine (hR _).mono ?_
            rintro e w2 ⟨rfl, hb2⟩
            have HB2 := hide hb2
            have ii : Nonempty (Later w2) := ⟨⟨w2, Below.refl _ _⟩⟩
            have k0 := fun i : Later w2 => i.cell ((hb2.cell (by simp; omega)).trans N0)
            have k1 := fun i : Later w2 => i.cell ((hb2.cell lx').trans y0)
            have k2 := fun i : Later w2 => i.cell ((hb2.cell lx').trans y1)
            have k3 := fun i : Later w2 => i.cell ((hb2.cell lx').trans x0)
            have k4 := fun i : Later w2 => i.cell ((hb2.cell lx').trans x1)
            clear hb2 hR
            go_wp2_with fail
            refine wp_region_later (by kernel_rfl) (by kernel_rfl) ?_
            repeat (first
              | go_big_quiet_step ((go_at_call 91; exact calls_later (hL _)))
              | quiet_step (fail))
            refine wpQuiet_nil ?_
            intro w' hw'
            obtain ⟨⟨W3, hb3⟩, rfl⟩ := hw'
            go_wp2
            go_ret
            refine ⟨?_, (unhide HN).1.trans (((unhide Hb).trans (((unhide HB2).trans (hb3.mono (unhide HB2).size)).mono (unhide Hb).size)).mono (unhide HN).1.size)⟩
            rw [unhide Hz]
            unfold rightCB
            rw [show riseB vs = false from rise_not (unhide Hst)]
            rfl
          · rw [hq] at hst hL
            have Hst := hide hst
            clear hst hq
            go_wp2_with fail
            refine (hR _).mono ?_
            rintro e w2 ⟨rfl, hb2⟩
            have HB2 := hide hb2
            have ii : Nonempty (Later w2) := ⟨⟨w2, Below.refl _ _⟩⟩
            have k0 := fun i : Later w2 => i.cell ((hb2.cell (by simp; omega)).trans N0)
            have k1 := fun i : Later w2 => i.cell ((hb2.cell lx').trans y0)
            have k2 := fun i : Later w2 => i.cell ((hb2.cell lx').trans y1)
            have k3 := fun i : Later w2 => i.cell ((hb2.cell lx').trans x0)
            have k4 := fun i : Later w2 => i.cell ((hb2.cell lx').trans x1)
            clear hb2 hR
            go_wp2_with fail
            refine wp_region_later (by kernel_rfl) (by kernel_rfl) ?_
            repeat (first
              | go_big_quiet_step ((go_at_call 91; exact calls_later (hL _)))
              | quiet_step (fail))
            refine wpQuiet_nil ?_
            intro w' hw'
            obtain ⟨⟨W3, hb3⟩, rfl⟩ := hw'
            go_wp2
            go_roundw
            case rel => exact ⟨m + 1 + 1, by go_num, by omega, unhide Hst, (unhide Hb).trans (((unhide HB2).trans (hb3.mono (unhide HB2).size)).mono (unhide Hb).size)⟩
            case measure => simp [intOf]; omega
    · have N := (unhide HN).2.later (unhide Hb)
      have hr : riseB vs = true := by
        have := unhide Ha
        rwa [List.take_of_length_le (by have := unhide Hn; omega)] at this
      have HBw := hide ((unhide HN).1.trans ((unhide Hb).mono (unhide HN).1.size))
      have n0 := N.c 0
      have n1 := N.c 1
      have n2 := N.c 2
      have n3 := N.c 3
      have n4 := N.c 4
      have n5 := N.c 5
      have n6 := N.c 6
      have n7 := N.c 7
      have n8 := N.c 8
      have n9 := N.c 9
      have na := N.c 10
      have nb := N.c 11
      simp only [List.getElem?_cons_zero, List.getElem?_cons_succ] at n0 n1 n2 n3 n4 n5 n6 n7 n8 n9 na nb
      have hz : z = if o = true then fitB vs i.at_ else sameI i Itn.zero := by rw [unhide Hz]; unfold rightCB; rw [hr, Bool.true_and]
      cases o
      · rw [if_neg (by simp)] at hz
        rw [← hz] at q
        clear N hr hz
        go_wp2
        go_ret
        exact ⟨rfl, unhide HBw⟩
      · rw [if_pos rfl] at hz
        have hf := fun w' (hb : Below wr.heap.size wr w') => last_any ao c vs true i w' (((unhide Hv).later (unhide HN).1).later (unhide Hb) |>.later hb)
        rw [unhide Hn] at hf
        have hR := fun w => refright_any i.at_.1 i.at_.2 w
        rw [right_eq] at hR
        obtain ⟨P, hP⟩ : ∃ P, lastP vs = P := ⟨_, rfl⟩
        rw [hP] at hf
        have hzz : z = (okS i.at_ && (if P.2 = true then ltB P.1 i.at_ else true)) := by
          rw [hz, ← hP]
          unfold fitB lastP
          cases lastS vs <;> rfl
        have Hzz := hide hzz
        clear hr hz hzz hP
        go_wp2_with fail
        refine (hf _ (Below.refl _ _)).mono ?_
        rintro e w1 ⟨rfl, hb1⟩
        have N1 := N.later hb1
        have S := Blk.new w1 #[.int .i64 P.1.1, .int .i64 P.1.2] 36
        have N2 := N1.alloc (.cells #[.int .i64 P.1.1, .int .i64 P.1.2] 36)
        have HW1 := hide ((unhide HBw).trans ((hb1.trans ((Below.refl w1.heap.size w1).alloc (Nat.le_refl _) (.cells #[.int .i64 P.1.1, .int .i64 P.1.2] 36) |>.mono hb1.size)).mono (unhide HBw).size))
        have g8 := fun o => (N1.alloc o).c 8
        have g9 := fun o => (N1.alloc o).c 9
        simp only [List.getElem?_cons_zero, List.getElem?_cons_succ] at g8 g9
        clear n0 n1 n2 n3 n4 n5 n6 n7 n8 n9 na nb hb1 hf N N1 q
        go_wp2_with fail
        generalize w1.alloc _ = W1 at *
        refine (hR _).mono ?_
        rintro e w2 ⟨rfl, hb2⟩
        have N3 := N2.later hb2
        have S3 := S.later hb2
        have HW2 := hide ((unhide HW1).trans (hb2.mono (unhide HW1).size))
        have n8 := N3.c 8
        have n9 := N3.c 9
        have s0 := S3.c 0
        have s1 := S3.c 1
        simp only [List.getElem?_cons_zero, List.getElem?_cons_succ] at n8 n9 s0 s1
        clear N3 S3 N2 S hb2 g8 g9 hR
        cases hok : okS i.at_
        · go_wp2
          go_ret
          exact ⟨by rw [unhide Hzz, hok]; rfl, unhide HW2⟩
        · obtain ⟨P1, P2⟩ := P
          cases P2
          · go_wp2
            go_ret
            exact ⟨by rw [unhide Hzz, hok]; rfl, unhide HW2⟩
          · have hL := fun w => refless_any P1.1 P1.2 i.at_.1 i.at_.2 w
            rw [less_eq] at hL
            go_wp2_with fail
            refine (hL _).mono ?_
            rintro e w4 ⟨rfl, hb4⟩
            have HW4 := hide ((unhide HW2).trans (hb4.mono (unhide HW2).size))
            clear hb4
            go_wp2
            go_ret
            exact ⟨by rw [unhide Hzz, hok]; rfl, unhide HW4⟩

end

end Go.Proofs.YtcdehnghggleoaaGreat
