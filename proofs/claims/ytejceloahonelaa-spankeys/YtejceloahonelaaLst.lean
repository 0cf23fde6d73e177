/-
  Lists of texts: sorted, and each once: of no program. No law is proved here.
-/
import Derived.Test.YtejceloahonelaaMath2
import Derived.Lib.SlicesCompact
namespace Go.Proofs.Ytejceloahonelaa
open Go.RowKit
set_option linter.unusedVariables false

def ofL (l : List UInt8) : ByteArray := ⟨l.toArray⟩
theorem ofL_toList (l : List UInt8) : (ofL l).toList = l := ByteArray.toList_mk l
theorem ofL_of (x : ByteArray) : ofL x.toList = x := toList_inj (ofL_toList _)

/-- A text put into a rising list. -/
def insS : List ByteArray → ByteArray → List ByteArray
  | [], x => [x]
  | y :: r, x => cond (ltB y x) (y :: insS r x) (cond (eqB y x) (y :: r) (x :: y :: r))

/-- The keys of a list that a span has, each once, rising. -/
def keysOf (f t : ByteArray) (l : List ByteArray) : List ByteArray := l.foldl (fun out x => cond (hasB f t x) (insS out x) out) []

theorem mem_insS (x z : ByteArray) : ∀ out, z ∈ insS out x ↔ z = x ∨ z ∈ out
  | [] => by simp [insS]
  | y :: r => by
    unfold insS
    cases h : ltB y x with
    | true => simp only [cond_true, List.mem_cons, mem_insS x z r]; grind
    | false =>
      cases k : eqB y x with
      | true =>
        have e := (eqB_iff _ _).1 k
        subst e
        simp
      | false => simp

theorem rise_insS (x : ByteArray) : ∀ {out}, out.Pairwise L → (insS out x).Pairwise L
  | [], _ => by simp [insS]
  | y :: r, hp => by
    have hp' := List.pairwise_cons.1 hp
    unfold insS
    cases h : ltB y x with
    | true =>
      refine List.pairwise_cons.2 ⟨fun z hz => ?_, rise_insS x hp'.2⟩
      rcases (mem_insS x z r).1 hz with rfl | hz
      · exact h
      · exact hp'.1 z hz
    | false =>
      cases k : eqB y x with
      | true => exact hp
      | false =>
        have hxy : L x y := by
          rcases L.tot x y with q | q | q
          · exact q
          · rw [q, eqB_self] at k; exact absurd k (by simp)
          · unfold L at q; rw [h] at q; exact absurd q (by simp)
        refine List.pairwise_cons.2 ⟨fun z hz => ?_, hp⟩
        rcases List.mem_cons.1 hz with rfl | hz
        · exact hxy
        · exact L.tr hxy (hp'.1 z hz)

theorem keys_fold (f t : ByteArray) : ∀ (l out : List ByteArray), out.Pairwise L →
    (l.foldl (fun out x => cond (hasB f t x) (insS out x) out) out).Pairwise L ∧ ∀ z, z ∈ l.foldl (fun out x => cond (hasB f t x) (insS out x) out) out ↔ z ∈ out ∨ (z ∈ l ∧ hasB f t z = true)
  | [], out, h => ⟨h, fun z => by simp⟩
  | x :: r, out, h => by
    rw [List.foldl_cons]
    cases hx : hasB f t x with
    | true =>
      obtain ⟨h1, h2⟩ := keys_fold f t r _ (rise_insS x h)
      refine ⟨h1, fun z => ?_⟩
      rw [cond_true, h2, mem_insS, List.mem_cons]
      grind
    | false =>
      obtain ⟨h1, h2⟩ := keys_fold f t r _ h
      refine ⟨h1, fun z => ?_⟩
      rw [cond_false, h2, List.mem_cons]
      grind

theorem keys_rise (f t : ByteArray) (l : List ByteArray) : (keysOf f t l).Pairwise L := (keys_fold f t l [] List.Pairwise.nil).1
theorem keys_mem (f t : ByteArray) (l : List ByteArray) (z : ByteArray) : z ∈ keysOf f t l ↔ z ∈ l ∧ hasB f t z = true := by
  have := (keys_fold f t l [] List.Pairwise.nil).2 z
  unfold keysOf
  simpa using this

theorem len_insS (x : ByteArray) : ∀ out, (insS out x).length ≤ out.length + 1
  | [] => by simp [insS]
  | y :: r => by
    unfold insS
    have := len_insS x r
    cases ltB y x <;> cases eqB y x <;> simp <;> omega
theorem len_fold (f t : ByteArray) : ∀ (l out : List ByteArray), (l.foldl (fun out x => cond (hasB f t x) (insS out x) out) out).length ≤ out.length + l.length
  | [], out => by simp
  | x :: r, out => by
    rw [List.foldl_cons, List.length_cons]
    have h1 := len_fold f t r (cond (hasB f t x) (insS out x) out)
    have h2 := len_insS x out
    have h3 : (cond (hasB f t x) (insS out x) out).length ≤ out.length + 1 := by cases hasB f t x <;> simp <;> omega
    omega
theorem keys_len (f t : ByteArray) (l : List ByteArray) : (keysOf f t l).length ≤ l.length := by
  have := len_fold f t l []
  unfold keysOf
  simpa using this

/-- Two rising lists with the same members are one. -/
theorem rise_eq : ∀ {a b : List ByteArray}, a.Pairwise L → b.Pairwise L → (∀ z, z ∈ a ↔ z ∈ b) → a = b
  | [], [], _, _, _ => rfl
  | [], y :: r, _, _, h => absurd ((h y).2 List.mem_cons_self) (by simp)
  | x :: r, [], _, _, h => absurd ((h x).1 List.mem_cons_self) (by simp)
  | x :: r, y :: s, ha, hb, h => by
    have ha' := List.pairwise_cons.1 ha
    have hb' := List.pairwise_cons.1 hb
    have e : x = y := by
      rcases List.mem_cons.1 ((h x).1 List.mem_cons_self) with e | hx
      · exact e
      · rcases List.mem_cons.1 ((h y).2 List.mem_cons_self) with e | hy
        · exact e.symm
        · exact absurd (L.tr (ha'.1 y hy) (hb'.1 x hx)) (L.irr x)
    subst e
    refine congrArg (x :: ·) (rise_eq ha'.2 hb'.2 fun z => ?_)
    have := h z
    rw [List.mem_cons, List.mem_cons] at this
    by_cases e : z = x
    · subst e
      constructor
      · intro hz; exact absurd (ha'.1 z hz) (L.irr z)
      · intro hz; exact absurd (hb'.1 z hz) (L.irr z)
    · simpa [e] using this

theorem keys_of {f t : ByteArray} {l k : List ByteArray} (h1 : k.Pairwise L) (h2 : ∀ z, z ∈ k ↔ z ∈ l ∧ hasB f t z = true) : k = keysOf f t l :=
  rise_eq h1 (keys_rise f t l) fun z => by rw [h2, keys_mem]

section
variable (zs : List (List UInt8))

theorem compact_rise (h : zs.Pairwise (· ≤ ·)) : (Lib.compact zs).Pairwise (· < ·) := by
  unfold Lib.compact Lib.compactUpTo
  rw [List.pairwise_map]
  have hr : ((List.range zs.length).filter (Lib.keeps zs.toArray)).Pairwise (· < ·) := List.pairwise_lt_range.filter _
  rw [List.pairwise_iff_getElem] at h
  refine hr.imp_of_mem fun {i j} hi hj hij => ?_
  rw [List.mem_filter, List.mem_range] at hi hj
  have hk := hj.2
  unfold Lib.keeps at hk
  simp only [decide_eq_true_eq] at hk
  have g : ∀ k, k < zs.length → zs.toArray[k]! = zs[k]! := fun k hk => by simp [hk]
  have hne : zs.toArray[j]! ≠ zs.toArray[j - 1]! := hk.resolve_left (by omega)
  rw [g j hj.1, g (j - 1) (by omega), getElem!_pos zs j hj.1, getElem!_pos zs (j - 1) (by omega)] at hne
  rw [g i hi.1, g j hj.1, getElem!_pos zs i hi.1, getElem!_pos zs j hj.1]
  have h1 : zs[j - 1] < zs[j] := Std.lt_of_le_of_ne (h (j - 1) j (by omega) hj.1 (by omega)) (fun e => hne e.symm)
  by_cases e : i = j - 1
  · subst e; exact h1
  · exact List.lt_of_le_of_lt (h i (j - 1) hi.1 (by omega) (by omega)) h1

theorem compact_mem (x : List UInt8) : x ∈ Lib.compact zs ↔ x ∈ zs := by
  unfold Lib.compact Lib.compactUpTo
  rw [List.mem_map]
  have g : ∀ k, k < zs.length → zs.toArray[k]! = zs[k]! := fun k hk => by simp [hk]
  constructor
  · rintro ⟨j, hj, rfl⟩
    rw [List.mem_filter, List.mem_range] at hj
    rw [g j hj.1, getElem!_pos zs j hj.1]
    exact List.getElem_mem _
  · intro hx
    obtain ⟨n, hn, e⟩ := List.getElem_of_mem hx
    -- the first place that holds x
    have first : ∀ n, (hn : n < zs.length) → zs[n] = x → ∃ j, ∃ hj : j < zs.length, zs[j] = x ∧ (j = 0 ∨ zs[j - 1]! ≠ x) := by
      intro n
      induction n with
      | zero => intro hn e; exact ⟨0, hn, e, .inl rfl⟩
      | succ n ih =>
        intro hn e
        by_cases q : zs[n]'(by omega) = x
        · exact ih (by omega) q
        · refine ⟨n + 1, hn, e, .inr ?_⟩
          rw [Nat.add_sub_cancel, getElem!_pos zs n (by omega)]; exact q
    obtain ⟨j, hj, e, hk⟩ := first n hn e
    refine ⟨j, ?_, ?_⟩
    · rw [List.mem_filter, List.mem_range]
      refine ⟨hj, ?_⟩
      unfold Lib.keeps
      simp only [decide_eq_true_eq]
      by_cases h0 : j = 0
      · exact .inl h0
      · refine .inr ?_
        rw [g j hj, g (j - 1) (by omega), getElem!_pos zs j hj, e]
        exact fun q => (hk.resolve_left h0) q.symm
    · rw [g j hj, getElem!_pos zs j hj, e]

end

theorem sort_le (zs : List (List UInt8)) : (zs.mergeSort fun x y => decide (x ≤ y)).Pairwise (· ≤ ·) := by
  have := List.pairwise_mergeSort (le := fun x y : List UInt8 => decide (x ≤ y)) (fun a b c h1 h2 => by simp only [decide_eq_true_eq] at *; exact List.le_trans h1 h2) (fun a b => by rcases List.le_total a b with h | h <;> simp [h]) zs
  exact this.imp fun h => by simpa using h

/-- What Keys does: those that the span has, sorted, each once. -/
theorem keys_eq (f t : ByteArray) (D : List ByteArray) :
    (Lib.compact (((D.filter fun x => hasB f t x).map ByteArray.toList).mergeSort fun x y => decide (x ≤ y))).map ofL = keysOf f t D := by
  refine keys_of ?_ fun z => ?_
  · rw [List.pairwise_map]
    refine (compact_rise _ (sort_le _)).imp fun {a b} h => ?_
    unfold L; rw [ltB_iff, ofL_toList, ofL_toList]; exact h
  · rw [List.mem_map]
    constructor
    · rintro ⟨x, hx, rfl⟩
      rw [compact_mem, (List.mergeSort_perm _ _).mem_iff, List.mem_map] at hx
      obtain ⟨y, hy, rfl⟩ := hx
      rw [ofL_of]
      exact List.mem_filter.1 hy
    · intro hz
      refine ⟨z.toList, ?_, ofL_of z⟩
      rw [compact_mem, (List.mergeSort_perm _ _).mem_iff, List.mem_map]
      exact ⟨z, List.mem_filter.2 hz, rfl⟩

end Go.Proofs.Ytejceloahonelaa
