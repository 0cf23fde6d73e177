/-
  The document's answers: Right, Has, Meet, Clip. No law is proved here.
-/
import Derived.Test.YtejceloahonelaaFits
namespace Go.Proofs.Ytejceloahonelaa
open Go.RowKit
set_option linter.unusedVariables false

section
set_option maxRecDepth 100000
set_option maxHeartbeats 2000000

theorem refRight_any (f t : ByteArray) (w : World) (hf : f.size ≤ 9223372036854775807) (ht : t.size ≤ 9223372036854775807) : Calls Try.prog 16 #[.agg #[.string f, .string t]] w fun e w' => e = .returned (.bool (rightB f t)) ∧ Below w.heap.size w w' := by
  have hB : ∀ o, Hid (Below w.heap.size w (w.alloc o)) := fun o => (Below.refl _ _).alloc (Nat.le_refl _) o
  have Hr : Hid (rightB f t = (keyB f && (eqB t emp || (eqB t brace || keyB t) && !(ltB t f || eqB t f)))) := Eq.refl (rightB f t)
  have e0' : (t.toList == []) = eqB t emp := by unfold eqB; rw [emp_toList]
  have e1' : (t.toList == [123]) = eqB t brace := by unfold eqB; rw [brace_toList]
  have e2' : Op.bytesLess t.toList f.toList = ltB t f := rfl
  have e3' : (t.toList == f.toList) = eqB t f := rfl
  generalize rightB f t = r at Hr ⊢
  generalize eqB t emp = e0 at *
  generalize eqB t brace = e1 at *
  generalize ltB t f = e2 at *
  generalize eqB t f = e3 at *
  cases hkf : keyB f <;> rw [hkf] at Hr
  · go_enter Try.func16, Try.ntmps16
    go_wp2_with (go_at_call 14; refine (refKey_any _ _ (by assumption)).mono ?_; rintro e w' ⟨rfl, rfl⟩)
    go_ret
    rw [unhide Hr]
    refine ⟨?_, unhide (hB _)⟩
    first | rfl | (cases e2 <;> cases e3 <;> rfl)
  · cases e0
    · cases hkt : keyB t <;> rw [hkt] at Hr
      · cases e1
        · go_enter Try.func16, Try.ntmps16
          go_wp2_with (go_at_call 14; refine (refKey_any _ _ (by assumption)).mono ?_; rintro e w' ⟨rfl, rfl⟩)
          go_ret
          rw [unhide Hr]
          refine ⟨?_, unhide (hB _)⟩
          first | rfl | (cases e2 <;> cases e3 <;> rfl)
        · go_enter Try.func16, Try.ntmps16
          go_wp2_with (go_at_call 14; refine (refKey_any _ _ (by assumption)).mono ?_; rintro e w' ⟨rfl, rfl⟩)
          go_ret
          rw [unhide Hr]
          refine ⟨?_, unhide (hB _)⟩
          first | rfl | (cases e2 <;> cases e3 <;> rfl)
      · cases e1
        · go_enter Try.func16, Try.ntmps16
          go_wp2_with (go_at_call 14; refine (refKey_any _ _ (by assumption)).mono ?_; rintro e w' ⟨rfl, rfl⟩)
          go_ret
          rw [unhide Hr]
          refine ⟨?_, unhide (hB _)⟩
          first | rfl | (cases e2 <;> cases e3 <;> rfl)
        · go_enter Try.func16, Try.ntmps16
          go_wp2_with (go_at_call 14; refine (refKey_any _ _ (by assumption)).mono ?_; rintro e w' ⟨rfl, rfl⟩)
          go_ret
          rw [unhide Hr]
          refine ⟨?_, unhide (hB _)⟩
          first | rfl | (cases e2 <;> cases e3 <;> rfl)
    · go_enter Try.func16, Try.ntmps16
      go_wp2_with (go_at_call 14; refine (refKey_any _ _ (by assumption)).mono ?_; rintro e w' ⟨rfl, rfl⟩)
      go_ret
      rw [unhide Hr]
      refine ⟨?_, unhide (hB _)⟩
      first | rfl | (cases e2 <;> cases e3 <;> rfl)

theorem refHas_any (f t k : ByteArray) (w : World) (hf : f.size ≤ 9223372036854775807) (ht : t.size ≤ 9223372036854775807) (hk : k.size ≤ 9223372036854775807) : Calls Try.prog 18 #[.agg #[.string f, .string t], .string k] w fun e w' => e = .returned (.bool (hasB f t k)) ∧ Below w.heap.size w w' := by
  have HS : ∀ {w'}, Below (w.alloc (.cells #[.string f, .string t] 23)).heap.size (w.alloc (.cells #[.string f, .string t] 23)) w' → Hid (Sp w' w.heap.size f t ∧ Below w.heap.size w w') := fun hb => ⟨(Sp.new w f t _).later hb, below_alloc _ hb⟩
  have Hr : Hid (hasB f t k = (rightB f t && keyB k && cond (eqB t emp) (eqB k f) (!ltB k f && ltB k t))) := Eq.refl (hasB f t k)
  have e0' : (t.toList == []) = eqB t emp := by unfold eqB; rw [emp_toList]
  have e1' : (k.toList == f.toList) = eqB k f := rfl
  have e2' : Op.bytesLess k.toList f.toList = ltB k f := rfl
  have e3' : Op.bytesLess k.toList t.toList = ltB k t := rfl
  generalize hasB f t k = r at Hr ⊢
  generalize eqB t emp = e0 at *
  generalize eqB k f = e1 at *
  generalize ltB k f = e2 at *
  generalize ltB k t = e3 at *
  cases hr : rightB f t <;> rw [hr] at Hr
  · cases e0
    · go_enter Try.func18, Try.ntmps18
      go_wp2_with (first
        | (go_at_call 16; refine (refRight_any _ _ _ hf ht).mono ?_; rintro e w' ⟨rfl, hb⟩; obtain ⟨⟨c0, c1, f0, f1⟩, hb'⟩ := unhide (HS hb); replace hb := hide hb'; clear hb')
        | (go_at_call 14; refine (refKey_any _ _ hk).mono ?_; rintro e w' ⟨rfl, rfl⟩))
      go_ret
      rw [unhide Hr]
      exact ⟨rfl, unhide hb⟩
    · go_enter Try.func18, Try.ntmps18
      go_wp2_with (first
        | (go_at_call 16; refine (refRight_any _ _ _ hf ht).mono ?_; rintro e w' ⟨rfl, hb⟩; obtain ⟨⟨c0, c1, f0, f1⟩, hb'⟩ := unhide (HS hb); replace hb := hide hb'; clear hb')
        | (go_at_call 14; refine (refKey_any _ _ hk).mono ?_; rintro e w' ⟨rfl, rfl⟩))
      go_ret
      rw [unhide Hr]
      exact ⟨rfl, unhide hb⟩
  · cases hk' : keyB k <;> rw [hk'] at Hr
    · cases e0
      · go_enter Try.func18, Try.ntmps18
        go_wp2_with (first
          | (go_at_call 16; refine (refRight_any _ _ _ hf ht).mono ?_; rintro e w' ⟨rfl, hb⟩; obtain ⟨⟨c0, c1, f0, f1⟩, hb'⟩ := unhide (HS hb); replace hb := hide hb'; clear hb')
          | (go_at_call 14; refine (refKey_any _ _ hk).mono ?_; rintro e w' ⟨rfl, rfl⟩))
        go_ret
        rw [unhide Hr]
        exact ⟨rfl, unhide hb⟩
      · go_enter Try.func18, Try.ntmps18
        go_wp2_with (first
          | (go_at_call 16; refine (refRight_any _ _ _ hf ht).mono ?_; rintro e w' ⟨rfl, hb⟩; obtain ⟨⟨c0, c1, f0, f1⟩, hb'⟩ := unhide (HS hb); replace hb := hide hb'; clear hb')
          | (go_at_call 14; refine (refKey_any _ _ hk).mono ?_; rintro e w' ⟨rfl, rfl⟩))
        go_ret
        rw [unhide Hr]
        exact ⟨rfl, unhide hb⟩
    · cases e0
      · cases e2
        · go_enter Try.func18, Try.ntmps18
          go_wp2_with (first
            | (go_at_call 16; refine (refRight_any _ _ _ hf ht).mono ?_; rintro e w' ⟨rfl, hb⟩; obtain ⟨⟨c0, c1, f0, f1⟩, hb'⟩ := unhide (HS hb); replace hb := hide hb'; clear hb')
            | (go_at_call 14; refine (refKey_any _ _ hk).mono ?_; rintro e w' ⟨rfl, rfl⟩))
          go_ret
          rw [unhide Hr]
          exact ⟨rfl, unhide hb⟩
        · go_enter Try.func18, Try.ntmps18
          go_wp2_with (first
            | (go_at_call 16; refine (refRight_any _ _ _ hf ht).mono ?_; rintro e w' ⟨rfl, hb⟩; obtain ⟨⟨c0, c1, f0, f1⟩, hb'⟩ := unhide (HS hb); replace hb := hide hb'; clear hb')
            | (go_at_call 14; refine (refKey_any _ _ hk).mono ?_; rintro e w' ⟨rfl, rfl⟩))
          go_ret
          rw [unhide Hr]
          exact ⟨rfl, unhide hb⟩
      · go_enter Try.func18, Try.ntmps18
        go_wp2_with (first
          | (go_at_call 16; refine (refRight_any _ _ _ hf ht).mono ?_; rintro e w' ⟨rfl, hb⟩; obtain ⟨⟨c0, c1, f0, f1⟩, hb'⟩ := unhide (HS hb); replace hb := hide hb'; clear hb')
          | (go_at_call 14; refine (refKey_any _ _ hk).mono ?_; rintro e w' ⟨rfl, rfl⟩))
        go_ret
        rw [unhide Hr]
        exact ⟨rfl, unhide hb⟩

/-- Two spans lie in new memory. -/
structure Pair (w w' : World) (af at' bf bt : ByteArray) : Prop where
  a : Sp w' w.heap.size af at'
  b : Sp w' (w.heap.size + 1) bf bt
  below : Below w.heap.size w w'
theorem Pair.new (w : World) (af at' bf bt : ByteArray) (T : TypeId) :
    Pair w ((w.alloc (.cells #[.string af, .string at'] T)).alloc (.cells #[.string bf, .string bt] T)) af at' bf bt :=
  ⟨(Sp.new w af at' T).alloc _, by have := (Sp.new (w.alloc (.cells #[.string af, .string at'] T)) bf bt T); simpa using this,
    ((Below.refl _ w).alloc (Nat.le_refl _) _).alloc (by simp) _⟩
theorem Pair.later {w w1 w2 : World} {af at' bf bt : ByteArray} (h : Pair w w1 af at' bf bt) (hb : Below w1.heap.size w1 w2) : Pair w w2 af at' bf bt :=
  ⟨h.a.later hb, h.b.later hb, h.below.trans (hb.mono h.below.size)⟩

theorem refMeet_any (af at' bf bt : ByteArray) (w : World) (h1 : af.size ≤ 9223372036854775807) (h2 : at'.size ≤ 9223372036854775807) (h3 : bf.size ≤ 9223372036854775807) (h4 : bt.size ≤ 9223372036854775807) :
    Calls Try.prog 20 #[.agg #[.string af, .string at'], .agg #[.string bf, .string bt]] w fun e w' => e = .returned (.bool (clipB af at' bf bt)) ∧ Below w.heap.size w w' := by
  rw [← refMeet_eq]
  have Hr : Hid (refMeetB af at' bf bt = (rightB af at' && rightB bf bt && (hasB af at' bf || hasB bf bt af))) := Eq.refl (refMeetB af at' bf bt)
  have P := hide (Pair.new w af at' bf bt 23)
  go_enter Try.func20, Try.ntmps20
  go_wp2_with fail
  refine (refHas_any _ _ _ _ h1 h2 h3).mono ?_
  rintro e w1 ⟨rfl, hb⟩
  replace P := hide ((unhide P).later hb)
  clear hb
  obtain ⟨⟨a0, a1, af0, af1⟩, ⟨b0, b1, bf0, bf1⟩, _⟩ := unhide P
  go_wp2_with fail
  refine (refHas_any _ _ _ _ h3 h4 h1).mono ?_
  rintro e w2 ⟨rfl, hb⟩
  replace P := hide ((unhide P).later hb)
  clear hb
  obtain ⟨⟨a0, a1, af0, af1⟩, ⟨b0, b1, bf0, bf1⟩, _⟩ := unhide P
  go_wp2_with fail
  refine (refRight_any _ _ _ h1 h2).mono ?_
  rintro e w3 ⟨rfl, hb⟩
  replace P := hide ((unhide P).later hb)
  clear hb
  obtain ⟨⟨a0, a1, af0, af1⟩, ⟨b0, b1, bf0, bf1⟩, _⟩ := unhide P
  go_wp2_with fail
  refine (refRight_any _ _ _ h3 h4).mono ?_
  rintro e w4 ⟨rfl, hb⟩
  replace P := hide ((unhide P).later hb)
  clear hb
  obtain ⟨⟨a0, a1, af0, af1⟩, ⟨b0, b1, bf0, bf1⟩, _⟩ := unhide P
  clear a0 a1 af0 af1 b0 b1 bf0 bf1
  generalize hasB af at' bf = x1 at *
  generalize hasB bf bt af = x2 at *
  generalize rightB af at' = x3 at *
  generalize rightB bf bt = x4 at *
  cases x3
  · go_wp2_with fail
    go_ret
    rw [unhide Hr]
    exact ⟨rfl, (unhide P).below⟩
  · cases x4
    · go_wp2_with fail
      go_ret
      rw [unhide Hr]
      exact ⟨rfl, (unhide P).below⟩
    · cases x1
      · go_wp2_with fail
        go_ret
        rw [unhide Hr]
        exact ⟨rfl, (unhide P).below⟩
      · go_wp2_with fail
        go_ret
        rw [unhide Hr]
        exact ⟨rfl, (unhide P).below⟩

end

end Go.Proofs.Ytejceloahonelaa
