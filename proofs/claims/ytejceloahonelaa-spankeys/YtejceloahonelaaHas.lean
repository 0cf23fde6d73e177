/-
  The contract of Has. No law is proved here.
-/
import Derived.Test.YtejceloahonelaaRight
namespace Go.Proofs.Ytejceloahonelaa
open Go.RowKit
set_option linter.unusedVariables false

/-- Has a span a key? -/
def hasB (f t k : ByteArray) : Bool := rightB f t && keyB k && cond (eqB t emp) (eqB k f) (!ltB k f && ltB k t)

section
set_option maxRecDepth 100000
set_option maxHeartbeats 1000000

theorem has_any (f t k : ByteArray) (w : World) : Calls Try.prog 17 #[.agg #[.string f, .string t], .string k] w fun e w' => e = .returned (.bool (hasB f t k)) ∧ Below w.heap.size w w' := by
  have HS : ∀ {w'}, Below (w.alloc (.cells #[.string f, .string t] 23)).heap.size (w.alloc (.cells #[.string f, .string t] 23)) w' → Hid (Sp w' w.heap.size f t ∧ Below w.heap.size w w') := fun hb => ⟨(Sp.new w f t _).later hb, below_alloc _ hb⟩
  have Hr : Hid (hasB f t k = (rightB f t && keyB k && cond (eqB t emp) (eqB k f) (!ltB k f && ltB k t))) := Eq.refl (hasB f t k)
  have e0' : (t.toList == []) = eqB t emp := by unfold eqB; rw [emp_toList]
  have e1' : (k.toList == f.toList) = eqB k f := rfl
  have e2' : Op.bytesLess k.toList f.toList = ltB k f := rfl
  have e3' : Op.bytesLess k.toList t.toList = ltB k t := rfl
  generalize hasB f t k = r at Hr ⊢
  generalize eqB t emp = e0 at *
  generalize eqB k f = e1 at *
  generalize ltB k f = e2 at *
  generalize ltB k t = e3 at *
  cases hr : rightB f t <;> rw [hr] at Hr
  · go_enter Try.func17, Try.ntmps17
    go_wp2_with (first
      | (go_at_call 15; refine (right_any _ _ _).mono ?_; rintro e w' ⟨rfl, hb⟩; obtain ⟨⟨c0, c1, f0, f1⟩, hb'⟩ := unhide (HS hb); replace hb := hide hb'; clear hb')
      | (go_at_call 13; refine (key_any _ _).mono ?_; rintro e w' ⟨rfl, rfl⟩))
    go_ret
    rw [unhide Hr]
    exact ⟨rfl, unhide hb⟩
  · cases hk : keyB k <;> rw [hk] at Hr
    · go_enter Try.func17, Try.ntmps17
      go_wp2_with (first
        | (go_at_call 15; refine (right_any _ _ _).mono ?_; rintro e w' ⟨rfl, hb⟩; obtain ⟨⟨c0, c1, f0, f1⟩, hb'⟩ := unhide (HS hb); replace hb := hide hb'; clear hb')
        | (go_at_call 13; refine (key_any _ _).mono ?_; rintro e w' ⟨rfl, rfl⟩))
      go_ret
      rw [unhide Hr]
      exact ⟨rfl, unhide hb⟩
    · cases e0
      · cases e2
        · go_enter Try.func17, Try.ntmps17
          go_wp2_with (first
            | (go_at_call 15; refine (right_any _ _ _).mono ?_; rintro e w' ⟨rfl, hb⟩; obtain ⟨⟨c0, c1, f0, f1⟩, hb'⟩ := unhide (HS hb); replace hb := hide hb'; clear hb')
            | (go_at_call 13; refine (key_any _ _).mono ?_; rintro e w' ⟨rfl, rfl⟩))
          go_ret
          rw [unhide Hr]
          exact ⟨rfl, unhide hb⟩
        · go_enter Try.func17, Try.ntmps17
          go_wp2_with (first
            | (go_at_call 15; refine (right_any _ _ _).mono ?_; rintro e w' ⟨rfl, hb⟩; obtain ⟨⟨c0, c1, f0, f1⟩, hb'⟩ := unhide (HS hb); replace hb := hide hb'; clear hb')
            | (go_at_call 13; refine (key_any _ _).mono ?_; rintro e w' ⟨rfl, rfl⟩))
          go_ret
          rw [unhide Hr]
          exact ⟨rfl, unhide hb⟩
      · go_enter Try.func17, Try.ntmps17
        go_wp2_with (first
          | (go_at_call 15; refine (right_any _ _ _).mono ?_; rintro e w' ⟨rfl, hb⟩; obtain ⟨⟨c0, c1, f0, f1⟩, hb'⟩ := unhide (HS hb); replace hb := hide hb'; clear hb')
          | (go_at_call 13; refine (key_any _ _).mono ?_; rintro e w' ⟨rfl, rfl⟩))
        go_ret
        rw [unhide Hr]
        exact ⟨rfl, unhide hb⟩

end

end Go.Proofs.Ytejceloahonelaa
