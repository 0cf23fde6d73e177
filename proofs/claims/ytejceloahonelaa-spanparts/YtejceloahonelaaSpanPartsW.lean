/-
  The walk of the statement SpanParts.
-/
import Derived.Test.YtejceloahonelaaView
namespace Go.Proofs.Ytejceloahonelaa
open Go.RowKit
set_option linter.unusedVariables false

section
set_option maxRecDepth 100000
set_option maxHeartbeats 1000000

theorem walkSpanParts0 (f t a k : ByteArray) (w : World) : Calls Try.prog 6 #[.agg #[.string f, .string t], .string a, .string k] w fun e w' => e = .returned (.bool true) ∧ Below w.heap.size w w' := by
  have e0 : (t.toList == []) = eqB t emp := by unfold eqB; rw [emp_toList]
  have e1 : (a.toList == f.toList) = eqB a f := rfl
  have H0 := hide (Sp.new w f t 23)
  go_enter Try.func6, Try.ntmps6
  go_wp2_with fail
  refine (fits_any _ _ _).mono ?_
  rintro e w1 ⟨rfl, hb⟩
  have S3 := hide ((unhide H0).later hb)
  have HB := hide (below_alloc _ hb)
  clear hb H0
  obtain ⟨a0, a1, af0, af1⟩ := unhide S3
  cases hf : fitsB f t
  · go_wp2_with fail
    refine (alive_any _).mono ?_
    rintro e wz ⟨rfl, hb⟩
    have HZ := hide (bstep (unhide HB) hb)
    clear hb
    go_wp2_with fail
    go_ret
    exact ⟨rfl, unhide HZ⟩
  · by_cases ha : 200 < a.size
    · go_wp2_with fail
      refine (alive_any _).mono ?_
      rintro e wz ⟨rfl, hb⟩
      have HZ := hide (bstep (unhide HB) hb)
      clear hb
      go_wp2_with fail
      go_ret
      exact ⟨rfl, unhide HZ⟩
    · by_cases hk : 200 < k.size
      · go_wp2_with fail
        refine (alive_any _).mono ?_
        rintro e wz ⟨rfl, hb⟩
        have HZ := hide (bstep (unhide HB) hb)
        clear hb
        go_wp2_with fail
        go_ret
        exact ⟨rfl, unhide HZ⟩
      · generalize he : eqB t emp = q0 at e0
        cases q0
        · cases hh : hasB f t a
          · go_wp2_with fail
            refine (has_any _ _ _ _).mono ?_
            rintro e w2 ⟨rfl, hb⟩
            replace S3 := hide ((unhide S3).later hb)
            replace HB := hide (bstep (unhide HB) hb)
            clear hb a0 a1 af0 af1
            obtain ⟨a0, a1, af0, af1⟩ := unhide S3
            go_wp2_with fail
            refine (alive_any _).mono ?_
            rintro e wz ⟨rfl, hb⟩
            have HZ := hide (bstep (unhide HB) hb)
            clear hb
            go_wp2_with fail
            go_ret
            exact ⟨rfl, unhide HZ⟩
          · generalize hq : eqB a f = q1 at e1
            cases q1
            · have hp := hide (parts (f := f) (t := t) (a := a) (by rintro rfl; rw [eqB_self] at he; exact absurd he (by simp)) hh (by rintro rfl; rw [eqB_self] at hq; exact absurd hq (by simp)) k)
              go_wp2_with fail
              refine (has_any _ _ _ _).mono ?_
              rintro e w2 ⟨rfl, hb⟩
              replace S3 := hide ((unhide S3).later hb)
              replace HB := hide (bstep (unhide HB) hb)
              clear hb a0 a1 af0 af1
              obtain ⟨a0, a1, af0, af1⟩ := unhide S3
              obtain ⟨p1, p2, p3, p4, p5, p6, p7, p8⟩ := unhide hp
              have Hp4 := hide p4
              have Hp5 := hide p5
              clear p4 p5
              have a0' : ∀ o, (w2.alloc o).cell? ⟨w.heap.size, 0, none⟩ = some (.string f) := fun o => ((unhide S3).alloc o).c0
              have a1' : ∀ o, (w2.alloc o).cell? ⟨w.heap.size, 1, none⟩ = some (.string t) := fun o => ((unhide S3).alloc o).c1
              have S8 := hide ((Sp.new w2 f a 23).alloc (.cells #[.string a, .string t] 23))
              have S9 : Hid (Sp ((w2.alloc (.cells #[.string f, .string a] 23)).alloc (.cells #[.string a, .string t] 23)) (w2.heap.size + 1) a t) := by
                have := Sp.new (w2.alloc (.cells #[.string f, .string a] 23)) a t 23
                simpa [Hid] using this
              replace S3 := hide (((unhide S3).alloc (.cells #[.string f, .string a] 23)).alloc (.cells #[.string a, .string t] 23))
              replace HB := hide (((unhide HB).alloc (unhide HB).size (.cells #[.string f, .string a] 23)).alloc ((unhide HB).alloc (unhide HB).size (.cells #[.string f, .string a] 23)).size (.cells #[.string a, .string t] 23))
              go_wp2_with fail
              refine (has_any _ _ _ _).mono ?_
              rintro e w3 ⟨rfl, hb⟩
              replace S3 := hide ((unhide S3).later hb)
              replace S8 := hide ((unhide S8).later hb)
              replace S9 := hide ((unhide S9).later hb)
              replace HB := hide (bstep (unhide HB) hb)
              clear hb
              obtain ⟨a0, a1, af0, af1⟩ := unhide S3
              obtain ⟨b0, b1, bf0, bf1⟩ := unhide S8
              obtain ⟨c0, c1, cf0, cf1⟩ := unhide S9
              clear a0' a1'
              go_wp2_with fail
              refine (has_any _ _ _ _).mono ?_
              rintro e w4 ⟨rfl, hb⟩
              replace S3 := hide ((unhide S3).later hb)
              replace S8 := hide ((unhide S8).later hb)
              replace S9 := hide ((unhide S9).later hb)
              replace HB := hide (bstep (unhide HB) hb)
              clear hb
              obtain ⟨a0, a1, af0, af1⟩ := unhide S3
              obtain ⟨b0, b1, bf0, bf1⟩ := unhide S8
              obtain ⟨c0, c1, cf0, cf1⟩ := unhide S9
              go_wp2_with fail
              refine (clip_any _ _ _ _ _).mono ?_
              rintro e w5 ⟨rfl, hb⟩
              replace S3 := hide ((unhide S3).later hb)
              replace S8 := hide ((unhide S8).later hb)
              replace S9 := hide ((unhide S9).later hb)
              replace HB := hide (bstep (unhide HB) hb)
              clear hb
              obtain ⟨a0, a1, af0, af1⟩ := unhide S3
              obtain ⟨b0, b1, bf0, bf1⟩ := unhide S8
              obtain ⟨c0, c1, cf0, cf1⟩ := unhide S9
              rw [p6, p7, p8]
              replace S3 := hide ((unhide S3).alloc (.cells #[.string f, .string a] 23))
              replace S8 := hide ((unhide S8).alloc (.cells #[.string f, .string a] 23))
              replace S9 := hide ((unhide S9).alloc (.cells #[.string f, .string a] 23))
              have S12 := hide (Sp.new w5 f a 23)
              replace HB := hide ((unhide HB).alloc (unhide HB).size (.cells #[.string f, .string a] 23))
              go_wp2_with fail
              refine (alive_any _).mono ?_
              rintro e w6 ⟨rfl, hb⟩
              replace S3 := hide ((unhide S3).later hb)
              replace S8 := hide ((unhide S8).later hb)
              replace S9 := hide ((unhide S9).later hb)
              replace S12 := hide ((unhide S12).later hb)
              replace HB := hide (bstep (unhide HB) hb)
              clear hb
              obtain ⟨a0, a1, af0, af1⟩ := unhide S3
              obtain ⟨b0, b1, bf0, bf1⟩ := unhide S8
              obtain ⟨c0, c1, cf0, cf1⟩ := unhide S9
              obtain ⟨d0, d1, df0, df1⟩ := unhide S12
              go_wp2_with fail
              refine (right_any _ _ _).mono ?_
              rintro e w7 ⟨rfl, hb⟩
              replace S3 := hide ((unhide S3).later hb)
              replace S8 := hide ((unhide S8).later hb)
              replace S9 := hide ((unhide S9).later hb)
              replace S12 := hide ((unhide S12).later hb)
              replace HB := hide (bstep (unhide HB) hb)
              clear hb
              obtain ⟨a0, a1, af0, af1⟩ := unhide S3
              obtain ⟨b0, b1, bf0, bf1⟩ := unhide S8
              obtain ⟨c0, c1, cf0, cf1⟩ := unhide S9
              obtain ⟨d0, d1, df0, df1⟩ := unhide S12
              rw [p1]
              go_wp2_with fail
              refine (right_any _ _ _).mono ?_
              rintro e w8 ⟨rfl, hb⟩
              replace S3 := hide ((unhide S3).later hb)
              replace S8 := hide ((unhide S8).later hb)
              replace S9 := hide ((unhide S9).later hb)
              replace S12 := hide ((unhide S12).later hb)
              replace HB := hide (bstep (unhide HB) hb)
              clear hb
              obtain ⟨a0, a1, af0, af1⟩ := unhide S3
              obtain ⟨b0, b1, bf0, bf1⟩ := unhide S8
              obtain ⟨c0, c1, cf0, cf1⟩ := unhide S9
              obtain ⟨d0, d1, df0, df1⟩ := unhide S12
              rw [p2]
              go_wp2_with fail
              refine (meet_any _ _ _ _ _).mono ?_
              rintro e w9 ⟨rfl, hb⟩
              replace S3 := hide ((unhide S3).later hb)
              replace S8 := hide ((unhide S8).later hb)
              replace S9 := hide ((unhide S9).later hb)
              replace S12 := hide ((unhide S12).later hb)
              replace HB := hide (bstep (unhide HB) hb)
              clear hb
              obtain ⟨a0, a1, af0, af1⟩ := unhide S3
              obtain ⟨b0, b1, bf0, bf1⟩ := unhide S8
              obtain ⟨c0, c1, cf0, cf1⟩ := unhide S9
              obtain ⟨d0, d1, df0, df1⟩ := unhide S12
              rw [p3]
              go_wp2_with fail
              refine (has_any _ _ _ _).mono ?_
              rintro e w10 ⟨rfl, hb⟩
              replace S3 := hide ((unhide S3).later hb)
              replace S8 := hide ((unhide S8).later hb)
              replace S9 := hide ((unhide S9).later hb)
              replace S12 := hide ((unhide S12).later hb)
              replace HB := hide (bstep (unhide HB) hb)
              clear hb
              obtain ⟨a0, a1, af0, af1⟩ := unhide S3
              obtain ⟨b0, b1, bf0, bf1⟩ := unhide S8
              obtain ⟨c0, c1, cf0, cf1⟩ := unhide S9
              obtain ⟨d0, d1, df0, df1⟩ := unhide S12
              rw [unhide Hp4]
              have hp5 := unhide Hp5
              revert hp5
              generalize hasB f a k = x
              generalize hasB a t k = y
              intro hp5
              cases x
              · go_wp2_with fail
                go_ret
                exact ⟨rfl, unhide HB⟩
              · cases y
                · go_wp2_with fail
                  go_ret
                  exact ⟨rfl, unhide HB⟩
                · exact absurd hp5 (by simp)
            · go_wp2_with fail
              refine (has_any _ _ _ _).mono ?_
              rintro e w2 ⟨rfl, hb⟩
              replace S3 := hide ((unhide S3).later hb)
              replace HB := hide (bstep (unhide HB) hb)
              clear hb a0 a1 af0 af1
              obtain ⟨a0, a1, af0, af1⟩ := unhide S3
              go_wp2_with fail
              refine (alive_any _).mono ?_
              rintro e wz ⟨rfl, hb⟩
              have HZ := hide (bstep (unhide HB) hb)
              clear hb
              go_wp2_with fail
              go_ret
              exact ⟨rfl, unhide HZ⟩
        · go_wp2_with fail
          refine (alive_any _).mono ?_
          rintro e wz ⟨rfl, hb⟩
          have HZ := hide (bstep (unhide HB) hb)
          clear hb
          go_wp2_with fail
          go_ret
          exact ⟨rfl, unhide HZ⟩

end

theorem walkSpanParts {w : World} (v : Value) (z : ByteArray × ByteArray) (h : Spn v z) (a : ByteArray) (ha : a.size ≤ maxLen) (k : ByteArray) (hk : k.size ≤ maxLen) :
    Calls Try.prog 6 #[v, .string a, .string k] w fun e w' => e = .returned (.bool true) ∧ Below w.heap.size w w' := by
  rw [h.eq]; exact walkSpanParts0 z.1 z.2 a k w

end Go.Proofs.Ytejceloahonelaa
