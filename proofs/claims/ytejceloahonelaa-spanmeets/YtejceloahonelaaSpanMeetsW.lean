/-
  The walk of the statement SpanMeets.
-/
import Derived.Test.YtejceloahonelaaView
import Derived.BigQuiet
namespace Go.Proofs.Ytejceloahonelaa
open Go.RowKit
set_option linter.unusedVariables false

section
set_option maxRecDepth 100000
set_option maxHeartbeats 2000000

theorem walkSpanMeets0 (f t g u k : ByteArray) (w : World) : Calls Try.prog 7 #[.agg #[.string f, .string t], .agg #[.string g, .string u], .string k] w fun e w' => e = .returned (.bool true) ∧ Below w.heap.size w w' := by
  have S3 : Hid (Sp ((w.alloc (.cells #[.string f, .string t] 23)).alloc (.cells #[.string g, .string u] 23)) w.heap.size f t) := (Sp.new w f t 23).alloc _
  have S4 : Hid (Sp ((w.alloc (.cells #[.string f, .string t] 23)).alloc (.cells #[.string g, .string u] 23)) (w.heap.size + 1) g u) := by
    have := Sp.new (w.alloc (.cells #[.string f, .string t] 23)) g u 23
    simpa [Hid] using this
  have HB : Hid (Below w.heap.size w ((w.alloc (.cells #[.string f, .string t] 23)).alloc (.cells #[.string g, .string u] 23))) := ((Below.refl _ w).alloc (Nat.le_refl _) _).alloc (by simp) _
  go_enter Try.func7, Try.ntmps7
  go_wp2_with fail
  refine (fits_any _ _ _).mono ?_
  rintro e w1 ⟨rfl, hb⟩
  replace S3 := hide ((unhide S3).later hb)
  replace S4 := hide ((unhide S4).later hb)
  replace HB := hide (bstep (unhide HB) hb)
  clear hb
  obtain ⟨a0, a1, af0, af1⟩ := unhide S3
  obtain ⟨b0, b1, bf0, bf1⟩ := unhide S4
  go_wp2_with fail
  refine (fits_any _ _ _).mono ?_
  rintro e w2 ⟨rfl, hb⟩
  replace S3 := hide ((unhide S3).later hb)
  replace S4 := hide ((unhide S4).later hb)
  replace HB := hide (bstep (unhide HB) hb)
  clear hb
  obtain ⟨a0, a1, af0, af1⟩ := unhide S3
  obtain ⟨b0, b1, bf0, bf1⟩ := unhide S4
  cases hf : fitsB f t
  · go_wp2_with fail
    refine (alive_any _).mono ?_
    rintro e wz ⟨rfl, hb⟩
    have HZ := hide (bstep (unhide HB) hb)
    clear hb
    go_wp2_with fail
    go_ret
    exact ⟨rfl, unhide HZ⟩
  · cases hg : fitsB g u
    · go_wp2_with fail
      refine (alive_any _).mono ?_
      rintro e wz ⟨rfl, hb⟩
      have HZ := hide (bstep (unhide HB) hb)
      clear hb
      go_wp2_with fail
      go_ret
      exact ⟨rfl, unhide HZ⟩
    · by_cases hk : 200 < k.size
      · go_wp2_with fail
        refine (alive_any _).mono ?_
        rintro e wz ⟨rfl, hb⟩
        have HZ := hide (bstep (unhide HB) hb)
        clear hb
        go_wp2_with fail
        go_ret
        exact ⟨rfl, unhide HZ⟩
      · have a0' : ∀ o, (w2.alloc o).cell? ⟨w.heap.size, 0, none⟩ = some (.string f) := fun o => ((unhide S3).alloc o).c0
        have a1' : ∀ o, (w2.alloc o).cell? ⟨w.heap.size, 1, none⟩ = some (.string t) := fun o => ((unhide S3).alloc o).c1
        have b0' : ∀ o, (w2.alloc o).cell? ⟨w.heap.size + 1, 0, none⟩ = some (.string g) := fun o => ((unhide S4).alloc o).c0
        have b1' : ∀ o, (w2.alloc o).cell? ⟨w.heap.size + 1, 1, none⟩ = some (.string u) := fun o => ((unhide S4).alloc o).c1
        have S9 := hide (Sp.new w2 k emp 23)
        replace S3 := hide ((unhide S3).alloc (.cells #[.string k, .string emp] 23))
        replace S4 := hide ((unhide S4).alloc (.cells #[.string k, .string emp] 23))
        replace HB := hide ((unhide HB).alloc (unhide HB).size (.cells #[.string k, .string emp] 23))
        have hcm := @clip_meets f t g u
        have hM4 : ∀ w, Calls Try.prog 19 #[.agg #[.string (clipF f t g u), .string (clipT f t g u)], .agg #[.string f, .string t]] w fun e w' => e = .returned (.bool (clipB (clipF f t g u) (clipT f t g u) f t)) ∧ Below w.heap.size w w' := fun w => meet_any _ _ _ _ w
        have hM5 : ∀ w, Calls Try.prog 19 #[.agg #[.string (clipF f t g u), .string (clipT f t g u)], .agg #[.string g, .string u]] w fun e w' => e = .returned (.bool (clipB (clipF f t g u) (clipT f t g u) g u)) ∧ Below w.heap.size w w' := fun w => meet_any _ _ _ _ w
        have HM : Hid (clipB f t g u = true → (∀ w, Calls Try.prog 19 #[.agg #[.string (clipF f t g u), .string (clipT f t g u)], .agg #[.string f, .string t]] w fun e w' => e = .returned (.bool true) ∧ Below w.heap.size w w') ∧ ∀ w, Calls Try.prog 19 #[.agg #[.string (clipF f t g u), .string (clipT f t g u)], .agg #[.string g, .string u]] w fun e w' => e = .returned (.bool true) ∧ Below w.heap.size w w') := fun h => by
          rw [(hcm h).1] at hM4; rw [(hcm h).2] at hM5; exact ⟨hM4, hM5⟩
        clear hM4 hM5 hcm
        have HC := hide (fun w => clip_any f t g u w)
        generalize clipF f t g u = x at HM HC
        generalize clipT f t g u = y at HM HC
        generalize clipB f t g u = c at HM HC
        go_wp2_with fail
        refine (unhide HC _).mono ?_
        rintro e w3 ⟨rfl, hb⟩
        replace S3 := hide ((unhide S3).later hb)
        replace S4 := hide ((unhide S4).later hb)
        replace HB := hide (bstep (unhide HB) hb)
        replace S9 := hide ((unhide S9).later hb)
        clear hb
        obtain ⟨a0, a1, af0, af1⟩ := unhide S3
        obtain ⟨b0, b1, bf0, bf1⟩ := unhide S4
        clear a0' a1' b0' b1'
        have S10 := hide (Sp.new w3 x y 23)
        have a0' : ∀ o, (w3.alloc o).cell? ⟨w.heap.size, 0, none⟩ = some (.string f) := fun o => ((unhide S3).alloc o).c0
        have a1' : ∀ o, (w3.alloc o).cell? ⟨w.heap.size, 1, none⟩ = some (.string t) := fun o => ((unhide S3).alloc o).c1
        replace S3 := hide ((unhide S3).alloc (.cells #[.string x, .string y] 23))
        replace S4 := hide ((unhide S4).alloc (.cells #[.string x, .string y] 23))
        replace S9 := hide ((unhide S9).alloc (.cells #[.string x, .string y] 23))
        replace HB := hide ((unhide HB).alloc (unhide HB).size (.cells #[.string x, .string y] 23))
        go_wp2_with fail
        refine (right_any _ _ _).mono ?_
        rintro e w4 ⟨rfl, hb⟩
        replace S3 := hide ((unhide S3).later hb)
        replace S4 := hide ((unhide S4).later hb)
        replace HB := hide (bstep (unhide HB) hb)
        replace S9 := hide ((unhide S9).later hb)
        replace S10 := hide ((unhide S10).later hb)
        clear hb
        obtain ⟨a0, a1, af0, af1⟩ := unhide S3
        obtain ⟨b0, b1, bf0, bf1⟩ := unhide S4
        clear a0' a1' a0 a1 af0 af1 b0 b1 bf0 bf1
        have hM1 : ∀ w, Calls Try.prog 19 #[.agg #[.string k, .string emp], .agg #[.string f, .string t]] w fun e w' => e = .returned (.bool (hasB f t k)) ∧ Below w.heap.size w w' := fun w => by have := meet_any k emp f t w; rw [clip_one] at this; exact this
        have hH : ∀ w, Calls Try.prog 17 #[.agg #[.string f, .string t], .string k] w fun e w' => e = .returned (.bool (hasB f t k)) ∧ Below w.heap.size w w' := fun w => has_any f t k w
        have hM2 : ∀ w, Calls Try.prog 19 #[.agg #[.string f, .string t], .agg #[.string f, .string t]] w fun e w' => e = .returned (.bool (rightB f t)) ∧ Below w.heap.size w w' := fun w => by have := meet_any f t f t w; rw [clip_self] at this; exact this
        have hM3 : ∀ w, Calls Try.prog 19 #[.agg #[.string f, .string t], .agg #[.string aa, .string brace]] w fun e w' => e = .returned (.bool (rightB f t)) ∧ Below w.heap.size w w' := fun w => by have := meet_any f t aa brace w; rw [clip_all] at this; exact this
        have hA : ∀ w, Calls Try.prog 24 #[] w fun e w' => e = .returned (.agg #[.string aa, .string brace]) ∧ Below w.heap.size w w' := all_any
        have H1 := hide hM1
        have H2 := hide hM2
        have H3 := hide hM3
        have H4 := hide hH
        have H5 := hide hA
        clear hM1 hM2 hM3 hH hA
        generalize hasB f t k = h at *
        generalize rightB f t = ok at *
        have HE : Hid (emp = ⟨#[]⟩) := rfl
        generalize emp = em at *
        generalize aa = av at *
        generalize brace = bv at *
        go_wp2_with fail
        generalize hW : w4 = W at *
        subst hW
        have q30 := fun i : Later w4 => ((unhide S3).later i.below).c0
        have q31 := fun i : Later w4 => ((unhide S3).later i.below).c1
        have q40 := fun i : Later w4 => ((unhide S4).later i.below).c0
        have q41 := fun i : Later w4 => ((unhide S4).later i.below).c1
        have q90 := fun i : Later w4 => ((unhide S9).later i.below).c0
        have q91 := fun i : Later w4 => ((unhide S9).later i.below).c1
        have q10 := fun i : Later w4 => ((unhide S10).later i.below).c0
        have q11 := fun i : Later w4 => ((unhide S10).later i.below).c1
        have inst : Nonempty (Later w4) := ⟨⟨w4, Below.refl _ _⟩⟩
        cases c
        · refine wp_region_later (by kernel_rfl) (by kernel_rfl) ?_
          repeat (first
            | go_big_quiet_step ((go_at_call 10; exact calls_later (alive_any _)))
            | go_big_quiet_step ((go_at_call 17; exact calls_later (unhide H4 _)))
            | go_big_quiet_step ((go_at_call 24; exact calls_later (unhide H5 _)))
            | go_big_quiet_step ((go_at_call 19; with_reducible exact calls_later (unhide H1 _)))
            | go_big_quiet_step ((go_at_call 19; with_reducible exact calls_later (unhide H2 _)))
            | go_big_quiet_step ((go_at_call 19; with_reducible exact calls_later (unhide H3 _)))
            | quiet_step (fail))
          refine wpQuiet_nil ?_
          intro w' hw'
          obtain ⟨i, rfl⟩ := hw'
          go_wp2
          go_ret
          exact ⟨rfl, (unhide HB).trans (i.below.mono (unhide HB).size)⟩
        · obtain ⟨h6, h7⟩ := unhide HM rfl
          have H6 := hide h6
          have H7 := hide h7
          clear h6 h7
          refine wp_region_later (by kernel_rfl) (by kernel_rfl) ?_
          repeat (first
            | go_big_quiet_step ((go_at_call 10; exact calls_later (alive_any _)))
            | go_big_quiet_step ((go_at_call 17; exact calls_later (unhide H4 _)))
            | go_big_quiet_step ((go_at_call 24; exact calls_later (unhide H5 _)))
            | go_big_quiet_step ((go_at_call 19; with_reducible exact calls_later (unhide H1 _)))
            | go_big_quiet_step ((go_at_call 19; with_reducible exact calls_later (unhide H2 _)))
            | go_big_quiet_step ((go_at_call 19; with_reducible exact calls_later (unhide H3 _)))
            | go_big_quiet_step ((go_at_call 19; with_reducible exact calls_later (unhide H6 _)))
            | go_big_quiet_step ((go_at_call 19; with_reducible exact calls_later (unhide H7 _)))
            | quiet_step (fail))
          refine wpQuiet_nil ?_
          intro w' hw'
          obtain ⟨i, rfl⟩ := hw'
          go_wp2
          go_ret
          exact ⟨rfl, (unhide HB).trans (i.below.mono (unhide HB).size)⟩

end

theorem walkSpanMeets {w : World} (v : Value) (z : ByteArray × ByteArray) (h : Spn v z) (v' : Value) (z' : ByteArray × ByteArray) (h' : Spn v' z') (k : ByteArray) (hk : k.size ≤ maxLen) :
    Calls Try.prog 7 #[v, v', .string k] w fun e w' => e = .returned (.bool true) ∧ Below w.heap.size w w' := by
  rw [h.eq, h'.eq]; exact walkSpanMeets0 z.1 z.2 z'.1 z'.2 k w

end Go.Proofs.Ytejceloahonelaa
