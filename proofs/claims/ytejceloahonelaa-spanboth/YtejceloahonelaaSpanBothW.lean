/-
  The walk of the statement SpanBoth.
-/
import Derived.Test.YtejceloahonelaaView
import Derived.BigQuiet
namespace Go.Proofs.Ytejceloahonelaa
open Go.RowKit
set_option linter.unusedVariables false

section
set_option maxRecDepth 100000
set_option maxHeartbeats 4000000

theorem walkSpanBoth0 (f t g u k : ByteArray) (w : World) : Calls Try.prog 5 #[.agg #[.string f, .string t], .agg #[.string g, .string u], .string k] w fun e w' => e = .returned (.bool true) ∧ Below w.heap.size w w' := by
  have S3 : Hid (Sp ((w.alloc (.cells #[.string f, .string t] 23)).alloc (.cells #[.string g, .string u] 23)) w.heap.size f t) := (Sp.new w f t 23).alloc _
  have S4 : Hid (Sp ((w.alloc (.cells #[.string f, .string t] 23)).alloc (.cells #[.string g, .string u] 23)) (w.heap.size + 1) g u) := by
    have := Sp.new (w.alloc (.cells #[.string f, .string t] 23)) g u 23
    simpa [Hid] using this
  have HB : Hid (Below w.heap.size w ((w.alloc (.cells #[.string f, .string t] 23)).alloc (.cells #[.string g, .string u] 23))) := ((Below.refl _ w).alloc (Nat.le_refl _) _).alloc (by simp) _
  go_enter Try.func5, Try.ntmps5
  go_wp2_with fail
  refine (fits_any _ _ _).mono ?_
  rintro e w1 ⟨rfl, hb⟩
  replace S3 := hide ((unhide S3).later hb)
  replace S4 := hide ((unhide S4).later hb)
  replace HB := hide (bstep (unhide HB) hb)
  clear hb
  obtain ⟨a0, a1, af0, af1⟩ := unhide S3
  obtain ⟨b0, b1, bf0, bf1⟩ := unhide S4
  go_wp2_with fail
  refine (fits_any _ _ _).mono ?_
  rintro e w2 ⟨rfl, hb⟩
  replace S3 := hide ((unhide S3).later hb)
  replace S4 := hide ((unhide S4).later hb)
  replace HB := hide (bstep (unhide HB) hb)
  clear hb
  obtain ⟨a0, a1, af0, af1⟩ := unhide S3
  obtain ⟨b0, b1, bf0, bf1⟩ := unhide S4
  cases hf : fitsB f t
  · go_wp2_with fail
    refine (alive_any _).mono ?_
    rintro e wz ⟨rfl, hb⟩
    have HZ := hide (bstep (unhide HB) hb)
    clear hb
    go_wp2_with fail
    go_ret
    exact ⟨rfl, unhide HZ⟩
  · cases hg : fitsB g u
    · go_wp2_with fail
      refine (alive_any _).mono ?_
      rintro e wz ⟨rfl, hb⟩
      have HZ := hide (bstep (unhide HB) hb)
      clear hb
      go_wp2_with fail
      go_ret
      exact ⟨rfl, unhide HZ⟩
    · by_cases hk : 200 < k.size
      · go_wp2_with fail
        refine (alive_any _).mono ?_
        rintro e wz ⟨rfl, hb⟩
        have HZ := hide (bstep (unhide HB) hb)
        clear hb
        go_wp2_with fail
        go_ret
        exact ⟨rfl, unhide HZ⟩
      · -- what is used of Clip
        have HC1 := hide (fun w => clip_any f t g u w)
        have HC2 : Hid (∀ w, Calls Try.prog 11 #[.agg #[.string g, .string u], .agg #[.string f, .string t]] w fun e w' => e = .returned (.tuple #[.agg #[.string (clipF f t g u), .string (clipT f t g u)], .bool (clipB f t g u)]) ∧ Below w.heap.size w w') := fun w => by
          have := clip_any g u f t w
          rw [clipF_sym, clipT_sym, clip_sym] at this; exact this
        have HC3 : Hid (clipB f t g u = true → ∀ w, Calls Try.prog 11 #[.agg #[.string (clipF f t g u), .string (clipT f t g u)], .agg #[.string f, .string t]] w fun e w' => e = .returned (.tuple #[.agg #[.string (clipF f t g u), .string (clipT f t g u)], .bool true]) ∧ Below w.heap.size w w') := fun h w => by
          have := clip_any (clipF f t g u) (clipT f t g u) f t w
          obtain ⟨e1, e2, e3⟩ := clip_again h
          rw [e1, e2, e3] at this; exact this
        have hM1 : Hid (∀ w, Calls Try.prog 19 #[.agg #[.string f, .string t], .agg #[.string g, .string u]] w fun e w' => e = .returned (.bool (clipB f t g u)) ∧ Below w.heap.size w w') := fun w => meet_any f t g u w
        have hM2 : Hid (∀ w, Calls Try.prog 19 #[.agg #[.string g, .string u], .agg #[.string f, .string t]] w fun e w' => e = .returned (.bool (clipB f t g u)) ∧ Below w.heap.size w w') := fun w => by
          have := meet_any g u f t w
          rw [clip_sym] at this; exact this
        have hK : Hid (∀ w, Calls Try.prog 13 #[.string k] w fun e w' => e = .returned (.bool (keyB k)) ∧ Below w.heap.size w w') := fun w => (key_any k w).mono fun _ _ ⟨he, hw⟩ => ⟨he, hw ▸ Below.refl _ _⟩
        have hA : Hid (∀ w, Calls Try.prog 24 #[] w fun e w' => e = .returned (.agg #[.string aa, .string brace]) ∧ Below w.heap.size w w') := all_any
        have hH1 : Hid (∀ w, Calls Try.prog 17 #[.agg #[.string aa, .string brace], .string k] w fun e w' => e = .returned (.bool (keyB k)) ∧ Below w.heap.size w w') := fun w => by
          have := has_any aa brace k w
          rw [all_has] at this; exact this
        have hH2 : Hid (∀ w, Calls Try.prog 17 #[.agg #[.string (clipF f t g u), .string (clipT f t g u)], .string k] w fun e w' => e = .returned (.bool (hasB f t k && hasB g u k)) ∧ Below w.heap.size w w') := fun w => by
          have := has_any (clipF f t g u) (clipT f t g u) k w
          rw [both] at this; exact this
        have hH3 : Hid (∀ w, Calls Try.prog 17 #[.agg #[.string f, .string t], .string k] w fun e w' => e = .returned (.bool (hasB f t k)) ∧ Below w.heap.size w w') := fun w => has_any f t k w
        have hH4 : Hid (∀ w, Calls Try.prog 17 #[.agg #[.string g, .string u], .string k] w fun e w' => e = .returned (.bool (hasB g u k)) ∧ Below w.heap.size w w') := fun w => has_any g u k w
        have HR : Hid (clipB f t g u = true → ∀ w, Calls Try.prog 15 #[.agg #[.string (clipF f t g u), .string (clipT f t g u)]] w fun e w' => e = .returned (.bool true) ∧ Below w.heap.size w w') := fun h w => by
          have := right_any (clipF f t g u) (clipT f t g u) w
          rw [clip_right h] at this; exact this
        have HF : Hid (clipB f t g u = true → clipF f t g u = Lib.maxS f g) := fun h => by unfold clipF; rw [h]; rfl
        have HE : Hid (clipB f t g u = false → clipF f t g u = emp ∧ clipT f t g u = emp) := fun h => by unfold clipF clipT; rw [h]; exact ⟨rfl, rfl⟩
        have HX : Hid (clipB f t g u = true → hasB f t (Lib.maxS f g) = true ∧ hasB g u (Lib.maxS f g) = true) := fun h => by
          have := (clipB_iff f t g u).1 h
          rw [has_iff, has_iff]; exact this
        generalize clipF f t g u = x at *
        generalize clipT f t g u = y at *
        generalize clipB f t g u = c at *
        generalize aa = av at *
        generalize brace = bv at *
        generalize keyB k = kk at *
        generalize hasB f t k = h1 at *
        generalize hasB g u k = h2 at *
        go_wp2_with fail
        refine (unhide HC1 _).mono ?_
        rintro e w3 ⟨rfl, hb⟩
        replace S3 := hide ((unhide S3).later hb)
        replace S4 := hide ((unhide S4).later hb)
        replace HB := hide (bstep (unhide HB) hb)
        clear hb
        obtain ⟨a0, a1, af0, af1⟩ := unhide S3
        obtain ⟨b0, b1, bf0, bf1⟩ := unhide S4
        have S9 := hide (Sp.new w3 x y 23)
        have a0' : ∀ o, (w3.alloc o).cell? ⟨w.heap.size, 0, none⟩ = some (.string f) := fun o => ((unhide S3).alloc o).c0
        have a1' : ∀ o, (w3.alloc o).cell? ⟨w.heap.size, 1, none⟩ = some (.string t) := fun o => ((unhide S3).alloc o).c1
        have b0' : ∀ o, (w3.alloc o).cell? ⟨w.heap.size + 1, 0, none⟩ = some (.string g) := fun o => ((unhide S4).alloc o).c0
        have b1' : ∀ o, (w3.alloc o).cell? ⟨w.heap.size + 1, 1, none⟩ = some (.string u) := fun o => ((unhide S4).alloc o).c1
        replace S3 := hide ((unhide S3).alloc (.cells #[.string x, .string y] 23))
        replace S4 := hide ((unhide S4).alloc (.cells #[.string x, .string y] 23))
        replace HB := hide ((unhide HB).alloc (unhide HB).size (.cells #[.string x, .string y] 23))
        go_wp2_with fail
        refine (unhide HC2 _).mono ?_
        rintro e w4 ⟨rfl, hb⟩
        replace S3 := hide ((unhide S3).later hb)
        replace S4 := hide ((unhide S4).later hb)
        replace HB := hide (bstep (unhide HB) hb)
        replace S9 := hide ((unhide S9).later hb)
        clear a0' a1' b0' b1' hb a0 a1 af0 af1 b0 b1 bf0 bf1
        have S10 := hide (Sp.new w4 x y 23)
        replace S3 := hide ((unhide S3).alloc (.cells #[.string x, .string y] 23))
        replace S4 := hide ((unhide S4).alloc (.cells #[.string x, .string y] 23))
        replace S9 := hide ((unhide S9).alloc (.cells #[.string x, .string y] 23))
        replace HB := hide ((unhide HB).alloc (unhide HB).size (.cells #[.string x, .string y] 23))
        go_wp2_with fail
        generalize w4.alloc (.cells #[.string x, .string y] 23) = w5 at *
        have q30 := fun i : Later w5 => ((unhide S3).later i.below).c0
        have q31 := fun i : Later w5 => ((unhide S3).later i.below).c1
        have q40 := fun i : Later w5 => ((unhide S4).later i.below).c0
        have q41 := fun i : Later w5 => ((unhide S4).later i.below).c1
        have q90 := fun i : Later w5 => ((unhide S9).later i.below).c0
        have q91 := fun i : Later w5 => ((unhide S9).later i.below).c1
        have q10 := fun i : Later w5 => ((unhide S10).later i.below).c0
        have q11 := fun i : Later w5 => ((unhide S10).later i.below).c1
        have inst : Nonempty (Later w5) := ⟨⟨w5, Below.refl _ _⟩⟩
        refine wp_region_later (by kernel_rfl) (by kernel_rfl) ?_
        repeat (first
          | go_big_quiet_step ((go_at_call 13; exact calls_later (unhide hK _)))
          | go_big_quiet_step ((go_at_call 24; exact calls_later (unhide hA _)))
          | go_big_quiet_step ((go_at_call 19; with_reducible exact calls_later (unhide hM1 _)))
          | go_big_quiet_step ((go_at_call 19; with_reducible exact calls_later (unhide hM2 _)))
          | go_big_quiet_step ((go_at_call 17; with_reducible exact calls_later (unhide hH1 _)))
          | go_big_quiet_step ((go_at_call 17; with_reducible exact calls_later (unhide hH2 _)))
          | go_big_quiet_step ((go_at_call 17; with_reducible exact calls_later (unhide hH3 _)))
          | go_big_quiet_step ((go_at_call 17; with_reducible exact calls_later (unhide hH4 _)))
          | quiet_step (fail))
        refine wpQuiet_nil ?_
        intro w' hw'
        obtain ⟨i, rfl⟩ := hw'
        replace S3 := hide ((unhide S3).later i.below)
        replace S4 := hide ((unhide S4).later i.below)
        replace S9 := hide ((unhide S9).later i.below)
        replace S10 := hide ((unhide S10).later i.below)
        replace HB := hide ((unhide HB).trans (i.below.mono (unhide HB).size))
        clear q30 q31 q40 q41 q90 q91 q10 q11
        generalize i.val = w6 at *
        clear i inst
        have hmx : ∀ (w : World) ts t, Sem.run Try.prog (Builtin.max_ ts t #[.string f, .string g]) w = .ok (.string (Lib.maxS f g)) w := fun w ts t => Lib.run_max_strs w ts t f g
        have HMX := hide hmx
        clear hmx
        have HX1 : Hid (c = true → ∀ w, Calls Try.prog 17 #[.agg #[.string f, .string t], .string x] w fun e w' => e = .returned (.bool true) ∧ Below w.heap.size w w') := fun h w => by
          have := has_any f t x w
          rw [unhide HF h, (unhide HX h).1] at this
          rw [unhide HF h]; exact this
        have HX2 : Hid (c = true → ∀ w, Calls Try.prog 17 #[.agg #[.string g, .string u], .string x] w fun e w' => e = .returned (.bool true) ∧ Below w.heap.size w w') := fun h w => by
          have := has_any g u x w
          rw [unhide HF h, (unhide HX h).2] at this
          rw [unhide HF h]; exact this
        cases h1
        all_goals
          go_wp2_with fail
          have q30 := fun i : Later w6 => ((unhide S3).later i.below).c0
          have q31 := fun i : Later w6 => ((unhide S3).later i.below).c1
          have q40 := fun i : Later w6 => ((unhide S4).later i.below).c0
          have q41 := fun i : Later w6 => ((unhide S4).later i.below).c1
          have q90 := fun i : Later w6 => ((unhide S9).later i.below).c0
          have q91 := fun i : Later w6 => ((unhide S9).later i.below).c1
          have q10 := fun i : Later w6 => ((unhide S10).later i.below).c0
          have q11 := fun i : Later w6 => ((unhide S10).later i.below).c1
          have inst : Nonempty (Later w6) := ⟨⟨w6, Below.refl _ _⟩⟩
          refine wp_region_later (by kernel_rfl) (by kernel_rfl) ?_
          repeat (first
            | go_big_quiet_step ((go_at_call 13; exact calls_later (unhide hK _)))
            | go_big_quiet_step ((go_at_call 24; exact calls_later (unhide hA _)))
            | go_big_quiet_step ((go_at_call 19; with_reducible exact calls_later (unhide hM1 _)))
            | go_big_quiet_step ((go_at_call 19; with_reducible exact calls_later (unhide hM2 _)))
            | go_big_quiet_step ((go_at_call 17; with_reducible exact calls_later (unhide hH1 _)))
            | go_big_quiet_step ((go_at_call 17; with_reducible exact calls_later (unhide hH2 _)))
            | go_big_quiet_step ((go_at_call 17; with_reducible exact calls_later (unhide hH3 _)))
            | go_big_quiet_step ((go_at_call 17; with_reducible exact calls_later (unhide hH4 _)))
            | quiet_step (fail))
          refine wpQuiet_nil ?_
          intro w' hw'
          obtain ⟨i, rfl⟩ := hw'
          replace S3 := hide ((unhide S3).later i.below)
          replace S4 := hide ((unhide S4).later i.below)
          replace S9 := hide ((unhide S9).later i.below)
          replace S10 := hide ((unhide S10).later i.below)
          replace HB := hide ((unhide HB).trans (i.below.mono (unhide HB).size))
          clear q30 q31 q40 q41 q90 q91 q10 q11
          generalize i.val = w7 at *
          clear i inst
          cases c
          · obtain ⟨ex, ey⟩ := unhide HE rfl
            go_wp2_with fail
            refine (alive_any _).mono ?_
            rintro e w8 ⟨rfl, hb⟩
            have HZ := hide (bstep (unhide HB) hb)
            obtain ⟨c0, c1, cf0, cf1⟩ := (unhide S9).later hb
            clear hb
            subst ex ey
            have em : emp.toList = [] := emp_toList
            go_wp2
            go_ret
            exact ⟨rfl, unhide HZ⟩
          · obtain ⟨a0, a1, af0, af1⟩ := unhide S3
            obtain ⟨c0, c1, cf0, cf1⟩ := unhide S9
            go_wp2_with fail
            refine (unhide HC3 (by simp) _).mono ?_
            rintro e w8 ⟨rfl, hb⟩
            replace S3 := hide ((unhide S3).later hb)
            replace S4 := hide ((unhide S4).later hb)
            replace HB := hide (bstep (unhide HB) hb)
            replace S9 := hide ((unhide S9).later hb)
            clear hb a0 a1 af0 af1 c0 c1 cf0 cf1
            have a0' : ∀ o, (w8.alloc o).cell? ⟨w.heap.size, 0, none⟩ = some (.string f) := fun o => ((unhide S3).alloc o).c0
            have b0' : ∀ o, (w8.alloc o).cell? ⟨w.heap.size + 1, 0, none⟩ = some (.string g) := fun o => ((unhide S4).alloc o).c0
            have S13 := hide (Sp.new w8 x y 23)
            have hmx := unhide HMX
            rw [← unhide HF (by simp)] at hmx
            replace S3 := hide ((unhide S3).alloc (.cells #[.string x, .string y] 23))
            replace S4 := hide ((unhide S4).alloc (.cells #[.string x, .string y] 23))
            replace S9 := hide ((unhide S9).alloc (.cells #[.string x, .string y] 23))
            replace HB := hide ((unhide HB).alloc (unhide HB).size (.cells #[.string x, .string y] 23))
            go_wp2_with fail
            refine (alive_any _).mono ?_
            rintro e w9 ⟨rfl, hb⟩
            replace S3 := hide ((unhide S3).later hb)
            replace S4 := hide ((unhide S4).later hb)
            replace HB := hide (bstep (unhide HB) hb)
            replace S9 := hide ((unhide S9).later hb)
            replace S13 := hide ((unhide S13).later hb)
            clear hb a0' b0'
            obtain ⟨c0, c1, cf0, cf1⟩ := unhide S9
            go_wp2_with fail
            refine (unhide HR (by simp) _).mono ?_
            rintro e w10 ⟨rfl, hb⟩
            replace S3 := hide ((unhide S3).later hb)
            replace S4 := hide ((unhide S4).later hb)
            replace HB := hide (bstep (unhide HB) hb)
            replace S9 := hide ((unhide S9).later hb)
            replace S13 := hide ((unhide S13).later hb)
            clear hb c0 c1 cf0 cf1
            obtain ⟨a0, a1, af0, af1⟩ := unhide S3
            obtain ⟨c0, c1, cf0, cf1⟩ := unhide S9
            obtain ⟨d0, d1, df0, df1⟩ := unhide S13
            go_wp2_with fail
            refine (unhide HX1 (by simp) _).mono ?_
            rintro e w11 ⟨rfl, hb⟩
            replace S3 := hide ((unhide S3).later hb)
            replace S4 := hide ((unhide S4).later hb)
            replace HB := hide (bstep (unhide HB) hb)
            clear hb a0 a1 af0 af1 c0 c1 cf0 cf1 d0 d1 df0 df1
            obtain ⟨b0, b1, bf0, bf1⟩ := unhide S4
            go_wp2_with fail
            refine (unhide HX2 (by simp) _).mono ?_
            rintro e w12 ⟨rfl, hb⟩
            replace S3 := hide ((unhide S3).later hb)
            replace S4 := hide ((unhide S4).later hb)
            replace HB := hide (bstep (unhide HB) hb)
            clear hb
            go_wp2_with fail
            go_ret
            exact ⟨rfl, unhide HB⟩

end

theorem walkSpanBoth {w : World} (v : Value) (z : ByteArray × ByteArray) (h : Spn v z) (v' : Value) (z' : ByteArray × ByteArray) (h' : Spn v' z') (k : ByteArray) (hk : k.size ≤ maxLen) :
    Calls Try.prog 5 #[v, v', .string k] w fun e w' => e = .returned (.bool true) ∧ Below w.heap.size w w' := by
  rw [h.eq, h'.eq]; exact walkSpanBoth0 z.1 z.2 z'.1 z'.2 k w

end Go.Proofs.Ytejceloahonelaa
