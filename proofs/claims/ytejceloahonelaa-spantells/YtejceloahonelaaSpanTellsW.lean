/-
  The walk of the statement SpanTells.
-/
import Derived.Test.YtejceloahonelaaView
import Derived.Test.YtejceloahonelaaRefC
import Derived.BigQuiet
namespace Go.Proofs.Ytejceloahonelaa
open Go.RowKit
set_option linter.unusedVariables false

section
set_option maxRecDepth 100000
set_option maxHeartbeats 4000000

theorem walkSpanTells0 (f t g u k : ByteArray) (w : World) : Calls Try.prog 3 #[.agg #[.string f, .string t], .agg #[.string g, .string u], .string k] w fun e w' => e = .returned (.bool true) ∧ Below w.heap.size w w' := by
  have S3 : Hid (Sp ((w.alloc (.cells #[.string f, .string t] 23)).alloc (.cells #[.string g, .string u] 23)) w.heap.size f t) := (Sp.new w f t 23).alloc _
  have S4 : Hid (Sp ((w.alloc (.cells #[.string f, .string t] 23)).alloc (.cells #[.string g, .string u] 23)) (w.heap.size + 1) g u) := by
    have := Sp.new (w.alloc (.cells #[.string f, .string t] 23)) g u 23
    simpa [Hid] using this
  have HB : Hid (Below w.heap.size w ((w.alloc (.cells #[.string f, .string t] 23)).alloc (.cells #[.string g, .string u] 23))) := ((Below.refl _ w).alloc (Nat.le_refl _) _).alloc (by simp) _
  go_enter Try.func3, Try.ntmps3
  go_wp2_with fail
  refine (fits_any _ _ _).mono ?_
  rintro e w1 ⟨rfl, hb⟩
  replace S3 := hide ((unhide S3).later hb)
  replace S4 := hide ((unhide S4).later hb)
  replace HB := hide (bstep (unhide HB) hb)
  clear hb
  obtain ⟨a0, a1, af0, af1⟩ := unhide S3
  obtain ⟨b0, b1, bf0, bf1⟩ := unhide S4
  go_wp2_with fail
  refine (fits_any _ _ _).mono ?_
  rintro e w2 ⟨rfl, hb⟩
  replace S3 := hide ((unhide S3).later hb)
  replace S4 := hide ((unhide S4).later hb)
  replace HB := hide (bstep (unhide HB) hb)
  clear hb
  obtain ⟨a0, a1, af0, af1⟩ := unhide S3
  obtain ⟨b0, b1, bf0, bf1⟩ := unhide S4
  cases hf : fitsB f t
  · go_wp2_with fail
    refine (alive_any _).mono ?_
    rintro e wz ⟨rfl, hb⟩
    have HZ := hide (bstep (unhide HB) hb)
    clear hb
    go_wp2_with fail
    go_ret
    exact ⟨rfl, unhide HZ⟩
  · cases hg : fitsB g u
    · go_wp2_with fail
      refine (alive_any _).mono ?_
      rintro e wz ⟨rfl, hb⟩
      have HZ := hide (bstep (unhide HB) hb)
      clear hb
      go_wp2_with fail
      go_ret
      exact ⟨rfl, unhide HZ⟩
    · by_cases hk : 200 < k.size
      · go_wp2_with fail
        refine (alive_any _).mono ?_
        rintro e wz ⟨rfl, hb⟩
        have HZ := hide (bstep (unhide HB) hb)
        clear hb
        go_wp2_with fail
        go_ret
        exact ⟨rfl, unhide HZ⟩
      · obtain ⟨sf, st⟩ := (fitsB_iff f t).1 hf
        obtain ⟨sg, su⟩ := (fitsB_iff g u).1 hg
        have HC1 := hide (fun w => clip_any f t g u w)
        have HC2 : Hid (∀ w, Calls Try.prog 12 #[.agg #[.string f, .string t], .agg #[.string g, .string u]] w fun e w' => e = .returned (.tuple #[.agg #[.string (clipF f t g u), .string (clipT f t g u)], .bool (clipB f t g u)]) ∧ Below w.heap.size w w') := fun w => refClip_any f t g u w (by omega) (by omega) (by omega) (by omega)
        have hM1 : Hid (∀ w, Calls Try.prog 19 #[.agg #[.string f, .string t], .agg #[.string g, .string u]] w fun e w' => e = .returned (.bool (clipB f t g u)) ∧ Below w.heap.size w w') := fun w => meet_any f t g u w
        have hM2 : Hid (∀ w, Calls Try.prog 20 #[.agg #[.string f, .string t], .agg #[.string g, .string u]] w fun e w' => e = .returned (.bool (clipB f t g u)) ∧ Below w.heap.size w w') := fun w => refMeet_any f t g u w (by omega) (by omega) (by omega) (by omega)
        have hK1 : Hid (∀ w, Calls Try.prog 13 #[.string k] w fun e w' => e = .returned (.bool (keyB k)) ∧ Below w.heap.size w w') := fun w => (key_any k w).mono fun _ _ ⟨he, hw⟩ => ⟨he, hw ▸ Below.refl _ _⟩
        have hK2 : Hid (∀ w, Calls Try.prog 14 #[.string k] w fun e w' => e = .returned (.bool (keyB k)) ∧ Below w.heap.size w w') := fun w => (refKey_any k w (by omega)).mono fun _ _ ⟨he, hw⟩ => ⟨he, hw ▸ Below.refl _ _⟩
        have hR1 : Hid (∀ w, Calls Try.prog 15 #[.agg #[.string f, .string t]] w fun e w' => e = .returned (.bool (rightB f t)) ∧ Below w.heap.size w w') := fun w => right_any f t w
        have hR2 : Hid (∀ w, Calls Try.prog 16 #[.agg #[.string f, .string t]] w fun e w' => e = .returned (.bool (rightB f t)) ∧ Below w.heap.size w w') := fun w => refRight_any f t w (by omega) (by omega)
        have hH1 : Hid (∀ w, Calls Try.prog 17 #[.agg #[.string f, .string t], .string k] w fun e w' => e = .returned (.bool (hasB f t k)) ∧ Below w.heap.size w w') := fun w => has_any f t k w
        have hH2 : Hid (∀ w, Calls Try.prog 18 #[.agg #[.string f, .string t], .string k] w fun e w' => e = .returned (.bool (hasB f t k)) ∧ Below w.heap.size w w') := fun w => refHas_any f t k w (by omega) (by omega) (by omega)
        generalize clipF f t g u = x at *
        generalize clipT f t g u = y at *
        generalize clipB f t g u = c at *
        generalize keyB k = kk at *
        generalize hasB f t k = hh at *
        generalize rightB f t = rr at *
        go_wp2_with fail
        refine (unhide HC1 _).mono ?_
        rintro e w3 ⟨rfl, hb⟩
        replace S3 := hide ((unhide S3).later hb)
        replace S4 := hide ((unhide S4).later hb)
        replace HB := hide (bstep (unhide HB) hb)
        clear hb
        obtain ⟨a0, a1, af0, af1⟩ := unhide S3
        obtain ⟨b0, b1, bf0, bf1⟩ := unhide S4
        have S9 := hide (Sp.new w3 x y 23)
        have a0' : ∀ o, (w3.alloc o).cell? ⟨w.heap.size, 0, none⟩ = some (.string f) := fun o => ((unhide S3).alloc o).c0
        have a1' : ∀ o, (w3.alloc o).cell? ⟨w.heap.size, 1, none⟩ = some (.string t) := fun o => ((unhide S3).alloc o).c1
        have b0' : ∀ o, (w3.alloc o).cell? ⟨w.heap.size + 1, 0, none⟩ = some (.string g) := fun o => ((unhide S4).alloc o).c0
        have b1' : ∀ o, (w3.alloc o).cell? ⟨w.heap.size + 1, 1, none⟩ = some (.string u) := fun o => ((unhide S4).alloc o).c1
        replace S3 := hide ((unhide S3).alloc (.cells #[.string x, .string y] 23))
        replace S4 := hide ((unhide S4).alloc (.cells #[.string x, .string y] 23))
        replace HB := hide ((unhide HB).alloc (unhide HB).size (.cells #[.string x, .string y] 23))
        go_wp2_with fail
        refine (unhide HC2 _).mono ?_
        rintro e w4 ⟨rfl, hb⟩
        replace S3 := hide ((unhide S3).later hb)
        replace S4 := hide ((unhide S4).later hb)
        replace HB := hide (bstep (unhide HB) hb)
        replace S9 := hide ((unhide S9).later hb)
        clear a0' a1' b0' b1' hb a0 a1 af0 af1 b0 b1 bf0 bf1
        have S10 := hide (Sp.new w4 x y 23)
        replace S3 := hide ((unhide S3).alloc (.cells #[.string x, .string y] 23))
        replace S4 := hide ((unhide S4).alloc (.cells #[.string x, .string y] 23))
        replace S9 := hide ((unhide S9).alloc (.cells #[.string x, .string y] 23))
        replace HB := hide ((unhide HB).alloc (unhide HB).size (.cells #[.string x, .string y] 23))
        go_wp2_with fail
        generalize w4.alloc (.cells #[.string x, .string y] 23) = w5 at *
        have q30 := fun i : Later w5 => ((unhide S3).later i.below).c0
        have q31 := fun i : Later w5 => ((unhide S3).later i.below).c1
        have q40 := fun i : Later w5 => ((unhide S4).later i.below).c0
        have q41 := fun i : Later w5 => ((unhide S4).later i.below).c1
        have q90 := fun i : Later w5 => ((unhide S9).later i.below).c0
        have q91 := fun i : Later w5 => ((unhide S9).later i.below).c1
        have q10 := fun i : Later w5 => ((unhide S10).later i.below).c0
        have q11 := fun i : Later w5 => ((unhide S10).later i.below).c1
        have inst : Nonempty (Later w5) := ⟨⟨w5, Below.refl _ _⟩⟩
        refine wp_region_later (by kernel_rfl) (by kernel_rfl) ?_
        repeat (first
          | go_big_quiet_step ((go_at_call 10; exact calls_later (alive_any _)))
          | go_big_quiet_step ((go_at_call 13; exact calls_later (unhide hK1 _)))
          | go_big_quiet_step ((go_at_call 14; exact calls_later (unhide hK2 _)))
          | go_big_quiet_step ((go_at_call 15; exact calls_later (unhide hR1 _)))
          | go_big_quiet_step ((go_at_call 16; exact calls_later (unhide hR2 _)))
          | go_big_quiet_step ((go_at_call 17; exact calls_later (unhide hH1 _)))
          | go_big_quiet_step ((go_at_call 18; exact calls_later (unhide hH2 _)))
          | go_big_quiet_step ((go_at_call 19; exact calls_later (unhide hM1 _)))
          | go_big_quiet_step ((go_at_call 20; exact calls_later (unhide hM2 _)))
          | quiet_step (fail))
        refine wpQuiet_nil ?_
        intro w' hw'
        obtain ⟨i, rfl⟩ := hw'
        go_wp2
        go_ret
        exact ⟨rfl, (unhide HB).trans (i.below.mono (unhide HB).size)⟩

end

theorem walkSpanTells {w : World} (v : Value) (z : ByteArray × ByteArray) (h : Spn v z) (v' : Value) (z' : ByteArray × ByteArray) (h' : Spn v' z') (k : ByteArray) (hk : k.size ≤ maxLen) :
    Calls Try.prog 3 #[v, v', .string k] w fun e w' => e = .returned (.bool true) ∧ Below w.heap.size w w' := by
  rw [h.eq, h'.eq]; exact walkSpanTells0 z.1 z.2 z'.1 z'.2 k w

end Go.Proofs.Ytejceloahonelaa
