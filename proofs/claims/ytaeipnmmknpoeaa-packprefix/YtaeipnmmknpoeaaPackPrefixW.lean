/-
  The law PackPrefix: its walk.
-/
import Derived.Test.YtaeipnmmknpoeaaOne
import Derived.Test.YtaeipnmmknpoeaaPackLengthsW
import Derived.Test.YtaeipnmmknpoeaaLater
import Derived.ProofKit
namespace Go.Proofs.Ytaeipnmmknpoeaa
open Go.RowKit
set_option linter.unusedVariables false

/-- Of two numbers, neither begins the other one, unless they are one. -/
theorem enc_apart (n m : Nat) (hn : n ≤ 9223372036854775807) (hm : m ≤ 9223372036854775807) (r s : List UInt8) (h : enc n ++ r = enc m ++ s) : n = m := by
  have h1 := first_enc n r hn
  have h2 := first_enc m s hm
  rw [h, h2] at h1
  exact (Prod.mk.inj h1).1.symm

theorem take_eq {n m : Nat} (hn : n ≤ 9223372036854775807) (hm : m ≤ 9223372036854775807) :
    ((enc n).take (min (enc n).length (enc m).length) = (enc m).take (min (enc n).length (enc m).length)) ↔ n = m := by
  constructor
  · intro h
    have e1 := List.take_append_drop (min (enc n).length (enc m).length) (enc n)
    have e2 := List.take_append_drop (min (enc n).length (enc m).length) (enc m)
    rw [h] at e1
    rcases Nat.le_total (enc n).length (enc m).length with hle | hle
    · have hd : (enc n).drop (min (enc n).length (enc m).length) = [] := List.drop_eq_nil_of_le (by omega)
      rw [hd, List.append_nil] at e1
      rw [e1] at e2
      exact enc_apart n m hn hm _ [] (by rw [e2, List.append_nil])
    · have hd : (enc m).drop (min (enc n).length (enc m).length) = [] := List.drop_eq_nil_of_le (by omega)
      rw [hd, List.append_nil] at e2
      rw [e2] at e1
      exact (enc_apart m n hm hn _ [] (by rw [e1, List.append_nil])).symm
  · rintro rfl
    rfl

theorem encT_apart (s t : ByteArray) (hs : s.size ≤ 400) (ht : t.size ≤ 400) (r q : List UInt8) (h : encT s ++ r = encT t ++ q) : s = t := by
  have h1 := rdT_enc s r 400 (by omega) (by omega)
  have h2 := rdT_enc t q 400 (by omega) (by omega)
  rw [h, h2] at h1
  have h3 := (Prod.mk.inj h1).1
  have h4 : s.data = t.data := Array.toList_inj.1 h3.symm
  cases s; cases t
  simp_all

theorem takeT_eq {s t : ByteArray} (hs : s.size ≤ 400) (ht : t.size ≤ 400) :
    ((encT s).take (min (encT s).length (encT t).length) = (encT t).take (min (encT s).length (encT t).length)) ↔ s = t := by
  constructor
  · intro h
    have e1 := List.take_append_drop (min (encT s).length (encT t).length) (encT s)
    have e2 := List.take_append_drop (min (encT s).length (encT t).length) (encT t)
    rw [h] at e1
    rcases Nat.le_total (encT s).length (encT t).length with hle | hle
    · have hd : (encT s).drop (min (encT s).length (encT t).length) = [] := List.drop_eq_nil_of_le (by omega)
      rw [hd, List.append_nil] at e1
      rw [e1] at e2
      exact encT_apart s t hs ht _ [] (by rw [e2, List.append_nil])
    · have hd : (encT t).drop (min (encT s).length (encT t).length) = [] := List.drop_eq_nil_of_le (by omega)
      rw [hd, List.append_nil] at e2
      rw [e2] at e1
      exact (encT_apart t s ht hs _ [] (by rw [e1, List.append_nil])).symm
  · rintro rfl
    rfl

set_option maxRecDepth 100000 in
set_option maxHeartbeats 4000000 in
theorem walkPackPrefixC (a0 : Int) (w0 : (Lit.int .i64 a0).wf = true) (a1 : Int) (w1 : (Lit.int .i64 a1).wf = true) (s0 s1 : ByteArray) (hs0 : s0.size ≤ maxLen) (hs1 : s1.size ≤ maxLen) (w : World) :
    Calls Try.prog 9 #[.int .i64 a0, .int .i64 a1, .agg #[.string s0, .string s1]] w fun e w' => e = .returned (.bool true) ∧ Below w.heap.size w w' := by
  have b0 := (bounds_i64 w0).2
  have b1 := (bounds_i64 w1).2
  clear w0 w1
  unfold maxLen at hs0 hs1
  by_cases hl0 : 400 < s0.size
  · have hl0i : (400 : Int) < (s0.size : Int) := by omega
    go_enter Try.func9, Try.ntmps9
    go_wp2_with fail
    refine (alive_any _).mono ?_
    rintro e w' ⟨rfl, hb⟩
    go_wp2
    go_ret
    exact ⟨rfl, ((Below.refl _ _).alloc (Nat.le_refl _) _).trans (hb.mono (by simp))⟩
  by_cases hl1 : 400 < s1.size
  · have hl0i : ¬ (400 : Int) < (s0.size : Int) := by omega
    have hl1i : (400 : Int) < (s1.size : Int) := by omega
    go_enter Try.func9, Try.ntmps9
    go_wp2_with fail
    refine (alive_any _).mono ?_
    rintro e w' ⟨rfl, hb⟩
    go_wp2
    go_ret
    exact ⟨rfl, ((Below.refl _ _).alloc (Nat.le_refl _) _).trans (hb.mono (by simp))⟩
  have hl0i : ¬ (400 : Int) < (s0.size : Int) := by omega
  have hl1i : ¬ (400 : Int) < (s1.size : Int) := by omega
  have hbx : Below w.heap.size w (w.alloc (.cells #[.string s0, .string s1] 51)) := (Below.refl _ _).alloc (Nat.le_refl _) _
  go_enter Try.func9, Try.ntmps9
  go_wp2_with fail
  refine (number_any _ [] a0 _ (Sl.nil _) (by decide) b0).mono ?_
  rintro e w1 ⟨r1, rfl, ho1, hb1⟩
  rw [List.nil_append] at ho1
  have k1 := hb1.cell (p := ⟨w.heap.size, 0, none⟩) (by simp)
  have k2 := hb1.cell (p := ⟨w.heap.size, 1, none⟩) (by simp)
  simp at k1 k2
  obtain ⟨ao1, c1, rfl, hc1, hx1, p1⟩ := ho1.form
  have z1 := hb1.size
  simp at z1
  clear ho1
  go_wp2_with fail
  refine (number_any _ [] a1 _ (Sl.nil _) (by decide) b1).mono ?_
  rintro e w2 ⟨r2, rfl, ho2, hb2⟩
  rw [List.nil_append] at ho2
  have k3 := (hb2.cell (p := ⟨w.heap.size, 0, none⟩) (by simp; omega)).trans k1
  have k4 := (hb2.cell (p := ⟨w.heap.size, 1, none⟩) (by simp; omega)).trans k2
  obtain ⟨ao2, c2, rfl, hc2, hx2, p2⟩ := ho2.form
  have q1 := p1.below hb2 (Nat.le_refl _)
  have z2 := hb2.size
  clear ho2 k1 k2 p1
  go_wp2_with fail
  refine (text_any _ [] s0 _ (Sl.nil _) (by decide) (by omega)).mono ?_
  rintro e w3 ⟨r3, rfl, ho3, hb3⟩
  rw [List.nil_append] at ho3
  have k1 := (hb3.cell (p := ⟨w.heap.size, 0, none⟩) (by simp; omega)).trans k3
  have k2 := (hb3.cell (p := ⟨w.heap.size, 1, none⟩) (by simp; omega)).trans k4
  obtain ⟨ao3, c3, rfl, hc3, hx3, p3⟩ := ho3.form
  have p1 := q1.below hb3 (Nat.le_refl _)
  have q2 := p2.below hb3 (Nat.le_refl _)
  have z3 := hb3.size
  clear ho3 k3 k4 q1 p2
  go_wp2_with fail
  refine (text_any _ [] s1 _ (Sl.nil _) (by decide) (by omega)).mono ?_
  rintro e w4 ⟨r4, rfl, ho4, hb4⟩
  rw [List.nil_append] at ho4
  have k3 := (hb4.cell (p := ⟨w.heap.size, 0, none⟩) (by simp; omega)).trans k1
  have k4 := (hb4.cell (p := ⟨w.heap.size, 1, none⟩) (by simp; omega)).trans k2
  obtain ⟨ao4, c4, rfl, hc4, hx4, p4⟩ := ho4.form
  have q1 := p1.below hb4 (Nat.le_refl _)
  have p2 := q2.below hb4 (Nat.le_refl _)
  have q3 := p3.below hb4 (Nat.le_refl _)
  have HB := hide ((((hbx.trans (hb1.mono (by simp))).trans (hb2.mono (by omega))).trans (hb3.mono (by omega))).trans (hb4.mono (by omega)))
  have z4 := hb4.size
  clear ho4 k1 k2 p1 q2 p3 hb1 hb2 hb3 hb4 hbx
  unfold maxLen at hx1 hx2 hx3 hx4
  have ht1 := @take_eq a0.toNat a1.toNat (by omega) (by omega)
  have ht2 := @takeT_eq s0 s1 (by omega) (by omega)
  obtain ⟨e1, he1⟩ : ∃ e1, e1 = decide (a0.toNat = a1.toNat) := ⟨_, rfl⟩
  obtain ⟨e2, he2⟩ : ∃ e2, e2 = decide (s0 = s1) := ⟨_, rfl⟩
  have hE3 : (s0.toList == s1.toList) = e2 := by
    rw [he2, Bool.eq_iff_iff]
    simp only [beq_iff_eq, decide_eq_true_eq]
    rw [Go.ByteArray.toList_eq, Go.ByteArray.toList_eq]
    exact ⟨fun h => ByteArray.ext (Array.toList_inj.1 h), fun h => by rw [h]⟩
  generalize enc a0.toNat = l1 at *
  generalize enc a1.toNat = l2 at *
  generalize encT s0 = l3 at *
  generalize encT s1 = l4 at *
  obtain ⟨km, hkm⟩ : ∃ km, km = min l1.length l2.length := ⟨_, rfl⟩
  obtain ⟨jm, hjm⟩ : ∃ jm, jm = min l3.length l4.length := ⟨_, rfl⟩
  have q1' := q1.take km (by omega)
  have p2' := p2.take km (by omega)
  have q3' := q3.take jm (by omega)
  have p4' := p4.take jm (by omega)
  rw [← hkm] at ht1
  rw [← hjm] at ht2
  generalize l1.take km = A at *
  generalize l2.take km = B at *
  generalize l3.take jm = C at *
  generalize l4.take jm = D at *
  have hE1 : (A == B) = e1 := by rw [he1, Bool.eq_iff_iff]; simp only [beq_iff_eq, decide_eq_true_eq]; exact ht1
  have hE2 : (C == D) = e2 := by rw [he2, Bool.eq_iff_iff]; simp only [beq_iff_eq, decide_eq_true_eq]; exact ht2
  have f1 : ∀ i : Later w4, (convert 23 9 (.slice ao1 km c1)).run Try.prog i.val = .ok (.string ⟨A.toArray⟩) i.val := fun i => conv_sl _ _ _ (q1'.below i.below (Nat.le_refl _))
  have f2 : ∀ i : Later w4, (convert 23 9 (.slice ao2 km c2)).run Try.prog i.val = .ok (.string ⟨B.toArray⟩) i.val := fun i => conv_sl _ _ _ (p2'.below i.below (Nat.le_refl _))
  have f3 : ∀ i : Later w4, (convert 23 9 (.slice ao3 jm c3)).run Try.prog i.val = .ok (.string ⟨C.toArray⟩) i.val := fun i => conv_sl _ _ _ (q3'.below i.below (Nat.le_refl _))
  have f4 : ∀ i : Later w4, (convert 23 9 (.slice ao4 jm c4)).run Try.prog i.val = .ok (.string ⟨D.toArray⟩) i.val := fun i => conv_sl _ _ _ (p4'.below i.below (Nat.le_refl _))
  have f5 : ∀ i : Later w4, i.val.cell? ⟨w.heap.size, 0, none⟩ = some (.string s0) := fun i => i.cell k3
  have f6 : ∀ i : Later w4, i.val.cell? ⟨w.heap.size, 1, none⟩ = some (.string s1) := fun i => i.cell k4
  have He1 := hide he1
  have Hkm := hide hkm
  have Hjm := hide hjm
  clear q1 p2 q3 p4 q1' p2' q3' p4' ht1 ht2 he1 he2 hkm hjm
  have hM : (a0 < 0 ∧ a1 < 0 ∧ e1 = true) ∨ (a0 < 0 ∧ 0 ≤ a1 ∧ ((0 : Int) == a1) = e1) ∨ (0 ≤ a0 ∧ a1 < 0 ∧ (a0 == (0 : Int)) = e1) ∨ (0 ≤ a0 ∧ 0 ≤ a1 ∧ (a0 == a1) = e1) := by
    rw [unhide He1]
    by_cases hn0 : a0 < 0 <;> by_cases hn1 : a1 < 0
    · exact .inl ⟨hn0, hn1, by simp; omega⟩
    · refine .inr (.inl ⟨hn0, by omega, ?_⟩); rw [Bool.eq_iff_iff]; simp; omega
    · refine .inr (.inr (.inl ⟨by omega, hn1, ?_⟩)); rw [Bool.eq_iff_iff]; simp; omega
    · refine .inr (.inr (.inr ⟨by omega, by omega, ?_⟩)); rw [Bool.eq_iff_iff]; simp; omega
  clear He1
  generalize l1.length = n1 at *
  generalize l2.length = n2 at *
  generalize l3.length = n3 at *
  generalize l4.length = n4 at *
  rcases hM with ⟨hn0, hn1, rfl⟩ | ⟨hn0, hn1, hM⟩ | ⟨hn0, hn1, hM⟩ | ⟨hn0, hn1, hM⟩
  all_goals
    have hk2 : (n1 ≤ n2 ∧ km = n1) ∨ (n2 < n1 ∧ km = n2) := by have := unhide Hkm; omega
    have hj2 : (n3 ≤ n4 ∧ jm = n3) ∨ (n4 < n3 ∧ jm = n4) := by have := unhide Hjm; omega
    rcases hk2 with ⟨hA, rfl⟩ | ⟨hA, rfl⟩
    all_goals
      rcases hj2 with ⟨hC, rfl⟩ | ⟨hC, rfl⟩
      all_goals
        clear Hkm Hjm
        have g1 : (km : Int) ≤ (c1 : Int) := by omega
        have g2 : (km : Int) ≤ (c2 : Int) := by omega
        have g3 : (jm : Int) ≤ (c3 : Int) := by omega
        have g4 : (jm : Int) ≤ (c4 : Int) := by omega
        go_wp2_with fail
        have inst : Nonempty (Later w4) := ⟨⟨w4, Below.refl _ _⟩⟩
        refine wp_region_later (by kernel_rfl) (by kernel_rfl) ?_
        repeat (first | go_big_quiet_step ((go_at_call 12; exact calls_later (alive_any _))) | quiet_step ((go_at_call 12; exact calls_later (alive_any _))))
        refine wpQuiet_nil ?_
        intro w' hw'
        obtain ⟨i, rfl⟩ := hw'
        go_wp2
        go_ret
        exact ⟨rfl, (unhide HB).trans (i.below.mono (by omega))⟩

/-- Two texts, by value. -/
def Pair (v : Value) (z : ByteArray × ByteArray) : Prop := v = .agg #[.string z.1, .string z.2] ∧ z.1.size ≤ maxLen ∧ z.2.size ≤ maxLen

theorem view_pair {H : Type} {enc : TypeId × Value → H} {w : World} {r : Reach} {b0 base : Nat} {spare : Nat → Bool} {held : Bool} {v : Value} {d : DataW H} {p : List MemPlace} (hv : Value.okWide Try.prog w r b0 51 v)
    (h : DataW.Trod enc Try.prog w base spare held 51 v d p) : ∃ z, Pair v z := by
  have hc : Try.prog.cellsOf 51 = 2 := by kernel_rfl
  have hs : Try.prog.cellsOf 9 = 1 := by kernel_rfl
  have hcs : ∃ cs, v = .agg cs ∧ cs.size = 2 := by
    unfold Value.okWide at hv
    rw [Try.underlying51] at hv
    obtain ⟨cs, h1, h2, _⟩ := hv
    exact ⟨cs, h1, by rw [h2, hc]⟩
  obtain ⟨cs, rfl, hsz⟩ := hcs
  obtain ⟨c0, c1, rfl⟩ : ∃ c0 c1, cs = #[c0, c1] := by
    obtain ⟨l⟩ := cs
    match l, hsz with
    | [c0, c1], _ => exact ⟨c0, c1, rfl⟩
  obtain ⟨fuel, hf⟩ := h
  obtain ⟨xs, m, _, _, _, hl, hx⟩ := DataW.trod_array Try.underlying51 hf
  have h0 := hx 0 (by decide)
  have h1 := hx 1 (by decide)
  rw [hs, List.getElem?_eq_getElem (by rw [hl]; decide)] at h0 h1
  obtain ⟨s0, e0, _, n0⟩ := DataW.trod_string Try.underlying9 h0
  obtain ⟨s1, e1, _, n1⟩ := DataW.trod_string Try.underlying9 h1
  simp [Value.cells] at e0 e1
  subst e0 e1
  exact ⟨(s0, s1), rfl, n0, n1⟩

theorem walkPackPrefix (w : World) (a0 : Int) (w0 : (Lit.int .i64 a0).wf = true) (a1 : Int) (w1 : (Lit.int .i64 a1).wf = true) (v : Value) (z : ByteArray × ByteArray) (hz : Pair v z) :
    Calls Try.prog 9 #[.int .i64 a0, .int .i64 a1, v] w fun e w' => e = .returned (.bool true) ∧ Below w.heap.size w w' := by
  obtain ⟨rfl, h0, h1⟩ := hz
  exact walkPackPrefixC a0 w0 a1 w1 z.1 z.2 h0 h1 w

end Go.Proofs.Ytaeipnmmknpoeaa
