/-
  wampumref02.Four, Of, Frame, first, Whole: what they answer.
-/
import Derived.Test.YteacolahbnilnaaRefSum
import Derived.Test.YteacolahbnilnaaSealBackW
namespace Go.Proofs.Yteacolahbnilnaa
open Go.RowKit
set_option linter.unusedVariables false

theorem own_four (w : World) (n : Nat) (a b c d : Int) (ha : ((UInt8.ofNat (n / 16777216)).toNat : Int) = a) (hb : ((UInt8.ofNat (n / 65536)).toNat : Int) = b) (hc : ((UInt8.ofNat (n / 256)).toNat : Int) = c) (hd : ((UInt8.ofNat n).toNat : Int) = d) :
    Own w.heap.size (w.alloc (.cells #[.int .u8 a, .int .u8 b, .int .u8 c, .int .u8 d] 5)) (.slice (some ⟨w.heap.size, 0, none⟩) 4 4) (four n) := by
  subst ha hb hc hd
  exact own_lit w _ (four n) rfl (by simp [four, maxLen])

set_option maxRecDepth 100000 in
theorem four_any (n : Nat) (w : World) (hn : n < 4294967296) :
    Calls Try.prog 20 #[.int .u32 n] w fun e w' => ∃ r, e = .returned r ∧ Own w.heap.size w' r (four n) ∧ Below w.heap.size w w' := by
  go_enter Try.func20, Try.ntmps20
  go_wp2
  go_ret
  refine ⟨_, rfl, ?_, (Below.refl _ w).alloc (Nat.le_refl _) _⟩
  refine own_four w n _ _ _ _ ?_ ?_ ?_ ?_ <;> simp [UInt8.toNat_ofNat'] <;> omega

set_option maxRecDepth 100000 in
set_option maxHeartbeats 1000000 in
theorem of_any (v : Value) (l : List UInt8) (w : World) (hs : Sl w v l) (hl : 4 ≤ l.length) :
    Calls Try.prog 26 #[v] w fun e w' => e = .returned (.int .u32 (of4 l)) ∧ ∃ n, w' = w.drewN n := by
  have hv : ∃ ao c, v = .slice ao l.length c ∧ l.length ≤ c ∧ c ≤ maxLen := by obtain ⟨ao, c, rfl, h1, h2, _⟩ := hs; exact ⟨_, _, rfl, h1, h2⟩
  obtain ⟨ao, c, rfl, h1, h2⟩ := hv
  unfold maxLen at h2
  obtain ⟨b, o, rfl⟩ := hs.addr (by omega)
  have c0 := hs.cell 0 (by omega)
  have c1 := hs.cell 1 (by omega)
  have c2 := hs.cell 2 (by omega)
  have c3 := hs.cell 3 (by omega)
  rw [Nat.add_zero] at c0
  have b0 : (l[0].toNat : Int) < 256 := by have := l[0].toNat_lt; omega
  have b1 : (l[1].toNat : Int) < 256 := by have := l[1].toNat_lt; omega
  have b2 : (l[2].toNat : Int) < 256 := by have := l[2].toNat_lt; omega
  have b3 : (l[3].toNat : Int) < 256 := by have := l[3].toNat_lt; omega
  have hof : of4 l = ((l[0].toNat * 256 + l[1].toNat) * 256 + l[2].toNat) * 256 + l[3].toNat := by
    unfold of4
    rw [List.getElem?_eq_getElem (by omega), List.getElem?_eq_getElem (by omega), List.getElem?_eq_getElem (by omega), List.getElem?_eq_getElem (by omega)]
    simp only [Option.getD_some]
    omega
  obtain ⟨x0, hx0⟩ : ∃ x, Hid (l[0].toNat = x) := ⟨_, hide rfl⟩
  obtain ⟨x1, hx1⟩ : ∃ x, Hid (l[1].toNat = x) := ⟨_, hide rfl⟩
  obtain ⟨x2, hx2⟩ : ∃ x, Hid (l[2].toNat = x) := ⟨_, hide rfl⟩
  obtain ⟨x3, hx3⟩ : ∃ x, Hid (l[3].toNat = x) := ⟨_, hide rfl⟩
  rw [hx0.out] at c0 b0 hof
  rw [hx1.out] at c1 b1 hof
  rw [hx2.out] at c2 b2 hof
  rw [hx3.out] at c3 b3 hof
  rw [hof]
  have i0 : (0 : Int) < (l.length : Int) := by omega
  have i1 : (1 : Int) < (l.length : Int) := by omega
  have i2 : (2 : Int) < (l.length : Int) := by omega
  have i3 : (3 : Int) < (l.length : Int) := by omega
  clear hs hof hx0 hx1 hx2 hx3
  go_enter Try.func26, Try.ntmps26
  go_wp2
  go_quiet (fail)
  go_wp2
  go_ret
  refine ⟨ret_u32 ?_, _, rfl⟩
  omega

set_option maxRecDepth 100000 in
set_option maxHeartbeats 1000000 in
theorem refframe_yes (v : Value) (l : List UInt8) (w : World) (hs : Sl w v l) (hf : Fits l) :
    Calls Try.prog 10 #[v] w fun e w' => Framed w l e w' := by
  obtain ⟨hf1, hf2⟩ := hf
  have hv : ∃ ao c, v = .slice ao l.length c ∧ l.length ≤ c ∧ c ≤ maxLen := by obtain ⟨ao, c, rfl, h1, h2, _⟩ := hs; exact ⟨_, _, rfl, h1, h2⟩
  obtain ⟨ao, c, rfl, h1, h2⟩ := hv
  unfold maxLen at h2
  have Hs : Hid (Sl w (.slice ao l.length c) l) := hs
  clear hs
  go_enter Try.func10, Try.ntmps10
  go_wp2_with fail
  refine (four_any l.length _ (by omega)).mono ?_
  rintro e w1 ⟨r1, rfl, ho1, hb1⟩
  have hs1 := Hs.out.below hb1 (Nat.le_refl _)
  go_wp2_with fail
  refine (refsum_any _ l _ hs1).mono ?_
  rintro e w' ⟨rfl, hw⟩
  obtain rfl := hw.symm
  clear hw
  go_wp2_with fail
  refine (four_any (crc l) _ (crc_lt l)).mono ?_
  rintro e w2 ⟨r2, rfl, ho2, hb2⟩
  have ho12 := ho1.later hb2
  have hB2 := hb1.trans (hb2.mono hb1.size)
  clear hs1 hb2 hb1 ho1
  go_wp2_with (at_builtin; refine wpList_append_sl _ rfl (.tmp 16) (.tmp 19) rfl w.heap.size hB2.size _ _ rfl ho12 _ _ rfl ho2.sl (by simp [four]) ?_)
  intro v3 w3 ho3 hg3
  have hB3 : Below w.heap.size w w3 := hB2.grown hg3 hB2.size (fun k hk => (World.ownsRow.lt ho12 k hk).1)
  have hs3 := Hs.out.below hB3 (Nat.le_refl _)
  clear hg3 ho12 ho2 hB2
  go_wp2_with (at_builtin; refine wpList_append_sl _ rfl (.tmp 21) (.tmp 22) rfl w.heap.size hB3.size _ _ rfl ho3 _ _ rfl hs3 (by simp [four]; omega) ?_)
  intro v4 w4 ho4 hg4
  have hB4 : Below w.heap.size w w4 := hB3.grown hg4 hB3.size (fun k hk => (World.ownsRow.lt ho3 k hk).1)
  have R1 : Own w.heap.size w4 v4 (fr l) := by
    have e : four l.length ++ four (crc l) ++ l = fr l := by simp [fr]
    rw [← e]; exact ho4
  clear hg4 ho4 ho3 hs3 hB3
  go_wp2
  go_ret2
  exact ⟨_, rfl, R1, hB4⟩

set_option maxRecDepth 100000 in
theorem refframe_no (v : Value) (l : List UInt8) (w : World) (hs : Sl w v l) (hf : ¬ Fits l) :
    Calls Try.prog 10 #[v] w fun e w' => e = .returned (.tuple #[.slice none 0 0, .int .i64 21]) ∧ w' = w := by
  have hv : ∃ ao c, v = .slice ao l.length c ∧ l.length ≤ c ∧ c ≤ maxLen := by obtain ⟨ao, c, rfl, h1, h2, _⟩ := hs; exact ⟨_, _, rfl, h1, h2⟩
  obtain ⟨ao, c, rfl, h1, h2⟩ := hv
  unfold maxLen at h2
  clear hs
  by_cases h0 : l.length < 1
  · go_enter Try.func10, Try.ntmps10
    go_wp2
    go_ret2
    exact ⟨rfl, rfl⟩
  · have h1' : 65536 < l.length := by unfold Fits at hf; omega
    go_enter Try.func10, Try.ntmps10
    go_wp2
    go_ret2
    exact ⟨rfl, rfl⟩

theorem of4_take (l : List UInt8) : of4 (l.take 4) = of4 l := by
  unfold of4
  rw [List.getElem?_take_of_lt (by decide), List.getElem?_take_of_lt (by decide), List.getElem?_take_of_lt (by decide), List.getElem?_take_of_lt (by decide)]

/-- What bytes begin with, as the document's call answers it. -/
def RefBegins (a : Value) (l : List UInt8) (e : Ending) : Prop :=
  (fst l = none ∧ ∃ v, e = .returned (.tuple #[v, .bool false])) ∨ ∃ v x, fst l = some x ∧ e = .returned (.tuple #[v, .bool true]) ∧ ∀ w, Sl w a l → Sl w v x

set_option maxRecDepth 100000 in
set_option maxHeartbeats 1000000 in
theorem reffirst_any (v : Value) (l : List UInt8) (w : World) (hs : Sl w v l) (hl : l.length ≤ 1099511627776) :
    Calls Try.prog 23 #[v] w fun e w' => RefBegins v l e ∧ ∃ n, w' = w.drewN n := by
  have hv : ∃ ao c, v = .slice ao l.length c ∧ l.length ≤ c ∧ c ≤ maxLen := by obtain ⟨ao, c, rfl, h1, h2, _⟩ := hs; exact ⟨_, _, rfl, h1, h2⟩
  obtain ⟨ao, c, rfl, h1, h2⟩ := hv
  unfold maxLen at h2
  have Hs : Hid (Sl w (.slice ao l.length c) l) := hs
  clear hs
  by_cases h9 : 9 ≤ l.length
  · obtain ⟨b, o, rfl⟩ := Hs.out.addr (by omega)
    have hof := of4_lt l
    have hof4 : of4 (l.take 4) = of4 l := of4_take l
    obtain ⟨n, hn⟩ : ∃ n, Hid (of4 l = n) := ⟨of4 l, hide rfl⟩
    rw [hn.out] at hof hof4
    have HG : Hid (Calls Try.prog 26 #[.slice (some ⟨b, o, none⟩) 4 c] w fun e w' => e = .returned (.int .u32 n) ∧ ∃ q, w' = w.drewN q) := by
      have := of_any _ _ _ (Hs.out.take 4 (by omega)) (by rw [List.length_take]; omega)
      rw [hof4] at this
      exact this
    clear hof4
    by_cases hfit : 1 ≤ n ∧ n ≤ 65536 ∧ n ≤ l.length - 8
    · obtain ⟨hf1, hf2, hrest⟩ := hfit
      have hr := Hs.out.mid 8 n (by omega) (by omega) (by omega)
      have h4 := Hs.out.mid 4 4 (by omega) (by omega) (by omega)
      obtain ⟨s, Hs1⟩ : ∃ s, Hid (crc ((l.drop 8).take n) = s) := ⟨_, hide rfl⟩
      obtain ⟨t, Ht1⟩ : ∃ t, Hid (of4 (l.drop 4) = t) := ⟨_, hide rfl⟩
      have hof44 : of4 ((l.drop 4).take 4) = of4 (l.drop 4) := of4_take _
      have HS : Hid (∀ W q0, W = w.drewN q0 → ∀ q, Calls Try.prog 16 #[.slice (some ⟨b, o + 8, none⟩) n (c - 8)] (W.drewN q) fun e w' => e = .returned (.int .u32 s) ∧ w' = W.drewN q) := by
        rintro W q0 rfl q
        rw [← Hs1.out]
        exact refsum_any _ _ _ ((hr.drewN q0).drewN q)
      have HT : Hid (∀ W q0, W = w.drewN q0 → ∀ q, Calls Try.prog 26 #[.slice (some ⟨b, o + 4, none⟩) 4 (c - 4)] (W.drewN q) fun e w' => e = .returned (.int .u32 t) ∧ ∃ m, w' = W.drewN m) := by
        rintro W q0 rfl q
        rw [← Ht1.out, ← hof44]
        refine (of_any _ _ _ ((h4.drewN q0).drewN q) (by rw [List.length_take, List.length_drop]; omega)).mono ?_
        rintro e w' ⟨he, m, hm⟩
        exact ⟨he, q + m, by rw [hm, World.drewN_drewN]⟩
      clear hr h4 hof44
      by_cases hst : s = t
      · subst hst
        go_enter Try.func23, Try.ntmps23
        go_wp2_with fail
        refine HG.out.mono ?_
        rintro e W ⟨rfl, q0, hW⟩
        have HSW := hide (HS.out W q0 hW)
        have HTW := hide (HT.out W q0 hW)
        have HW := hide hW
        clear hW
        go_wp2_with fail
        go_quiet (first | (go_at_call 16; exact Calls.quiet_of_same (HSW.out _)) | (go_at_call 26; exact HTW.out _))
        go_wp2
        go_ret2
        refine ⟨.inr ⟨_, _, fst_yes hn.out (by omega) hf1 hf2 hrest (by rw [Hs1.out, Ht1.out]), rfl, ?_⟩, _, by rw [HW.out, World.drewN_drewN]⟩
        intro w2 h2'
        rw [show 8 + n - 8 = n by omega]
        exact h2'.mid 8 n (by omega) (by omega) (by omega)
      · have hst' : ((s : Int) == (t : Int)) = false := by rw [beq_eq_false_iff_ne]; omega
        go_enter Try.func23, Try.ntmps23
        go_wp2_with fail
        refine HG.out.mono ?_
        rintro e W ⟨rfl, q0, hW⟩
        have HSW := hide (HS.out W q0 hW)
        have HTW := hide (HT.out W q0 hW)
        have HW := hide hW
        clear hW
        go_wp2_with fail
        go_quiet (first | (go_at_call 16; exact Calls.quiet_of_same (HSW.out _)) | (go_at_call 26; exact HTW.out _))
        go_wp2
        go_ret2
        exact ⟨.inl ⟨fst_ne hn.out (by rw [Hs1.out, Ht1.out]; exact hst), _, rfl⟩, _, by rw [HW.out, World.drewN_drewN]⟩
    · by_cases hf1 : 1 ≤ n
      · by_cases hf2 : n ≤ 65536
        all_goals
          go_enter Try.func23, Try.ntmps23
          go_wp2_with (first | (go_at_call 26; refine HG.out.mono ?_; rintro e w' ⟨rfl, q0, rfl⟩))
          go_ret2
          exact ⟨.inl ⟨fst_none_of hn.out (by omega), _, rfl⟩, _, rfl⟩
      · go_enter Try.func23, Try.ntmps23
        go_wp2_with (first | (go_at_call 26; refine HG.out.mono ?_; rintro e w' ⟨rfl, q0, rfl⟩))
        go_ret2
        exact ⟨.inl ⟨fst_none_of hn.out (by omega), _, rfl⟩, _, rfl⟩
  · go_enter Try.func23, Try.ntmps23
    go_wp2
    go_ret2
    exact ⟨.inl ⟨fst_short (by omega), _, rfl⟩, 0, rfl⟩

end Go.Proofs.Yteacolahbnilnaa
