/-
  The document's own answers: wampumref06's Append, Cut, Set, Sync, Dirty, common. No law is proved here.
-/
import Derived.Test.YtdhjogfalkmggaaOwn2
namespace Go.Proofs.Ytdhjogfalkmggaa
open Go.RowKit
set_option linter.unusedVariables false

/-- The document's disk in block M: its file and its cell now, its safe file and its safe cell. -/
def Rk (T : Nat → Prop) (w : World) (M : Nat) (nf nc sf sc : List UInt8) : Prop := ∃ v0 v1 v2 v3, Q4 T w M v0 v1 v2 v3 sf nf sc nc

section
variable {T : Nat → Prop} {w w' : World} {M : Nat} {nf nc sf sc : List UInt8}

theorem Rk.frame (h : Rk T w M nf nc sf sc) (hs : w.heap.size ≤ w'.heap.size) (hk : ∀ k, k < w.heap.size → T k → w'.heap[k]? = w.heap[k]?) : Rk T w' M nf nc sf sc := by
  obtain ⟨v0, v1, v2, v3, h⟩ := h
  exact ⟨v0, v1, v2, v3, h.frame hs hk⟩
theorem Rk.later (h : Rk T w M nf nc sf sc) (hb : Below w.heap.size w w') : Rk T w' M nf nc sf sc := h.frame hb.size fun k hk _ => hb.block k hk
theorem Rk.other (h : Rk T w M nf nc sf sc) {U : Nat → Prop} (hf : Fr U w w') (hn : ∀ k, k < w.heap.size → T k → ¬ U k) : Rk T w' M nf nc sf sc := h.frame hf.size fun k hk hs => hf.block k hk (hn k hk hs)
theorem Rk.mono (h : Rk T w M nf nc sf sc) {U : Nat → Prop} (hT : ∀ k, k < w.heap.size → T k → U k) : Rk U w M nf nc sf sc := by
  obtain ⟨v0, v1, v2, v3, h⟩ := h
  exact ⟨v0, v1, v2, v3, h.mono hT⟩

theorem own_in' {w1 : World} {v : Value} {l : List UInt8} (hM : M < w.heap.size) (hT : ∀ k, w.heap.size ≤ k → T k) (ho : Own w.heap.size w1 v l) : In T w1 M v := fun k hk => by
  have := World.ownsRow.lt ho k hk
  exact ⟨hT k this.1, this.2, by omega⟩
end

section
set_option maxRecDepth 100000
variable {T : Nat → Prop}

theorem refappend_ok (M : Nat) (nf nc sf sc lb : List UInt8) (v : Value) (w : World) (h : Rk T w M nf nc sf sc) (hT : ∀ k, w.heap.size ≤ k → T k) (hv : Sl w v lb) (hb : nf.length + lb.length ≤ 16777216) :
    Calls Try.prog 11 #[.pointer (some ⟨M, 0, none⟩), v] w fun e w' => e = .returned (.int .i64 0) ∧ Rk T w' M (nf ++ lb) nc sf sc ∧ Fr T w w' := by
  obtain ⟨v0, v1, v2, v3, hq⟩ := h
  have c1 := hq.c1
  obtain ⟨ao, cp, rfl, _, hcp, _⟩ := id hq.s1
  obtain ⟨xo, xc, rfl, _, hxc, _⟩ := id hv
  unfold maxLen at hcp hxc
  have hI : (nf.length : Int) + (lb.length : Int) ≤ 16777216 := by omega
  have hb1 := below_new w (.cells #[] 5)
  have C1 := (hq.frame (w' := w.alloc (.cells #[] 5)) hb1.size (fun k hk _ => hb1.block k hk)).c1
  have S1 := hide (hq.s1.later hb1)
  have hl0 := Own.lit0 w
  have Hq := hide hq
  have Hv := hide hv
  have HB1 := hide hb1
  clear hq hv hb1
  go_enter Try.func11, Try.ntmps11
  go_wp2_with (at_builtin; refine wpList_append_ob _ rfl (.tmp 15) (.tmp 19) rfl w.heap.size _ _ [] nf (by simp) hl0 rfl rfl (unhide S1) (by simp; omega) ?_)
  intro v4 w1 ho1 hbb1
  replace hbb1 := (unhide HB1).trans hbb1
  obtain ⟨po, pc, rfl⟩ := ho1.val
  clear hl0 S1 C1 HB1 c1
  have Hv1 := hide ((unhide Hv).later hbb1)
  have hz := hbb1.size
  have HB1 := hide hbb1
  have HO1 := hide ho1
  clear hbb1 ho1
  go_wp2_with (at_builtin; refine wpList_append_ob _ rfl (.tmp 20) (.tmp 21) rfl w.heap.size _ _ nf lb hz (unhide HO1) rfl rfl (unhide Hv1) (by omega) ?_)
  intro v5 w2 ho hbb
  replace hbb := (unhide HB1).trans hbb
  obtain ⟨oo, oc, rfl⟩ := ho.val
  clear HB1 HO1 Hv1
  generalize hL0 : nf ++ lb = nfl at *
  have hll : nfl.length ≤ 16777216 := by rw [← hL0, List.length_append]; omega
  have hL := hide hL0
  clear hL0
  have hq1 := (unhide Hq).frame (w' := w2) hbb.size (fun k hk _ => hbb.block k hk)
  have K3 : Hid (Rk T (w2.setCell ⟨M, 1, none⟩ (.slice oo nfl.length oc)) M nfl nc sf sc) := ⟨_, _, _, _, hq1.set1 ho.sl (own_in' (unhide Hq).lt hT ho) hll⟩
  have K4 := hide ((Fr.of (S := T) hbb).set (p := ⟨M, 1, none⟩) (unhide Hq).inB (.slice oo nfl.length oc))
  have d1 := hq1.c1
  have g1 := hq1.f1
  clear hq1 hbb ho hT Hq
  go_wp2
  go_ret
  rw [unhide hL]
  exact ⟨rfl, unhide K3, unhide K4⟩

theorem refcut_ok (M : Nat) (nf nc sf sc : List UInt8) (k : Nat) (w : World) (h : Rk T w M nf nc sf sc) (hT : ∀ k, w.heap.size ≤ k → T k) (hk : k ≤ nf.length) :
    Calls Try.prog 13 #[.pointer (some ⟨M, 0, none⟩), .int .i64 k] w fun e w' => e = .returned (.int .i64 0) ∧ Rk T w' M (nf.take k) nc sf sc ∧ Fr T w w' := by
  obtain ⟨v0, v1, v2, v3, hq⟩ := h
  have c1 := hq.c1
  have b1 := hq.b1
  obtain ⟨ao, cp, rfl, hcn, hcp, _⟩ := id hq.s1
  unfold maxLen at hcp
  have hb1 := below_new w (.cells #[] 5)
  have C1 := (hq.frame (w' := w.alloc (.cells #[] 5)) hb1.size (fun k hk _ => hb1.block k hk)).c1
  have S1 := hide ((hq.s1.later hb1).take k hk cp (by omega) (Nat.le_refl _))
  have hl0 := Own.lit0 w
  have Hq := hide hq
  have HB1 := hide hb1
  clear hq hb1
  have hkl : (nf.take k).length ≤ 16777216 := by rw [List.length_take]; omega
  generalize nf.take k = nfk at *
  go_enter Try.func13, Try.ntmps13
  go_wp2_with (at_builtin; refine wpList_append_ob _ rfl (.tmp 17) (.tmp 23) rfl w.heap.size _ _ [] nfk (by simp) hl0 rfl rfl (unhide S1) (by simp; omega) ?_)
  intro v5 w2 ho hbb
  replace hbb := (unhide HB1).trans hbb
  obtain ⟨oo, oc, rfl⟩ := ho.val
  clear hl0 S1 C1 HB1 c1
  have hq1 := (unhide Hq).frame (w' := w2) hbb.size (fun k hk _ => hbb.block k hk)
  have K3 : Hid (Rk T (w2.setCell ⟨M, 1, none⟩ (.slice oo nfk.length oc)) M nfk nc sf sc) := ⟨_, _, _, _, hq1.set1 ho.sl (own_in' (unhide Hq).lt hT ho) hkl⟩
  have K4 := hide ((Fr.of (S := T) hbb).set (p := ⟨M, 1, none⟩) (unhide Hq).inB (.slice oo nfk.length oc))
  have d1 := hq1.c1
  have g1 := hq1.f1
  clear hq1 hbb ho hT Hq
  go_wp2
  go_ret
  skip
  exact ⟨rfl, unhide K3, unhide K4⟩

theorem refcut_no (M : Nat) (nf nc sf sc : List UInt8) (n : Int) (w : World) (h : Rk T w M nf nc sf sc) (hk : n < 0 ∨ nf.length < n) :
    Calls Try.prog 13 #[.pointer (some ⟨M, 0, none⟩), .int .i64 n] w fun e w' => e = .returned (.int .i64 61) ∧ w' = w := by
  obtain ⟨v0, v1, v2, v3, hq⟩ := h
  have c1 := hq.c1
  obtain ⟨ao, cp, rfl, hcn, hcp, _⟩ := id hq.s1
  clear hq
  by_cases h0 : n < 0
  · clear hk
    go_enter Try.func13, Try.ntmps13
    go_wp2
    go_ret
    exact ⟨rfl, rfl⟩
  · have h1 : (nf.length : Int) < n := by omega
    clear hk
    go_enter Try.func13, Try.ntmps13
    go_wp2
    go_ret
    exact ⟨rfl, rfl⟩

theorem refset_ok (M : Nat) (nf nc sf sc lb : List UInt8) (v : Value) (w : World) (h : Rk T w M nf nc sf sc) (hT : ∀ k, w.heap.size ≤ k → T k) (hv : Sl w v lb) (hb : lb.length ≤ 16777216) :
    Calls Try.prog 15 #[.pointer (some ⟨M, 0, none⟩), v] w fun e w' => e = .returned (.int .i64 0) ∧ Rk T w' M nf lb sf sc ∧ Fr T w w' := by
  obtain ⟨v0, v1, v2, v3, hq⟩ := h
  obtain ⟨xo, xc, rfl, _, hxc, _⟩ := id hv
  obtain ⟨yo, yc, rfl, _⟩ := id hq.s3
  unfold maxLen at hxc
  have hb1 := below_new w (.cells #[] 5)
  have S1 := hide (hv.later hb1)
  have hl0 := Own.lit0 w
  have Hq := hide hq
  have HB1 := hide hb1
  clear hq hv hb1
  go_enter Try.func15, Try.ntmps15
  go_wp2_with (at_builtin; refine wpList_append_ob _ rfl (.tmp 9) (.tmp 10) rfl w.heap.size _ _ [] lb (by simp) hl0 rfl rfl (unhide S1) (by simp; omega) ?_)
  intro v5 w2 ho hbb
  replace hbb := (unhide HB1).trans hbb
  obtain ⟨oo, oc, rfl⟩ := ho.val
  clear hl0 S1 HB1
  have hq1 := (unhide Hq).frame (w' := w2) hbb.size (fun k hk _ => hbb.block k hk)
  have K3 : Hid (Rk T (w2.setCell ⟨M, 3, none⟩ (.slice oo lb.length oc)) M nf lb sf sc) := ⟨_, _, _, _, hq1.set3 ho.sl (own_in' (unhide Hq).lt hT ho) hb⟩
  have K4 := hide ((Fr.of (S := T) hbb).set (p := ⟨M, 3, none⟩) (unhide Hq).inB (.slice oo lb.length oc))
  have d1 := hq1.c3
  have g1 := hq1.f3
  clear hq1 hbb ho hT Hq
  go_wp2
  go_ret
  exact ⟨rfl, unhide K3, unhide K4⟩

theorem refsync_ok (M : Nat) (nf nc sf sc : List UInt8) (w : World) (h : Rk T w M nf nc sf sc) :
    Calls Try.prog 16 #[.pointer (some ⟨M, 0, none⟩)] w fun e w' => e = .returned (.tuple #[]) ∧ Rk T w' M nf nc nf nc ∧ Fr T w w' := by
  obtain ⟨v0, v1, v2, v3, hq⟩ := h
  have K3 : Hid (Rk T ((w.setCell ⟨M, 0, none⟩ v1).setCell ⟨M, 2, none⟩ v3) M nf nc nf nc) := ⟨_, _, _, _, (hq.set0 hq.s1 hq.i1 hq.b1).set2 (sl_set hq.s3 hq.i3 _ _) (in_set hq.i3 _ _) hq.b3⟩
  have K4 := hide (((Fr.refl T w).set (p := ⟨M, 0, none⟩) hq.inB v1).set (p := ⟨M, 2, none⟩) hq.inB v3)
  obtain ⟨ao, cp, rfl, _, hcp, _⟩ := id hq.s0
  obtain ⟨bo, dp, rfl, _, hdp, _⟩ := id hq.s1
  obtain ⟨xo, xp, rfl, _, hxp, _⟩ := id hq.s2
  obtain ⟨yo, yp, rfl, _, hyp, _⟩ := id hq.s3
  obtain ⟨c0, c1, c2, c3, f0, f1, f2, f3, _⟩ := hq
  go_enter Try.func16, Try.ntmps16
  go_wp2
  go_end0
  exact ⟨rfl, unhide K3, unhide K4⟩

theorem refdirty_ok (M : Nat) (nf nc sf sc : List UInt8) (w : World) (h : Rk T w M nf nc sf sc) :
    Calls Try.prog 23 #[.pointer (some ⟨M, 0, none⟩)] w fun e w' => e = .returned (.bool (dirt nf nc sf sc)) ∧ Below w.heap.size w w' := by
  obtain ⟨v0, v1, v2, v3, hq⟩ := h
  have e0 := fun i : Later w => conv_sl i.val _ _ (hq.s0.later i.below)
  have e1 := fun i : Later w => conv_sl i.val _ _ (hq.s1.later i.below)
  have e2 := fun i : Later w => conv_sl i.val _ _ (hq.s2.later i.below)
  have e3 := fun i : Later w => conv_sl i.val _ _ (hq.s3.later i.below)
  have hp : ((bs sf).toList == (bs nf).toList) = (nf == sf) := by
    rw [bs_list, bs_list]
    by_cases h : nf = sf
    · subst h; simp
    · rw [beq_eq_false_iff_ne.2 h, beq_eq_false_iff_ne.2 (fun e => h e.symm)]
  have hq' : ((bs sc).toList == (bs nc).toList) = (nc == sc) := by
    rw [bs_list, bs_list]
    by_cases h : nc = sc
    · subst h; simp
    · rw [beq_eq_false_iff_ne.2 h, beq_eq_false_iff_ne.2 (fun e => h e.symm)]
  unfold dirt
  generalize (nf == sf) = p at *
  generalize (nc == sc) = q at *
  obtain ⟨ao, cp, rfl, _, hcp, _⟩ := id hq.s0
  obtain ⟨bo, dp, rfl, _, hdp, _⟩ := id hq.s1
  obtain ⟨xo, xp, rfl, _, hxp, _⟩ := id hq.s2
  obtain ⟨yo, yp, rfl, _, hyp, _⟩ := id hq.s3
  have C0 := fun i : Later w => i.cell hq.c0
  have C1 := fun i : Later w => i.cell hq.c1
  have C2 := fun i : Later w => i.cell hq.c2
  have C3 := fun i : Later w => i.cell hq.c3
  have inst : Nonempty (Later w) := ⟨⟨w, Below.refl _ _⟩⟩
  clear hq
  generalize bs sf = t0 at *
  generalize bs nf = t1 at *
  generalize bs sc = t2 at *
  generalize bs nc = t3 at *
  cases p <;> cases q
  all_goals
    go_enter Try.func23, Try.ntmps23
    go_wp2_with fail
    refine wp_region_later (by kernel_rfl) (by kernel_rfl) ?_
    repeat go_big_quiet_step (fail)
    refine wpQuiet_nil ?_
    intro w' hw'
    obtain ⟨i, rfl⟩ := hw'
    go_wp2
    go_ret
    exact ⟨rfl, i.below⟩

theorem refcommon_any (v u : Value) (l m : List UInt8) (w : World) (hs : Sl w v l) (hu : Sl w u m) (hl : l.length ≤ 1099511627776) (hm : m.length ≤ 1099511627776) :
    Calls Try.prog 30 #[v, u] w fun e w' => e = .returned (.int .i64 (cmn l m)) ∧ Below w.heap.size w w' := by
  have Hs := hide hs
  have Hu := hide hu
  obtain ⟨ao, c, rfl, h1, h2, h3, h4⟩ := hs
  obtain ⟨bo, d, rfl, k1, k2, k3, k4⟩ := hu
  clear h3 h4 k3 k4
  unfold maxLen at h2 k2
  go_enter Try.func30, Try.ntmps30
  go_wp2
  go_loopw [5] (fun i wr => ∃ k n : Nat, k ≤ l.length ∧ k ≤ m.length ∧ i = .int .i64 k ∧ wr = w.drewN n ∧ Hid (∀ j, j < k → l[j]? = m[j]?)) (fun i _ => l.length - (intOf i).toNat)
  case atStart => exact ⟨0, 0, by omega, by omega, rfl, rfl, hide (fun j hj => by omega)⟩
  case round =>
    obtain ⟨k, n, hk1, hk2, rfl, rfl, hE⟩ := hrel
    by_cases hlt : k < l.length
    · have hkI : decide ((k : Int) < (l.length : Int)) = true := by simpa using hlt
      by_cases hlt2 : k < m.length
      · have hkJ : decide ((k : Int) < (m.length : Int)) = true := by simpa using hlt2
        obtain ⟨b, o, rfl⟩ := (unhide Hs).addr (by omega)
        obtain ⟨b2, o2, rfl⟩ := (unhide Hu).addr (by omega)
        have hc1 := (unhide Hs).cell k hlt
        have hc2 := (unhide Hu).cell k hlt2
        obtain ⟨x, hx⟩ : ∃ x, Hid (l[k] = x) := ⟨l[k], Eq.refl l[k]⟩
        obtain ⟨y, hy⟩ : ∃ y, Hid (m[k] = y) := ⟨m[k], Eq.refl m[k]⟩
        rw [hx.out] at hc1
        rw [hy.out] at hc2
        by_cases hxy : x = y
        · have hq : ((x.toNat : Int) == (y.toNat : Int)) = true := by rw [hxy]; simp
          have hE' : Hid (∀ j, j < k + 1 → l[j]? = m[j]?) := by
            intro j hj
            by_cases e : j = k
            · subst e
              rw [List.getElem?_eq_getElem hlt, List.getElem?_eq_getElem hlt2, hx.out, hy.out, hxy]
            · exact (unhide hE) j (by omega)
          clear hE hxy
          go_wp2_with fail
          go_quiet (fail)
          go_wp2
          go_roundw
          case rel => exact ⟨k + 1, _, by omega, by omega, by go_num, rfl, hE'⟩
          case measure => simp [intOf]; omega
        · have hq : ((x.toNat : Int) == (y.toNat : Int)) = false := by
            rw [beq_eq_false_iff_ne]
            intro e
            exact hxy (UInt8.toNat_inj.1 (by omega))
          have hE' : Hid (cmn l m = k) := cmn_eq l m k (unhide hE) (by omega) (by omega) (.inr (.inr (by rw [List.getElem?_eq_getElem hlt, List.getElem?_eq_getElem hlt2, hx.out, hy.out]; simpa using hxy)))
          clear hE hxy
          go_wp2_with fail
          go_quiet (fail)
          go_wp2
          go_ret
          exact ⟨by rw [unhide hE']; rfl, below_drewN (below_drewN (Below.refl _ w) n) nq⟩
      · have hkJ : decide ((k : Int) < (m.length : Int)) = false := by simpa using hlt2
        have hE' : Hid (cmn l m = k) := cmn_eq l m k (unhide hE) (by omega) (by omega) (by omega)
        clear hE
        go_wp2_with fail
        go_quiet (fail)
        go_wp2
        go_ret
        exact ⟨by rw [unhide hE']; rfl, below_drewN (below_drewN (Below.refl _ w) n) nq⟩
    · have hkI : decide ((k : Int) < (l.length : Int)) = false := by simpa using hlt
      have hE' : Hid (cmn l m = k) := cmn_eq l m k (unhide hE) (by omega) (by omega) (by omega)
      clear hE
      go_wp2_with fail
      go_quiet (fail)
      go_wp2
      go_ret
      exact ⟨by rw [unhide hE']; rfl, below_drewN (below_drewN (Below.refl _ w) n) nq⟩
end

end Go.Proofs.Ytdhjogfalkmggaa
