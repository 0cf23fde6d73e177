/-
  The document's own answers: wampumref06's Append, Cut, Set, Sync, Dirty, common. No law is proved here.
  The document's own answers: wampumref06's file and Crash. No law is proved here.
  The document's own answers: wampumref06's Crash. No law is proved here.
  What is read of what was written, by numbers, flags and texts; one way. Of no program.
  The document's own answers for what is put behind: numbers, flags, texts, acts.
  The document's own reader: what its Open, Number, Flag, Text answer.
  The document's own reader: Flag and Text.
-/
import Derived.Test.YteanjnkfoddfmaaL3
import Derived.BigQuiet
namespace Go.Proofs.Yteanjnkfoddfmaa
open Go.RowKit
set_option linter.unusedVariables false

/-- The document's disk in block M: its file and its cell now, its safe file and its safe cell. -/
def Rk (T : Nat → Prop) (w : World) (M : Nat) (nf nc sf sc : List UInt8) : Prop := ∃ v0 v1 v2 v3, Q4 T w M v0 v1 v2 v3 sf nf sc nc

section
variable {T : Nat → Prop} {w w' : World} {M : Nat} {nf nc sf sc : List UInt8}

theorem Rk.frame (h : Rk T w M nf nc sf sc) (hs : w.heap.size ≤ w'.heap.size) (hk : ∀ k, k < w.heap.size → T k → w'.heap[k]? = w.heap[k]?) : Rk T w' M nf nc sf sc := by
  obtain ⟨v0, v1, v2, v3, h⟩ := h
  exact ⟨v0, v1, v2, v3, h.frame hs hk⟩
theorem Rk.later (h : Rk T w M nf nc sf sc) (hb : Below w.heap.size w w') : Rk T w' M nf nc sf sc := h.frame hb.size fun k hk _ => hb.block k hk
theorem Rk.other (h : Rk T w M nf nc sf sc) {U : Nat → Prop} (hf : Fr U w w') (hn : ∀ k, k < w.heap.size → T k → ¬ U k) : Rk T w' M nf nc sf sc := h.frame hf.size fun k hk hs => hf.block k hk (hn k hk hs)
theorem Rk.mono (h : Rk T w M nf nc sf sc) {U : Nat → Prop} (hT : ∀ k, k < w.heap.size → T k → U k) : Rk U w M nf nc sf sc := by
  obtain ⟨v0, v1, v2, v3, h⟩ := h
  exact ⟨v0, v1, v2, v3, h.mono hT⟩

theorem own_in' {w1 : World} {v : Value} {l : List UInt8} (hM : M < w.heap.size) (hT : ∀ k, w.heap.size ≤ k → T k) (ho : Own w.heap.size w1 v l) : In T w1 M v := fun k hk => by
  have := World.ownsRow.lt ho k hk
  exact ⟨hT k this.1, this.2, by omega⟩
end

section
set_option maxRecDepth 100000
variable {T : Nat → Prop}

theorem refappend_ok (M : Nat) (nf nc sf sc lb : List UInt8) (v : Value) (w : World) (h : Rk T w M nf nc sf sc) (hT : ∀ k, w.heap.size ≤ k → T k) (hv : Sl w v lb) (hb : nf.length + lb.length ≤ 16777216) :
    Calls Try.prog 25 #[.pointer (some ⟨M, 0, none⟩), v] w fun e w' => e = .returned (.int .i64 0) ∧ Rk T w' M (nf ++ lb) nc sf sc ∧ Fr T w w' := by
  obtain ⟨v0, v1, v2, v3, hq⟩ := h
  have c1 := hq.c1
  obtain ⟨ao, cp, rfl, _, hcp, _⟩ := id hq.s1
  obtain ⟨xo, xc, rfl, _, hxc, _⟩ := id hv
  unfold maxLen at hcp hxc
  have hI : (nf.length : Int) + (lb.length : Int) ≤ 16777216 := by omega
  have hb1 := below_new w (.cells #[] 5)
  have C1 := (hq.frame (w' := w.alloc (.cells #[] 5)) hb1.size (fun k hk _ => hb1.block k hk)).c1
  have S1 := hide (hq.s1.later hb1)
  have hl0 := Own.lit0 w
  have Hq := hide hq
  have Hv := hide hv
  have HB1 := hide hb1
  clear hq hv hb1
  go_enter Try.func25, Try.ntmps25
  go_wp2_with (at_builtin; refine wpList_append_ob _ rfl (.tmp 15) (.tmp 19) rfl w.heap.size _ _ [] nf (by simp) hl0 rfl rfl (unhide S1) (by simp; omega) ?_)
  intro v4 w1 ho1 hbb1
  replace hbb1 := (unhide HB1).trans hbb1
  obtain ⟨po, pc, rfl⟩ := ho1.val
  clear hl0 S1 C1 HB1 c1
  have Hv1 := hide ((unhide Hv).later hbb1)
  have hz := hbb1.size
  have HB1 := hide hbb1
  have HO1 := hide ho1
  clear hbb1 ho1
  go_wp2_with (at_builtin; refine wpList_append_ob _ rfl (.tmp 20) (.tmp 21) rfl w.heap.size _ _ nf lb hz (unhide HO1) rfl rfl (unhide Hv1) (by omega) ?_)
  intro v5 w2 ho hbb
  replace hbb := (unhide HB1).trans hbb
  obtain ⟨oo, oc, rfl⟩ := ho.val
  clear HB1 HO1 Hv1
  generalize hL0 : nf ++ lb = nfl at *
  have hll : nfl.length ≤ 16777216 := by rw [← hL0, List.length_append]; omega
  have hL := hide hL0
  clear hL0
  have hq1 := (unhide Hq).frame (w' := w2) hbb.size (fun k hk _ => hbb.block k hk)
  have K3 : Hid (Rk T (w2.setCell ⟨M, 1, none⟩ (.slice oo nfl.length oc)) M nfl nc sf sc) := ⟨_, _, _, _, hq1.set1 ho.sl (own_in' (unhide Hq).lt hT ho) hll⟩
  have K4 := hide ((Fr.of (S := T) hbb).set (p := ⟨M, 1, none⟩) (unhide Hq).inB (.slice oo nfl.length oc))
  have d1 := hq1.c1
  have g1 := hq1.f1
  clear hq1 hbb ho hT Hq
  go_wp2
  go_ret
  rw [unhide hL]
  exact ⟨rfl, unhide K3, unhide K4⟩

theorem refcut_ok (M : Nat) (nf nc sf sc : List UInt8) (k : Nat) (w : World) (h : Rk T w M nf nc sf sc) (hT : ∀ k, w.heap.size ≤ k → T k) (hk : k ≤ nf.length) :
    Calls Try.prog 50 #[.pointer (some ⟨M, 0, none⟩), .int .i64 k] w fun e w' => e = .returned (.int .i64 0) ∧ Rk T w' M (nf.take k) nc sf sc ∧ Fr T w w' := by
  obtain ⟨v0, v1, v2, v3, hq⟩ := h
  have c1 := hq.c1
  have b1 := hq.b1
  obtain ⟨ao, cp, rfl, hcn, hcp, _⟩ := id hq.s1
  unfold maxLen at hcp
  have hb1 := below_new w (.cells #[] 5)
  have C1 := (hq.frame (w' := w.alloc (.cells #[] 5)) hb1.size (fun k hk _ => hb1.block k hk)).c1
  have S1 := hide ((hq.s1.later hb1).cut k hk cp (by omega) (Nat.le_refl _))
  have hl0 := Own.lit0 w
  have Hq := hide hq
  have HB1 := hide hb1
  clear hq hb1
  have hkl : (nf.take k).length ≤ 16777216 := by rw [List.length_take]; omega
  generalize nf.take k = nfk at *
  go_enter Try.func50, Try.ntmps50
  go_wp2_with (at_builtin; refine wpList_append_ob _ rfl (.tmp 17) (.tmp 23) rfl w.heap.size _ _ [] nfk (by simp) hl0 rfl rfl (unhide S1) (by simp; omega) ?_)
  intro v5 w2 ho hbb
  replace hbb := (unhide HB1).trans hbb
  obtain ⟨oo, oc, rfl⟩ := ho.val
  clear hl0 S1 C1 HB1 c1
  have hq1 := (unhide Hq).frame (w' := w2) hbb.size (fun k hk _ => hbb.block k hk)
  have K3 : Hid (Rk T (w2.setCell ⟨M, 1, none⟩ (.slice oo nfk.length oc)) M nfk nc sf sc) := ⟨_, _, _, _, hq1.set1 ho.sl (own_in' (unhide Hq).lt hT ho) hkl⟩
  have K4 := hide ((Fr.of (S := T) hbb).set (p := ⟨M, 1, none⟩) (unhide Hq).inB (.slice oo nfk.length oc))
  have d1 := hq1.c1
  have g1 := hq1.f1
  clear hq1 hbb ho hT Hq
  go_wp2
  go_ret
  skip
  exact ⟨rfl, unhide K3, unhide K4⟩

theorem refcut_no (M : Nat) (nf nc sf sc : List UInt8) (n : Int) (w : World) (h : Rk T w M nf nc sf sc) (hk : n < 0 ∨ nf.length < n) :
    Calls Try.prog 50 #[.pointer (some ⟨M, 0, none⟩), .int .i64 n] w fun e w' => e = .returned (.int .i64 61) ∧ w' = w := by
  obtain ⟨v0, v1, v2, v3, hq⟩ := h
  have c1 := hq.c1
  obtain ⟨ao, cp, rfl, hcn, hcp, _⟩ := id hq.s1
  clear hq
  by_cases h0 : n < 0
  · clear hk
    go_enter Try.func50, Try.ntmps50
    go_wp2
    go_ret
    exact ⟨rfl, rfl⟩
  · have h1 : (nf.length : Int) < n := by omega
    clear hk
    go_enter Try.func50, Try.ntmps50
    go_wp2
    go_ret
    exact ⟨rfl, rfl⟩

theorem refset_ok (M : Nat) (nf nc sf sc lb : List UInt8) (v : Value) (w : World) (h : Rk T w M nf nc sf sc) (hT : ∀ k, w.heap.size ≤ k → T k) (hv : Sl w v lb) (hb : lb.length ≤ 16777216) :
    Calls Try.prog 31 #[.pointer (some ⟨M, 0, none⟩), v] w fun e w' => e = .returned (.int .i64 0) ∧ Rk T w' M nf lb sf sc ∧ Fr T w w' := by
  obtain ⟨v0, v1, v2, v3, hq⟩ := h
  obtain ⟨xo, xc, rfl, _, hxc, _⟩ := id hv
  obtain ⟨yo, yc, rfl, _⟩ := id hq.s3
  unfold maxLen at hxc
  have hb1 := below_new w (.cells #[] 5)
  have S1 := hide (hv.later hb1)
  have hl0 := Own.lit0 w
  have Hq := hide hq
  have HB1 := hide hb1
  clear hq hv hb1
  go_enter Try.func31, Try.ntmps31
  go_wp2_with (at_builtin; refine wpList_append_ob _ rfl (.tmp 9) (.tmp 10) rfl w.heap.size _ _ [] lb (by simp) hl0 rfl rfl (unhide S1) (by simp; omega) ?_)
  intro v5 w2 ho hbb
  replace hbb := (unhide HB1).trans hbb
  obtain ⟨oo, oc, rfl⟩ := ho.val
  clear hl0 S1 HB1
  have hq1 := (unhide Hq).frame (w' := w2) hbb.size (fun k hk _ => hbb.block k hk)
  have K3 : Hid (Rk T (w2.setCell ⟨M, 3, none⟩ (.slice oo lb.length oc)) M nf lb sf sc) := ⟨_, _, _, _, hq1.set3 ho.sl (own_in' (unhide Hq).lt hT ho) hb⟩
  have K4 := hide ((Fr.of (S := T) hbb).set (p := ⟨M, 3, none⟩) (unhide Hq).inB (.slice oo lb.length oc))
  have d1 := hq1.c3
  have g1 := hq1.f3
  clear hq1 hbb ho hT Hq
  go_wp2
  go_ret
  exact ⟨rfl, unhide K3, unhide K4⟩

theorem refsync_ok (M : Nat) (nf nc sf sc : List UInt8) (w : World) (h : Rk T w M nf nc sf sc) :
    Calls Try.prog 20 #[.pointer (some ⟨M, 0, none⟩)] w fun e w' => e = .returned (.tuple #[]) ∧ Rk T w' M nf nc nf nc ∧ Fr T w w' := by
  obtain ⟨v0, v1, v2, v3, hq⟩ := h
  have K3 : Hid (Rk T ((w.setCell ⟨M, 0, none⟩ v1).setCell ⟨M, 2, none⟩ v3) M nf nc nf nc) := ⟨_, _, _, _, (hq.set0 hq.s1 hq.i1 hq.b1).set2 (sl_set hq.s3 hq.i3 _ _) (in_set hq.i3 _ _) hq.b3⟩
  have K4 := hide (((Fr.refl T w).set (p := ⟨M, 0, none⟩) hq.inB v1).set (p := ⟨M, 2, none⟩) hq.inB v3)
  obtain ⟨ao, cp, rfl, _, hcp, _⟩ := id hq.s0
  obtain ⟨bo, dp, rfl, _, hdp, _⟩ := id hq.s1
  obtain ⟨xo, xp, rfl, _, hxp, _⟩ := id hq.s2
  obtain ⟨yo, yp, rfl, _, hyp, _⟩ := id hq.s3
  obtain ⟨c0, c1, c2, c3, f0, f1, f2, f3, _⟩ := hq
  go_enter Try.func20, Try.ntmps20
  go_wp2
  go_end0
  exact ⟨rfl, unhide K3, unhide K4⟩

theorem refcommon_any (v u : Value) (l m : List UInt8) (w : World) (hs : Sl w v l) (hu : Sl w u m) (hl : l.length ≤ 1099511627776) (hm : m.length ≤ 1099511627776) :
    Calls Try.prog 78 #[v, u] w fun e w' => e = .returned (.int .i64 (cmn l m)) ∧ Below w.heap.size w w' := by
  have Hs := hide hs
  have Hu := hide hu
  obtain ⟨ao, c, rfl, h1, h2, h3, h4⟩ := hs
  obtain ⟨bo, d, rfl, k1, k2, k3, k4⟩ := hu
  clear h3 h4 k3 k4
  unfold maxLen at h2 k2
  go_enter Try.func78, Try.ntmps78
  go_wp2
  go_loopw [5] (fun i wr => ∃ k n : Nat, k ≤ l.length ∧ k ≤ m.length ∧ i = .int .i64 k ∧ wr = w.drewN n ∧ Hid (∀ j, j < k → l[j]? = m[j]?)) (fun i _ => l.length - (intOf i).toNat)
  case atStart => exact ⟨0, 0, by omega, by omega, rfl, rfl, hide (fun j hj => by omega)⟩
  case round =>
    obtain ⟨k, n, hk1, hk2, rfl, rfl, hE⟩ := hrel
    by_cases hlt : k < l.length
    · have hkI : decide ((k : Int) < (l.length : Int)) = true := by simpa using hlt
      by_cases hlt2 : k < m.length
      · have hkJ : decide ((k : Int) < (m.length : Int)) = true := by simpa using hlt2
        obtain ⟨b, o, rfl⟩ := (unhide Hs).addr (by omega)
        obtain ⟨b2, o2, rfl⟩ := (unhide Hu).addr (by omega)
        have hc1 := (unhide Hs).cell k hlt
        have hc2 := (unhide Hu).cell k hlt2
        obtain ⟨x, hx⟩ : ∃ x, Hid (l[k] = x) := ⟨l[k], Eq.refl l[k]⟩
        obtain ⟨y, hy⟩ : ∃ y, Hid (m[k] = y) := ⟨m[k], Eq.refl m[k]⟩
        rw [hx.out] at hc1
        rw [hy.out] at hc2
        by_cases hxy : x = y
        · have hq : ((x.toNat : Int) == (y.toNat : Int)) = true := by rw [hxy]; simp
          have hE' : Hid (∀ j, j < k + 1 → l[j]? = m[j]?) := by
            intro j hj
            by_cases e : j = k
            · subst e
              rw [List.getElem?_eq_getElem hlt, List.getElem?_eq_getElem hlt2, hx.out, hy.out, hxy]
            · exact (unhide hE) j (by omega)
          clear hE hxy
          go_wp2_with fail
          go_quiet (fail)
          go_wp2
          go_roundw
          case rel => exact ⟨k + 1, _, by omega, by omega, by go_num, rfl, hE'⟩
          case measure => simp [intOf]; omega
        · have hq : ((x.toNat : Int) == (y.toNat : Int)) = false := by
            rw [beq_eq_false_iff_ne]
            intro e
            exact hxy (UInt8.toNat_inj.1 (by omega))
          have hE' : Hid (cmn l m = k) := cmn_eq l m k (unhide hE) (by omega) (by omega) (.inr (.inr (by rw [List.getElem?_eq_getElem hlt, List.getElem?_eq_getElem hlt2, hx.out, hy.out]; simpa using hxy)))
          clear hE hxy
          go_wp2_with fail
          go_quiet (fail)
          go_wp2
          go_ret
          exact ⟨by rw [unhide hE']; rfl, below_drewN (below_drewN (Below.refl _ w) n) nq⟩
      · have hkJ : decide ((k : Int) < (m.length : Int)) = false := by simpa using hlt2
        have hE' : Hid (cmn l m = k) := cmn_eq l m k (unhide hE) (by omega) (by omega) (by omega)
        clear hE
        go_wp2_with fail
        go_quiet (fail)
        go_wp2
        go_ret
        exact ⟨by rw [unhide hE']; rfl, below_drewN (below_drewN (Below.refl _ w) n) nq⟩
    · have hkI : decide ((k : Int) < (l.length : Int)) = false := by simpa using hlt
      have hE' : Hid (cmn l m = k) := cmn_eq l m k (unhide hE) (by omega) (by omega) (by omega)
      clear hE
      go_wp2_with fail
      go_quiet (fail)
      go_wp2
      go_ret
      exact ⟨by rw [unhide hE']; rfl, below_drewN (below_drewN (Below.refl _ w) n) nq⟩
end

end Go.Proofs.Yteanjnkfoddfmaa

namespace Go.Proofs.Yteanjnkfoddfmaa
open Go.RowKit
set_option linter.unusedVariables false

section
set_option maxRecDepth 100000
variable {T : Nat → Prop}

set_option maxHeartbeats 2000000 in
theorem reffile_ok (M : Nat) (nf nc sf sc : List UInt8) (keep : Int) (torn : Bool) (w : World) (h : Rk T w M nf nc sf sc) (hT : ∀ k, w.heap.size ≤ k → T k) (hk0 : -9223372036854775808 ≤ keep) (hk : keep ≤ 9223372036854775807) :
    Calls Try.prog 61 #[.pointer (some ⟨M, 0, none⟩), .int .i64 keep, .bool torn] w fun e w' =>
      ∃ ao n c, e = .returned (.slice ao n c) ∧ Sl w' (.slice ao n c) (left sf nf keep torn) ∧ (∀ g, (Value.slice ao n c).ownBlock = some g → T g ∧ g < w'.heap.size) ∧ Below w.heap.size w w' := by
  obtain ⟨v0, v1, v2, v3, hq⟩ := h
  have hc := hide (fun i : Later w => refcommon_any v0 v1 sf nf i.val (hq.s0.later i.below) (hq.s1.later i.below) (by have := hq.b0; omega) (by have := hq.b1; omega))
  have HQ := hide (fun y (hy : Below w.heap.size w y) => hq.frame (w' := y) hy.size (fun k hk _ => hy.block k hk))
  have b0 := hq.b0
  have b1 := hq.b1
  obtain ⟨xo, xp, rfl, hxn, hxp, _⟩ := id hq.s0
  obtain ⟨ao, cp, rfl, hcn, hcp, _⟩ := id hq.s1
  unfold maxLen at hcp hxp
  have C0 := fun i : Later w => i.cell hq.c0
  have C1 := fun i : Later w => i.cell hq.c1
  have inst : Nonempty (Later w) := ⟨⟨w, Below.refl _ _⟩⟩
  have cr := cmn_right sf nf
  have cl := cmn_left sf nf
  have ct := hide (cmn_take sf nf)
  clear hq
  obtain ⟨m, hm⟩ : ∃ m, Hid (more sf nf keep = m) := ⟨_, hide rfl⟩
  have hmI : Hid (m = min keep.toNat (nf.length - cmn sf nf)) := hide (by rw [← unhide hm]; rfl)
  have hL0 : Hid (left sf nf keep torn = if keep < 1 then sf else if torn = true ∧ 0 < m then flp (nf.take (cmn sf nf + m)) else nf.take (cmn sf nf + m)) := by
    show _ = _
    unfold left
    rw [unhide hm]
  generalize cmn sf nf = c at *
  go_enter Try.func61, Try.ntmps61
  go_wp2_with fail
  refine wp_region_later (by kernel_rfl) (by kernel_rfl) ?_
  repeat (first
    | go_big_quiet_step ((go_at_call 78; with_reducible exact calls_later (unhide hc _)))
    | quiet_step (fail))
  refine wpQuiet_nil ?_
  intro w' hw'
  obtain ⟨i, rfl⟩ := hw'
  have d0 := C0 i
  have C1 := C1 i
  have HB := hide i.below
  generalize i.val = W at *
  clear C0 hc inst
  by_cases hcn' : c = nf.length
  · have hce : ((c : Int) == (nf.length : Int)) = true := by rw [hcn']; simp
    by_cases h1 : keep < 1
    · have e : Hid (left sf nf keep torn = sf) := by show _ = _; rw [unhide hL0, if_pos h1]
      have Hs := hide ((unhide HQ _ (unhide HB)).s0)
      have Hi := hide ((unhide HQ _ (unhide HB)).i0)
      clear hcn'
      go_wp2
      go_ret
      rw [unhide e]
      exact ⟨_, _, _, rfl, unhide Hs, fun g hg => ⟨(unhide Hi g hg).1, (unhide Hi g hg).2.1⟩, unhide HB⟩
    · have e : Hid (left sf nf keep torn = nf) := by
        show _ = _
        have hm0 : m = 0 := by have := unhide hmI; omega
        rw [unhide hL0, if_neg h1, if_neg (by omega), hm0, hcn', Nat.add_zero, List.take_length]
      have Hs := hide ((unhide HQ _ (unhide HB)).s1)
      have Hi := hide ((unhide HQ _ (unhide HB)).i1)
      clear hcn'
      go_wp2
      go_ret
      rw [unhide e]
      exact ⟨_, _, _, rfl, unhide Hs, fun g hg => ⟨(unhide Hi g hg).1, (unhide Hi g hg).2.1⟩, unhide HB⟩
  · have hce : ((c : Int) == (nf.length : Int)) = false := by
      rw [beq_eq_false_iff_ne]
      omega
    have hclt : c < nf.length := by omega
    clear hcn'
    by_cases h1 : keep < 1
    · by_cases h2 : c < sf.length
      · have e : Hid (left sf nf keep torn = sf) := by show _ = _; rw [unhide hL0, if_pos h1]
        have Hs := hide ((unhide HQ _ (unhide HB)).s0)
        have Hi := hide ((unhide HQ _ (unhide HB)).i0)
        have h2I : (c : Int) < (sf.length : Int) := by omega
        go_wp2
        go_ret
        rw [unhide e]
        exact ⟨_, _, _, rfl, unhide Hs, fun g hg => ⟨(unhide Hi g hg).1, (unhide Hi g hg).2.1⟩, unhide HB⟩
      · have h2I : ¬ (c : Int) < (sf.length : Int) := by omega
        have e : Hid (left sf nf keep torn = sf) := by show _ = _; rw [unhide hL0, if_pos h1]
        have ex : nf.take c = sf := by
          have := unhide ct
          rw [← this, List.take_of_length_le (by omega)]
        have hcs : c = sf.length := by omega
        have hb1 := below_new W (.cells #[] 5)
        have D1 := (unhide HQ _ ((unhide HB).alloc (unhide HB).size (.cells #[] 5))).c1
        have S1 := ((unhide HQ _ (unhide HB)).s1.later hb1).cut c (by omega) cp (by omega) (Nat.le_refl _)
        rw [ex] at S1
        replace S1 := hide S1
        have hl0 := Own.lit0 W
        have HB1 := hide hb1
        have hsc : c ≤ 16777216 := by omega
        have hcn2 : (0 : Int) < (nf.length : Int) - (c : Int) := by omega
        clear hb1 ex hL0 hm hmI ct hcs
        by_cases h3 : keep < 0
        · go_wp2_with (at_builtin; refine wpList_append_ob _ rfl (.tmp 61) (.tmp 69) rfl W.heap.size _ _ [] sf (by simp) hl0 rfl rfl (unhide S1) (by simp; omega) ?_)
          intro v5 w1 ho hbb
          obtain ⟨po, pc, rfl⟩ := ho.val
          have Hw := hide ((unhide HB).trans (((unhide HB1).trans hbb).mono (unhide HB).size))
          have Ho := hide (ho.mono (unhide HB).size)
          clear hl0 S1 HB1 D1 hbb C1 ho
          cases torn
          all_goals
            go_wp2
            go_ret
            rw [unhide e]
            exact ⟨_, _, _, rfl, (unhide Ho).sl, fun g hg => ⟨hT g (World.ownsRow.lt (unhide Ho) g hg).1, (World.ownsRow.lt (unhide Ho) g hg).2⟩, unhide Hw⟩
        · obtain rfl : keep = 0 := by omega
          clear h1 h3
          go_wp2_with (at_builtin; refine wpList_append_ob _ rfl (.tmp 61) (.tmp 69) rfl W.heap.size _ _ [] sf (by simp) hl0 rfl rfl (unhide S1) (by simp; omega) ?_)
          intro v5 w1 ho hbb
          obtain ⟨po, pc, rfl⟩ := ho.val
          have Hw := hide ((unhide HB).trans (((unhide HB1).trans hbb).mono (unhide HB).size))
          have Ho := hide (ho.mono (unhide HB).size)
          clear hl0 S1 HB1 D1 hbb C1 ho
          cases torn
          all_goals
            go_wp2
            go_ret
            rw [unhide e]
            exact ⟨_, _, _, rfl, (unhide Ho).sl, fun g hg => ⟨hT g (World.ownsRow.lt (unhide Ho) g hg).1, (World.ownsRow.lt (unhide Ho) g hg).2⟩, unhide Hw⟩
    · have h1' : 1 ≤ keep := by omega
      have hL : Hid (left sf nf keep torn = if torn = true ∧ 0 < m then flp (nf.take (c + m)) else nf.take (c + m)) := by show _ = _; rw [unhide hL0, if_neg h1]
      have hm0 : 0 < m := by have := unhide hmI; omega
      have h1I : ¬ keep < 1 := h1
      clear h1 hL0
      by_cases hsm : keep ≤ (nf.length : Int) - (c : Int)
      · obtain ⟨mm, rfl⟩ : ∃ mm : Nat, keep = mm := ⟨keep.toNat, by omega⟩
        obtain rfl : m = mm := by have := unhide hmI; omega
        have hle : c + m ≤ nf.length := by omega
        have ht : ((c : Int) + (m : Int)).toNat = c + m := by omega
        have hb1 := below_new W (.cells #[] 5)
        have D1 := (unhide HQ _ ((unhide HB).alloc (unhide HB).size (.cells #[] 5))).c1
        have S1 := hide (((unhide HQ _ (unhide HB)).s1.later hb1).cut (c + m) hle cp (by omega) (Nat.le_refl _))
        have hlen : (nf.take (c + m)).length = c + m := by rw [List.length_take]; omega
        obtain ⟨X, hX⟩ : ∃ X, Hid (nf.take (c + m) = X) := ⟨_, hide rfl⟩
        rw [unhide hX] at S1 hlen
        have hl0 := Own.lit0 W
        have HB1 := hide hb1
        clear hb1
        go_wp2_with (at_builtin; refine wpList_append_ob _ rfl (.tmp 61) (.tmp 69) rfl W.heap.size _ _ [] X (by simp) hl0 rfl rfl (unhide S1) (by simp; omega) ?_)
        intro v5 w1 ho hbb
        obtain ⟨po, pc, rfl⟩ := ho.val
        rw [hlen] at ho ⊢
        have hw := (unhide HB).trans (((unhide HB1).trans hbb).mono (unhide HB).size)
        replace ho := ho.mono (unhide HB).size
        clear hl0 S1 HB1 D1 hbb C1
        cases torn
        · have hL' : Hid (left sf nf (m : Int) false = X) := by
            show _ = _
            rw [unhide hL]
            exact unhide hX
          have Ho := hide ho
          have Hw := hide hw
          clear ho hw
          go_wp2
          go_ret
          rw [unhide hL']
          exact ⟨_, _, _, rfl, (unhide Ho).sl, fun g hg => ⟨hT g (World.ownsRow.lt (unhide Ho) g hg).1, (World.ownsRow.lt (unhide Ho) g hg).2⟩, unhide Hw⟩
        · have hL' : Hid (left sf nf (m : Int) true = flp X) := by
            show _ = _
            rw [unhide hL, ← unhide hX, if_pos ⟨rfl, hm0⟩]
          obtain ⟨g, cap, hrow⟩ := row_form ho (by omega)
          rw [hlen] at hrow
          rw [hrow] at ho ⊢
          clear hrow
          obtain ⟨x, hx⟩ : ∃ x, X[c + m - 1]? = some x := ⟨X[c + m - 1]'(by omega), List.getElem?_eq_getElem _⟩
          obtain ⟨hcb, hfz, ho', hgr⟩ := put_row ho (c + m - 1) (by omega) hlen x (x ^^^ 1) hx
          have ef : X.set (c + m - 1) (x ^^^ 1) = flp X := by
            unfold flp
            rw [hlen]
            simp [List.getD, hx]
          rw [ef] at ho'
          have Ho := hide ho'
          have Hw := hide (hw.setCell (p := ⟨g, c + m - 1, none⟩) (World.ownsRow.lt ho g rfl).1 (.int .u8 ((x ^^^ 1).toNat : Int)))
          clear ho hw ho' hgr ef hx
          have hxb := xor1 x
          go_wp2
          go_ret
          rw [unhide hL']
          exact ⟨_, _, _, rfl, (unhide Ho).sl, fun g hg => ⟨hT g (World.ownsRow.lt (unhide Ho) g hg).1, (World.ownsRow.lt (unhide Ho) g hg).2⟩, unhide Hw⟩
      · have hsub : (nf.length : Int) - (c : Int) = (m : Int) := by have := unhide hmI; omega
        have hmk : (m : Int) < keep := by omega
        clear hsm
        have hle : c + m ≤ nf.length := by omega
        have ht : ((c : Int) + (m : Int)).toNat = c + m := by omega
        have hb1 := below_new W (.cells #[] 5)
        have D1 := (unhide HQ _ ((unhide HB).alloc (unhide HB).size (.cells #[] 5))).c1
        have S1 := hide (((unhide HQ _ (unhide HB)).s1.later hb1).cut (c + m) hle cp (by omega) (Nat.le_refl _))
        have hlen : (nf.take (c + m)).length = c + m := by rw [List.length_take]; omega
        obtain ⟨X, hX⟩ : ∃ X, Hid (nf.take (c + m) = X) := ⟨_, hide rfl⟩
        rw [unhide hX] at S1 hlen
        have hl0 := Own.lit0 W
        have HB1 := hide hb1
        clear hb1
        go_wp2_with (at_builtin; refine wpList_append_ob _ rfl (.tmp 61) (.tmp 69) rfl W.heap.size _ _ [] X (by simp) hl0 rfl rfl (unhide S1) (by simp; omega) ?_)
        intro v5 w1 ho hbb
        obtain ⟨po, pc, rfl⟩ := ho.val
        rw [hlen] at ho ⊢
        have hw := (unhide HB).trans (((unhide HB1).trans hbb).mono (unhide HB).size)
        replace ho := ho.mono (unhide HB).size
        clear hl0 S1 HB1 D1 hbb C1
        cases torn
        · have hL' : Hid (left sf nf keep false = X) := by
            show _ = _
            rw [unhide hL]
            exact unhide hX
          have Ho := hide ho
          have Hw := hide hw
          clear ho hw
          go_wp2
          go_ret
          rw [unhide hL']
          exact ⟨_, _, _, rfl, (unhide Ho).sl, fun g hg => ⟨hT g (World.ownsRow.lt (unhide Ho) g hg).1, (World.ownsRow.lt (unhide Ho) g hg).2⟩, unhide Hw⟩
        · have hL' : Hid (left sf nf keep true = flp X) := by
            show _ = _
            rw [unhide hL, ← unhide hX, if_pos ⟨rfl, hm0⟩]
          obtain ⟨g, cap, hrow⟩ := row_form ho (by omega)
          rw [hlen] at hrow
          rw [hrow] at ho ⊢
          clear hrow
          obtain ⟨x, hx⟩ : ∃ x, X[c + m - 1]? = some x := ⟨X[c + m - 1]'(by omega), List.getElem?_eq_getElem _⟩
          obtain ⟨hcb, hfz, ho', hgr⟩ := put_row ho (c + m - 1) (by omega) hlen x (x ^^^ 1) hx
          have ef : X.set (c + m - 1) (x ^^^ 1) = flp X := by
            unfold flp
            rw [hlen]
            simp [List.getD, hx]
          rw [ef] at ho'
          have Ho := hide ho'
          have Hw := hide (hw.setCell (p := ⟨g, c + m - 1, none⟩) (World.ownsRow.lt ho g rfl).1 (.int .u8 ((x ^^^ 1).toNat : Int)))
          clear ho hw ho' hgr ef hx
          have hxb := xor1 x
          go_wp2
          go_ret
          rw [unhide hL']
          exact ⟨_, _, _, rfl, (unhide Ho).sl, fun g hg => ⟨hT g (World.ownsRow.lt (unhide Ho) g hg).1, (World.ownsRow.lt (unhide Ho) g hg).2⟩, unhide Hw⟩
end

end Go.Proofs.Yteanjnkfoddfmaa

namespace Go.Proofs.Yteanjnkfoddfmaa
open Go.RowKit
set_option linter.unusedVariables false

section
set_option maxRecDepth 100000
variable {T : Nat → Prop}

theorem Q4.low {w : World} {N B : Nat} {v : Value} (h : In T w B v) (hN : w.heap.size ≤ N) : ∀ g, v.ownBlock = some g → g ≠ N := fun g hg e => by have := (h g hg).2.1; omega

set_option maxHeartbeats 2000000 in
theorem refcrash_ok (M : Nat) (nf nc sf sc : List UInt8) (keep : Int) (torn cell : Bool) (w : World) (h : Rk T w M nf nc sf sc) (hT : ∀ k, w.heap.size ≤ k → T k) (hk0 : -9223372036854775808 ≤ keep) (hk : keep ≤ 9223372036854775807) :
    Calls Try.prog 23 #[.pointer (some ⟨M, 0, none⟩), .int .i64 keep, .bool torn, .bool cell] w fun e w' =>
      ∃ M', e = .returned (.pointer (some ⟨M', 0, none⟩)) ∧ w.heap.size ≤ M' ∧ Rk T w' M' (left sf nf keep torn) (cel nc sc cell) (left sf nf keep torn) (cel nc sc cell) ∧ Below w.heap.size w w' := by
  have hb4 : (left sf nf keep torn).length ≤ 16777216 := by obtain ⟨_, _, _, _, hq⟩ := h; exact left_length sf nf keep torn _ hq.b0 hq.b1
  have hF := hide (fun y (hy : Below w.heap.size w y) => reffile_ok (T := T) M nf nc sf sc keep torn y (h.later hy) (fun k hk => hT k (Nat.le_trans hy.size hk)) hk0 hk)
  generalize left sf nf keep torn = L at *
  obtain ⟨v0, v1, v2, v3, hq⟩ := h
  have HQ := hide (fun y (hy : Below w.heap.size w y) => hq.frame (w' := y) hy.size (fun k hk _ => hy.block k hk))
  obtain ⟨bo, dp, rfl, _, hdp, _⟩ := id hq.s2
  obtain ⟨yo, yp, rfl, _, hyp, _⟩ := id hq.s3
  have c2 := hq.c2
  have hMn := World.new_ne w ⟨M, 2, none⟩ hq.c2
  clear hq
  go_enter Try.func23, Try.ntmps23
  go_wp2_with fail
  go_region_held (fun w' => w'.cell? ⟨M, 2, none⟩ = some (.slice bo sc.length dp)) (go_keep)
    (first | (go_at_call 61; refine (unhide hF _ (Below.refl _ _).drew).mono ?_; rintro e w3 ⟨fo, fn, fc, rfl, hs3, hi3, hb3⟩; have HS := hide hs3; have HI := hide hi3; have HB := hide (show Below w.heap.size w w3 from (Below.refl _ _).drew.trans hb3); have c2 := (unhide HQ w3 (unhide HB)).c2; have hMn3 := World.new_ne w3 ⟨M, 2, none⟩ c2; clear hs3 hi3 hb3))
  have q3 := unhide HQ w3 (unhide HB)
  have hz := (unhide HB).size
  have hq1 : Q4 T _ w3.heap.size _ _ _ _ L [] sc [] := Q4.new w3 (.slice fo fn fc) (.slice none 0 0) (.slice bo sc.length dp) (.slice none 0 0) L [] sc [] 28 (unhide HS) (Sl.nil _) q3.s2 (Sl.nil _) (unhide HI) (fun g h => by cases h) (fun g hg => ⟨(q3.i2 g hg).1, (q3.i2 g hg).2.1⟩) (fun g h => by cases h) hb4 (by simp) q3.b2 (by simp) (hT _ hz)
  have hB1 : Below w.heap.size w (w3.alloc (.cells #[.slice fo fn fc, .slice none 0 0, .slice bo sc.length dp, .slice none 0 0] 28)) := (unhide HB).alloc hz _
  have qm := unhide HQ _ hB1
  have iv : In T _ w3.heap.size (.slice yo nc.length yp) := fun g hg => ⟨(qm.i3 g hg).1, (qm.i3 g hg).2.1, fun e => by have := (q3.i3 g hg).2.1; omega⟩
  generalize w3.alloc (.cells #[.slice fo fn fc, .slice none 0 0, .slice bo sc.length dp, .slice none 0 0] 28) = W at *
  generalize w3.heap.size = N at *
  have m3 := qm.c3
  have Hqm := hide qm
  have Hq1 := hide hq1
  have Hiv := hide iv
  have HB1 := hide hB1
  obtain ⟨c0, c1, c2', c3, f0, f1, f2, f3, _⟩ := hq1
  obtain ⟨xfo, xfc, exf, _⟩ := id (unhide HS)
  clear hF HQ HS HI HB q3 qm iv hB1 c2 exf hT
  cases cell
  · have K3 : Hid (Rk T _ N L sc L sc) := ⟨_, _, _, _, ((unhide Hq1).set1 (unhide Hq1).s0 (unhide Hq1).i0 hb4).set3 (sl_set (unhide Hq1).s2 (unhide Hq1).i2 _ _) (in_set (unhide Hq1).i2 _ _) (unhide Hq1).b2⟩
    have K4 := hide (((unhide HB1).setCell (p := ⟨N, 1, none⟩) hz (.slice fo fn fc)).setCell (p := ⟨N, 3, none⟩) hz (.slice bo sc.length dp))
    clear Hq1 Hiv HB1 Hqm
    go_wp2
    go_ret
    exact ⟨N, rfl, hz, unhide K3, unhide K4⟩
  · have K3 : Hid (Rk T _ N L nc L nc) := ⟨_, _, _, _, (((unhide Hq1).set2 (unhide Hqm).s3 (unhide Hiv) (unhide Hqm).b3).set1 (sl_set (unhide Hq1).s0 (unhide Hq1).i0 _ _) (in_set (unhide Hq1).i0 _ _) hb4).set3 (sl_set (sl_set (unhide Hqm).s3 (unhide Hiv) _ _) (in_set (unhide Hiv) _ _) _ _) (in_set (in_set (unhide Hiv) _ _) _ _) (unhide Hqm).b3⟩
    have K4 := hide ((((unhide HB1).setCell (p := ⟨N, 2, none⟩) hz (.slice yo nc.length yp)).setCell (p := ⟨N, 1, none⟩) hz (.slice fo fn fc)).setCell (p := ⟨N, 3, none⟩) hz (.slice yo nc.length yp))
    clear Hq1 Hiv HB1 Hqm
    go_wp2
    go_ret
    exact ⟨N, rfl, hz, unhide K3, unhide K4⟩
end

end Go.Proofs.Yteanjnkfoddfmaa

namespace Go.Proofs.Yteanjnkfoddfmaa
open Go.RowKit
set_option linter.unusedVariables false

theorem ofNat_toNat {n : Nat} (h : n < 256) : (UInt8.ofNat n).toNat = n := by simp [UInt8.toNat_ofNat']; omega

/-- What was put behind is read: with what was read ahead of it. -/
theorem dec_enc : ∀ (n i a v : Nat) (r : List UInt8), v < 128 ^ n → (0 < v ∨ i = 0) → (0 < n) → dec n i a (enc v ++ r) = (a + v * 128 ^ i, i + (enc v).length)
  | 0, _, _, _, _, _, _, h => absurd h (by decide)
  | n + 1, i, a, v, r, hv, h0, _ => by
    by_cases hs : v < 128
    · rw [enc_small hs, List.singleton_append, dec, ofNat_toNat (by omega), if_neg (by omega), if_neg (by omega), Nat.mod_eq_of_lt hs]
      simp
    · have hd : v / 128 < 128 ^ n := by rw [Nat.pow_succ] at hv; exact Nat.div_lt_of_lt_mul (by rw [Nat.mul_comm]; exact hv)
      have hn : 0 < n := by
        rcases Nat.eq_zero_or_pos n with rfl | h
        · simp at hd; omega
        · exact h
      rw [enc_big (by omega), List.cons_append, dec, ofNat_toNat (by omega), if_pos (by omega), dec_enc n (i + 1) _ (v / 128) r hd (.inl (by omega)) hn]
      have e : (v % 128 + 128) % 128 = v % 128 := by omega
      have e2 : v * 128 ^ i = v % 128 * 128 ^ i + v / 128 * 128 ^ (i + 1) := by
        rw [Nat.pow_succ, Nat.mul_comm (128 ^ i) 128, ← Nat.mul_assoc, ← Nat.add_mul]
        congr 1
        omega
      rw [e, e2]
      simp only [List.length_cons, Prod.mk.injEq]
      constructor <;> omega

theorem first_enc (v : Nat) (r : List UInt8) (h : v ≤ 9223372036854775807) : first (enc v ++ r) = (v, (enc v).length) := by
  unfold first
  rw [dec_enc 9 0 0 v r (Nat.lt_of_le_of_lt h (by decide)) (.inr rfl) (by decide)]
  simp

theorem rdN_enc (v : Nat) (r : List UInt8) (most : Int) (hv : v ≤ 9223372036854775807) (hm : (v : Int) ≤ most) : rdN (enc v ++ r) most = (v, 0, r) := by
  have e := first_enc v r hv
  have hp := enc_pos v
  rw [rdN_yes (by rw [e]; simp only; omega), e]
  simp

theorem rdF_enc (b : Bool) (r : List UInt8) : rdF (encF b ++ r) = (b, 0, r) := by
  cases b
  · have := rdN_enc 0 r 1 (by decide) (by decide)
    rw [enc_zero] at this
    unfold rdF
    rw [show encF false ++ r = [0] ++ r from rfl, this]
    rfl
  · have := rdN_enc 1 r 1 (by decide) (by decide)
    rw [enc_one] at this
    unfold rdF
    rw [show encF true ++ r = [1] ++ r from rfl, this]
    rfl

theorem rdT_enc (s : ByteArray) (r : List UInt8) (most : Int) (hs : s.size ≤ 9223372036854775807) (hm : (s.size : Int) ≤ most) : rdT (encT s ++ r) most = (s.data.toList, 0, r) := by
  have e := first_enc s.size (s.data.toList ++ r) hs
  rw [← List.append_assoc] at e
  have e' : first (encT s ++ r) = (s.size, (enc s.size).length) := e
  have hp := enc_pos s.size
  have hl : (encT s ++ r).length = (enc s.size).length + s.size + r.length := by unfold encT; rw [List.length_append, List.length_append, str_len]
  have hd : (encT s ++ r).drop (enc s.size).length = s.data.toList ++ r := by unfold encT; rw [List.append_assoc, List.drop_left]
  rw [rdT_yes (by rw [e', hl]; simp only; omega), e']
  simp only
  rw [← List.drop_drop, hd]
  have h1 : (s.data.toList ++ r).take s.size = s.data.toList := by rw [← str_len s]; exact List.take_left
  have h2 : (s.data.toList ++ r).drop s.size = r := by rw [← str_len s]; exact List.drop_left
  rw [h1, h2]

theorem ofNat_self (c : UInt8) (n : Nat) (h : c.toNat = n) : UInt8.ofNat n = c := by subst h; simp

theorem dec_one : ∀ (n i a : Nat) (l : List UInt8), (dec n i a l).2 ≠ 0 → ∃ v, (dec n i a l).1 = a + v * 128 ^ i ∧ (dec n i a l).2 = i + (enc v).length ∧ l = enc v ++ l.drop (enc v).length ∧ (0 < i → 0 < v)
  | 0, _, _, _, h => by simp [dec] at h
  | _ + 1, _, _, [], h => by simp [dec] at h
  | n + 1, i, a, c :: l, h => by
    have hc := c.toNat_lt
    rw [dec] at h ⊢
    by_cases hb : 128 ≤ c.toNat
    · rw [if_pos hb] at h ⊢
      obtain ⟨v, h1, h2, h3, h4⟩ := dec_one n (i + 1) (a + c.toNat % 128 * 128 ^ i) l h
      have hv := h4 (by omega)
      have he : enc (c.toNat % 128 + 128 * v) = c :: enc v := by
        rw [enc_big (by omega), show (c.toNat % 128 + 128 * v) / 128 = v by omega, ofNat_self c _ (by omega)]
      refine ⟨c.toNat % 128 + 128 * v, ?_, ?_, ?_, fun _ => by omega⟩
      · rw [h1, Nat.add_mul, Nat.pow_succ, Nat.mul_comm 128 v, Nat.mul_assoc, Nat.mul_comm 128 (128 ^ i)]
        omega
      · rw [h2, he, List.length_cons]; omega
      · rw [he, List.length_cons, List.drop_succ_cons, List.cons_append, ← h3]
    · rw [if_neg hb] at h ⊢
      by_cases h0 : c.toNat = 0 ∧ 0 < i
      · rw [if_pos h0] at h; exact absurd rfl h
      · rw [if_neg h0]
        have he : enc c.toNat = [c] := by rw [enc_small (by omega), ofNat_self c _ rfl]
        refine ⟨c.toNat, by rw [Nat.mod_eq_of_lt (by omega)], by rw [he]; rfl, by rw [he]; rfl, fun hi => ?_⟩
        omega

theorem first_one (l : List UInt8) (h : (first l).2 ≠ 0) : l = enc (first l).1 ++ l.drop (first l).2 := by
  obtain ⟨v, h1, h2, h3, _⟩ := dec_one 9 0 0 l h
  have e1 : (first l).1 = v := by unfold first; rw [h1]; simp
  have e2 : (first l).2 = (enc v).length := by unfold first; rw [h2]; simp
  rw [e1, e2]
  exact h3

/-- What became of a number's reading: nothing, or its bytes. -/
theorem rdN_one (l : List UInt8) (most : Int) : ((rdN l most).2.1 = 11 ∧ (rdN l most).2.2 = l ∧ (rdN l most).1 = 0) ∨
    ((rdN l most).2.1 = 0 ∧ l = enc (rdN l most).1 ++ (rdN l most).2.2 ∧ ((rdN l most).1 : Int) ≤ most ∧ (rdN l most).1 ≤ 9223372036854775807) := by
  by_cases h : (first l).2 = 0 ∨ most < ((first l).1 : Int)
  · rw [rdN_no h]; exact .inl ⟨rfl, rfl, rfl⟩
  · rw [rdN_yes h]
    exact .inr ⟨rfl, first_one l (fun e => h (.inl e)), by simp only; omega, first_lt l⟩

theorem rdF_one (l : List UInt8) : ((rdF l).2.1 = 11 ∧ (rdF l).2.2 = l ∧ (rdF l).1 = false) ∨ ((rdF l).2.1 = 0 ∧ l = encF (rdF l).1 ++ (rdF l).2.2) := by
  unfold rdF
  rcases rdN_one l 1 with ⟨h1, h2, h3⟩ | ⟨h1, h2, h3, _⟩
  · exact .inl ⟨h1, h2, by rw [h3]; rfl⟩
  · refine .inr ⟨h1, ?_⟩
    generalize rdN l 1 = y at *
    obtain ⟨x, e, r⟩ := y
    simp only at h2 h3 ⊢
    have : x = 0 ∨ x = 1 := by omega
    rcases this with rfl | rfl
    · rw [enc_zero] at h2; exact h2
    · rw [enc_one] at h2; exact h2

theorem rdT_one (l : List UInt8) (most : Int) : ((rdT l most).2.1 = 11 ∧ (rdT l most).2.2 = l ∧ (rdT l most).1 = []) ∨
    ((rdT l most).2.1 = 0 ∧ l = encT ⟨(rdT l most).1.toArray⟩ ++ (rdT l most).2.2 ∧ ((rdT l most).1.length : Int) ≤ most) := by
  by_cases h : (first l).2 = 0 ∨ most < ((first l).1 : Int) ∨ ((l.length : Int) - (first l).2 < (first l).1)
  · rw [rdT_no h]; exact .inl ⟨rfl, rfl, rfl⟩
  · rw [rdT_yes h]
    refine .inr ⟨rfl, ?_, ?_⟩
    · simp only
      have hk : (first l).2 ≠ 0 := fun e => h (.inl e)
      have hle := first_le l
      have hlen : ((l.drop (first l).2).take (first l).1).length = (first l).1 := by rw [List.length_take, List.length_drop]; omega
      have hz : (⟨((l.drop (first l).2).take (first l).1).toArray⟩ : ByteArray).size = (first l).1 := by
        show (((l.drop (first l).2).take (first l).1).toArray).size = _
        rw [List.size_toArray, hlen]
      unfold encT
      rw [hz]
      conv => lhs; rw [first_one l hk]
      rw [List.append_assoc]
      congr 1
      show _ = (l.drop (first l).2).take (first l).1 ++ _
      rw [← List.drop_drop]
      exact (List.take_append_drop _ _).symm
    · simp only
      rw [List.length_take]
      omega

end Go.Proofs.Yteanjnkfoddfmaa

namespace Go.Proofs.Yteanjnkfoddfmaa
open Go.RowKit
set_option linter.unusedVariables false

set_option maxRecDepth 100000 in
set_option maxHeartbeats 400000 in
theorem refnumber_any (x : Int) (w : World) (hx : x ≤ 9223372036854775807) :
    Calls Try.prog 53 #[.int .i64 x] w fun e w' => ∃ r, e = .returned r ∧ Own w.heap.size w' r (enc x.toNat) ∧ Below w.heap.size w w' := by
  have hfull : Onb w.heap.size w (.slice none 0 0) [] := .inl ⟨none, rfl, fun _ => rfl, fun a h => (by cases h)⟩
  by_cases hneg : x < 0
  all_goals
    go_enter Try.func53, Try.ntmps53
    go_wp2
    go_loopw [0, 3] (fun i out wr => ∃ (k : List UInt8) (y : Nat), i = .int .i64 y ∧ y ≤ 9223372036854775807 ∧ enc x.toNat = k ++ enc y ∧ Onb w.heap.size wr out k ∧ Below w.heap.size w wr)
      (fun i _ _ => (intOf i).toNat)
    case atStart => exact ⟨[], x.toNat, by first | (congr 1; omega) | (rw [Int.toNat_of_nonneg (by omega)]), by omega, rfl, hfull, Below.refl _ _⟩
    case round =>
      obtain ⟨k, y, rfl, hy, hk, hown, hbel⟩ := hrel
      have hk9 : k.length ≤ 9 := by have := enc_len9 (v := x.toNat) (by omega); rw [hk, List.length_append] at this; omega
      have Hk := hide hk
      clear hk
      by_cases hbig : 128 ≤ y
      · obtain ⟨b, hbv, hbe⟩ : ∃ b : UInt8, (b.toNat : Int) = 128 + (y : Int) % 128 ∧ Hid (b = UInt8.ofNat (y % 128 + 128)) := ⟨_, by simp [UInt8.toNat_ofNat']; omega, rfl⟩
        have Hb := hide hbv
        clear hbv
        go_wp2_with (at_builtin; refine wpList_append_onb _ rfl (.tmp 8) (.tmp 13) rfl w.heap.size ?hB _ _ rfl (hown.alloc _) ⟨wr.heap.size, 0, none⟩ 1 [b] 1 rfl rfl ?hc (by decide) ?hl ?_)
        case hB => have := hbel.size; simp; omega
        case hl => omega
        case hc => exact cell_new1 _ _ _ Hb.out
        intro v' w1 ho hb
        go_wp2
        go_roundw
        case rel => exact ⟨k ++ [b], y / 128, by go_num, by omega, by rw [hbe.out]; exact number_step x y k Hk.out hbig, .inr ho, (hbel.alloc (by have := hbel.size; omega) _).trans hb⟩
        case measure => simp [intOf]; omega
      · obtain ⟨b, hbv, hbe⟩ : ∃ b : UInt8, (b.toNat : Int) = (y : Int) ∧ Hid (b = UInt8.ofNat y) := ⟨_, by simp [UInt8.toNat_ofNat']; omega, rfl⟩
        have Hb := hide hbv
        clear hbv
        go_wp2_with (at_builtin; refine wpList_append_onb _ rfl (.tmp 17) (.tmp 20) rfl w.heap.size ?hB' _ _ rfl (hown.alloc _) ⟨wr.heap.size, 0, none⟩ 1 [b] 1 rfl rfl ?hc' (by decide) ?hl' ?_)
        case hB' => have := hbel.size; simp; omega
        case hl' => omega
        case hc' => exact cell_new1 _ _ _ Hb.out
        intro v' w1 ho hb
        go_wp2
        go_ret
        refine ⟨v', rfl, ?_, (hbel.alloc (by have := hbel.size; omega) _).trans hb⟩
        rw [number_last x y k Hk.out (by omega), ← hbe.out]
        exact ho

theorem own_lit1 (w : World) (b : UInt8) (n : Int) (hb : (b.toNat : Int) = n) : Own w.heap.size (w.alloc (.cells #[.int .u8 n] 5)) (.slice (some ⟨w.heap.size, 0, none⟩) 1 1) [b] := by
  have := World.ownsRow_lit (e := 5) (size := 1) (base := w.heap.size) w #[.int .u8 n] 1 (Nat.le_refl _) (by decide) rfl
  unfold Own bc
  simp only [List.map_cons, List.map_nil, hb]
  exact this

set_option maxRecDepth 100000 in
set_option maxHeartbeats 400000 in
theorem reftext_any (s : ByteArray) (w : World) (hss : s.size ≤ 1099511627776) :
    Calls Try.prog 54 #[.string s] w fun e w' => ∃ r, e = .returned r ∧ Own w.heap.size w' r (encT s) ∧ Below w.heap.size w w' := by
  obtain ⟨i0, hi, hz0, hz1, hz2⟩ := info_parts Try.infoByte
  have h9 := enc_len9 (v := s.size) (by omega)
  go_enter Try.func54, Try.ntmps54
  go_wp2_with fail
  refine (refnumber_any s.size _ (by omega)).mono ?_
  rintro e w' ⟨r, rfl, ho, hb⟩
  rw [Int.toNat_natCast] at ho
  go_wp2_with (at_builtin; refine Lib.wpList_append_own_string _ rfl (.tmp 5) (.tmp 6) 26 9 rfl w.heap.size 5 i0 Try.underlying26 Try.underlying9 hi hz0 hz1 hz2 _ _ _ rfl ho s rfl ?h1 ?h2 hb.size ?_)
  case h1 => unfold maxLen; omega
  case h2 => omega
  intro v' w1 ho' hg _
  have R : Own w.heap.size w1 v' (encT s) := by
    unfold Own encT
    rw [bc_append, List.length_append, str_len]
    exact ho'
  have R2 : Below w.heap.size w w1 := hb.grown hg hb.size (fun k hk => (World.ownsRow.lt ho k hk).1)
  clear ho' hg ho hb
  go_wp2
  go_ret
  exact ⟨_, rfl, R, R2⟩

end Go.Proofs.Yteanjnkfoddfmaa

namespace Go.Proofs.Yteanjnkfoddfmaa
open Go.RowKit
set_option linter.unusedVariables false

/-- The document's reader at block M: the bytes v, at the place i. -/
def RefRd (w : World) (M : Nat) (v : Value) (i : Nat) (bad : Bool) : Prop := w.heap[M]? = some (.cells #[v, .int .i64 (i : Int), .bool bad] 115 (0, 0))

/-- Nothing but block M has turned. -/
structure Touch (M : Nat) (w w' : World) : Prop where
  os : w'.os = w.os
  tape : w'.tape = w.tape
  output : w'.output = w.output
  size : w'.heap.size = w.heap.size
  block : ∀ k, k ≠ M → w'.heap[k]? = w.heap[k]?

theorem Touch.refl (M : Nat) (w : World) : Touch M w w := ⟨rfl, rfl, rfl, rfl, fun _ _ => rfl⟩
theorem Touch.trans {M : Nat} {a b c : World} (h : Touch M a b) (k : Touch M b c) : Touch M a c :=
  ⟨k.os.trans h.os, k.tape.trans h.tape, k.output.trans h.output, k.size.trans h.size, fun q hq => (k.block q hq).trans (h.block q hq)⟩
theorem Touch.drewN {M : Nat} {a b : World} (h : Touch M a b) (n : Nat) : Touch M a (b.drewN n) := ⟨h.os, h.tape, h.output, h.size, h.block⟩
theorem Touch.setCell {M : Nat} {a b : World} (h : Touch M a b) (j : Nat) (x : Value) : Touch M a (b.setCell ⟨M, j, none⟩ x) :=
  ⟨h.os, h.tape, h.output, by simpa using h.size, fun q hq => (Below.heap_setCell b ⟨M, j, none⟩ x q hq).trans (h.block q hq)⟩
theorem Touch.below {M B : Nat} {w w' : World} (h : Touch M w w') (hB : B ≤ M) : Below B w w' :=
  ⟨h.os, h.tape, h.output, by rw [h.size]; exact Nat.le_refl _, fun k hk => h.block k (by omega)⟩

theorem RefRd.cells {w : World} {M : Nat} {v : Value} {i : Nat} {bad : Bool} (h : RefRd w M v i bad) :
    w.cell? ⟨M, 0, none⟩ = some v ∧ w.cell? ⟨M, 1, none⟩ = some (.int .i64 (i : Int)) ∧ w.cell? ⟨M, 2, none⟩ = some (.bool bad) ∧ (∀ j, w.frozen? ⟨M, j, none⟩ = false) := by
  unfold RefRd at h
  refine ⟨?_, ?_, ?_, fun j => ?_⟩
  · rw [cell_of_row w M 0 _ _ _ h]; rfl
  · rw [cell_of_row w M 1 _ _ _ h]; rfl
  · rw [cell_of_row w M 2 _ _ _ h]; rfl
  · simp [World.frozen?, h]

theorem RefRd.lt {w : World} {M : Nat} {v : Value} {i : Nat} {bad : Bool} (h : RefRd w M v i bad) : M < w.heap.size := (Array.getElem?_eq_some_iff.1 h).1

theorem RefRd.set1 {w : World} {M : Nat} {v : Value} {i : Nat} {bad : Bool} (h : RefRd w M v i bad) (j : Nat) : RefRd (w.setCell ⟨M, 1, none⟩ (.int .i64 (j : Int))) M v j bad := by
  unfold RefRd at h ⊢
  simp [World.setCell, Array.getElem?_modify, h]

theorem RefRd.set2 {w : World} {M : Nat} {v : Value} {i : Nat} {bad : Bool} (h : RefRd w M v i bad) (b : Bool) : RefRd (w.setCell ⟨M, 2, none⟩ (.bool b)) M v i b := by
  unfold RefRd at h ⊢
  simp [World.setCell, Array.getElem?_modify, h]

theorem Sl.touch {w w' : World} {M i : Nat} {u v : Value} {bad : Bool} {l : List UInt8} (h : Sl w v l) (ht : Touch M w w') (hm : RefRd w M u i bad) (hu : ∃ ao n c, u = .slice ao n c) : Sl w' v l := by
  obtain ⟨ao, c, rfl, h1, h2, h3, h4⟩ := h
  refine ⟨ao, c, rfl, h1, h2, h3, fun a ha j x hx => ?_⟩
  have hc := h4 a ha j x hx
  have hne : (a.add j).block ≠ M := by
    intro e
    have hsp := World.cell?_spot hc
    obtain ⟨ao', n', c', rfl⟩ := hu
    have hx' : ∃ b : UInt8, x = .int .u8 (b.toNat : Int) := by
      rw [bc_get] at hx
      cases hl : l[j]? with
      | none => rw [hl] at hx; cases hx
      | some b => rw [hl] at hx; cases hx; exact ⟨b, rfl⟩
    obtain ⟨y, rfl⟩ := hx'
    generalize a.add j = q at *
    obtain ⟨b, o, sp⟩ := q
    simp only at e hsp
    subst e hsp
    rw [cell_of_row w b o _ _ _ hm] at hc
    match o, hc with
    | 0, hc => simp at hc
    | 1, hc => simp at hc
    | 2, hc => simp at hc
    | o + 3, hc => simp at hc
  rw [World.cell?_of_block (w := w) (ht.block _ hne)]
  exact hc

set_option maxRecDepth 100000 in
theorem refopen_any (ao : Option Addr) (n c : Nat) (w : World) :
    Calls Try.prog 45 #[.slice ao n c] w fun e w' => ∃ M, e = .returned (.pointer (some ⟨M, 0, none⟩)) ∧ w.heap.size ≤ M ∧ RefRd w' M (.slice ao n c) 0 false ∧ Below w.heap.size w w' := by
  go_enter Try.func45, Try.ntmps45
  go_wp2
  go_ret
  exact ⟨w.heap.size, rfl, Nat.le_refl _, heap_alloc_new w _, (Below.refl _ _).alloc (Nat.le_refl _) _⟩

/-- What a reading of the document's reader leaves: the results, what is left, the reader. -/
def Left3 (M i : Nat) (ao : Option Addr) (c : Nat) (l : List UInt8) (x y : Value) (r : List UInt8) (w : World) (e : Ending) (w' : World) : Prop :=
  ∃ k bad', e = .returned (.tuple #[x, y]) ∧ r = l.drop (i + k) ∧ i + k ≤ l.length ∧ RefRd w' M (.slice ao l.length c) (i + k) bad' ∧ Touch M w w'

theorem first_at (l : List UInt8) (i k : Nat) (h : i + k < l.length) : ∃ h' : k < (l.drop i).length, (l.drop i)[k] = l[i + k] := ⟨by rw [List.length_drop]; omega, by rw [List.getElem_drop]⟩

theorem refnum_no {M i : Nat} {bad : Bool} {ao : Option Addr} {c : Nat} {l : List UInt8} {most : Int} {w : World} (n : Nat) (hm : RefRd w M (.slice ao l.length c) i bad) (hi : i ≤ l.length) (h : (first (l.drop i)).2 = 0 ∨ most < ((first (l.drop i)).1 : Int)) :
    Left3 M i ao c l (.int .i64 (rdN (l.drop i) most).1) (.int .i64 (rdN (l.drop i) most).2.1) (rdN (l.drop i) most).2.2 w (.returned (.tuple #[.int .i64 0, .int .i64 11])) ((w.drewN n).setCell ⟨M, 2, none⟩ (.bool true)) := by
  rw [rdN_no h]
  exact ⟨0, true, rfl, rfl, hi, RefRd.set2 (w := w.drewN n) hm true, ((Touch.refl M w).drewN n).setCell 2 _⟩

theorem refnum_yes {M i k x : Nat} {bad : Bool} {ao : Option Addr} {c : Nat} {l : List UInt8} {most : Int} {w : World} (n : Nat) (hm : RefRd w M (.slice ao l.length c) i bad) (hik : i + k < l.length) (hf : first (l.drop i) = (x, k + 1)) (h : (x : Int) ≤ most) :
    Left3 M i ao c l (.int .i64 (rdN (l.drop i) most).1) (.int .i64 (rdN (l.drop i) most).2.1) (rdN (l.drop i) most).2.2 w (.returned (.tuple #[.int .i64 (x : Int), .int .i64 0])) ((w.drewN n).setCell ⟨M, 1, none⟩ (.int .i64 ((i : Int) + (k : Int) + 1))) := by
  rw [rdN_yes (by rw [hf]; simp only; omega), hf]
  have e : ((i : Int) + (k : Int) + 1) = ((i + (k + 1) : Nat) : Int) := by omega
  rw [e]
  exact ⟨k + 1, bad, rfl, by simp [List.drop_drop], by omega, RefRd.set1 (w := w.drewN n) hm _, ((Touch.refl M w).drewN n).setCell 1 _⟩

theorem ret_pair {a b c d : Int} (h1 : a = c) (h2 : b = d) : Ending.returned (.tuple #[.int .i64 a, .int .i64 b]) = .returned (.tuple #[.int .i64 c, .int .i64 d]) := by rw [h1, h2]

set_option maxRecDepth 100000 in
set_option maxHeartbeats 1000000 in
theorem refnum_any (M i : Nat) (bad : Bool) (ao : Option Addr) (c : Nat) (l : List UInt8) (most : Int) (w : World) (hm : RefRd w M (.slice ao l.length c) i bad) (hs : Sl w (.slice ao l.length c) l) (hl : l.length ≤ 1099511627776) (hi : i ≤ l.length) :
    Calls Try.prog 71 #[.pointer (some ⟨M, 0, none⟩), .int .i64 most] w
      (Left3 M i ao c l (.int .i64 (rdN (l.drop i) most).1) (.int .i64 (rdN (l.drop i) most).2.1) (rdN (l.drop i) most).2.2 w) := by
  obtain ⟨c0, c1, c2, hf⟩ := hm.cells
  have Hm := hide hm
  have Hs := hide hs
  clear hm hs
  go_enter Try.func71, Try.ntmps71
  go_wp2
  go_loopw [6, 7, 8] (fun vv vp vk wr => ∃ k a p n : Nat, k ≤ 9 ∧ i + k ≤ l.length ∧ vk = .int .i64 k ∧ vv = .int .i64 a ∧ vp = .int .i64 (p : Int) ∧ p = 128 ^ min k 8 ∧ a < 128 ^ k ∧ first (l.drop i) = dec (9 - k) k a ((l.drop i).drop k) ∧ wr = w.drewN n)
    (fun _ _ vk _ => 9 - (intOf vk).toNat)
  case atStart => exact ⟨0, 0, 1, 0, by omega, by omega, rfl, rfl, rfl, rfl, by decide, rfl, rfl⟩
  case round =>
    obtain ⟨k, a, p, n, hk, hik, rfl, rfl, rfl, hp, ha, hfi, rfl⟩ := hrel
    have Ha := hide ha
    have Hfi := hide hfi
    have Hp := hide hp
    clear ha hfi hp
    by_cases h9 : k < 9
    · have h9i : (k : Int) < 9 := by omega
      by_cases hin : i + k < l.length
      · obtain ⟨b, o, rfl⟩ := (unhide Hs).addr (by omega)
        have hc := (unhide Hs).cell (i + k) hin
        have hcb : (l[i + k].toNat : Int) < 256 := by have := l[i + k].toNat_lt; omega
        obtain ⟨hk', hgk⟩ := first_at l i k hin
        obtain ⟨cn, hcn⟩ : ∃ cn, Hid (l[i + k].toNat = cn) := ⟨l[i + k].toNat, Eq.refl _⟩
        have Hgk : Hid ((l.drop i)[k].toNat = cn) := by rw [hgk]; exact hcn
        rw [unhide hcn] at hc hcb
        have hpk : p = 128 ^ k := by rw [unhide Hp, Nat.min_eq_left (by omega)]
        obtain ⟨d, hd⟩ : ∃ d, Hid (d = cn % 128 * 128 ^ k) := ⟨_, Eq.refl _⟩
        have hdl : a + d ≤ 9223372036854775807 := by
          have h1 := pow_step k a cn (unhide Ha)
          have h2 : 128 ^ (k + 1) ≤ 128 ^ 9 := Nat.pow_le_pow_right (by decide) (by omega)
          have e : (128 : Nat) ^ 9 = 9223372036854775808 := by decide
          rw [e] at h2
          rw [unhide hd]
          omega
        have hw1 : wrap64 ((cn : Int) % 128 * (p : Int)) = (d : Int) := by
          have e : (cn : Int) % 128 * (p : Int) = ((cn % 128 * p : Nat) : Int) := by simp
          rw [e, hpk, ← unhide hd]
          unfold wrap64
          omega
        have hini : (i : Int) + (k : Int) < (l.length : Int) := by omega
        clear hgk hcn hpk
        by_cases hbig : 128 ≤ cn
        · have hbigi : (128 : Int) ≤ (cn : Int) := by omega
          have hnx : first (l.drop i) = dec (9 - (k + 1)) (k + 1) (a + d) ((l.drop i).drop (k + 1)) := by
            rw [unhide Hfi, dec_more k a (l.drop i) h9 hk' (by rw [unhide Hgk]; exact hbig), unhide Hgk, ← unhide hd]
          have hal : a + d < 128 ^ (k + 1) := by rw [unhide hd]; exact pow_step k a cn (unhide Ha)
          have Hnx := hide hnx
          have Hal := hide hal
          clear hnx hal
          by_cases h8 : k < 8
          · have h8i : (k : Int) < 8 := by omega
            have hp8 : 128 * p = 128 ^ min (k + 1) 8 := by rw [unhide Hp, Nat.min_eq_left (by omega), Nat.min_eq_left (by omega), Nat.pow_succ, Nat.mul_comm]
            have hpl : 128 * p ≤ 72057594037927936 := by
              rw [hp8]
              exact Nat.le_trans (Nat.pow_le_pow_right (by decide) (Nat.min_le_right _ _)) (by decide)
            have Hp8 := hide hp8
            clear hp8
            go_wp2_with fail
            go_quiet (fail)
            go_wp2_with fail
            go_quiet (fail)
            go_wp2
            go_roundw
            case rel => exact ⟨k + 1, a + d, 128 * p, _, by omega, by omega, by go_num, by go_num, by go_num, unhide Hp8, unhide Hal, unhide Hnx, rfl⟩
            case measure => simp [intOf]; omega
          · have h8i : ¬ (k : Int) < 8 := by omega
            have hp8 : p = 128 ^ min (k + 1) 8 := by rw [unhide Hp, Nat.min_eq_right (by omega), Nat.min_eq_right (by omega)]
            have Hp8 := hide hp8
            clear hp8
            go_wp2_with fail
            go_quiet (fail)
            go_wp2_with fail
            go_quiet (fail)
            go_wp2
            go_roundw
            case rel => exact ⟨k + 1, a + d, p, _, by omega, by omega, by go_num, by go_num, rfl, unhide Hp8, unhide Hal, unhide Hnx, rfl⟩
            case measure => simp [intOf]; omega
        · have hmore : ¬ (128 : Int) ≤ (cn : Int) := by omega
          by_cases hgt : most < (a : Int) + (d : Int)
          · have hno : (first (l.drop i)).2 = 0 ∨ most < ((first (l.drop i)).1 : Int) := by
              rw [unhide Hfi]
              by_cases h00 : cn = 0 ∧ 0 < k
              · rw [dec_nought k a (l.drop i) h9 hk' (by rw [unhide Hgk]; exact h00.1) h00.2]; exact .inl rfl
              · rw [dec_last k a (l.drop i) h9 hk' (by rw [unhide Hgk]; omega) (by rw [unhide Hgk]; exact h00), unhide Hgk, ← unhide hd]
                right; simp only; omega
            have Hno := hide hno
            clear hno
            go_wp2_with fail
            go_quiet (fail)
            go_wp2_with fail
            go_quiet (fail)
            go_wp2
            go_ret2
            exact refnum_no _ (unhide Hm) hi (unhide Hno)
          · have hgt' : (a : Int) + (d : Int) ≤ most := by omega
            by_cases h0 : cn = 0
            · have hz : ((cn : Int) == 0) = true := by simp [h0]
              by_cases hk0 : 0 < k
              · have hk0i : (0 : Int) < (k : Int) := by omega
                have Hno : Hid ((first (l.drop i)).2 = 0 ∨ most < ((first (l.drop i)).1 : Int)) := by
                  rw [unhide Hfi, dec_nought k a (l.drop i) h9 hk' (by rw [unhide Hgk]; exact h0) hk0]; exact .inl rfl
                clear h0
                go_wp2_with fail
                go_quiet (fail)
                go_wp2_with fail
                go_quiet (fail)
                go_wp2
                go_ret2
                exact refnum_no _ (unhide Hm) hi (unhide Hno)
              · have hk0i : ¬ (0 : Int) < (k : Int) := by omega
                have Hf : Hid (first (l.drop i) = (a + d, k + 1)) := by
                  rw [unhide Hfi, dec_last k a (l.drop i) h9 hk' (by rw [unhide Hgk]; omega) (by omega), unhide Hgk, ← unhide hd]; rfl
                clear h0
                go_wp2_with fail
                go_quiet (fail)
                go_wp2_with fail
                go_quiet (fail)
                go_wp2
                go_ret2
                exact refnum_yes _ (unhide Hm) hin (unhide Hf) (by omega)
            · have hz : ((cn : Int) == 0) = false := by simp; omega
              have Hf : Hid (first (l.drop i) = (a + d, k + 1)) := by
                rw [unhide Hfi, dec_last k a (l.drop i) h9 hk' (by rw [unhide Hgk]; omega) (by rw [unhide Hgk]; omega), unhide Hgk, ← unhide hd]; rfl
              go_wp2_with fail
              go_quiet (fail)
              go_wp2_with fail
              go_quiet (fail)
              go_wp2
              go_ret2
              exact refnum_yes _ (unhide Hm) hin (unhide Hf) (by omega)
      · have hini : ¬ (i : Int) + (k : Int) < (l.length : Int) := by omega
        have Hno : Hid ((first (l.drop i)).2 = 0 ∨ most < ((first (l.drop i)).1 : Int)) := by
          rw [unhide Hfi, dec_none k a (l.drop i) (.inr (by rw [List.length_drop]; omega))]; exact .inl rfl
        go_wp2_with fail
        go_quiet (fail)
        go_wp2
        go_ret2
        exact refnum_no _ (unhide Hm) hi (unhide Hno)
    · have h9i : decide ((k : Int) < 9) = false := by simp; omega
      have Hno : Hid ((first (l.drop i)).2 = 0 ∨ most < ((first (l.drop i)).1 : Int)) := by
        rw [unhide Hfi, dec_none k a (l.drop i) (.inl (by omega))]; exact .inl rfl
      go_wp2_with fail
      go_quiet (fail)
      go_wp2
      go_ret2
      exact refnum_no _ (unhide Hm) hi (unhide Hno)

end Go.Proofs.Yteanjnkfoddfmaa

namespace Go.Proofs.Yteanjnkfoddfmaa
open Go.RowKit
set_option linter.unusedVariables false

theorem rdF_nil : rdF [] = (false, 11, []) := rfl

theorem rdF_yes (c : UInt8) (r : List UInt8) (h : c.toNat < 2) : rdF (c :: r) = (c.toNat == 1, 0, r) := by
  have : c = 0 ∨ c = 1 := by
    rcases (show c.toNat = 0 ∨ c.toNat = 1 by omega) with h | h
    · left; exact UInt8.toNat_inj.1 h
    · right; exact UInt8.toNat_inj.1 h
  rcases this with rfl | rfl
  · exact rdF_enc false r
  · exact rdF_enc true r

theorem rdF_no (c : UInt8) (r : List UInt8) (h : ¬ c.toNat < 2) : rdF (c :: r) = (false, 11, c :: r) := by
  unfold rdF
  rcases rdN_one (c :: r) 1 with ⟨h1, h2, h3⟩ | ⟨h1, h2, h3, _⟩
  · rw [h1, h2, h3]; rfl
  · exfalso
    generalize rdN (c :: r) 1 = y at *
    obtain ⟨x, e, q⟩ := y
    simp only at h2 h3
    rcases (show x = 0 ∨ x = 1 by omega) with rfl | rfl
    · rw [enc_zero] at h2
      injection h2 with h4 _
      subst h4
      exact h (by decide)
    · rw [enc_one] at h2
      injection h2 with h4 _
      subst h4
      exact h (by decide)

theorem Sl.ne {w : World} {b o n c M i : Nat} {u : Value} {bad : Bool} {l : List UInt8} (h : Sl w (.slice (some ⟨b, o, none⟩) n c) l) (hl : 0 < l.length) (hm : RefRd w M u i bad) (hu : ∃ ao n c, u = .slice ao n c) : b ≠ M := by
  intro e
  subst e
  have hc := h.cell 0 hl
  obtain ⟨ao', n', c', rfl⟩ := hu
  rw [cell_of_row w b (o + 0) _ _ _ hm] at hc
  match o, hc with
  | 0, hc => simp at hc
  | 1, hc => simp at hc
  | 2, hc => simp at hc
  | o + 3, hc => simp at hc

theorem refrd_bad {M i : Nat} {bad : Bool} {ao : Option Addr} {c : Nat} {l : List UInt8} {w : World} (n : Nat) (hm : RefRd w M (.slice ao l.length c) i bad) (hi : i ≤ l.length) (x y : Value) (r : List UInt8) (hr : r = l.drop i) :
    Left3 M i ao c l x y r w (.returned (.tuple #[x, y])) ((w.drewN n).setCell ⟨M, 2, none⟩ (.bool true)) :=
  ⟨0, true, rfl, hr, hi, RefRd.set2 (w := w.drewN n) hm true, ((Touch.refl M w).drewN n).setCell 2 _⟩

theorem refrd_go {M i : Nat} {bad : Bool} {ao : Option Addr} {c : Nat} {l : List UInt8} {w : World} {z : Int} (n m k : Nat) (hm : RefRd w M (.slice ao l.length c) i bad) (hi : i + k ≤ l.length) (x y : Value) (r : List UInt8) (hz : z = ((i + k : Nat) : Int)) (hr : r = l.drop (i + k)) :
    Left3 M i ao c l x y r w (.returned (.tuple #[x, y])) (((w.drewN n).setCell ⟨M, 1, none⟩ (.int .i64 z)).drewN m) := by
  subst hz
  exact ⟨k, bad, rfl, hr, hi, RefRd.set1 (w := w.drewN n) hm _, (((Touch.refl M w).drewN n).setCell 1 _).drewN m⟩

theorem Left3.after {M i k : Nat} {ao : Option Addr} {c : Nat} {l : List UInt8} {x y : Value} {r : List UInt8} {w w1 w' : World} {e : Ending} (h : Left3 M (i + k) ao c l x y r w1 e w') (ht : Touch M w w1) : Left3 M i ao c l x y r w e w' := by
  obtain ⟨q, b, h1, h2, h3, h4, h5⟩ := h
  exact ⟨k + q, b, h1, by rw [h2, Nat.add_assoc], by omega, by rw [← Nat.add_assoc]; exact h4, ht.trans h5⟩

theorem rdT_of {l : List UInt8} {most : Int} {x : Nat} {r : List UInt8} (h : rdN l most = (x, 0, r)) : rdT l most = if (r.length : Int) < x then ([], 11, l) else (r.take x, 0, r.drop x) := by
  by_cases hn : (first l).2 = 0 ∨ most < ((first l).1 : Int)
  · rw [rdN_no hn] at h; simp at h
  · rw [rdN_yes hn] at h
    simp only [Prod.mk.injEq] at h
    obtain ⟨h1, _, h3⟩ := h
    have hle := first_le l
    have hrl : (r.length : Int) = (l.length : Int) - (first l).2 := by rw [← h3, List.length_drop]; omega
    by_cases ht : (r.length : Int) < x
    · rw [if_pos ht, rdT_no (.inr (.inr (by rw [← hrl, h1]; exact ht)))]
    · rw [if_neg ht, rdT_yes (by rintro (h | h | h); exact hn (.inl h); exact hn (.inr h); rw [← hrl, h1] at h; exact ht h), h1, h3, ← List.drop_drop, h3]

theorem rdT_of_no {l : List UInt8} {most : Int} (h : (rdN l most).2.1 = 11) : rdT l most = ([], 11, l) := by
  by_cases hn : (first l).2 = 0 ∨ most < ((first l).1 : Int)
  · rcases hn with h | h
    · exact rdT_no (.inl h)
    · exact rdT_no (.inr (.inl h))
  · rw [rdN_yes hn] at h; simp at h

set_option maxRecDepth 100000 in
set_option maxHeartbeats 1000000 in
theorem reftext2_any (M i : Nat) (bad : Bool) (ao : Option Addr) (c : Nat) (l : List UInt8) (most : Int) (w : World) (hm : RefRd w M (.slice ao l.length c) i bad) (hs : Sl w (.slice ao l.length c) l) (hl : l.length ≤ 1099511627776) (hi : i ≤ l.length) :
    Calls Try.prog 93 #[.pointer (some ⟨M, 0, none⟩), .int .i64 most] w
      (Left3 M i ao c l (.string ⟨(rdT (l.drop i) most).1.toArray⟩) (.int .i64 (rdT (l.drop i) most).2.1) (rdT (l.drop i) most).2.2 w) := by
  obtain ⟨c0, c1, c2, hf⟩ := hm.cells
  have HN := hide (refnum_any M i bad ao c l most w hm hs hl hi)
  have hone := rdN_one (l.drop i) most
  have hof := @rdT_of (l.drop i) most
  have hno := @rdT_of_no (l.drop i) most
  have hlc : l.length ≤ c ∧ c ≤ maxLen := by obtain ⟨_, _, e, h1, h2, _⟩ := id hs; injection e with e1 e2 e3; subst e3; exact ⟨h1, h2⟩
  obtain ⟨hlc, hcm⟩ := hlc
  unfold maxLen at hcm
  have Hm := hide hm
  have Hs := hide hs
  clear hm hs
  generalize rdN (l.drop i) most = y at *
  obtain ⟨x, er, r⟩ := y
  simp only at HN hone hno
  rcases hone with ⟨rfl, rfl, rfl⟩ | ⟨rfl, hr, _, hx9⟩
  · rw [hno rfl]
    clear hof hno
    go_enter Try.func93, Try.ntmps93
    go_wp2_with fail
    refine (unhide HN).mono ?_
    rintro e w1 ⟨k, bad1, rfl, _, hk1, hm1, ht1⟩
    obtain ⟨d0, d1, d2, hf1⟩ := hm1.cells
    have Hm1 := hide hm1
    have Ht1 := hide ht1
    clear hm1 ht1 c0 c1 c2 hf
    go_wp2_with fail
    go_quiet (fail)
    go_wp2
    go_ret2
    refine ⟨0, true, rfl, rfl, hi, ?_, ?_⟩
    · exact RefRd.set2 (RefRd.set1 (w := w1.drewN _) (unhide Hm1) _) true
    · exact (((unhide Ht1).drewN _).setCell 1 _).setCell 2 _
  · have hof := hof rfl
    rw [hof]
    clear hno hof hr
    by_cases hlt : (r.length : Int) < x
    · rw [if_pos hlt]
      go_enter Try.func93, Try.ntmps93
      go_wp2_with fail
      refine (unhide HN).mono ?_
      rintro e w1 ⟨k, bad1, rfl, hrk, hk1, hm1, ht1⟩
      have hs1 := (unhide Hs).touch ht1 (unhide Hm) ⟨_, _, _, rfl⟩
      have hrl : r.length = l.length - (i + k) := by rw [hrk]; exact List.length_drop
      obtain ⟨j, hj⟩ : ∃ j, Hid (i + k = j) := ⟨_, Eq.refl _⟩
      rw [unhide hj] at hk1 hm1 hrl hrk
      obtain ⟨d0, d1, d2, hf1⟩ := hm1.cells
      have Hm1 := hide hm1
      have Ht1 := hide ht1
      have Hs1 := hide hs1
      have Hrk := hide hrk
      have hrl' : r.length + j = l.length := by omega
      clear hm1 ht1 c0 c1 c2 hf hs1 HN Hs hrk
      have hlti : (l.length : Int) - (j : Int) < (x : Int) := by omega
      clear hlt hrl'
      go_wp2_with fail
      go_quiet (fail)
      go_wp2
      go_ret2
      refine ⟨0, true, rfl, rfl, hi, ?_, ?_⟩
      · exact RefRd.set2 (RefRd.set1 (w := w1.drewN _) (unhide Hm1) _) true
      · exact (((unhide Ht1).drewN _).setCell 1 _).setCell 2 _
    · rw [if_neg hlt]
      go_enter Try.func93, Try.ntmps93
      go_wp2_with fail
      refine (unhide HN).mono ?_
      rintro e w1 ⟨k, bad1, rfl, hrk, hk1, hm1, ht1⟩
      have hs1 := (unhide Hs).touch ht1 (unhide Hm) ⟨_, _, _, rfl⟩
      have hrl : r.length = l.length - (i + k) := by rw [hrk]; exact List.length_drop
      obtain ⟨j, hj⟩ : ∃ j, Hid (i + k = j) := ⟨_, Eq.refl _⟩
      rw [unhide hj] at hk1 hm1 hrl hrk
      obtain ⟨d0, d1, d2, hf1⟩ := hm1.cells
      have Hm1 := hide hm1
      have Ht1 := hide ht1
      have Hs1 := hide hs1
      have Hrk := hide hrk
      have hrl' : r.length + j = l.length := by omega
      clear hm1 ht1 c0 c1 c2 hf hs1 HN Hs hrk
      have hlti : ¬ (l.length : Int) - (j : Int) < (x : Int) := by omega
      have hjx : (j : Int) + (x : Int) ≤ (c : Int) := by omega
      clear hlt hrl'
      go_wp2_with fail
      go_quiet (fail)
      go_wp2_with fail
      have hs2 := (unhide Hs1).touch (((Touch.refl M w1).drewN nq).setCell 1 (.int .i64 ((j : Int) + (x : Int)))) (unhide Hm1) ⟨_, _, _, rfl⟩
      have hdt := (hs2.drop j hk1).take x (by rw [List.length_drop]; omega)
      have hcv := fun m => conv_arr ((((w1.drewN nq).setCell ⟨M, 1, none⟩ (.int .i64 ((j : Int) + (x : Int))))).drewN m) _ _ hdt
      rw [← unhide Hrk] at hcv
      have hz1 : (j : Int) + (x : Int) - (x : Int) = (j : Int) := by omega
      have hz2 : ((j : Int) + (x : Int)).toNat = j + x := by omega
      have hz3 : IntKind.i64.wrap ((j : Int) + (x : Int) - (x : Int)) = (j : Int) := by rw [IntKind.wrap_i64]; omega
      have hz4 : (j : Int) ≤ (j : Int) + (x : Int) := by omega
      have hz5 : (0 : Int) ≤ (j : Int) + (x : Int) := by omega
      clear hdt hs2
      have hfin : ∀ m, Left3 M i ao c l (.string ⟨(r.take x).toArray⟩) (.int .i64 0) (r.drop x) w (.returned (.tuple #[.string ⟨(r.take x).toArray⟩, .int .i64 0])) (((w1.drewN nq).setCell ⟨M, 1, none⟩ (.int .i64 ((j : Int) + (x : Int)))).drewN m) := fun m => by
        have h := refrd_go (x := .string ⟨(r.take x).toArray⟩) (y := .int .i64 0) (r := r.drop x) (z := (j : Int) + (x : Int)) nq m x (unhide Hm1) (by omega) (by omega) (by rw [unhide Hrk, List.drop_drop])
        refine Left3.after (k := k) ?_ (unhide Ht1)
        rw [unhide hj]
        exact h
      have Hfin := hide hfin
      clear hfin
      by_cases hcj : c = j
      · have hx0 : x = 0 := by omega
        rw [if_pos hcj] at hcv
        subst hx0
        subst hcj
        simp only [Nat.sub_self] at hcv
        have hwc : IntKind.i64.wrap (c : Int) = (c : Int) := by rw [IntKind.wrap_i64]; omega
        simp at hcv
        go_quiet (fail)
        go_wp2
        go_ret2
        exact unhide Hfin _
      · rw [if_neg hcj, Nat.mul_one] at hcv
        go_quiet (fail)
        go_wp2
        go_ret2
        exact unhide Hfin _

end Go.Proofs.Yteanjnkfoddfmaa
