/-
  Contracts of version.fits, version.Right. No law is proved here.
-/
import Derived.Test.YtcahmnpoajnmpaaVs4
namespace Go.Proofs.Ytcahmnpoajnmpaa
open Go.RowKit
set_option linter.unusedVariables false

/-- A stamp may come behind those versions. -/
def fitB (vs : List Ver) (s : Stp) : Bool := okS s && (match lastS vs with | none => true | some l => ltB l s)
theorem fitB_iff (vs : List Ver) (s : Stp) : fitB vs s = true ↔ okS s = true ∧ ∀ l, lastS vs = some l → ltB l s = true := by
  unfold fitB
  rw [Bool.and_eq_true]
  cases lastS vs with
  | none => simp
  | some l => simp
theorem rise_step (vs : List Ver) (k : Nat) (h : k < vs.length) : riseB (vs.take (k + 1)) = (riseB (vs.take k) && fitB (vs.take k) vs[k].at_) := by
  rw [List.take_succ_eq_append_getElem h, Bool.eq_iff_iff, rise_snoc, Bool.and_eq_true, fitB_iff]
theorem rise_pre {vs : List Ver} (h : riseB vs = true) : ∀ k, riseB (vs.take k) = true := by
  have aux : ∀ d k, vs.length - k = d → k ≤ vs.length → riseB (vs.take k) = true := by
    intro d
    induction d with
    | zero => intro k hk hl; rw [List.take_of_length_le (by omega)]; exact h
    | succ d ih =>
      intro k hk hl
      have := ih (k + 1) (by omega) (by omega)
      rw [rise_step vs k (by omega), Bool.and_eq_true] at this
      exact this.1
  intro k
  by_cases hk : k ≤ vs.length
  · exact aux _ k rfl hk
  · rw [List.take_of_length_le (by omega)]; exact h
theorem rise_not {vs : List Ver} {k : Nat} (h : riseB (vs.take k) = false) : riseB vs = false := by
  cases hh : riseB vs
  · rfl
  · rw [rise_pre hh k] at h; cases h
theorem lastS_at (vs : List Ver) (m : Nat) (h : vs.length = m + 1) : lastS vs = some (vs[m]'(by omega)).at_ := by
  unfold lastS
  rw [List.getLast?_eq_getElem?]
  simp [h]

/-- Whether a chain is right. -/
def rightCB (c : Chn) : Bool := riseB c.vs && (if c.opn = true then fitB c.vs c.itn.at_ else sameI c.itn Itn.zero)
theorem rightCB_iff (c : Chn) : rightCB c = true ↔ rightC c := by
  unfold rightCB rightC
  rw [Bool.and_eq_true]
  cases h : c.opn
  · simp [sameI_iff]
  · simp [fitB_iff]

section
set_option maxRecDepth 100000
set_option maxHeartbeats 1000000

theorem eqlI0 (i : Itn) (w : World) : (binOp .eql 28 (.agg #[.int .i64 i.txn.id, .int .i64 i.txn.ep, .string i.txn.anchor, .int .i64 i.txn.start.1, .int .i64 i.txn.start.2, .int .i64 i.seq, .int .i64 i.at_.1, .int .i64 i.at_.2, .string i.val, .bool i.gone]) (.agg #[.int .i64 0, .int .i64 0, .string ⟨#[]⟩, .int .i64 0, .int .i64 0, .int .i64 0, .int .i64 0, .int .i64 0, .string ⟨#[]⟩, .bool false])).run Try.prog w = .ok (.bool (sameI i Itn.zero)) w := eqlI i Itn.zero w

theorem fits_any (ao : Option Addr) (c : Nat) (vs : List Ver) (s : Stp) (w : World) (h : Vs w ao c vs) :
    Calls Try.prog 31 #[.slice ao vs.length c, (.agg #[.int .i64 s.1, .int .i64 s.2])] w fun e w' => e = .returned (.bool (fitB vs s)) ∧ Below w.heap.size w w' := by
  have l1 := h.len
  simp only [maxLen] at l1
  have hR := fun w => right_any s.1 s.2 w
  rw [right_eq] at hR
  unfold fitB
  have inst : ∀ W : World, Nonempty (Later W) := fun W => ⟨⟨W, Below.refl _ _⟩⟩
  have nw := fun (w : World) => Blk.new w #[.int .i64 s.1, .int .i64 s.2] 24
  have hB : Below w.heap.size w (w.alloc (.cells #[.int .i64 s.1, .int .i64 s.2] 24)) := (Below.refl _ _).alloc (Nat.le_refl _) _
  cases hs : okS s
  · rw [hs] at hR
    clear hs
    rw [Bool.false_and]
    generalize vs.length = n at *
    have N := nw w
    clear nw
    go_enter Try.func31, Try.ntmps31
    go_wp2_with fail
    generalize w.alloc _ = W at *
    have k0 := fun i : Later W => (N.later i.below).c 0
    have k1 := fun i : Later W => (N.later i.below).c 1
    simp only [List.getElem?_cons_zero, List.getElem?_cons_succ] at k0 k1
    have ii := inst W
    refine wp_region_later (by kernel_rfl) (by kernel_rfl) ?_
    repeat (first
      | go_big_quiet_step ((go_at_call 50; exact calls_later (hR _)))
      | quiet_step (fail))
    refine wpQuiet_nil ?_
    intro w' hw'
    obtain ⟨⟨W2, hb2⟩, rfl⟩ := hw'
    go_wp2
    go_ret
    exact ⟨rfl, hB.trans (hb2.mono hB.size)⟩
  · rw [hs] at hR
    clear hs
    rw [Bool.true_and]
    rcases h.split with rfl | ⟨b, o, rfl, hb, hv⟩
    · have N := nw w
      clear nw
      have e : (match lastS [] with | none => true | some l => ltB l s) = true := rfl
      rw [e]
      clear e
      go_enter Try.func31, Try.ntmps31
      go_wp2_with fail
      generalize w.alloc _ = W at *
      have k0 := fun i : Later W => (N.later i.below).c 0
      have k1 := fun i : Later W => (N.later i.below).c 1
      simp only [List.getElem?_cons_zero, List.getElem?_cons_succ] at k0 k1
      have ii := inst W
      refine wp_region_later (by kernel_rfl) (by kernel_rfl) ?_
      repeat (first
        | go_big_quiet_step ((go_at_call 50; exact calls_later (hR _)))
        | quiet_step (fail))
      refine wpQuiet_nil ?_
      intro w' hw'
      obtain ⟨⟨W2, hb2⟩, rfl⟩ := hw'
      go_wp2
      go_ret
      exact ⟨rfl, hB.trans (hb2.mono hB.size)⟩
    · rcases Nat.eq_zero_or_pos vs.length with h0 | h0
      · have e : vs = [] := List.eq_nil_of_length_eq_zero h0
        subst e
        have N := nw w
        clear nw
        have e : (match lastS [] with | none => true | some l => ltB l s) = true := rfl
        rw [e]
        clear e
        go_enter Try.func31, Try.ntmps31
        go_wp2_with fail
        generalize w.alloc _ = W at *
        have k0 := fun i : Later W => (N.later i.below).c 0
        have k1 := fun i : Later W => (N.later i.below).c 1
        simp only [List.getElem?_cons_zero, List.getElem?_cons_succ] at k0 k1
        have ii := inst W
        refine wp_region_later (by kernel_rfl) (by kernel_rfl) ?_
        repeat (first
          | go_big_quiet_step ((go_at_call 50; exact calls_later (hR _)))
          | quiet_step (fail))
        refine wpQuiet_nil ?_
        intro w' hw'
        obtain ⟨⟨W2, hb2⟩, rfl⟩ := hw'
        go_wp2
        go_ret
        exact ⟨rfl, hB.trans (hb2.mono hB.size)⟩
      · obtain ⟨m, hm⟩ : ∃ m, vs.length = m + 1 := ⟨vs.length - 1, by omega⟩
        have e : (match lastS vs with | none => true | some l => ltB l s) = ltB (vs[m]'(by omega)).at_ s := by rw [lastS_at vs m hm]
        rw [e]
        clear e
        have x := (hv m (by omega)).block (hB.block b hb)
        obtain ⟨v, hv0⟩ : ∃ v, vs[m]'(by omega) = v := ⟨_, rfl⟩
        rw [hv0] at x ⊢
        clear hv0
        rw [hm] at l1 ⊢
        have hL := fun w => less_any v.at_.1 v.at_.2 s.1 s.2 w
        rw [less_eq] at hL
        generalize ltB v.at_ s = z at *
        have hm0 : (((m : Int) + 1) == 0) = false := by rw [beq_eq_false_iff_ne]; omega
        have N := nw w
        clear nw hm h0 h hv hb
        go_enter Try.func31, Try.ntmps31
        go_wp2_with fail
        generalize w.alloc _ = W at *
        have k0 := fun i : Later W => (N.later i.below).c 0
        have k1 := fun i : Later W => (N.later i.below).c 1
        have k2 := fun i : Later W => i.cell x.c0
        have k3 := fun i : Later W => i.cell x.c1
        simp only [List.getElem?_cons_zero, List.getElem?_cons_succ] at k0 k1
        have ii := inst W
        refine wp_region_later (by kernel_rfl) (by kernel_rfl) ?_
        repeat (first
          | go_big_quiet_step ((first | (go_at_call 50; exact calls_later (hR _)) | (go_at_call 29; exact calls_later (hL _))))
          | quiet_step (fail))
        refine wpQuiet_nil ?_
        intro w' hw'
        obtain ⟨⟨W2, hb2⟩, rfl⟩ := hw'
        go_wp2
        go_ret
        exact ⟨rfl, hB.trans (hb2.mono hB.size)⟩

theorem right_c (ao : Option Addr) (c : Nat) (vs : List Ver) (o : Bool) (i : Itn) (w : World) (h : Vs w ao c vs) :
    Calls Try.prog 12 #[(.agg #[.slice ao vs.length c, .bool o, .int .i64 i.txn.id, .int .i64 i.txn.ep, .string i.txn.anchor, .int .i64 i.txn.start.1, .int .i64 i.txn.start.2, .int .i64 i.seq, .int .i64 i.at_.1, .int .i64 i.at_.2, .string i.val, .bool i.gone])] w fun e w' => e = .returned (.bool (rightCB ⟨vs, o, i⟩)) ∧ Below w.heap.size w w' := by
  have l1 := h.len
  have l2 := h.le
  have l3 := h.cm
  simp only [maxLen] at l1 l3
  obtain ⟨z, hz⟩ : ∃ z, z = rightCB ⟨vs, o, i⟩ := ⟨_, rfl⟩
  rw [← hz]
  have Hz := hide hz
  have Hv := hide h
  obtain ⟨n, hn⟩ : ∃ n, vs.length = n := ⟨_, rfl⟩
  have Hn := hide hn
  rw [hn] at l1 l2 ⊢
  have hB : Below w.heap.size w (w.alloc (.cells #[.slice ao n c, .bool o, .int .i64 i.txn.id, .int .i64 i.txn.ep, .string i.txn.anchor, .int .i64 i.txn.start.1, .int .i64 i.txn.start.2, .int .i64 i.seq, .int .i64 i.at_.1, .int .i64 i.at_.2, .string i.val, .bool i.gone] 30)) := (Below.refl _ _).alloc (Nat.le_refl _) _
  have N := Blk.new w #[.slice ao n c, .bool o, .int .i64 i.txn.id, .int .i64 i.txn.ep, .string i.txn.anchor, .int .i64 i.txn.start.1, .int .i64 i.txn.start.2, .int .i64 i.seq, .int .i64 i.at_.1, .int .i64 i.at_.2, .string i.val, .bool i.gone] 30
  have HN := hide (And.intro hB N)
  have q := eqlI0 i
  clear hz h hn N hB
  go_enter Try.func12, Try.ntmps12
  go_wp2
  generalize w.alloc _ = W at *
  go_loopw [8] (fun u wr => ∃ k : Nat, u = .int .i64 k ∧ k ≤ n ∧ Hid (riseB (vs.take k) = true) ∧ Hid (Below W.heap.size W wr)) (fun u _ => n - (intOf u).toNat)
  case atStart => exact ⟨0, rfl, by omega, rfl, Below.refl _ _⟩
  case round =>
    obtain ⟨k, rfl, hk, Ha, Hb⟩ := hrel
    have hlt0 : w.heap.size < wr.heap.size := Nat.lt_of_lt_of_le (unhide HN).2.lt (unhide Hb).size
    by_cases hlt : k < n
    · have h1 : k < vs.length := by have := unhide Hn; omega
      obtain ⟨b, o', rfl, x⟩ := (unhide Hv).each k h1
      have lx := Nat.lt_of_lt_of_le x.lt (unhide HN).1.size
      replace x := (x.block ((unhide HN).1.block _ x.lt)).block ((unhide Hb).block _ lx)
      have lx' := Nat.lt_of_lt_of_le lx (unhide Hb).size
      obtain ⟨v, hv0⟩ : ∃ v, vs[k] = v := ⟨_, rfl⟩
      rw [hv0] at x
      have N := (unhide HN).2.later (unhide Hb)
      have N0 := N.c 0
      simp only [List.getElem?_cons_zero] at N0
      have hf := fun w' (hb : Below wr.heap.size wr w') => fits_any _ c (vs.take k) v.at_ w' ((((unhide Hv).later (unhide HN).1).later (unhide Hb)).later hb |>.take k (by omega))
      rw [List.length_take_of_le (by omega)] at hf
      have hst := rise_step vs k h1
      rw [hv0, unhide Ha, Bool.true_and] at hst
      have Hst := hide hst
      have x0 := x.c0
      have x1 := x.c1
      have x2 := x.c2
      have x3 := x.c3
      have x4 := x.c4
      clear hst hv0 N
      cases hq : fitB (vs.take k) v.at_
      · rw [hq] at hf Hst
        clear hq
        have hck : ¬ (c : Int) < (k : Int) := by omega
        have V := Blk.new wr #[.int .i64 v.at_.1, .int .i64 v.at_.2, .string v.val, .bool v.gone, .int .i64 v.by_] 37
        have hB2 : Below wr.heap.size wr (wr.alloc (.cells #[.int .i64 v.at_.1, .int .i64 v.at_.2, .string v.val, .bool v.gone, .int .i64 v.by_] 37)) := (Below.refl _ _).alloc (Nat.le_refl _) _
        have C0 := fun i : Later (wr.alloc (.cells #[.int .i64 v.at_.1, .int .i64 v.at_.2, .string v.val, .bool v.gone, .int .i64 v.by_] 37)) => i.cell (((World.cell?_alloc_lt _ _ _ (by simp; omega)).trans N0 : (wr.alloc (.cells #[.int .i64 v.at_.1, .int .i64 v.at_.2, .string v.val, .bool v.gone, .int .i64 v.by_] 37)).cell? ⟨w.heap.size, 0, none⟩ = _))
        go_wp2_with fail
        generalize wr.alloc _ = W2 at *
        have ii : Nonempty (Later W2) := ⟨⟨W2, Below.refl _ _⟩⟩
        have k0 := fun i : Later W2 => (V.later i.below).c 0
        have k1 := fun i : Later W2 => (V.later i.below).c 1
        simp only [List.getElem?_cons_zero, List.getElem?_cons_succ] at k0 k1
        have hf' := fun i : Later W2 => hf i.val (hB2.trans (i.below.mono hB2.size))
        have HB2 := hide hB2
        clear hf V hB2
        refine wp_region_later (by kernel_rfl) (by kernel_rfl) ?_
        repeat (first
          | go_big_quiet_step ((go_at_call 31; exact calls_later (hf' _)))
          | quiet_step (fail))
        refine wpQuiet_nil ?_
        intro w' hw'
        obtain ⟨⟨W3, hb3⟩, rfl⟩ := hw'
        go_wp2
        go_ret
        refine ⟨?_, (unhide HN).1.trans (((unhide Hb).trans (((unhide HB2).trans (hb3.mono (unhide HB2).size)).mono (unhide Hb).size)).mono (unhide HN).1.size)⟩
        rw [unhide Hz]
        unfold rightCB
        rw [show riseB vs = false from rise_not (unhide Hst)]
        rfl
      · rw [hq] at hf Hst
        clear hq
        have hck : ¬ (c : Int) < (k : Int) := by omega
        have V := Blk.new wr #[.int .i64 v.at_.1, .int .i64 v.at_.2, .string v.val, .bool v.gone, .int .i64 v.by_] 37
        have hB2 : Below wr.heap.size wr (wr.alloc (.cells #[.int .i64 v.at_.1, .int .i64 v.at_.2, .string v.val, .bool v.gone, .int .i64 v.by_] 37)) := (Below.refl _ _).alloc (Nat.le_refl _) _
        have C0 := fun i : Later (wr.alloc (.cells #[.int .i64 v.at_.1, .int .i64 v.at_.2, .string v.val, .bool v.gone, .int .i64 v.by_] 37)) => i.cell (((World.cell?_alloc_lt _ _ _ (by simp; omega)).trans N0 : (wr.alloc (.cells #[.int .i64 v.at_.1, .int .i64 v.at_.2, .string v.val, .bool v.gone, .int .i64 v.by_] 37)).cell? ⟨w.heap.size, 0, none⟩ = _))
        go_wp2_with fail
        generalize wr.alloc _ = W2 at *
        have ii : Nonempty (Later W2) := ⟨⟨W2, Below.refl _ _⟩⟩
        have k0 := fun i : Later W2 => (V.later i.below).c 0
        have k1 := fun i : Later W2 => (V.later i.below).c 1
        simp only [List.getElem?_cons_zero, List.getElem?_cons_succ] at k0 k1
        have hf' := fun i : Later W2 => hf i.val (hB2.trans (i.below.mono hB2.size))
        have HB2 := hide hB2
        clear hf V hB2
        refine wp_region_later (by kernel_rfl) (by kernel_rfl) ?_
        repeat (first
          | go_big_quiet_step ((go_at_call 31; exact calls_later (hf' _)))
          | quiet_step (fail))
        refine wpQuiet_nil ?_
        intro w' hw'
        obtain ⟨⟨W3, hb3⟩, rfl⟩ := hw'
        go_wp2
        go_roundw
        case rel => exact ⟨k + 1, by go_num, by omega, unhide Hst, (unhide Hb).trans (((unhide HB2).trans (hb3.mono (unhide HB2).size)).mono (unhide Hb).size)⟩
        case measure => simp [intOf]; omega
    · have N := (unhide HN).2.later (unhide Hb)
      have hr : riseB vs = true := by
        have := unhide Ha
        rwa [List.take_of_length_le (by have := unhide Hn; omega)] at this
      have HBw := hide ((unhide HN).1.trans ((unhide Hb).mono (unhide HN).1.size))
      have n0 := N.c 0
      have n1 := N.c 1
      have n2 := N.c 2
      have n3 := N.c 3
      have n4 := N.c 4
      have n5 := N.c 5
      have n6 := N.c 6
      have n7 := N.c 7
      have n8 := N.c 8
      have n9 := N.c 9
      have na := N.c 10
      have nb := N.c 11
      simp only [List.getElem?_cons_zero, List.getElem?_cons_succ] at n0 n1 n2 n3 n4 n5 n6 n7 n8 n9 na nb
      have hz : z = if o = true then fitB vs i.at_ else sameI i Itn.zero := by rw [unhide Hz]; unfold rightCB; rw [hr, Bool.true_and]
      cases o
      · rw [if_neg (by simp)] at hz
        rw [← hz] at q
        clear N hr hz
        go_wp2
        go_ret
        exact ⟨rfl, unhide HBw⟩
      · rw [if_pos rfl] at hz
        have hf := fun w' (hb : Below wr.heap.size wr w') => fits_any ao c vs i.at_ w' (((unhide Hv).later (unhide HN).1).later (unhide Hb) |>.later hb)
        rw [unhide Hn, ← hz] at hf
        clear N hr hz
        go_wp2_with fail
        refine (hf _ (Below.refl _ _)).mono ?_
        rintro e w1 ⟨rfl, hb1⟩
        have H1 := hide ((unhide HBw).trans (hb1.mono (unhide HBw).size))
        clear hb1 hf
        go_wp2
        go_ret
        exact ⟨rfl, unhide H1⟩
end

end Go.Proofs.Ytcahmnpoajnmpaa
