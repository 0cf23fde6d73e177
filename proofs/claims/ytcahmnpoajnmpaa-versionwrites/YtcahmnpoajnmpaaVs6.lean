/-
  Contracts of the document's last, Right, and of the law's Fits. No law is proved here.
-/
import Derived.Test.YtcahmnpoajnmpaaVs5
namespace Go.Proofs.Ytcahmnpoajnmpaa
open Go.RowKit
set_option linter.unusedVariables false

/-- The last version's stamp, and whether there is one. -/
def lastP (vs : List Ver) : Stp × Bool := match lastS vs with | none => ((0, 0), false) | some s => (s, true)

section
set_option maxRecDepth 100000
set_option maxHeartbeats 1000000

theorem last_any (ao : Option Addr) (c : Nat) (vs : List Ver) (o : Bool) (i : Itn) (w : World) (h : Vs w ao c vs) :
    Calls Try.prog 34 #[(.agg #[.slice ao vs.length c, .bool o, .int .i64 i.txn.id, .int .i64 i.txn.ep, .string i.txn.anchor, .int .i64 i.txn.start.1, .int .i64 i.txn.start.2, .int .i64 i.seq, .int .i64 i.at_.1, .int .i64 i.at_.2, .string i.val, .bool i.gone])] w fun e w' => e = .returned (.tuple #[(.agg #[.int .i64 (lastP vs).1.1, .int .i64 (lastP vs).1.2]), .bool (lastP vs).2]) ∧ Below w.heap.size w w' := by
  have l1 := h.len
  simp only [maxLen] at l1
  unfold lastP
  rcases Nat.eq_zero_or_pos vs.length with h0 | h0
  · have e : vs = [] := List.eq_nil_of_length_eq_zero h0
    subst e
    go_enter Try.func34, Try.ntmps34
    go_wp2
    refine bodyPost_ret (v := .tuple #[.agg #[.int .i64 0, .int .i64 0], .bool false]) (by simp [results, Try.results34, go_sem]) rfl ⟨rfl, ?_⟩
    exact ((Below.refl _ _).alloc (Nat.le_refl _) _).alloc (by simp) _
  · obtain ⟨m, hm⟩ : ∃ m, vs.length = m + 1 := ⟨vs.length - 1, by omega⟩
    rw [lastS_at vs m hm]
    obtain ⟨b, p, rfl, x⟩ := h.each m (by omega)
    obtain ⟨v, hv0⟩ : ∃ v, vs[m]'(by omega) = v := ⟨_, rfl⟩
    rw [hv0] at x ⊢
    clear hv0
    rw [hm] at l1 ⊢
    have hm0 : (((m : Int) + 1) == 0) = false := by rw [beq_eq_false_iff_ne]; omega
    have y := x.block (w' := (w.alloc (.cells #[.slice (some ⟨b, p, none⟩) (m+1) c, .bool o, .int .i64 i.txn.id, .int .i64 i.txn.ep, .string i.txn.anchor, .int .i64 i.txn.start.1, .int .i64 i.txn.start.2, .int .i64 i.seq, .int .i64 i.at_.1, .int .i64 i.at_.2, .string i.val, .bool i.gone] 30)).alloc (.cells #[.int .i64 0, .int .i64 0] 24)) ((((Below.refl w.heap.size w).alloc (Nat.le_refl _) _).alloc (by simp) _).block b x.lt)
    have y0 := y.c0
    have y1 := y.c1
    clear h x y hm h0
    go_enter Try.func34, Try.ntmps34
    go_wp2
    refine bodyPost_ret (v := .tuple #[(.agg #[.int .i64 v.at_.1, .int .i64 v.at_.2]), .bool true]) (by simp [results, Try.results34, go_sem]) rfl ⟨rfl, ?_⟩
    exact ((Below.refl _ _).alloc (Nat.le_refl _) _).alloc (by simp) _

theorem refright_c (ao : Option Addr) (c : Nat) (vs : List Ver) (o : Bool) (i : Itn) (w : World) (h : Vs w ao c vs) :
    Calls Try.prog 13 #[(.agg #[.slice ao vs.length c, .bool o, .int .i64 i.txn.id, .int .i64 i.txn.ep, .string i.txn.anchor, .int .i64 i.txn.start.1, .int .i64 i.txn.start.2, .int .i64 i.seq, .int .i64 i.at_.1, .int .i64 i.at_.2, .string i.val, .bool i.gone])] w fun e w' => e = .returned (.bool (rightCB ⟨vs, o, i⟩)) ∧ Below w.heap.size w w' := by
  have l1 := h.len
  have l2 := h.le
  have l3 := h.cm
  simp only [maxLen] at l1 l3
  obtain ⟨z, hz⟩ : ∃ z, z = rightCB ⟨vs, o, i⟩ := ⟨_, rfl⟩
  rw [← hz]
  have Hz := hide hz
  have Hv := hide h
  obtain ⟨n, hn⟩ : ∃ n, vs.length = n := ⟨_, rfl⟩
  have Hn := hide hn
  rw [hn] at l1 l2 ⊢
  have hB : Below w.heap.size w (w.alloc (.cells #[.slice ao n c, .bool o, .int .i64 i.txn.id, .int .i64 i.txn.ep, .string i.txn.anchor, .int .i64 i.txn.start.1, .int .i64 i.txn.start.2, .int .i64 i.seq, .int .i64 i.at_.1, .int .i64 i.at_.2, .string i.val, .bool i.gone] 30)) := (Below.refl _ _).alloc (Nat.le_refl _) _
  have N := Blk.new w #[.slice ao n c, .bool o, .int .i64 i.txn.id, .int .i64 i.txn.ep, .string i.txn.anchor, .int .i64 i.txn.start.1, .int .i64 i.txn.start.2, .int .i64 i.seq, .int .i64 i.at_.1, .int .i64 i.at_.2, .string i.val, .bool i.gone] 30
  have HN := hide (And.intro hB N)
  have q := eqlI0 i
  clear hz h hn N hB
  go_enter Try.func13, Try.ntmps13
  go_wp2
  generalize w.alloc _ = W at *
  go_loopw [3] (fun u wr => ∃ k : Nat, u = .int .i64 k ∧ k ≤ n ∧ Hid (riseB (vs.take k) = true) ∧ Hid (Below W.heap.size W wr)) (fun u _ => n - (intOf u).toNat)
  case atStart => exact ⟨0, rfl, by omega, rfl, Below.refl _ _⟩
  case round =>
    obtain ⟨k, rfl, hk, Ha, Hb⟩ := hrel
    have hlt0 : w.heap.size < wr.heap.size := Nat.lt_of_lt_of_le (unhide HN).2.lt (unhide Hb).size
    by_cases hlt : k < n
    · have h1 : k < vs.length := by have := unhide Hn; omega
      obtain ⟨b, o', rfl, x⟩ := (unhide Hv).each k h1
      have lx := Nat.lt_of_lt_of_le x.lt (unhide HN).1.size
      replace x := (x.block ((unhide HN).1.block _ x.lt)).block ((unhide Hb).block _ lx)
      have lx' := Nat.lt_of_lt_of_le lx (unhide Hb).size
      obtain ⟨v, hv0⟩ : ∃ v, vs[k] = v := ⟨_, rfl⟩
      rw [hv0] at x
      have N := (unhide HN).2.later (unhide Hb)
      have N0 := N.c 0
      simp only [List.getElem?_cons_zero] at N0
      have hR := fun w => refright_any v.at_.1 v.at_.2 w
      rw [right_eq] at hR
      have hst := rise_step vs k h1
      rw [hv0, unhide Ha, Bool.true_and] at hst
      have x0 := x.c0
      have x1 := x.c1
      cases hok : okS v.at_
      · have hf : fitB (vs.take k) v.at_ = false := by unfold fitB; rw [hok, Bool.false_and]
        rw [hf] at hst
        rw [hok] at hR
        have Hst := hide hst
        clear hst hv0 hf hok
        go_wp2_with fail
        refine (hR _).mono ?_
        rintro e w2 ⟨rfl, hb2⟩
        have HB2 := hide hb2
        have ii : Nonempty (Later w2) := ⟨⟨w2, Below.refl _ _⟩⟩
        clear hb2 hR
        go_wp2_with fail
        refine wp_region_later (by kernel_rfl) (by kernel_rfl) ?_
        repeat (first
          | go_big_quiet_step (fail)
          | quiet_step (fail))
        refine wpQuiet_nil ?_
        intro w' hw'
        obtain ⟨⟨W3, hb3⟩, rfl⟩ := hw'
        go_wp2
        go_ret
        refine ⟨?_, (unhide HN).1.trans (((unhide Hb).trans (((unhide HB2).trans (hb3.mono (unhide HB2).size)).mono (unhide Hb).size)).mono (unhide HN).1.size)⟩
        rw [unhide Hz]
        unfold rightCB
        rw [show riseB vs = false from rise_not (unhide Hst)]
        rfl
      · rw [hok] at hR
        rcases Nat.eq_zero_or_pos k with hk0 | hk0
        · subst hk0
          simp only [Nat.zero_mul, Nat.add_zero] at x0 x1
          have hf : fitB (vs.take 0) v.at_ = true := by unfold fitB; rw [hok, Bool.true_and]; rfl
          rw [hf] at hst
          have Hst := hide hst
          clear hst hv0 hf hok
          go_wp2_with fail
          refine (hR _).mono ?_
          rintro e w2 ⟨rfl, hb2⟩
          have HB2 := hide hb2
          have ii : Nonempty (Later w2) := ⟨⟨w2, Below.refl _ _⟩⟩
          clear hb2 hR
          go_wp2_with fail
          refine wp_region_later (by kernel_rfl) (by kernel_rfl) ?_
          repeat (first
            | go_big_quiet_step (fail)
            | quiet_step (fail))
          refine wpQuiet_nil ?_
          intro w' hw'
          obtain ⟨⟨W3, hb3⟩, rfl⟩ := hw'
          go_wp2
          go_roundw
          case rel => exact ⟨1, by go_num, by omega, unhide Hst, (unhide Hb).trans (((unhide HB2).trans (hb3.mono (unhide HB2).size)).mono (unhide Hb).size)⟩
          case measure => simp [intOf]; omega
        · obtain ⟨m, rfl⟩ : ∃ m, k = m + 1 := ⟨k - 1, by omega⟩
          obtain ⟨b1, o1, e1, y⟩ := (unhide Hv).each m (by omega)
          injection e1 with e1
          injection e1 with e1 e2
          subst e1 e2
          obtain ⟨u, hu0⟩ : ∃ u, vs[m]'(by omega) = u := ⟨_, rfl⟩
          rw [hu0] at y
          have lt : lastS (vs.take (m + 1)) = some u.at_ := by
            rw [lastS_at _ m (by rw [List.length_take]; omega), List.getElem_take, hu0]
          have hf : fitB (vs.take (m + 1)) v.at_ = ltB u.at_ v.at_ := by unfold fitB; rw [hok, Bool.true_and, lt]
          rw [hf] at hst
          have hL := fun w => refless_any u.at_.1 u.at_.2 v.at_.1 v.at_.2 w
          rw [less_eq] at hL
          replace y := (y.block ((unhide HN).1.block _ y.lt)).block ((unhide Hb).block _ lx)
          have y0 := y.c0
          have y1 := y.c1
          clear hv0 hf hok hu0 lt
          cases hq : ltB u.at_ v.at_
          · rw [hq] at hst hL
            have Hst := hide hst
            clear hst hq
            go_wp2_with fail
            refine (hR _).mono ?_
            rintro e w2 ⟨rfl, hb2⟩
            have HB2 := hide hb2
            have ii : Nonempty (Later w2) := ⟨⟨w2, Below.refl _ _⟩⟩
            have k0 := fun i : Later w2 => i.cell ((hb2.cell (by simp; omega)).trans N0)
            have k1 := fun i : Later w2 => i.cell ((hb2.cell lx').trans y0)
            have k2 := fun i : Later w2 => i.cell ((hb2.cell lx').trans y1)
            have k3 := fun i : Later w2 => i.cell ((hb2.cell lx').trans x0)
            have k4 := fun i : Later w2 => i.cell ((hb2.cell lx').trans x1)
            clear hb2 hR
            go_wp2_with fail
            refine wp_region_later (by kernel_rfl) (by kernel_rfl) ?_
            repeat (first
              | go_big_quiet_step ((go_at_call 33; exact calls_later (hL _)))
              | quiet_step (fail))
            refine wpQuiet_nil ?_
            intro w' hw'
            obtain ⟨⟨W3, hb3⟩, rfl⟩ := hw'
            go_wp2
            go_ret
            refine ⟨?_, (unhide HN).1.trans (((unhide Hb).trans (((unhide HB2).trans (hb3.mono (unhide HB2).size)).mono (unhide Hb).size)).mono (unhide HN).1.size)⟩
            rw [unhide Hz]
            unfold rightCB
            rw [show riseB vs = false from rise_not (unhide Hst)]
            rfl
          · rw [hq] at hst hL
            have Hst := hide hst
            clear hst hq
            go_wp2_with fail
            refine (hR _).mono ?_
            rintro e w2 ⟨rfl, hb2⟩
            have HB2 := hide hb2
            have ii : Nonempty (Later w2) := ⟨⟨w2, Below.refl _ _⟩⟩
            have k0 := fun i : Later w2 => i.cell ((hb2.cell (by simp; omega)).trans N0)
            have k1 := fun i : Later w2 => i.cell ((hb2.cell lx').trans y0)
            have k2 := fun i : Later w2 => i.cell ((hb2.cell lx').trans y1)
            have k3 := fun i : Later w2 => i.cell ((hb2.cell lx').trans x0)
            have k4 := fun i : Later w2 => i.cell ((hb2.cell lx').trans x1)
            clear hb2 hR
            go_wp2_with fail
            refine wp_region_later (by kernel_rfl) (by kernel_rfl) ?_
            repeat (first
              | go_big_quiet_step ((go_at_call 33; exact calls_later (hL _)))
              | quiet_step (fail))
            refine wpQuiet_nil ?_
            intro w' hw'
            obtain ⟨⟨W3, hb3⟩, rfl⟩ := hw'
            go_wp2
            go_roundw
            case rel => exact ⟨m + 1 + 1, by go_num, by omega, unhide Hst, (unhide Hb).trans (((unhide HB2).trans (hb3.mono (unhide HB2).size)).mono (unhide Hb).size)⟩
            case measure => simp [intOf]; omega
    · have N := (unhide HN).2.later (unhide Hb)
      have hr : riseB vs = true := by
        have := unhide Ha
        rwa [List.take_of_length_le (by have := unhide Hn; omega)] at this
      have HBw := hide ((unhide HN).1.trans ((unhide Hb).mono (unhide HN).1.size))
      have n0 := N.c 0
      have n1 := N.c 1
      have n2 := N.c 2
      have n3 := N.c 3
      have n4 := N.c 4
      have n5 := N.c 5
      have n6 := N.c 6
      have n7 := N.c 7
      have n8 := N.c 8
      have n9 := N.c 9
      have na := N.c 10
      have nb := N.c 11
      simp only [List.getElem?_cons_zero, List.getElem?_cons_succ] at n0 n1 n2 n3 n4 n5 n6 n7 n8 n9 na nb
      have hz : z = if o = true then fitB vs i.at_ else sameI i Itn.zero := by rw [unhide Hz]; unfold rightCB; rw [hr, Bool.true_and]
      cases o
      · rw [if_neg (by simp)] at hz
        rw [← hz] at q
        clear N hr hz
        go_wp2
        go_ret
        exact ⟨rfl, unhide HBw⟩
      · rw [if_pos rfl] at hz
        have hf := fun w' (hb : Below wr.heap.size wr w') => last_any ao c vs true i w' (((unhide Hv).later (unhide HN).1).later (unhide Hb) |>.later hb)
        rw [unhide Hn] at hf
        have hR := fun w => refright_any i.at_.1 i.at_.2 w
        rw [right_eq] at hR
        obtain ⟨P, hP⟩ : ∃ P, lastP vs = P := ⟨_, rfl⟩
        rw [hP] at hf
        have hzz : z = (okS i.at_ && (if P.2 = true then ltB P.1 i.at_ else true)) := by
          rw [hz, ← hP]
          unfold fitB lastP
          cases lastS vs <;> rfl
        have Hzz := hide hzz
        clear hr hz hzz hP
        go_wp2_with fail
        refine (hf _ (Below.refl _ _)).mono ?_
        rintro e w1 ⟨rfl, hb1⟩
        have N1 := N.later hb1
        have S := Blk.new w1 #[.int .i64 P.1.1, .int .i64 P.1.2] 24
        have N2 := N1.alloc (.cells #[.int .i64 P.1.1, .int .i64 P.1.2] 24)
        have HW1 := hide ((unhide HBw).trans ((hb1.trans ((Below.refl w1.heap.size w1).alloc (Nat.le_refl _) (.cells #[.int .i64 P.1.1, .int .i64 P.1.2] 24) |>.mono hb1.size)).mono (unhide HBw).size))
        have g8 := fun o => (N1.alloc o).c 8
        have g9 := fun o => (N1.alloc o).c 9
        simp only [List.getElem?_cons_zero, List.getElem?_cons_succ] at g8 g9
        clear n0 n1 n2 n3 n4 n5 n6 n7 n8 n9 na nb hb1 hf N N1 q
        go_wp2_with fail
        generalize w1.alloc _ = W1 at *
        refine (hR _).mono ?_
        rintro e w2 ⟨rfl, hb2⟩
        have N3 := N2.later hb2
        have S3 := S.later hb2
        have HW2 := hide ((unhide HW1).trans (hb2.mono (unhide HW1).size))
        have n8 := N3.c 8
        have n9 := N3.c 9
        have s0 := S3.c 0
        have s1 := S3.c 1
        simp only [List.getElem?_cons_zero, List.getElem?_cons_succ] at n8 n9 s0 s1
        clear N3 S3 N2 S hb2 g8 g9 hR
        cases hok : okS i.at_
        · go_wp2
          go_ret
          exact ⟨by rw [unhide Hzz, hok]; rfl, unhide HW2⟩
        · obtain ⟨P1, P2⟩ := P
          cases P2
          · go_wp2
            go_ret
            exact ⟨by rw [unhide Hzz, hok]; rfl, unhide HW2⟩
          · have hL := fun w => refless_any P1.1 P1.2 i.at_.1 i.at_.2 w
            rw [less_eq] at hL
            go_wp2_with fail
            refine (hL _).mono ?_
            rintro e w4 ⟨rfl, hb4⟩
            have HW4 := hide ((unhide HW2).trans (hb4.mono (unhide HW2).size))
            clear hb4
            go_wp2
            go_ret
            exact ⟨by rw [unhide Hzz, hok]; rfl, unhide HW4⟩

theorem fitsl_any (ao : Option Addr) (c : Nat) (vs : List Ver) (o : Bool) (i : Itn) (w : World) (h : Vs w ao c vs) :
    Calls Try.prog 16 #[(.agg #[.slice ao vs.length c, .bool o, .int .i64 i.txn.id, .int .i64 i.txn.ep, .string i.txn.anchor, .int .i64 i.txn.start.1, .int .i64 i.txn.start.2, .int .i64 i.seq, .int .i64 i.at_.1, .int .i64 i.at_.2, .string i.val, .bool i.gone])] w fun e w' => e = .returned (.bool (decide (vs.length ≤ 60) && rightCB ⟨vs, o, i⟩)) ∧ Below w.heap.size w w' := by
  have hf := fun w' (hb : Below w.heap.size w w') => refright_c ao c vs o i w' (h.later hb)
  have l1 := h.len
  simp only [maxLen] at l1
  generalize rightCB ⟨vs, o, i⟩ = z at *
  generalize vs.length = n at *
  clear h
  by_cases hn : n ≤ 60
  · rw [show decide (n ≤ 60) = true by simp [hn]]
    go_enter Try.func16, Try.ntmps16
    go_wp2_with fail
    refine (hf _ ((Below.refl _ _).alloc (Nat.le_refl _) _)).mono ?_
    rintro e w1 ⟨rfl, hb⟩
    have H := hide hb
    clear hb
    go_wp2
    go_ret
    exact ⟨rfl, ((Below.refl _ _).alloc (Nat.le_refl _) _).trans ((unhide H).mono (by simp))⟩
  · rw [show decide (n ≤ 60) = false by simp [hn]]
    clear hf
    go_enter Try.func16, Try.ntmps16
    go_wp2
    go_ret
    exact ⟨rfl, (Below.refl _ _).alloc (Nat.le_refl _) _⟩
end

end Go.Proofs.Ytcahmnpoajnmpaa
