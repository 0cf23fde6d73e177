/-
  Contracts of the document's Query and Refresh. No law is proved here.
-/
import Derived.Test.YtcahmnpoajnmpaaVs9
namespace Go.Proofs.Ytcahmnpoajnmpaa
open Go.RowKit
set_option linter.unusedVariables false

section
set_option maxRecDepth 100000
set_option maxHeartbeats 1000000

theorem refquery_any (ao : Option Addr) (n c : Nat) (o : Bool) (i : Itn) (id ep sq : Int) (a : Stp) (w : World) :
    Calls Try.prog 22 #[(.agg #[.slice ao n c, .bool o, .int .i64 i.txn.id, .int .i64 i.txn.ep, .string i.txn.anchor, .int .i64 i.txn.start.1, .int .i64 i.txn.start.2, .int .i64 i.seq, .int .i64 i.at_.1, .int .i64 i.at_.2, .string i.val, .bool i.gone]), .int .i64 id, .int .i64 ep, .int .i64 sq, (.agg #[.int .i64 a.1, .int .i64 a.2])] w fun e w' => e = .returned (.bool (queryC ⟨[], o, i⟩ id ep sq a)) ∧ Below w.heap.size w w' := by
  have hU := fun w => upto_any i.at_ a w
  have e : queryC ⟨[], o, i⟩ id ep sq a = (o && decide (i.txn.id = id) && decide (i.txn.ep = ep) && decide (sq ≤ i.seq) && upB i.at_ a) := rfl
  generalize queryC ⟨[], o, i⟩ id ep sq a = R at *
  generalize upB i.at_ a = z at *
  have HR := hide e
  clear e
  have hB : Below w.heap.size w (((w.alloc (.cells #[.slice ao n c, .bool o, .int .i64 i.txn.id, .int .i64 i.txn.ep, .string i.txn.anchor, .int .i64 i.txn.start.1, .int .i64 i.txn.start.2, .int .i64 i.seq, .int .i64 i.at_.1, .int .i64 i.at_.2, .string i.val, .bool i.gone] 30)).alloc (.cells #[.int .i64 a.1, .int .i64 a.2] 24)).alloc (.cells #[.int .i64 i.txn.id, .int .i64 i.txn.ep, .string i.txn.anchor, .int .i64 i.txn.start.1, .int .i64 i.txn.start.2, .int .i64 i.seq, .int .i64 i.at_.1, .int .i64 i.at_.2, .string i.val, .bool i.gone] 28)) := (((Below.refl _ _).alloc (Nat.le_refl _) _).alloc (by simp) _).alloc (by simp; omega) _
  have HB := hide hB
  clear hB
  cases o
  · obtain rfl : R = false := by rw [unhide HR]; simp
    go_enter Try.func22, Try.ntmps22
    go_wp2
    go_ret
    exact ⟨rfl, unhide HB⟩
  by_cases h0 : i.txn.id = id
  case neg =>
    obtain rfl : R = false := by rw [unhide HR]; simp [h0]
    have h0' : (i.txn.id == id) = false := by simpa using h0
    go_enter Try.func22, Try.ntmps22
    go_wp2
    go_ret
    exact ⟨rfl, unhide HB⟩
  have h0' : (i.txn.id == id) = true := by simpa using h0
  by_cases h1 : i.txn.ep = ep
  case neg =>
    obtain rfl : R = false := by rw [unhide HR]; simp [h1]
    have h1' : (i.txn.ep == ep) = false := by simpa using h1
    clear h0
    go_enter Try.func22, Try.ntmps22
    go_wp2
    go_ret
    exact ⟨rfl, unhide HB⟩
  have h1' : (i.txn.ep == ep) = true := by simpa using h1
  by_cases h2 : sq ≤ i.seq
  case neg =>
    obtain rfl : R = false := by rw [unhide HR]; simp [h2]
    clear h0 h1
    go_enter Try.func22, Try.ntmps22
    go_wp2
    go_ret
    exact ⟨rfl, unhide HB⟩
  obtain rfl : R = z := by rw [unhide HR]; simp [h0, h1, h2]
  clear h0 h1
  go_enter Try.func22, Try.ntmps22
  go_wp2_with fail
  generalize ((w.alloc _).alloc _).alloc _ = W at *
  refine (hU _).mono ?_
  rintro e w2 ⟨rfl, hb2⟩
  have HB2 := hide ((unhide HB).trans (hb2.mono (unhide HB).size))
  clear hb2
  go_wp2
  go_ret
  exact ⟨rfl, unhide HB2⟩

theorem refrefresh_any (ao : Option Addr) (c : Nat) (vs : List Ver) (o : Bool) (i : Itn) (id : Int) (f t : Stp) (w : World) (hv : Vs w ao c vs) :
    Calls Try.prog 20 #[(.agg #[.slice ao vs.length c, .bool o, .int .i64 i.txn.id, .int .i64 i.txn.ep, .string i.txn.anchor, .int .i64 i.txn.start.1, .int .i64 i.txn.start.2, .int .i64 i.seq, .int .i64 i.at_.1, .int .i64 i.at_.2, .string i.val, .bool i.gone]), .int .i64 id, (.agg #[.int .i64 f.1, .int .i64 f.2]), (.agg #[.int .i64 t.1, .int .i64 t.2])] w fun e w' => e = .returned (.tuple #[(.agg #[.int .i64 (refreshC ⟨vs, o, i⟩ id f t).1.id, .int .i64 (refreshC ⟨vs, o, i⟩ id f t).1.ep, .string (refreshC ⟨vs, o, i⟩ id f t).1.anchor, .int .i64 (refreshC ⟨vs, o, i⟩ id f t).1.start.1, .int .i64 (refreshC ⟨vs, o, i⟩ id f t).1.start.2]), .int .i64 (refreshC ⟨vs, o, i⟩ id f t).2]) ∧ Below w.heap.size w w' := by
  have l1 := hv.len
  simp only [maxLen] at l1
  obtain ⟨R, e⟩ : ∃ R, refreshC ⟨vs, o, i⟩ id f t = R := ⟨_, rfl⟩
  rw [e]
  unfold refreshC at e
  simp only at e
  have Hv := hide hv
  obtain ⟨n, hn⟩ : ∃ n, vs.length = n := ⟨_, rfl⟩
  have Hn := hide hn
  simp only [hn] at l1 ⊢
  have C := (((Blk.new w #[.slice ao n c, .bool o, .int .i64 i.txn.id, .int .i64 i.txn.ep, .string i.txn.anchor, .int .i64 i.txn.start.1, .int .i64 i.txn.start.2, .int .i64 i.seq, .int .i64 i.at_.1, .int .i64 i.at_.2, .string i.val, .bool i.gone] 30).alloc (.cells #[.int .i64 f.1, .int .i64 f.2] 24)).alloc (.cells #[.int .i64 t.1, .int .i64 t.2] 24)).alloc (.cells #[.int .i64 0, .int .i64 0, .string ⟨#[]⟩, .int .i64 0, .int .i64 0] 26)
  have F := ((Blk.new (w.alloc (.cells #[.slice ao n c, .bool o, .int .i64 i.txn.id, .int .i64 i.txn.ep, .string i.txn.anchor, .int .i64 i.txn.start.1, .int .i64 i.txn.start.2, .int .i64 i.seq, .int .i64 i.at_.1, .int .i64 i.at_.2, .string i.val, .bool i.gone] 30)) #[.int .i64 f.1, .int .i64 f.2] 24).alloc (.cells #[.int .i64 t.1, .int .i64 t.2] 24)).alloc (.cells #[.int .i64 0, .int .i64 0, .string ⟨#[]⟩, .int .i64 0, .int .i64 0] 26)
  rw [show (w.alloc (.cells #[.slice ao n c, .bool o, .int .i64 i.txn.id, .int .i64 i.txn.ep, .string i.txn.anchor, .int .i64 i.txn.start.1, .int .i64 i.txn.start.2, .int .i64 i.seq, .int .i64 i.at_.1, .int .i64 i.at_.2, .string i.val, .bool i.gone] 30)).heap.size = w.heap.size + 1 by simp] at F
  have T := (Blk.new ((w.alloc (.cells #[.slice ao n c, .bool o, .int .i64 i.txn.id, .int .i64 i.txn.ep, .string i.txn.anchor, .int .i64 i.txn.start.1, .int .i64 i.txn.start.2, .int .i64 i.seq, .int .i64 i.at_.1, .int .i64 i.at_.2, .string i.val, .bool i.gone] 30)).alloc (.cells #[.int .i64 f.1, .int .i64 f.2] 24)) #[.int .i64 t.1, .int .i64 t.2] 24).alloc (.cells #[.int .i64 0, .int .i64 0, .string ⟨#[]⟩, .int .i64 0, .int .i64 0] 26)
  rw [show ((w.alloc (.cells #[.slice ao n c, .bool o, .int .i64 i.txn.id, .int .i64 i.txn.ep, .string i.txn.anchor, .int .i64 i.txn.start.1, .int .i64 i.txn.start.2, .int .i64 i.seq, .int .i64 i.at_.1, .int .i64 i.at_.2, .string i.val, .bool i.gone] 30)).alloc (.cells #[.int .i64 f.1, .int .i64 f.2] 24)).heap.size = w.heap.size + 1 + 1 by simp] at T
  have M := Blk.new (((w.alloc (.cells #[.slice ao n c, .bool o, .int .i64 i.txn.id, .int .i64 i.txn.ep, .string i.txn.anchor, .int .i64 i.txn.start.1, .int .i64 i.txn.start.2, .int .i64 i.seq, .int .i64 i.at_.1, .int .i64 i.at_.2, .string i.val, .bool i.gone] 30)).alloc (.cells #[.int .i64 f.1, .int .i64 f.2] 24)).alloc (.cells #[.int .i64 t.1, .int .i64 t.2] 24)) #[.int .i64 0, .int .i64 0, .string ⟨#[]⟩, .int .i64 0, .int .i64 0] 26
  rw [show (((w.alloc (.cells #[.slice ao n c, .bool o, .int .i64 i.txn.id, .int .i64 i.txn.ep, .string i.txn.anchor, .int .i64 i.txn.start.1, .int .i64 i.txn.start.2, .int .i64 i.seq, .int .i64 i.at_.1, .int .i64 i.at_.2, .string i.val, .bool i.gone] 30)).alloc (.cells #[.int .i64 f.1, .int .i64 f.2] 24)).alloc (.cells #[.int .i64 t.1, .int .i64 t.2] 24)).heap.size = w.heap.size + 1 + 1 + 1 by simp] at M
  have hB : Below w.heap.size w ((((w.alloc (.cells #[.slice ao n c, .bool o, .int .i64 i.txn.id, .int .i64 i.txn.ep, .string i.txn.anchor, .int .i64 i.txn.start.1, .int .i64 i.txn.start.2, .int .i64 i.seq, .int .i64 i.at_.1, .int .i64 i.at_.2, .string i.val, .bool i.gone] 30)).alloc (.cells #[.int .i64 f.1, .int .i64 f.2] 24)).alloc (.cells #[.int .i64 t.1, .int .i64 t.2] 24)).alloc (.cells #[.int .i64 0, .int .i64 0, .string ⟨#[]⟩, .int .i64 0, .int .i64 0] 26)) := ((((Below.refl w.heap.size w).alloc (Nat.le_refl _) _).alloc (by simp) _).alloc (by simp; omega) _).alloc (by simp; omega) _
  clear hv hn
  have hU := fun w => upto_any i.at_ t w
  by_cases hw : o = true ∧ i.txn.id ≠ id ∧ upB i.at_ t = true
  · rw [if_pos hw] at e
    subst e
    obtain ⟨rfl, h1, h2⟩ := hw
    rw [h2] at hU
    have h1' : (i.txn.id != id) = true := by simpa using h1
    clear h1 h2
    go_enter Try.func20, Try.ntmps20
    go_wp2_with fail
    generalize (((w.alloc _).alloc _).alloc _).alloc _ = W at *
    refine (hU _).mono ?_
    rintro e w1 ⟨rfl, hb1⟩
    replace C := C.later hb1
    replace M := M.later hb1
    have HB := hide (hB.trans (hb1.mono hB.size))
    clear hb1 hB F T
    have C_0 := C.c 0; have C_1 := C.c 1; have C_2 := C.c 2; have C_3 := C.c 3; have C_4 := C.c 4; have C_5 := C.c 5; have C_6 := C.c 6; have C_7 := C.c 7; have C_8 := C.c 8; have C_9 := C.c 9; have C_10 := C.c 10; have C_11 := C.c 11; simp only [List.getElem?_cons_zero, List.getElem?_cons_succ] at C_0 C_1 C_2 C_3 C_4 C_5 C_6 C_7 C_8 C_9 C_10 C_11
    have M_0 := M.c 0; have M_1 := M.c 1; have M_2 := M.c 2; have M_3 := M.c 3; have M_4 := M.c 4; simp only [List.getElem?_cons_zero, List.getElem?_cons_succ] at M_0 M_1 M_2 M_3 M_4
    have Mf := M.f
    go_wp2
    exact bodyPost_ret (results_me Try.results20 i.txn rfl rfl (M.all [.int .i64 i.txn.id, .int .i64 i.txn.ep, .string i.txn.anchor, .int .i64 i.txn.start.1, .int .i64 i.txn.start.2] rfl)) rfl ⟨rfl, below_setAll (by omega) [.int .i64 i.txn.id, .int .i64 i.txn.ep, .string i.txn.anchor, .int .i64 i.txn.start.1, .int .i64 i.txn.start.2] 0 (unhide HB)⟩
  · rw [if_neg hw] at e
    have HR := hide e
    clear e
    have hcs : o = false ∨ (o = true ∧ (i.txn.id != id) = false) ∨ (o = true ∧ (i.txn.id != id) = true ∧ upB i.at_ t = false) := by
      cases o
      · exact .inl rfl
      · by_cases h1 : i.txn.id = id
        · exact .inr (.inl ⟨rfl, by simpa using h1⟩)
        · refine .inr (.inr ⟨rfl, by simpa using h1, ?_⟩)
          cases h2 : upB i.at_ t
          · rfl
          · exact absurd ⟨rfl, h1, h2⟩ hw
    clear hw
    have HB := hide (And.intro hB (And.intro C (And.intro F (And.intro T M))))
    clear hB C F T M
    go_enter Try.func20, Try.ntmps20
    rcases hcs with rfl | ⟨rfl, h1⟩ | ⟨rfl, h1, h2⟩
    · try clear hU
      go_wp2
      generalize (((w.alloc _).alloc _).alloc _).alloc _ = w1 at *
      go_loopw [10] (fun u wr => ∃ k : Nat, u = .int .i64 k ∧ k ≤ n ∧ Hid (∀ j (h : j < vs.length), j < k → (!upB vs[j].at_ f && upB vs[j].at_ t) = false) ∧ Hid (Below w1.heap.size w1 wr)) (fun u _ => n - (intOf u).toNat)
      case atStart => exact ⟨0, rfl, by omega, (fun j _ h => absurd h (Nat.not_lt_zero _)), Below.refl _ _⟩
      case round =>
        obtain ⟨k, rfl, hk, Ha, Hb⟩ := hrel
        obtain ⟨hB, C, F, T, M⟩ := unhide HB
        replace C := C.later (unhide Hb)
        replace F := F.later (unhide Hb)
        replace T := T.later (unhide Hb)
        replace M := M.later (unhide Hb)
        replace hB := hB.trans ((unhide Hb).mono hB.size)
        by_cases hlt : k < n
        · have h1 : k < vs.length := by have := unhide Hn; omega
          obtain ⟨b, q, rfl, x⟩ := (unhide Hv).each k h1
          obtain ⟨v, hv0⟩ : ∃ v, vs[k] = v := ⟨_, rfl⟩
          rw [hv0] at x
          have Hs := hide hv0
          replace x := x.block (hB.block _ x.lt)
          have y0 := fun z : Later wr => z.cell x.c0
          have y1 := fun z : Later wr => z.cell x.c1
          have hF := fun w => upto_any v.at_ f w
          have hT := fun w => upto_any v.at_ t w
          have C_0 := C.c 0; simp only [List.getElem?_cons_zero] at C_0
          have F_0 := fun x : Later wr => (F.later x.below).c 0; have F_1 := fun x : Later wr => (F.later x.below).c 1; simp only [List.getElem?_cons_zero, List.getElem?_cons_succ] at F_0 F_1
          have T_0 := fun x : Later wr => (T.later x.below).c 0; have T_1 := fun x : Later wr => (T.later x.below).c 1; simp only [List.getElem?_cons_zero, List.getElem?_cons_succ] at T_0 T_1
          have C_1 := fun z : Later wr => (C.later z.below).c 0
          simp only [List.getElem?_cons_zero] at C_1
          have ii : Nonempty (Later wr) := ⟨⟨wr, Below.refl _ _⟩⟩
          clear hv0 x C
          generalize hz1 : upB v.at_ f = z1 at *
          generalize hz2 : upB v.at_ t = z2 at *
          have Hz := hide (And.intro hz1 hz2)
          clear hz1 hz2
          cases z1 <;> cases z2
          case false.true =>
            go_wp2_with fail
            refine wp_region_later (by kernel_rfl) (by kernel_rfl) ?_
            repeat (first
              | go_big_quiet_step ((go_at_call 41; first | with_reducible exact calls_later (hF _) | with_reducible exact calls_later (hT _)))
              | quiet_step (fail))
            refine wpQuiet_nil ?_
            intro w' hw'
            obtain ⟨⟨W3, hb3⟩, rfl⟩ := hw'
            have M2 := M.later hb3
            have HB3 := hide (hB.trans (hb3.mono hB.size))
            clear hb3 M hB ii hF hT F T y0 y1 C_0 C_1
            have M2_0 := M2.c 0; have M2_1 := M2.c 1; have M2_2 := M2.c 2; have M2_3 := M2.c 3; have M2_4 := M2.c 4; simp only [List.getElem?_cons_zero, List.getElem?_cons_succ] at M2_0 M2_1 M2_2 M2_3 M2_4
            have Mf := M2.f
            have hR : R = (Met.zero, 221) := by
              rw [← unhide HR, if_pos]
              exact List.any_eq_true.2 ⟨vs[k], List.getElem_mem _, by rw [unhide Hs, (unhide Hz).1, (unhide Hz).2]; rfl⟩
            subst hR
            go_wp2
            exact bodyPost_ret (results_me Try.results20 Met.zero rfl rfl (M2.all [.int .i64 Met.zero.id, .int .i64 Met.zero.ep, .string Met.zero.anchor, .int .i64 Met.zero.start.1, .int .i64 Met.zero.start.2] rfl)) rfl ⟨rfl, below_setAll (by omega) [.int .i64 Met.zero.id, .int .i64 Met.zero.ep, .string Met.zero.anchor, .int .i64 Met.zero.start.1, .int .i64 Met.zero.start.2] 0 (unhide HB3)⟩
          all_goals
            go_wp2_with fail
            refine wp_region_later (by kernel_rfl) (by kernel_rfl) ?_
            repeat (first
              | go_big_quiet_step ((go_at_call 41; first | with_reducible exact calls_later (hF _) | with_reducible exact calls_later (hT _)))
              | quiet_step (fail))
            refine wpQuiet_nil ?_
            intro w' hw'
            obtain ⟨⟨W3, hb3⟩, rfl⟩ := hw'
            clear ii hF hT F T y0 y1 C_0 C_1
            go_wp2
            go_roundw
            case rel =>
              refine ⟨k + 1, by go_num, by omega, (fun j a hj => ?_), (unhide Hb).trans (hb3.mono (unhide Hb).size)⟩
              by_cases e : j = k
              · subst e
                rw [unhide Hs, (unhide Hz).1, (unhide Hz).2]; rfl
              · exact unhide Ha j a (by omega)
            case measure => simp [intOf]; omega
        · have hR : R = (Met.zero, 0) := by
            rw [← unhide HR, if_neg]
            intro h0
            obtain ⟨v, hv, h1⟩ := List.any_eq_true.1 h0
            obtain ⟨j, hj, rfl⟩ := List.getElem_of_mem hv
            rw [unhide Ha j hj (by have := unhide Hn; omega)] at h1
            cases h1
          subst hR
          have HB3 := hide hB
          have C_0 := C.c 0; simp only [List.getElem?_cons_zero] at C_0
          have M_0 := M.c 0; have M_1 := M.c 1; have M_2 := M.c 2; have M_3 := M.c 3; have M_4 := M.c 4; simp only [List.getElem?_cons_zero, List.getElem?_cons_succ] at M_0 M_1 M_2 M_3 M_4
          have Mf := M.f
          clear hB C F T
          go_wp2
          exact bodyPost_ret (results_me Try.results20 Met.zero rfl rfl (M.all [.int .i64 Met.zero.id, .int .i64 Met.zero.ep, .string Met.zero.anchor, .int .i64 Met.zero.start.1, .int .i64 Met.zero.start.2] rfl)) rfl ⟨rfl, below_setAll (by omega) [.int .i64 Met.zero.id, .int .i64 Met.zero.ep, .string Met.zero.anchor, .int .i64 Met.zero.start.1, .int .i64 Met.zero.start.2] 0 (unhide HB3)⟩
    · try clear hU
      go_wp2
      generalize (((w.alloc _).alloc _).alloc _).alloc _ = w1 at *
      go_loopw [10] (fun u wr => ∃ k : Nat, u = .int .i64 k ∧ k ≤ n ∧ Hid (∀ j (h : j < vs.length), j < k → (!upB vs[j].at_ f && upB vs[j].at_ t) = false) ∧ Hid (Below w1.heap.size w1 wr)) (fun u _ => n - (intOf u).toNat)
      case atStart => exact ⟨0, rfl, by omega, (fun j _ h => absurd h (Nat.not_lt_zero _)), Below.refl _ _⟩
      case round =>
        obtain ⟨k, rfl, hk, Ha, Hb⟩ := hrel
        obtain ⟨hB, C, F, T, M⟩ := unhide HB
        replace C := C.later (unhide Hb)
        replace F := F.later (unhide Hb)
        replace T := T.later (unhide Hb)
        replace M := M.later (unhide Hb)
        replace hB := hB.trans ((unhide Hb).mono hB.size)
        by_cases hlt : k < n
        · have h1 : k < vs.length := by have := unhide Hn; omega
          obtain ⟨b, q, rfl, x⟩ := (unhide Hv).each k h1
          obtain ⟨v, hv0⟩ : ∃ v, vs[k] = v := ⟨_, rfl⟩
          rw [hv0] at x
          have Hs := hide hv0
          replace x := x.block (hB.block _ x.lt)
          have y0 := fun z : Later wr => z.cell x.c0
          have y1 := fun z : Later wr => z.cell x.c1
          have hF := fun w => upto_any v.at_ f w
          have hT := fun w => upto_any v.at_ t w
          have C_0 := C.c 0; simp only [List.getElem?_cons_zero] at C_0
          have F_0 := fun x : Later wr => (F.later x.below).c 0; have F_1 := fun x : Later wr => (F.later x.below).c 1; simp only [List.getElem?_cons_zero, List.getElem?_cons_succ] at F_0 F_1
          have T_0 := fun x : Later wr => (T.later x.below).c 0; have T_1 := fun x : Later wr => (T.later x.below).c 1; simp only [List.getElem?_cons_zero, List.getElem?_cons_succ] at T_0 T_1
          have C_1 := fun z : Later wr => (C.later z.below).c 0
          simp only [List.getElem?_cons_zero] at C_1
          have ii : Nonempty (Later wr) := ⟨⟨wr, Below.refl _ _⟩⟩
          clear hv0 x C
          generalize hz1 : upB v.at_ f = z1 at *
          generalize hz2 : upB v.at_ t = z2 at *
          have Hz := hide (And.intro hz1 hz2)
          clear hz1 hz2
          cases z1 <;> cases z2
          case false.true =>
            go_wp2_with fail
            refine wp_region_later (by kernel_rfl) (by kernel_rfl) ?_
            repeat (first
              | go_big_quiet_step ((go_at_call 41; first | with_reducible exact calls_later (hF _) | with_reducible exact calls_later (hT _)))
              | quiet_step (fail))
            refine wpQuiet_nil ?_
            intro w' hw'
            obtain ⟨⟨W3, hb3⟩, rfl⟩ := hw'
            have M2 := M.later hb3
            have HB3 := hide (hB.trans (hb3.mono hB.size))
            clear hb3 M hB ii hF hT F T y0 y1 C_0 C_1
            have M2_0 := M2.c 0; have M2_1 := M2.c 1; have M2_2 := M2.c 2; have M2_3 := M2.c 3; have M2_4 := M2.c 4; simp only [List.getElem?_cons_zero, List.getElem?_cons_succ] at M2_0 M2_1 M2_2 M2_3 M2_4
            have Mf := M2.f
            have hR : R = (Met.zero, 221) := by
              rw [← unhide HR, if_pos]
              exact List.any_eq_true.2 ⟨vs[k], List.getElem_mem _, by rw [unhide Hs, (unhide Hz).1, (unhide Hz).2]; rfl⟩
            subst hR
            go_wp2
            exact bodyPost_ret (results_me Try.results20 Met.zero rfl rfl (M2.all [.int .i64 Met.zero.id, .int .i64 Met.zero.ep, .string Met.zero.anchor, .int .i64 Met.zero.start.1, .int .i64 Met.zero.start.2] rfl)) rfl ⟨rfl, below_setAll (by omega) [.int .i64 Met.zero.id, .int .i64 Met.zero.ep, .string Met.zero.anchor, .int .i64 Met.zero.start.1, .int .i64 Met.zero.start.2] 0 (unhide HB3)⟩
          all_goals
            go_wp2_with fail
            refine wp_region_later (by kernel_rfl) (by kernel_rfl) ?_
            repeat (first
              | go_big_quiet_step ((go_at_call 41; first | with_reducible exact calls_later (hF _) | with_reducible exact calls_later (hT _)))
              | quiet_step (fail))
            refine wpQuiet_nil ?_
            intro w' hw'
            obtain ⟨⟨W3, hb3⟩, rfl⟩ := hw'
            clear ii hF hT F T y0 y1 C_0 C_1
            go_wp2
            go_roundw
            case rel =>
              refine ⟨k + 1, by go_num, by omega, (fun j a hj => ?_), (unhide Hb).trans (hb3.mono (unhide Hb).size)⟩
              by_cases e : j = k
              · subst e
                rw [unhide Hs, (unhide Hz).1, (unhide Hz).2]; rfl
              · exact unhide Ha j a (by omega)
            case measure => simp [intOf]; omega
        · have hR : R = (Met.zero, 0) := by
            rw [← unhide HR, if_neg]
            intro h0
            obtain ⟨v, hv, h1⟩ := List.any_eq_true.1 h0
            obtain ⟨j, hj, rfl⟩ := List.getElem_of_mem hv
            rw [unhide Ha j hj (by have := unhide Hn; omega)] at h1
            cases h1
          subst hR
          have HB3 := hide hB
          have C_0 := C.c 0; simp only [List.getElem?_cons_zero] at C_0
          have M_0 := M.c 0; have M_1 := M.c 1; have M_2 := M.c 2; have M_3 := M.c 3; have M_4 := M.c 4; simp only [List.getElem?_cons_zero, List.getElem?_cons_succ] at M_0 M_1 M_2 M_3 M_4
          have Mf := M.f
          clear hB C F T
          go_wp2
          exact bodyPost_ret (results_me Try.results20 Met.zero rfl rfl (M.all [.int .i64 Met.zero.id, .int .i64 Met.zero.ep, .string Met.zero.anchor, .int .i64 Met.zero.start.1, .int .i64 Met.zero.start.2] rfl)) rfl ⟨rfl, below_setAll (by omega) [.int .i64 Met.zero.id, .int .i64 Met.zero.ep, .string Met.zero.anchor, .int .i64 Met.zero.start.1, .int .i64 Met.zero.start.2] 0 (unhide HB3)⟩
    · rw [h2] at hU
      clear h2
      go_wp2_with fail
      generalize (((w.alloc _).alloc _).alloc _).alloc _ = W at *
      refine (hU _).mono ?_
      rintro e w1 ⟨rfl, hb1⟩
      replace HB := hide (And.intro ((unhide HB).1.trans (hb1.mono (unhide HB).1.size)) (And.intro ((unhide HB).2.1.later hb1) (And.intro ((unhide HB).2.2.1.later hb1) (And.intro ((unhide HB).2.2.2.1.later hb1) ((unhide HB).2.2.2.2.later hb1)))))
      clear hb1
      try clear hU
      go_wp2
      go_loopw [10] (fun u wr => ∃ k : Nat, u = .int .i64 k ∧ k ≤ n ∧ Hid (∀ j (h : j < vs.length), j < k → (!upB vs[j].at_ f && upB vs[j].at_ t) = false) ∧ Hid (Below w1.heap.size w1 wr)) (fun u _ => n - (intOf u).toNat)
      case atStart => exact ⟨0, rfl, by omega, (fun j _ h => absurd h (Nat.not_lt_zero _)), Below.refl _ _⟩
      case round =>
        obtain ⟨k, rfl, hk, Ha, Hb⟩ := hrel
        obtain ⟨hB, C, F, T, M⟩ := unhide HB
        replace C := C.later (unhide Hb)
        replace F := F.later (unhide Hb)
        replace T := T.later (unhide Hb)
        replace M := M.later (unhide Hb)
        replace hB := hB.trans ((unhide Hb).mono hB.size)
        by_cases hlt : k < n
        · have h1 : k < vs.length := by have := unhide Hn; omega
          obtain ⟨b, q, rfl, x⟩ := (unhide Hv).each k h1
          obtain ⟨v, hv0⟩ : ∃ v, vs[k] = v := ⟨_, rfl⟩
          rw [hv0] at x
          have Hs := hide hv0
          replace x := x.block (hB.block _ x.lt)
          have y0 := fun z : Later wr => z.cell x.c0
          have y1 := fun z : Later wr => z.cell x.c1
          have hF := fun w => upto_any v.at_ f w
          have hT := fun w => upto_any v.at_ t w
          have C_0 := C.c 0; simp only [List.getElem?_cons_zero] at C_0
          have F_0 := fun x : Later wr => (F.later x.below).c 0; have F_1 := fun x : Later wr => (F.later x.below).c 1; simp only [List.getElem?_cons_zero, List.getElem?_cons_succ] at F_0 F_1
          have T_0 := fun x : Later wr => (T.later x.below).c 0; have T_1 := fun x : Later wr => (T.later x.below).c 1; simp only [List.getElem?_cons_zero, List.getElem?_cons_succ] at T_0 T_1
          have C_1 := fun z : Later wr => (C.later z.below).c 0
          simp only [List.getElem?_cons_zero] at C_1
          have ii : Nonempty (Later wr) := ⟨⟨wr, Below.refl _ _⟩⟩
          clear hv0 x C
          generalize hz1 : upB v.at_ f = z1 at *
          generalize hz2 : upB v.at_ t = z2 at *
          have Hz := hide (And.intro hz1 hz2)
          clear hz1 hz2
          cases z1 <;> cases z2
          case false.true =>
            go_wp2_with fail
            refine wp_region_later (by kernel_rfl) (by kernel_rfl) ?_
            repeat (first
              | go_big_quiet_step ((go_at_call 41; first | with_reducible exact calls_later (hF _) | with_reducible exact calls_later (hT _)))
              | quiet_step (fail))
            refine wpQuiet_nil ?_
            intro w' hw'
            obtain ⟨⟨W3, hb3⟩, rfl⟩ := hw'
            have M2 := M.later hb3
            have HB3 := hide (hB.trans (hb3.mono hB.size))
            clear hb3 M hB ii hF hT F T y0 y1 C_0 C_1
            have M2_0 := M2.c 0; have M2_1 := M2.c 1; have M2_2 := M2.c 2; have M2_3 := M2.c 3; have M2_4 := M2.c 4; simp only [List.getElem?_cons_zero, List.getElem?_cons_succ] at M2_0 M2_1 M2_2 M2_3 M2_4
            have Mf := M2.f
            have hR : R = (Met.zero, 221) := by
              rw [← unhide HR, if_pos]
              exact List.any_eq_true.2 ⟨vs[k], List.getElem_mem _, by rw [unhide Hs, (unhide Hz).1, (unhide Hz).2]; rfl⟩
            subst hR
            go_wp2
            exact bodyPost_ret (results_me Try.results20 Met.zero rfl rfl (M2.all [.int .i64 Met.zero.id, .int .i64 Met.zero.ep, .string Met.zero.anchor, .int .i64 Met.zero.start.1, .int .i64 Met.zero.start.2] rfl)) rfl ⟨rfl, below_setAll (by omega) [.int .i64 Met.zero.id, .int .i64 Met.zero.ep, .string Met.zero.anchor, .int .i64 Met.zero.start.1, .int .i64 Met.zero.start.2] 0 (unhide HB3)⟩
          all_goals
            go_wp2_with fail
            refine wp_region_later (by kernel_rfl) (by kernel_rfl) ?_
            repeat (first
              | go_big_quiet_step ((go_at_call 41; first | with_reducible exact calls_later (hF _) | with_reducible exact calls_later (hT _)))
              | quiet_step (fail))
            refine wpQuiet_nil ?_
            intro w' hw'
            obtain ⟨⟨W3, hb3⟩, rfl⟩ := hw'
            clear ii hF hT F T y0 y1 C_0 C_1
            go_wp2
            go_roundw
            case rel =>
              refine ⟨k + 1, by go_num, by omega, (fun j a hj => ?_), (unhide Hb).trans (hb3.mono (unhide Hb).size)⟩
              by_cases e : j = k
              · subst e
                rw [unhide Hs, (unhide Hz).1, (unhide Hz).2]; rfl
              · exact unhide Ha j a (by omega)
            case measure => simp [intOf]; omega
        · have hR : R = (Met.zero, 0) := by
            rw [← unhide HR, if_neg]
            intro h0
            obtain ⟨v, hv, h1⟩ := List.any_eq_true.1 h0
            obtain ⟨j, hj, rfl⟩ := List.getElem_of_mem hv
            rw [unhide Ha j hj (by have := unhide Hn; omega)] at h1
            cases h1
          subst hR
          have HB3 := hide hB
          have C_0 := C.c 0; simp only [List.getElem?_cons_zero] at C_0
          have M_0 := M.c 0; have M_1 := M.c 1; have M_2 := M.c 2; have M_3 := M.c 3; have M_4 := M.c 4; simp only [List.getElem?_cons_zero, List.getElem?_cons_succ] at M_0 M_1 M_2 M_3 M_4
          have Mf := M.f
          clear hB C F T
          go_wp2
          exact bodyPost_ret (results_me Try.results20 Met.zero rfl rfl (M.all [.int .i64 Met.zero.id, .int .i64 Met.zero.ep, .string Met.zero.anchor, .int .i64 Met.zero.start.1, .int .i64 Met.zero.start.2] rfl)) rfl ⟨rfl, below_setAll (by omega) [.int .i64 Met.zero.id, .int .i64 Met.zero.ep, .string Met.zero.anchor, .int .i64 Met.zero.start.1, .int .i64 Met.zero.start.2] 0 (unhide HB3)⟩
end

end Go.Proofs.Ytcahmnpoajnmpaa
