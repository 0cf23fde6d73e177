/-
  Contracts of version.Refresh, version.Query. No law is proved here.
-/
import Derived.Test.YtcahmnpoajnmpaaVs7
namespace Go.Proofs.Ytcahmnpoajnmpaa
open Go.RowKit
set_option linter.unusedVariables false

/-- What Refresh answers. -/
def refR (vs : List Ver) (o : Bool) (i : Itn) (id : Int) (f t : Stp) : Met × Int :=
  if (wayC o i id t).2 = 0 then (if srch vs f < srch vs t then (Met.zero, 221) else (Met.zero, 0)) else wayC o i id t

theorem cnt_any {vs : List Ver} (hr : riseB vs = true) (f t : Stp) : (vs.any fun v => !upB v.at_ f && upB v.at_ t) = true ↔ cntV vs f < cntV vs t := by
  rw [List.any_eq_true]
  constructor
  · rintro ⟨v, hv, h⟩
    obtain ⟨i, hi, rfl⟩ := List.getElem_of_mem hv
    simp only [Bool.and_eq_true, Bool.not_eq_true'] at h
    have h1 := rise_cnt vs f hr i hi
    have h2 := rise_cnt vs t hr i hi
    have h3 : ¬ i < cntV vs f := fun e => by have := h1.1 e; rw [h.1] at this; cases this
    have := h2.2 h.2
    omega
  · intro h
    have hl := cntV_le vs t
    refine ⟨vs[cntV vs f]'(by omega), List.getElem_mem _, ?_⟩
    have h1 := rise_cnt vs f hr (cntV vs f) (by omega)
    have h2 := rise_cnt vs t hr (cntV vs f) (by omega)
    have h3 : upB (vs[cntV vs f]'(by omega)).at_ f = false := by
      cases hh : upB (vs[cntV vs f]'(by omega)).at_ f
      · rfl
      · have := h1.2 hh; omega
    rw [h3, h2.1 h]
    rfl

theorem refR_right {vs : List Ver} (hr : riseB vs = true) (o : Bool) (i : Itn) (id : Int) (f t : Stp) : refR vs o i id f t = refreshC ⟨vs, o, i⟩ id f t := by
  unfold refR refreshC wayC
  rw [srch_cnt f hr, srch_cnt t hr]
  simp only
  by_cases h : o = true ∧ i.txn.id ≠ id ∧ upB i.at_ t = true
  · rw [if_pos h, if_neg (by simp)]
    rw [if_pos h]
  · rw [if_neg h, if_pos rfl, if_neg h]
    by_cases h2 : cntV vs f < cntV vs t
    · rw [if_pos h2, if_pos ((cnt_any hr f t).2 h2)]
    · rw [if_neg h2, if_neg (fun e => h2 ((cnt_any hr f t).1 e))]

section
set_option maxRecDepth 100000
set_option maxHeartbeats 1000000

theorem refresh_any (ao : Option Addr) (c : Nat) (vs : List Ver) (o : Bool) (i : Itn) (id : Int) (f t : Stp) (w : World) (hv : Vs w ao c vs) (hlim : vs.length ≤ 2932031007400) :
    Calls Try.prog 19 #[(.agg #[.slice ao vs.length c, .bool o, .int .i64 i.txn.id, .int .i64 i.txn.ep, .string i.txn.anchor, .int .i64 i.txn.start.1, .int .i64 i.txn.start.2, .int .i64 i.seq, .int .i64 i.at_.1, .int .i64 i.at_.2, .string i.val, .bool i.gone]), .int .i64 id, (.agg #[.int .i64 f.1, .int .i64 f.2]), (.agg #[.int .i64 t.1, .int .i64 t.2])] w fun e w' => e = .returned (.tuple #[(.agg #[.int .i64 (refR vs o i id f t).1.id, .int .i64 (refR vs o i id f t).1.ep, .string (refR vs o i id f t).1.anchor, .int .i64 (refR vs o i id f t).1.start.1, .int .i64 (refR vs o i id f t).1.start.2]), .int .i64 (refR vs o i id f t).2]) ∧ Below w.heap.size w w' := by
  have hW := fun w => way_any ao vs.length c o i id t w
  have hNT := fun w' (hb : Below w.heap.size w w') => notabove_any ao c vs o i t w' (hv.later hb) hlim
  have hNF := fun w' (hb : Below w.heap.size w w') => notabove_any ao c vs o i f w' (hv.later hb) hlim
  obtain ⟨R, e⟩ : ∃ R, refR vs o i id f t = R := ⟨_, rfl⟩
  rw [e]
  unfold refR at e
  have hcase : wayC o i id t = (Met.zero, 0) ∨ wayC o i id t = (i.txn, 81) := by
    unfold wayC
    split
    · exact .inr rfl
    · exact .inl rfl
  generalize wayC o i id t = P at *
  generalize srch vs f = kf at *
  generalize srch vs t = kt at *
  generalize vs.length = n at *
  have C := (((Blk.new w #[.slice ao n c, .bool o, .int .i64 i.txn.id, .int .i64 i.txn.ep, .string i.txn.anchor, .int .i64 i.txn.start.1, .int .i64 i.txn.start.2, .int .i64 i.seq, .int .i64 i.at_.1, .int .i64 i.at_.2, .string i.val, .bool i.gone] 30).alloc (.cells #[.int .i64 f.1, .int .i64 f.2] 24)).alloc (.cells #[.int .i64 t.1, .int .i64 t.2] 24)).alloc (.cells #[.int .i64 0, .int .i64 0, .string ⟨#[]⟩, .int .i64 0, .int .i64 0] 26)
  have F := ((Blk.new (w.alloc (.cells #[.slice ao n c, .bool o, .int .i64 i.txn.id, .int .i64 i.txn.ep, .string i.txn.anchor, .int .i64 i.txn.start.1, .int .i64 i.txn.start.2, .int .i64 i.seq, .int .i64 i.at_.1, .int .i64 i.at_.2, .string i.val, .bool i.gone] 30)) #[.int .i64 f.1, .int .i64 f.2] 24).alloc (.cells #[.int .i64 t.1, .int .i64 t.2] 24)).alloc (.cells #[.int .i64 0, .int .i64 0, .string ⟨#[]⟩, .int .i64 0, .int .i64 0] 26)
  rw [show (w.alloc (.cells #[.slice ao n c, .bool o, .int .i64 i.txn.id, .int .i64 i.txn.ep, .string i.txn.anchor, .int .i64 i.txn.start.1, .int .i64 i.txn.start.2, .int .i64 i.seq, .int .i64 i.at_.1, .int .i64 i.at_.2, .string i.val, .bool i.gone] 30)).heap.size = w.heap.size + 1 by simp] at F
  have T := (Blk.new ((w.alloc (.cells #[.slice ao n c, .bool o, .int .i64 i.txn.id, .int .i64 i.txn.ep, .string i.txn.anchor, .int .i64 i.txn.start.1, .int .i64 i.txn.start.2, .int .i64 i.seq, .int .i64 i.at_.1, .int .i64 i.at_.2, .string i.val, .bool i.gone] 30)).alloc (.cells #[.int .i64 f.1, .int .i64 f.2] 24)) #[.int .i64 t.1, .int .i64 t.2] 24).alloc (.cells #[.int .i64 0, .int .i64 0, .string ⟨#[]⟩, .int .i64 0, .int .i64 0] 26)
  rw [show ((w.alloc (.cells #[.slice ao n c, .bool o, .int .i64 i.txn.id, .int .i64 i.txn.ep, .string i.txn.anchor, .int .i64 i.txn.start.1, .int .i64 i.txn.start.2, .int .i64 i.seq, .int .i64 i.at_.1, .int .i64 i.at_.2, .string i.val, .bool i.gone] 30)).alloc (.cells #[.int .i64 f.1, .int .i64 f.2] 24)).heap.size = w.heap.size + 1 + 1 by simp] at T
  have M := Blk.new (((w.alloc (.cells #[.slice ao n c, .bool o, .int .i64 i.txn.id, .int .i64 i.txn.ep, .string i.txn.anchor, .int .i64 i.txn.start.1, .int .i64 i.txn.start.2, .int .i64 i.seq, .int .i64 i.at_.1, .int .i64 i.at_.2, .string i.val, .bool i.gone] 30)).alloc (.cells #[.int .i64 f.1, .int .i64 f.2] 24)).alloc (.cells #[.int .i64 t.1, .int .i64 t.2] 24)) #[.int .i64 0, .int .i64 0, .string ⟨#[]⟩, .int .i64 0, .int .i64 0] 26
  rw [show (((w.alloc (.cells #[.slice ao n c, .bool o, .int .i64 i.txn.id, .int .i64 i.txn.ep, .string i.txn.anchor, .int .i64 i.txn.start.1, .int .i64 i.txn.start.2, .int .i64 i.seq, .int .i64 i.at_.1, .int .i64 i.at_.2, .string i.val, .bool i.gone] 30)).alloc (.cells #[.int .i64 f.1, .int .i64 f.2] 24)).alloc (.cells #[.int .i64 t.1, .int .i64 t.2] 24)).heap.size = w.heap.size + 1 + 1 + 1 by simp] at M
  have hB : Below w.heap.size w ((((w.alloc (.cells #[.slice ao n c, .bool o, .int .i64 i.txn.id, .int .i64 i.txn.ep, .string i.txn.anchor, .int .i64 i.txn.start.1, .int .i64 i.txn.start.2, .int .i64 i.seq, .int .i64 i.at_.1, .int .i64 i.at_.2, .string i.val, .bool i.gone] 30)).alloc (.cells #[.int .i64 f.1, .int .i64 f.2] 24)).alloc (.cells #[.int .i64 t.1, .int .i64 t.2] 24)).alloc (.cells #[.int .i64 0, .int .i64 0, .string ⟨#[]⟩, .int .i64 0, .int .i64 0] 26)) := ((((Below.refl w.heap.size w).alloc (Nat.le_refl _) _).alloc (by simp) _).alloc (by simp; omega) _).alloc (by simp; omega) _
  clear hv
  rcases hcase with rfl | rfl
  · rw [if_pos rfl] at e
    have HR := hide e
    clear e
    go_enter Try.func19, Try.ntmps19
    go_wp2_with fail
    generalize (((w.alloc _).alloc _).alloc _).alloc _ = W at *
    refine (hW _).mono ?_
    rintro e w1 ⟨rfl, hb1⟩
    replace C := C.later hb1
    replace F := F.later hb1
    replace T := T.later hb1
    replace M := M.later hb1
    have hB1 := hB.trans (hb1.mono hB.size)
    clear hb1 hB hW
    have D := Blk.new w1 #[.int .i64 Met.zero.id, .int .i64 Met.zero.ep, .string Met.zero.anchor, .int .i64 Met.zero.start.1, .int .i64 Met.zero.start.2] 26
    replace C := C.alloc (.cells #[.int .i64 Met.zero.id, .int .i64 Met.zero.ep, .string Met.zero.anchor, .int .i64 Met.zero.start.1, .int .i64 Met.zero.start.2] 26)
    replace F := F.alloc (.cells #[.int .i64 Met.zero.id, .int .i64 Met.zero.ep, .string Met.zero.anchor, .int .i64 Met.zero.start.1, .int .i64 Met.zero.start.2] 26)
    replace T := T.alloc (.cells #[.int .i64 Met.zero.id, .int .i64 Met.zero.ep, .string Met.zero.anchor, .int .i64 Met.zero.start.1, .int .i64 Met.zero.start.2] 26)
    replace M := M.alloc (.cells #[.int .i64 Met.zero.id, .int .i64 Met.zero.ep, .string Met.zero.anchor, .int .i64 Met.zero.start.1, .int .i64 Met.zero.start.2] 26)
    have hB2 := hB1.alloc hB1.size (.cells #[.int .i64 Met.zero.id, .int .i64 Met.zero.ep, .string Met.zero.anchor, .int .i64 Met.zero.start.1, .int .i64 Met.zero.start.2] 26)
    clear hB1
    go_wp2_with fail
    generalize w1.alloc _ = W2 at *
    have C_0 := fun x : Later W2 => (C.later x.below).c 0; have C_1 := fun x : Later W2 => (C.later x.below).c 1; have C_2 := fun x : Later W2 => (C.later x.below).c 2; have C_3 := fun x : Later W2 => (C.later x.below).c 3; have C_4 := fun x : Later W2 => (C.later x.below).c 4; have C_5 := fun x : Later W2 => (C.later x.below).c 5; have C_6 := fun x : Later W2 => (C.later x.below).c 6; have C_7 := fun x : Later W2 => (C.later x.below).c 7; have C_8 := fun x : Later W2 => (C.later x.below).c 8; have C_9 := fun x : Later W2 => (C.later x.below).c 9; have C_10 := fun x : Later W2 => (C.later x.below).c 10; have C_11 := fun x : Later W2 => (C.later x.below).c 11; simp only [List.getElem?_cons_zero, List.getElem?_cons_succ] at C_0 C_1 C_2 C_3 C_4 C_5 C_6 C_7 C_8 C_9 C_10 C_11
    have F_0 := fun x : Later W2 => (F.later x.below).c 0; have F_1 := fun x : Later W2 => (F.later x.below).c 1; simp only [List.getElem?_cons_zero, List.getElem?_cons_succ] at F_0 F_1
    have T_0 := fun x : Later W2 => (T.later x.below).c 0; have T_1 := fun x : Later W2 => (T.later x.below).c 1; simp only [List.getElem?_cons_zero, List.getElem?_cons_succ] at T_0 T_1
    have hT := fun x : Later W2 => hNT x.val (hB2.trans (x.below.mono hB2.size))
    have hF := fun x : Later W2 => hNF x.val (hB2.trans (x.below.mono hB2.size))
    have ii : Nonempty (Later W2) := ⟨⟨W2, Below.refl _ _⟩⟩
    clear hNT hNF
    refine wp_region_later (by kernel_rfl) (by kernel_rfl) ?_
    repeat (first
      | go_big_quiet_step ((go_at_call 40; first | with_reducible exact calls_later (hT _) | with_reducible exact calls_later (hF _)))
      | quiet_step (fail))
    refine wpQuiet_nil ?_
    intro w' hw'
    obtain ⟨⟨W3, hb3⟩, rfl⟩ := hw'
    replace M := M.later hb3
    have HB := hide (hB2.trans (hb3.mono hB2.size))
    clear hb3 hB2 C F T D ii hT hF
    clear C_0 C_1 C_2 C_3 C_4 C_5 C_6 C_7 C_8 C_9 C_10 C_11 F_0 F_1 T_0 T_1
    have M_0 := M.c 0; have M_1 := M.c 1; have M_2 := M.c 2; have M_3 := M.c 3; have M_4 := M.c 4; simp only [List.getElem?_cons_zero, List.getElem?_cons_succ] at M_0 M_1 M_2 M_3 M_4
    have Mf := M.f
    by_cases hl : (kf : Int) < (kt : Int)
    · obtain rfl : R = (Met.zero, 221) := by rw [← unhide HR, if_pos (by omega)]
      go_wp2
      exact bodyPost_ret (results_me Try.results19 Met.zero rfl rfl (M.all [.int .i64 Met.zero.id, .int .i64 Met.zero.ep, .string Met.zero.anchor, .int .i64 Met.zero.start.1, .int .i64 Met.zero.start.2] rfl)) rfl ⟨rfl, below_setAll (by omega) [.int .i64 Met.zero.id, .int .i64 Met.zero.ep, .string Met.zero.anchor, .int .i64 Met.zero.start.1, .int .i64 Met.zero.start.2] 0 (unhide HB)⟩
    · obtain rfl : R = (Met.zero, 0) := by rw [← unhide HR, if_neg (by omega)]
      go_wp2
      exact bodyPost_ret (results_me Try.results19 Met.zero rfl rfl (M.all [.int .i64 Met.zero.id, .int .i64 Met.zero.ep, .string Met.zero.anchor, .int .i64 Met.zero.start.1, .int .i64 Met.zero.start.2] rfl)) rfl ⟨rfl, below_setAll (by omega) [.int .i64 Met.zero.id, .int .i64 Met.zero.ep, .string Met.zero.anchor, .int .i64 Met.zero.start.1, .int .i64 Met.zero.start.2] 0 (unhide HB)⟩
  · obtain rfl : R = (i.txn, 81) := by rw [← e, if_neg (by simp)]
    clear e hNT hNF
    go_enter Try.func19, Try.ntmps19
    go_wp2_with fail
    generalize (((w.alloc _).alloc _).alloc _).alloc _ = W at *
    refine (hW _).mono ?_
    rintro e w1 ⟨rfl, hb1⟩
    replace M := M.later hb1
    have hB1 := hB.trans (hb1.mono hB.size)
    clear hb1 hB hW C F T
    have M_0 := fun o => (M.alloc o).c 0; have M_1 := fun o => (M.alloc o).c 1; have M_2 := fun o => (M.alloc o).c 2; have M_3 := fun o => (M.alloc o).c 3; have M_4 := fun o => (M.alloc o).c 4; simp only [List.getElem?_cons_zero, List.getElem?_cons_succ] at M_0 M_1 M_2 M_3 M_4; have Mf := fun o => (M.alloc o).f
    have HB := hide hB1
    clear hB1
    go_wp2
    exact bodyPost_ret (results_me Try.results19 i.txn rfl rfl ((M.alloc _).all [.int .i64 i.txn.id, .int .i64 i.txn.ep, .string i.txn.anchor, .int .i64 i.txn.start.1, .int .i64 i.txn.start.2] rfl)) rfl ⟨rfl, below_setAll (by omega) [.int .i64 i.txn.id, .int .i64 i.txn.ep, .string i.txn.anchor, .int .i64 i.txn.start.1, .int .i64 i.txn.start.2] 0 ((unhide HB).alloc (unhide HB).size _)⟩

/-- Is this intent there? -/
theorem query_any (ao : Option Addr) (n c : Nat) (o : Bool) (i : Itn) (id ep sq : Int) (a : Stp) (w : World) :
    Calls Try.prog 21 #[(.agg #[.slice ao n c, .bool o, .int .i64 i.txn.id, .int .i64 i.txn.ep, .string i.txn.anchor, .int .i64 i.txn.start.1, .int .i64 i.txn.start.2, .int .i64 i.seq, .int .i64 i.at_.1, .int .i64 i.at_.2, .string i.val, .bool i.gone]), .int .i64 id, .int .i64 ep, .int .i64 sq, (.agg #[.int .i64 a.1, .int .i64 a.2])] w fun e w' => e = .returned (.bool (queryC ⟨[], o, i⟩ id ep sq a)) ∧ Below w.heap.size w w' := by
  have hO := fun w => isown_any ao n c o i id w
  have hL := fun w => less_any a.1 a.2 i.at_.1 i.at_.2 w
  rw [less_eq] at hL
  have e : queryC ⟨[], o, i⟩ id ep sq a = ((o && decide (i.txn.id = id)) && decide (i.txn.ep = ep) && decide (sq ≤ i.seq) && !ltB a i.at_) := rfl
  generalize queryC ⟨[], o, i⟩ id ep sq a = R at *
  generalize (o && decide (i.txn.id = id)) = P at *
  generalize ltB a i.at_ = z at *
  have HR := hide e
  have C := ((Blk.new w #[.slice ao n c, .bool o, .int .i64 i.txn.id, .int .i64 i.txn.ep, .string i.txn.anchor, .int .i64 i.txn.start.1, .int .i64 i.txn.start.2, .int .i64 i.seq, .int .i64 i.at_.1, .int .i64 i.at_.2, .string i.val, .bool i.gone] 30).alloc (.cells #[.int .i64 a.1, .int .i64 a.2] 24)).alloc (.cells #[.int .i64 i.txn.id, .int .i64 i.txn.ep, .string i.txn.anchor, .int .i64 i.txn.start.1, .int .i64 i.txn.start.2, .int .i64 i.seq, .int .i64 i.at_.1, .int .i64 i.at_.2, .string i.val, .bool i.gone] 28)
  have A := (Blk.new (w.alloc (.cells #[.slice ao n c, .bool o, .int .i64 i.txn.id, .int .i64 i.txn.ep, .string i.txn.anchor, .int .i64 i.txn.start.1, .int .i64 i.txn.start.2, .int .i64 i.seq, .int .i64 i.at_.1, .int .i64 i.at_.2, .string i.val, .bool i.gone] 30)) #[.int .i64 a.1, .int .i64 a.2] 24).alloc (.cells #[.int .i64 i.txn.id, .int .i64 i.txn.ep, .string i.txn.anchor, .int .i64 i.txn.start.1, .int .i64 i.txn.start.2, .int .i64 i.seq, .int .i64 i.at_.1, .int .i64 i.at_.2, .string i.val, .bool i.gone] 28)
  rw [show (w.alloc (.cells #[.slice ao n c, .bool o, .int .i64 i.txn.id, .int .i64 i.txn.ep, .string i.txn.anchor, .int .i64 i.txn.start.1, .int .i64 i.txn.start.2, .int .i64 i.seq, .int .i64 i.at_.1, .int .i64 i.at_.2, .string i.val, .bool i.gone] 30)).heap.size = w.heap.size + 1 by simp] at A
  have I := Blk.new ((w.alloc (.cells #[.slice ao n c, .bool o, .int .i64 i.txn.id, .int .i64 i.txn.ep, .string i.txn.anchor, .int .i64 i.txn.start.1, .int .i64 i.txn.start.2, .int .i64 i.seq, .int .i64 i.at_.1, .int .i64 i.at_.2, .string i.val, .bool i.gone] 30)).alloc (.cells #[.int .i64 a.1, .int .i64 a.2] 24)) #[.int .i64 i.txn.id, .int .i64 i.txn.ep, .string i.txn.anchor, .int .i64 i.txn.start.1, .int .i64 i.txn.start.2, .int .i64 i.seq, .int .i64 i.at_.1, .int .i64 i.at_.2, .string i.val, .bool i.gone] 28
  rw [show ((w.alloc (.cells #[.slice ao n c, .bool o, .int .i64 i.txn.id, .int .i64 i.txn.ep, .string i.txn.anchor, .int .i64 i.txn.start.1, .int .i64 i.txn.start.2, .int .i64 i.seq, .int .i64 i.at_.1, .int .i64 i.at_.2, .string i.val, .bool i.gone] 30)).alloc (.cells #[.int .i64 a.1, .int .i64 a.2] 24)).heap.size = w.heap.size + 1 + 1 by simp] at I
  have hB : Below w.heap.size w (((w.alloc (.cells #[.slice ao n c, .bool o, .int .i64 i.txn.id, .int .i64 i.txn.ep, .string i.txn.anchor, .int .i64 i.txn.start.1, .int .i64 i.txn.start.2, .int .i64 i.seq, .int .i64 i.at_.1, .int .i64 i.at_.2, .string i.val, .bool i.gone] 30)).alloc (.cells #[.int .i64 a.1, .int .i64 a.2] 24)).alloc (.cells #[.int .i64 i.txn.id, .int .i64 i.txn.ep, .string i.txn.anchor, .int .i64 i.txn.start.1, .int .i64 i.txn.start.2, .int .i64 i.seq, .int .i64 i.at_.1, .int .i64 i.at_.2, .string i.val, .bool i.gone] 28)) := (((Below.refl w.heap.size w).alloc (Nat.le_refl _) _).alloc (by simp) _).alloc (by simp; omega) _
  clear e
  go_enter Try.func21, Try.ntmps21
  go_wp2_with fail
  generalize ((w.alloc _).alloc _).alloc _ = W at *
  refine (hO _).mono ?_
  rintro e w1 ⟨rfl, hb1⟩
  replace A := A.later hb1
  replace I := I.later hb1
  have HB := hide (hB.trans (hb1.mono hB.size))
  clear hb1 hB hO C
  have A_0 := A.c 0; have A_1 := A.c 1; simp only [List.getElem?_cons_zero, List.getElem?_cons_succ] at A_0 A_1
  have I_0 := I.c 0; have I_1 := I.c 1; have I_2 := I.c 2; have I_3 := I.c 3; have I_4 := I.c 4; have I_5 := I.c 5; have I_6 := I.c 6; have I_7 := I.c 7; have I_8 := I.c 8; have I_9 := I.c 9; simp only [List.getElem?_cons_zero, List.getElem?_cons_succ] at I_0 I_1 I_2 I_3 I_4 I_5 I_6 I_7 I_8 I_9
  cases P
  · obtain rfl : R = false := by rw [unhide HR]; simp
    go_wp2
    go_ret
    exact ⟨rfl, unhide HB⟩
  · by_cases h1 : i.txn.ep = ep
    · by_cases h2 : sq ≤ i.seq
      · go_wp2_with fail
        refine (hL _).mono ?_
        rintro e w2 ⟨rfl, hb2⟩
        have HB2 := hide ((unhide HB).trans (hb2.mono (unhide HB).size))
        clear hb2
        obtain rfl : R = !z := by rw [unhide HR]; simp [h1, h2]
        go_wp2
        go_ret
        exact ⟨rfl, unhide HB2⟩
      · obtain rfl : R = false := by rw [unhide HR]; simp [h2]
        go_wp2
        go_ret
        exact ⟨rfl, unhide HB⟩
    · obtain rfl : R = false := by rw [unhide HR]; simp [h1]
      have h1' : (i.txn.ep == ep) = false := by simpa using h1
      go_wp2
      go_ret
      exact ⟨rfl, unhide HB⟩
end

end Go.Proofs.Ytcahmnpoajnmpaa
