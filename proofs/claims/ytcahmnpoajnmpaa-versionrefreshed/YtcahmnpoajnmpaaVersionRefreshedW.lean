/-
  VersionRefreshed returns true. No statement is proved here: the lifted text has it.
-/
import Derived.Test.YtcahmnpoajnmpaaVt7
import Derived.Test.YtcahmnpoajnmpaaViewI
namespace Go.Proofs.Ytcahmnpoajnmpaa
open Go.RowKit
set_option linter.unusedVariables false

/-- Of a chain that can be refreshed, what is read at the one is read at the other. -/
theorem refreshed_reads {c : Chn} {f t : Stp} {m : Met} (hlt : ltB f t = true) (h : refreshC c (-1) f t = (m, 0)) :
    ∃ v b x, readC c f f (-1) 0 = (v, b, x, 0) ∧ readC c t t (-1) 0 = (v, b, x, 0) ∧ readC c f t (-1) 0 = (v, b, x, 0) := by
  obtain ⟨h1, h2, h3⟩ := refreshC_seen hlt h
  by_cases ho : c.opn = true ∧ c.itn.txn.id = -1 ∧ c.itn.txn.ep = 0
  · have e : ∀ a l, readC c a l (-1) 0 = (if c.itn.gone = true then (Ver.zero, false, Met.zero, 0) else (⟨c.itn.at_, c.itn.val, false, -1⟩, true, Met.zero, 0)) := fun a l => by
      unfold readC
      rw [if_pos ho]
    rw [e, e, e]
    split
    · exact ⟨_, _, _, rfl, rfl, rfl⟩
    · exact ⟨_, _, _, rfl, rfl, rfl⟩
  · have hw : ∀ l, upB l t = true → ¬ (c.opn = true ∧ c.itn.txn.id ≠ -1 ∧ upB c.itn.at_ l = true) := fun l hl k => by
      rcases h1 k.1 with e | e
      · exact k.2.1 e
      · rw [upB_trans k.2.2 hl] at e; cases e
    have e : ∀ a l, upB l t = true → doubtV c.vs a l = none → readC c a l (-1) 0 = seenV c.vs a := fun a l hl hd => by
      unfold readC
      rw [if_neg ho, if_neg (hw l hl), hd]
      rfl
    have hs : seenV c.vs f = seenV c.vs t := by unfold seenV; rw [h3]
    rw [e f f (upB_of_lt hlt) (doubtV_self _ _), e t t (upB_self _) (doubtV_self _ _), e f t (upB_self _) h2, ← hs]
    unfold seenV
    split
    · split
      · exact ⟨_, _, _, rfl, rfl, rfl⟩
      · exact ⟨_, _, _, rfl, rfl, rfl⟩
    · exact ⟨_, _, _, rfl, rfl, rfl⟩

section
set_option maxRecDepth 100000
set_option maxHeartbeats 20000000

theorem walkVersionRefreshed {w : World} (a : Value) (x : Chn) (ha : ChV w a x) (b : Value) (f : Stp) (hb : StV b f) (c' : Value) (t : Stp) (hc : StV c' t) :
    Calls Try.prog 9 #[a, b, c'] w fun e w' => e = .returned (.bool true) ∧ Below w.heap.size w w' := by
  obtain ⟨⟨ao, c, rfl, hv⟩, hl⟩ := ha
  obtain ⟨rfl⟩ := hb
  obtain ⟨rfl⟩ := hc
  obtain ⟨vs, o, i⟩ := x
  simp only at hv hl ⊢
  have hA := fun w => alive_any w
  have hF := fun w' (hb : Below w.heap.size w w') => fitsl_any ao c vs o i w' (hv.later hb)
  have hR := fun w' (hb : Below w.heap.size w w') => refresh_any ao c vs o i (-1) f t w' (hv.later hb) hl
  have hL := fun w => less_any f.1 f.2 t.1 t.2 w
  rw [less_eq] at hL
  have h1 := fun w' (hb : Below w.heap.size w w') => read_any ao c vs o i f f (-1) 0 w' (hv.later hb) hl
  have h2 := fun w' (hb : Below w.heap.size w w') => read_any ao c vs o i t t (-1) 0 w' (hv.later hb) hl
  have h3 := fun w' (hb : Below w.heap.size w w') => read_any ao c vs o i f t (-1) 0 w' (hv.later hb) hl
  have key : (decide (vs.length ≤ 60) && rightCB ⟨vs, o, i⟩) = true → (refR vs o i (-1) f t).2 = 0 → ltB f t = true → ∃ v b x, readR vs o i f f (-1) 0 = (v, b, x, 0) ∧ readR vs o i t t (-1) 0 = (v, b, x, 0) ∧ readR vs o i f t (-1) 0 = (v, b, x, 0) := fun k1 k2 k3 => by
    rw [Bool.and_eq_true] at k1
    have hr : riseB vs = true := ((rightCB_iff _).1 k1.2).1
    rw [refR_right hr] at k2
    rw [readR_right hr, readR_right hr, readR_right hr]
    exact refreshed_reads k3 (m := (refreshC ⟨vs, o, i⟩ (-1) f t).1) (Prod.ext rfl k2)
  have Hkey := hide key
  generalize (decide (vs.length ≤ 60) && rightCB ⟨vs, o, i⟩) = z at *
  generalize refR vs o i (-1) f t = R at *
  generalize ltB f t = zl at *
  generalize readR vs o i f f (-1) 0 = r1 at *
  generalize readR vs o i t t (-1) 0 = r2 at *
  generalize readR vs o i f t (-1) 0 = r3 at *
  generalize vs.length = n at *
  have C := ((Blk.new w #[.slice ao n c, .bool o, .int .i64 i.txn.id, .int .i64 i.txn.ep, .string i.txn.anchor, .int .i64 i.txn.start.1, .int .i64 i.txn.start.2, .int .i64 i.seq, .int .i64 i.at_.1, .int .i64 i.at_.2, .string i.val, .bool i.gone] 30).alloc (.cells #[.int .i64 f.1, .int .i64 f.2] 24)).alloc (.cells #[.int .i64 t.1, .int .i64 t.2] 24)
  have F := (Blk.new (w.alloc (.cells #[.slice ao n c, .bool o, .int .i64 i.txn.id, .int .i64 i.txn.ep, .string i.txn.anchor, .int .i64 i.txn.start.1, .int .i64 i.txn.start.2, .int .i64 i.seq, .int .i64 i.at_.1, .int .i64 i.at_.2, .string i.val, .bool i.gone] 30)) #[.int .i64 f.1, .int .i64 f.2] 24).alloc (.cells #[.int .i64 t.1, .int .i64 t.2] 24)
  rw [show (w.alloc (.cells #[.slice ao n c, .bool o, .int .i64 i.txn.id, .int .i64 i.txn.ep, .string i.txn.anchor, .int .i64 i.txn.start.1, .int .i64 i.txn.start.2, .int .i64 i.seq, .int .i64 i.at_.1, .int .i64 i.at_.2, .string i.val, .bool i.gone] 30)).heap.size = w.heap.size + 1 by simp] at F
  have T := Blk.new ((w.alloc (.cells #[.slice ao n c, .bool o, .int .i64 i.txn.id, .int .i64 i.txn.ep, .string i.txn.anchor, .int .i64 i.txn.start.1, .int .i64 i.txn.start.2, .int .i64 i.seq, .int .i64 i.at_.1, .int .i64 i.at_.2, .string i.val, .bool i.gone] 30)).alloc (.cells #[.int .i64 f.1, .int .i64 f.2] 24)) #[.int .i64 t.1, .int .i64 t.2] 24
  rw [show ((w.alloc (.cells #[.slice ao n c, .bool o, .int .i64 i.txn.id, .int .i64 i.txn.ep, .string i.txn.anchor, .int .i64 i.txn.start.1, .int .i64 i.txn.start.2, .int .i64 i.seq, .int .i64 i.at_.1, .int .i64 i.at_.2, .string i.val, .bool i.gone] 30)).alloc (.cells #[.int .i64 f.1, .int .i64 f.2] 24)).heap.size = w.heap.size + 1 + 1 by simp] at T
  have hB : Below w.heap.size w (((w.alloc (.cells #[.slice ao n c, .bool o, .int .i64 i.txn.id, .int .i64 i.txn.ep, .string i.txn.anchor, .int .i64 i.txn.start.1, .int .i64 i.txn.start.2, .int .i64 i.seq, .int .i64 i.at_.1, .int .i64 i.at_.2, .string i.val, .bool i.gone] 30)).alloc (.cells #[.int .i64 f.1, .int .i64 f.2] 24)).alloc (.cells #[.int .i64 t.1, .int .i64 t.2] 24)) := (((Below.refl w.heap.size w).alloc (Nat.le_refl _) _).alloc (by simp) _).alloc (by simp; omega) _
  clear hv key
  go_enter Try.func9, Try.ntmps9
  go_wp2_with fail
  generalize ((w.alloc _).alloc _).alloc _ = W at *
  refine (hF _ hB).mono ?_
  rintro e w1 ⟨rfl, hb1⟩
  replace C := C.later hb1
  replace F := F.later hb1
  replace T := T.later hb1
  replace hB := hB.trans (hb1.mono hB.size)
  clear hb1 hF
  have C_0 := C.c 0; have C_1 := C.c 1; have C_2 := C.c 2; have C_3 := C.c 3; have C_4 := C.c 4; have C_5 := C.c 5; have C_6 := C.c 6; have C_7 := C.c 7; have C_8 := C.c 8; have C_9 := C.c 9; have C_10 := C.c 10; have C_11 := C.c 11; simp only [List.getElem?_cons_zero, List.getElem?_cons_succ] at C_0 C_1 C_2 C_3 C_4 C_5 C_6 C_7 C_8 C_9 C_10 C_11
  have F_0 := F.c 0; have F_1 := F.c 1; simp only [List.getElem?_cons_zero, List.getElem?_cons_succ] at F_0 F_1
  have T_0 := T.c 0; have T_1 := T.c 1; simp only [List.getElem?_cons_zero, List.getElem?_cons_succ] at T_0 T_1
  go_wp2_with fail
  refine (hR _ hB).mono ?_
  rintro e w2 ⟨rfl, hb2⟩
  clear C_0 C_1 C_2 C_3 C_4 C_5 C_6 C_7 C_8 C_9 C_10 C_11 F_0 F_1 T_0 T_1
  replace C := (C.later hb2).alloc (.cells #[.int .i64 R.1.id, .int .i64 R.1.ep, .string R.1.anchor, .int .i64 R.1.start.1, .int .i64 R.1.start.2] 26)
  replace F := (F.later hb2).alloc (.cells #[.int .i64 R.1.id, .int .i64 R.1.ep, .string R.1.anchor, .int .i64 R.1.start.1, .int .i64 R.1.start.2] 26)
  replace T := (T.later hb2).alloc (.cells #[.int .i64 R.1.id, .int .i64 R.1.ep, .string R.1.anchor, .int .i64 R.1.start.1, .int .i64 R.1.start.2] 26)
  replace hB := (hB.trans (hb2.mono hB.size)).alloc (hB.trans (hb2.mono hB.size)).size (.cells #[.int .i64 R.1.id, .int .i64 R.1.ep, .string R.1.anchor, .int .i64 R.1.start.1, .int .i64 R.1.start.2] 26)
  clear hb2 hR
  cases z
  case false =>
    clear Hkey h1 h2 h3 hL
    go_wp2_with fail
    generalize w2.alloc _ = W2 at *
    refine (hA _).mono ?_
    rintro e w3 ⟨rfl, hb3⟩
    have HB := hide (hB.trans (hb3.mono hB.size))
    clear hb3 hB
    go_wp2
    go_ret
    exact ⟨rfl, unhide HB⟩
  obtain ⟨R1, er⟩ := R
  by_cases he : er = 0
  case neg =>
    have he' : (er != 0) = true := by simpa using he
    clear Hkey h1 h2 h3 hL he
    go_wp2_with fail
    generalize w2.alloc _ = W2 at *
    refine (hA _).mono ?_
    rintro e w3 ⟨rfl, hb3⟩
    have HB := hide (hB.trans (hb3.mono hB.size))
    clear hb3 hB
    go_wp2
    go_ret
    exact ⟨rfl, unhide HB⟩
  subst he
  have F_0 := F.c 0; have F_1 := F.c 1; simp only [List.getElem?_cons_zero, List.getElem?_cons_succ] at F_0 F_1
  have T_0 := T.c 0; have T_1 := T.c 1; simp only [List.getElem?_cons_zero, List.getElem?_cons_succ] at T_0 T_1
  go_wp2_with fail
  generalize w2.alloc _ = W2 at *
  refine (hL _).mono ?_
  rintro e w3 ⟨rfl, hb3⟩
  clear F_0 F_1 T_0 T_1
  replace C := C.later hb3
  replace F := F.later hb3
  replace T := T.later hb3
  replace hB := hB.trans (hb3.mono hB.size)
  clear hb3 hL
  cases zl
  case false =>
    clear Hkey h1 h2 h3
    go_wp2_with fail
    refine (hA _).mono ?_
    rintro e w4 ⟨rfl, hb4⟩
    have HB := hide (hB.trans (hb4.mono hB.size))
    clear hb4 hB
    go_wp2
    go_ret
    exact ⟨rfl, unhide HB⟩
  obtain ⟨v, b, x, rfl, rfl, rfl⟩ := (unhide Hkey) (by simp) (by simp) (by simp)
  clear Hkey
  have C_0 := C.c 0; have C_1 := C.c 1; have C_2 := C.c 2; have C_3 := C.c 3; have C_4 := C.c 4; have C_5 := C.c 5; have C_6 := C.c 6; have C_7 := C.c 7; have C_8 := C.c 8; have C_9 := C.c 9; have C_10 := C.c 10; have C_11 := C.c 11; simp only [List.getElem?_cons_zero, List.getElem?_cons_succ] at C_0 C_1 C_2 C_3 C_4 C_5 C_6 C_7 C_8 C_9 C_10 C_11
  have F_0 := F.c 0; have F_1 := F.c 1; simp only [List.getElem?_cons_zero, List.getElem?_cons_succ] at F_0 F_1
  have T_0 := T.c 0; have T_1 := T.c 1; simp only [List.getElem?_cons_zero, List.getElem?_cons_succ] at T_0 T_1
  go_wp2_with fail
  refine (h1 _ hB).mono ?_
  rintro e w4 ⟨rfl, hb4⟩
  clear C_0 C_1 C_2 C_3 C_4 C_5 C_6 C_7 C_8 C_9 C_10 C_11 F_0 F_1 T_0 T_1
  replace C := C.later hb4
  replace F := F.later hb4
  replace T := T.later hb4
  replace hB := hB.trans (hb4.mono hB.size)
  have HBq := hide hB
  clear hb4 h1 hB
  have V := (Blk.new w4 #[.int .i64 v.at_.1, .int .i64 v.at_.2, .string v.val, .bool v.gone, .int .i64 v.by_] 37).alloc (.cells #[.int .i64 x.id, .int .i64 x.ep, .string x.anchor, .int .i64 x.start.1, .int .i64 x.start.2] 26)
  have M := Blk.new (w4.alloc (.cells #[.int .i64 v.at_.1, .int .i64 v.at_.2, .string v.val, .bool v.gone, .int .i64 v.by_] 37)) #[.int .i64 x.id, .int .i64 x.ep, .string x.anchor, .int .i64 x.start.1, .int .i64 x.start.2] 26
  rw [show (w4.alloc (.cells #[.int .i64 v.at_.1, .int .i64 v.at_.2, .string v.val, .bool v.gone, .int .i64 v.by_] 37)).heap.size = w4.heap.size + 1 by simp] at M
  have hB : Below w4.heap.size w4 ((w4.alloc (.cells #[.int .i64 v.at_.1, .int .i64 v.at_.2, .string v.val, .bool v.gone, .int .i64 v.by_] 37)).alloc (.cells #[.int .i64 x.id, .int .i64 x.ep, .string x.anchor, .int .i64 x.start.1, .int .i64 x.start.2] 26)) := ((Below.refl w4.heap.size w4).alloc (Nat.le_refl _) _).alloc (by simp) _
  replace C := C.later hB
  replace F := F.later hB
  replace T := T.later hB
  replace HBq := hide ((unhide HBq).trans (hB.mono (unhide HBq).size))
  clear hB M
  have C_0 := C.c 0; have C_1 := C.c 1; have C_2 := C.c 2; have C_3 := C.c 3; have C_4 := C.c 4; have C_5 := C.c 5; have C_6 := C.c 6; have C_7 := C.c 7; have C_8 := C.c 8; have C_9 := C.c 9; have C_10 := C.c 10; have C_11 := C.c 11; simp only [List.getElem?_cons_zero, List.getElem?_cons_succ] at C_0 C_1 C_2 C_3 C_4 C_5 C_6 C_7 C_8 C_9 C_10 C_11
  have T_0 := T.c 0; have T_1 := T.c 1; simp only [List.getElem?_cons_zero, List.getElem?_cons_succ] at T_0 T_1
  go_wp2_with fail
  generalize (w4.alloc _).alloc _ = W4 at *
  refine (h2 _ (unhide HBq)).mono ?_
  rintro e w5 ⟨rfl, hb5⟩
  clear C_0 C_1 C_2 C_3 C_4 C_5 C_6 C_7 C_8 C_9 C_10 C_11 T_0 T_1
  replace C := C.later hb5
  replace F := F.later hb5
  replace T := T.later hb5
  replace V := V.later hb5
  replace HBq := hide ((unhide HBq).trans (hb5.mono (unhide HBq).size))
  clear hb5 h2
  have V2 := (Blk.new w5 #[.int .i64 v.at_.1, .int .i64 v.at_.2, .string v.val, .bool v.gone, .int .i64 v.by_] 37).alloc (.cells #[.int .i64 x.id, .int .i64 x.ep, .string x.anchor, .int .i64 x.start.1, .int .i64 x.start.2] 26)
  have M := Blk.new (w5.alloc (.cells #[.int .i64 v.at_.1, .int .i64 v.at_.2, .string v.val, .bool v.gone, .int .i64 v.by_] 37)) #[.int .i64 x.id, .int .i64 x.ep, .string x.anchor, .int .i64 x.start.1, .int .i64 x.start.2] 26
  rw [show (w5.alloc (.cells #[.int .i64 v.at_.1, .int .i64 v.at_.2, .string v.val, .bool v.gone, .int .i64 v.by_] 37)).heap.size = w5.heap.size + 1 by simp] at M
  have hB : Below w5.heap.size w5 ((w5.alloc (.cells #[.int .i64 v.at_.1, .int .i64 v.at_.2, .string v.val, .bool v.gone, .int .i64 v.by_] 37)).alloc (.cells #[.int .i64 x.id, .int .i64 x.ep, .string x.anchor, .int .i64 x.start.1, .int .i64 x.start.2] 26)) := ((Below.refl w5.heap.size w5).alloc (Nat.le_refl _) _).alloc (by simp) _
  replace C := C.later hB
  replace F := F.later hB
  replace T := T.later hB
  replace V := V.later hB
  replace HBq := hide ((unhide HBq).trans (hB.mono (unhide HBq).size))
  clear hB M
  have C_0 := C.c 0; have C_1 := C.c 1; have C_2 := C.c 2; have C_3 := C.c 3; have C_4 := C.c 4; have C_5 := C.c 5; have C_6 := C.c 6; have C_7 := C.c 7; have C_8 := C.c 8; have C_9 := C.c 9; have C_10 := C.c 10; have C_11 := C.c 11; simp only [List.getElem?_cons_zero, List.getElem?_cons_succ] at C_0 C_1 C_2 C_3 C_4 C_5 C_6 C_7 C_8 C_9 C_10 C_11
  have F_0 := F.c 0; have F_1 := F.c 1; simp only [List.getElem?_cons_zero, List.getElem?_cons_succ] at F_0 F_1
  have T_0 := T.c 0; have T_1 := T.c 1; simp only [List.getElem?_cons_zero, List.getElem?_cons_succ] at T_0 T_1
  go_wp2_with fail
  generalize (w5.alloc _).alloc _ = W5 at *
  refine (h3 _ (unhide HBq)).mono ?_
  rintro e w6 ⟨rfl, hb6⟩
  clear C_0 C_1 C_2 C_3 C_4 C_5 C_6 C_7 C_8 C_9 C_10 C_11 F_0 F_1 T_0 T_1
  replace V := V.later hb6
  replace V2 := V2.later hb6
  replace HBq := hide ((unhide HBq).trans (hb6.mono (unhide HBq).size))
  clear hb6 h3 C F T
  have V3 := (Blk.new w6 #[.int .i64 v.at_.1, .int .i64 v.at_.2, .string v.val, .bool v.gone, .int .i64 v.by_] 37).alloc (.cells #[.int .i64 x.id, .int .i64 x.ep, .string x.anchor, .int .i64 x.start.1, .int .i64 x.start.2] 26)
  have M := Blk.new (w6.alloc (.cells #[.int .i64 v.at_.1, .int .i64 v.at_.2, .string v.val, .bool v.gone, .int .i64 v.by_] 37)) #[.int .i64 x.id, .int .i64 x.ep, .string x.anchor, .int .i64 x.start.1, .int .i64 x.start.2] 26
  rw [show (w6.alloc (.cells #[.int .i64 v.at_.1, .int .i64 v.at_.2, .string v.val, .bool v.gone, .int .i64 v.by_] 37)).heap.size = w6.heap.size + 1 by simp] at M
  have hB : Below w6.heap.size w6 ((w6.alloc (.cells #[.int .i64 v.at_.1, .int .i64 v.at_.2, .string v.val, .bool v.gone, .int .i64 v.by_] 37)).alloc (.cells #[.int .i64 x.id, .int .i64 x.ep, .string x.anchor, .int .i64 x.start.1, .int .i64 x.start.2] 26)) := ((Below.refl w6.heap.size w6).alloc (Nat.le_refl _) _).alloc (by simp) _
  replace V := V.later hB
  replace V2 := V2.later hB
  replace HBq := hide ((unhide HBq).trans (hB.mono (unhide HBq).size))
  clear hB M
  go_wp2_with fail
  generalize (w6.alloc _).alloc _ = W6 at *
  refine (hA _).mono ?_
  rintro e w7 ⟨rfl, hb7⟩
  replace V := V.later hb7
  replace V2 := V2.later hb7
  replace V3 := V3.later hb7
  replace HBq := hide ((unhide HBq).trans (hb7.mono (unhide HBq).size))
  clear hb7 hA
  have V_0 := V.c 0; have V_1 := V.c 1; have V_2 := V.c 2; have V_3 := V.c 3; have V_4 := V.c 4; simp only [List.getElem?_cons_zero, List.getElem?_cons_succ] at V_0 V_1 V_2 V_3 V_4
  have V2_0 := V2.c 0; have V2_1 := V2.c 1; have V2_2 := V2.c 2; have V2_3 := V2.c 3; have V2_4 := V2.c 4; simp only [List.getElem?_cons_zero, List.getElem?_cons_succ] at V2_0 V2_1 V2_2 V2_3 V2_4
  have V3_0 := V3.c 0; have V3_1 := V3.c 1; have V3_2 := V3.c 2; have V3_3 := V3.c 3; have V3_4 := V3.c 4; simp only [List.getElem?_cons_zero, List.getElem?_cons_succ] at V3_0 V3_1 V3_2 V3_3 V3_4
  have q := fun w => eqlV v v w
  rw [sameV_self] at q
  clear V V2 V3
  go_wp2
  go_ret
  exact ⟨by simp, unhide HBq⟩
end

end Go.Proofs.Ytcahmnpoajnmpaa
