/-
  VersionReads returns true. No statement is proved here: the lifted text has it.
-/
import Derived.Test.YtcahmnpoajnmpaaVt7
import Derived.Test.YtcahmnpoajnmpaaViewB
import Derived.Test.YtcahmnpoajnmpaaVr1
namespace Go.Proofs.Ytcahmnpoajnmpaa
open Go.RowKit
set_option linter.unusedVariables false

section
set_option maxRecDepth 100000
set_option maxHeartbeats 20000000

theorem walkVersionReads {w : World} (a0 : Value) (x : Chn) (ha : ChV w a0 x) (b0 : Value) (ss : Stp × Stp) (hb : S2V b0 ss) (c0 : Value) (ii : Int × Int × Int) (hc : I3V c0 ii) :
    Calls Try.prog 4 #[a0, b0, c0] w fun e w' => e = .returned (.bool true) ∧ Below w.heap.size w w' := by
  obtain ⟨⟨ao, c, rfl, hv⟩, hl⟩ := ha
  obtain ⟨rfl⟩ := hb
  obtain ⟨rfl⟩ := hc
  obtain ⟨vs, o, i⟩ := x
  obtain ⟨a, l⟩ := ss
  obtain ⟨id, ep, sq⟩ := ii
  simp only at hv hl ⊢
  have hA := fun w => alive_any w
  have hF := fun w' (hb : Below w.heap.size w w') => fitsl_any ao c vs o i w' (hv.later hb)
  have hR := fun w' (hb : Below w.heap.size w w') => read_any ao c vs o i a l id ep w' (hv.later hb) hl
  have hRR := fun w' (hb : Below w.heap.size w w') => refread_any ao c vs o i a l id ep w' (hv.later hb)
  have hS := fun w' (hb : Below w.heap.size w w') => refresh_any ao c vs o i id a l w' (hv.later hb) hl
  have hRS := fun w' (hb : Below w.heap.size w w') => refrefresh_any ao c vs o i id a l w' (hv.later hb)
  have hQ := fun w => query_any ao vs.length c o i id ep sq a w
  have hRQ := fun w => refquery_any ao vs.length c o i id ep sq a w
  have key : (decide (vs.length ≤ 60) && rightCB ⟨vs, o, i⟩) = true → readR vs o i a l id ep = readC ⟨vs, o, i⟩ a l id ep ∧ refR vs o i id a l = refreshC ⟨vs, o, i⟩ id a l := fun k1 => by
    rw [Bool.and_eq_true] at k1
    have hr : riseB vs = true := ((rightCB_iff _).1 k1.2).1
    exact ⟨readR_right hr o i a l id ep, refR_right hr o i id a l⟩
  generalize (decide (vs.length ≤ 60) && rightCB ⟨vs, o, i⟩) = z at *
  generalize readR vs o i a l id ep = R at *
  generalize readC ⟨vs, o, i⟩ a l id ep = R' at *
  generalize refR vs o i id a l = Q at *
  generalize refreshC ⟨vs, o, i⟩ id a l = Q' at *
  generalize queryC ⟨[], o, i⟩ id ep sq a = P at *
  have Hkey := hide key
  obtain ⟨n, hn⟩ : ∃ n, vs.length = n := ⟨_, rfl⟩
  simp only [hn] at hF hR hRR hS hRS hQ hRQ ⊢
  have C := ((Blk.new w #[.slice ao n c, .bool o, .int .i64 i.txn.id, .int .i64 i.txn.ep, .string i.txn.anchor, .int .i64 i.txn.start.1, .int .i64 i.txn.start.2, .int .i64 i.seq, .int .i64 i.at_.1, .int .i64 i.at_.2, .string i.val, .bool i.gone] 30).alloc (.cells #[.int .i64 a.1, .int .i64 a.2, .int .i64 l.1, .int .i64 l.2] 34)).alloc (.cells #[.int .i64 id, .int .i64 ep, .int .i64 sq] 35)
  have A := (Blk.new (w.alloc (.cells #[.slice ao n c, .bool o, .int .i64 i.txn.id, .int .i64 i.txn.ep, .string i.txn.anchor, .int .i64 i.txn.start.1, .int .i64 i.txn.start.2, .int .i64 i.seq, .int .i64 i.at_.1, .int .i64 i.at_.2, .string i.val, .bool i.gone] 30)) #[.int .i64 a.1, .int .i64 a.2, .int .i64 l.1, .int .i64 l.2] 34).alloc (.cells #[.int .i64 id, .int .i64 ep, .int .i64 sq] 35)
  rw [show (w.alloc (.cells #[.slice ao n c, .bool o, .int .i64 i.txn.id, .int .i64 i.txn.ep, .string i.txn.anchor, .int .i64 i.txn.start.1, .int .i64 i.txn.start.2, .int .i64 i.seq, .int .i64 i.at_.1, .int .i64 i.at_.2, .string i.val, .bool i.gone] 30)).heap.size = w.heap.size + 1 by simp] at A
  have I := Blk.new ((w.alloc (.cells #[.slice ao n c, .bool o, .int .i64 i.txn.id, .int .i64 i.txn.ep, .string i.txn.anchor, .int .i64 i.txn.start.1, .int .i64 i.txn.start.2, .int .i64 i.seq, .int .i64 i.at_.1, .int .i64 i.at_.2, .string i.val, .bool i.gone] 30)).alloc (.cells #[.int .i64 a.1, .int .i64 a.2, .int .i64 l.1, .int .i64 l.2] 34)) #[.int .i64 id, .int .i64 ep, .int .i64 sq] 35
  rw [show ((w.alloc (.cells #[.slice ao n c, .bool o, .int .i64 i.txn.id, .int .i64 i.txn.ep, .string i.txn.anchor, .int .i64 i.txn.start.1, .int .i64 i.txn.start.2, .int .i64 i.seq, .int .i64 i.at_.1, .int .i64 i.at_.2, .string i.val, .bool i.gone] 30)).alloc (.cells #[.int .i64 a.1, .int .i64 a.2, .int .i64 l.1, .int .i64 l.2] 34)).heap.size = w.heap.size + 1 + 1 by simp] at I
  have hB : Below w.heap.size w (((w.alloc (.cells #[.slice ao n c, .bool o, .int .i64 i.txn.id, .int .i64 i.txn.ep, .string i.txn.anchor, .int .i64 i.txn.start.1, .int .i64 i.txn.start.2, .int .i64 i.seq, .int .i64 i.at_.1, .int .i64 i.at_.2, .string i.val, .bool i.gone] 30)).alloc (.cells #[.int .i64 a.1, .int .i64 a.2, .int .i64 l.1, .int .i64 l.2] 34)).alloc (.cells #[.int .i64 id, .int .i64 ep, .int .i64 sq] 35)) := (((Below.refl w.heap.size w).alloc (Nat.le_refl _) _).alloc (by simp) _).alloc (by simp; omega) _
  clear hv key hn hl
  go_enter Try.func4, Try.ntmps4
  go_wp2_with fail
  generalize ((w.alloc _).alloc _).alloc _ = W at *
  refine (hF _ hB).mono ?_
  rintro e w1 ⟨rfl, hb1⟩
  replace C := C.later hb1
  replace A := A.later hb1
  replace I := I.later hb1
  replace hB := hB.trans (hb1.mono hB.size)
  clear hb1 hF
  cases z
  case false =>
    clear hR hRR hS hRS hQ hRQ Hkey
    go_wp2_with fail
    refine (hA _).mono ?_
    rintro e wq ⟨rfl, hbq⟩
    have HB := hide (hB.trans (hbq.mono hB.size))
    clear hbq hB
    go_wp2
    go_ret
    exact ⟨rfl, unhide HB⟩
  obtain ⟨rfl, rfl⟩ := (unhide Hkey) rfl
  clear Hkey
  have C_0 := C.c 0; have C_1 := C.c 1; have C_2 := C.c 2; have C_3 := C.c 3; have C_4 := C.c 4; have C_5 := C.c 5; have C_6 := C.c 6; have C_7 := C.c 7; have C_8 := C.c 8; have C_9 := C.c 9; have C_10 := C.c 10; have C_11 := C.c 11; simp only [List.getElem?_cons_zero, List.getElem?_cons_succ] at C_0 C_1 C_2 C_3 C_4 C_5 C_6 C_7 C_8 C_9 C_10 C_11
  have A_0 := A.c 0; have A_1 := A.c 1; have A_2 := A.c 2; have A_3 := A.c 3; simp only [List.getElem?_cons_zero, List.getElem?_cons_succ] at A_0 A_1 A_2 A_3
  have I_0 := I.c 0; have I_1 := I.c 1; have I_2 := I.c 2; simp only [List.getElem?_cons_zero, List.getElem?_cons_succ] at I_0 I_1 I_2
  go_wp2_with fail
  refine (hR _ hB).mono ?_
  rintro e w2 ⟨rfl, hb2⟩
  clear C_0 C_1 C_2 C_3 C_4 C_5 C_6 C_7 C_8 C_9 C_10 C_11 A_0 A_1 A_2 A_3 I_0 I_1 I_2
  replace C := C.later hb2
  replace A := A.later hb2
  replace I := I.later hb2
  have hBw := hB.trans (hb2.mono hB.size)
  clear hb2 hR hB
  obtain ⟨v, b, m, er⟩ := R
  obtain ⟨x, ex⟩ := Q
  simp only at hRR hS hRS
  have V := (Blk.new w2 #[.int .i64 v.at_.1, .int .i64 v.at_.2, .string v.val, .bool v.gone, .int .i64 v.by_] 37).alloc (.cells #[.int .i64 m.id, .int .i64 m.ep, .string m.anchor, .int .i64 m.start.1, .int .i64 m.start.2] 26)
  have M := Blk.new (w2.alloc (.cells #[.int .i64 v.at_.1, .int .i64 v.at_.2, .string v.val, .bool v.gone, .int .i64 v.by_] 37)) #[.int .i64 m.id, .int .i64 m.ep, .string m.anchor, .int .i64 m.start.1, .int .i64 m.start.2] 26
  rw [show (w2.alloc (.cells #[.int .i64 v.at_.1, .int .i64 v.at_.2, .string v.val, .bool v.gone, .int .i64 v.by_] 37)).heap.size = w2.heap.size + 1 by simp] at M
  have hB : Below w2.heap.size w2 ((w2.alloc (.cells #[.int .i64 v.at_.1, .int .i64 v.at_.2, .string v.val, .bool v.gone, .int .i64 v.by_] 37)).alloc (.cells #[.int .i64 m.id, .int .i64 m.ep, .string m.anchor, .int .i64 m.start.1, .int .i64 m.start.2] 26)) := ((Below.refl w2.heap.size w2).alloc (Nat.le_refl _) _).alloc (by simp) _
  replace C := C.later hB
  replace A := A.later hB
  replace I := I.later hB
  replace hB := hBw.trans (hB.mono hBw.size)
  clear hBw
  have C_0 := C.c 0; have C_1 := C.c 1; have C_2 := C.c 2; have C_3 := C.c 3; have C_4 := C.c 4; have C_5 := C.c 5; have C_6 := C.c 6; have C_7 := C.c 7; have C_8 := C.c 8; have C_9 := C.c 9; have C_10 := C.c 10; have C_11 := C.c 11; simp only [List.getElem?_cons_zero, List.getElem?_cons_succ] at C_0 C_1 C_2 C_3 C_4 C_5 C_6 C_7 C_8 C_9 C_10 C_11
  have A_0 := A.c 0; have A_1 := A.c 1; have A_2 := A.c 2; have A_3 := A.c 3; simp only [List.getElem?_cons_zero, List.getElem?_cons_succ] at A_0 A_1 A_2 A_3
  have I_0 := I.c 0; have I_1 := I.c 1; have I_2 := I.c 2; simp only [List.getElem?_cons_zero, List.getElem?_cons_succ] at I_0 I_1 I_2
  go_wp2_with fail
  generalize (w2.alloc _).alloc _ = W2 at *
  refine (hRR _ hB).mono ?_
  rintro e w3 ⟨rfl, hb3⟩
  clear C_0 C_1 C_2 C_3 C_4 C_5 C_6 C_7 C_8 C_9 C_10 C_11 A_0 A_1 A_2 A_3 I_0 I_1 I_2
  replace C := C.later hb3
  replace A := A.later hb3
  replace I := I.later hb3
  replace V := V.later hb3
  replace M := M.later hb3
  have hBw := hB.trans (hb3.mono hB.size)
  clear hb3 hRR hB
  have V2 := (Blk.new w3 #[.int .i64 v.at_.1, .int .i64 v.at_.2, .string v.val, .bool v.gone, .int .i64 v.by_] 37).alloc (.cells #[.int .i64 m.id, .int .i64 m.ep, .string m.anchor, .int .i64 m.start.1, .int .i64 m.start.2] 26)
  have M2 := Blk.new (w3.alloc (.cells #[.int .i64 v.at_.1, .int .i64 v.at_.2, .string v.val, .bool v.gone, .int .i64 v.by_] 37)) #[.int .i64 m.id, .int .i64 m.ep, .string m.anchor, .int .i64 m.start.1, .int .i64 m.start.2] 26
  rw [show (w3.alloc (.cells #[.int .i64 v.at_.1, .int .i64 v.at_.2, .string v.val, .bool v.gone, .int .i64 v.by_] 37)).heap.size = w3.heap.size + 1 by simp] at M2
  have hB : Below w3.heap.size w3 ((w3.alloc (.cells #[.int .i64 v.at_.1, .int .i64 v.at_.2, .string v.val, .bool v.gone, .int .i64 v.by_] 37)).alloc (.cells #[.int .i64 m.id, .int .i64 m.ep, .string m.anchor, .int .i64 m.start.1, .int .i64 m.start.2] 26)) := ((Below.refl w3.heap.size w3).alloc (Nat.le_refl _) _).alloc (by simp) _
  replace C := C.later hB
  replace A := A.later hB
  replace I := I.later hB
  replace V := V.later hB
  replace M := M.later hB
  replace hB := hBw.trans (hB.mono hBw.size)
  clear hBw
  have C_0 := C.c 0; have C_1 := C.c 1; have C_2 := C.c 2; have C_3 := C.c 3; have C_4 := C.c 4; have C_5 := C.c 5; have C_6 := C.c 6; have C_7 := C.c 7; have C_8 := C.c 8; have C_9 := C.c 9; have C_10 := C.c 10; have C_11 := C.c 11; simp only [List.getElem?_cons_zero, List.getElem?_cons_succ] at C_0 C_1 C_2 C_3 C_4 C_5 C_6 C_7 C_8 C_9 C_10 C_11
  have A_0 := A.c 0; have A_1 := A.c 1; have A_2 := A.c 2; have A_3 := A.c 3; simp only [List.getElem?_cons_zero, List.getElem?_cons_succ] at A_0 A_1 A_2 A_3
  have I_0 := I.c 0; have I_1 := I.c 1; have I_2 := I.c 2; simp only [List.getElem?_cons_zero, List.getElem?_cons_succ] at I_0 I_1 I_2
  go_wp2_with fail
  generalize (w3.alloc _).alloc _ = W3 at *
  refine (hS _ hB).mono ?_
  rintro e w4 ⟨rfl, hb4⟩
  clear C_0 C_1 C_2 C_3 C_4 C_5 C_6 C_7 C_8 C_9 C_10 C_11 A_0 A_1 A_2 A_3 I_0 I_1 I_2
  replace C := C.later hb4
  replace A := A.later hb4
  replace I := I.later hb4
  replace V := V.later hb4
  replace M := M.later hb4
  replace V2 := V2.later hb4
  replace M2 := M2.later hb4
  have hBw := hB.trans (hb4.mono hB.size)
  clear hb4 hS hB
  have X := Blk.new w4 #[.int .i64 x.id, .int .i64 x.ep, .string x.anchor, .int .i64 x.start.1, .int .i64 x.start.2] 26
  have hB : Below w4.heap.size w4 (w4.alloc (.cells #[.int .i64 x.id, .int .i64 x.ep, .string x.anchor, .int .i64 x.start.1, .int .i64 x.start.2] 26)) := (Below.refl w4.heap.size w4).alloc (Nat.le_refl _) _
  replace C := C.later hB
  replace A := A.later hB
  replace I := I.later hB
  replace V := V.later hB
  replace M := M.later hB
  replace V2 := V2.later hB
  replace M2 := M2.later hB
  replace hB := hBw.trans (hB.mono hBw.size)
  clear hBw
  have C_0 := C.c 0; have C_1 := C.c 1; have C_2 := C.c 2; have C_3 := C.c 3; have C_4 := C.c 4; have C_5 := C.c 5; have C_6 := C.c 6; have C_7 := C.c 7; have C_8 := C.c 8; have C_9 := C.c 9; have C_10 := C.c 10; have C_11 := C.c 11; simp only [List.getElem?_cons_zero, List.getElem?_cons_succ] at C_0 C_1 C_2 C_3 C_4 C_5 C_6 C_7 C_8 C_9 C_10 C_11
  have A_0 := A.c 0; have A_1 := A.c 1; have A_2 := A.c 2; have A_3 := A.c 3; simp only [List.getElem?_cons_zero, List.getElem?_cons_succ] at A_0 A_1 A_2 A_3
  have I_0 := I.c 0; have I_1 := I.c 1; have I_2 := I.c 2; simp only [List.getElem?_cons_zero, List.getElem?_cons_succ] at I_0 I_1 I_2
  go_wp2_with fail
  generalize w4.alloc _ = W4 at *
  refine (hRS _ hB).mono ?_
  rintro e w5 ⟨rfl, hb5⟩
  clear C_0 C_1 C_2 C_3 C_4 C_5 C_6 C_7 C_8 C_9 C_10 C_11 A_0 A_1 A_2 A_3 I_0 I_1 I_2
  replace C := C.later hb5
  replace A := A.later hb5
  replace I := I.later hb5
  replace V := V.later hb5
  replace M := M.later hb5
  replace V2 := V2.later hb5
  replace M2 := M2.later hb5
  replace X := X.later hb5
  have hBw := hB.trans (hb5.mono hB.size)
  clear hb5 hRS hB
  have Y := Blk.new w5 #[.int .i64 x.id, .int .i64 x.ep, .string x.anchor, .int .i64 x.start.1, .int .i64 x.start.2] 26
  have hB : Below w5.heap.size w5 (w5.alloc (.cells #[.int .i64 x.id, .int .i64 x.ep, .string x.anchor, .int .i64 x.start.1, .int .i64 x.start.2] 26)) := (Below.refl w5.heap.size w5).alloc (Nat.le_refl _) _
  replace C := C.later hB
  replace A := A.later hB
  replace I := I.later hB
  replace V := V.later hB
  replace M := M.later hB
  replace V2 := V2.later hB
  replace M2 := M2.later hB
  replace X := X.later hB
  replace hB := hBw.trans (hB.mono hBw.size)
  clear hBw
  go_wp2_with fail
  generalize w5.alloc _ = W5 at *
  have C_0 := fun x : Later W5 => (C.later x.below).c 0; have C_1 := fun x : Later W5 => (C.later x.below).c 1; have C_2 := fun x : Later W5 => (C.later x.below).c 2; have C_3 := fun x : Later W5 => (C.later x.below).c 3; have C_4 := fun x : Later W5 => (C.later x.below).c 4; have C_5 := fun x : Later W5 => (C.later x.below).c 5; have C_6 := fun x : Later W5 => (C.later x.below).c 6; have C_7 := fun x : Later W5 => (C.later x.below).c 7; have C_8 := fun x : Later W5 => (C.later x.below).c 8; have C_9 := fun x : Later W5 => (C.later x.below).c 9; have C_10 := fun x : Later W5 => (C.later x.below).c 10; have C_11 := fun x : Later W5 => (C.later x.below).c 11; simp only [List.getElem?_cons_zero, List.getElem?_cons_succ] at C_0 C_1 C_2 C_3 C_4 C_5 C_6 C_7 C_8 C_9 C_10 C_11
  have A_0 := fun x : Later W5 => (A.later x.below).c 0; have A_1 := fun x : Later W5 => (A.later x.below).c 1; have A_2 := fun x : Later W5 => (A.later x.below).c 2; have A_3 := fun x : Later W5 => (A.later x.below).c 3; simp only [List.getElem?_cons_zero, List.getElem?_cons_succ] at A_0 A_1 A_2 A_3
  have I_0 := fun x : Later W5 => (I.later x.below).c 0; have I_1 := fun x : Later W5 => (I.later x.below).c 1; have I_2 := fun x : Later W5 => (I.later x.below).c 2; simp only [List.getElem?_cons_zero, List.getElem?_cons_succ] at I_0 I_1 I_2
  have V_0 := fun x : Later W5 => (V.later x.below).c 0; have V_1 := fun x : Later W5 => (V.later x.below).c 1; have V_2 := fun x : Later W5 => (V.later x.below).c 2; have V_3 := fun x : Later W5 => (V.later x.below).c 3; have V_4 := fun x : Later W5 => (V.later x.below).c 4; simp only [List.getElem?_cons_zero, List.getElem?_cons_succ] at V_0 V_1 V_2 V_3 V_4
  have M_0 := fun x : Later W5 => (M.later x.below).c 0; have M_1 := fun x : Later W5 => (M.later x.below).c 1; have M_2 := fun x : Later W5 => (M.later x.below).c 2; have M_3 := fun x : Later W5 => (M.later x.below).c 3; have M_4 := fun x : Later W5 => (M.later x.below).c 4; simp only [List.getElem?_cons_zero, List.getElem?_cons_succ] at M_0 M_1 M_2 M_3 M_4
  have V2_0 := fun x : Later W5 => (V2.later x.below).c 0; have V2_1 := fun x : Later W5 => (V2.later x.below).c 1; have V2_2 := fun x : Later W5 => (V2.later x.below).c 2; have V2_3 := fun x : Later W5 => (V2.later x.below).c 3; have V2_4 := fun x : Later W5 => (V2.later x.below).c 4; simp only [List.getElem?_cons_zero, List.getElem?_cons_succ] at V2_0 V2_1 V2_2 V2_3 V2_4
  have M2_0 := fun x : Later W5 => (M2.later x.below).c 0; have M2_1 := fun x : Later W5 => (M2.later x.below).c 1; have M2_2 := fun x : Later W5 => (M2.later x.below).c 2; have M2_3 := fun x : Later W5 => (M2.later x.below).c 3; have M2_4 := fun x : Later W5 => (M2.later x.below).c 4; simp only [List.getElem?_cons_zero, List.getElem?_cons_succ] at M2_0 M2_1 M2_2 M2_3 M2_4
  have X_0 := fun x : Later W5 => (X.later x.below).c 0; have X_1 := fun x : Later W5 => (X.later x.below).c 1; have X_2 := fun x : Later W5 => (X.later x.below).c 2; have X_3 := fun x : Later W5 => (X.later x.below).c 3; have X_4 := fun x : Later W5 => (X.later x.below).c 4; simp only [List.getElem?_cons_zero, List.getElem?_cons_succ] at X_0 X_1 X_2 X_3 X_4
  have Y_0 := fun x : Later W5 => (Y.later x.below).c 0; have Y_1 := fun x : Later W5 => (Y.later x.below).c 1; have Y_2 := fun x : Later W5 => (Y.later x.below).c 2; have Y_3 := fun x : Later W5 => (Y.later x.below).c 3; have Y_4 := fun x : Later W5 => (Y.later x.below).c 4; simp only [List.getElem?_cons_zero, List.getElem?_cons_succ] at Y_0 Y_1 Y_2 Y_3 Y_4
  have qv := fun w => eqlV v v w
  have qm := fun w => eqlM m m w
  have qx := fun w => eqlM x x w
  rw [sameV_self] at qv
  rw [sameM_self] at qm qx
  have e1 : (b == b) = true := by simp
  have e2 : (er == er) = true := by simp
  have e3 : (ex == ex) = true := by simp
  have e4 : (P == P) = true := by simp
  have ii : Nonempty (Later W5) := ⟨⟨W5, Below.refl _ _⟩⟩
  refine wp_region_later (by kernel_rfl) (by kernel_rfl) ?_
  repeat (first
    | go_big_quiet_step ((first | (go_at_call 11; with_reducible exact calls_later (hA _)) | (go_at_call 21; with_reducible exact calls_later (hQ _)) | (go_at_call 22; with_reducible exact calls_later (hRQ _))))
    | quiet_step (fail))
  refine wpQuiet_nil ?_
  intro w' hw'
  obtain ⟨⟨W6, hb6⟩, rfl⟩ := hw'
  have HB := hide (hB.trans (hb6.mono hB.size))
  clear hB hb6
  go_wp2
  go_ret
  exact ⟨rfl, unhide HB⟩
end

end Go.Proofs.Ytcahmnpoajnmpaa
