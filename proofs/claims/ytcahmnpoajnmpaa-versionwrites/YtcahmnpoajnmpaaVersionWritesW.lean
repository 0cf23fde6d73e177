/-
  VersionWrites returns true. No statement is proved here: the lifted text has it.
-/
import Derived.Test.YtcahmnpoajnmpaaVx1
import Derived.Test.YtcahmnpoajnmpaaVx8
import Derived.Test.YtcahmnpoajnmpaaViewA
namespace Go.Proofs.Ytcahmnpoajnmpaa
open Go.RowKit
set_option linter.unusedVariables false

section
set_option maxRecDepth 100000
set_option maxHeartbeats 20000000

theorem walkVersionWrites {w : World} (a0 : Value) (x : Chn) (ha : ChV w a0 x) (b0 : Value) (a : ActR) (hb : AcV b0 a) :
    Calls Try.prog 5 #[a0, b0] w fun e w' => e = .returned (.bool true) ∧ Below w.heap.size w w' := by
  obtain ⟨⟨ao, c, rfl, hv⟩, hl⟩ := ha
  obtain ⟨rfl⟩ := hb
  obtain ⟨vs, o, i⟩ := x
  simp only at hv hl ⊢
  have hA := fun w => alive_any w
  have hF := fun w' (hb : Below w.heap.size w w') => fitsl_any ao c vs o i w' (hv.later hb)
  have hCo := fun w' (hb : Below w.heap.size w w') => refcopy_any ao c vs o i w' (hv.later hb) hl
  have hW := fun w' (hb : Below w.heap.size w w') => write_any ao c vs o i a.itn w' (hv.later hb) hl
  have hRW := fun w' (hb : Below w.heap.size w w') => refwrite_any ao c vs o i a.itn w' (hv.later hb) hl
  have hS := fun w' (hb : Below w.heap.size w w') => resolve_any ao c vs o i a.id a.ep a.commit a.at_ w' (hv.later hb) hl
  have hRS := fun w' (hb : Below w.heap.size w w') => refresolve_any ao c vs o i a.id a.ep a.commit a.at_ w' (hv.later hb) hl
  obtain ⟨⟨⟨yv, yo, yi⟩, s, m, er⟩, hX⟩ : ∃ X, writeC ⟨vs, o, i⟩ a.itn = X := ⟨_, rfl⟩
  obtain ⟨⟨⟨zv, zo, zi⟩, ez⟩, hZ⟩ : ∃ Z, resolveC ⟨vs, o, i⟩ a.id a.ep a.commit a.at_ = Z := ⟨_, rfl⟩
  rw [hX] at hW hRW
  rw [hZ] at hS hRS
  simp only at hW hRW hS hRS
  generalize (decide (vs.length ≤ 60) && rightCB ⟨vs, o, i⟩) = z at *
  obtain ⟨n, hn⟩ : ∃ n, vs.length = n := ⟨_, rfl⟩
  obtain ⟨l, hyl⟩ : ∃ l, yv.length = l := ⟨_, rfl⟩
  obtain ⟨r, hzl⟩ : ∃ r, zv.length = r := ⟨_, rfl⟩
  have Hn := hide hn
  have Hl := hide hyl
  have Hr := hide hzl
  have Hv := hide hv
  simp only [hn, hyl, hzl] at hF hCo hW hRW hS hRS ⊢
  have C := (Blk.new w #[.slice ao n c, .bool o, .int .i64 i.txn.id, .int .i64 i.txn.ep, .string i.txn.anchor, .int .i64 i.txn.start.1, .int .i64 i.txn.start.2, .int .i64 i.seq, .int .i64 i.at_.1, .int .i64 i.at_.2, .string i.val, .bool i.gone] 30).alloc (.cells #[.int .i64 a.kind, .int .i64 a.id, .int .i64 a.ep, .int .i64 a.itn.txn.id, .int .i64 a.itn.txn.ep, .string a.itn.txn.anchor, .int .i64 a.itn.txn.start.1, .int .i64 a.itn.txn.start.2, .int .i64 a.itn.seq, .int .i64 a.itn.at_.1, .int .i64 a.itn.at_.2, .string a.itn.val, .bool a.itn.gone, .bool a.commit, .int .i64 a.at_.1, .int .i64 a.at_.2] 46)
  have A := Blk.new (w.alloc (.cells #[.slice ao n c, .bool o, .int .i64 i.txn.id, .int .i64 i.txn.ep, .string i.txn.anchor, .int .i64 i.txn.start.1, .int .i64 i.txn.start.2, .int .i64 i.seq, .int .i64 i.at_.1, .int .i64 i.at_.2, .string i.val, .bool i.gone] 30)) #[.int .i64 a.kind, .int .i64 a.id, .int .i64 a.ep, .int .i64 a.itn.txn.id, .int .i64 a.itn.txn.ep, .string a.itn.txn.anchor, .int .i64 a.itn.txn.start.1, .int .i64 a.itn.txn.start.2, .int .i64 a.itn.seq, .int .i64 a.itn.at_.1, .int .i64 a.itn.at_.2, .string a.itn.val, .bool a.itn.gone, .bool a.commit, .int .i64 a.at_.1, .int .i64 a.at_.2] 46
  rw [show (w.alloc (.cells #[.slice ao n c, .bool o, .int .i64 i.txn.id, .int .i64 i.txn.ep, .string i.txn.anchor, .int .i64 i.txn.start.1, .int .i64 i.txn.start.2, .int .i64 i.seq, .int .i64 i.at_.1, .int .i64 i.at_.2, .string i.val, .bool i.gone] 30)).heap.size = w.heap.size + 1 by simp] at A
  have hB : Below w.heap.size w ((w.alloc (.cells #[.slice ao n c, .bool o, .int .i64 i.txn.id, .int .i64 i.txn.ep, .string i.txn.anchor, .int .i64 i.txn.start.1, .int .i64 i.txn.start.2, .int .i64 i.seq, .int .i64 i.at_.1, .int .i64 i.at_.2, .string i.val, .bool i.gone] 30)).alloc (.cells #[.int .i64 a.kind, .int .i64 a.id, .int .i64 a.ep, .int .i64 a.itn.txn.id, .int .i64 a.itn.txn.ep, .string a.itn.txn.anchor, .int .i64 a.itn.txn.start.1, .int .i64 a.itn.txn.start.2, .int .i64 a.itn.seq, .int .i64 a.itn.at_.1, .int .i64 a.itn.at_.2, .string a.itn.val, .bool a.itn.gone, .bool a.commit, .int .i64 a.at_.1, .int .i64 a.at_.2] 46)) := ((Below.refl w.heap.size w).alloc (Nat.le_refl _) _).alloc (by simp) _
  clear hv hX hZ hn hyl hzl hl
  go_enter Try.func5, Try.ntmps5
  go_wp2_with fail
  generalize (w.alloc _).alloc _ = W at *
  refine (hF _ hB).mono ?_
  rintro e w1 ⟨rfl, hb1⟩
  replace C := C.later hb1
  replace A := A.later hb1
  replace hB := hB.trans (hb1.mono hB.size)
  clear hb1 hF
  cases z
  case false =>
    clear hCo hW hRW hS hRS
    go_wp2_with fail
    refine (hA _).mono ?_
    rintro e wq ⟨rfl, hbq⟩
    have HB := hide (hB.trans (hbq.mono hB.size))
    clear hbq hB
    go_wp2
    go_ret
    exact ⟨rfl, unhide HB⟩
  have C_0 := C.c 0; have C_1 := C.c 1; have C_2 := C.c 2; have C_3 := C.c 3; have C_4 := C.c 4; have C_5 := C.c 5; have C_6 := C.c 6; have C_7 := C.c 7; have C_8 := C.c 8; have C_9 := C.c 9; have C_10 := C.c 10; have C_11 := C.c 11; simp only [List.getElem?_cons_zero, List.getElem?_cons_succ] at C_0 C_1 C_2 C_3 C_4 C_5 C_6 C_7 C_8 C_9 C_10 C_11
  go_wp2_with fail
  refine (hCo _ hB).mono ?_
  rintro e w2 ⟨ko, kd, rfl, ho, hb⟩
  clear C_0 C_1 C_2 C_3 C_4 C_5 C_6 C_7 C_8 C_9 C_10 C_11
  replace C := C.later hb
  replace A := A.later hb
  have hBw := hB.trans (hb.mono hB.size)
  clear hb hCo hB
  have K := Blk.new w2 #[.slice ko n kd, .bool o, .int .i64 i.txn.id, .int .i64 i.txn.ep, .string i.txn.anchor, .int .i64 i.txn.start.1, .int .i64 i.txn.start.2, .int .i64 i.seq, .int .i64 i.at_.1, .int .i64 i.at_.2, .string i.val, .bool i.gone] 30
  have hB : Below w2.heap.size w2 (w2.alloc (.cells #[.slice ko n kd, .bool o, .int .i64 i.txn.id, .int .i64 i.txn.ep, .string i.txn.anchor, .int .i64 i.txn.start.1, .int .i64 i.txn.start.2, .int .i64 i.seq, .int .i64 i.at_.1, .int .i64 i.at_.2, .string i.val, .bool i.gone] 30)) := (Below.refl w2.heap.size w2).alloc (Nat.le_refl _) _
  replace C := C.later hB
  replace A := A.later hB
  have hvk := ho.vs.later hB
  replace hB := hBw.trans (hB.mono hBw.size)
  clear hBw ho
  have C_0 := C.c 0; have C_1 := C.c 1; have C_2 := C.c 2; have C_3 := C.c 3; have C_4 := C.c 4; have C_5 := C.c 5; have C_6 := C.c 6; have C_7 := C.c 7; have C_8 := C.c 8; have C_9 := C.c 9; have C_10 := C.c 10; have C_11 := C.c 11; simp only [List.getElem?_cons_zero, List.getElem?_cons_succ] at C_0 C_1 C_2 C_3 C_4 C_5 C_6 C_7 C_8 C_9 C_10 C_11
  have A_0 := A.c 0; have A_1 := A.c 1; have A_2 := A.c 2; have A_3 := A.c 3; have A_4 := A.c 4; have A_5 := A.c 5; have A_6 := A.c 6; have A_7 := A.c 7; have A_8 := A.c 8; have A_9 := A.c 9; have A_10 := A.c 10; have A_11 := A.c 11; have A_12 := A.c 12; have A_13 := A.c 13; have A_14 := A.c 14; have A_15 := A.c 15; simp only [List.getElem?_cons_zero, List.getElem?_cons_succ] at A_0 A_1 A_2 A_3 A_4 A_5 A_6 A_7 A_8 A_9 A_10 A_11 A_12 A_13 A_14 A_15
  go_wp2_with fail
  generalize w2.alloc _ = W2 at *
  refine (hW _ hB).mono ?_
  rintro e w3 ⟨bo, d, rfl, ho, hb⟩
  clear C_0 C_1 C_2 C_3 C_4 C_5 C_6 C_7 C_8 C_9 C_10 C_11 A_0 A_1 A_2 A_3 A_4 A_5 A_6 A_7 A_8 A_9 A_10 A_11 A_12 A_13 A_14 A_15
  replace C := C.later hb
  replace A := A.later hb
  replace K := K.later hb
  replace hvk := hvk.later hb
  have hBw := hB.trans (hb.mono hB.size)
  clear hb hW hB
  have X := ((Blk.new w3 #[.slice bo l d, .bool yo, .int .i64 yi.txn.id, .int .i64 yi.txn.ep, .string yi.txn.anchor, .int .i64 yi.txn.start.1, .int .i64 yi.txn.start.2, .int .i64 yi.seq, .int .i64 yi.at_.1, .int .i64 yi.at_.2, .string yi.val, .bool yi.gone] 30).alloc (.cells #[.int .i64 s.1, .int .i64 s.2] 24)).alloc (.cells #[.int .i64 m.id, .int .i64 m.ep, .string m.anchor, .int .i64 m.start.1, .int .i64 m.start.2] 26)
  have S := (Blk.new (w3.alloc (.cells #[.slice bo l d, .bool yo, .int .i64 yi.txn.id, .int .i64 yi.txn.ep, .string yi.txn.anchor, .int .i64 yi.txn.start.1, .int .i64 yi.txn.start.2, .int .i64 yi.seq, .int .i64 yi.at_.1, .int .i64 yi.at_.2, .string yi.val, .bool yi.gone] 30)) #[.int .i64 s.1, .int .i64 s.2] 24).alloc (.cells #[.int .i64 m.id, .int .i64 m.ep, .string m.anchor, .int .i64 m.start.1, .int .i64 m.start.2] 26)
  rw [show (w3.alloc (.cells #[.slice bo l d, .bool yo, .int .i64 yi.txn.id, .int .i64 yi.txn.ep, .string yi.txn.anchor, .int .i64 yi.txn.start.1, .int .i64 yi.txn.start.2, .int .i64 yi.seq, .int .i64 yi.at_.1, .int .i64 yi.at_.2, .string yi.val, .bool yi.gone] 30)).heap.size = w3.heap.size + 1 by simp] at S
  have M := Blk.new ((w3.alloc (.cells #[.slice bo l d, .bool yo, .int .i64 yi.txn.id, .int .i64 yi.txn.ep, .string yi.txn.anchor, .int .i64 yi.txn.start.1, .int .i64 yi.txn.start.2, .int .i64 yi.seq, .int .i64 yi.at_.1, .int .i64 yi.at_.2, .string yi.val, .bool yi.gone] 30)).alloc (.cells #[.int .i64 s.1, .int .i64 s.2] 24)) #[.int .i64 m.id, .int .i64 m.ep, .string m.anchor, .int .i64 m.start.1, .int .i64 m.start.2] 26
  rw [show ((w3.alloc (.cells #[.slice bo l d, .bool yo, .int .i64 yi.txn.id, .int .i64 yi.txn.ep, .string yi.txn.anchor, .int .i64 yi.txn.start.1, .int .i64 yi.txn.start.2, .int .i64 yi.seq, .int .i64 yi.at_.1, .int .i64 yi.at_.2, .string yi.val, .bool yi.gone] 30)).alloc (.cells #[.int .i64 s.1, .int .i64 s.2] 24)).heap.size = w3.heap.size + 1 + 1 by simp] at M
  have hB : Below w3.heap.size w3 (((w3.alloc (.cells #[.slice bo l d, .bool yo, .int .i64 yi.txn.id, .int .i64 yi.txn.ep, .string yi.txn.anchor, .int .i64 yi.txn.start.1, .int .i64 yi.txn.start.2, .int .i64 yi.seq, .int .i64 yi.at_.1, .int .i64 yi.at_.2, .string yi.val, .bool yi.gone] 30)).alloc (.cells #[.int .i64 s.1, .int .i64 s.2] 24)).alloc (.cells #[.int .i64 m.id, .int .i64 m.ep, .string m.anchor, .int .i64 m.start.1, .int .i64 m.start.2] 26)) := (((Below.refl w3.heap.size w3).alloc (Nat.le_refl _) _).alloc (by simp) _).alloc (by simp; omega) _
  replace C := C.later hB
  replace A := A.later hB
  replace K := K.later hB
  replace hvk := hvk.later hB
  have hvx := ho.vs.later hB
  replace hB := hBw.trans (hB.mono hBw.size)
  clear hBw ho
  have C_0 := C.c 0; have C_1 := C.c 1; have C_2 := C.c 2; have C_3 := C.c 3; have C_4 := C.c 4; have C_5 := C.c 5; have C_6 := C.c 6; have C_7 := C.c 7; have C_8 := C.c 8; have C_9 := C.c 9; have C_10 := C.c 10; have C_11 := C.c 11; simp only [List.getElem?_cons_zero, List.getElem?_cons_succ] at C_0 C_1 C_2 C_3 C_4 C_5 C_6 C_7 C_8 C_9 C_10 C_11
  have A_0 := A.c 0; have A_1 := A.c 1; have A_2 := A.c 2; have A_3 := A.c 3; have A_4 := A.c 4; have A_5 := A.c 5; have A_6 := A.c 6; have A_7 := A.c 7; have A_8 := A.c 8; have A_9 := A.c 9; have A_10 := A.c 10; have A_11 := A.c 11; have A_12 := A.c 12; have A_13 := A.c 13; have A_14 := A.c 14; have A_15 := A.c 15; simp only [List.getElem?_cons_zero, List.getElem?_cons_succ] at A_0 A_1 A_2 A_3 A_4 A_5 A_6 A_7 A_8 A_9 A_10 A_11 A_12 A_13 A_14 A_15
  go_wp2_with fail
  generalize ((w3.alloc _).alloc _).alloc _ = W3 at *
  refine (hRW _ hB).mono ?_
  rintro e w4 ⟨co, f, rfl, ho, hb⟩
  clear C_0 C_1 C_2 C_3 C_4 C_5 C_6 C_7 C_8 C_9 C_10 C_11 A_0 A_1 A_2 A_3 A_4 A_5 A_6 A_7 A_8 A_9 A_10 A_11 A_12 A_13 A_14 A_15
  replace C := C.later hb
  replace A := A.later hb
  replace K := K.later hb
  replace X := X.later hb
  replace S := S.later hb
  replace M := M.later hb
  replace hvk := hvk.later hb
  replace hvx := hvx.later hb
  have hBw := hB.trans (hb.mono hB.size)
  clear hb hRW hB
  have Y := ((Blk.new w4 #[.slice co l f, .bool yo, .int .i64 yi.txn.id, .int .i64 yi.txn.ep, .string yi.txn.anchor, .int .i64 yi.txn.start.1, .int .i64 yi.txn.start.2, .int .i64 yi.seq, .int .i64 yi.at_.1, .int .i64 yi.at_.2, .string yi.val, .bool yi.gone] 30).alloc (.cells #[.int .i64 s.1, .int .i64 s.2] 24)).alloc (.cells #[.int .i64 m.id, .int .i64 m.ep, .string m.anchor, .int .i64 m.start.1, .int .i64 m.start.2] 26)
  have T := (Blk.new (w4.alloc (.cells #[.slice co l f, .bool yo, .int .i64 yi.txn.id, .int .i64 yi.txn.ep, .string yi.txn.anchor, .int .i64 yi.txn.start.1, .int .i64 yi.txn.start.2, .int .i64 yi.seq, .int .i64 yi.at_.1, .int .i64 yi.at_.2, .string yi.val, .bool yi.gone] 30)) #[.int .i64 s.1, .int .i64 s.2] 24).alloc (.cells #[.int .i64 m.id, .int .i64 m.ep, .string m.anchor, .int .i64 m.start.1, .int .i64 m.start.2] 26)
  rw [show (w4.alloc (.cells #[.slice co l f, .bool yo, .int .i64 yi.txn.id, .int .i64 yi.txn.ep, .string yi.txn.anchor, .int .i64 yi.txn.start.1, .int .i64 yi.txn.start.2, .int .i64 yi.seq, .int .i64 yi.at_.1, .int .i64 yi.at_.2, .string yi.val, .bool yi.gone] 30)).heap.size = w4.heap.size + 1 by simp] at T
  have N := Blk.new ((w4.alloc (.cells #[.slice co l f, .bool yo, .int .i64 yi.txn.id, .int .i64 yi.txn.ep, .string yi.txn.anchor, .int .i64 yi.txn.start.1, .int .i64 yi.txn.start.2, .int .i64 yi.seq, .int .i64 yi.at_.1, .int .i64 yi.at_.2, .string yi.val, .bool yi.gone] 30)).alloc (.cells #[.int .i64 s.1, .int .i64 s.2] 24)) #[.int .i64 m.id, .int .i64 m.ep, .string m.anchor, .int .i64 m.start.1, .int .i64 m.start.2] 26
  rw [show ((w4.alloc (.cells #[.slice co l f, .bool yo, .int .i64 yi.txn.id, .int .i64 yi.txn.ep, .string yi.txn.anchor, .int .i64 yi.txn.start.1, .int .i64 yi.txn.start.2, .int .i64 yi.seq, .int .i64 yi.at_.1, .int .i64 yi.at_.2, .string yi.val, .bool yi.gone] 30)).alloc (.cells #[.int .i64 s.1, .int .i64 s.2] 24)).heap.size = w4.heap.size + 1 + 1 by simp] at N
  have hB : Below w4.heap.size w4 (((w4.alloc (.cells #[.slice co l f, .bool yo, .int .i64 yi.txn.id, .int .i64 yi.txn.ep, .string yi.txn.anchor, .int .i64 yi.txn.start.1, .int .i64 yi.txn.start.2, .int .i64 yi.seq, .int .i64 yi.at_.1, .int .i64 yi.at_.2, .string yi.val, .bool yi.gone] 30)).alloc (.cells #[.int .i64 s.1, .int .i64 s.2] 24)).alloc (.cells #[.int .i64 m.id, .int .i64 m.ep, .string m.anchor, .int .i64 m.start.1, .int .i64 m.start.2] 26)) := (((Below.refl w4.heap.size w4).alloc (Nat.le_refl _) _).alloc (by simp) _).alloc (by simp; omega) _
  replace C := C.later hB
  replace A := A.later hB
  replace K := K.later hB
  replace X := X.later hB
  replace S := S.later hB
  replace M := M.later hB
  replace hvk := hvk.later hB
  replace hvx := hvx.later hB
  have hvy := ho.later hB
  replace hB := hBw.trans (hB.mono hBw.size)
  clear hBw ho
  have C_0 := C.c 0; have C_1 := C.c 1; have C_2 := C.c 2; have C_3 := C.c 3; have C_4 := C.c 4; have C_5 := C.c 5; have C_6 := C.c 6; have C_7 := C.c 7; have C_8 := C.c 8; have C_9 := C.c 9; have C_10 := C.c 10; have C_11 := C.c 11; simp only [List.getElem?_cons_zero, List.getElem?_cons_succ] at C_0 C_1 C_2 C_3 C_4 C_5 C_6 C_7 C_8 C_9 C_10 C_11
  have A_0 := A.c 0; have A_1 := A.c 1; have A_2 := A.c 2; have A_3 := A.c 3; have A_4 := A.c 4; have A_5 := A.c 5; have A_6 := A.c 6; have A_7 := A.c 7; have A_8 := A.c 8; have A_9 := A.c 9; have A_10 := A.c 10; have A_11 := A.c 11; have A_12 := A.c 12; have A_13 := A.c 13; have A_14 := A.c 14; have A_15 := A.c 15; simp only [List.getElem?_cons_zero, List.getElem?_cons_succ] at A_0 A_1 A_2 A_3 A_4 A_5 A_6 A_7 A_8 A_9 A_10 A_11 A_12 A_13 A_14 A_15
  go_wp2_with fail
  generalize ((w4.alloc _).alloc _).alloc _ = W4 at *
  refine (hS _ hB).mono ?_
  rintro e w5 ⟨po, pd, rfl, ho, hb⟩
  clear C_0 C_1 C_2 C_3 C_4 C_5 C_6 C_7 C_8 C_9 C_10 C_11 A_0 A_1 A_2 A_3 A_4 A_5 A_6 A_7 A_8 A_9 A_10 A_11 A_12 A_13 A_14 A_15
  replace C := C.later hb
  replace A := A.later hb
  replace K := K.later hb
  replace X := X.later hb
  replace S := S.later hb
  replace M := M.later hb
  replace Y := Y.later hb
  replace T := T.later hb
  replace N := N.later hb
  replace hvk := hvk.later hb
  replace hvx := hvx.later hb
  replace hvy := hvy.later hb
  have hBw := hB.trans (hb.mono hB.size)
  clear hb hS hB
  have P := Blk.new w5 #[.slice po r pd, .bool zo, .int .i64 zi.txn.id, .int .i64 zi.txn.ep, .string zi.txn.anchor, .int .i64 zi.txn.start.1, .int .i64 zi.txn.start.2, .int .i64 zi.seq, .int .i64 zi.at_.1, .int .i64 zi.at_.2, .string zi.val, .bool zi.gone] 30
  have hB : Below w5.heap.size w5 (w5.alloc (.cells #[.slice po r pd, .bool zo, .int .i64 zi.txn.id, .int .i64 zi.txn.ep, .string zi.txn.anchor, .int .i64 zi.txn.start.1, .int .i64 zi.txn.start.2, .int .i64 zi.seq, .int .i64 zi.at_.1, .int .i64 zi.at_.2, .string zi.val, .bool zi.gone] 30)) := (Below.refl w5.heap.size w5).alloc (Nat.le_refl _) _
  replace C := C.later hB
  replace A := A.later hB
  replace K := K.later hB
  replace X := X.later hB
  replace S := S.later hB
  replace M := M.later hB
  replace Y := Y.later hB
  replace T := T.later hB
  replace N := N.later hB
  replace hvk := hvk.later hB
  replace hvx := hvx.later hB
  replace hvy := hvy.later hB
  have hvp := ho.vs.later hB
  replace hB := hBw.trans (hB.mono hBw.size)
  clear hBw ho
  have C_0 := C.c 0; have C_1 := C.c 1; have C_2 := C.c 2; have C_3 := C.c 3; have C_4 := C.c 4; have C_5 := C.c 5; have C_6 := C.c 6; have C_7 := C.c 7; have C_8 := C.c 8; have C_9 := C.c 9; have C_10 := C.c 10; have C_11 := C.c 11; simp only [List.getElem?_cons_zero, List.getElem?_cons_succ] at C_0 C_1 C_2 C_3 C_4 C_5 C_6 C_7 C_8 C_9 C_10 C_11
  have A_0 := A.c 0; have A_1 := A.c 1; have A_2 := A.c 2; have A_3 := A.c 3; have A_4 := A.c 4; have A_5 := A.c 5; have A_6 := A.c 6; have A_7 := A.c 7; have A_8 := A.c 8; have A_9 := A.c 9; have A_10 := A.c 10; have A_11 := A.c 11; have A_12 := A.c 12; have A_13 := A.c 13; have A_14 := A.c 14; have A_15 := A.c 15; simp only [List.getElem?_cons_zero, List.getElem?_cons_succ] at A_0 A_1 A_2 A_3 A_4 A_5 A_6 A_7 A_8 A_9 A_10 A_11 A_12 A_13 A_14 A_15
  go_wp2_with fail
  generalize w5.alloc _ = W5 at *
  refine (hRS _ hB).mono ?_
  rintro e w6 ⟨qo, qd, rfl, ho, hb⟩
  clear C_0 C_1 C_2 C_3 C_4 C_5 C_6 C_7 C_8 C_9 C_10 C_11 A_0 A_1 A_2 A_3 A_4 A_5 A_6 A_7 A_8 A_9 A_10 A_11 A_12 A_13 A_14 A_15
  replace C := C.later hb
  replace A := A.later hb
  replace K := K.later hb
  replace X := X.later hb
  replace S := S.later hb
  replace M := M.later hb
  replace Y := Y.later hb
  replace T := T.later hb
  replace N := N.later hb
  replace P := P.later hb
  replace hvk := hvk.later hb
  replace hvx := hvx.later hb
  replace hvy := hvy.later hb
  replace hvp := hvp.later hb
  have hBw := hB.trans (hb.mono hB.size)
  clear hb hRS hB
  have Q := Blk.new w6 #[.slice qo r qd, .bool zo, .int .i64 zi.txn.id, .int .i64 zi.txn.ep, .string zi.txn.anchor, .int .i64 zi.txn.start.1, .int .i64 zi.txn.start.2, .int .i64 zi.seq, .int .i64 zi.at_.1, .int .i64 zi.at_.2, .string zi.val, .bool zi.gone] 30
  have hB : Below w6.heap.size w6 (w6.alloc (.cells #[.slice qo r qd, .bool zo, .int .i64 zi.txn.id, .int .i64 zi.txn.ep, .string zi.txn.anchor, .int .i64 zi.txn.start.1, .int .i64 zi.txn.start.2, .int .i64 zi.seq, .int .i64 zi.at_.1, .int .i64 zi.at_.2, .string zi.val, .bool zi.gone] 30)) := (Below.refl w6.heap.size w6).alloc (Nat.le_refl _) _
  replace C := C.later hB
  replace A := A.later hB
  replace K := K.later hB
  replace X := X.later hB
  replace S := S.later hB
  replace M := M.later hB
  replace Y := Y.later hB
  replace T := T.later hB
  replace N := N.later hB
  replace P := P.later hB
  replace hvk := hvk.later hB
  replace hvx := hvx.later hB
  replace hvy := hvy.later hB
  replace hvp := hvp.later hB
  have hvq := ho.later hB
  replace hB := hBw.trans (hB.mono hBw.size)
  clear hBw ho
  clear A
  go_wp2_with fail
  generalize w6.alloc _ = W6 at *
  refine (hA _).mono ?_
  rintro e w7 ⟨rfl, hb⟩
  replace C := C.later hb
  replace K := K.later hb
  replace X := X.later hb
  replace S := S.later hb
  replace M := M.later hb
  replace Y := Y.later hb
  replace T := T.later hb
  replace N := N.later hb
  replace P := P.later hb
  replace Q := Q.later hb
  replace hvk := hvk.later hb
  replace hvx := hvx.later hb
  replace hvy := hvy.later hb
  replace hvp := hvp.later hb
  replace hvq := hvq.later hb
  replace hB := hB.trans (hb.mono hB.size)
  clear hb
  have X_0 := X.c 0; have X_1 := X.c 1; have X_2 := X.c 2; have X_3 := X.c 3; have X_4 := X.c 4; have X_5 := X.c 5; have X_6 := X.c 6; have X_7 := X.c 7; have X_8 := X.c 8; have X_9 := X.c 9; have X_10 := X.c 10; have X_11 := X.c 11; simp only [List.getElem?_cons_zero, List.getElem?_cons_succ] at X_0 X_1 X_2 X_3 X_4 X_5 X_6 X_7 X_8 X_9 X_10 X_11
  have Y_0 := Y.c 0; have Y_1 := Y.c 1; have Y_2 := Y.c 2; have Y_3 := Y.c 3; have Y_4 := Y.c 4; have Y_5 := Y.c 5; have Y_6 := Y.c 6; have Y_7 := Y.c 7; have Y_8 := Y.c 8; have Y_9 := Y.c 9; have Y_10 := Y.c 10; have Y_11 := Y.c 11; simp only [List.getElem?_cons_zero, List.getElem?_cons_succ] at Y_0 Y_1 Y_2 Y_3 Y_4 Y_5 Y_6 Y_7 Y_8 Y_9 Y_10 Y_11
  go_wp2_with fail
  have h := refsame_any bo co d f yv yv yo yo yi yi w7 hvx hvy
  rw [(sameC_iff _ _).2 rfl] at h
  simp only [unhide Hl] at h
  refine h.mono ?_
  rintro e w8 ⟨rfl, hb⟩
  clear X_0 X_1 X_2 X_3 X_4 X_5 X_6 X_7 X_8 X_9 X_10 X_11 Y_0 Y_1 Y_2 Y_3 Y_4 Y_5 Y_6 Y_7 Y_8 Y_9 Y_10 Y_11
  replace C := C.later hb
  replace K := K.later hb
  replace X := X.later hb
  replace S := S.later hb
  replace M := M.later hb
  replace Y := Y.later hb
  replace T := T.later hb
  replace N := N.later hb
  replace P := P.later hb
  replace Q := Q.later hb
  replace hvk := hvk.later hb
  replace hvx := hvx.later hb
  replace hvy := hvy.later hb
  replace hvp := hvp.later hb
  replace hvq := hvq.later hb
  replace hB := hB.trans (hb.mono hB.size)
  clear hb h X Y hvx hvy
  have qs := fun w => eqlS s s w
  have qm := fun w => eqlM m m w
  rw [sameS_self] at qs
  rw [sameM_self] at qm
  have e1 : (er == er) = true := by simp
  have e2 : (ez == ez) = true := by simp
  have S_0 := S.c 0; have S_1 := S.c 1; simp only [List.getElem?_cons_zero, List.getElem?_cons_succ] at S_0 S_1
  have T_0 := T.c 0; have T_1 := T.c 1; simp only [List.getElem?_cons_zero, List.getElem?_cons_succ] at T_0 T_1
  have M_0 := M.c 0; have M_1 := M.c 1; have M_2 := M.c 2; have M_3 := M.c 3; have M_4 := M.c 4; simp only [List.getElem?_cons_zero, List.getElem?_cons_succ] at M_0 M_1 M_2 M_3 M_4
  have N_0 := N.c 0; have N_1 := N.c 1; have N_2 := N.c 2; have N_3 := N.c 3; have N_4 := N.c 4; simp only [List.getElem?_cons_zero, List.getElem?_cons_succ] at N_0 N_1 N_2 N_3 N_4
  have P_0 := P.c 0; have P_1 := P.c 1; have P_2 := P.c 2; have P_3 := P.c 3; have P_4 := P.c 4; have P_5 := P.c 5; have P_6 := P.c 6; have P_7 := P.c 7; have P_8 := P.c 8; have P_9 := P.c 9; have P_10 := P.c 10; have P_11 := P.c 11; simp only [List.getElem?_cons_zero, List.getElem?_cons_succ] at P_0 P_1 P_2 P_3 P_4 P_5 P_6 P_7 P_8 P_9 P_10 P_11
  have Q_0 := Q.c 0; have Q_1 := Q.c 1; have Q_2 := Q.c 2; have Q_3 := Q.c 3; have Q_4 := Q.c 4; have Q_5 := Q.c 5; have Q_6 := Q.c 6; have Q_7 := Q.c 7; have Q_8 := Q.c 8; have Q_9 := Q.c 9; have Q_10 := Q.c 10; have Q_11 := Q.c 11; simp only [List.getElem?_cons_zero, List.getElem?_cons_succ] at Q_0 Q_1 Q_2 Q_3 Q_4 Q_5 Q_6 Q_7 Q_8 Q_9 Q_10 Q_11
  go_wp2_with fail
  have h := refsame_any po qo pd qd zv zv zo zo zi zi w8 hvp hvq
  rw [(sameC_iff _ _).2 rfl] at h
  simp only [unhide Hr] at h
  refine h.mono ?_
  rintro e w9 ⟨rfl, hb⟩
  clear S_0 S_1 T_0 T_1 M_0 M_1 M_2 M_3 M_4 N_0 N_1 N_2 N_3 N_4 P_0 P_1 P_2 P_3 P_4 P_5 P_6 P_7 P_8 P_9 P_10 P_11 Q_0 Q_1 Q_2 Q_3 Q_4 Q_5 Q_6 Q_7 Q_8 Q_9 Q_10 Q_11
  replace C := C.later hb
  replace K := K.later hb
  replace hvk := hvk.later hb
  replace hB := hB.trans (hb.mono hB.size)
  clear hb h S T M N P Q hvp hvq qs qm
  have C_0 := C.c 0; have C_1 := C.c 1; have C_2 := C.c 2; have C_3 := C.c 3; have C_4 := C.c 4; have C_5 := C.c 5; have C_6 := C.c 6; have C_7 := C.c 7; have C_8 := C.c 8; have C_9 := C.c 9; have C_10 := C.c 10; have C_11 := C.c 11; simp only [List.getElem?_cons_zero, List.getElem?_cons_succ] at C_0 C_1 C_2 C_3 C_4 C_5 C_6 C_7 C_8 C_9 C_10 C_11
  have K_0 := K.c 0; have K_1 := K.c 1; have K_2 := K.c 2; have K_3 := K.c 3; have K_4 := K.c 4; have K_5 := K.c 5; have K_6 := K.c 6; have K_7 := K.c 7; have K_8 := K.c 8; have K_9 := K.c 9; have K_10 := K.c 10; have K_11 := K.c 11; simp only [List.getElem?_cons_zero, List.getElem?_cons_succ] at K_0 K_1 K_2 K_3 K_4 K_5 K_6 K_7 K_8 K_9 K_10 K_11
  go_wp2_with fail
  have h := refsame_any ao ko c kd vs vs o o i i w9 ((unhide Hv).later hB) hvk
  rw [(sameC_iff _ _).2 rfl] at h
  simp only [unhide Hn] at h
  refine h.mono ?_
  rintro e wq ⟨rfl, hbq⟩
  have HB := hide (hB.trans (hbq.mono hB.size))
  clear hbq hB h C K hvk
  clear C_0 C_1 C_2 C_3 C_4 C_5 C_6 C_7 C_8 C_9 C_10 C_11 K_0 K_1 K_2 K_3 K_4 K_5 K_6 K_7 K_8 K_9 K_10 K_11
  go_wp2
  go_ret
  exact ⟨rfl, unhide HB⟩
end

end Go.Proofs.Ytcahmnpoajnmpaa
