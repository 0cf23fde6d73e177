/-
  The contract of the document's Write: none is open. No law is proved here.
-/
import Derived.Test.YtcahmnpoajnmpaaVx2
namespace Go.Proofs.Ytcahmnpoajnmpaa
open Go.RowKit
set_option linter.unusedVariables false

section
set_option maxRecDepth 100000
set_option maxHeartbeats 20000000

theorem refwrite_f (ao : Option Addr) (c : Nat) (vs : List Ver) (i j : Itn) (w : World) (hv : Vs w ao c vs) (hlim : vs.length ≤ 2932031007400) :
    Calls Try.prog 25 #[(.agg #[.slice ao vs.length c, .bool false, .int .i64 i.txn.id, .int .i64 i.txn.ep, .string i.txn.anchor, .int .i64 i.txn.start.1, .int .i64 i.txn.start.2, .int .i64 i.seq, .int .i64 i.at_.1, .int .i64 i.at_.2, .string i.val, .bool i.gone]), (.agg #[.int .i64 j.txn.id, .int .i64 j.txn.ep, .string j.txn.anchor, .int .i64 j.txn.start.1, .int .i64 j.txn.start.2, .int .i64 j.seq, .int .i64 j.at_.1, .int .i64 j.at_.2, .string j.val, .bool j.gone])] w fun e w' => ∃ bo d, e = .returned (.tuple #[(.agg #[.slice bo (writeC ⟨vs, false, i⟩ j).1.vs.length d, .bool (writeC ⟨vs, false, i⟩ j).1.opn, .int .i64 (writeC ⟨vs, false, i⟩ j).1.itn.txn.id, .int .i64 (writeC ⟨vs, false, i⟩ j).1.itn.txn.ep, .string (writeC ⟨vs, false, i⟩ j).1.itn.txn.anchor, .int .i64 (writeC ⟨vs, false, i⟩ j).1.itn.txn.start.1, .int .i64 (writeC ⟨vs, false, i⟩ j).1.itn.txn.start.2, .int .i64 (writeC ⟨vs, false, i⟩ j).1.itn.seq, .int .i64 (writeC ⟨vs, false, i⟩ j).1.itn.at_.1, .int .i64 (writeC ⟨vs, false, i⟩ j).1.itn.at_.2, .string (writeC ⟨vs, false, i⟩ j).1.itn.val, .bool (writeC ⟨vs, false, i⟩ j).1.itn.gone]), (.agg #[.int .i64 (writeC ⟨vs, false, i⟩ j).2.1.1, .int .i64 (writeC ⟨vs, false, i⟩ j).2.1.2]), (.agg #[.int .i64 (writeC ⟨vs, false, i⟩ j).2.2.1.id, .int .i64 (writeC ⟨vs, false, i⟩ j).2.2.1.ep, .string (writeC ⟨vs, false, i⟩ j).2.2.1.anchor, .int .i64 (writeC ⟨vs, false, i⟩ j).2.2.1.start.1, .int .i64 (writeC ⟨vs, false, i⟩ j).2.2.1.start.2]), .int .i64 (writeC ⟨vs, false, i⟩ j).2.2.2]) ∧ Vs w' bo d (writeC ⟨vs, false, i⟩ j).1.vs ∧ Below w.heap.size w w' := by
  obtain ⟨X, hX⟩ : ∃ X, writeC ⟨vs, false, i⟩ j = X := ⟨_, rfl⟩
  rw [hX]
  rw [writeC_form, placeR_last] at hX
  have l1 := hv.len
  simp only [maxLen] at l1
  have hCo := fun w' (hb : Below w.heap.size w w') => refcopy_any ao c vs false i w' (hv.later hb) hlim
  have hLa := fun w' (hb : Below w.heap.size w w') => last_any ao c vs false i w' (hv.later hb)
  have hOk := fun (a : Stp) w => refright_any a.1 a.2 w
  simp only [right_eq] at hOk
  generalize (lastP vs).1 = s at hLa hX
  generalize (lastP vs).2 = is at hLa hX
  obtain ⟨n, hn⟩ : ∃ n, vs.length = n := ⟨_, rfl⟩
  have Hn := hide hn
  have Hv := hide hv
  simp only [hn] at hCo hLa hlim l1 ⊢
  have C := (((((Blk.new w #[.slice ao n c, .bool false, .int .i64 i.txn.id, .int .i64 i.txn.ep, .string i.txn.anchor, .int .i64 i.txn.start.1, .int .i64 i.txn.start.2, .int .i64 i.seq, .int .i64 i.at_.1, .int .i64 i.at_.2, .string i.val, .bool i.gone] 30).alloc (.cells #[.int .i64 j.txn.id, .int .i64 j.txn.ep, .string j.txn.anchor, .int .i64 j.txn.start.1, .int .i64 j.txn.start.2, .int .i64 j.seq, .int .i64 j.at_.1, .int .i64 j.at_.2, .string j.val, .bool j.gone] 28)).alloc (.cells #[.slice none 0 0, .bool false, .int .i64 0, .int .i64 0, .string ⟨#[]⟩, .int .i64 0, .int .i64 0, .int .i64 0, .int .i64 0, .int .i64 0, .string ⟨#[]⟩, .bool false] 30)).alloc (.cells #[.int .i64 0, .int .i64 0] 24)).alloc (.cells #[.int .i64 0, .int .i64 0, .string ⟨#[]⟩, .int .i64 0, .int .i64 0] 26)).alloc (.cells #[.int .i64 i.txn.id, .int .i64 i.txn.ep, .string i.txn.anchor, .int .i64 i.txn.start.1, .int .i64 i.txn.start.2, .int .i64 i.seq, .int .i64 i.at_.1, .int .i64 i.at_.2, .string i.val, .bool i.gone] 28)
  have I := ((((Blk.new (w.alloc (.cells #[.slice ao n c, .bool false, .int .i64 i.txn.id, .int .i64 i.txn.ep, .string i.txn.anchor, .int .i64 i.txn.start.1, .int .i64 i.txn.start.2, .int .i64 i.seq, .int .i64 i.at_.1, .int .i64 i.at_.2, .string i.val, .bool i.gone] 30)) #[.int .i64 j.txn.id, .int .i64 j.txn.ep, .string j.txn.anchor, .int .i64 j.txn.start.1, .int .i64 j.txn.start.2, .int .i64 j.seq, .int .i64 j.at_.1, .int .i64 j.at_.2, .string j.val, .bool j.gone] 28).alloc (.cells #[.slice none 0 0, .bool false, .int .i64 0, .int .i64 0, .string ⟨#[]⟩, .int .i64 0, .int .i64 0, .int .i64 0, .int .i64 0, .int .i64 0, .string ⟨#[]⟩, .bool false] 30)).alloc (.cells #[.int .i64 0, .int .i64 0] 24)).alloc (.cells #[.int .i64 0, .int .i64 0, .string ⟨#[]⟩, .int .i64 0, .int .i64 0] 26)).alloc (.cells #[.int .i64 i.txn.id, .int .i64 i.txn.ep, .string i.txn.anchor, .int .i64 i.txn.start.1, .int .i64 i.txn.start.2, .int .i64 i.seq, .int .i64 i.at_.1, .int .i64 i.at_.2, .string i.val, .bool i.gone] 28)
  rw [show (w.alloc (.cells #[.slice ao n c, .bool false, .int .i64 i.txn.id, .int .i64 i.txn.ep, .string i.txn.anchor, .int .i64 i.txn.start.1, .int .i64 i.txn.start.2, .int .i64 i.seq, .int .i64 i.at_.1, .int .i64 i.at_.2, .string i.val, .bool i.gone] 30)).heap.size = w.heap.size + 1 by simp] at I
  have R := (((Blk.new ((w.alloc (.cells #[.slice ao n c, .bool false, .int .i64 i.txn.id, .int .i64 i.txn.ep, .string i.txn.anchor, .int .i64 i.txn.start.1, .int .i64 i.txn.start.2, .int .i64 i.seq, .int .i64 i.at_.1, .int .i64 i.at_.2, .string i.val, .bool i.gone] 30)).alloc (.cells #[.int .i64 j.txn.id, .int .i64 j.txn.ep, .string j.txn.anchor, .int .i64 j.txn.start.1, .int .i64 j.txn.start.2, .int .i64 j.seq, .int .i64 j.at_.1, .int .i64 j.at_.2, .string j.val, .bool j.gone] 28)) #[.slice none 0 0, .bool false, .int .i64 0, .int .i64 0, .string ⟨#[]⟩, .int .i64 0, .int .i64 0, .int .i64 0, .int .i64 0, .int .i64 0, .string ⟨#[]⟩, .bool false] 30).alloc (.cells #[.int .i64 0, .int .i64 0] 24)).alloc (.cells #[.int .i64 0, .int .i64 0, .string ⟨#[]⟩, .int .i64 0, .int .i64 0] 26)).alloc (.cells #[.int .i64 i.txn.id, .int .i64 i.txn.ep, .string i.txn.anchor, .int .i64 i.txn.start.1, .int .i64 i.txn.start.2, .int .i64 i.seq, .int .i64 i.at_.1, .int .i64 i.at_.2, .string i.val, .bool i.gone] 28)
  rw [show ((w.alloc (.cells #[.slice ao n c, .bool false, .int .i64 i.txn.id, .int .i64 i.txn.ep, .string i.txn.anchor, .int .i64 i.txn.start.1, .int .i64 i.txn.start.2, .int .i64 i.seq, .int .i64 i.at_.1, .int .i64 i.at_.2, .string i.val, .bool i.gone] 30)).alloc (.cells #[.int .i64 j.txn.id, .int .i64 j.txn.ep, .string j.txn.anchor, .int .i64 j.txn.start.1, .int .i64 j.txn.start.2, .int .i64 j.seq, .int .i64 j.at_.1, .int .i64 j.at_.2, .string j.val, .bool j.gone] 28)).heap.size = w.heap.size + 1 + 1 by simp] at R
  have S := ((Blk.new (((w.alloc (.cells #[.slice ao n c, .bool false, .int .i64 i.txn.id, .int .i64 i.txn.ep, .string i.txn.anchor, .int .i64 i.txn.start.1, .int .i64 i.txn.start.2, .int .i64 i.seq, .int .i64 i.at_.1, .int .i64 i.at_.2, .string i.val, .bool i.gone] 30)).alloc (.cells #[.int .i64 j.txn.id, .int .i64 j.txn.ep, .string j.txn.anchor, .int .i64 j.txn.start.1, .int .i64 j.txn.start.2, .int .i64 j.seq, .int .i64 j.at_.1, .int .i64 j.at_.2, .string j.val, .bool j.gone] 28)).alloc (.cells #[.slice none 0 0, .bool false, .int .i64 0, .int .i64 0, .string ⟨#[]⟩, .int .i64 0, .int .i64 0, .int .i64 0, .int .i64 0, .int .i64 0, .string ⟨#[]⟩, .bool false] 30)) #[.int .i64 0, .int .i64 0] 24).alloc (.cells #[.int .i64 0, .int .i64 0, .string ⟨#[]⟩, .int .i64 0, .int .i64 0] 26)).alloc (.cells #[.int .i64 i.txn.id, .int .i64 i.txn.ep, .string i.txn.anchor, .int .i64 i.txn.start.1, .int .i64 i.txn.start.2, .int .i64 i.seq, .int .i64 i.at_.1, .int .i64 i.at_.2, .string i.val, .bool i.gone] 28)
  rw [show (((w.alloc (.cells #[.slice ao n c, .bool false, .int .i64 i.txn.id, .int .i64 i.txn.ep, .string i.txn.anchor, .int .i64 i.txn.start.1, .int .i64 i.txn.start.2, .int .i64 i.seq, .int .i64 i.at_.1, .int .i64 i.at_.2, .string i.val, .bool i.gone] 30)).alloc (.cells #[.int .i64 j.txn.id, .int .i64 j.txn.ep, .string j.txn.anchor, .int .i64 j.txn.start.1, .int .i64 j.txn.start.2, .int .i64 j.seq, .int .i64 j.at_.1, .int .i64 j.at_.2, .string j.val, .bool j.gone] 28)).alloc (.cells #[.slice none 0 0, .bool false, .int .i64 0, .int .i64 0, .string ⟨#[]⟩, .int .i64 0, .int .i64 0, .int .i64 0, .int .i64 0, .int .i64 0, .string ⟨#[]⟩, .bool false] 30)).heap.size = w.heap.size + 1 + 1 + 1 by simp] at S
  have M := (Blk.new ((((w.alloc (.cells #[.slice ao n c, .bool false, .int .i64 i.txn.id, .int .i64 i.txn.ep, .string i.txn.anchor, .int .i64 i.txn.start.1, .int .i64 i.txn.start.2, .int .i64 i.seq, .int .i64 i.at_.1, .int .i64 i.at_.2, .string i.val, .bool i.gone] 30)).alloc (.cells #[.int .i64 j.txn.id, .int .i64 j.txn.ep, .string j.txn.anchor, .int .i64 j.txn.start.1, .int .i64 j.txn.start.2, .int .i64 j.seq, .int .i64 j.at_.1, .int .i64 j.at_.2, .string j.val, .bool j.gone] 28)).alloc (.cells #[.slice none 0 0, .bool false, .int .i64 0, .int .i64 0, .string ⟨#[]⟩, .int .i64 0, .int .i64 0, .int .i64 0, .int .i64 0, .int .i64 0, .string ⟨#[]⟩, .bool false] 30)).alloc (.cells #[.int .i64 0, .int .i64 0] 24)) #[.int .i64 0, .int .i64 0, .string ⟨#[]⟩, .int .i64 0, .int .i64 0] 26).alloc (.cells #[.int .i64 i.txn.id, .int .i64 i.txn.ep, .string i.txn.anchor, .int .i64 i.txn.start.1, .int .i64 i.txn.start.2, .int .i64 i.seq, .int .i64 i.at_.1, .int .i64 i.at_.2, .string i.val, .bool i.gone] 28)
  rw [show ((((w.alloc (.cells #[.slice ao n c, .bool false, .int .i64 i.txn.id, .int .i64 i.txn.ep, .string i.txn.anchor, .int .i64 i.txn.start.1, .int .i64 i.txn.start.2, .int .i64 i.seq, .int .i64 i.at_.1, .int .i64 i.at_.2, .string i.val, .bool i.gone] 30)).alloc (.cells #[.int .i64 j.txn.id, .int .i64 j.txn.ep, .string j.txn.anchor, .int .i64 j.txn.start.1, .int .i64 j.txn.start.2, .int .i64 j.seq, .int .i64 j.at_.1, .int .i64 j.at_.2, .string j.val, .bool j.gone] 28)).alloc (.cells #[.slice none 0 0, .bool false, .int .i64 0, .int .i64 0, .string ⟨#[]⟩, .int .i64 0, .int .i64 0, .int .i64 0, .int .i64 0, .int .i64 0, .string ⟨#[]⟩, .bool false] 30)).alloc (.cells #[.int .i64 0, .int .i64 0] 24)).heap.size = w.heap.size + 1 + 1 + 1 + 1 by simp] at M
  have Q := Blk.new (((((w.alloc (.cells #[.slice ao n c, .bool false, .int .i64 i.txn.id, .int .i64 i.txn.ep, .string i.txn.anchor, .int .i64 i.txn.start.1, .int .i64 i.txn.start.2, .int .i64 i.seq, .int .i64 i.at_.1, .int .i64 i.at_.2, .string i.val, .bool i.gone] 30)).alloc (.cells #[.int .i64 j.txn.id, .int .i64 j.txn.ep, .string j.txn.anchor, .int .i64 j.txn.start.1, .int .i64 j.txn.start.2, .int .i64 j.seq, .int .i64 j.at_.1, .int .i64 j.at_.2, .string j.val, .bool j.gone] 28)).alloc (.cells #[.slice none 0 0, .bool false, .int .i64 0, .int .i64 0, .string ⟨#[]⟩, .int .i64 0, .int .i64 0, .int .i64 0, .int .i64 0, .int .i64 0, .string ⟨#[]⟩, .bool false] 30)).alloc (.cells #[.int .i64 0, .int .i64 0] 24)).alloc (.cells #[.int .i64 0, .int .i64 0, .string ⟨#[]⟩, .int .i64 0, .int .i64 0] 26)) #[.int .i64 i.txn.id, .int .i64 i.txn.ep, .string i.txn.anchor, .int .i64 i.txn.start.1, .int .i64 i.txn.start.2, .int .i64 i.seq, .int .i64 i.at_.1, .int .i64 i.at_.2, .string i.val, .bool i.gone] 28
  rw [show (((((w.alloc (.cells #[.slice ao n c, .bool false, .int .i64 i.txn.id, .int .i64 i.txn.ep, .string i.txn.anchor, .int .i64 i.txn.start.1, .int .i64 i.txn.start.2, .int .i64 i.seq, .int .i64 i.at_.1, .int .i64 i.at_.2, .string i.val, .bool i.gone] 30)).alloc (.cells #[.int .i64 j.txn.id, .int .i64 j.txn.ep, .string j.txn.anchor, .int .i64 j.txn.start.1, .int .i64 j.txn.start.2, .int .i64 j.seq, .int .i64 j.at_.1, .int .i64 j.at_.2, .string j.val, .bool j.gone] 28)).alloc (.cells #[.slice none 0 0, .bool false, .int .i64 0, .int .i64 0, .string ⟨#[]⟩, .int .i64 0, .int .i64 0, .int .i64 0, .int .i64 0, .int .i64 0, .string ⟨#[]⟩, .bool false] 30)).alloc (.cells #[.int .i64 0, .int .i64 0] 24)).alloc (.cells #[.int .i64 0, .int .i64 0, .string ⟨#[]⟩, .int .i64 0, .int .i64 0] 26)).heap.size = w.heap.size + 1 + 1 + 1 + 1 + 1 by simp] at Q
  have hB : Below w.heap.size w ((((((w.alloc (.cells #[.slice ao n c, .bool false, .int .i64 i.txn.id, .int .i64 i.txn.ep, .string i.txn.anchor, .int .i64 i.txn.start.1, .int .i64 i.txn.start.2, .int .i64 i.seq, .int .i64 i.at_.1, .int .i64 i.at_.2, .string i.val, .bool i.gone] 30)).alloc (.cells #[.int .i64 j.txn.id, .int .i64 j.txn.ep, .string j.txn.anchor, .int .i64 j.txn.start.1, .int .i64 j.txn.start.2, .int .i64 j.seq, .int .i64 j.at_.1, .int .i64 j.at_.2, .string j.val, .bool j.gone] 28)).alloc (.cells #[.slice none 0 0, .bool false, .int .i64 0, .int .i64 0, .string ⟨#[]⟩, .int .i64 0, .int .i64 0, .int .i64 0, .int .i64 0, .int .i64 0, .string ⟨#[]⟩, .bool false] 30)).alloc (.cells #[.int .i64 0, .int .i64 0] 24)).alloc (.cells #[.int .i64 0, .int .i64 0, .string ⟨#[]⟩, .int .i64 0, .int .i64 0] 26)).alloc (.cells #[.int .i64 i.txn.id, .int .i64 i.txn.ep, .string i.txn.anchor, .int .i64 i.txn.start.1, .int .i64 i.txn.start.2, .int .i64 i.seq, .int .i64 i.at_.1, .int .i64 i.at_.2, .string i.val, .bool i.gone] 28)) := ((((((Below.refl w.heap.size w).alloc (Nat.le_refl _) _).alloc (by simp) _).alloc (by simp; omega) _).alloc (by simp; omega) _).alloc (by simp; omega) _).alloc (by simp; omega) _
  clear hv hn
  have HX : Hid ((if (vs.any fun v => decide (v.by_ = j.txn.id)) = true then (Chn.zero, (0, 0), Met.zero, 83) else tailW vs j (if is = true then (match nextS s with | none => ((0, 0), 31) | some n => finP (stepP false i (maxS j.at_ n))) else finP (stepP false i j.at_))) = X) := hide (by first | (rw [← hX]; simp; done) | (rw [← hX]; simp; rfl))
  clear hX
  go_enter Try.func25, Try.ntmps25
  go_upto_region 2 with fail
  generalize (((((w.alloc _).alloc _).alloc _).alloc _).alloc _).alloc _ = W at *
  have C_0 := C.c 0; have C_1 := C.c 1; have C_2 := C.c 2; have C_3 := C.c 3; have C_4 := C.c 4; have C_5 := C.c 5; have C_6 := C.c 6; have C_7 := C.c 7; have C_8 := C.c 8; have C_9 := C.c 9; have C_10 := C.c 10; have C_11 := C.c 11; simp only [List.getElem?_cons_zero, List.getElem?_cons_succ] at C_0 C_1 C_2 C_3 C_4 C_5 C_6 C_7 C_8 C_9 C_10 C_11
  have I_0 := I.c 0; have I_1 := I.c 1; have I_2 := I.c 2; have I_3 := I.c 3; have I_4 := I.c 4; have I_5 := I.c 5; have I_6 := I.c 6; have I_7 := I.c 7; have I_8 := I.c 8; have I_9 := I.c 9; simp only [List.getElem?_cons_zero, List.getElem?_cons_succ] at I_0 I_1 I_2 I_3 I_4 I_5 I_6 I_7 I_8 I_9
  have Q_0 := Q.c 0; have Q_1 := Q.c 1; have Q_2 := Q.c 2; have Q_3 := Q.c 3; have Q_4 := Q.c 4; have Q_5 := Q.c 5; have Q_6 := Q.c 6; have Q_7 := Q.c 7; have Q_8 := Q.c 8; have Q_9 := Q.c 9; simp only [List.getElem?_cons_zero, List.getElem?_cons_succ] at Q_0 Q_1 Q_2 Q_3 Q_4 Q_5 Q_6 Q_7 Q_8 Q_9
  go_upto_region 4 with fail
  clear C_0 C_1 C_2 C_3 C_4 C_5 C_6 C_7 C_8 C_9 C_10 C_11 I_0 I_1 I_2 I_3 I_4 I_5 I_6 I_7 I_8 I_9 Q_0 Q_1 Q_2 Q_3 Q_4 Q_5 Q_6 Q_7 Q_8 Q_9
  have HW := hide (And.intro hB (And.intro C (And.intro I (And.intro R (And.intro S (And.intro M Q))))))
  clear hB C I R S M Q
  go_wp2
  go_loopw [9] (fun u wr => ∃ k : Nat, u = .int .i64 k ∧ k ≤ n ∧ Hid (∀ t (h : t < vs.length), t < k → vs[t].by_ ≠ j.txn.id) ∧ Hid (Below W.heap.size W wr)) (fun u _ => n - (intOf u).toNat)
  case atStart => exact ⟨0, rfl, by omega, (fun t _ h => absurd h (Nat.not_lt_zero _)), Below.refl _ _⟩
  case round =>
    obtain ⟨k, rfl, hk, Ha, Hb⟩ := hrel
    obtain ⟨hB, C, I, R, S, M, Q⟩ := unhide HW
    replace C := C.later (unhide Hb)
    replace I := I.later (unhide Hb)
    replace R := R.later (unhide Hb)
    replace S := S.later (unhide Hb)
    replace M := M.later (unhide Hb)
    replace Q := Q.later (unhide Hb)
    replace hB := hB.trans ((unhide Hb).mono hB.size)
    by_cases hlt : k < n
    · have h1 : k < vs.length := by have := unhide Hn; omega
      obtain ⟨bb, oo, rfl, x⟩ := (unhide Hv).each k h1
      obtain ⟨v, hv0⟩ : ∃ v, vs[k] = v := ⟨_, rfl⟩
      rw [hv0] at x
      replace x := x.block (hB.block _ x.lt)
      have Hv0 := hide hv0
      have ii : Nonempty (Later wr) := ⟨⟨wr, Below.refl _ _⟩⟩
      have C_0 := C.c 0; simp only [List.getElem?_cons_zero] at C_0
      have C_1 := fun z : Later wr => (C.later z.below).c 0
      have I_1 := fun z : Later wr => (I.later z.below).c 0
      simp only [List.getElem?_cons_zero] at C_1 I_1
      have x4 := fun z : Later wr => z.cell x.c4
      clear x hv0 C I Q
      by_cases hid : v.by_ = j.txn.id
      · have hid' : (v.by_ == j.txn.id) = true := by simpa using hid
        obtain rfl : X = (Chn.zero, (0, 0), Met.zero, 83) := by
          rw [← unhide HX, if_pos]
          exact List.any_eq_true.2 ⟨vs[k], List.getElem_mem _, by rw [unhide Hv0]; simpa using hid⟩
        clear hid HX hLa hCo
        go_wp2_with fail
        refine wp_region_later (by kernel_rfl) (by kernel_rfl) ?_
        repeat (first
          | go_big_quiet_step (fail)
          | quiet_step (fail))
        refine wpQuiet_nil ?_
        intro w' hw'
        obtain ⟨⟨W6, hb6⟩, rfl⟩ := hw'
        replace R := R.later hb6
        replace S := S.later hb6
        replace M := M.later hb6
        replace hB := hB.trans (hb6.mono hB.size)
        clear ii C_0 C_1 I_1 x4 hb6
        have R_0 := R.c 0; have R_1 := R.c 1; have R_2 := R.c 2; have R_3 := R.c 3; have R_4 := R.c 4; have R_5 := R.c 5; have R_6 := R.c 6; have R_7 := R.c 7; have R_8 := R.c 8; have R_9 := R.c 9; have R_10 := R.c 10; have R_11 := R.c 11; simp only [List.getElem?_cons_zero, List.getElem?_cons_succ] at R_0 R_1 R_2 R_3 R_4 R_5 R_6 R_7 R_8 R_9 R_10 R_11
        have S_0 := S.c 0; have S_1 := S.c 1; simp only [List.getElem?_cons_zero, List.getElem?_cons_succ] at S_0 S_1
        have M_0 := M.c 0; have M_1 := M.c 1; have M_2 := M.c 2; have M_3 := M.c 3; have M_4 := M.c 4; simp only [List.getElem?_cons_zero, List.getElem?_cons_succ] at M_0 M_1 M_2 M_3 M_4
        have Rf := R.f
        have Sf := S.f
        have Mf := M.f
        have HB := hide hB
        clear hB
        go_wp2
        obtain ⟨q1, q2, q3⟩ := three R S M (by omega) (by omega) (by omega) [.slice none 0 0, .bool false, .int .i64 Itn.zero.txn.id, .int .i64 Itn.zero.txn.ep, .string Itn.zero.txn.anchor, .int .i64 Itn.zero.txn.start.1, .int .i64 Itn.zero.txn.start.2, .int .i64 Itn.zero.seq, .int .i64 Itn.zero.at_.1, .int .i64 Itn.zero.at_.2, .string Itn.zero.val, .bool Itn.zero.gone] [.int .i64 0, .int .i64 0] [.int .i64 Met.zero.id, .int .i64 Met.zero.ep, .string Met.zero.anchor, .int .i64 Met.zero.start.1, .int .i64 Met.zero.start.2] rfl rfl rfl
        exact bodyPost_ret (results_cste Try.results25 none 0 0 false Itn.zero (0, 0) Met.zero rfl rfl rfl rfl q1 q2 q3) rfl ⟨none, 0, rfl, Vs.zero _, below_setAll (by omega) [.int .i64 Met.zero.id, .int .i64 Met.zero.ep, .string Met.zero.anchor, .int .i64 Met.zero.start.1, .int .i64 Met.zero.start.2] 0 (below_setAll (by omega) [.int .i64 0, .int .i64 0] 0 (below_setAll (by omega) [.slice none 0 0, .bool false, .int .i64 Itn.zero.txn.id, .int .i64 Itn.zero.txn.ep, .string Itn.zero.txn.anchor, .int .i64 Itn.zero.txn.start.1, .int .i64 Itn.zero.txn.start.2, .int .i64 Itn.zero.seq, .int .i64 Itn.zero.at_.1, .int .i64 Itn.zero.at_.2, .string Itn.zero.val, .bool Itn.zero.gone] 0 (unhide HB)))⟩
      · have hid' : (v.by_ == j.txn.id) = false := by simpa using hid
        have Hid' := hide hid
        clear hid R S M hB
        go_wp2_with fail
        refine wp_region_later (by kernel_rfl) (by kernel_rfl) ?_
        repeat (first
          | go_big_quiet_step (fail)
          | quiet_step (fail))
        refine wpQuiet_nil ?_
        intro w' hw'
        obtain ⟨⟨W6, hb6⟩, rfl⟩ := hw'
        clear ii C_0 C_1 I_1 x4
        go_wp2
        go_roundw
        case rel =>
          refine ⟨k + 1, by go_num, by omega, (fun t h ht => ?_), (unhide Hb).trans (hb6.mono (unhide Hb).size)⟩
          by_cases e : t = k
          · subst e
            rw [unhide Hv0]
            exact unhide Hid'
          · exact unhide Ha t h (by omega)
        case measure => simp [intOf]; omega
    · have hno : (vs.any fun v => decide (v.by_ = j.txn.id)) = false := by
        rw [List.any_eq_false]
        intro v hv
        obtain ⟨t, ht, rfl⟩ := List.getElem_of_mem hv
        have := unhide Ha t ht (by have := unhide Hn; omega)
        simpa using this
      have HX' := HX
      clear HX
      have HX := hide (by have h := unhide HX'; rw [hno, if_neg (by simp)] at h; exact h)
      clear HX' hno Ha
      have C_0 := C.c 0; have C_1 := C.c 1; simp only [List.getElem?_cons_zero, List.getElem?_cons_succ] at C_0 C_1
      have N := Blk.new wr #[.int .i64 j.at_.1, .int .i64 j.at_.2] 24
      have hbN := (Below.refl wr.heap.size wr).alloc (Nat.le_refl _) (.cells #[.int .i64 j.at_.1, .int .i64 j.at_.2] 24)
      have I_0 := I.c 0; have I_1 := I.c 1; have I_2 := I.c 2; have I_3 := I.c 3; have I_4 := I.c 4; have I_5 := I.c 5; have I_6 := I.c 6; have I_7 := I.c 7; have I_8 := I.c 8; have I_9 := I.c 9; simp only [List.getElem?_cons_zero, List.getElem?_cons_succ] at I_0 I_1 I_2 I_3 I_4 I_5 I_6 I_7 I_8 I_9
      have Q_0 := Q.c 0; have Q_1 := Q.c 1; have Q_2 := Q.c 2; have Q_3 := Q.c 3; have Q_4 := Q.c 4; have Q_5 := Q.c 5; have Q_6 := Q.c 6; have Q_7 := Q.c 7; have Q_8 := Q.c 8; have Q_9 := Q.c 9; simp only [List.getElem?_cons_zero, List.getElem?_cons_succ] at Q_0 Q_1 Q_2 Q_3 Q_4 Q_5 Q_6 Q_7 Q_8 Q_9
      have HnA := hide (And.intro (Nat.ne_of_lt C.lt) (And.intro (Nat.ne_of_lt I.lt) (And.intro (Nat.ne_of_lt R.lt) (And.intro (Nat.ne_of_lt S.lt) (And.intro (Nat.ne_of_lt M.lt) (And.intro (Nat.ne_of_lt Q.lt) hB.size))))))
      have HnN := hide (And.intro (Nat.ne_of_gt R.lt) (And.intro (Nat.ne_of_gt S.lt) (Nat.ne_of_gt M.lt)))
      replace C := C.later hbN
      replace I := I.later hbN
      replace R := R.later hbN
      replace S := S.later hbN
      replace M := M.later hbN
      replace Q := Q.later hbN
      replace hB := hB.trans (hbN.mono hB.size)
      clear hbN
      go_upto_region 14 with fail
      clear I_0 I_1 I_2 I_3 I_4 I_5 I_6 I_7 I_8 I_9 Q_0 Q_1 Q_2 Q_3 Q_4 Q_5 Q_6 Q_7 Q_8 Q_9
      generalize wr.alloc _ = W3 at *
      have C_0 := C.c 0; have C_1 := C.c 1; have C_2 := C.c 2; have C_3 := C.c 3; have C_4 := C.c 4; have C_5 := C.c 5; have C_6 := C.c 6; have C_7 := C.c 7; have C_8 := C.c 8; have C_9 := C.c 9; have C_10 := C.c 10; have C_11 := C.c 11; simp only [List.getElem?_cons_zero, List.getElem?_cons_succ] at C_0 C_1 C_2 C_3 C_4 C_5 C_6 C_7 C_8 C_9 C_10 C_11
      go_wp2_with fail
      refine (hLa _ hB).mono ?_
      rintro e w3 ⟨rfl, hb3⟩
      clear C_0 C_1 C_2 C_3 C_4 C_5 C_6 C_7 C_8 C_9 C_10 C_11
      replace C := C.later hb3
      replace I := I.later hb3
      replace R := R.later hb3
      replace S := S.later hb3
      replace M := M.later hb3
      replace Q := Q.later hb3
      replace hB := hB.trans (hb3.mono hB.size)
      replace N := N.later hb3
      clear hb3 hLa
      have L := Blk.new w3 #[.int .i64 s.1, .int .i64 s.2] 24
      have hbL := (Below.refl w3.heap.size w3).alloc (Nat.le_refl _) (.cells #[.int .i64 s.1, .int .i64 s.2] 24)
      replace C := C.later hbL
      replace I := I.later hbL
      replace R := R.later hbL
      replace S := S.later hbL
      replace M := M.later hbL
      replace Q := Q.later hbL
      replace hB := hB.trans (hbL.mono hB.size)
      replace N := N.later hbL
      clear hbL
      go_upto_region 15 with fail
      generalize w3.alloc _ = W4 at *
      cases is
      · have HX2 := hide (by have h := unhide HX; rw [if_neg (by simp)] at h; exact h)
        clear L HX
        have HX := HX2
        clear HX2
        have C_0 := C.c 0; have C_1 := C.c 1; simp only [List.getElem?_cons_zero, List.getElem?_cons_succ] at C_0 C_1
        go_upto_region 22 with fail
        have N_0 := N.c 0; have N_1 := N.c 1; simp only [List.getElem?_cons_zero, List.getElem?_cons_succ] at N_0 N_1
        go_wp2_with fail
        refine (hOk j.at_ _).mono ?_
        rintro e w8 ⟨rfl, hb8⟩
        clear N_0 N_1
        replace C := C.later hb8
        replace I := I.later hb8
        replace R := R.later hb8
        replace S := S.later hb8
        replace M := M.later hb8
        replace Q := Q.later hb8
        replace hB := hB.trans (hb8.mono hB.size)
        replace N := N.later hb8
        clear hb8
        cases hok : okS j.at_
        · obtain rfl : X = (Chn.zero, (0, 0), Met.zero, 31) := by rw [← unhide HX]; unfold finP stepP tailW; simp [hok]
          clear HX hok C I Q N hCo
          have R_0 := R.c 0; have R_1 := R.c 1; have R_2 := R.c 2; have R_3 := R.c 3; have R_4 := R.c 4; have R_5 := R.c 5; have R_6 := R.c 6; have R_7 := R.c 7; have R_8 := R.c 8; have R_9 := R.c 9; have R_10 := R.c 10; have R_11 := R.c 11; simp only [List.getElem?_cons_zero, List.getElem?_cons_succ] at R_0 R_1 R_2 R_3 R_4 R_5 R_6 R_7 R_8 R_9 R_10 R_11
          have S_0 := S.c 0; have S_1 := S.c 1; simp only [List.getElem?_cons_zero, List.getElem?_cons_succ] at S_0 S_1
          have M_0 := M.c 0; have M_1 := M.c 1; have M_2 := M.c 2; have M_3 := M.c 3; have M_4 := M.c 4; simp only [List.getElem?_cons_zero, List.getElem?_cons_succ] at M_0 M_1 M_2 M_3 M_4
          have Rf := R.f
          have Sf := S.f
          have Mf := M.f
          have HB := hide hB
          clear hB
          go_wp2
          obtain ⟨q1, q2, q3⟩ := three R S M (by omega) (by omega) (by omega) [.slice none 0 0, .bool false, .int .i64 Itn.zero.txn.id, .int .i64 Itn.zero.txn.ep, .string Itn.zero.txn.anchor, .int .i64 Itn.zero.txn.start.1, .int .i64 Itn.zero.txn.start.2, .int .i64 Itn.zero.seq, .int .i64 Itn.zero.at_.1, .int .i64 Itn.zero.at_.2, .string Itn.zero.val, .bool Itn.zero.gone] [.int .i64 0, .int .i64 0] [.int .i64 Met.zero.id, .int .i64 Met.zero.ep, .string Met.zero.anchor, .int .i64 Met.zero.start.1, .int .i64 Met.zero.start.2] rfl rfl rfl
          exact bodyPost_ret (results_cste Try.results25 none 0 0 false Itn.zero (0, 0) Met.zero rfl rfl rfl rfl q1 q2 q3) rfl ⟨none, 0, rfl, Vs.zero _, below_setAll (by omega) [.int .i64 Met.zero.id, .int .i64 Met.zero.ep, .string Met.zero.anchor, .int .i64 Met.zero.start.1, .int .i64 Met.zero.start.2] 0 (below_setAll (by omega) [.int .i64 0, .int .i64 0] 0 (below_setAll (by omega) [.slice none 0 0, .bool false, .int .i64 Itn.zero.txn.id, .int .i64 Itn.zero.txn.ep, .string Itn.zero.txn.anchor, .int .i64 Itn.zero.txn.start.1, .int .i64 Itn.zero.txn.start.2, .int .i64 Itn.zero.seq, .int .i64 Itn.zero.at_.1, .int .i64 Itn.zero.at_.2, .string Itn.zero.val, .bool Itn.zero.gone] 0 (unhide HB)))⟩
        · have Hok := hide hok
          clear hok
          obtain ⟨y, hy⟩ : ∃ y : Stp, j.at_ = y := ⟨_, rfl⟩
          obtain ⟨jj, hjj⟩ : ∃ jj : Itn, jj = { j with at_ := y } := ⟨_, rfl⟩
          obtain rfl : X = (⟨vs, true, jj⟩, y, Met.zero, 0) := by rw [← unhide HX, hjj, ← hy]; unfold finP stepP tailW; simp [unhide Hok]
          rw [hy] at N
          clear HX Hok hy
          have Hjj := hide hjj
          clear hjj
          have C_0 := C.c 0; have C_1 := C.c 1; have C_2 := C.c 2; have C_3 := C.c 3; have C_4 := C.c 4; have C_5 := C.c 5; have C_6 := C.c 6; have C_7 := C.c 7; have C_8 := C.c 8; have C_9 := C.c 9; have C_10 := C.c 10; have C_11 := C.c 11; simp only [List.getElem?_cons_zero, List.getElem?_cons_succ] at C_0 C_1 C_2 C_3 C_4 C_5 C_6 C_7 C_8 C_9 C_10 C_11
          go_wp2_with fail
          have hltR := R.lt
          have hltS := S.lt
          have hltM := M.lt
          have hsB := hB.size
          refine (hCo _ hB).mono ?_
          rintro e w9 ⟨bo, d, rfl, ho, hb9⟩
          clear C_0 C_1 C_2 C_3 C_4 C_5 C_6 C_7 C_8 C_9 C_10 C_11
          replace C := C.later hb9
          replace I := I.later hb9
          replace R := R.later hb9
          replace S := S.later hb9
          replace M := M.later hb9
          replace Q := Q.later hb9
          replace hB := hB.trans (hb9.mono hB.size)
          replace N := N.later hb9
          have offR := ho.offlow hltR
          have offS := ho.offlow hltS
          have offM := ho.offlow hltM
          have offO := ho.vs.off (Nat.le_refl _)
          have hsO := hb9.size
          have neI := Nat.ne_of_lt I.lt
          have neR := Nat.ne_of_lt R.lt
          have neS := Nat.ne_of_lt S.lt
          have neM := Nat.ne_of_lt M.lt
          have neN := Nat.ne_of_lt N.lt
          clear hb9 hCo hltR hltS hltM
          have O := Blk.new w9 #[.slice bo n d, .bool false, .int .i64 i.txn.id, .int .i64 i.txn.ep, .string i.txn.anchor, .int .i64 i.txn.start.1, .int .i64 i.txn.start.2, .int .i64 i.seq, .int .i64 i.at_.1, .int .i64 i.at_.2, .string i.val, .bool i.gone] 30
          have hbO := (Below.refl w9.heap.size w9).alloc (Nat.le_refl _) (.cells #[.slice bo n d, .bool false, .int .i64 i.txn.id, .int .i64 i.txn.ep, .string i.txn.anchor, .int .i64 i.txn.start.1, .int .i64 i.txn.start.2, .int .i64 i.seq, .int .i64 i.at_.1, .int .i64 i.at_.2, .string i.val, .bool i.gone] 30)
          replace C := C.later hbO
          replace I := I.later hbO
          replace R := R.later hbO
          replace S := S.later hbO
          replace M := M.later hbO
          replace Q := Q.later hbO
          replace hB := hB.trans (hbO.mono hB.size)
          replace N := N.later hbO
          have hvo := ho.vs.later hbO
          clear hbO ho
          have Hof := hide (And.intro offR (And.intro offS (And.intro offM offO)))
          have Hne := hide (And.intro neI (And.intro neR (And.intro neS (And.intro neM neN))))
          have HsO := hide (Nat.le_trans hsB hsO)
          clear offR offS offM offO neI neR neS neM neN hsO hsB
          go_upto_region 26 with fail
          generalize w9.alloc _ = W9 at *
          have O4 := Blk.setAll_at (.bool true :: [.int .i64 j.txn.id, .int .i64 j.txn.ep, .string j.txn.anchor, .int .i64 j.txn.start.1, .int .i64 j.txn.start.2, .int .i64 j.seq, .int .i64 j.at_.1, .int .i64 j.at_.2, .string j.val, .bool j.gone]) W9 [.slice bo n d] [.bool false, .int .i64 i.txn.id, .int .i64 i.txn.ep, .string i.txn.anchor, .int .i64 i.txn.start.1, .int .i64 i.txn.start.2, .int .i64 i.seq, .int .i64 i.at_.1, .int .i64 i.at_.2, .string i.val, .bool i.gone] 1 O rfl rfl
          have R4 := Blk.others (C := w9.heap.size) (unhide Hne).2.1 (.bool true :: [.int .i64 j.txn.id, .int .i64 j.txn.ep, .string j.txn.anchor, .int .i64 j.txn.start.1, .int .i64 j.txn.start.2, .int .i64 j.seq, .int .i64 j.at_.1, .int .i64 j.at_.2, .string j.val, .bool j.gone]) 1 R
          have S4 := Blk.others (C := w9.heap.size) (unhide Hne).2.2.1 (.bool true :: [.int .i64 j.txn.id, .int .i64 j.txn.ep, .string j.txn.anchor, .int .i64 j.txn.start.1, .int .i64 j.txn.start.2, .int .i64 j.seq, .int .i64 j.at_.1, .int .i64 j.at_.2, .string j.val, .bool j.gone]) 1 S
          have M4 := Blk.others (C := w9.heap.size) (unhide Hne).2.2.2.1 (.bool true :: [.int .i64 j.txn.id, .int .i64 j.txn.ep, .string j.txn.anchor, .int .i64 j.txn.start.1, .int .i64 j.txn.start.2, .int .i64 j.seq, .int .i64 j.at_.1, .int .i64 j.at_.2, .string j.val, .bool j.gone]) 1 M
          have N4 := Blk.others (C := w9.heap.size) (unhide Hne).2.2.2.2 (.bool true :: [.int .i64 j.txn.id, .int .i64 j.txn.ep, .string j.txn.anchor, .int .i64 j.txn.start.1, .int .i64 j.txn.start.2, .int .i64 j.seq, .int .i64 j.at_.1, .int .i64 j.at_.2, .string j.val, .bool j.gone]) 1 N
          have v4 := hvo.others (unhide Hof).2.2.2 (.bool true :: [.int .i64 j.txn.id, .int .i64 j.txn.ep, .string j.txn.anchor, .int .i64 j.txn.start.1, .int .i64 j.txn.start.2, .int .i64 j.seq, .int .i64 j.at_.1, .int .i64 j.at_.2, .string j.val, .bool j.gone]) 1
          have hB4 := below_setAll (C := w9.heap.size) (unhide HsO) (.bool true :: [.int .i64 j.txn.id, .int .i64 j.txn.ep, .string j.txn.anchor, .int .i64 j.txn.start.1, .int .i64 j.txn.start.2, .int .i64 j.seq, .int .i64 j.at_.1, .int .i64 j.at_.2, .string j.val, .bool j.gone]) 1 hB
          simp only [List.cons_append, List.nil_append] at O4
          have Hw := hide (And.intro O4 (And.intro R4 (And.intro S4 (And.intro M4 (And.intro N4 (And.intro v4 hB4))))))
          have O_0 := O.c 0; have O_1 := O.c 1; have O_2 := O.c 2; have O_3 := O.c 3; have O_4 := O.c 4; have O_5 := O.c 5; have O_6 := O.c 6; have O_7 := O.c 7; have O_8 := O.c 8; have O_9 := O.c 9; have O_10 := O.c 10; have O_11 := O.c 11; simp only [List.getElem?_cons_zero, List.getElem?_cons_succ] at O_0 O_1 O_2 O_3 O_4 O_5 O_6 O_7 O_8 O_9 O_10 O_11
          have I_0 := I.c 0; have I_1 := I.c 1; have I_2 := I.c 2; have I_3 := I.c 3; have I_4 := I.c 4; have I_5 := I.c 5; have I_6 := I.c 6; have I_7 := I.c 7; have I_8 := I.c 8; have I_9 := I.c 9; simp only [List.getElem?_cons_zero, List.getElem?_cons_succ] at I_0 I_1 I_2 I_3 I_4 I_5 I_6 I_7 I_8 I_9
          have nI := (unhide Hne).1
          have Of := O.f
          clear O4 R4 S4 M4 N4 v4 hB4 O C I R S M Q N hvo hB
          go_upto_region 28 with fail
          clear O_0 O_1 O_2 O_3 O_4 O_5 O_6 O_7 O_8 O_9 O_10 O_11 I_0 I_1 I_2 I_3 I_4 I_5 I_6 I_7 I_8 I_9
          clear Of nI
          generalize hW4 : setAll W9 w9.heap.size 1 (.bool true :: [.int .i64 j.txn.id, .int .i64 j.txn.ep, .string j.txn.anchor, .int .i64 j.txn.start.1, .int .i64 j.txn.start.2, .int .i64 j.seq, .int .i64 j.at_.1, .int .i64 j.at_.2, .string j.val, .bool j.gone]) = W10 at Hw
          simp only [setAll, Nat.reduceAdd] at hW4
          rw [hW4]
          clear hW4
          obtain ⟨O, R, S, M, N, hvo, hB⟩ := unhide Hw
          clear Hw
          have O5 := (O.set 8 (by simp) (.int .i64 y.1)).set 9 (by simp) (.int .i64 y.2)
          have R5 := (R.other (q := ⟨w9.heap.size, 8, none⟩) (Ne.symm (unhide Hne).2.1) (.int .i64 y.1)).other (q := ⟨w9.heap.size, 9, none⟩) (Ne.symm (unhide Hne).2.1) (.int .i64 y.2)
          have S5 := (S.other (q := ⟨w9.heap.size, 8, none⟩) (Ne.symm (unhide Hne).2.2.1) (.int .i64 y.1)).other (q := ⟨w9.heap.size, 9, none⟩) (Ne.symm (unhide Hne).2.2.1) (.int .i64 y.2)
          have M5 := (M.other (q := ⟨w9.heap.size, 8, none⟩) (Ne.symm (unhide Hne).2.2.2.1) (.int .i64 y.1)).other (q := ⟨w9.heap.size, 9, none⟩) (Ne.symm (unhide Hne).2.2.2.1) (.int .i64 y.2)
          have N5 := (N.other (q := ⟨w9.heap.size, 8, none⟩) (Ne.symm (unhide Hne).2.2.2.2) (.int .i64 y.1)).other (q := ⟨w9.heap.size, 9, none⟩) (Ne.symm (unhide Hne).2.2.2.2) (.int .i64 y.2)
          have v5 := (hvo.others (unhide Hof).2.2.2 [.int .i64 y.1] 8).others (unhide Hof).2.2.2 [.int .i64 y.2] 9
          have hB5 := (hB.setCell (p := ⟨w9.heap.size, 8, none⟩) (unhide HsO) (.int .i64 y.1)).setCell (p := ⟨w9.heap.size, 9, none⟩) (unhide HsO) (.int .i64 y.2)
          simp only [List.set_cons_zero, List.set_cons_succ] at O5
          simp only [setAll] at v5
          have O6 : Blk ((W10.setCell ⟨w9.heap.size, 8, none⟩ (.int .i64 y.1)).setCell ⟨w9.heap.size, 9, none⟩ (.int .i64 y.2)) w9.heap.size [.slice bo n d, .bool true, .int .i64 jj.txn.id, .int .i64 jj.txn.ep, .string jj.txn.anchor, .int .i64 jj.txn.start.1, .int .i64 jj.txn.start.2, .int .i64 jj.seq, .int .i64 jj.at_.1, .int .i64 jj.at_.2, .string jj.val, .bool jj.gone] := by
            rw [unhide Hjj]
            exact O5
          have Hw := hide (And.intro O6 (And.intro R5 (And.intro S5 (And.intro M5 (And.intro N5 (And.intro v5 hB5))))))
          have O_0 := O.c 0; have O_1 := O.c 1; have O_2 := O.c 2; have O_3 := O.c 3; have O_4 := O.c 4; have O_5 := O.c 5; have O_6 := O.c 6; have O_7 := O.c 7; have O_8 := O.c 8; have O_9 := O.c 9; have O_10 := O.c 10; have O_11 := O.c 11; simp only [List.getElem?_cons_zero, List.getElem?_cons_succ] at O_0 O_1 O_2 O_3 O_4 O_5 O_6 O_7 O_8 O_9 O_10 O_11
          have N_0 := N.c 0; have N_1 := N.c 1; simp only [List.getElem?_cons_zero, List.getElem?_cons_succ] at N_0 N_1
          have Of := O.f
          clear O5 O6 R5 S5 M5 N5 v5 hB5 O R S M N hvo hB
          go_upto_region 29 with fail
          clear O_0 O_1 O_2 O_3 O_4 O_5 O_6 O_7 O_8 O_9 O_10 O_11 N_0 N_1
          clear Of
          generalize (W10.setCell _ _).setCell _ _ = W11 at *
          obtain ⟨O, R, S, M, N, hvo, hB⟩ := unhide Hw
          clear Hw
          have O_0 := O.c 0; have O_1 := O.c 1; have O_2 := O.c 2; have O_3 := O.c 3; have O_4 := O.c 4; have O_5 := O.c 5; have O_6 := O.c 6; have O_7 := O.c 7; have O_8 := O.c 8; have O_9 := O.c 9; have O_10 := O.c 10; have O_11 := O.c 11; simp only [List.getElem?_cons_zero, List.getElem?_cons_succ] at O_0 O_1 O_2 O_3 O_4 O_5 O_6 O_7 O_8 O_9 O_10 O_11
          have N_0 := N.c 0; have N_1 := N.c 1; simp only [List.getElem?_cons_zero, List.getElem?_cons_succ] at N_0 N_1
          have R_0 := R.c 0; have R_1 := R.c 1; have R_2 := R.c 2; have R_3 := R.c 3; have R_4 := R.c 4; have R_5 := R.c 5; have R_6 := R.c 6; have R_7 := R.c 7; have R_8 := R.c 8; have R_9 := R.c 9; have R_10 := R.c 10; have R_11 := R.c 11; simp only [List.getElem?_cons_zero, List.getElem?_cons_succ] at R_0 R_1 R_2 R_3 R_4 R_5 R_6 R_7 R_8 R_9 R_10 R_11
          have S_0 := S.c 0; have S_1 := S.c 1; simp only [List.getElem?_cons_zero, List.getElem?_cons_succ] at S_0 S_1
          have M_0 := M.c 0; have M_1 := M.c 1; have M_2 := M.c 2; have M_3 := M.c 3; have M_4 := M.c 4; simp only [List.getElem?_cons_zero, List.getElem?_cons_succ] at M_0 M_1 M_2 M_3 M_4
          have Rf := R.f
          have Sf := S.f
          have Mf := M.f
          have HB := hide hB
          have Hvo := hide hvo
          have HH := hide (And.intro R (And.intro S M))
          obtain ⟨nN1, nN2, nN3⟩ := unhide HnN
          have nO1 := Ne.symm (unhide Hne).2.1
          have nO2 := Ne.symm (unhide Hne).2.2.1
          have nO3 := Ne.symm (unhide Hne).2.2.2.1
          clear hB hvo R S M N O
          go_region
          go_wp2
          obtain ⟨R, S, M⟩ := unhide HH
          obtain ⟨q1, q2, q3⟩ := three R S M (by omega) (by omega) (by omega) [.slice bo n d, .bool true, .int .i64 jj.txn.id, .int .i64 jj.txn.ep, .string jj.txn.anchor, .int .i64 jj.txn.start.1, .int .i64 jj.txn.start.2, .int .i64 jj.seq, .int .i64 jj.at_.1, .int .i64 jj.at_.2, .string jj.val, .bool jj.gone] [.int .i64 y.1, .int .i64 y.2] [.int .i64 Met.zero.id, .int .i64 Met.zero.ep, .string Met.zero.anchor, .int .i64 Met.zero.start.1, .int .i64 Met.zero.start.2] rfl rfl rfl
          refine bodyPost_ret (results_cste Try.results25 bo n d true jj y Met.zero rfl rfl rfl rfl q1.drew q2.drew q3.drew) rfl ⟨bo, d, ?_, ((((unhide Hvo).others (unhide Hof).1 [.slice bo n d, .bool true, .int .i64 jj.txn.id, .int .i64 jj.txn.ep, .string jj.txn.anchor, .int .i64 jj.txn.start.1, .int .i64 jj.txn.start.2, .int .i64 jj.seq, .int .i64 jj.at_.1, .int .i64 jj.at_.2, .string jj.val, .bool jj.gone] 0).others (unhide Hof).2.1 [.int .i64 y.1, .int .i64 y.2] 0).others (unhide Hof).2.2.1 [.int .i64 Met.zero.id, .int .i64 Met.zero.ep, .string Met.zero.anchor, .int .i64 Met.zero.start.1, .int .i64 Met.zero.start.2] 0).later (Below.refl _ _).drew, (below_setAll (by omega) [.int .i64 Met.zero.id, .int .i64 Met.zero.ep, .string Met.zero.anchor, .int .i64 Met.zero.start.1, .int .i64 Met.zero.start.2] 0 (below_setAll (by omega) [.int .i64 y.1, .int .i64 y.2] 0 (below_setAll (by omega) [.slice bo n d, .bool true, .int .i64 jj.txn.id, .int .i64 jj.txn.ep, .string jj.txn.anchor, .int .i64 jj.txn.start.1, .int .i64 jj.txn.start.2, .int .i64 jj.seq, .int .i64 jj.at_.1, .int .i64 jj.at_.2, .string jj.val, .bool jj.gone] 0 (unhide HB)))).drew⟩
          show _ = Ending.returned (.tuple #[(.agg #[.slice bo vs.length d, .bool true, .int .i64 jj.txn.id, .int .i64 jj.txn.ep, .string jj.txn.anchor, .int .i64 jj.txn.start.1, .int .i64 jj.txn.start.2, .int .i64 jj.seq, .int .i64 jj.at_.1, .int .i64 jj.at_.2, .string jj.val, .bool jj.gone]), (.agg #[.int .i64 y.1, .int .i64 y.2]), (.agg #[.int .i64 Met.zero.id, .int .i64 Met.zero.ep, .string Met.zero.anchor, .int .i64 Met.zero.start.1, .int .i64 Met.zero.start.2]), .int .i64 0])
          rw [unhide Hn]
          rfl
      · have HX2 := hide (by have h := unhide HX; rw [if_pos rfl] at h; exact h)
        clear HX
        have L_0 := L.c 0; have L_1 := L.c 1; simp only [List.getElem?_cons_zero, List.getElem?_cons_succ] at L_0 L_1
        go_wp2_with fail
        have h := refnext_s s W4
        clear L_0 L_1
        clear L
        cases hn : nextS s with
        | none =>
          obtain rfl : X = (Chn.zero, (0, 0), Met.zero, 31) := by rw [← unhide HX2, hn]; rfl
          rw [hn] at h
          simp only at h
          refine h.mono ?_
          rintro e w5 ⟨rfl, hb5⟩
          replace R := (R.later hb5).alloc (.cells #[.int .i64 0, .int .i64 0] 24)
          replace S := (S.later hb5).alloc (.cells #[.int .i64 0, .int .i64 0] 24)
          replace M := (M.later hb5).alloc (.cells #[.int .i64 0, .int .i64 0] 24)
          replace hB := (hB.trans (hb5.mono hB.size)).alloc (hB.trans (hb5.mono hB.size)).size (.cells #[.int .i64 0, .int .i64 0] 24)
          clear hb5 h hn HX2 C I Q N hCo
          go_upto_region 17 with fail
          generalize w5.alloc _ = W5 at *
          have R_0 := R.c 0; have R_1 := R.c 1; have R_2 := R.c 2; have R_3 := R.c 3; have R_4 := R.c 4; have R_5 := R.c 5; have R_6 := R.c 6; have R_7 := R.c 7; have R_8 := R.c 8; have R_9 := R.c 9; have R_10 := R.c 10; have R_11 := R.c 11; simp only [List.getElem?_cons_zero, List.getElem?_cons_succ] at R_0 R_1 R_2 R_3 R_4 R_5 R_6 R_7 R_8 R_9 R_10 R_11
          have S_0 := S.c 0; have S_1 := S.c 1; simp only [List.getElem?_cons_zero, List.getElem?_cons_succ] at S_0 S_1
          have M_0 := M.c 0; have M_1 := M.c 1; have M_2 := M.c 2; have M_3 := M.c 3; have M_4 := M.c 4; simp only [List.getElem?_cons_zero, List.getElem?_cons_succ] at M_0 M_1 M_2 M_3 M_4
          have Rf := R.f
          have Sf := S.f
          have Mf := M.f
          have HB := hide hB
          clear hB
          go_wp2
          obtain ⟨q1, q2, q3⟩ := three R S M (by omega) (by omega) (by omega) [.slice none 0 0, .bool false, .int .i64 Itn.zero.txn.id, .int .i64 Itn.zero.txn.ep, .string Itn.zero.txn.anchor, .int .i64 Itn.zero.txn.start.1, .int .i64 Itn.zero.txn.start.2, .int .i64 Itn.zero.seq, .int .i64 Itn.zero.at_.1, .int .i64 Itn.zero.at_.2, .string Itn.zero.val, .bool Itn.zero.gone] [.int .i64 0, .int .i64 0] [.int .i64 Met.zero.id, .int .i64 Met.zero.ep, .string Met.zero.anchor, .int .i64 Met.zero.start.1, .int .i64 Met.zero.start.2] rfl rfl rfl
          exact bodyPost_ret (results_cste Try.results25 none 0 0 false Itn.zero (0, 0) Met.zero rfl rfl rfl rfl q1 q2 q3) rfl ⟨none, 0, rfl, Vs.zero _, below_setAll (by omega) [.int .i64 Met.zero.id, .int .i64 Met.zero.ep, .string Met.zero.anchor, .int .i64 Met.zero.start.1, .int .i64 Met.zero.start.2] 0 (below_setAll (by omega) [.int .i64 0, .int .i64 0] 0 (below_setAll (by omega) [.slice none 0 0, .bool false, .int .i64 Itn.zero.txn.id, .int .i64 Itn.zero.txn.ep, .string Itn.zero.txn.anchor, .int .i64 Itn.zero.txn.start.1, .int .i64 Itn.zero.txn.start.2, .int .i64 Itn.zero.seq, .int .i64 Itn.zero.at_.1, .int .i64 Itn.zero.at_.2, .string Itn.zero.val, .bool Itn.zero.gone] 0 (unhide HB)))⟩
        | some nn =>
          rw [hn] at h
          simp only at h
          refine h.mono ?_
          rintro e w5 ⟨rfl, hb5⟩
          have HX := hide (by have h := unhide HX2; rw [hn] at h; exact h)
          clear HX2 hn h
          replace C := C.later hb5
          replace I := I.later hb5
          replace R := R.later hb5
          replace S := S.later hb5
          replace M := M.later hb5
          replace Q := Q.later hb5
          replace hB := hB.trans (hb5.mono hB.size)
          replace N := N.later hb5
          clear hb5
          have P := Blk.new w5 #[.int .i64 nn.1, .int .i64 nn.2] 24
          have hbP := (Below.refl w5.heap.size w5).alloc (Nat.le_refl _) (.cells #[.int .i64 nn.1, .int .i64 nn.2] 24)
          replace C := C.later hbP
          replace I := I.later hbP
          replace R := R.later hbP
          replace S := S.later hbP
          replace M := M.later hbP
          replace Q := Q.later hbP
          replace hB := hB.trans (hbP.mono hB.size)
          replace N := N.later hbP
          clear hbP
          go_upto_region 17 with fail
          generalize w5.alloc _ = W5 at *
          have N_0 := N.c 0; have N_1 := N.c 1; simp only [List.getElem?_cons_zero, List.getElem?_cons_succ] at N_0 N_1
          have P_0 := P.c 0; have P_1 := P.c 1; simp only [List.getElem?_cons_zero, List.getElem?_cons_succ] at P_0 P_1
          go_wp2_with fail
          refine (refmax_s j.at_ nn _).mono ?_
          rintro e w6 ⟨rfl, hb6⟩
          clear N_0 N_1 P_0 P_1
          clear P
          replace C := C.later hb6
          replace I := I.later hb6
          replace R := R.later hb6
          replace S := S.later hb6
          replace M := M.later hb6
          replace Q := Q.later hb6
          replace hB := hB.trans (hb6.mono hB.size)
          replace N := N.later hb6
          clear hb6
          have N4 := N.all [.int .i64 (maxS j.at_ nn).1, .int .i64 (maxS j.at_ nn).2] rfl
          have C4 := Blk.others (C := wr.heap.size) (unhide HnA).1 [.int .i64 (maxS j.at_ nn).1, .int .i64 (maxS j.at_ nn).2] 0 C
          have I4 := Blk.others (C := wr.heap.size) (unhide HnA).2.1 [.int .i64 (maxS j.at_ nn).1, .int .i64 (maxS j.at_ nn).2] 0 I
          have R4 := Blk.others (C := wr.heap.size) (unhide HnA).2.2.1 [.int .i64 (maxS j.at_ nn).1, .int .i64 (maxS j.at_ nn).2] 0 R
          have S4 := Blk.others (C := wr.heap.size) (unhide HnA).2.2.2.1 [.int .i64 (maxS j.at_ nn).1, .int .i64 (maxS j.at_ nn).2] 0 S
          have M4 := Blk.others (C := wr.heap.size) (unhide HnA).2.2.2.2.1 [.int .i64 (maxS j.at_ nn).1, .int .i64 (maxS j.at_ nn).2] 0 M
          have Q4 := Blk.others (C := wr.heap.size) (unhide HnA).2.2.2.2.2.1 [.int .i64 (maxS j.at_ nn).1, .int .i64 (maxS j.at_ nn).2] 0 Q
          have hB4 := below_setAll (C := wr.heap.size) (unhide HnA).2.2.2.2.2.2 [.int .i64 (maxS j.at_ nn).1, .int .i64 (maxS j.at_ nn).2] 0 hB
          have Hw := hide (And.intro N4 (And.intro C4 (And.intro I4 (And.intro R4 (And.intro S4 (And.intro M4 (And.intro Q4 hB4)))))))
          have N_0 := N.c 0; have N_1 := N.c 1; simp only [List.getElem?_cons_zero, List.getElem?_cons_succ] at N_0 N_1
          have Nf := N.f
          clear N4 C4 I4 R4 S4 M4 Q4 hB4 N C I R S M Q hB
          go_upto_region 20 with fail
          clear N_0 N_1
          clear Nf
          generalize hWn : setAll w6 wr.heap.size 0 [.int .i64 (maxS j.at_ nn).1, .int .i64 (maxS j.at_ nn).2] = W6 at Hw
          simp only [setAll, Nat.zero_add] at hWn
          rw [hWn]
          clear hWn
          obtain ⟨N, C, I, R, S, M, Q, hB⟩ := unhide Hw
          clear Hw
          have C_0 := C.c 0; have C_1 := C.c 1; simp only [List.getElem?_cons_zero, List.getElem?_cons_succ] at C_0 C_1
          go_upto_region 22 with fail
          have N_0 := N.c 0; have N_1 := N.c 1; simp only [List.getElem?_cons_zero, List.getElem?_cons_succ] at N_0 N_1
          go_wp2_with fail
          refine (hOk (maxS j.at_ nn) _).mono ?_
          rintro e w8 ⟨rfl, hb8⟩
          clear N_0 N_1
          replace C := C.later hb8
          replace I := I.later hb8
          replace R := R.later hb8
          replace S := S.later hb8
          replace M := M.later hb8
          replace Q := Q.later hb8
          replace hB := hB.trans (hb8.mono hB.size)
          replace N := N.later hb8
          clear hb8
          cases hok : okS (maxS j.at_ nn)
          · obtain rfl : X = (Chn.zero, (0, 0), Met.zero, 31) := by rw [← unhide HX]; unfold finP stepP tailW; simp [hok]
            clear HX hok C I Q N hCo
            have R_0 := R.c 0; have R_1 := R.c 1; have R_2 := R.c 2; have R_3 := R.c 3; have R_4 := R.c 4; have R_5 := R.c 5; have R_6 := R.c 6; have R_7 := R.c 7; have R_8 := R.c 8; have R_9 := R.c 9; have R_10 := R.c 10; have R_11 := R.c 11; simp only [List.getElem?_cons_zero, List.getElem?_cons_succ] at R_0 R_1 R_2 R_3 R_4 R_5 R_6 R_7 R_8 R_9 R_10 R_11
            have S_0 := S.c 0; have S_1 := S.c 1; simp only [List.getElem?_cons_zero, List.getElem?_cons_succ] at S_0 S_1
            have M_0 := M.c 0; have M_1 := M.c 1; have M_2 := M.c 2; have M_3 := M.c 3; have M_4 := M.c 4; simp only [List.getElem?_cons_zero, List.getElem?_cons_succ] at M_0 M_1 M_2 M_3 M_4
            have Rf := R.f
            have Sf := S.f
            have Mf := M.f
            have HB := hide hB
            clear hB
            go_wp2
            obtain ⟨q1, q2, q3⟩ := three R S M (by omega) (by omega) (by omega) [.slice none 0 0, .bool false, .int .i64 Itn.zero.txn.id, .int .i64 Itn.zero.txn.ep, .string Itn.zero.txn.anchor, .int .i64 Itn.zero.txn.start.1, .int .i64 Itn.zero.txn.start.2, .int .i64 Itn.zero.seq, .int .i64 Itn.zero.at_.1, .int .i64 Itn.zero.at_.2, .string Itn.zero.val, .bool Itn.zero.gone] [.int .i64 0, .int .i64 0] [.int .i64 Met.zero.id, .int .i64 Met.zero.ep, .string Met.zero.anchor, .int .i64 Met.zero.start.1, .int .i64 Met.zero.start.2] rfl rfl rfl
            exact bodyPost_ret (results_cste Try.results25 none 0 0 false Itn.zero (0, 0) Met.zero rfl rfl rfl rfl q1 q2 q3) rfl ⟨none, 0, rfl, Vs.zero _, below_setAll (by omega) [.int .i64 Met.zero.id, .int .i64 Met.zero.ep, .string Met.zero.anchor, .int .i64 Met.zero.start.1, .int .i64 Met.zero.start.2] 0 (below_setAll (by omega) [.int .i64 0, .int .i64 0] 0 (below_setAll (by omega) [.slice none 0 0, .bool false, .int .i64 Itn.zero.txn.id, .int .i64 Itn.zero.txn.ep, .string Itn.zero.txn.anchor, .int .i64 Itn.zero.txn.start.1, .int .i64 Itn.zero.txn.start.2, .int .i64 Itn.zero.seq, .int .i64 Itn.zero.at_.1, .int .i64 Itn.zero.at_.2, .string Itn.zero.val, .bool Itn.zero.gone] 0 (unhide HB)))⟩
          · have Hok := hide hok
            clear hok
            obtain ⟨y, hy⟩ : ∃ y : Stp, (maxS j.at_ nn) = y := ⟨_, rfl⟩
            obtain ⟨jj, hjj⟩ : ∃ jj : Itn, jj = { j with at_ := y } := ⟨_, rfl⟩
            obtain rfl : X = (⟨vs, true, jj⟩, y, Met.zero, 0) := by rw [← unhide HX, hjj, ← hy]; unfold finP stepP tailW; simp [unhide Hok]
            rw [hy] at N
            clear HX Hok hy
            have Hjj := hide hjj
            clear hjj
            have C_0 := C.c 0; have C_1 := C.c 1; have C_2 := C.c 2; have C_3 := C.c 3; have C_4 := C.c 4; have C_5 := C.c 5; have C_6 := C.c 6; have C_7 := C.c 7; have C_8 := C.c 8; have C_9 := C.c 9; have C_10 := C.c 10; have C_11 := C.c 11; simp only [List.getElem?_cons_zero, List.getElem?_cons_succ] at C_0 C_1 C_2 C_3 C_4 C_5 C_6 C_7 C_8 C_9 C_10 C_11
            go_wp2_with fail
            have hltR := R.lt
            have hltS := S.lt
            have hltM := M.lt
            have hsB := hB.size
            refine (hCo _ hB).mono ?_
            rintro e w9 ⟨bo, d, rfl, ho, hb9⟩
            clear C_0 C_1 C_2 C_3 C_4 C_5 C_6 C_7 C_8 C_9 C_10 C_11
            replace C := C.later hb9
            replace I := I.later hb9
            replace R := R.later hb9
            replace S := S.later hb9
            replace M := M.later hb9
            replace Q := Q.later hb9
            replace hB := hB.trans (hb9.mono hB.size)
            replace N := N.later hb9
            have offR := ho.offlow hltR
            have offS := ho.offlow hltS
            have offM := ho.offlow hltM
            have offO := ho.vs.off (Nat.le_refl _)
            have hsO := hb9.size
            have neI := Nat.ne_of_lt I.lt
            have neR := Nat.ne_of_lt R.lt
            have neS := Nat.ne_of_lt S.lt
            have neM := Nat.ne_of_lt M.lt
            have neN := Nat.ne_of_lt N.lt
            clear hb9 hCo hltR hltS hltM
            have O := Blk.new w9 #[.slice bo n d, .bool false, .int .i64 i.txn.id, .int .i64 i.txn.ep, .string i.txn.anchor, .int .i64 i.txn.start.1, .int .i64 i.txn.start.2, .int .i64 i.seq, .int .i64 i.at_.1, .int .i64 i.at_.2, .string i.val, .bool i.gone] 30
            have hbO := (Below.refl w9.heap.size w9).alloc (Nat.le_refl _) (.cells #[.slice bo n d, .bool false, .int .i64 i.txn.id, .int .i64 i.txn.ep, .string i.txn.anchor, .int .i64 i.txn.start.1, .int .i64 i.txn.start.2, .int .i64 i.seq, .int .i64 i.at_.1, .int .i64 i.at_.2, .string i.val, .bool i.gone] 30)
            replace C := C.later hbO
            replace I := I.later hbO
            replace R := R.later hbO
            replace S := S.later hbO
            replace M := M.later hbO
            replace Q := Q.later hbO
            replace hB := hB.trans (hbO.mono hB.size)
            replace N := N.later hbO
            have hvo := ho.vs.later hbO
            clear hbO ho
            have Hof := hide (And.intro offR (And.intro offS (And.intro offM offO)))
            have Hne := hide (And.intro neI (And.intro neR (And.intro neS (And.intro neM neN))))
            have HsO := hide (Nat.le_trans hsB hsO)
            clear offR offS offM offO neI neR neS neM neN hsO hsB
            go_upto_region 26 with fail
            generalize w9.alloc _ = W9 at *
            have O4 := Blk.setAll_at (.bool true :: [.int .i64 j.txn.id, .int .i64 j.txn.ep, .string j.txn.anchor, .int .i64 j.txn.start.1, .int .i64 j.txn.start.2, .int .i64 j.seq, .int .i64 j.at_.1, .int .i64 j.at_.2, .string j.val, .bool j.gone]) W9 [.slice bo n d] [.bool false, .int .i64 i.txn.id, .int .i64 i.txn.ep, .string i.txn.anchor, .int .i64 i.txn.start.1, .int .i64 i.txn.start.2, .int .i64 i.seq, .int .i64 i.at_.1, .int .i64 i.at_.2, .string i.val, .bool i.gone] 1 O rfl rfl
            have R4 := Blk.others (C := w9.heap.size) (unhide Hne).2.1 (.bool true :: [.int .i64 j.txn.id, .int .i64 j.txn.ep, .string j.txn.anchor, .int .i64 j.txn.start.1, .int .i64 j.txn.start.2, .int .i64 j.seq, .int .i64 j.at_.1, .int .i64 j.at_.2, .string j.val, .bool j.gone]) 1 R
            have S4 := Blk.others (C := w9.heap.size) (unhide Hne).2.2.1 (.bool true :: [.int .i64 j.txn.id, .int .i64 j.txn.ep, .string j.txn.anchor, .int .i64 j.txn.start.1, .int .i64 j.txn.start.2, .int .i64 j.seq, .int .i64 j.at_.1, .int .i64 j.at_.2, .string j.val, .bool j.gone]) 1 S
            have M4 := Blk.others (C := w9.heap.size) (unhide Hne).2.2.2.1 (.bool true :: [.int .i64 j.txn.id, .int .i64 j.txn.ep, .string j.txn.anchor, .int .i64 j.txn.start.1, .int .i64 j.txn.start.2, .int .i64 j.seq, .int .i64 j.at_.1, .int .i64 j.at_.2, .string j.val, .bool j.gone]) 1 M
            have N4 := Blk.others (C := w9.heap.size) (unhide Hne).2.2.2.2 (.bool true :: [.int .i64 j.txn.id, .int .i64 j.txn.ep, .string j.txn.anchor, .int .i64 j.txn.start.1, .int .i64 j.txn.start.2, .int .i64 j.seq, .int .i64 j.at_.1, .int .i64 j.at_.2, .string j.val, .bool j.gone]) 1 N
            have v4 := hvo.others (unhide Hof).2.2.2 (.bool true :: [.int .i64 j.txn.id, .int .i64 j.txn.ep, .string j.txn.anchor, .int .i64 j.txn.start.1, .int .i64 j.txn.start.2, .int .i64 j.seq, .int .i64 j.at_.1, .int .i64 j.at_.2, .string j.val, .bool j.gone]) 1
            have hB4 := below_setAll (C := w9.heap.size) (unhide HsO) (.bool true :: [.int .i64 j.txn.id, .int .i64 j.txn.ep, .string j.txn.anchor, .int .i64 j.txn.start.1, .int .i64 j.txn.start.2, .int .i64 j.seq, .int .i64 j.at_.1, .int .i64 j.at_.2, .string j.val, .bool j.gone]) 1 hB
            simp only [List.cons_append, List.nil_append] at O4
            have Hw := hide (And.intro O4 (And.intro R4 (And.intro S4 (And.intro M4 (And.intro N4 (And.intro v4 hB4))))))
            have O_0 := O.c 0; have O_1 := O.c 1; have O_2 := O.c 2; have O_3 := O.c 3; have O_4 := O.c 4; have O_5 := O.c 5; have O_6 := O.c 6; have O_7 := O.c 7; have O_8 := O.c 8; have O_9 := O.c 9; have O_10 := O.c 10; have O_11 := O.c 11; simp only [List.getElem?_cons_zero, List.getElem?_cons_succ] at O_0 O_1 O_2 O_3 O_4 O_5 O_6 O_7 O_8 O_9 O_10 O_11
            have I_0 := I.c 0; have I_1 := I.c 1; have I_2 := I.c 2; have I_3 := I.c 3; have I_4 := I.c 4; have I_5 := I.c 5; have I_6 := I.c 6; have I_7 := I.c 7; have I_8 := I.c 8; have I_9 := I.c 9; simp only [List.getElem?_cons_zero, List.getElem?_cons_succ] at I_0 I_1 I_2 I_3 I_4 I_5 I_6 I_7 I_8 I_9
            have nI := (unhide Hne).1
            have Of := O.f
            clear O4 R4 S4 M4 N4 v4 hB4 O C I R S M Q N hvo hB
            go_upto_region 28 with fail
            clear O_0 O_1 O_2 O_3 O_4 O_5 O_6 O_7 O_8 O_9 O_10 O_11 I_0 I_1 I_2 I_3 I_4 I_5 I_6 I_7 I_8 I_9
            clear Of nI
            generalize hW4 : setAll W9 w9.heap.size 1 (.bool true :: [.int .i64 j.txn.id, .int .i64 j.txn.ep, .string j.txn.anchor, .int .i64 j.txn.start.1, .int .i64 j.txn.start.2, .int .i64 j.seq, .int .i64 j.at_.1, .int .i64 j.at_.2, .string j.val, .bool j.gone]) = W10 at Hw
            simp only [setAll, Nat.reduceAdd] at hW4
            rw [hW4]
            clear hW4
            obtain ⟨O, R, S, M, N, hvo, hB⟩ := unhide Hw
            clear Hw
            have O5 := (O.set 8 (by simp) (.int .i64 y.1)).set 9 (by simp) (.int .i64 y.2)
            have R5 := (R.other (q := ⟨w9.heap.size, 8, none⟩) (Ne.symm (unhide Hne).2.1) (.int .i64 y.1)).other (q := ⟨w9.heap.size, 9, none⟩) (Ne.symm (unhide Hne).2.1) (.int .i64 y.2)
            have S5 := (S.other (q := ⟨w9.heap.size, 8, none⟩) (Ne.symm (unhide Hne).2.2.1) (.int .i64 y.1)).other (q := ⟨w9.heap.size, 9, none⟩) (Ne.symm (unhide Hne).2.2.1) (.int .i64 y.2)
            have M5 := (M.other (q := ⟨w9.heap.size, 8, none⟩) (Ne.symm (unhide Hne).2.2.2.1) (.int .i64 y.1)).other (q := ⟨w9.heap.size, 9, none⟩) (Ne.symm (unhide Hne).2.2.2.1) (.int .i64 y.2)
            have N5 := (N.other (q := ⟨w9.heap.size, 8, none⟩) (Ne.symm (unhide Hne).2.2.2.2) (.int .i64 y.1)).other (q := ⟨w9.heap.size, 9, none⟩) (Ne.symm (unhide Hne).2.2.2.2) (.int .i64 y.2)
            have v5 := (hvo.others (unhide Hof).2.2.2 [.int .i64 y.1] 8).others (unhide Hof).2.2.2 [.int .i64 y.2] 9
            have hB5 := (hB.setCell (p := ⟨w9.heap.size, 8, none⟩) (unhide HsO) (.int .i64 y.1)).setCell (p := ⟨w9.heap.size, 9, none⟩) (unhide HsO) (.int .i64 y.2)
            simp only [List.set_cons_zero, List.set_cons_succ] at O5
            simp only [setAll] at v5
            have O6 : Blk ((W10.setCell ⟨w9.heap.size, 8, none⟩ (.int .i64 y.1)).setCell ⟨w9.heap.size, 9, none⟩ (.int .i64 y.2)) w9.heap.size [.slice bo n d, .bool true, .int .i64 jj.txn.id, .int .i64 jj.txn.ep, .string jj.txn.anchor, .int .i64 jj.txn.start.1, .int .i64 jj.txn.start.2, .int .i64 jj.seq, .int .i64 jj.at_.1, .int .i64 jj.at_.2, .string jj.val, .bool jj.gone] := by
              rw [unhide Hjj]
              exact O5
            have Hw := hide (And.intro O6 (And.intro R5 (And.intro S5 (And.intro M5 (And.intro N5 (And.intro v5 hB5))))))
            have O_0 := O.c 0; have O_1 := O.c 1; have O_2 := O.c 2; have O_3 := O.c 3; have O_4 := O.c 4; have O_5 := O.c 5; have O_6 := O.c 6; have O_7 := O.c 7; have O_8 := O.c 8; have O_9 := O.c 9; have O_10 := O.c 10; have O_11 := O.c 11; simp only [List.getElem?_cons_zero, List.getElem?_cons_succ] at O_0 O_1 O_2 O_3 O_4 O_5 O_6 O_7 O_8 O_9 O_10 O_11
            have N_0 := N.c 0; have N_1 := N.c 1; simp only [List.getElem?_cons_zero, List.getElem?_cons_succ] at N_0 N_1
            have Of := O.f
            clear O5 O6 R5 S5 M5 N5 v5 hB5 O R S M N hvo hB
            go_upto_region 29 with fail
            clear O_0 O_1 O_2 O_3 O_4 O_5 O_6 O_7 O_8 O_9 O_10 O_11 N_0 N_1
            clear Of
            generalize (W10.setCell _ _).setCell _ _ = W11 at *
            obtain ⟨O, R, S, M, N, hvo, hB⟩ := unhide Hw
            clear Hw
            have O_0 := O.c 0; have O_1 := O.c 1; have O_2 := O.c 2; have O_3 := O.c 3; have O_4 := O.c 4; have O_5 := O.c 5; have O_6 := O.c 6; have O_7 := O.c 7; have O_8 := O.c 8; have O_9 := O.c 9; have O_10 := O.c 10; have O_11 := O.c 11; simp only [List.getElem?_cons_zero, List.getElem?_cons_succ] at O_0 O_1 O_2 O_3 O_4 O_5 O_6 O_7 O_8 O_9 O_10 O_11
            have N_0 := N.c 0; have N_1 := N.c 1; simp only [List.getElem?_cons_zero, List.getElem?_cons_succ] at N_0 N_1
            have R_0 := R.c 0; have R_1 := R.c 1; have R_2 := R.c 2; have R_3 := R.c 3; have R_4 := R.c 4; have R_5 := R.c 5; have R_6 := R.c 6; have R_7 := R.c 7; have R_8 := R.c 8; have R_9 := R.c 9; have R_10 := R.c 10; have R_11 := R.c 11; simp only [List.getElem?_cons_zero, List.getElem?_cons_succ] at R_0 R_1 R_2 R_3 R_4 R_5 R_6 R_7 R_8 R_9 R_10 R_11
            have S_0 := S.c 0; have S_1 := S.c 1; simp only [List.getElem?_cons_zero, List.getElem?_cons_succ] at S_0 S_1
            have M_0 := M.c 0; have M_1 := M.c 1; have M_2 := M.c 2; have M_3 := M.c 3; have M_4 := M.c 4; simp only [List.getElem?_cons_zero, List.getElem?_cons_succ] at M_0 M_1 M_2 M_3 M_4
            have Rf := R.f
            have Sf := S.f
            have Mf := M.f
            have HB := hide hB
            have Hvo := hide hvo
            have HH := hide (And.intro R (And.intro S M))
            obtain ⟨nN1, nN2, nN3⟩ := unhide HnN
            have nO1 := Ne.symm (unhide Hne).2.1
            have nO2 := Ne.symm (unhide Hne).2.2.1
            have nO3 := Ne.symm (unhide Hne).2.2.2.1
            clear hB hvo R S M N O
            go_region
            go_wp2
            obtain ⟨R, S, M⟩ := unhide HH
            obtain ⟨q1, q2, q3⟩ := three R S M (by omega) (by omega) (by omega) [.slice bo n d, .bool true, .int .i64 jj.txn.id, .int .i64 jj.txn.ep, .string jj.txn.anchor, .int .i64 jj.txn.start.1, .int .i64 jj.txn.start.2, .int .i64 jj.seq, .int .i64 jj.at_.1, .int .i64 jj.at_.2, .string jj.val, .bool jj.gone] [.int .i64 y.1, .int .i64 y.2] [.int .i64 Met.zero.id, .int .i64 Met.zero.ep, .string Met.zero.anchor, .int .i64 Met.zero.start.1, .int .i64 Met.zero.start.2] rfl rfl rfl
            refine bodyPost_ret (results_cste Try.results25 bo n d true jj y Met.zero rfl rfl rfl rfl q1.drew q2.drew q3.drew) rfl ⟨bo, d, ?_, ((((unhide Hvo).others (unhide Hof).1 [.slice bo n d, .bool true, .int .i64 jj.txn.id, .int .i64 jj.txn.ep, .string jj.txn.anchor, .int .i64 jj.txn.start.1, .int .i64 jj.txn.start.2, .int .i64 jj.seq, .int .i64 jj.at_.1, .int .i64 jj.at_.2, .string jj.val, .bool jj.gone] 0).others (unhide Hof).2.1 [.int .i64 y.1, .int .i64 y.2] 0).others (unhide Hof).2.2.1 [.int .i64 Met.zero.id, .int .i64 Met.zero.ep, .string Met.zero.anchor, .int .i64 Met.zero.start.1, .int .i64 Met.zero.start.2] 0).later (Below.refl _ _).drew, (below_setAll (by omega) [.int .i64 Met.zero.id, .int .i64 Met.zero.ep, .string Met.zero.anchor, .int .i64 Met.zero.start.1, .int .i64 Met.zero.start.2] 0 (below_setAll (by omega) [.int .i64 y.1, .int .i64 y.2] 0 (below_setAll (by omega) [.slice bo n d, .bool true, .int .i64 jj.txn.id, .int .i64 jj.txn.ep, .string jj.txn.anchor, .int .i64 jj.txn.start.1, .int .i64 jj.txn.start.2, .int .i64 jj.seq, .int .i64 jj.at_.1, .int .i64 jj.at_.2, .string jj.val, .bool jj.gone] 0 (unhide HB)))).drew⟩
            show _ = Ending.returned (.tuple #[(.agg #[.slice bo vs.length d, .bool true, .int .i64 jj.txn.id, .int .i64 jj.txn.ep, .string jj.txn.anchor, .int .i64 jj.txn.start.1, .int .i64 jj.txn.start.2, .int .i64 jj.seq, .int .i64 jj.at_.1, .int .i64 jj.at_.2, .string jj.val, .bool jj.gone]), (.agg #[.int .i64 y.1, .int .i64 y.2]), (.agg #[.int .i64 Met.zero.id, .int .i64 Met.zero.ep, .string Met.zero.anchor, .int .i64 Met.zero.start.1, .int .i64 Met.zero.start.2]), .int .i64 0])
            rw [unhide Hn]
            rfl
end

end Go.Proofs.Ytcahmnpoajnmpaa
