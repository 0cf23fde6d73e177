/-
  The contract of the document's Write: its own is open, as it is. No law is proved here.
-/
import Derived.Test.YtcahmnpoajnmpaaVx2
namespace Go.Proofs.Ytcahmnpoajnmpaa
open Go.RowKit
set_option linter.unusedVariables false

section
set_option maxRecDepth 100000
set_option maxHeartbeats 20000000

theorem refwrite_t3 (ao : Option Addr) (c : Nat) (vs : List Ver) (i j : Itn) (w : World) (hv : Vs w ao c vs) (hlim : vs.length ≤ 2932031007400) (h1 : i.txn.id = j.txn.id) (h2 : ¬ j.txn.ep < i.txn.ep) (h3 : i.txn.ep = j.txn.ep) (h4 : j.seq ≤ i.seq) :
    Calls Try.prog 25 #[(.agg #[.slice ao vs.length c, .bool true, .int .i64 i.txn.id, .int .i64 i.txn.ep, .string i.txn.anchor, .int .i64 i.txn.start.1, .int .i64 i.txn.start.2, .int .i64 i.seq, .int .i64 i.at_.1, .int .i64 i.at_.2, .string i.val, .bool i.gone]), (.agg #[.int .i64 j.txn.id, .int .i64 j.txn.ep, .string j.txn.anchor, .int .i64 j.txn.start.1, .int .i64 j.txn.start.2, .int .i64 j.seq, .int .i64 j.at_.1, .int .i64 j.at_.2, .string j.val, .bool j.gone])] w fun e w' => ∃ bo d, e = .returned (.tuple #[(.agg #[.slice bo (writeC ⟨vs, true, i⟩ j).1.vs.length d, .bool (writeC ⟨vs, true, i⟩ j).1.opn, .int .i64 (writeC ⟨vs, true, i⟩ j).1.itn.txn.id, .int .i64 (writeC ⟨vs, true, i⟩ j).1.itn.txn.ep, .string (writeC ⟨vs, true, i⟩ j).1.itn.txn.anchor, .int .i64 (writeC ⟨vs, true, i⟩ j).1.itn.txn.start.1, .int .i64 (writeC ⟨vs, true, i⟩ j).1.itn.txn.start.2, .int .i64 (writeC ⟨vs, true, i⟩ j).1.itn.seq, .int .i64 (writeC ⟨vs, true, i⟩ j).1.itn.at_.1, .int .i64 (writeC ⟨vs, true, i⟩ j).1.itn.at_.2, .string (writeC ⟨vs, true, i⟩ j).1.itn.val, .bool (writeC ⟨vs, true, i⟩ j).1.itn.gone]), (.agg #[.int .i64 (writeC ⟨vs, true, i⟩ j).2.1.1, .int .i64 (writeC ⟨vs, true, i⟩ j).2.1.2]), (.agg #[.int .i64 (writeC ⟨vs, true, i⟩ j).2.2.1.id, .int .i64 (writeC ⟨vs, true, i⟩ j).2.2.1.ep, .string (writeC ⟨vs, true, i⟩ j).2.2.1.anchor, .int .i64 (writeC ⟨vs, true, i⟩ j).2.2.1.start.1, .int .i64 (writeC ⟨vs, true, i⟩ j).2.2.1.start.2]), .int .i64 (writeC ⟨vs, true, i⟩ j).2.2.2]) ∧ Vs w' bo d (writeC ⟨vs, true, i⟩ j).1.vs ∧ Below w.heap.size w w' := by
  have Hh := hide (And.intro h2 (And.intro h3 (h4)))
  clear h2 h3 h4
  obtain ⟨X, hX⟩ : ∃ X, writeC ⟨vs, true, i⟩ j = X := ⟨_, rfl⟩
  rw [hX]
  rw [writeC_form, placeR_last] at hX
  have l1 := hv.len
  simp only [maxLen] at l1
  have hCo := fun w' (hb : Below w.heap.size w w') => refcopy_any ao c vs true i w' (hv.later hb) hlim
  have hLa := fun w' (hb : Below w.heap.size w w') => last_any ao c vs true i w' (hv.later hb)
  have hOk := fun (a : Stp) w => refright_any a.1 a.2 w
  simp only [right_eq] at hOk
  generalize (lastP vs).1 = s at hLa hX
  generalize (lastP vs).2 = is at hLa hX
  obtain ⟨n, hn⟩ : ∃ n, vs.length = n := ⟨_, rfl⟩
  have Hn := hide hn
  have Hv := hide hv
  simp only [hn] at hCo hLa hlim l1 ⊢
  have C := (((((Blk.new w #[.slice ao n c, .bool true, .int .i64 i.txn.id, .int .i64 i.txn.ep, .string i.txn.anchor, .int .i64 i.txn.start.1, .int .i64 i.txn.start.2, .int .i64 i.seq, .int .i64 i.at_.1, .int .i64 i.at_.2, .string i.val, .bool i.gone] 30).alloc (.cells #[.int .i64 j.txn.id, .int .i64 j.txn.ep, .string j.txn.anchor, .int .i64 j.txn.start.1, .int .i64 j.txn.start.2, .int .i64 j.seq, .int .i64 j.at_.1, .int .i64 j.at_.2, .string j.val, .bool j.gone] 28)).alloc (.cells #[.slice none 0 0, .bool false, .int .i64 0, .int .i64 0, .string ⟨#[]⟩, .int .i64 0, .int .i64 0, .int .i64 0, .int .i64 0, .int .i64 0, .string ⟨#[]⟩, .bool false] 30)).alloc (.cells #[.int .i64 0, .int .i64 0] 24)).alloc (.cells #[.int .i64 0, .int .i64 0, .string ⟨#[]⟩, .int .i64 0, .int .i64 0] 26)).alloc (.cells #[.int .i64 i.txn.id, .int .i64 i.txn.ep, .string i.txn.anchor, .int .i64 i.txn.start.1, .int .i64 i.txn.start.2, .int .i64 i.seq, .int .i64 i.at_.1, .int .i64 i.at_.2, .string i.val, .bool i.gone] 28)
  have I := ((((Blk.new (w.alloc (.cells #[.slice ao n c, .bool true, .int .i64 i.txn.id, .int .i64 i.txn.ep, .string i.txn.anchor, .int .i64 i.txn.start.1, .int .i64 i.txn.start.2, .int .i64 i.seq, .int .i64 i.at_.1, .int .i64 i.at_.2, .string i.val, .bool i.gone] 30)) #[.int .i64 j.txn.id, .int .i64 j.txn.ep, .string j.txn.anchor, .int .i64 j.txn.start.1, .int .i64 j.txn.start.2, .int .i64 j.seq, .int .i64 j.at_.1, .int .i64 j.at_.2, .string j.val, .bool j.gone] 28).alloc (.cells #[.slice none 0 0, .bool false, .int .i64 0, .int .i64 0, .string ⟨#[]⟩, .int .i64 0, .int .i64 0, .int .i64 0, .int .i64 0, .int .i64 0, .string ⟨#[]⟩, .bool false] 30)).alloc (.cells #[.int .i64 0, .int .i64 0] 24)).alloc (.cells #[.int .i64 0, .int .i64 0, .string ⟨#[]⟩, .int .i64 0, .int .i64 0] 26)).alloc (.cells #[.int .i64 i.txn.id, .int .i64 i.txn.ep, .string i.txn.anchor, .int .i64 i.txn.start.1, .int .i64 i.txn.start.2, .int .i64 i.seq, .int .i64 i.at_.1, .int .i64 i.at_.2, .string i.val, .bool i.gone] 28)
  rw [show (w.alloc (.cells #[.slice ao n c, .bool true, .int .i64 i.txn.id, .int .i64 i.txn.ep, .string i.txn.anchor, .int .i64 i.txn.start.1, .int .i64 i.txn.start.2, .int .i64 i.seq, .int .i64 i.at_.1, .int .i64 i.at_.2, .string i.val, .bool i.gone] 30)).heap.size = w.heap.size + 1 by simp] at I
  have R := (((Blk.new ((w.alloc (.cells #[.slice ao n c, .bool true, .int .i64 i.txn.id, .int .i64 i.txn.ep, .string i.txn.anchor, .int .i64 i.txn.start.1, .int .i64 i.txn.start.2, .int .i64 i.seq, .int .i64 i.at_.1, .int .i64 i.at_.2, .string i.val, .bool i.gone] 30)).alloc (.cells #[.int .i64 j.txn.id, .int .i64 j.txn.ep, .string j.txn.anchor, .int .i64 j.txn.start.1, .int .i64 j.txn.start.2, .int .i64 j.seq, .int .i64 j.at_.1, .int .i64 j.at_.2, .string j.val, .bool j.gone] 28)) #[.slice none 0 0, .bool false, .int .i64 0, .int .i64 0, .string ⟨#[]⟩, .int .i64 0, .int .i64 0, .int .i64 0, .int .i64 0, .int .i64 0, .string ⟨#[]⟩, .bool false] 30).alloc (.cells #[.int .i64 0, .int .i64 0] 24)).alloc (.cells #[.int .i64 0, .int .i64 0, .string ⟨#[]⟩, .int .i64 0, .int .i64 0] 26)).alloc (.cells #[.int .i64 i.txn.id, .int .i64 i.txn.ep, .string i.txn.anchor, .int .i64 i.txn.start.1, .int .i64 i.txn.start.2, .int .i64 i.seq, .int .i64 i.at_.1, .int .i64 i.at_.2, .string i.val, .bool i.gone] 28)
  rw [show ((w.alloc (.cells #[.slice ao n c, .bool true, .int .i64 i.txn.id, .int .i64 i.txn.ep, .string i.txn.anchor, .int .i64 i.txn.start.1, .int .i64 i.txn.start.2, .int .i64 i.seq, .int .i64 i.at_.1, .int .i64 i.at_.2, .string i.val, .bool i.gone] 30)).alloc (.cells #[.int .i64 j.txn.id, .int .i64 j.txn.ep, .string j.txn.anchor, .int .i64 j.txn.start.1, .int .i64 j.txn.start.2, .int .i64 j.seq, .int .i64 j.at_.1, .int .i64 j.at_.2, .string j.val, .bool j.gone] 28)).heap.size = w.heap.size + 1 + 1 by simp] at R
  have S := ((Blk.new (((w.alloc (.cells #[.slice ao n c, .bool true, .int .i64 i.txn.id, .int .i64 i.txn.ep, .string i.txn.anchor, .int .i64 i.txn.start.1, .int .i64 i.txn.start.2, .int .i64 i.seq, .int .i64 i.at_.1, .int .i64 i.at_.2, .string i.val, .bool i.gone] 30)).alloc (.cells #[.int .i64 j.txn.id, .int .i64 j.txn.ep, .string j.txn.anchor, .int .i64 j.txn.start.1, .int .i64 j.txn.start.2, .int .i64 j.seq, .int .i64 j.at_.1, .int .i64 j.at_.2, .string j.val, .bool j.gone] 28)).alloc (.cells #[.slice none 0 0, .bool false, .int .i64 0, .int .i64 0, .string ⟨#[]⟩, .int .i64 0, .int .i64 0, .int .i64 0, .int .i64 0, .int .i64 0, .string ⟨#[]⟩, .bool false] 30)) #[.int .i64 0, .int .i64 0] 24).alloc (.cells #[.int .i64 0, .int .i64 0, .string ⟨#[]⟩, .int .i64 0, .int .i64 0] 26)).alloc (.cells #[.int .i64 i.txn.id, .int .i64 i.txn.ep, .string i.txn.anchor, .int .i64 i.txn.start.1, .int .i64 i.txn.start.2, .int .i64 i.seq, .int .i64 i.at_.1, .int .i64 i.at_.2, .string i.val, .bool i.gone] 28)
  rw [show (((w.alloc (.cells #[.slice ao n c, .bool true, .int .i64 i.txn.id, .int .i64 i.txn.ep, .string i.txn.anchor, .int .i64 i.txn.start.1, .int .i64 i.txn.start.2, .int .i64 i.seq, .int .i64 i.at_.1, .int .i64 i.at_.2, .string i.val, .bool i.gone] 30)).alloc (.cells #[.int .i64 j.txn.id, .int .i64 j.txn.ep, .string j.txn.anchor, .int .i64 j.txn.start.1, .int .i64 j.txn.start.2, .int .i64 j.seq, .int .i64 j.at_.1, .int .i64 j.at_.2, .string j.val, .bool j.gone] 28)).alloc (.cells #[.slice none 0 0, .bool false, .int .i64 0, .int .i64 0, .string ⟨#[]⟩, .int .i64 0, .int .i64 0, .int .i64 0, .int .i64 0, .int .i64 0, .string ⟨#[]⟩, .bool false] 30)).heap.size = w.heap.size + 1 + 1 + 1 by simp] at S
  have M := (Blk.new ((((w.alloc (.cells #[.slice ao n c, .bool true, .int .i64 i.txn.id, .int .i64 i.txn.ep, .string i.txn.anchor, .int .i64 i.txn.start.1, .int .i64 i.txn.start.2, .int .i64 i.seq, .int .i64 i.at_.1, .int .i64 i.at_.2, .string i.val, .bool i.gone] 30)).alloc (.cells #[.int .i64 j.txn.id, .int .i64 j.txn.ep, .string j.txn.anchor, .int .i64 j.txn.start.1, .int .i64 j.txn.start.2, .int .i64 j.seq, .int .i64 j.at_.1, .int .i64 j.at_.2, .string j.val, .bool j.gone] 28)).alloc (.cells #[.slice none 0 0, .bool false, .int .i64 0, .int .i64 0, .string ⟨#[]⟩, .int .i64 0, .int .i64 0, .int .i64 0, .int .i64 0, .int .i64 0, .string ⟨#[]⟩, .bool false] 30)).alloc (.cells #[.int .i64 0, .int .i64 0] 24)) #[.int .i64 0, .int .i64 0, .string ⟨#[]⟩, .int .i64 0, .int .i64 0] 26).alloc (.cells #[.int .i64 i.txn.id, .int .i64 i.txn.ep, .string i.txn.anchor, .int .i64 i.txn.start.1, .int .i64 i.txn.start.2, .int .i64 i.seq, .int .i64 i.at_.1, .int .i64 i.at_.2, .string i.val, .bool i.gone] 28)
  rw [show ((((w.alloc (.cells #[.slice ao n c, .bool true, .int .i64 i.txn.id, .int .i64 i.txn.ep, .string i.txn.anchor, .int .i64 i.txn.start.1, .int .i64 i.txn.start.2, .int .i64 i.seq, .int .i64 i.at_.1, .int .i64 i.at_.2, .string i.val, .bool i.gone] 30)).alloc (.cells #[.int .i64 j.txn.id, .int .i64 j.txn.ep, .string j.txn.anchor, .int .i64 j.txn.start.1, .int .i64 j.txn.start.2, .int .i64 j.seq, .int .i64 j.at_.1, .int .i64 j.at_.2, .string j.val, .bool j.gone] 28)).alloc (.cells #[.slice none 0 0, .bool false, .int .i64 0, .int .i64 0, .string ⟨#[]⟩, .int .i64 0, .int .i64 0, .int .i64 0, .int .i64 0, .int .i64 0, .string ⟨#[]⟩, .bool false] 30)).alloc (.cells #[.int .i64 0, .int .i64 0] 24)).heap.size = w.heap.size + 1 + 1 + 1 + 1 by simp] at M
  have Q := Blk.new (((((w.alloc (.cells #[.slice ao n c, .bool true, .int .i64 i.txn.id, .int .i64 i.txn.ep, .string i.txn.anchor, .int .i64 i.txn.start.1, .int .i64 i.txn.start.2, .int .i64 i.seq, .int .i64 i.at_.1, .int .i64 i.at_.2, .string i.val, .bool i.gone] 30)).alloc (.cells #[.int .i64 j.txn.id, .int .i64 j.txn.ep, .string j.txn.anchor, .int .i64 j.txn.start.1, .int .i64 j.txn.start.2, .int .i64 j.seq, .int .i64 j.at_.1, .int .i64 j.at_.2, .string j.val, .bool j.gone] 28)).alloc (.cells #[.slice none 0 0, .bool false, .int .i64 0, .int .i64 0, .string ⟨#[]⟩, .int .i64 0, .int .i64 0, .int .i64 0, .int .i64 0, .int .i64 0, .string ⟨#[]⟩, .bool false] 30)).alloc (.cells #[.int .i64 0, .int .i64 0] 24)).alloc (.cells #[.int .i64 0, .int .i64 0, .string ⟨#[]⟩, .int .i64 0, .int .i64 0] 26)) #[.int .i64 i.txn.id, .int .i64 i.txn.ep, .string i.txn.anchor, .int .i64 i.txn.start.1, .int .i64 i.txn.start.2, .int .i64 i.seq, .int .i64 i.at_.1, .int .i64 i.at_.2, .string i.val, .bool i.gone] 28
  rw [show (((((w.alloc (.cells #[.slice ao n c, .bool true, .int .i64 i.txn.id, .int .i64 i.txn.ep, .string i.txn.anchor, .int .i64 i.txn.start.1, .int .i64 i.txn.start.2, .int .i64 i.seq, .int .i64 i.at_.1, .int .i64 i.at_.2, .string i.val, .bool i.gone] 30)).alloc (.cells #[.int .i64 j.txn.id, .int .i64 j.txn.ep, .string j.txn.anchor, .int .i64 j.txn.start.1, .int .i64 j.txn.start.2, .int .i64 j.seq, .int .i64 j.at_.1, .int .i64 j.at_.2, .string j.val, .bool j.gone] 28)).alloc (.cells #[.slice none 0 0, .bool false, .int .i64 0, .int .i64 0, .string ⟨#[]⟩, .int .i64 0, .int .i64 0, .int .i64 0, .int .i64 0, .int .i64 0, .string ⟨#[]⟩, .bool false] 30)).alloc (.cells #[.int .i64 0, .int .i64 0] 24)).alloc (.cells #[.int .i64 0, .int .i64 0, .string ⟨#[]⟩, .int .i64 0, .int .i64 0] 26)).heap.size = w.heap.size + 1 + 1 + 1 + 1 + 1 by simp] at Q
  have hB : Below w.heap.size w ((((((w.alloc (.cells #[.slice ao n c, .bool true, .int .i64 i.txn.id, .int .i64 i.txn.ep, .string i.txn.anchor, .int .i64 i.txn.start.1, .int .i64 i.txn.start.2, .int .i64 i.seq, .int .i64 i.at_.1, .int .i64 i.at_.2, .string i.val, .bool i.gone] 30)).alloc (.cells #[.int .i64 j.txn.id, .int .i64 j.txn.ep, .string j.txn.anchor, .int .i64 j.txn.start.1, .int .i64 j.txn.start.2, .int .i64 j.seq, .int .i64 j.at_.1, .int .i64 j.at_.2, .string j.val, .bool j.gone] 28)).alloc (.cells #[.slice none 0 0, .bool false, .int .i64 0, .int .i64 0, .string ⟨#[]⟩, .int .i64 0, .int .i64 0, .int .i64 0, .int .i64 0, .int .i64 0, .string ⟨#[]⟩, .bool false] 30)).alloc (.cells #[.int .i64 0, .int .i64 0] 24)).alloc (.cells #[.int .i64 0, .int .i64 0, .string ⟨#[]⟩, .int .i64 0, .int .i64 0] 26)).alloc (.cells #[.int .i64 i.txn.id, .int .i64 i.txn.ep, .string i.txn.anchor, .int .i64 i.txn.start.1, .int .i64 i.txn.start.2, .int .i64 i.seq, .int .i64 i.at_.1, .int .i64 i.at_.2, .string i.val, .bool i.gone] 28)) := ((((((Below.refl w.heap.size w).alloc (Nat.le_refl _) _).alloc (by simp) _).alloc (by simp; omega) _).alloc (by simp; omega) _).alloc (by simp; omega) _).alloc (by simp; omega) _
  clear hv hn
  have HX : Hid ((if (vs.any fun v => decide (v.by_ = j.txn.id)) = true then (Chn.zero, (0, 0), Met.zero, 83) else if true = true ∧ j.txn.ep < i.txn.ep then (Chn.zero, (0, 0), Met.zero, 84) else if true = true ∧ i.txn.ep = j.txn.ep ∧ j.seq ≤ i.seq then (⟨vs, true, i⟩, i.at_, Met.zero, 0) else tailW vs j (if is = true then (match nextS s with | none => ((0, 0), 31) | some n => finP (stepP true i (maxS j.at_ n))) else finP (stepP true i j.at_))) = X) := hide (by
    rw [if_neg (fun e => e.2 h1)] at hX
    exact hX)
  have t1 : (i.txn.id != j.txn.id) = false := by simpa using h1
  clear hX h1
  go_enter Try.func25, Try.ntmps25
  go_upto_region 2 with fail
  generalize (((((w.alloc _).alloc _).alloc _).alloc _).alloc _).alloc _ = W at *
  have C_0 := C.c 0; have C_1 := C.c 1; have C_2 := C.c 2; have C_3 := C.c 3; have C_4 := C.c 4; have C_5 := C.c 5; have C_6 := C.c 6; have C_7 := C.c 7; have C_8 := C.c 8; have C_9 := C.c 9; have C_10 := C.c 10; have C_11 := C.c 11; simp only [List.getElem?_cons_zero, List.getElem?_cons_succ] at C_0 C_1 C_2 C_3 C_4 C_5 C_6 C_7 C_8 C_9 C_10 C_11
  have I_0 := I.c 0; have I_1 := I.c 1; have I_2 := I.c 2; have I_3 := I.c 3; have I_4 := I.c 4; have I_5 := I.c 5; have I_6 := I.c 6; have I_7 := I.c 7; have I_8 := I.c 8; have I_9 := I.c 9; simp only [List.getElem?_cons_zero, List.getElem?_cons_succ] at I_0 I_1 I_2 I_3 I_4 I_5 I_6 I_7 I_8 I_9
  have Q_0 := Q.c 0; have Q_1 := Q.c 1; have Q_2 := Q.c 2; have Q_3 := Q.c 3; have Q_4 := Q.c 4; have Q_5 := Q.c 5; have Q_6 := Q.c 6; have Q_7 := Q.c 7; have Q_8 := Q.c 8; have Q_9 := Q.c 9; simp only [List.getElem?_cons_zero, List.getElem?_cons_succ] at Q_0 Q_1 Q_2 Q_3 Q_4 Q_5 Q_6 Q_7 Q_8 Q_9
  go_upto_region 4 with fail
  clear C_0 C_1 C_2 C_3 C_4 C_5 C_6 C_7 C_8 C_9 C_10 C_11 I_0 I_1 I_2 I_3 I_4 I_5 I_6 I_7 I_8 I_9 Q_0 Q_1 Q_2 Q_3 Q_4 Q_5 Q_6 Q_7 Q_8 Q_9
  have HW := hide (And.intro hB (And.intro C (And.intro I (And.intro R (And.intro S (And.intro M Q))))))
  clear hB C I R S M Q
  go_wp2
  go_loopw [9] (fun u wr => ∃ k : Nat, u = .int .i64 k ∧ k ≤ n ∧ Hid (∀ t (h : t < vs.length), t < k → vs[t].by_ ≠ j.txn.id) ∧ Hid (Below W.heap.size W wr)) (fun u _ => n - (intOf u).toNat)
  case atStart => exact ⟨0, rfl, by omega, (fun t _ h => absurd h (Nat.not_lt_zero _)), Below.refl _ _⟩
  case round =>
    obtain ⟨k, rfl, hk, Ha, Hb⟩ := hrel
    obtain ⟨hB, C, I, R, S, M, Q⟩ := unhide HW
    replace C := C.later (unhide Hb)
    replace I := I.later (unhide Hb)
    replace R := R.later (unhide Hb)
    replace S := S.later (unhide Hb)
    replace M := M.later (unhide Hb)
    replace Q := Q.later (unhide Hb)
    replace hB := hB.trans ((unhide Hb).mono hB.size)
    by_cases hlt : k < n
    · have h1 : k < vs.length := by have := unhide Hn; omega
      obtain ⟨bb, oo, rfl, x⟩ := (unhide Hv).each k h1
      obtain ⟨v, hv0⟩ : ∃ v, vs[k] = v := ⟨_, rfl⟩
      rw [hv0] at x
      replace x := x.block (hB.block _ x.lt)
      have Hv0 := hide hv0
      have ii : Nonempty (Later wr) := ⟨⟨wr, Below.refl _ _⟩⟩
      have C_0 := C.c 0; simp only [List.getElem?_cons_zero] at C_0
      have C_1 := fun z : Later wr => (C.later z.below).c 0
      have I_1 := fun z : Later wr => (I.later z.below).c 0
      simp only [List.getElem?_cons_zero] at C_1 I_1
      have x4 := fun z : Later wr => z.cell x.c4
      clear x hv0 C I Q
      by_cases hid : v.by_ = j.txn.id
      · have hid' : (v.by_ == j.txn.id) = true := by simpa using hid
        obtain rfl : X = (Chn.zero, (0, 0), Met.zero, 83) := by
          rw [← unhide HX, if_pos]
          exact List.any_eq_true.2 ⟨vs[k], List.getElem_mem _, by rw [unhide Hv0]; simpa using hid⟩
        clear hid HX hLa hCo
        go_wp2_with fail
        refine wp_region_later (by kernel_rfl) (by kernel_rfl) ?_
        repeat (first
          | go_big_quiet_step (fail)
          | quiet_step (fail))
        refine wpQuiet_nil ?_
        intro w' hw'
        obtain ⟨⟨W6, hb6⟩, rfl⟩ := hw'
        replace R := R.later hb6
        replace S := S.later hb6
        replace M := M.later hb6
        replace hB := hB.trans (hb6.mono hB.size)
        clear ii C_0 C_1 I_1 x4 hb6
        have R_0 := R.c 0; have R_1 := R.c 1; have R_2 := R.c 2; have R_3 := R.c 3; have R_4 := R.c 4; have R_5 := R.c 5; have R_6 := R.c 6; have R_7 := R.c 7; have R_8 := R.c 8; have R_9 := R.c 9; have R_10 := R.c 10; have R_11 := R.c 11; simp only [List.getElem?_cons_zero, List.getElem?_cons_succ] at R_0 R_1 R_2 R_3 R_4 R_5 R_6 R_7 R_8 R_9 R_10 R_11
        have S_0 := S.c 0; have S_1 := S.c 1; simp only [List.getElem?_cons_zero, List.getElem?_cons_succ] at S_0 S_1
        have M_0 := M.c 0; have M_1 := M.c 1; have M_2 := M.c 2; have M_3 := M.c 3; have M_4 := M.c 4; simp only [List.getElem?_cons_zero, List.getElem?_cons_succ] at M_0 M_1 M_2 M_3 M_4
        have Rf := R.f
        have Sf := S.f
        have Mf := M.f
        have HB := hide hB
        clear hB
        go_wp2
        obtain ⟨q1, q2, q3⟩ := three R S M (by omega) (by omega) (by omega) [.slice none 0 0, .bool false, .int .i64 Itn.zero.txn.id, .int .i64 Itn.zero.txn.ep, .string Itn.zero.txn.anchor, .int .i64 Itn.zero.txn.start.1, .int .i64 Itn.zero.txn.start.2, .int .i64 Itn.zero.seq, .int .i64 Itn.zero.at_.1, .int .i64 Itn.zero.at_.2, .string Itn.zero.val, .bool Itn.zero.gone] [.int .i64 0, .int .i64 0] [.int .i64 Met.zero.id, .int .i64 Met.zero.ep, .string Met.zero.anchor, .int .i64 Met.zero.start.1, .int .i64 Met.zero.start.2] rfl rfl rfl
        exact bodyPost_ret (results_cste Try.results25 none 0 0 false Itn.zero (0, 0) Met.zero rfl rfl rfl rfl q1 q2 q3) rfl ⟨none, 0, rfl, Vs.zero _, below_setAll (by omega) [.int .i64 Met.zero.id, .int .i64 Met.zero.ep, .string Met.zero.anchor, .int .i64 Met.zero.start.1, .int .i64 Met.zero.start.2] 0 (below_setAll (by omega) [.int .i64 0, .int .i64 0] 0 (below_setAll (by omega) [.slice none 0 0, .bool false, .int .i64 Itn.zero.txn.id, .int .i64 Itn.zero.txn.ep, .string Itn.zero.txn.anchor, .int .i64 Itn.zero.txn.start.1, .int .i64 Itn.zero.txn.start.2, .int .i64 Itn.zero.seq, .int .i64 Itn.zero.at_.1, .int .i64 Itn.zero.at_.2, .string Itn.zero.val, .bool Itn.zero.gone] 0 (unhide HB)))⟩
      · have hid' : (v.by_ == j.txn.id) = false := by simpa using hid
        have Hid' := hide hid
        clear hid R S M hB
        go_wp2_with fail
        refine wp_region_later (by kernel_rfl) (by kernel_rfl) ?_
        repeat (first
          | go_big_quiet_step (fail)
          | quiet_step (fail))
        refine wpQuiet_nil ?_
        intro w' hw'
        obtain ⟨⟨W6, hb6⟩, rfl⟩ := hw'
        clear ii C_0 C_1 I_1 x4
        go_wp2
        go_roundw
        case rel =>
          refine ⟨k + 1, by go_num, by omega, (fun t h ht => ?_), (unhide Hb).trans (hb6.mono (unhide Hb).size)⟩
          by_cases e : t = k
          · subst e
            rw [unhide Hv0]
            exact unhide Hid'
          · exact unhide Ha t h (by omega)
        case measure => simp [intOf]; omega
    · have hno : (vs.any fun v => decide (v.by_ = j.txn.id)) = false := by
        rw [List.any_eq_false]
        intro v hv
        obtain ⟨t, ht, rfl⟩ := List.getElem_of_mem hv
        have := unhide Ha t ht (by have := unhide Hn; omega)
        simpa using this
      have HX' := HX
      clear HX
      have HX := hide (by have h := unhide HX'; rw [hno, if_neg (by simp)] at h; exact h)
      clear HX' hno Ha
      have C_0 := C.c 0; have C_1 := C.c 1; simp only [List.getElem?_cons_zero, List.getElem?_cons_succ] at C_0 C_1
      obtain ⟨h2, h3, h4⟩ := unhide Hh
      obtain rfl : X = (⟨vs, true, i⟩, i.at_, Met.zero, 0) := by rw [← unhide HX, if_neg (fun e => by have := e.2; omega), if_pos (by first | exact ⟨rfl, h3, h4⟩ | exact ⟨trivial, h3, h4⟩ | exact ⟨h3, h4⟩)]
      have h3' : (i.txn.ep == j.txn.ep) = true := by simpa using h3
      clear HX hLa h3
      have C_0 := C.c 0; have C_1 := C.c 1; have C_2 := C.c 2; have C_3 := C.c 3; have C_4 := C.c 4; have C_5 := C.c 5; have C_6 := C.c 6; have C_7 := C.c 7; have C_8 := C.c 8; have C_9 := C.c 9; have C_10 := C.c 10; have C_11 := C.c 11; simp only [List.getElem?_cons_zero, List.getElem?_cons_succ] at C_0 C_1 C_2 C_3 C_4 C_5 C_6 C_7 C_8 C_9 C_10 C_11
      have I_0 := I.c 0; have I_1 := I.c 1; have I_2 := I.c 2; have I_3 := I.c 3; have I_4 := I.c 4; have I_5 := I.c 5; have I_6 := I.c 6; have I_7 := I.c 7; have I_8 := I.c 8; have I_9 := I.c 9; simp only [List.getElem?_cons_zero, List.getElem?_cons_succ] at I_0 I_1 I_2 I_3 I_4 I_5 I_6 I_7 I_8 I_9
      have Q_0 := Q.c 0; have Q_1 := Q.c 1; have Q_2 := Q.c 2; have Q_3 := Q.c 3; have Q_4 := Q.c 4; have Q_5 := Q.c 5; have Q_6 := Q.c 6; have Q_7 := Q.c 7; have Q_8 := Q.c 8; have Q_9 := Q.c 9; simp only [List.getElem?_cons_zero, List.getElem?_cons_succ] at Q_0 Q_1 Q_2 Q_3 Q_4 Q_5 Q_6 Q_7 Q_8 Q_9
      have R_0 := R.c 0; have R_1 := R.c 1; have R_2 := R.c 2; have R_3 := R.c 3; have R_4 := R.c 4; have R_5 := R.c 5; have R_6 := R.c 6; have R_7 := R.c 7; have R_8 := R.c 8; have R_9 := R.c 9; have R_10 := R.c 10; have R_11 := R.c 11; simp only [List.getElem?_cons_zero, List.getElem?_cons_succ] at R_0 R_1 R_2 R_3 R_4 R_5 R_6 R_7 R_8 R_9 R_10 R_11
      have S_0 := S.c 0; have S_1 := S.c 1; simp only [List.getElem?_cons_zero, List.getElem?_cons_succ] at S_0 S_1
      have M_0 := M.c 0; have M_1 := M.c 1; have M_2 := M.c 2; have M_3 := M.c 3; have M_4 := M.c 4; simp only [List.getElem?_cons_zero, List.getElem?_cons_succ] at M_0 M_1 M_2 M_3 M_4
      have Rf := R.f
      have Sf := S.f
      have Mf := M.f
      go_upto_region 12 with fail
      have hltR := R.lt
      have hltS := S.lt
      have hltM := M.lt
      go_region_with (go_at_call 23; refine (hCo _ hB.drew).mono ?_; rintro e w4 ⟨bo, d, rfl, ho, hb4⟩; have HB4 := hide (hB.drew.trans (hb4.mono hB.size)); have HO := hide ho; have Q4 := Q.drew.later hb4; have R4 := R.drew.later hb4; have S4 := S.drew.later hb4; have M4 := M.drew.later hb4; have HH := hide (And.intro R4 (And.intro S4 M4)); have Q4_6 := Q4.c 6; have Q4_7 := Q4.c 7; simp only [List.getElem?_cons_zero, List.getElem?_cons_succ] at Q4_6 Q4_7; have R4_0 := R4.c 0; have R4_1 := R4.c 1; have R4_2 := R4.c 2; have R4_3 := R4.c 3; have R4_4 := R4.c 4; have R4_5 := R4.c 5; have R4_6 := R4.c 6; have R4_7 := R4.c 7; have R4_8 := R4.c 8; have R4_9 := R4.c 9; have R4_10 := R4.c 10; have R4_11 := R4.c 11; simp only [List.getElem?_cons_zero, List.getElem?_cons_succ] at R4_0 R4_1 R4_2 R4_3 R4_4 R4_5 R4_6 R4_7 R4_8 R4_9 R4_10 R4_11; have S4_0 := S4.c 0; have S4_1 := S4.c 1; simp only [List.getElem?_cons_zero, List.getElem?_cons_succ] at S4_0 S4_1; have M4_0 := M4.c 0; have M4_1 := M4.c 1; have M4_2 := M4.c 2; have M4_3 := M4.c 3; have M4_4 := M4.c 4; simp only [List.getElem?_cons_zero, List.getElem?_cons_succ] at M4_0 M4_1 M4_2 M4_3 M4_4; have R4f := R4.f; have S4f := S4.f; have M4f := M4.f; clear ho hb4 Q4 R4 S4 M4)
      all_goals
        go_wp2
        obtain ⟨R4, S4, M4⟩ := unhide HH
        obtain ⟨q1, q2, q3⟩ := three R4 S4 M4 (by omega) (by omega) (by omega) [.slice bo n d, .bool true, .int .i64 i.txn.id, .int .i64 i.txn.ep, .string i.txn.anchor, .int .i64 i.txn.start.1, .int .i64 i.txn.start.2, .int .i64 i.seq, .int .i64 i.at_.1, .int .i64 i.at_.2, .string i.val, .bool i.gone] [.int .i64 i.at_.1, .int .i64 i.at_.2] [.int .i64 Met.zero.id, .int .i64 Met.zero.ep, .string Met.zero.anchor, .int .i64 Met.zero.start.1, .int .i64 Met.zero.start.2] rfl rfl rfl
        refine bodyPost_ret (results_cste Try.results25 bo n d true i i.at_ Met.zero rfl rfl rfl rfl q1 q2 q3) rfl ⟨bo, d, ?_, (((unhide HO).vs.others ((unhide HO).offlow hltR) [.slice bo n d, .bool true, .int .i64 i.txn.id, .int .i64 i.txn.ep, .string i.txn.anchor, .int .i64 i.txn.start.1, .int .i64 i.txn.start.2, .int .i64 i.seq, .int .i64 i.at_.1, .int .i64 i.at_.2, .string i.val, .bool i.gone] 0).others ((unhide HO).offlow hltS) [.int .i64 i.at_.1, .int .i64 i.at_.2] 0).others ((unhide HO).offlow hltM) [.int .i64 Met.zero.id, .int .i64 Met.zero.ep, .string Met.zero.anchor, .int .i64 Met.zero.start.1, .int .i64 Met.zero.start.2] 0, below_setAll (by omega) [.int .i64 Met.zero.id, .int .i64 Met.zero.ep, .string Met.zero.anchor, .int .i64 Met.zero.start.1, .int .i64 Met.zero.start.2] 0 (below_setAll (by omega) [.int .i64 i.at_.1, .int .i64 i.at_.2] 0 (below_setAll (by omega) [.slice bo n d, .bool true, .int .i64 i.txn.id, .int .i64 i.txn.ep, .string i.txn.anchor, .int .i64 i.txn.start.1, .int .i64 i.txn.start.2, .int .i64 i.seq, .int .i64 i.at_.1, .int .i64 i.at_.2, .string i.val, .bool i.gone] 0 (unhide HB4)))⟩
        show _ = Ending.returned (.tuple #[(.agg #[.slice bo vs.length d, .bool true, .int .i64 i.txn.id, .int .i64 i.txn.ep, .string i.txn.anchor, .int .i64 i.txn.start.1, .int .i64 i.txn.start.2, .int .i64 i.seq, .int .i64 i.at_.1, .int .i64 i.at_.2, .string i.val, .bool i.gone]), (.agg #[.int .i64 i.at_.1, .int .i64 i.at_.2]), (.agg #[.int .i64 Met.zero.id, .int .i64 Met.zero.ep, .string Met.zero.anchor, .int .i64 Met.zero.start.1, .int .i64 Met.zero.start.2]), .int .i64 0])
        rw [unhide Hn]
        rfl
end

end Go.Proofs.Ytcahmnpoajnmpaa
