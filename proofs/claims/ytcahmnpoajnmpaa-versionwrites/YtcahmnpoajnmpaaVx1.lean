/-
  The contract of the document's Resolve. No law is proved here.
-/
import Derived.Test.YtcahmnpoajnmpaaVRow
namespace Go.Proofs.Ytcahmnpoajnmpaa
open Go.RowKit
set_option linter.unusedVariables false

theorem VOwn.offlt {B C : Nat} {w : World} {ao : Option Addr} {c : Nat} {vs : List Ver} (h : VOwn B w ao c vs) (hC : C < B) : Off C ao vs := fun b q e => by
  right
  subst e
  have := (h.lt b rfl).1
  omega
/-- A row of versions does not lie where a slice does. -/
theorem VOwn.off {B C : Nat} {w : World} {ao : Option Addr} {c : Nat} {vs : List Ver} (h : VOwn B w ao c vs) {x : Option Addr} {n k : Nat} {cs : List Value} (hC : Blk w C (.slice x n k :: cs)) : Off C ao vs := fun b q e => by
  cases vs with
  | nil => exact .inl rfl
  | cons v r =>
    right
    rintro rfl
    obtain ⟨b', o', e', hv⟩ := h.vs.each 0 (by simp)
    rcases h.2 with ⟨e2, _⟩ | ⟨g, cap, cur, e2, _⟩
    · injection e2 with e2 _ _
      rw [e2] at e
      cases e
    · injection e2 with e2 _ _
      rw [e2] at e e'
      injection e with e
      injection e with e3 e4
      injection e' with e'
      injection e' with e5 e6
      have h0 := hv.c0
      rw [← e5, ← e6, e3, Nat.zero_mul] at h0
      have h1 := hC.c 0
      simp only [Nat.add_zero] at h0
      rw [h0] at h1
      cases h1
theorem VOwn.alloc1 {B : Nat} {w : World} {ao : Option Addr} {c : Nat} {vs : List Ver} (h : VOwn B w ao c vs) (o : Obj) : VOwn B (w.alloc o) ao c vs := h.later ((Below.refl _ _).alloc (Nat.le_refl _) o)
theorem upto_fit (vs : List Ver) (a : Stp) : fitB vs a = (okS a && (if (lastP vs).2 = true then !upB a (lastP vs).1 else true)) := by
  unfold fitB lastP
  cases lastS vs with
  | none => simp
  | some l => simp [upB]

section
set_option maxRecDepth 100000
set_option maxHeartbeats 20000000

theorem refresolve_any (ao : Option Addr) (c : Nat) (vs : List Ver) (o : Bool) (i : Itn) (id ep : Int) (commit : Bool) (a : Stp) (w : World) (hv : Vs w ao c vs) (hlim : vs.length ≤ 2932031007400) :
    Calls Try.prog 27 #[(.agg #[.slice ao vs.length c, .bool o, .int .i64 i.txn.id, .int .i64 i.txn.ep, .string i.txn.anchor, .int .i64 i.txn.start.1, .int .i64 i.txn.start.2, .int .i64 i.seq, .int .i64 i.at_.1, .int .i64 i.at_.2, .string i.val, .bool i.gone]), .int .i64 id, .int .i64 ep, .bool commit, (.agg #[.int .i64 a.1, .int .i64 a.2])] w fun e w' => ∃ bo d, e = .returned (.tuple #[(.agg #[.slice bo (resolveC ⟨vs, o, i⟩ id ep commit a).1.vs.length d, .bool (resolveC ⟨vs, o, i⟩ id ep commit a).1.opn, .int .i64 (resolveC ⟨vs, o, i⟩ id ep commit a).1.itn.txn.id, .int .i64 (resolveC ⟨vs, o, i⟩ id ep commit a).1.itn.txn.ep, .string (resolveC ⟨vs, o, i⟩ id ep commit a).1.itn.txn.anchor, .int .i64 (resolveC ⟨vs, o, i⟩ id ep commit a).1.itn.txn.start.1, .int .i64 (resolveC ⟨vs, o, i⟩ id ep commit a).1.itn.txn.start.2, .int .i64 (resolveC ⟨vs, o, i⟩ id ep commit a).1.itn.seq, .int .i64 (resolveC ⟨vs, o, i⟩ id ep commit a).1.itn.at_.1, .int .i64 (resolveC ⟨vs, o, i⟩ id ep commit a).1.itn.at_.2, .string (resolveC ⟨vs, o, i⟩ id ep commit a).1.itn.val, .bool (resolveC ⟨vs, o, i⟩ id ep commit a).1.itn.gone]), .int .i64 (resolveC ⟨vs, o, i⟩ id ep commit a).2]) ∧ Vs w' bo d (resolveC ⟨vs, o, i⟩ id ep commit a).1.vs ∧ Below w.heap.size w w' := by
  obtain ⟨X, hX⟩ : ∃ X, resolveC ⟨vs, o, i⟩ id ep commit a = X := ⟨_, rfl⟩
  rw [hX]
  unfold resolveC at hX
  simp only at hX
  have hCo := fun w' (hb : Below w.heap.size w w') => refcopy_any ao c vs o i w' (hv.later hb) hlim
  have hLa := fun w' (hb : Below w.heap.size w w') => last_any ao c vs o i w' (hv.later hb)
  obtain ⟨n, hn⟩ : ∃ n, vs.length = n := ⟨_, rfl⟩
  have Hn := hide hn
  simp only [hn] at hCo hLa hlim ⊢
  have C := ((Blk.new w #[.slice ao n c, .bool o, .int .i64 i.txn.id, .int .i64 i.txn.ep, .string i.txn.anchor, .int .i64 i.txn.start.1, .int .i64 i.txn.start.2, .int .i64 i.seq, .int .i64 i.at_.1, .int .i64 i.at_.2, .string i.val, .bool i.gone] 30).alloc (.cells #[.int .i64 a.1, .int .i64 a.2] 24)).alloc (.cells #[.slice none 0 0, .bool false, .int .i64 0, .int .i64 0, .string ⟨#[]⟩, .int .i64 0, .int .i64 0, .int .i64 0, .int .i64 0, .int .i64 0, .string ⟨#[]⟩, .bool false] 30)
  have A := (Blk.new (w.alloc (.cells #[.slice ao n c, .bool o, .int .i64 i.txn.id, .int .i64 i.txn.ep, .string i.txn.anchor, .int .i64 i.txn.start.1, .int .i64 i.txn.start.2, .int .i64 i.seq, .int .i64 i.at_.1, .int .i64 i.at_.2, .string i.val, .bool i.gone] 30)) #[.int .i64 a.1, .int .i64 a.2] 24).alloc (.cells #[.slice none 0 0, .bool false, .int .i64 0, .int .i64 0, .string ⟨#[]⟩, .int .i64 0, .int .i64 0, .int .i64 0, .int .i64 0, .int .i64 0, .string ⟨#[]⟩, .bool false] 30)
  rw [show (w.alloc (.cells #[.slice ao n c, .bool o, .int .i64 i.txn.id, .int .i64 i.txn.ep, .string i.txn.anchor, .int .i64 i.txn.start.1, .int .i64 i.txn.start.2, .int .i64 i.seq, .int .i64 i.at_.1, .int .i64 i.at_.2, .string i.val, .bool i.gone] 30)).heap.size = w.heap.size + 1 by simp] at A
  have R := Blk.new ((w.alloc (.cells #[.slice ao n c, .bool o, .int .i64 i.txn.id, .int .i64 i.txn.ep, .string i.txn.anchor, .int .i64 i.txn.start.1, .int .i64 i.txn.start.2, .int .i64 i.seq, .int .i64 i.at_.1, .int .i64 i.at_.2, .string i.val, .bool i.gone] 30)).alloc (.cells #[.int .i64 a.1, .int .i64 a.2] 24)) #[.slice none 0 0, .bool false, .int .i64 0, .int .i64 0, .string ⟨#[]⟩, .int .i64 0, .int .i64 0, .int .i64 0, .int .i64 0, .int .i64 0, .string ⟨#[]⟩, .bool false] 30
  rw [show ((w.alloc (.cells #[.slice ao n c, .bool o, .int .i64 i.txn.id, .int .i64 i.txn.ep, .string i.txn.anchor, .int .i64 i.txn.start.1, .int .i64 i.txn.start.2, .int .i64 i.seq, .int .i64 i.at_.1, .int .i64 i.at_.2, .string i.val, .bool i.gone] 30)).alloc (.cells #[.int .i64 a.1, .int .i64 a.2] 24)).heap.size = w.heap.size + 1 + 1 by simp] at R
  have hB : Below w.heap.size w (((w.alloc (.cells #[.slice ao n c, .bool o, .int .i64 i.txn.id, .int .i64 i.txn.ep, .string i.txn.anchor, .int .i64 i.txn.start.1, .int .i64 i.txn.start.2, .int .i64 i.seq, .int .i64 i.at_.1, .int .i64 i.at_.2, .string i.val, .bool i.gone] 30)).alloc (.cells #[.int .i64 a.1, .int .i64 a.2] 24)).alloc (.cells #[.slice none 0 0, .bool false, .int .i64 0, .int .i64 0, .string ⟨#[]⟩, .int .i64 0, .int .i64 0, .int .i64 0, .int .i64 0, .int .i64 0, .string ⟨#[]⟩, .bool false] 30)) := (((Below.refl w.heap.size w).alloc (Nat.le_refl _) _).alloc (by simp) _).alloc (by simp; omega) _
  clear hv hn
  have HX := hide hX
  clear hX
  by_cases h1 : o = false ∨ i.txn.id ≠ id
  · obtain rfl : X = (⟨vs, o, i⟩, 0) := by rw [← unhide HX, if_pos h1]
    have h2 : o = true → (i.txn.id != id) = true := fun h => by
      rcases h1 with e | e
      · rw [e] at h; cases h
      · simpa using e
    clear h1 HX hLa
    go_enter Try.func27, Try.ntmps27
    go_wp2_with fail
    generalize ((w.alloc _).alloc _).alloc _ = W at *
    have hltW := R.lt
    have hB0 := hB.size
    refine (hCo _ hB).mono ?_
    rintro e w1 ⟨bo, d, rfl, ho, hb1⟩
    replace C := C.later hb1
    replace A := A.later hb1
    replace R := R.later hb1
    replace hB := hB.trans (hb1.mono hB.size)
    have How := hide (fun g (hg : (Value.slice bo n d).ownBlock = some g) => ho.lt g (by rw [unhide Hn]; exact hg))
    have hoR := ho.offlt hltW
    have hoO := ho.vs.off (Nat.le_refl _)
    have neR := Nat.ne_of_lt R.lt
    have neA := Nat.ne_of_lt A.lt
    have hsW := hb1.size
    clear hb1 hCo
    have O := Blk.new w1 #[.slice bo n d, .bool o, .int .i64 i.txn.id, .int .i64 i.txn.ep, .string i.txn.anchor, .int .i64 i.txn.start.1, .int .i64 i.txn.start.2, .int .i64 i.seq, .int .i64 i.at_.1, .int .i64 i.at_.2, .string i.val, .bool i.gone] 30
    have hb2 := (Below.refl w1.heap.size w1).alloc (Nat.le_refl _) (.cells #[.slice bo n d, .bool o, .int .i64 i.txn.id, .int .i64 i.txn.ep, .string i.txn.anchor, .int .i64 i.txn.start.1, .int .i64 i.txn.start.2, .int .i64 i.seq, .int .i64 i.at_.1, .int .i64 i.at_.2, .string i.val, .bool i.gone] 30)
    replace C := C.later hb2
    replace A := A.later hb2
    replace R := R.later hb2
    replace ho := ho.later hb2
    have hvo := ho.vs
    replace hB := hB.trans (hb2.mono hB.size)
    clear hb2
    have Hlt := hide (And.intro neR (And.intro neA (And.intro hsW hltW)))
    have Hof := hide (And.intro hoR hoO)
    clear neR neA hsW hltW hoR hoO
    go_upto_region 2 with fail
    generalize w1.alloc _ = W1 at *
    have C_0 := C.c 0; have C_1 := C.c 1; have C_2 := C.c 2; have C_3 := C.c 3; have C_4 := C.c 4; have C_5 := C.c 5; have C_6 := C.c 6; have C_7 := C.c 7; have C_8 := C.c 8; have C_9 := C.c 9; have C_10 := C.c 10; have C_11 := C.c 11; simp only [List.getElem?_cons_zero, List.getElem?_cons_succ] at C_0 C_1 C_2 C_3 C_4 C_5 C_6 C_7 C_8 C_9 C_10 C_11
    have I := Blk.new W1 #[.int .i64 i.txn.id, .int .i64 i.txn.ep, .string i.txn.anchor, .int .i64 i.txn.start.1, .int .i64 i.txn.start.2, .int .i64 i.seq, .int .i64 i.at_.1, .int .i64 i.at_.2, .string i.val, .bool i.gone] 28
    have hb2 := (Below.refl W1.heap.size W1).alloc (Nat.le_refl _) (.cells #[.int .i64 i.txn.id, .int .i64 i.txn.ep, .string i.txn.anchor, .int .i64 i.txn.start.1, .int .i64 i.txn.start.2, .int .i64 i.seq, .int .i64 i.at_.1, .int .i64 i.at_.2, .string i.val, .bool i.gone] 28)
    have neI := Nat.ne_of_lt O.lt
    have neI2 := Nat.ne_of_lt A.lt
    replace C := C.later hb2
    replace A := A.later hb2
    replace R := R.later hb2
    replace O := O.later hb2
    replace hvo := hvo.later hb2
    replace hB := hB.trans (hb2.mono hB.size)
    replace ho := ho.later hb2
    clear hb2
    have HneI := hide (And.intro neI neI2)
    clear neI neI2
    go_upto_region 3 with fail
    clear C_0 C_1 C_2 C_3 C_4 C_5 C_6 C_7 C_8 C_9 C_10 C_11
    generalize W1.alloc _ = W2 at *
    cases o
    · clear h2
      have C_0 := C.c 0; have C_1 := C.c 1; have C_2 := C.c 2; have C_3 := C.c 3; have C_4 := C.c 4; have C_5 := C.c 5; have C_6 := C.c 6; have C_7 := C.c 7; have C_8 := C.c 8; have C_9 := C.c 9; have C_10 := C.c 10; have C_11 := C.c 11; simp only [List.getElem?_cons_zero, List.getElem?_cons_succ] at C_0 C_1 C_2 C_3 C_4 C_5 C_6 C_7 C_8 C_9 C_10 C_11
      have I_0 := I.c 0; have I_1 := I.c 1; have I_2 := I.c 2; have I_3 := I.c 3; have I_4 := I.c 4; have I_5 := I.c 5; have I_6 := I.c 6; have I_7 := I.c 7; have I_8 := I.c 8; have I_9 := I.c 9; simp only [List.getElem?_cons_zero, List.getElem?_cons_succ] at I_0 I_1 I_2 I_3 I_4 I_5 I_6 I_7 I_8 I_9
      have O_0 := O.c 0; have O_1 := O.c 1; have O_2 := O.c 2; have O_3 := O.c 3; have O_4 := O.c 4; have O_5 := O.c 5; have O_6 := O.c 6; have O_7 := O.c 7; have O_8 := O.c 8; have O_9 := O.c 9; have O_10 := O.c 10; have O_11 := O.c 11; simp only [List.getElem?_cons_zero, List.getElem?_cons_succ] at O_0 O_1 O_2 O_3 O_4 O_5 O_6 O_7 O_8 O_9 O_10 O_11
      have R_0 := R.c 0; have R_1 := R.c 1; have R_2 := R.c 2; have R_3 := R.c 3; have R_4 := R.c 4; have R_5 := R.c 5; have R_6 := R.c 6; have R_7 := R.c 7; have R_8 := R.c 8; have R_9 := R.c 9; have R_10 := R.c 10; have R_11 := R.c 11; simp only [List.getElem?_cons_zero, List.getElem?_cons_succ] at R_0 R_1 R_2 R_3 R_4 R_5 R_6 R_7 R_8 R_9 R_10 R_11
      have Rf := R.f
      have HB := hide hB
      have Hvo := hide hvo
      clear hB hvo C A I ho
      go_wp2
      refine bodyPost_ret (results_ce Try.results27 bo n d _ i rfl rfl (R.all [.slice bo n d, .bool _, .int .i64 i.txn.id, .int .i64 i.txn.ep, .string i.txn.anchor, .int .i64 i.txn.start.1, .int .i64 i.txn.start.2, .int .i64 i.seq, .int .i64 i.at_.1, .int .i64 i.at_.2, .string i.val, .bool i.gone] rfl)) rfl ⟨bo, d, ?_, (unhide Hvo).others (unhide Hof).1 [.slice bo n d, .bool _, .int .i64 i.txn.id, .int .i64 i.txn.ep, .string i.txn.anchor, .int .i64 i.txn.start.1, .int .i64 i.txn.start.2, .int .i64 i.seq, .int .i64 i.at_.1, .int .i64 i.at_.2, .string i.val, .bool i.gone] 0, below_setAll (by omega) [.slice bo n d, .bool _, .int .i64 i.txn.id, .int .i64 i.txn.ep, .string i.txn.anchor, .int .i64 i.txn.start.1, .int .i64 i.txn.start.2, .int .i64 i.seq, .int .i64 i.at_.1, .int .i64 i.at_.2, .string i.val, .bool i.gone] 0 (unhide HB)⟩
      show _ = Ending.returned (.tuple #[(.agg #[.slice bo vs.length d, .bool _, .int .i64 i.txn.id, .int .i64 i.txn.ep, .string i.txn.anchor, .int .i64 i.txn.start.1, .int .i64 i.txn.start.2, .int .i64 i.seq, .int .i64 i.at_.1, .int .i64 i.at_.2, .string i.val, .bool i.gone]), .int .i64 0])
      rw [unhide Hn]
      rfl
    · have h2 := h2 rfl
      have C_0 := C.c 0; have C_1 := C.c 1; have C_2 := C.c 2; have C_3 := C.c 3; have C_4 := C.c 4; have C_5 := C.c 5; have C_6 := C.c 6; have C_7 := C.c 7; have C_8 := C.c 8; have C_9 := C.c 9; have C_10 := C.c 10; have C_11 := C.c 11; simp only [List.getElem?_cons_zero, List.getElem?_cons_succ] at C_0 C_1 C_2 C_3 C_4 C_5 C_6 C_7 C_8 C_9 C_10 C_11
      have I_0 := I.c 0; have I_1 := I.c 1; have I_2 := I.c 2; have I_3 := I.c 3; have I_4 := I.c 4; have I_5 := I.c 5; have I_6 := I.c 6; have I_7 := I.c 7; have I_8 := I.c 8; have I_9 := I.c 9; simp only [List.getElem?_cons_zero, List.getElem?_cons_succ] at I_0 I_1 I_2 I_3 I_4 I_5 I_6 I_7 I_8 I_9
      have O_0 := O.c 0; have O_1 := O.c 1; have O_2 := O.c 2; have O_3 := O.c 3; have O_4 := O.c 4; have O_5 := O.c 5; have O_6 := O.c 6; have O_7 := O.c 7; have O_8 := O.c 8; have O_9 := O.c 9; have O_10 := O.c 10; have O_11 := O.c 11; simp only [List.getElem?_cons_zero, List.getElem?_cons_succ] at O_0 O_1 O_2 O_3 O_4 O_5 O_6 O_7 O_8 O_9 O_10 O_11
      have R_0 := R.c 0; have R_1 := R.c 1; have R_2 := R.c 2; have R_3 := R.c 3; have R_4 := R.c 4; have R_5 := R.c 5; have R_6 := R.c 6; have R_7 := R.c 7; have R_8 := R.c 8; have R_9 := R.c 9; have R_10 := R.c 10; have R_11 := R.c 11; simp only [List.getElem?_cons_zero, List.getElem?_cons_succ] at R_0 R_1 R_2 R_3 R_4 R_5 R_6 R_7 R_8 R_9 R_10 R_11
      have Rf := R.f
      have HB := hide hB
      have Hvo := hide hvo
      clear hB hvo C A I ho
      go_wp2
      refine bodyPost_ret (results_ce Try.results27 bo n d _ i rfl rfl (R.all [.slice bo n d, .bool _, .int .i64 i.txn.id, .int .i64 i.txn.ep, .string i.txn.anchor, .int .i64 i.txn.start.1, .int .i64 i.txn.start.2, .int .i64 i.seq, .int .i64 i.at_.1, .int .i64 i.at_.2, .string i.val, .bool i.gone] rfl)) rfl ⟨bo, d, ?_, (unhide Hvo).others (unhide Hof).1 [.slice bo n d, .bool _, .int .i64 i.txn.id, .int .i64 i.txn.ep, .string i.txn.anchor, .int .i64 i.txn.start.1, .int .i64 i.txn.start.2, .int .i64 i.seq, .int .i64 i.at_.1, .int .i64 i.at_.2, .string i.val, .bool i.gone] 0, below_setAll (by omega) [.slice bo n d, .bool _, .int .i64 i.txn.id, .int .i64 i.txn.ep, .string i.txn.anchor, .int .i64 i.txn.start.1, .int .i64 i.txn.start.2, .int .i64 i.seq, .int .i64 i.at_.1, .int .i64 i.at_.2, .string i.val, .bool i.gone] 0 (unhide HB)⟩
      show _ = Ending.returned (.tuple #[(.agg #[.slice bo vs.length d, .bool _, .int .i64 i.txn.id, .int .i64 i.txn.ep, .string i.txn.anchor, .int .i64 i.txn.start.1, .int .i64 i.txn.start.2, .int .i64 i.seq, .int .i64 i.at_.1, .int .i64 i.at_.2, .string i.val, .bool i.gone]), .int .i64 0])
      rw [unhide Hn]
      rfl
  have ho1 : o = true := by cases o; exact absurd (.inl rfl) h1; rfl
  have hid : i.txn.id = id := Classical.byContradiction fun e => h1 (.inr e)
  subst ho1 hid
  have h2 : (i.txn.id != i.txn.id) = false := by simp
  have HX2 : Hid ((if commit = false ∧ ep < i.txn.ep then (⟨vs, true, i⟩, 0) else if commit = true ∧ i.txn.ep = ep then (if okS a = true ∧ (∀ s, lastS vs = some s → ltB s a = true) then (⟨vs ++ [⟨a, i.val, i.gone, i.txn.id⟩], false, Itn.zero⟩, 0) else (Chn.zero, 84)) else (⟨vs, false, Itn.zero⟩, 0)) = X) := hide (by
    have h := unhide HX
    rw [if_neg h1] at h
    exact h)
  clear HX h1
  cases commit
  · by_cases h3 : ep < i.txn.ep
    · obtain rfl : X = (⟨vs, true, i⟩, 0) := by rw [← unhide HX2, if_pos ⟨rfl, h3⟩]
      clear HX2 hLa
      go_enter Try.func27, Try.ntmps27
      go_wp2_with fail
      generalize ((w.alloc _).alloc _).alloc _ = W at *
      have hltW := R.lt
      have hB0 := hB.size
      refine (hCo _ hB).mono ?_
      rintro e w1 ⟨bo, d, rfl, ho, hb1⟩
      replace C := C.later hb1
      replace A := A.later hb1
      replace R := R.later hb1
      replace hB := hB.trans (hb1.mono hB.size)
      have How := hide (fun g (hg : (Value.slice bo n d).ownBlock = some g) => ho.lt g (by rw [unhide Hn]; exact hg))
      have hoR := ho.offlt hltW
      have hoO := ho.vs.off (Nat.le_refl _)
      have neR := Nat.ne_of_lt R.lt
      have neA := Nat.ne_of_lt A.lt
      have hsW := hb1.size
      clear hb1 hCo
      have O := Blk.new w1 #[.slice bo n d, .bool true, .int .i64 i.txn.id, .int .i64 i.txn.ep, .string i.txn.anchor, .int .i64 i.txn.start.1, .int .i64 i.txn.start.2, .int .i64 i.seq, .int .i64 i.at_.1, .int .i64 i.at_.2, .string i.val, .bool i.gone] 30
      have hb2 := (Below.refl w1.heap.size w1).alloc (Nat.le_refl _) (.cells #[.slice bo n d, .bool true, .int .i64 i.txn.id, .int .i64 i.txn.ep, .string i.txn.anchor, .int .i64 i.txn.start.1, .int .i64 i.txn.start.2, .int .i64 i.seq, .int .i64 i.at_.1, .int .i64 i.at_.2, .string i.val, .bool i.gone] 30)
      replace C := C.later hb2
      replace A := A.later hb2
      replace R := R.later hb2
      replace ho := ho.later hb2
      have hvo := ho.vs
      replace hB := hB.trans (hb2.mono hB.size)
      clear hb2
      have Hlt := hide (And.intro neR (And.intro neA (And.intro hsW hltW)))
      have Hof := hide (And.intro hoR hoO)
      clear neR neA hsW hltW hoR hoO
      go_upto_region 2 with fail
      generalize w1.alloc _ = W1 at *
      have C_0 := C.c 0; have C_1 := C.c 1; have C_2 := C.c 2; have C_3 := C.c 3; have C_4 := C.c 4; have C_5 := C.c 5; have C_6 := C.c 6; have C_7 := C.c 7; have C_8 := C.c 8; have C_9 := C.c 9; have C_10 := C.c 10; have C_11 := C.c 11; simp only [List.getElem?_cons_zero, List.getElem?_cons_succ] at C_0 C_1 C_2 C_3 C_4 C_5 C_6 C_7 C_8 C_9 C_10 C_11
      have I := Blk.new W1 #[.int .i64 i.txn.id, .int .i64 i.txn.ep, .string i.txn.anchor, .int .i64 i.txn.start.1, .int .i64 i.txn.start.2, .int .i64 i.seq, .int .i64 i.at_.1, .int .i64 i.at_.2, .string i.val, .bool i.gone] 28
      have hb2 := (Below.refl W1.heap.size W1).alloc (Nat.le_refl _) (.cells #[.int .i64 i.txn.id, .int .i64 i.txn.ep, .string i.txn.anchor, .int .i64 i.txn.start.1, .int .i64 i.txn.start.2, .int .i64 i.seq, .int .i64 i.at_.1, .int .i64 i.at_.2, .string i.val, .bool i.gone] 28)
      have neI := Nat.ne_of_lt O.lt
      have neI2 := Nat.ne_of_lt A.lt
      replace C := C.later hb2
      replace A := A.later hb2
      replace R := R.later hb2
      replace O := O.later hb2
      replace hvo := hvo.later hb2
      replace hB := hB.trans (hb2.mono hB.size)
      replace ho := ho.later hb2
      clear hb2
      have HneI := hide (And.intro neI neI2)
      clear neI neI2
      go_upto_region 3 with fail
      clear C_0 C_1 C_2 C_3 C_4 C_5 C_6 C_7 C_8 C_9 C_10 C_11
      generalize W1.alloc _ = W2 at *
      have C_0 := C.c 0; have C_1 := C.c 1; have C_2 := C.c 2; have C_3 := C.c 3; have C_4 := C.c 4; have C_5 := C.c 5; have C_6 := C.c 6; have C_7 := C.c 7; have C_8 := C.c 8; have C_9 := C.c 9; have C_10 := C.c 10; have C_11 := C.c 11; simp only [List.getElem?_cons_zero, List.getElem?_cons_succ] at C_0 C_1 C_2 C_3 C_4 C_5 C_6 C_7 C_8 C_9 C_10 C_11
      have I_0 := I.c 0; have I_1 := I.c 1; have I_2 := I.c 2; have I_3 := I.c 3; have I_4 := I.c 4; have I_5 := I.c 5; have I_6 := I.c 6; have I_7 := I.c 7; have I_8 := I.c 8; have I_9 := I.c 9; simp only [List.getElem?_cons_zero, List.getElem?_cons_succ] at I_0 I_1 I_2 I_3 I_4 I_5 I_6 I_7 I_8 I_9
      have O_0 := O.c 0; have O_1 := O.c 1; have O_2 := O.c 2; have O_3 := O.c 3; have O_4 := O.c 4; have O_5 := O.c 5; have O_6 := O.c 6; have O_7 := O.c 7; have O_8 := O.c 8; have O_9 := O.c 9; have O_10 := O.c 10; have O_11 := O.c 11; simp only [List.getElem?_cons_zero, List.getElem?_cons_succ] at O_0 O_1 O_2 O_3 O_4 O_5 O_6 O_7 O_8 O_9 O_10 O_11
      have R_0 := R.c 0; have R_1 := R.c 1; have R_2 := R.c 2; have R_3 := R.c 3; have R_4 := R.c 4; have R_5 := R.c 5; have R_6 := R.c 6; have R_7 := R.c 7; have R_8 := R.c 8; have R_9 := R.c 9; have R_10 := R.c 10; have R_11 := R.c 11; simp only [List.getElem?_cons_zero, List.getElem?_cons_succ] at R_0 R_1 R_2 R_3 R_4 R_5 R_6 R_7 R_8 R_9 R_10 R_11
      have Rf := R.f
      have HB := hide hB
      have Hvo := hide hvo
      clear hB hvo C A I ho
      go_wp2
      refine bodyPost_ret (results_ce Try.results27 bo n d _ i rfl rfl (R.all [.slice bo n d, .bool _, .int .i64 i.txn.id, .int .i64 i.txn.ep, .string i.txn.anchor, .int .i64 i.txn.start.1, .int .i64 i.txn.start.2, .int .i64 i.seq, .int .i64 i.at_.1, .int .i64 i.at_.2, .string i.val, .bool i.gone] rfl)) rfl ⟨bo, d, ?_, (unhide Hvo).others (unhide Hof).1 [.slice bo n d, .bool _, .int .i64 i.txn.id, .int .i64 i.txn.ep, .string i.txn.anchor, .int .i64 i.txn.start.1, .int .i64 i.txn.start.2, .int .i64 i.seq, .int .i64 i.at_.1, .int .i64 i.at_.2, .string i.val, .bool i.gone] 0, below_setAll (by omega) [.slice bo n d, .bool _, .int .i64 i.txn.id, .int .i64 i.txn.ep, .string i.txn.anchor, .int .i64 i.txn.start.1, .int .i64 i.txn.start.2, .int .i64 i.seq, .int .i64 i.at_.1, .int .i64 i.at_.2, .string i.val, .bool i.gone] 0 (unhide HB)⟩
      show _ = Ending.returned (.tuple #[(.agg #[.slice bo vs.length d, .bool _, .int .i64 i.txn.id, .int .i64 i.txn.ep, .string i.txn.anchor, .int .i64 i.txn.start.1, .int .i64 i.txn.start.2, .int .i64 i.seq, .int .i64 i.at_.1, .int .i64 i.at_.2, .string i.val, .bool i.gone]), .int .i64 0])
      rw [unhide Hn]
      rfl
    · obtain rfl : X = (⟨vs, false, Itn.zero⟩, 0) := by rw [← unhide HX2, if_neg (fun e => h3 e.2), if_neg (fun e => by cases e.1)]
      clear HX2 hLa
      go_enter Try.func27, Try.ntmps27
      go_wp2_with fail
      generalize ((w.alloc _).alloc _).alloc _ = W at *
      have hltW := R.lt
      have hB0 := hB.size
      refine (hCo _ hB).mono ?_
      rintro e w1 ⟨bo, d, rfl, ho, hb1⟩
      replace C := C.later hb1
      replace A := A.later hb1
      replace R := R.later hb1
      replace hB := hB.trans (hb1.mono hB.size)
      have How := hide (fun g (hg : (Value.slice bo n d).ownBlock = some g) => ho.lt g (by rw [unhide Hn]; exact hg))
      have hoR := ho.offlt hltW
      have hoO := ho.vs.off (Nat.le_refl _)
      have neR := Nat.ne_of_lt R.lt
      have neA := Nat.ne_of_lt A.lt
      have hsW := hb1.size
      clear hb1 hCo
      have O := Blk.new w1 #[.slice bo n d, .bool true, .int .i64 i.txn.id, .int .i64 i.txn.ep, .string i.txn.anchor, .int .i64 i.txn.start.1, .int .i64 i.txn.start.2, .int .i64 i.seq, .int .i64 i.at_.1, .int .i64 i.at_.2, .string i.val, .bool i.gone] 30
      have hb2 := (Below.refl w1.heap.size w1).alloc (Nat.le_refl _) (.cells #[.slice bo n d, .bool true, .int .i64 i.txn.id, .int .i64 i.txn.ep, .string i.txn.anchor, .int .i64 i.txn.start.1, .int .i64 i.txn.start.2, .int .i64 i.seq, .int .i64 i.at_.1, .int .i64 i.at_.2, .string i.val, .bool i.gone] 30)
      replace C := C.later hb2
      replace A := A.later hb2
      replace R := R.later hb2
      replace ho := ho.later hb2
      have hvo := ho.vs
      replace hB := hB.trans (hb2.mono hB.size)
      clear hb2
      have Hlt := hide (And.intro neR (And.intro neA (And.intro hsW hltW)))
      have Hof := hide (And.intro hoR hoO)
      clear neR neA hsW hltW hoR hoO
      go_upto_region 2 with fail
      generalize w1.alloc _ = W1 at *
      have C_0 := C.c 0; have C_1 := C.c 1; have C_2 := C.c 2; have C_3 := C.c 3; have C_4 := C.c 4; have C_5 := C.c 5; have C_6 := C.c 6; have C_7 := C.c 7; have C_8 := C.c 8; have C_9 := C.c 9; have C_10 := C.c 10; have C_11 := C.c 11; simp only [List.getElem?_cons_zero, List.getElem?_cons_succ] at C_0 C_1 C_2 C_3 C_4 C_5 C_6 C_7 C_8 C_9 C_10 C_11
      have I := Blk.new W1 #[.int .i64 i.txn.id, .int .i64 i.txn.ep, .string i.txn.anchor, .int .i64 i.txn.start.1, .int .i64 i.txn.start.2, .int .i64 i.seq, .int .i64 i.at_.1, .int .i64 i.at_.2, .string i.val, .bool i.gone] 28
      have hb2 := (Below.refl W1.heap.size W1).alloc (Nat.le_refl _) (.cells #[.int .i64 i.txn.id, .int .i64 i.txn.ep, .string i.txn.anchor, .int .i64 i.txn.start.1, .int .i64 i.txn.start.2, .int .i64 i.seq, .int .i64 i.at_.1, .int .i64 i.at_.2, .string i.val, .bool i.gone] 28)
      have neI := Nat.ne_of_lt O.lt
      have neI2 := Nat.ne_of_lt A.lt
      replace C := C.later hb2
      replace A := A.later hb2
      replace R := R.later hb2
      replace O := O.later hb2
      replace hvo := hvo.later hb2
      replace hB := hB.trans (hb2.mono hB.size)
      replace ho := ho.later hb2
      clear hb2
      have HneI := hide (And.intro neI neI2)
      clear neI neI2
      go_upto_region 3 with fail
      clear C_0 C_1 C_2 C_3 C_4 C_5 C_6 C_7 C_8 C_9 C_10 C_11
      generalize W1.alloc _ = W2 at *
      have C_0 := C.c 0; have C_1 := C.c 1; have C_2 := C.c 2; have C_3 := C.c 3; have C_4 := C.c 4; have C_5 := C.c 5; have C_6 := C.c 6; have C_7 := C.c 7; have C_8 := C.c 8; have C_9 := C.c 9; have C_10 := C.c 10; have C_11 := C.c 11; simp only [List.getElem?_cons_zero, List.getElem?_cons_succ] at C_0 C_1 C_2 C_3 C_4 C_5 C_6 C_7 C_8 C_9 C_10 C_11
      have I_0 := I.c 0; have I_1 := I.c 1; have I_2 := I.c 2; have I_3 := I.c 3; have I_4 := I.c 4; have I_5 := I.c 5; have I_6 := I.c 6; have I_7 := I.c 7; have I_8 := I.c 8; have I_9 := I.c 9; simp only [List.getElem?_cons_zero, List.getElem?_cons_succ] at I_0 I_1 I_2 I_3 I_4 I_5 I_6 I_7 I_8 I_9
      have O4 := Blk.setAll_at [.bool false, .int .i64 0, .int .i64 0, .string ⟨#[]⟩, .int .i64 0, .int .i64 0, .int .i64 0, .int .i64 0, .int .i64 0, .string ⟨#[]⟩, .bool false] W2 [.slice bo (n) d] [.bool true, .int .i64 i.txn.id, .int .i64 i.txn.ep, .string i.txn.anchor, .int .i64 i.txn.start.1, .int .i64 i.txn.start.2, .int .i64 i.seq, .int .i64 i.at_.1, .int .i64 i.at_.2, .string i.val, .bool i.gone] 1 O rfl rfl
      have R4 := Blk.others (C := w1.heap.size) (unhide Hlt).1 [.bool false, .int .i64 0, .int .i64 0, .string ⟨#[]⟩, .int .i64 0, .int .i64 0, .int .i64 0, .int .i64 0, .int .i64 0, .string ⟨#[]⟩, .bool false] 1 R
      have v4 := hvo.others (unhide Hof).2 [.bool false, .int .i64 0, .int .i64 0, .string ⟨#[]⟩, .int .i64 0, .int .i64 0, .int .i64 0, .int .i64 0, .int .i64 0, .string ⟨#[]⟩, .bool false] 1
      have hB4 := below_setAll (C := w1.heap.size) (Nat.le_trans hB0 (unhide Hlt).2.2.1) [.bool false, .int .i64 0, .int .i64 0, .string ⟨#[]⟩, .int .i64 0, .int .i64 0, .int .i64 0, .int .i64 0, .int .i64 0, .string ⟨#[]⟩, .bool false] 1 hB
      simp only [List.cons_append, List.nil_append] at O4
      have Hw := hide (And.intro O4 (And.intro R4 (And.intro v4 hB4)))
      have O_0 := O.c 0; have O_1 := O.c 1; have O_2 := O.c 2; have O_3 := O.c 3; have O_4 := O.c 4; have O_5 := O.c 5; have O_6 := O.c 6; have O_7 := O.c 7; have O_8 := O.c 8; have O_9 := O.c 9; have O_10 := O.c 10; have O_11 := O.c 11; simp only [List.getElem?_cons_zero, List.getElem?_cons_succ] at O_0 O_1 O_2 O_3 O_4 O_5 O_6 O_7 O_8 O_9 O_10 O_11
      have Of := O.f
      clear O4 R4 v4 hB4 O R hvo hB C A I ho
      go_upto_region 15 with fail
      clear O_0 O_1 O_2 O_3 O_4 O_5 O_6 O_7 O_8 O_9 O_10 O_11
      clear Of
      generalize hW4 : setAll W2 w1.heap.size 1 [.bool false, .int .i64 0, .int .i64 0, .string ⟨#[]⟩, .int .i64 0, .int .i64 0, .int .i64 0, .int .i64 0, .int .i64 0, .string ⟨#[]⟩, .bool false] = W4 at Hw
      simp only [setAll, Nat.reduceAdd] at hW4
      rw [hW4]
      clear hW4
      obtain ⟨O, R, hvo, hB⟩ := unhide Hw
      clear Hw
      have O_0 := O.c 0; have O_1 := O.c 1; have O_2 := O.c 2; have O_3 := O.c 3; have O_4 := O.c 4; have O_5 := O.c 5; have O_6 := O.c 6; have O_7 := O.c 7; have O_8 := O.c 8; have O_9 := O.c 9; have O_10 := O.c 10; have O_11 := O.c 11; simp only [List.getElem?_cons_zero, List.getElem?_cons_succ] at O_0 O_1 O_2 O_3 O_4 O_5 O_6 O_7 O_8 O_9 O_10 O_11
      have R_0 := R.c 0; have R_1 := R.c 1; have R_2 := R.c 2; have R_3 := R.c 3; have R_4 := R.c 4; have R_5 := R.c 5; have R_6 := R.c 6; have R_7 := R.c 7; have R_8 := R.c 8; have R_9 := R.c 9; have R_10 := R.c 10; have R_11 := R.c 11; simp only [List.getElem?_cons_zero, List.getElem?_cons_succ] at R_0 R_1 R_2 R_3 R_4 R_5 R_6 R_7 R_8 R_9 R_10 R_11
      have Rf := R.f
      have HB := hide hB
      have Hvo := hide hvo
      clear hB hvo O
      go_wp2
      refine bodyPost_ret (results_ce Try.results27 bo n d false Itn.zero rfl rfl (R.all [.slice bo n d, .bool false, .int .i64 Itn.zero.txn.id, .int .i64 Itn.zero.txn.ep, .string Itn.zero.txn.anchor, .int .i64 Itn.zero.txn.start.1, .int .i64 Itn.zero.txn.start.2, .int .i64 Itn.zero.seq, .int .i64 Itn.zero.at_.1, .int .i64 Itn.zero.at_.2, .string Itn.zero.val, .bool Itn.zero.gone] rfl)) rfl ⟨bo, d, ?_, (unhide Hvo).others (unhide Hof).1 [.slice bo n d, .bool false, .int .i64 Itn.zero.txn.id, .int .i64 Itn.zero.txn.ep, .string Itn.zero.txn.anchor, .int .i64 Itn.zero.txn.start.1, .int .i64 Itn.zero.txn.start.2, .int .i64 Itn.zero.seq, .int .i64 Itn.zero.at_.1, .int .i64 Itn.zero.at_.2, .string Itn.zero.val, .bool Itn.zero.gone] 0, below_setAll (by omega) [.slice bo n d, .bool false, .int .i64 Itn.zero.txn.id, .int .i64 Itn.zero.txn.ep, .string Itn.zero.txn.anchor, .int .i64 Itn.zero.txn.start.1, .int .i64 Itn.zero.txn.start.2, .int .i64 Itn.zero.seq, .int .i64 Itn.zero.at_.1, .int .i64 Itn.zero.at_.2, .string Itn.zero.val, .bool Itn.zero.gone] 0 (unhide HB)⟩
      show _ = Ending.returned (.tuple #[(.agg #[.slice bo vs.length d, .bool false, .int .i64 Itn.zero.txn.id, .int .i64 Itn.zero.txn.ep, .string Itn.zero.txn.anchor, .int .i64 Itn.zero.txn.start.1, .int .i64 Itn.zero.txn.start.2, .int .i64 Itn.zero.seq, .int .i64 Itn.zero.at_.1, .int .i64 Itn.zero.at_.2, .string Itn.zero.val, .bool Itn.zero.gone]), .int .i64 0])
      rw [unhide Hn]
      rfl
  · by_cases h3 : i.txn.ep = ep
    case neg =>
      obtain rfl : X = (⟨vs, false, Itn.zero⟩, 0) := by rw [← unhide HX2, if_neg (fun e => by cases e.1), if_neg (fun e => h3 e.2)]
      have h3' : (i.txn.ep == ep) = false := by simpa using h3
      clear HX2 hLa h3
      go_enter Try.func27, Try.ntmps27
      go_wp2_with fail
      generalize ((w.alloc _).alloc _).alloc _ = W at *
      have hltW := R.lt
      have hB0 := hB.size
      refine (hCo _ hB).mono ?_
      rintro e w1 ⟨bo, d, rfl, ho, hb1⟩
      replace C := C.later hb1
      replace A := A.later hb1
      replace R := R.later hb1
      replace hB := hB.trans (hb1.mono hB.size)
      have How := hide (fun g (hg : (Value.slice bo n d).ownBlock = some g) => ho.lt g (by rw [unhide Hn]; exact hg))
      have hoR := ho.offlt hltW
      have hoO := ho.vs.off (Nat.le_refl _)
      have neR := Nat.ne_of_lt R.lt
      have neA := Nat.ne_of_lt A.lt
      have hsW := hb1.size
      clear hb1 hCo
      have O := Blk.new w1 #[.slice bo n d, .bool true, .int .i64 i.txn.id, .int .i64 i.txn.ep, .string i.txn.anchor, .int .i64 i.txn.start.1, .int .i64 i.txn.start.2, .int .i64 i.seq, .int .i64 i.at_.1, .int .i64 i.at_.2, .string i.val, .bool i.gone] 30
      have hb2 := (Below.refl w1.heap.size w1).alloc (Nat.le_refl _) (.cells #[.slice bo n d, .bool true, .int .i64 i.txn.id, .int .i64 i.txn.ep, .string i.txn.anchor, .int .i64 i.txn.start.1, .int .i64 i.txn.start.2, .int .i64 i.seq, .int .i64 i.at_.1, .int .i64 i.at_.2, .string i.val, .bool i.gone] 30)
      replace C := C.later hb2
      replace A := A.later hb2
      replace R := R.later hb2
      replace ho := ho.later hb2
      have hvo := ho.vs
      replace hB := hB.trans (hb2.mono hB.size)
      clear hb2
      have Hlt := hide (And.intro neR (And.intro neA (And.intro hsW hltW)))
      have Hof := hide (And.intro hoR hoO)
      clear neR neA hsW hltW hoR hoO
      go_upto_region 2 with fail
      generalize w1.alloc _ = W1 at *
      have C_0 := C.c 0; have C_1 := C.c 1; have C_2 := C.c 2; have C_3 := C.c 3; have C_4 := C.c 4; have C_5 := C.c 5; have C_6 := C.c 6; have C_7 := C.c 7; have C_8 := C.c 8; have C_9 := C.c 9; have C_10 := C.c 10; have C_11 := C.c 11; simp only [List.getElem?_cons_zero, List.getElem?_cons_succ] at C_0 C_1 C_2 C_3 C_4 C_5 C_6 C_7 C_8 C_9 C_10 C_11
      have I := Blk.new W1 #[.int .i64 i.txn.id, .int .i64 i.txn.ep, .string i.txn.anchor, .int .i64 i.txn.start.1, .int .i64 i.txn.start.2, .int .i64 i.seq, .int .i64 i.at_.1, .int .i64 i.at_.2, .string i.val, .bool i.gone] 28
      have hb2 := (Below.refl W1.heap.size W1).alloc (Nat.le_refl _) (.cells #[.int .i64 i.txn.id, .int .i64 i.txn.ep, .string i.txn.anchor, .int .i64 i.txn.start.1, .int .i64 i.txn.start.2, .int .i64 i.seq, .int .i64 i.at_.1, .int .i64 i.at_.2, .string i.val, .bool i.gone] 28)
      have neI := Nat.ne_of_lt O.lt
      have neI2 := Nat.ne_of_lt A.lt
      replace C := C.later hb2
      replace A := A.later hb2
      replace R := R.later hb2
      replace O := O.later hb2
      replace hvo := hvo.later hb2
      replace hB := hB.trans (hb2.mono hB.size)
      replace ho := ho.later hb2
      clear hb2
      have HneI := hide (And.intro neI neI2)
      clear neI neI2
      go_upto_region 3 with fail
      clear C_0 C_1 C_2 C_3 C_4 C_5 C_6 C_7 C_8 C_9 C_10 C_11
      generalize W1.alloc _ = W2 at *
      have C_0 := C.c 0; have C_1 := C.c 1; have C_2 := C.c 2; have C_3 := C.c 3; have C_4 := C.c 4; have C_5 := C.c 5; have C_6 := C.c 6; have C_7 := C.c 7; have C_8 := C.c 8; have C_9 := C.c 9; have C_10 := C.c 10; have C_11 := C.c 11; simp only [List.getElem?_cons_zero, List.getElem?_cons_succ] at C_0 C_1 C_2 C_3 C_4 C_5 C_6 C_7 C_8 C_9 C_10 C_11
      have I_0 := I.c 0; have I_1 := I.c 1; have I_2 := I.c 2; have I_3 := I.c 3; have I_4 := I.c 4; have I_5 := I.c 5; have I_6 := I.c 6; have I_7 := I.c 7; have I_8 := I.c 8; have I_9 := I.c 9; simp only [List.getElem?_cons_zero, List.getElem?_cons_succ] at I_0 I_1 I_2 I_3 I_4 I_5 I_6 I_7 I_8 I_9
      have O4 := Blk.setAll_at [.bool false, .int .i64 0, .int .i64 0, .string ⟨#[]⟩, .int .i64 0, .int .i64 0, .int .i64 0, .int .i64 0, .int .i64 0, .string ⟨#[]⟩, .bool false] W2 [.slice bo (n) d] [.bool true, .int .i64 i.txn.id, .int .i64 i.txn.ep, .string i.txn.anchor, .int .i64 i.txn.start.1, .int .i64 i.txn.start.2, .int .i64 i.seq, .int .i64 i.at_.1, .int .i64 i.at_.2, .string i.val, .bool i.gone] 1 O rfl rfl
      have R4 := Blk.others (C := w1.heap.size) (unhide Hlt).1 [.bool false, .int .i64 0, .int .i64 0, .string ⟨#[]⟩, .int .i64 0, .int .i64 0, .int .i64 0, .int .i64 0, .int .i64 0, .string ⟨#[]⟩, .bool false] 1 R
      have v4 := hvo.others (unhide Hof).2 [.bool false, .int .i64 0, .int .i64 0, .string ⟨#[]⟩, .int .i64 0, .int .i64 0, .int .i64 0, .int .i64 0, .int .i64 0, .string ⟨#[]⟩, .bool false] 1
      have hB4 := below_setAll (C := w1.heap.size) (Nat.le_trans hB0 (unhide Hlt).2.2.1) [.bool false, .int .i64 0, .int .i64 0, .string ⟨#[]⟩, .int .i64 0, .int .i64 0, .int .i64 0, .int .i64 0, .int .i64 0, .string ⟨#[]⟩, .bool false] 1 hB
      simp only [List.cons_append, List.nil_append] at O4
      have Hw := hide (And.intro O4 (And.intro R4 (And.intro v4 hB4)))
      have O_0 := O.c 0; have O_1 := O.c 1; have O_2 := O.c 2; have O_3 := O.c 3; have O_4 := O.c 4; have O_5 := O.c 5; have O_6 := O.c 6; have O_7 := O.c 7; have O_8 := O.c 8; have O_9 := O.c 9; have O_10 := O.c 10; have O_11 := O.c 11; simp only [List.getElem?_cons_zero, List.getElem?_cons_succ] at O_0 O_1 O_2 O_3 O_4 O_5 O_6 O_7 O_8 O_9 O_10 O_11
      have Of := O.f
      clear O4 R4 v4 hB4 O R hvo hB C A I ho
      go_upto_region 15 with fail
      clear O_0 O_1 O_2 O_3 O_4 O_5 O_6 O_7 O_8 O_9 O_10 O_11
      clear Of
      generalize hW4 : setAll W2 w1.heap.size 1 [.bool false, .int .i64 0, .int .i64 0, .string ⟨#[]⟩, .int .i64 0, .int .i64 0, .int .i64 0, .int .i64 0, .int .i64 0, .string ⟨#[]⟩, .bool false] = W4 at Hw
      simp only [setAll, Nat.reduceAdd] at hW4
      rw [hW4]
      clear hW4
      obtain ⟨O, R, hvo, hB⟩ := unhide Hw
      clear Hw
      have O_0 := O.c 0; have O_1 := O.c 1; have O_2 := O.c 2; have O_3 := O.c 3; have O_4 := O.c 4; have O_5 := O.c 5; have O_6 := O.c 6; have O_7 := O.c 7; have O_8 := O.c 8; have O_9 := O.c 9; have O_10 := O.c 10; have O_11 := O.c 11; simp only [List.getElem?_cons_zero, List.getElem?_cons_succ] at O_0 O_1 O_2 O_3 O_4 O_5 O_6 O_7 O_8 O_9 O_10 O_11
      have R_0 := R.c 0; have R_1 := R.c 1; have R_2 := R.c 2; have R_3 := R.c 3; have R_4 := R.c 4; have R_5 := R.c 5; have R_6 := R.c 6; have R_7 := R.c 7; have R_8 := R.c 8; have R_9 := R.c 9; have R_10 := R.c 10; have R_11 := R.c 11; simp only [List.getElem?_cons_zero, List.getElem?_cons_succ] at R_0 R_1 R_2 R_3 R_4 R_5 R_6 R_7 R_8 R_9 R_10 R_11
      have Rf := R.f
      have HB := hide hB
      have Hvo := hide hvo
      clear hB hvo O
      go_wp2
      refine bodyPost_ret (results_ce Try.results27 bo n d false Itn.zero rfl rfl (R.all [.slice bo n d, .bool false, .int .i64 Itn.zero.txn.id, .int .i64 Itn.zero.txn.ep, .string Itn.zero.txn.anchor, .int .i64 Itn.zero.txn.start.1, .int .i64 Itn.zero.txn.start.2, .int .i64 Itn.zero.seq, .int .i64 Itn.zero.at_.1, .int .i64 Itn.zero.at_.2, .string Itn.zero.val, .bool Itn.zero.gone] rfl)) rfl ⟨bo, d, ?_, (unhide Hvo).others (unhide Hof).1 [.slice bo n d, .bool false, .int .i64 Itn.zero.txn.id, .int .i64 Itn.zero.txn.ep, .string Itn.zero.txn.anchor, .int .i64 Itn.zero.txn.start.1, .int .i64 Itn.zero.txn.start.2, .int .i64 Itn.zero.seq, .int .i64 Itn.zero.at_.1, .int .i64 Itn.zero.at_.2, .string Itn.zero.val, .bool Itn.zero.gone] 0, below_setAll (by omega) [.slice bo n d, .bool false, .int .i64 Itn.zero.txn.id, .int .i64 Itn.zero.txn.ep, .string Itn.zero.txn.anchor, .int .i64 Itn.zero.txn.start.1, .int .i64 Itn.zero.txn.start.2, .int .i64 Itn.zero.seq, .int .i64 Itn.zero.at_.1, .int .i64 Itn.zero.at_.2, .string Itn.zero.val, .bool Itn.zero.gone] 0 (unhide HB)⟩
      show _ = Ending.returned (.tuple #[(.agg #[.slice bo vs.length d, .bool false, .int .i64 Itn.zero.txn.id, .int .i64 Itn.zero.txn.ep, .string Itn.zero.txn.anchor, .int .i64 Itn.zero.txn.start.1, .int .i64 Itn.zero.txn.start.2, .int .i64 Itn.zero.seq, .int .i64 Itn.zero.at_.1, .int .i64 Itn.zero.at_.2, .string Itn.zero.val, .bool Itn.zero.gone]), .int .i64 0])
      rw [unhide Hn]
      rfl
    case pos =>
    have h3' : (i.txn.ep == ep) = true := by simpa using h3
    have hX2 : X = if fitB vs a = true then (⟨vs ++ [mkV i a], false, Itn.zero⟩, 0) else (Chn.zero, 84) := by
      rw [← unhide HX2, if_neg (fun e => by cases e.1), if_pos ⟨rfl, h3⟩]
      by_cases hf : fitB vs a = true
      · rw [if_pos hf, if_pos ((fit_all vs a).2 hf)]; rfl
      · rw [if_neg hf, if_neg (fun e => hf ((fit_all vs a).1 e))]
    rw [upto_fit] at hX2
    have HX3 := hide hX2
    clear HX2 hX2 h3
    have hOk := fun w => refright_any a.1 a.2 w
    rw [right_eq] at hOk
    obtain ⟨⟨s, is⟩, hP⟩ : ∃ P, lastP vs = P := ⟨_, rfl⟩
    rw [hP] at hLa HX3
    simp only at hLa HX3
    have hU := fun w => upto_any a s w
    generalize okS a = z1 at *
    generalize upB a s = z2 at *
    clear hP
    go_enter Try.func27, Try.ntmps27
    go_wp2_with fail
    generalize ((w.alloc _).alloc _).alloc _ = W at *
    have hltW := R.lt
    have hB0 := hB.size
    refine (hCo _ hB).mono ?_
    rintro e w1 ⟨bo, d, rfl, ho, hb1⟩
    replace C := C.later hb1
    replace A := A.later hb1
    replace R := R.later hb1
    replace hB := hB.trans (hb1.mono hB.size)
    have How := hide (fun g (hg : (Value.slice bo n d).ownBlock = some g) => ho.lt g (by rw [unhide Hn]; exact hg))
    have hoR := ho.offlt hltW
    have hoO := ho.vs.off (Nat.le_refl _)
    have neR := Nat.ne_of_lt R.lt
    have neA := Nat.ne_of_lt A.lt
    have hsW := hb1.size
    clear hb1 hCo
    have O := Blk.new w1 #[.slice bo n d, .bool true, .int .i64 i.txn.id, .int .i64 i.txn.ep, .string i.txn.anchor, .int .i64 i.txn.start.1, .int .i64 i.txn.start.2, .int .i64 i.seq, .int .i64 i.at_.1, .int .i64 i.at_.2, .string i.val, .bool i.gone] 30
    have hb2 := (Below.refl w1.heap.size w1).alloc (Nat.le_refl _) (.cells #[.slice bo n d, .bool true, .int .i64 i.txn.id, .int .i64 i.txn.ep, .string i.txn.anchor, .int .i64 i.txn.start.1, .int .i64 i.txn.start.2, .int .i64 i.seq, .int .i64 i.at_.1, .int .i64 i.at_.2, .string i.val, .bool i.gone] 30)
    replace C := C.later hb2
    replace A := A.later hb2
    replace R := R.later hb2
    replace ho := ho.later hb2
    have hvo := ho.vs
    replace hB := hB.trans (hb2.mono hB.size)
    clear hb2
    have Hlt := hide (And.intro neR (And.intro neA (And.intro hsW hltW)))
    have Hof := hide (And.intro hoR hoO)
    clear neR neA hsW hltW hoR hoO
    go_upto_region 2 with fail
    generalize w1.alloc _ = W1 at *
    have C_0 := C.c 0; have C_1 := C.c 1; have C_2 := C.c 2; have C_3 := C.c 3; have C_4 := C.c 4; have C_5 := C.c 5; have C_6 := C.c 6; have C_7 := C.c 7; have C_8 := C.c 8; have C_9 := C.c 9; have C_10 := C.c 10; have C_11 := C.c 11; simp only [List.getElem?_cons_zero, List.getElem?_cons_succ] at C_0 C_1 C_2 C_3 C_4 C_5 C_6 C_7 C_8 C_9 C_10 C_11
    have I := Blk.new W1 #[.int .i64 i.txn.id, .int .i64 i.txn.ep, .string i.txn.anchor, .int .i64 i.txn.start.1, .int .i64 i.txn.start.2, .int .i64 i.seq, .int .i64 i.at_.1, .int .i64 i.at_.2, .string i.val, .bool i.gone] 28
    have hb2 := (Below.refl W1.heap.size W1).alloc (Nat.le_refl _) (.cells #[.int .i64 i.txn.id, .int .i64 i.txn.ep, .string i.txn.anchor, .int .i64 i.txn.start.1, .int .i64 i.txn.start.2, .int .i64 i.seq, .int .i64 i.at_.1, .int .i64 i.at_.2, .string i.val, .bool i.gone] 28)
    have neI := Nat.ne_of_lt O.lt
    have neI2 := Nat.ne_of_lt A.lt
    replace C := C.later hb2
    replace A := A.later hb2
    replace R := R.later hb2
    replace O := O.later hb2
    replace hvo := hvo.later hb2
    replace hB := hB.trans (hb2.mono hB.size)
    replace ho := ho.later hb2
    clear hb2
    have HneI := hide (And.intro neI neI2)
    clear neI neI2
    go_upto_region 3 with fail
    clear C_0 C_1 C_2 C_3 C_4 C_5 C_6 C_7 C_8 C_9 C_10 C_11
    generalize W1.alloc _ = W2 at *
    have C_0 := C.c 0; have C_1 := C.c 1; have C_2 := C.c 2; have C_3 := C.c 3; have C_4 := C.c 4; have C_5 := C.c 5; have C_6 := C.c 6; have C_7 := C.c 7; have C_8 := C.c 8; have C_9 := C.c 9; have C_10 := C.c 10; have C_11 := C.c 11; simp only [List.getElem?_cons_zero, List.getElem?_cons_succ] at C_0 C_1 C_2 C_3 C_4 C_5 C_6 C_7 C_8 C_9 C_10 C_11
    have I_0 := I.c 0; have I_1 := I.c 1; have I_2 := I.c 2; have I_3 := I.c 3; have I_4 := I.c 4; have I_5 := I.c 5; have I_6 := I.c 6; have I_7 := I.c 7; have I_8 := I.c 8; have I_9 := I.c 9; simp only [List.getElem?_cons_zero, List.getElem?_cons_succ] at I_0 I_1 I_2 I_3 I_4 I_5 I_6 I_7 I_8 I_9
    go_wp2_with fail
    refine (hLa _ hB).mono ?_
    rintro e w3 ⟨rfl, hb3⟩
    clear C_0 C_1 C_2 C_3 C_4 C_5 C_6 C_7 C_8 C_9 C_10 C_11 I_0 I_1 I_2 I_3 I_4 I_5 I_6 I_7 I_8 I_9
    replace C := C.later hb3
    replace A := A.later hb3
    replace R := R.later hb3
    replace O := O.later hb3
    replace I := I.later hb3
    replace hvo := hvo.later hb3
    replace hB := hB.trans (hb3.mono hB.size)
    replace ho := ho.later hb3
    clear hb3 hLa
    have S := Blk.new w3 #[.int .i64 s.1, .int .i64 s.2] 24
    have hb4 := (Below.refl w3.heap.size w3).alloc (Nat.le_refl _) (.cells #[.int .i64 s.1, .int .i64 s.2] 24)
    have hltS := Nat.ne_of_lt O.lt
    have HltS := hide hltS
    clear hltS
    replace C := C.later hb4
    replace A := A.later hb4
    replace R := R.later hb4
    replace O := O.later hb4
    replace I := I.later hb4
    replace hvo := hvo.later hb4
    replace hB := hB.trans (hb4.mono hB.size)
    replace ho := ho.later hb4
    clear hb4
    go_upto_region 9 with fail
    generalize w3.alloc _ = W3 at *
    have A_0 := A.c 0; have A_1 := A.c 1; simp only [List.getElem?_cons_zero, List.getElem?_cons_succ] at A_0 A_1
    go_wp2_with fail
    refine (hOk _).mono ?_
    rintro e w4 ⟨rfl, hb4⟩
    clear A_0 A_1
    replace C := C.later hb4
    replace A := A.later hb4
    replace R := R.later hb4
    replace O := O.later hb4
    replace I := I.later hb4
    replace hvo := hvo.later hb4
    replace hB := hB.trans (hb4.mono hB.size)
    replace ho := ho.later hb4
    replace S := S.later hb4
    clear hb4 hOk
    cases z1
    · obtain rfl : X = (Chn.zero, 84) := by rw [unhide HX3, if_neg (by simp)]
      clear hU HX3
      have R_0 := R.c 0; have R_1 := R.c 1; have R_2 := R.c 2; have R_3 := R.c 3; have R_4 := R.c 4; have R_5 := R.c 5; have R_6 := R.c 6; have R_7 := R.c 7; have R_8 := R.c 8; have R_9 := R.c 9; have R_10 := R.c 10; have R_11 := R.c 11; simp only [List.getElem?_cons_zero, List.getElem?_cons_succ] at R_0 R_1 R_2 R_3 R_4 R_5 R_6 R_7 R_8 R_9 R_10 R_11
      have Rf := R.f
      have HB := hide hB
      clear hB ho hvo C A I O
      try clear S
      go_wp2
      exact bodyPost_ret (results_ce Try.results27 none 0 0 false Itn.zero rfl rfl (R.all [.slice none 0 0, .bool false, .int .i64 Itn.zero.txn.id, .int .i64 Itn.zero.txn.ep, .string Itn.zero.txn.anchor, .int .i64 Itn.zero.txn.start.1, .int .i64 Itn.zero.txn.start.2, .int .i64 Itn.zero.seq, .int .i64 Itn.zero.at_.1, .int .i64 Itn.zero.at_.2, .string Itn.zero.val, .bool Itn.zero.gone] rfl)) rfl ⟨none, 0, rfl, Vs.zero _, below_setAll (by omega) [.slice none 0 0, .bool false, .int .i64 Itn.zero.txn.id, .int .i64 Itn.zero.txn.ep, .string Itn.zero.txn.anchor, .int .i64 Itn.zero.txn.start.1, .int .i64 Itn.zero.txn.start.2, .int .i64 Itn.zero.seq, .int .i64 Itn.zero.at_.1, .int .i64 Itn.zero.at_.2, .string Itn.zero.val, .bool Itn.zero.gone] 0 (unhide HB)⟩
    cases is
    · obtain rfl : X = (⟨vs ++ [mkV i a], false, Itn.zero⟩, 0) := by rw [unhide HX3, if_pos (by simp)]
      clear hU HX3
      obtain ⟨m, hm⟩ : ∃ m, (vs ++ [mkV i a]).length = m := ⟨_, rfl⟩
      have Hm := hide hm
      have hnm : n + 1 = m := by rw [← hm, List.length_append, unhide Hn]; rfl
      have HA1 := hide (ho.alloc1 (.cells #[.int .i64 (mkV i a).at_.1, .int .i64 (mkV i a).at_.2, .string (mkV i a).val, .bool (mkV i a).gone, .int .i64 (mkV i a).by_] 37))
      have HsW := hide (Nat.le_trans (unhide Hlt).2.2.1 (Nat.le_of_lt O.lt))
      have HCD := hide (And.intro O (And.intro R hB))
      have Hnm := hide hnm
      have O_0 := O.c 0; simp only [List.getElem?_cons_zero] at O_0
      have A_0 := A.c 0; have A_1 := A.c 1; simp only [List.getElem?_cons_zero, List.getElem?_cons_succ] at A_0 A_1
      have I_0 := I.c 0; have I_1 := I.c 1; have I_2 := I.c 2; have I_3 := I.c 3; have I_4 := I.c 4; have I_5 := I.c 5; have I_6 := I.c 6; have I_7 := I.c 7; have I_8 := I.c 8; have I_9 := I.c 9; simp only [List.getElem?_cons_zero, List.getElem?_cons_succ] at I_0 I_1 I_2 I_3 I_4 I_5 I_6 I_7 I_8 I_9
      clear O R hB ho hvo C A I hm hnm
      try clear S
      go_wp2_with (at_builtin; refine wpList_append_n _ rfl (.tmp 69) (.tmp 77) rfl W.heap.size bo (some ⟨w4.heap.size, 0, none⟩) d 1 n 1 m vs [mkV i a] rfl rfl ?hB1 (unhide Hn) rfl (unhide Hnm) (unhide HA1) (vs_one w4 (mkV i a)) ?hl1 ?_)
      case hB1 => exact Nat.le_trans (unhide HsW) (by simp)
      case hl1 => rw [unhide Hn]; simp; omega
      intro eo f w7 ho7 hg7
      clear O_0 A_0 A_1 I_0 I_1 I_2 I_3 I_4 I_5 I_6 I_7 I_8 I_9
      obtain ⟨O, R, hB⟩ := unhide HCD
      replace O := (O.alloc (.cells #[.int .i64 (mkV i a).at_.1, .int .i64 (mkV i a).at_.2, .string (mkV i a).val, .bool (mkV i a).gone, .int .i64 (mkV i a).by_] 37)).grown hg7 (fun g hg => Nat.ne_of_lt ((unhide How) g hg).2)
      replace R := (R.alloc (.cells #[.int .i64 (mkV i a).at_.1, .int .i64 (mkV i a).at_.2, .string (mkV i a).val, .bool (mkV i a).gone, .int .i64 (mkV i a).by_] 37)).grown hg7 (fun g hg => by have := ((unhide How) g hg).1; have := (unhide Hlt).2.2.2; omega)
      replace hB := (hB.alloc hB.size (.cells #[.int .i64 (mkV i a).at_.1, .int .i64 (mkV i a).at_.2, .string (mkV i a).val, .bool (mkV i a).gone, .int .i64 (mkV i a).by_] 37)).grown hg7 (Nat.le_trans hB0 (Nat.le_trans (unhide HsW) (by simp))) (fun g hg => by have := ((unhide How) g hg).1; omega)
      have offO := ho7.off O
      have offR := ho7.offlt (unhide Hlt).2.2.2
      have O8 := O.set 0 (by simp) (.slice eo m f)
      have R8 := R.other (q := ⟨w1.heap.size, 0, none⟩) (Ne.symm (unhide Hlt).1) (.slice eo m f)
      have v8 := ho7.vs.others offO [.slice eo m f] 0
      have hB8 := hB.setCell (p := ⟨w1.heap.size, 0, none⟩) (Nat.le_trans hB0 (unhide Hlt).2.2.1) (.slice eo m f)
      simp only [List.set_cons_zero, setAll] at O8 v8
      have Hw := hide (And.intro O8 (And.intro R8 (And.intro v8 hB8)))
      clear Hof
      have Hof := hide (And.intro offR offO)
      have O_0 := O.c 0; simp only [List.getElem?_cons_zero] at O_0
      have Of := O.f
      clear O8 R8 v8 hB8 O R hB ho7 hg7 offO offR HCD HA1
      go_upto_region 13 with fail
      clear O_0
      clear Of
      generalize w7.setCell _ _ = W8 at *
      obtain ⟨O, R, hvo, hB⟩ := unhide Hw
      clear Hw
      have C := O
      have A := O
      have I := O
      have ho := O
      have O4 := Blk.setAll_at [.bool false, .int .i64 0, .int .i64 0, .string ⟨#[]⟩, .int .i64 0, .int .i64 0, .int .i64 0, .int .i64 0, .int .i64 0, .string ⟨#[]⟩, .bool false] W8 [.slice eo (m) f] [.bool true, .int .i64 i.txn.id, .int .i64 i.txn.ep, .string i.txn.anchor, .int .i64 i.txn.start.1, .int .i64 i.txn.start.2, .int .i64 i.seq, .int .i64 i.at_.1, .int .i64 i.at_.2, .string i.val, .bool i.gone] 1 O rfl rfl
      have R4 := Blk.others (C := w1.heap.size) (unhide Hlt).1 [.bool false, .int .i64 0, .int .i64 0, .string ⟨#[]⟩, .int .i64 0, .int .i64 0, .int .i64 0, .int .i64 0, .int .i64 0, .string ⟨#[]⟩, .bool false] 1 R
      have v4 := hvo.others (unhide Hof).2 [.bool false, .int .i64 0, .int .i64 0, .string ⟨#[]⟩, .int .i64 0, .int .i64 0, .int .i64 0, .int .i64 0, .int .i64 0, .string ⟨#[]⟩, .bool false] 1
      have hB4 := below_setAll (C := w1.heap.size) (Nat.le_trans hB0 (unhide Hlt).2.2.1) [.bool false, .int .i64 0, .int .i64 0, .string ⟨#[]⟩, .int .i64 0, .int .i64 0, .int .i64 0, .int .i64 0, .int .i64 0, .string ⟨#[]⟩, .bool false] 1 hB
      simp only [List.cons_append, List.nil_append] at O4
      have Hw := hide (And.intro O4 (And.intro R4 (And.intro v4 hB4)))
      have O_0 := O.c 0; have O_1 := O.c 1; have O_2 := O.c 2; have O_3 := O.c 3; have O_4 := O.c 4; have O_5 := O.c 5; have O_6 := O.c 6; have O_7 := O.c 7; have O_8 := O.c 8; have O_9 := O.c 9; have O_10 := O.c 10; have O_11 := O.c 11; simp only [List.getElem?_cons_zero, List.getElem?_cons_succ] at O_0 O_1 O_2 O_3 O_4 O_5 O_6 O_7 O_8 O_9 O_10 O_11
      have Of := O.f
      clear O4 R4 v4 hB4 O R hvo hB C A I ho
      go_upto_region 15 with fail
      clear O_0 O_1 O_2 O_3 O_4 O_5 O_6 O_7 O_8 O_9 O_10 O_11
      clear Of
      generalize hW4 : setAll W8 w1.heap.size 1 [.bool false, .int .i64 0, .int .i64 0, .string ⟨#[]⟩, .int .i64 0, .int .i64 0, .int .i64 0, .int .i64 0, .int .i64 0, .string ⟨#[]⟩, .bool false] = W4 at Hw
      simp only [setAll, Nat.reduceAdd] at hW4
      rw [hW4]
      clear hW4
      obtain ⟨O, R, hvo, hB⟩ := unhide Hw
      clear Hw
      have O_0 := O.c 0; have O_1 := O.c 1; have O_2 := O.c 2; have O_3 := O.c 3; have O_4 := O.c 4; have O_5 := O.c 5; have O_6 := O.c 6; have O_7 := O.c 7; have O_8 := O.c 8; have O_9 := O.c 9; have O_10 := O.c 10; have O_11 := O.c 11; simp only [List.getElem?_cons_zero, List.getElem?_cons_succ] at O_0 O_1 O_2 O_3 O_4 O_5 O_6 O_7 O_8 O_9 O_10 O_11
      have R_0 := R.c 0; have R_1 := R.c 1; have R_2 := R.c 2; have R_3 := R.c 3; have R_4 := R.c 4; have R_5 := R.c 5; have R_6 := R.c 6; have R_7 := R.c 7; have R_8 := R.c 8; have R_9 := R.c 9; have R_10 := R.c 10; have R_11 := R.c 11; simp only [List.getElem?_cons_zero, List.getElem?_cons_succ] at R_0 R_1 R_2 R_3 R_4 R_5 R_6 R_7 R_8 R_9 R_10 R_11
      have Rf := R.f
      have HB := hide hB
      have Hvo := hide hvo
      clear hB hvo O
      go_wp2
      refine bodyPost_ret (results_ce Try.results27 eo m f false Itn.zero rfl rfl (R.all [.slice eo m f, .bool false, .int .i64 Itn.zero.txn.id, .int .i64 Itn.zero.txn.ep, .string Itn.zero.txn.anchor, .int .i64 Itn.zero.txn.start.1, .int .i64 Itn.zero.txn.start.2, .int .i64 Itn.zero.seq, .int .i64 Itn.zero.at_.1, .int .i64 Itn.zero.at_.2, .string Itn.zero.val, .bool Itn.zero.gone] rfl)) rfl ⟨eo, f, ?_, (unhide Hvo).others (unhide Hof).1 [.slice eo m f, .bool false, .int .i64 Itn.zero.txn.id, .int .i64 Itn.zero.txn.ep, .string Itn.zero.txn.anchor, .int .i64 Itn.zero.txn.start.1, .int .i64 Itn.zero.txn.start.2, .int .i64 Itn.zero.seq, .int .i64 Itn.zero.at_.1, .int .i64 Itn.zero.at_.2, .string Itn.zero.val, .bool Itn.zero.gone] 0, below_setAll (by omega) [.slice eo m f, .bool false, .int .i64 Itn.zero.txn.id, .int .i64 Itn.zero.txn.ep, .string Itn.zero.txn.anchor, .int .i64 Itn.zero.txn.start.1, .int .i64 Itn.zero.txn.start.2, .int .i64 Itn.zero.seq, .int .i64 Itn.zero.at_.1, .int .i64 Itn.zero.at_.2, .string Itn.zero.val, .bool Itn.zero.gone] 0 (unhide HB)⟩
      show _ = Ending.returned (.tuple #[(.agg #[.slice eo (vs.length + 1) f, .bool false, .int .i64 Itn.zero.txn.id, .int .i64 Itn.zero.txn.ep, .string Itn.zero.txn.anchor, .int .i64 Itn.zero.txn.start.1, .int .i64 Itn.zero.txn.start.2, .int .i64 Itn.zero.seq, .int .i64 Itn.zero.at_.1, .int .i64 Itn.zero.at_.2, .string Itn.zero.val, .bool Itn.zero.gone]), .int .i64 0])
      rw [unhide Hn, unhide Hnm]
      rfl
    have A_0 := A.c 0; have A_1 := A.c 1; simp only [List.getElem?_cons_zero, List.getElem?_cons_succ] at A_0 A_1
    have S_0 := S.c 0; have S_1 := S.c 1; simp only [List.getElem?_cons_zero, List.getElem?_cons_succ] at S_0 S_1
    go_wp2_with fail
    refine (hU _).mono ?_
    rintro e w5 ⟨rfl, hb5⟩
    clear A_0 A_1 S_0 S_1
    replace C := C.later hb5
    replace A := A.later hb5
    replace R := R.later hb5
    replace O := O.later hb5
    replace I := I.later hb5
    replace hvo := hvo.later hb5
    replace hB := hB.trans (hb5.mono hB.size)
    replace ho := ho.later hb5
    clear hb5 hU S
    cases z2
    · obtain rfl : X = (⟨vs ++ [mkV i a], false, Itn.zero⟩, 0) := by rw [unhide HX3, if_pos (by simp)]
      clear HX3
      obtain ⟨m, hm⟩ : ∃ m, (vs ++ [mkV i a]).length = m := ⟨_, rfl⟩
      have Hm := hide hm
      have hnm : n + 1 = m := by rw [← hm, List.length_append, unhide Hn]; rfl
      have HA1 := hide (ho.alloc1 (.cells #[.int .i64 (mkV i a).at_.1, .int .i64 (mkV i a).at_.2, .string (mkV i a).val, .bool (mkV i a).gone, .int .i64 (mkV i a).by_] 37))
      have HsW := hide (Nat.le_trans (unhide Hlt).2.2.1 (Nat.le_of_lt O.lt))
      have HCD := hide (And.intro O (And.intro R hB))
      have Hnm := hide hnm
      have O_0 := O.c 0; simp only [List.getElem?_cons_zero] at O_0
      have A_0 := A.c 0; have A_1 := A.c 1; simp only [List.getElem?_cons_zero, List.getElem?_cons_succ] at A_0 A_1
      have I_0 := I.c 0; have I_1 := I.c 1; have I_2 := I.c 2; have I_3 := I.c 3; have I_4 := I.c 4; have I_5 := I.c 5; have I_6 := I.c 6; have I_7 := I.c 7; have I_8 := I.c 8; have I_9 := I.c 9; simp only [List.getElem?_cons_zero, List.getElem?_cons_succ] at I_0 I_1 I_2 I_3 I_4 I_5 I_6 I_7 I_8 I_9
      clear O R hB ho hvo C A I hm hnm
      try clear S
      go_wp2_with (at_builtin; refine wpList_append_n _ rfl (.tmp 69) (.tmp 77) rfl W.heap.size bo (some ⟨w5.heap.size, 0, none⟩) d 1 n 1 m vs [mkV i a] rfl rfl ?hB1 (unhide Hn) rfl (unhide Hnm) (unhide HA1) (vs_one w5 (mkV i a)) ?hl1 ?_)
      case hB1 => exact Nat.le_trans (unhide HsW) (by simp)
      case hl1 => rw [unhide Hn]; simp; omega
      intro eo f w7 ho7 hg7
      clear O_0 A_0 A_1 I_0 I_1 I_2 I_3 I_4 I_5 I_6 I_7 I_8 I_9
      obtain ⟨O, R, hB⟩ := unhide HCD
      replace O := (O.alloc (.cells #[.int .i64 (mkV i a).at_.1, .int .i64 (mkV i a).at_.2, .string (mkV i a).val, .bool (mkV i a).gone, .int .i64 (mkV i a).by_] 37)).grown hg7 (fun g hg => Nat.ne_of_lt ((unhide How) g hg).2)
      replace R := (R.alloc (.cells #[.int .i64 (mkV i a).at_.1, .int .i64 (mkV i a).at_.2, .string (mkV i a).val, .bool (mkV i a).gone, .int .i64 (mkV i a).by_] 37)).grown hg7 (fun g hg => by have := ((unhide How) g hg).1; have := (unhide Hlt).2.2.2; omega)
      replace hB := (hB.alloc hB.size (.cells #[.int .i64 (mkV i a).at_.1, .int .i64 (mkV i a).at_.2, .string (mkV i a).val, .bool (mkV i a).gone, .int .i64 (mkV i a).by_] 37)).grown hg7 (Nat.le_trans hB0 (Nat.le_trans (unhide HsW) (by simp))) (fun g hg => by have := ((unhide How) g hg).1; omega)
      have offO := ho7.off O
      have offR := ho7.offlt (unhide Hlt).2.2.2
      have O8 := O.set 0 (by simp) (.slice eo m f)
      have R8 := R.other (q := ⟨w1.heap.size, 0, none⟩) (Ne.symm (unhide Hlt).1) (.slice eo m f)
      have v8 := ho7.vs.others offO [.slice eo m f] 0
      have hB8 := hB.setCell (p := ⟨w1.heap.size, 0, none⟩) (Nat.le_trans hB0 (unhide Hlt).2.2.1) (.slice eo m f)
      simp only [List.set_cons_zero, setAll] at O8 v8
      have Hw := hide (And.intro O8 (And.intro R8 (And.intro v8 hB8)))
      clear Hof
      have Hof := hide (And.intro offR offO)
      have O_0 := O.c 0; simp only [List.getElem?_cons_zero] at O_0
      have Of := O.f
      clear O8 R8 v8 hB8 O R hB ho7 hg7 offO offR HCD HA1
      go_upto_region 13 with fail
      clear O_0
      clear Of
      generalize w7.setCell _ _ = W8 at *
      obtain ⟨O, R, hvo, hB⟩ := unhide Hw
      clear Hw
      have C := O
      have A := O
      have I := O
      have ho := O
      have O4 := Blk.setAll_at [.bool false, .int .i64 0, .int .i64 0, .string ⟨#[]⟩, .int .i64 0, .int .i64 0, .int .i64 0, .int .i64 0, .int .i64 0, .string ⟨#[]⟩, .bool false] W8 [.slice eo (m) f] [.bool true, .int .i64 i.txn.id, .int .i64 i.txn.ep, .string i.txn.anchor, .int .i64 i.txn.start.1, .int .i64 i.txn.start.2, .int .i64 i.seq, .int .i64 i.at_.1, .int .i64 i.at_.2, .string i.val, .bool i.gone] 1 O rfl rfl
      have R4 := Blk.others (C := w1.heap.size) (unhide Hlt).1 [.bool false, .int .i64 0, .int .i64 0, .string ⟨#[]⟩, .int .i64 0, .int .i64 0, .int .i64 0, .int .i64 0, .int .i64 0, .string ⟨#[]⟩, .bool false] 1 R
      have v4 := hvo.others (unhide Hof).2 [.bool false, .int .i64 0, .int .i64 0, .string ⟨#[]⟩, .int .i64 0, .int .i64 0, .int .i64 0, .int .i64 0, .int .i64 0, .string ⟨#[]⟩, .bool false] 1
      have hB4 := below_setAll (C := w1.heap.size) (Nat.le_trans hB0 (unhide Hlt).2.2.1) [.bool false, .int .i64 0, .int .i64 0, .string ⟨#[]⟩, .int .i64 0, .int .i64 0, .int .i64 0, .int .i64 0, .int .i64 0, .string ⟨#[]⟩, .bool false] 1 hB
      simp only [List.cons_append, List.nil_append] at O4
      have Hw := hide (And.intro O4 (And.intro R4 (And.intro v4 hB4)))
      have O_0 := O.c 0; have O_1 := O.c 1; have O_2 := O.c 2; have O_3 := O.c 3; have O_4 := O.c 4; have O_5 := O.c 5; have O_6 := O.c 6; have O_7 := O.c 7; have O_8 := O.c 8; have O_9 := O.c 9; have O_10 := O.c 10; have O_11 := O.c 11; simp only [List.getElem?_cons_zero, List.getElem?_cons_succ] at O_0 O_1 O_2 O_3 O_4 O_5 O_6 O_7 O_8 O_9 O_10 O_11
      have Of := O.f
      clear O4 R4 v4 hB4 O R hvo hB C A I ho
      go_upto_region 15 with fail
      clear O_0 O_1 O_2 O_3 O_4 O_5 O_6 O_7 O_8 O_9 O_10 O_11
      clear Of
      generalize hW4 : setAll W8 w1.heap.size 1 [.bool false, .int .i64 0, .int .i64 0, .string ⟨#[]⟩, .int .i64 0, .int .i64 0, .int .i64 0, .int .i64 0, .int .i64 0, .string ⟨#[]⟩, .bool false] = W4 at Hw
      simp only [setAll, Nat.reduceAdd] at hW4
      rw [hW4]
      clear hW4
      obtain ⟨O, R, hvo, hB⟩ := unhide Hw
      clear Hw
      have O_0 := O.c 0; have O_1 := O.c 1; have O_2 := O.c 2; have O_3 := O.c 3; have O_4 := O.c 4; have O_5 := O.c 5; have O_6 := O.c 6; have O_7 := O.c 7; have O_8 := O.c 8; have O_9 := O.c 9; have O_10 := O.c 10; have O_11 := O.c 11; simp only [List.getElem?_cons_zero, List.getElem?_cons_succ] at O_0 O_1 O_2 O_3 O_4 O_5 O_6 O_7 O_8 O_9 O_10 O_11
      have R_0 := R.c 0; have R_1 := R.c 1; have R_2 := R.c 2; have R_3 := R.c 3; have R_4 := R.c 4; have R_5 := R.c 5; have R_6 := R.c 6; have R_7 := R.c 7; have R_8 := R.c 8; have R_9 := R.c 9; have R_10 := R.c 10; have R_11 := R.c 11; simp only [List.getElem?_cons_zero, List.getElem?_cons_succ] at R_0 R_1 R_2 R_3 R_4 R_5 R_6 R_7 R_8 R_9 R_10 R_11
      have Rf := R.f
      have HB := hide hB
      have Hvo := hide hvo
      clear hB hvo O
      go_wp2
      refine bodyPost_ret (results_ce Try.results27 eo m f false Itn.zero rfl rfl (R.all [.slice eo m f, .bool false, .int .i64 Itn.zero.txn.id, .int .i64 Itn.zero.txn.ep, .string Itn.zero.txn.anchor, .int .i64 Itn.zero.txn.start.1, .int .i64 Itn.zero.txn.start.2, .int .i64 Itn.zero.seq, .int .i64 Itn.zero.at_.1, .int .i64 Itn.zero.at_.2, .string Itn.zero.val, .bool Itn.zero.gone] rfl)) rfl ⟨eo, f, ?_, (unhide Hvo).others (unhide Hof).1 [.slice eo m f, .bool false, .int .i64 Itn.zero.txn.id, .int .i64 Itn.zero.txn.ep, .string Itn.zero.txn.anchor, .int .i64 Itn.zero.txn.start.1, .int .i64 Itn.zero.txn.start.2, .int .i64 Itn.zero.seq, .int .i64 Itn.zero.at_.1, .int .i64 Itn.zero.at_.2, .string Itn.zero.val, .bool Itn.zero.gone] 0, below_setAll (by omega) [.slice eo m f, .bool false, .int .i64 Itn.zero.txn.id, .int .i64 Itn.zero.txn.ep, .string Itn.zero.txn.anchor, .int .i64 Itn.zero.txn.start.1, .int .i64 Itn.zero.txn.start.2, .int .i64 Itn.zero.seq, .int .i64 Itn.zero.at_.1, .int .i64 Itn.zero.at_.2, .string Itn.zero.val, .bool Itn.zero.gone] 0 (unhide HB)⟩
      show _ = Ending.returned (.tuple #[(.agg #[.slice eo (vs.length + 1) f, .bool false, .int .i64 Itn.zero.txn.id, .int .i64 Itn.zero.txn.ep, .string Itn.zero.txn.anchor, .int .i64 Itn.zero.txn.start.1, .int .i64 Itn.zero.txn.start.2, .int .i64 Itn.zero.seq, .int .i64 Itn.zero.at_.1, .int .i64 Itn.zero.at_.2, .string Itn.zero.val, .bool Itn.zero.gone]), .int .i64 0])
      rw [unhide Hn, unhide Hnm]
      rfl
    · obtain rfl : X = (Chn.zero, 84) := by rw [unhide HX3, if_neg (by simp)]
      clear HX3
      have R_0 := R.c 0; have R_1 := R.c 1; have R_2 := R.c 2; have R_3 := R.c 3; have R_4 := R.c 4; have R_5 := R.c 5; have R_6 := R.c 6; have R_7 := R.c 7; have R_8 := R.c 8; have R_9 := R.c 9; have R_10 := R.c 10; have R_11 := R.c 11; simp only [List.getElem?_cons_zero, List.getElem?_cons_succ] at R_0 R_1 R_2 R_3 R_4 R_5 R_6 R_7 R_8 R_9 R_10 R_11
      have Rf := R.f
      have HB := hide hB
      clear hB ho hvo C A I O
      try clear S
      go_wp2
      exact bodyPost_ret (results_ce Try.results27 none 0 0 false Itn.zero rfl rfl (R.all [.slice none 0 0, .bool false, .int .i64 Itn.zero.txn.id, .int .i64 Itn.zero.txn.ep, .string Itn.zero.txn.anchor, .int .i64 Itn.zero.txn.start.1, .int .i64 Itn.zero.txn.start.2, .int .i64 Itn.zero.seq, .int .i64 Itn.zero.at_.1, .int .i64 Itn.zero.at_.2, .string Itn.zero.val, .bool Itn.zero.gone] rfl)) rfl ⟨none, 0, rfl, Vs.zero _, below_setAll (by omega) [.slice none 0 0, .bool false, .int .i64 Itn.zero.txn.id, .int .i64 Itn.zero.txn.ep, .string Itn.zero.txn.anchor, .int .i64 Itn.zero.txn.start.1, .int .i64 Itn.zero.txn.start.2, .int .i64 Itn.zero.seq, .int .i64 Itn.zero.at_.1, .int .i64 Itn.zero.at_.2, .string Itn.zero.val, .bool Itn.zero.gone] 0 (unhide HB)⟩
end

end Go.Proofs.Ytcahmnpoajnmpaa
