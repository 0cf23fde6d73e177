/-
  The contract of what an act does. No law is proved here.
-/
import Derived.Test.YtcahmnpoajnmpaaVt7
import Derived.Test.YtcahmnpoajnmpaaVActs
import Derived.BigRegion
import Derived.Deep.Cut
namespace Go.Proofs.Ytcahmnpoajnmpaa
open Go.RowKit
set_option linter.unusedVariables false

theorem VAt.other {w : World} {b o : Nat} {v : Ver} (h : VAt w b o v) {q : Addr} (hq : q.block ≠ b) (x : Value) : VAt (w.setCell q x) b o v := by
  have n : ∀ k, q ≠ ⟨b, k, none⟩ := fun k e => hq (by rw [e])
  exact ⟨(World.cell?_setCell_other w _ _ _ (n _)).trans h.c0, (World.cell?_setCell_other w _ _ _ (n _)).trans h.c1, (World.cell?_setCell_other w _ _ _ (n _)).trans h.c2, (World.cell?_setCell_other w _ _ _ (n _)).trans h.c3, (World.cell?_setCell_other w _ _ _ (n _)).trans h.c4⟩
theorem VAt.others {b C : Nat} (hn : C ≠ b) : ∀ (r : List Value) {w : World} {o : Nat} {v : Ver} (k : Nat), VAt w b o v → VAt (setAll w C k r) b o v
  | [], _, _, _, _, h => h
  | x :: r, w, _, _, k, h => by rw [setAll]; exact VAt.others hn r (k + 1) (h.other (q := ⟨C, k, none⟩) hn x)
/-- The versions of a slice do not lie in a block. -/
def Off (C : Nat) (ao : Option Addr) (vs : List Ver) : Prop := ∀ b q, ao = some ⟨b, q, none⟩ → vs = [] ∨ b ≠ C
theorem Vs.others {w : World} {C : Nat} {ao : Option Addr} {c : Nat} {vs : List Ver} (h : Vs w ao c vs) (hn : Off C ao vs) (r : List Value) (k : Nat) : Vs (setAll w C k r) ao c vs :=
  ⟨h.le, h.cm, h.nil, fun i hi => by
    obtain ⟨b, q, e, hv⟩ := h.each i hi
    refine ⟨b, q, e, hv.others (fun e2 => ?_) r k⟩
    rcases hn b q e with e3 | e3
    · rw [e3] at hi; cases hi
    · exact e3 e2.symm⟩
theorem Vs.off {w : World} {C : Nat} {ao : Option Addr} {c : Nat} {vs : List Ver} (h : Vs w ao c vs) (hC : w.heap.size ≤ C) : Off C ao vs := fun b q e => by
  rcases h.split with e2 | ⟨b', q', e2, hl, _⟩
  · exact .inl e2
  · rw [e] at e2
    injection e2 with e2
    injection e2 with e2 _
    right
    omega
theorem Off.does {C M : Nat} {ao bo : Option Addr} {vs us : List Ver} (h : Off C ao vs) (hC : C < M) (hb : ∀ b q, bo = some ⟨b, q, none⟩ → (bo = ao ∧ us = vs) ∨ M ≤ b) : Off C bo us := fun b q e => by
  rcases hb b q e with ⟨e1, e2⟩ | e1
  · rw [e2]; exact h b q (e1 ▸ e)
  · right; omega

section
set_option maxRecDepth 100000
set_option maxHeartbeats 20000000

theorem does_any (ao : Option Addr) (c : Nat) (vs : List Ver) (o : Bool) (i : Itn) (a : ActR) (w : World) (hv : Vs w ao c vs) (hlim : vs.length ≤ 2932031007400) :
    Calls Try.prog 28 #[(.agg #[.int .i64 a.kind, .int .i64 a.id, .int .i64 a.ep, .int .i64 a.itn.txn.id, .int .i64 a.itn.txn.ep, .string a.itn.txn.anchor, .int .i64 a.itn.txn.start.1, .int .i64 a.itn.txn.start.2, .int .i64 a.itn.seq, .int .i64 a.itn.at_.1, .int .i64 a.itn.at_.2, .string a.itn.val, .bool a.itn.gone, .bool a.commit, .int .i64 a.at_.1, .int .i64 a.at_.2]), (.agg #[.slice ao vs.length c, .bool o, .int .i64 i.txn.id, .int .i64 i.txn.ep, .string i.txn.anchor, .int .i64 i.txn.start.1, .int .i64 i.txn.start.2, .int .i64 i.seq, .int .i64 i.at_.1, .int .i64 i.at_.2, .string i.val, .bool i.gone])] w fun e w' => ∃ bo d, e = .returned (.agg #[.slice bo (doesC a ⟨vs, o, i⟩).vs.length d, .bool (doesC a ⟨vs, o, i⟩).opn, .int .i64 (doesC a ⟨vs, o, i⟩).itn.txn.id, .int .i64 (doesC a ⟨vs, o, i⟩).itn.txn.ep, .string (doesC a ⟨vs, o, i⟩).itn.txn.anchor, .int .i64 (doesC a ⟨vs, o, i⟩).itn.txn.start.1, .int .i64 (doesC a ⟨vs, o, i⟩).itn.txn.start.2, .int .i64 (doesC a ⟨vs, o, i⟩).itn.seq, .int .i64 (doesC a ⟨vs, o, i⟩).itn.at_.1, .int .i64 (doesC a ⟨vs, o, i⟩).itn.at_.2, .string (doesC a ⟨vs, o, i⟩).itn.val, .bool (doesC a ⟨vs, o, i⟩).itn.gone]) ∧ Vs w' bo d (doesC a ⟨vs, o, i⟩).vs ∧ (∀ b q, bo = some ⟨b, q, none⟩ → (bo = ao ∧ (doesC a ⟨vs, o, i⟩).vs = vs) ∨ w.heap.size ≤ b) ∧ Below w.heap.size w w' := by
  obtain ⟨Z, hZ⟩ : ∃ Z, doesC a ⟨vs, o, i⟩ = Z := ⟨_, rfl⟩
  rw [hZ]
  unfold doesC at hZ
  have hW := fun w' (hb : Below w.heap.size w w') => write_any ao c vs o i a.itn w' (hv.later hb) hlim
  have hS := fun w' (hb : Below w.heap.size w w') => resolve_any ao c vs o i a.id a.ep a.commit a.at_ w' (hv.later hb) hlim
  obtain ⟨n, hn⟩ : ∃ n, vs.length = n := ⟨_, rfl⟩
  have Hn := hide hn
  have Hv := hide hv
  simp only [hn] at hW hS hlim ⊢
  have A := (((Blk.new w #[.int .i64 a.kind, .int .i64 a.id, .int .i64 a.ep, .int .i64 a.itn.txn.id, .int .i64 a.itn.txn.ep, .string a.itn.txn.anchor, .int .i64 a.itn.txn.start.1, .int .i64 a.itn.txn.start.2, .int .i64 a.itn.seq, .int .i64 a.itn.at_.1, .int .i64 a.itn.at_.2, .string a.itn.val, .bool a.itn.gone, .bool a.commit, .int .i64 a.at_.1, .int .i64 a.at_.2] 46).alloc (.cells #[.slice ao n c, .bool o, .int .i64 i.txn.id, .int .i64 i.txn.ep, .string i.txn.anchor, .int .i64 i.txn.start.1, .int .i64 i.txn.start.2, .int .i64 i.seq, .int .i64 i.at_.1, .int .i64 i.at_.2, .string i.val, .bool i.gone] 30)).alloc (.cells #[.slice none 0 0, .bool false, .int .i64 0, .int .i64 0, .string ⟨#[]⟩, .int .i64 0, .int .i64 0, .int .i64 0, .int .i64 0, .int .i64 0, .string ⟨#[]⟩, .bool false] 30)).alloc (.cells #[.slice none 0 0, .bool false, .int .i64 0, .int .i64 0, .string ⟨#[]⟩, .int .i64 0, .int .i64 0, .int .i64 0, .int .i64 0, .int .i64 0, .string ⟨#[]⟩, .bool false] 30)
  have C := ((Blk.new (w.alloc (.cells #[.int .i64 a.kind, .int .i64 a.id, .int .i64 a.ep, .int .i64 a.itn.txn.id, .int .i64 a.itn.txn.ep, .string a.itn.txn.anchor, .int .i64 a.itn.txn.start.1, .int .i64 a.itn.txn.start.2, .int .i64 a.itn.seq, .int .i64 a.itn.at_.1, .int .i64 a.itn.at_.2, .string a.itn.val, .bool a.itn.gone, .bool a.commit, .int .i64 a.at_.1, .int .i64 a.at_.2] 46)) #[.slice ao n c, .bool o, .int .i64 i.txn.id, .int .i64 i.txn.ep, .string i.txn.anchor, .int .i64 i.txn.start.1, .int .i64 i.txn.start.2, .int .i64 i.seq, .int .i64 i.at_.1, .int .i64 i.at_.2, .string i.val, .bool i.gone] 30).alloc (.cells #[.slice none 0 0, .bool false, .int .i64 0, .int .i64 0, .string ⟨#[]⟩, .int .i64 0, .int .i64 0, .int .i64 0, .int .i64 0, .int .i64 0, .string ⟨#[]⟩, .bool false] 30)).alloc (.cells #[.slice none 0 0, .bool false, .int .i64 0, .int .i64 0, .string ⟨#[]⟩, .int .i64 0, .int .i64 0, .int .i64 0, .int .i64 0, .int .i64 0, .string ⟨#[]⟩, .bool false] 30)
  rw [show (w.alloc (.cells #[.int .i64 a.kind, .int .i64 a.id, .int .i64 a.ep, .int .i64 a.itn.txn.id, .int .i64 a.itn.txn.ep, .string a.itn.txn.anchor, .int .i64 a.itn.txn.start.1, .int .i64 a.itn.txn.start.2, .int .i64 a.itn.seq, .int .i64 a.itn.at_.1, .int .i64 a.itn.at_.2, .string a.itn.val, .bool a.itn.gone, .bool a.commit, .int .i64 a.at_.1, .int .i64 a.at_.2] 46)).heap.size = w.heap.size + 1 by simp] at C
  have R := (Blk.new ((w.alloc (.cells #[.int .i64 a.kind, .int .i64 a.id, .int .i64 a.ep, .int .i64 a.itn.txn.id, .int .i64 a.itn.txn.ep, .string a.itn.txn.anchor, .int .i64 a.itn.txn.start.1, .int .i64 a.itn.txn.start.2, .int .i64 a.itn.seq, .int .i64 a.itn.at_.1, .int .i64 a.itn.at_.2, .string a.itn.val, .bool a.itn.gone, .bool a.commit, .int .i64 a.at_.1, .int .i64 a.at_.2] 46)).alloc (.cells #[.slice ao n c, .bool o, .int .i64 i.txn.id, .int .i64 i.txn.ep, .string i.txn.anchor, .int .i64 i.txn.start.1, .int .i64 i.txn.start.2, .int .i64 i.seq, .int .i64 i.at_.1, .int .i64 i.at_.2, .string i.val, .bool i.gone] 30)) #[.slice none 0 0, .bool false, .int .i64 0, .int .i64 0, .string ⟨#[]⟩, .int .i64 0, .int .i64 0, .int .i64 0, .int .i64 0, .int .i64 0, .string ⟨#[]⟩, .bool false] 30).alloc (.cells #[.slice none 0 0, .bool false, .int .i64 0, .int .i64 0, .string ⟨#[]⟩, .int .i64 0, .int .i64 0, .int .i64 0, .int .i64 0, .int .i64 0, .string ⟨#[]⟩, .bool false] 30)
  rw [show ((w.alloc (.cells #[.int .i64 a.kind, .int .i64 a.id, .int .i64 a.ep, .int .i64 a.itn.txn.id, .int .i64 a.itn.txn.ep, .string a.itn.txn.anchor, .int .i64 a.itn.txn.start.1, .int .i64 a.itn.txn.start.2, .int .i64 a.itn.seq, .int .i64 a.itn.at_.1, .int .i64 a.itn.at_.2, .string a.itn.val, .bool a.itn.gone, .bool a.commit, .int .i64 a.at_.1, .int .i64 a.at_.2] 46)).alloc (.cells #[.slice ao n c, .bool o, .int .i64 i.txn.id, .int .i64 i.txn.ep, .string i.txn.anchor, .int .i64 i.txn.start.1, .int .i64 i.txn.start.2, .int .i64 i.seq, .int .i64 i.at_.1, .int .i64 i.at_.2, .string i.val, .bool i.gone] 30)).heap.size = w.heap.size + 1 + 1 by simp] at R
  have X := Blk.new (((w.alloc (.cells #[.int .i64 a.kind, .int .i64 a.id, .int .i64 a.ep, .int .i64 a.itn.txn.id, .int .i64 a.itn.txn.ep, .string a.itn.txn.anchor, .int .i64 a.itn.txn.start.1, .int .i64 a.itn.txn.start.2, .int .i64 a.itn.seq, .int .i64 a.itn.at_.1, .int .i64 a.itn.at_.2, .string a.itn.val, .bool a.itn.gone, .bool a.commit, .int .i64 a.at_.1, .int .i64 a.at_.2] 46)).alloc (.cells #[.slice ao n c, .bool o, .int .i64 i.txn.id, .int .i64 i.txn.ep, .string i.txn.anchor, .int .i64 i.txn.start.1, .int .i64 i.txn.start.2, .int .i64 i.seq, .int .i64 i.at_.1, .int .i64 i.at_.2, .string i.val, .bool i.gone] 30)).alloc (.cells #[.slice none 0 0, .bool false, .int .i64 0, .int .i64 0, .string ⟨#[]⟩, .int .i64 0, .int .i64 0, .int .i64 0, .int .i64 0, .int .i64 0, .string ⟨#[]⟩, .bool false] 30)) #[.slice none 0 0, .bool false, .int .i64 0, .int .i64 0, .string ⟨#[]⟩, .int .i64 0, .int .i64 0, .int .i64 0, .int .i64 0, .int .i64 0, .string ⟨#[]⟩, .bool false] 30
  rw [show (((w.alloc (.cells #[.int .i64 a.kind, .int .i64 a.id, .int .i64 a.ep, .int .i64 a.itn.txn.id, .int .i64 a.itn.txn.ep, .string a.itn.txn.anchor, .int .i64 a.itn.txn.start.1, .int .i64 a.itn.txn.start.2, .int .i64 a.itn.seq, .int .i64 a.itn.at_.1, .int .i64 a.itn.at_.2, .string a.itn.val, .bool a.itn.gone, .bool a.commit, .int .i64 a.at_.1, .int .i64 a.at_.2] 46)).alloc (.cells #[.slice ao n c, .bool o, .int .i64 i.txn.id, .int .i64 i.txn.ep, .string i.txn.anchor, .int .i64 i.txn.start.1, .int .i64 i.txn.start.2, .int .i64 i.seq, .int .i64 i.at_.1, .int .i64 i.at_.2, .string i.val, .bool i.gone] 30)).alloc (.cells #[.slice none 0 0, .bool false, .int .i64 0, .int .i64 0, .string ⟨#[]⟩, .int .i64 0, .int .i64 0, .int .i64 0, .int .i64 0, .int .i64 0, .string ⟨#[]⟩, .bool false] 30)).heap.size = w.heap.size + 1 + 1 + 1 by simp] at X
  have hB : Below w.heap.size w ((((w.alloc (.cells #[.int .i64 a.kind, .int .i64 a.id, .int .i64 a.ep, .int .i64 a.itn.txn.id, .int .i64 a.itn.txn.ep, .string a.itn.txn.anchor, .int .i64 a.itn.txn.start.1, .int .i64 a.itn.txn.start.2, .int .i64 a.itn.seq, .int .i64 a.itn.at_.1, .int .i64 a.itn.at_.2, .string a.itn.val, .bool a.itn.gone, .bool a.commit, .int .i64 a.at_.1, .int .i64 a.at_.2] 46)).alloc (.cells #[.slice ao n c, .bool o, .int .i64 i.txn.id, .int .i64 i.txn.ep, .string i.txn.anchor, .int .i64 i.txn.start.1, .int .i64 i.txn.start.2, .int .i64 i.seq, .int .i64 i.at_.1, .int .i64 i.at_.2, .string i.val, .bool i.gone] 30)).alloc (.cells #[.slice none 0 0, .bool false, .int .i64 0, .int .i64 0, .string ⟨#[]⟩, .int .i64 0, .int .i64 0, .int .i64 0, .int .i64 0, .int .i64 0, .string ⟨#[]⟩, .bool false] 30)).alloc (.cells #[.slice none 0 0, .bool false, .int .i64 0, .int .i64 0, .string ⟨#[]⟩, .int .i64 0, .int .i64 0, .int .i64 0, .int .i64 0, .int .i64 0, .string ⟨#[]⟩, .bool false] 30)) := ((((Below.refl w.heap.size w).alloc (Nat.le_refl _) _).alloc (by simp) _).alloc (by simp; omega) _).alloc (by simp; omega) _
  clear hv hn
  by_cases h1 : a.kind = 1
  · rw [if_pos h1] at hZ
    have k1 : (a.kind == 1) = true := by simpa using h1
    clear hS h1
    obtain ⟨⟨⟨yv, yo, yi⟩, s, m, er⟩, hX⟩ : ∃ Y, writeC ⟨vs, o, i⟩ a.itn = Y := ⟨_, rfl⟩
    rw [hX] at hW hZ
    simp only at hW hZ
    obtain ⟨l, hl⟩ : ∃ l, yv.length = l := ⟨_, rfl⟩
    have Hl := hide hl
    simp only [hl] at hW
    clear hX hl
    have HZ := hide hZ
    clear hZ
    have A_0 := A.c 0; have A_1 := A.c 1; have A_2 := A.c 2; have A_3 := A.c 3; have A_4 := A.c 4; have A_5 := A.c 5; have A_6 := A.c 6; have A_7 := A.c 7; have A_8 := A.c 8; have A_9 := A.c 9; have A_10 := A.c 10; have A_11 := A.c 11; have A_12 := A.c 12; have A_13 := A.c 13; have A_14 := A.c 14; have A_15 := A.c 15; simp only [List.getElem?_cons_zero, List.getElem?_cons_succ] at A_0 A_1 A_2 A_3 A_4 A_5 A_6 A_7 A_8 A_9 A_10 A_11 A_12 A_13 A_14 A_15
    have C_0 := C.c 0; have C_1 := C.c 1; have C_2 := C.c 2; have C_3 := C.c 3; have C_4 := C.c 4; have C_5 := C.c 5; have C_6 := C.c 6; have C_7 := C.c 7; have C_8 := C.c 8; have C_9 := C.c 9; have C_10 := C.c 10; have C_11 := C.c 11; simp only [List.getElem?_cons_zero, List.getElem?_cons_succ] at C_0 C_1 C_2 C_3 C_4 C_5 C_6 C_7 C_8 C_9 C_10 C_11
    go_enter Try.func28, Try.ntmps28
    go_wp2_with fail
    generalize (((w.alloc _).alloc _).alloc _).alloc _ = W at *
    refine (hW _ hB).mono ?_
    rintro e w1 ⟨bo, d, rfl, ho, hb1⟩
    clear A_0 A_1 A_2 A_3 A_4 A_5 A_6 A_7 A_8 A_9 A_10 A_11 A_12 A_13 A_14 A_15 C_0 C_1 C_2 C_3 C_4 C_5 C_6 C_7 C_8 C_9 C_10 C_11
    replace ho := ho.mono (B' := W.heap.size) (Nat.le_refl _)
    replace C := C.later hb1
    have R0 := R
    replace R := R.later hb1
    have hXl := X.lt
    have hWl := hB.size
    have hRl := R0.lt
    replace X := X.later hb1
    replace hB := hB.trans (hb1.mono hB.size)
    clear hb1 hW A R0
    by_cases he : er = 0
    · subst he
      obtain rfl : (⟨yv, yo, yi⟩ : Chn) = Z := by rw [← unhide HZ, if_pos rfl]
      clear HZ
      have X_0 := X.c 0; have X_1 := X.c 1; have X_2 := X.c 2; have X_3 := X.c 3; have X_4 := X.c 4; have X_5 := X.c 5; have X_6 := X.c 6; have X_7 := X.c 7; have X_8 := X.c 8; have X_9 := X.c 9; have X_10 := X.c 10; have X_11 := X.c 11; simp only [List.getElem?_cons_zero, List.getElem?_cons_succ] at X_0 X_1 X_2 X_3 X_4 X_5 X_6 X_7 X_8 X_9 X_10 X_11
      have Xf := X.f
      have X4 := X.all [.slice bo l d, .bool yo, .int .i64 yi.txn.id, .int .i64 yi.txn.ep, .string yi.txn.anchor, .int .i64 yi.txn.start.1, .int .i64 yi.txn.start.2, .int .i64 yi.seq, .int .i64 yi.at_.1, .int .i64 yi.at_.2, .string yi.val, .bool yi.gone] rfl
      have C4 := Blk.others (C := w.heap.size + 1 + 1 + 1) (by omega) [.slice bo l d, .bool yo, .int .i64 yi.txn.id, .int .i64 yi.txn.ep, .string yi.txn.anchor, .int .i64 yi.txn.start.1, .int .i64 yi.txn.start.2, .int .i64 yi.seq, .int .i64 yi.at_.1, .int .i64 yi.at_.2, .string yi.val, .bool yi.gone] 0 C
      have R4 := Blk.others (C := w.heap.size + 1 + 1 + 1) (by omega) [.slice bo l d, .bool yo, .int .i64 yi.txn.id, .int .i64 yi.txn.ep, .string yi.txn.anchor, .int .i64 yi.txn.start.1, .int .i64 yi.txn.start.2, .int .i64 yi.seq, .int .i64 yi.at_.1, .int .i64 yi.at_.2, .string yi.val, .bool yi.gone] 0 R
      have ho4 := VOwn.others (C := w.heap.size + 1 + 1 + 1) hXl [.slice bo l d, .bool yo, .int .i64 yi.txn.id, .int .i64 yi.txn.ep, .string yi.txn.anchor, .int .i64 yi.txn.start.1, .int .i64 yi.txn.start.2, .int .i64 yi.seq, .int .i64 yi.at_.1, .int .i64 yi.at_.2, .string yi.val, .bool yi.gone] 0 ho
      have hB4 := below_setAll (C := w.heap.size + 1 + 1 + 1) (by omega) [.slice bo l d, .bool yo, .int .i64 yi.txn.id, .int .i64 yi.txn.ep, .string yi.txn.anchor, .int .i64 yi.txn.start.1, .int .i64 yi.txn.start.2, .int .i64 yi.seq, .int .i64 yi.at_.1, .int .i64 yi.at_.2, .string yi.val, .bool yi.gone] 0 hB
      have Hw := hide (And.intro X4 (And.intro C4 (And.intro R4 (And.intro ho4 hB4))))
      clear X4 C4 R4 ho4 hB4 C R ho hB
      go_upto_region 8 with fail
      clear X_0 X_1 X_2 X_3 X_4 X_5 X_6 X_7 X_8 X_9 X_10 X_11
      clear Xf X
      generalize hWd : setAll w1 (w.heap.size + 1 + 1 + 1) 0 [.slice bo l d, .bool yo, .int .i64 yi.txn.id, .int .i64 yi.txn.ep, .string yi.txn.anchor, .int .i64 yi.txn.start.1, .int .i64 yi.txn.start.2, .int .i64 yi.seq, .int .i64 yi.at_.1, .int .i64 yi.at_.2, .string yi.val, .bool yi.gone] = Wd at Hw
      simp only [setAll, Nat.zero_add, Nat.reduceAdd] at hWd
      rw [hWd]
      clear hWd
      obtain ⟨X, C, R, ho, hB⟩ := unhide Hw
      clear Hw
      have X_0 := X.c 0; have X_1 := X.c 1; have X_2 := X.c 2; have X_3 := X.c 3; have X_4 := X.c 4; have X_5 := X.c 5; have X_6 := X.c 6; have X_7 := X.c 7; have X_8 := X.c 8; have X_9 := X.c 9; have X_10 := X.c 10; have X_11 := X.c 11; simp only [List.getElem?_cons_zero, List.getElem?_cons_succ] at X_0 X_1 X_2 X_3 X_4 X_5 X_6 X_7 X_8 X_9 X_10 X_11
      have R_0 := R.c 0; have R_1 := R.c 1; have R_2 := R.c 2; have R_3 := R.c 3; have R_4 := R.c 4; have R_5 := R.c 5; have R_6 := R.c 6; have R_7 := R.c 7; have R_8 := R.c 8; have R_9 := R.c 9; have R_10 := R.c 10; have R_11 := R.c 11; simp only [List.getElem?_cons_zero, List.getElem?_cons_succ] at R_0 R_1 R_2 R_3 R_4 R_5 R_6 R_7 R_8 R_9 R_10 R_11
      have Rf := R.f
      have HB := hide hB
      have HO := hide ho
      clear hB ho
      go_wp2
      refine bodyPost_ret (results_c Try.results28 bo l d yo yi rfl (R.all [.slice bo l d, .bool yo, .int .i64 yi.txn.id, .int .i64 yi.txn.ep, .string yi.txn.anchor, .int .i64 yi.txn.start.1, .int .i64 yi.txn.start.2, .int .i64 yi.seq, .int .i64 yi.at_.1, .int .i64 yi.at_.2, .string yi.val, .bool yi.gone] rfl)) rfl ⟨bo, d, ?_, (VOwn.others hRl [.slice bo l d, .bool yo, .int .i64 yi.txn.id, .int .i64 yi.txn.ep, .string yi.txn.anchor, .int .i64 yi.txn.start.1, .int .i64 yi.txn.start.2, .int .i64 yi.seq, .int .i64 yi.at_.1, .int .i64 yi.at_.2, .string yi.val, .bool yi.gone] 0 (unhide HO)).vs, fun b q e => .inr (Nat.le_trans hWl ((unhide HO).lt b (by subst e; rfl)).1), below_setAll (by omega) [.slice bo l d, .bool yo, .int .i64 yi.txn.id, .int .i64 yi.txn.ep, .string yi.txn.anchor, .int .i64 yi.txn.start.1, .int .i64 yi.txn.start.2, .int .i64 yi.seq, .int .i64 yi.at_.1, .int .i64 yi.at_.2, .string yi.val, .bool yi.gone] 0 (unhide HB)⟩
      show _ = Ending.returned (.agg #[.slice bo yv.length d, .bool yo, .int .i64 yi.txn.id, .int .i64 yi.txn.ep, .string yi.txn.anchor, .int .i64 yi.txn.start.1, .int .i64 yi.txn.start.2, .int .i64 yi.seq, .int .i64 yi.at_.1, .int .i64 yi.at_.2, .string yi.val, .bool yi.gone])
      rw [unhide Hl]
    · obtain rfl : (⟨vs, o, i⟩ : Chn) = Z := by rw [← unhide HZ, if_neg he]
      have he' : (er != 0) = true := by simpa using he
      clear HZ he
      have X_0 := X.c 0; have X_1 := X.c 1; have X_2 := X.c 2; have X_3 := X.c 3; have X_4 := X.c 4; have X_5 := X.c 5; have X_6 := X.c 6; have X_7 := X.c 7; have X_8 := X.c 8; have X_9 := X.c 9; have X_10 := X.c 10; have X_11 := X.c 11; simp only [List.getElem?_cons_zero, List.getElem?_cons_succ] at X_0 X_1 X_2 X_3 X_4 X_5 X_6 X_7 X_8 X_9 X_10 X_11
      have Xf := X.f
      have X4 := X.all [.slice bo l d, .bool yo, .int .i64 yi.txn.id, .int .i64 yi.txn.ep, .string yi.txn.anchor, .int .i64 yi.txn.start.1, .int .i64 yi.txn.start.2, .int .i64 yi.seq, .int .i64 yi.at_.1, .int .i64 yi.at_.2, .string yi.val, .bool yi.gone] rfl
      have C4 := Blk.others (C := w.heap.size + 1 + 1 + 1) (by omega) [.slice bo l d, .bool yo, .int .i64 yi.txn.id, .int .i64 yi.txn.ep, .string yi.txn.anchor, .int .i64 yi.txn.start.1, .int .i64 yi.txn.start.2, .int .i64 yi.seq, .int .i64 yi.at_.1, .int .i64 yi.at_.2, .string yi.val, .bool yi.gone] 0 C
      have R4 := Blk.others (C := w.heap.size + 1 + 1 + 1) (by omega) [.slice bo l d, .bool yo, .int .i64 yi.txn.id, .int .i64 yi.txn.ep, .string yi.txn.anchor, .int .i64 yi.txn.start.1, .int .i64 yi.txn.start.2, .int .i64 yi.seq, .int .i64 yi.at_.1, .int .i64 yi.at_.2, .string yi.val, .bool yi.gone] 0 R
      have ho4 := VOwn.others (C := w.heap.size + 1 + 1 + 1) hXl [.slice bo l d, .bool yo, .int .i64 yi.txn.id, .int .i64 yi.txn.ep, .string yi.txn.anchor, .int .i64 yi.txn.start.1, .int .i64 yi.txn.start.2, .int .i64 yi.seq, .int .i64 yi.at_.1, .int .i64 yi.at_.2, .string yi.val, .bool yi.gone] 0 ho
      have hB4 := below_setAll (C := w.heap.size + 1 + 1 + 1) (by omega) [.slice bo l d, .bool yo, .int .i64 yi.txn.id, .int .i64 yi.txn.ep, .string yi.txn.anchor, .int .i64 yi.txn.start.1, .int .i64 yi.txn.start.2, .int .i64 yi.seq, .int .i64 yi.at_.1, .int .i64 yi.at_.2, .string yi.val, .bool yi.gone] 0 hB
      have Hw := hide (And.intro X4 (And.intro C4 (And.intro R4 (And.intro ho4 hB4))))
      clear X4 C4 R4 ho4 hB4 C R ho hB
      go_upto_region 8 with fail
      clear X_0 X_1 X_2 X_3 X_4 X_5 X_6 X_7 X_8 X_9 X_10 X_11
      clear Xf X
      generalize hWd : setAll w1 (w.heap.size + 1 + 1 + 1) 0 [.slice bo l d, .bool yo, .int .i64 yi.txn.id, .int .i64 yi.txn.ep, .string yi.txn.anchor, .int .i64 yi.txn.start.1, .int .i64 yi.txn.start.2, .int .i64 yi.seq, .int .i64 yi.at_.1, .int .i64 yi.at_.2, .string yi.val, .bool yi.gone] = Wd at Hw
      simp only [setAll, Nat.zero_add, Nat.reduceAdd] at hWd
      rw [hWd]
      clear hWd
      obtain ⟨X, C, R, ho, hB⟩ := unhide Hw
      clear Hw
      clear ho X
      have C_0 := C.c 0; have C_1 := C.c 1; have C_2 := C.c 2; have C_3 := C.c 3; have C_4 := C.c 4; have C_5 := C.c 5; have C_6 := C.c 6; have C_7 := C.c 7; have C_8 := C.c 8; have C_9 := C.c 9; have C_10 := C.c 10; have C_11 := C.c 11; simp only [List.getElem?_cons_zero, List.getElem?_cons_succ] at C_0 C_1 C_2 C_3 C_4 C_5 C_6 C_7 C_8 C_9 C_10 C_11
      have R_0 := R.c 0; have R_1 := R.c 1; have R_2 := R.c 2; have R_3 := R.c 3; have R_4 := R.c 4; have R_5 := R.c 5; have R_6 := R.c 6; have R_7 := R.c 7; have R_8 := R.c 8; have R_9 := R.c 9; have R_10 := R.c 10; have R_11 := R.c 11; simp only [List.getElem?_cons_zero, List.getElem?_cons_succ] at R_0 R_1 R_2 R_3 R_4 R_5 R_6 R_7 R_8 R_9 R_10 R_11
      have Rf := R.f
      have HB := hide hB
      clear hB
      go_wp2
      refine bodyPost_ret (results_c Try.results28 ao n c o i rfl (R.all [.slice ao n c, .bool o, .int .i64 i.txn.id, .int .i64 i.txn.ep, .string i.txn.anchor, .int .i64 i.txn.start.1, .int .i64 i.txn.start.2, .int .i64 i.seq, .int .i64 i.at_.1, .int .i64 i.at_.2, .string i.val, .bool i.gone] rfl)) rfl ⟨ao, c, ?_, (unhide Hv).later (below_setAll (by omega) [.slice ao n c, .bool o, .int .i64 i.txn.id, .int .i64 i.txn.ep, .string i.txn.anchor, .int .i64 i.txn.start.1, .int .i64 i.txn.start.2, .int .i64 i.seq, .int .i64 i.at_.1, .int .i64 i.at_.2, .string i.val, .bool i.gone] 0 (unhide HB)), fun b q _ => .inl (by simp), below_setAll (by omega) [.slice ao n c, .bool o, .int .i64 i.txn.id, .int .i64 i.txn.ep, .string i.txn.anchor, .int .i64 i.txn.start.1, .int .i64 i.txn.start.2, .int .i64 i.seq, .int .i64 i.at_.1, .int .i64 i.at_.2, .string i.val, .bool i.gone] 0 (unhide HB)⟩
      show _ = Ending.returned (.agg #[.slice ao vs.length c, .bool o, .int .i64 i.txn.id, .int .i64 i.txn.ep, .string i.txn.anchor, .int .i64 i.txn.start.1, .int .i64 i.txn.start.2, .int .i64 i.seq, .int .i64 i.at_.1, .int .i64 i.at_.2, .string i.val, .bool i.gone])
      rw [unhide Hn]
  rw [if_neg h1] at hZ
  have k1 : (a.kind == 1) = false := by simpa using h1
  clear hW h1
  by_cases h2 : a.kind = 2
  · rw [if_pos h2] at hZ
    have k2 : (a.kind == 2) = true := by simpa using h2
    clear h2
    obtain ⟨⟨⟨yv, yo, yi⟩, er⟩, hX⟩ : ∃ Y, resolveC ⟨vs, o, i⟩ a.id a.ep a.commit a.at_ = Y := ⟨_, rfl⟩
    rw [hX] at hS hZ
    simp only at hS hZ
    obtain ⟨l, hl⟩ : ∃ l, yv.length = l := ⟨_, rfl⟩
    have Hl := hide hl
    simp only [hl] at hS
    clear hX hl
    have HZ := hide hZ
    clear hZ
    have A_0 := A.c 0; have A_1 := A.c 1; have A_2 := A.c 2; have A_3 := A.c 3; have A_4 := A.c 4; have A_5 := A.c 5; have A_6 := A.c 6; have A_7 := A.c 7; have A_8 := A.c 8; have A_9 := A.c 9; have A_10 := A.c 10; have A_11 := A.c 11; have A_12 := A.c 12; have A_13 := A.c 13; have A_14 := A.c 14; have A_15 := A.c 15; simp only [List.getElem?_cons_zero, List.getElem?_cons_succ] at A_0 A_1 A_2 A_3 A_4 A_5 A_6 A_7 A_8 A_9 A_10 A_11 A_12 A_13 A_14 A_15
    have C_0 := C.c 0; have C_1 := C.c 1; have C_2 := C.c 2; have C_3 := C.c 3; have C_4 := C.c 4; have C_5 := C.c 5; have C_6 := C.c 6; have C_7 := C.c 7; have C_8 := C.c 8; have C_9 := C.c 9; have C_10 := C.c 10; have C_11 := C.c 11; simp only [List.getElem?_cons_zero, List.getElem?_cons_succ] at C_0 C_1 C_2 C_3 C_4 C_5 C_6 C_7 C_8 C_9 C_10 C_11
    go_enter Try.func28, Try.ntmps28
    go_wp2_with fail
    generalize (((w.alloc _).alloc _).alloc _).alloc _ = W at *
    refine (hS _ hB).mono ?_
    rintro e w1 ⟨bo, d, rfl, ho, hb1⟩
    clear A_0 A_1 A_2 A_3 A_4 A_5 A_6 A_7 A_8 A_9 A_10 A_11 A_12 A_13 A_14 A_15 C_0 C_1 C_2 C_3 C_4 C_5 C_6 C_7 C_8 C_9 C_10 C_11
    replace C := C.later hb1
    have R0 := R
    replace R := R.later hb1
    have hXl := X.lt
    have hWl := hB.size
    have hRl := R0.lt
    replace X := X.later hb1
    replace hB := hB.trans (hb1.mono hB.size)
    clear hb1 hS A R0
    by_cases he : er = 0
    · subst he
      obtain rfl : (⟨yv, yo, yi⟩ : Chn) = Z := by rw [← unhide HZ, if_pos rfl]
      clear HZ
      have X_0 := X.c 0; have X_1 := X.c 1; have X_2 := X.c 2; have X_3 := X.c 3; have X_4 := X.c 4; have X_5 := X.c 5; have X_6 := X.c 6; have X_7 := X.c 7; have X_8 := X.c 8; have X_9 := X.c 9; have X_10 := X.c 10; have X_11 := X.c 11; simp only [List.getElem?_cons_zero, List.getElem?_cons_succ] at X_0 X_1 X_2 X_3 X_4 X_5 X_6 X_7 X_8 X_9 X_10 X_11
      have Xf := X.f
      have X4 := X.all [.slice bo l d, .bool yo, .int .i64 yi.txn.id, .int .i64 yi.txn.ep, .string yi.txn.anchor, .int .i64 yi.txn.start.1, .int .i64 yi.txn.start.2, .int .i64 yi.seq, .int .i64 yi.at_.1, .int .i64 yi.at_.2, .string yi.val, .bool yi.gone] rfl
      have C4 := Blk.others (C := w.heap.size + 1 + 1 + 1) (by omega) [.slice bo l d, .bool yo, .int .i64 yi.txn.id, .int .i64 yi.txn.ep, .string yi.txn.anchor, .int .i64 yi.txn.start.1, .int .i64 yi.txn.start.2, .int .i64 yi.seq, .int .i64 yi.at_.1, .int .i64 yi.at_.2, .string yi.val, .bool yi.gone] 0 C
      have R4 := Blk.others (C := w.heap.size + 1 + 1 + 1) (by omega) [.slice bo l d, .bool yo, .int .i64 yi.txn.id, .int .i64 yi.txn.ep, .string yi.txn.anchor, .int .i64 yi.txn.start.1, .int .i64 yi.txn.start.2, .int .i64 yi.seq, .int .i64 yi.at_.1, .int .i64 yi.at_.2, .string yi.val, .bool yi.gone] 0 R
      have ho4 := VOwn.others (C := w.heap.size + 1 + 1 + 1) hXl [.slice bo l d, .bool yo, .int .i64 yi.txn.id, .int .i64 yi.txn.ep, .string yi.txn.anchor, .int .i64 yi.txn.start.1, .int .i64 yi.txn.start.2, .int .i64 yi.seq, .int .i64 yi.at_.1, .int .i64 yi.at_.2, .string yi.val, .bool yi.gone] 0 ho
      have hB4 := below_setAll (C := w.heap.size + 1 + 1 + 1) (by omega) [.slice bo l d, .bool yo, .int .i64 yi.txn.id, .int .i64 yi.txn.ep, .string yi.txn.anchor, .int .i64 yi.txn.start.1, .int .i64 yi.txn.start.2, .int .i64 yi.seq, .int .i64 yi.at_.1, .int .i64 yi.at_.2, .string yi.val, .bool yi.gone] 0 hB
      have Hw := hide (And.intro X4 (And.intro C4 (And.intro R4 (And.intro ho4 hB4))))
      clear X4 C4 R4 ho4 hB4 C R ho hB
      go_upto_region 8 with fail
      clear X_0 X_1 X_2 X_3 X_4 X_5 X_6 X_7 X_8 X_9 X_10 X_11
      clear Xf X
      generalize hWd : setAll w1 (w.heap.size + 1 + 1 + 1) 0 [.slice bo l d, .bool yo, .int .i64 yi.txn.id, .int .i64 yi.txn.ep, .string yi.txn.anchor, .int .i64 yi.txn.start.1, .int .i64 yi.txn.start.2, .int .i64 yi.seq, .int .i64 yi.at_.1, .int .i64 yi.at_.2, .string yi.val, .bool yi.gone] = Wd at Hw
      simp only [setAll, Nat.zero_add, Nat.reduceAdd] at hWd
      rw [hWd]
      clear hWd
      obtain ⟨X, C, R, ho, hB⟩ := unhide Hw
      clear Hw
      have X_0 := X.c 0; have X_1 := X.c 1; have X_2 := X.c 2; have X_3 := X.c 3; have X_4 := X.c 4; have X_5 := X.c 5; have X_6 := X.c 6; have X_7 := X.c 7; have X_8 := X.c 8; have X_9 := X.c 9; have X_10 := X.c 10; have X_11 := X.c 11; simp only [List.getElem?_cons_zero, List.getElem?_cons_succ] at X_0 X_1 X_2 X_3 X_4 X_5 X_6 X_7 X_8 X_9 X_10 X_11
      have R_0 := R.c 0; have R_1 := R.c 1; have R_2 := R.c 2; have R_3 := R.c 3; have R_4 := R.c 4; have R_5 := R.c 5; have R_6 := R.c 6; have R_7 := R.c 7; have R_8 := R.c 8; have R_9 := R.c 9; have R_10 := R.c 10; have R_11 := R.c 11; simp only [List.getElem?_cons_zero, List.getElem?_cons_succ] at R_0 R_1 R_2 R_3 R_4 R_5 R_6 R_7 R_8 R_9 R_10 R_11
      have Rf := R.f
      have HB := hide hB
      have HO := hide ho
      clear hB ho
      go_wp2
      refine bodyPost_ret (results_c Try.results28 bo l d yo yi rfl (R.all [.slice bo l d, .bool yo, .int .i64 yi.txn.id, .int .i64 yi.txn.ep, .string yi.txn.anchor, .int .i64 yi.txn.start.1, .int .i64 yi.txn.start.2, .int .i64 yi.seq, .int .i64 yi.at_.1, .int .i64 yi.at_.2, .string yi.val, .bool yi.gone] rfl)) rfl ⟨bo, d, ?_, (VOwn.others hRl [.slice bo l d, .bool yo, .int .i64 yi.txn.id, .int .i64 yi.txn.ep, .string yi.txn.anchor, .int .i64 yi.txn.start.1, .int .i64 yi.txn.start.2, .int .i64 yi.seq, .int .i64 yi.at_.1, .int .i64 yi.at_.2, .string yi.val, .bool yi.gone] 0 (unhide HO)).vs, fun b q e => .inr (Nat.le_trans hWl ((unhide HO).lt b (by subst e; rfl)).1), below_setAll (by omega) [.slice bo l d, .bool yo, .int .i64 yi.txn.id, .int .i64 yi.txn.ep, .string yi.txn.anchor, .int .i64 yi.txn.start.1, .int .i64 yi.txn.start.2, .int .i64 yi.seq, .int .i64 yi.at_.1, .int .i64 yi.at_.2, .string yi.val, .bool yi.gone] 0 (unhide HB)⟩
      show _ = Ending.returned (.agg #[.slice bo yv.length d, .bool yo, .int .i64 yi.txn.id, .int .i64 yi.txn.ep, .string yi.txn.anchor, .int .i64 yi.txn.start.1, .int .i64 yi.txn.start.2, .int .i64 yi.seq, .int .i64 yi.at_.1, .int .i64 yi.at_.2, .string yi.val, .bool yi.gone])
      rw [unhide Hl]
    · obtain rfl : (⟨vs, o, i⟩ : Chn) = Z := by rw [← unhide HZ, if_neg he]
      have he' : (er != 0) = true := by simpa using he
      clear HZ he
      have X_0 := X.c 0; have X_1 := X.c 1; have X_2 := X.c 2; have X_3 := X.c 3; have X_4 := X.c 4; have X_5 := X.c 5; have X_6 := X.c 6; have X_7 := X.c 7; have X_8 := X.c 8; have X_9 := X.c 9; have X_10 := X.c 10; have X_11 := X.c 11; simp only [List.getElem?_cons_zero, List.getElem?_cons_succ] at X_0 X_1 X_2 X_3 X_4 X_5 X_6 X_7 X_8 X_9 X_10 X_11
      have Xf := X.f
      have X4 := X.all [.slice bo l d, .bool yo, .int .i64 yi.txn.id, .int .i64 yi.txn.ep, .string yi.txn.anchor, .int .i64 yi.txn.start.1, .int .i64 yi.txn.start.2, .int .i64 yi.seq, .int .i64 yi.at_.1, .int .i64 yi.at_.2, .string yi.val, .bool yi.gone] rfl
      have C4 := Blk.others (C := w.heap.size + 1 + 1 + 1) (by omega) [.slice bo l d, .bool yo, .int .i64 yi.txn.id, .int .i64 yi.txn.ep, .string yi.txn.anchor, .int .i64 yi.txn.start.1, .int .i64 yi.txn.start.2, .int .i64 yi.seq, .int .i64 yi.at_.1, .int .i64 yi.at_.2, .string yi.val, .bool yi.gone] 0 C
      have R4 := Blk.others (C := w.heap.size + 1 + 1 + 1) (by omega) [.slice bo l d, .bool yo, .int .i64 yi.txn.id, .int .i64 yi.txn.ep, .string yi.txn.anchor, .int .i64 yi.txn.start.1, .int .i64 yi.txn.start.2, .int .i64 yi.seq, .int .i64 yi.at_.1, .int .i64 yi.at_.2, .string yi.val, .bool yi.gone] 0 R
      have ho4 := VOwn.others (C := w.heap.size + 1 + 1 + 1) hXl [.slice bo l d, .bool yo, .int .i64 yi.txn.id, .int .i64 yi.txn.ep, .string yi.txn.anchor, .int .i64 yi.txn.start.1, .int .i64 yi.txn.start.2, .int .i64 yi.seq, .int .i64 yi.at_.1, .int .i64 yi.at_.2, .string yi.val, .bool yi.gone] 0 ho
      have hB4 := below_setAll (C := w.heap.size + 1 + 1 + 1) (by omega) [.slice bo l d, .bool yo, .int .i64 yi.txn.id, .int .i64 yi.txn.ep, .string yi.txn.anchor, .int .i64 yi.txn.start.1, .int .i64 yi.txn.start.2, .int .i64 yi.seq, .int .i64 yi.at_.1, .int .i64 yi.at_.2, .string yi.val, .bool yi.gone] 0 hB
      have Hw := hide (And.intro X4 (And.intro C4 (And.intro R4 (And.intro ho4 hB4))))
      clear X4 C4 R4 ho4 hB4 C R ho hB
      go_upto_region 8 with fail
      clear X_0 X_1 X_2 X_3 X_4 X_5 X_6 X_7 X_8 X_9 X_10 X_11
      clear Xf X
      generalize hWd : setAll w1 (w.heap.size + 1 + 1 + 1) 0 [.slice bo l d, .bool yo, .int .i64 yi.txn.id, .int .i64 yi.txn.ep, .string yi.txn.anchor, .int .i64 yi.txn.start.1, .int .i64 yi.txn.start.2, .int .i64 yi.seq, .int .i64 yi.at_.1, .int .i64 yi.at_.2, .string yi.val, .bool yi.gone] = Wd at Hw
      simp only [setAll, Nat.zero_add, Nat.reduceAdd] at hWd
      rw [hWd]
      clear hWd
      obtain ⟨X, C, R, ho, hB⟩ := unhide Hw
      clear Hw
      clear ho X
      have C_0 := C.c 0; have C_1 := C.c 1; have C_2 := C.c 2; have C_3 := C.c 3; have C_4 := C.c 4; have C_5 := C.c 5; have C_6 := C.c 6; have C_7 := C.c 7; have C_8 := C.c 8; have C_9 := C.c 9; have C_10 := C.c 10; have C_11 := C.c 11; simp only [List.getElem?_cons_zero, List.getElem?_cons_succ] at C_0 C_1 C_2 C_3 C_4 C_5 C_6 C_7 C_8 C_9 C_10 C_11
      have R_0 := R.c 0; have R_1 := R.c 1; have R_2 := R.c 2; have R_3 := R.c 3; have R_4 := R.c 4; have R_5 := R.c 5; have R_6 := R.c 6; have R_7 := R.c 7; have R_8 := R.c 8; have R_9 := R.c 9; have R_10 := R.c 10; have R_11 := R.c 11; simp only [List.getElem?_cons_zero, List.getElem?_cons_succ] at R_0 R_1 R_2 R_3 R_4 R_5 R_6 R_7 R_8 R_9 R_10 R_11
      have Rf := R.f
      have HB := hide hB
      clear hB
      go_wp2
      refine bodyPost_ret (results_c Try.results28 ao n c o i rfl (R.all [.slice ao n c, .bool o, .int .i64 i.txn.id, .int .i64 i.txn.ep, .string i.txn.anchor, .int .i64 i.txn.start.1, .int .i64 i.txn.start.2, .int .i64 i.seq, .int .i64 i.at_.1, .int .i64 i.at_.2, .string i.val, .bool i.gone] rfl)) rfl ⟨ao, c, ?_, (unhide Hv).later (below_setAll (by omega) [.slice ao n c, .bool o, .int .i64 i.txn.id, .int .i64 i.txn.ep, .string i.txn.anchor, .int .i64 i.txn.start.1, .int .i64 i.txn.start.2, .int .i64 i.seq, .int .i64 i.at_.1, .int .i64 i.at_.2, .string i.val, .bool i.gone] 0 (unhide HB)), fun b q _ => .inl (by simp), below_setAll (by omega) [.slice ao n c, .bool o, .int .i64 i.txn.id, .int .i64 i.txn.ep, .string i.txn.anchor, .int .i64 i.txn.start.1, .int .i64 i.txn.start.2, .int .i64 i.seq, .int .i64 i.at_.1, .int .i64 i.at_.2, .string i.val, .bool i.gone] 0 (unhide HB)⟩
      show _ = Ending.returned (.agg #[.slice ao vs.length c, .bool o, .int .i64 i.txn.id, .int .i64 i.txn.ep, .string i.txn.anchor, .int .i64 i.txn.start.1, .int .i64 i.txn.start.2, .int .i64 i.seq, .int .i64 i.at_.1, .int .i64 i.at_.2, .string i.val, .bool i.gone])
      rw [unhide Hn]
  · rw [if_neg h2] at hZ
    have k2 : (a.kind == 2) = false := by simpa using h2
    subst hZ
    clear hS h2 X
    have A_0 := A.c 0; have A_1 := A.c 1; have A_2 := A.c 2; have A_3 := A.c 3; have A_4 := A.c 4; have A_5 := A.c 5; have A_6 := A.c 6; have A_7 := A.c 7; have A_8 := A.c 8; have A_9 := A.c 9; have A_10 := A.c 10; have A_11 := A.c 11; have A_12 := A.c 12; have A_13 := A.c 13; have A_14 := A.c 14; have A_15 := A.c 15; simp only [List.getElem?_cons_zero, List.getElem?_cons_succ] at A_0 A_1 A_2 A_3 A_4 A_5 A_6 A_7 A_8 A_9 A_10 A_11 A_12 A_13 A_14 A_15
    go_enter Try.func28, Try.ntmps28
    go_upto_region 8 with fail
    clear A_0 A_1 A_2 A_3 A_4 A_5 A_6 A_7 A_8 A_9 A_10 A_11 A_12 A_13 A_14 A_15
    generalize (((w.alloc _).alloc _).alloc _).alloc _ = W at *
    have C_0 := C.c 0; have C_1 := C.c 1; have C_2 := C.c 2; have C_3 := C.c 3; have C_4 := C.c 4; have C_5 := C.c 5; have C_6 := C.c 6; have C_7 := C.c 7; have C_8 := C.c 8; have C_9 := C.c 9; have C_10 := C.c 10; have C_11 := C.c 11; simp only [List.getElem?_cons_zero, List.getElem?_cons_succ] at C_0 C_1 C_2 C_3 C_4 C_5 C_6 C_7 C_8 C_9 C_10 C_11
    have R_0 := R.c 0; have R_1 := R.c 1; have R_2 := R.c 2; have R_3 := R.c 3; have R_4 := R.c 4; have R_5 := R.c 5; have R_6 := R.c 6; have R_7 := R.c 7; have R_8 := R.c 8; have R_9 := R.c 9; have R_10 := R.c 10; have R_11 := R.c 11; simp only [List.getElem?_cons_zero, List.getElem?_cons_succ] at R_0 R_1 R_2 R_3 R_4 R_5 R_6 R_7 R_8 R_9 R_10 R_11
    have Rf := R.f
    have HB := hide hB
    clear hB
    go_wp2
    refine bodyPost_ret (results_c Try.results28 ao n c o i rfl (R.all [.slice ao n c, .bool o, .int .i64 i.txn.id, .int .i64 i.txn.ep, .string i.txn.anchor, .int .i64 i.txn.start.1, .int .i64 i.txn.start.2, .int .i64 i.seq, .int .i64 i.at_.1, .int .i64 i.at_.2, .string i.val, .bool i.gone] rfl)) rfl ⟨ao, c, ?_, (unhide Hv).later (below_setAll (by omega) [.slice ao n c, .bool o, .int .i64 i.txn.id, .int .i64 i.txn.ep, .string i.txn.anchor, .int .i64 i.txn.start.1, .int .i64 i.txn.start.2, .int .i64 i.seq, .int .i64 i.at_.1, .int .i64 i.at_.2, .string i.val, .bool i.gone] 0 (unhide HB)), fun b q _ => .inl (by simp), below_setAll (by omega) [.slice ao n c, .bool o, .int .i64 i.txn.id, .int .i64 i.txn.ep, .string i.txn.anchor, .int .i64 i.txn.start.1, .int .i64 i.txn.start.2, .int .i64 i.seq, .int .i64 i.at_.1, .int .i64 i.at_.2, .string i.val, .bool i.gone] 0 (unhide HB)⟩
    show _ = Ending.returned (.agg #[.slice ao vs.length c, .bool o, .int .i64 i.txn.id, .int .i64 i.txn.ep, .string i.txn.anchor, .int .i64 i.txn.start.1, .int .i64 i.txn.start.2, .int .i64 i.seq, .int .i64 i.at_.1, .int .i64 i.at_.2, .string i.val, .bool i.gone])
    rw [unhide Hn]
end

end Go.Proofs.Ytcahmnpoajnmpaa
