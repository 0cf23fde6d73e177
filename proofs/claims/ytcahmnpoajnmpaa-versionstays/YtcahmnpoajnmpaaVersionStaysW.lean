/-
  VersionStays returns true. No statement is proved here: the lifted text has it.
-/
import Derived.Test.YtcahmnpoajnmpaaDoes
import Derived.Test.YtcahmnpoajnmpaaViewA
namespace Go.Proofs.Ytcahmnpoajnmpaa
open Go.RowKit
set_option linter.unusedVariables false

/-- The law's memory ahead of a round: the chain, right, and what is read of it at the stamp as it was at the beginning. -/
def Stay (wr w : World) (vb : Nat) (s : Stp) (v : Ver) (b : Bool) (k : Nat) : Prop :=
  ∃ (xv : List Ver) (xo : Bool) (xi : Itn) (bo : Option Addr) (l d : Nat), Blk wr w.heap.size [.slice bo l d, .bool xo, .int .i64 xi.txn.id, .int .i64 xi.txn.ep, .string xi.txn.anchor, .int .i64 xi.txn.start.1, .int .i64 xi.txn.start.2, .int .i64 xi.seq, .int .i64 xi.at_.1, .int .i64 xi.at_.2, .string xi.val, .bool xi.gone] ∧ Blk wr (w.heap.size + 1) [.int .i64 s.1, .int .i64 s.2] ∧ Blk wr vb [.int .i64 v.at_.1, .int .i64 v.at_.2, .string v.val, .bool v.gone, .int .i64 v.by_] ∧ Vs wr bo d xv ∧ Off w.heap.size bo xv ∧ xv.length = l ∧ l ≤ 60 + k ∧
    rightC ⟨xv, xo, xi⟩ ∧ Quiet ⟨xv, xo, xi⟩ s ∧ seenV xv s = (v, b, Met.zero, 0) ∧ Below w.heap.size w wr ∧ w.heap.size + 1 < vb

theorem Stay.later {wr w w2 : World} {vb : Nat} {s : Stp} {v : Ver} {b : Bool} {k k' : Nat} (h : Stay wr w vb s v b k) (hb : Below wr.heap.size wr w2) (hk : k ≤ k') : Stay w2 w vb s v b k' := by
  obtain ⟨xv, xo, xi, bo, l, d, h1, h2, h3, h4, h5, h6, h7, h8, h9, h10, h11, h12⟩ := h
  exact ⟨xv, xo, xi, bo, l, d, h1.later hb, h2.later hb, h3.later hb, h4.later hb, h5, h6, by omega, h8, h9, h10, h11.trans (hb.mono h11.size), h12⟩

theorem stays_first {vs : List Ver} {i : Itn} {s : Stp} (hr : rightC ⟨vs, false, i⟩) : ∃ v b, readR vs false i s s (-1) 0 = (v, b, Met.zero, 0) ∧ seenV vs s = (v, b, Met.zero, 0) := by
  rw [readR_right hr.1, readC_self (fun h => by cases h)]
  simp only
  unfold seenV
  split
  · split
    · exact ⟨_, _, rfl, rfl⟩
    · exact ⟨_, _, rfl, rfl⟩
  · exact ⟨_, _, rfl, rfl⟩

section
set_option maxRecDepth 100000
set_option maxHeartbeats 20000000

theorem walkVersionStays {w : World} (a0 : Value) (x : Chn) (ha : ChV w a0 x) (b0 : Value) (s : Stp) (hb : StV b0 s) (c0 : Value) (xs : List ActR) (hc : AcsV w c0 xs) :
    Calls Try.prog 7 #[a0, b0, c0] w fun e w' => e = .returned (.bool true) ∧ Below w.heap.size w w' := by
  obtain ⟨⟨ao, c, rfl, hv⟩, hl⟩ := ha
  obtain ⟨rfl⟩ := hb
  obtain ⟨po, pc, rfl, hx⟩ := hc
  obtain ⟨vs, o, i⟩ := x
  simp only at hv hl ⊢
  have hA := fun w => alive_any w
  have hF := fun w' (hb : Below w.heap.size w w') => fitsl_any ao c vs o i w' (hv.later hb)
  have hR := fun w' (hb : Below w.heap.size w w') => read_any ao c vs o i s s (-1) 0 w' (hv.later hb) hl
  have key : (decide (vs.length ≤ 60) && rightCB ⟨vs, o, i⟩) = true → o = false → vs.length ≤ 60 ∧ rightC ⟨vs, false, i⟩ ∧ ∃ v b, readR vs o i s s (-1) 0 = (v, b, Met.zero, 0) ∧ seenV vs s = (v, b, Met.zero, 0) := fun k1 k2 => by
    rw [Bool.and_eq_true] at k1
    subst k2
    exact ⟨by simpa using k1.1, (rightCB_iff _).1 k1.2, stays_first ((rightCB_iff _).1 k1.2)⟩
  have Hkey := hide key
  generalize (decide (vs.length ≤ 60) && rightCB ⟨vs, o, i⟩) = z at *
  generalize readR vs o i s s (-1) 0 = R at *
  have hlx := hx.len
  simp only [maxLen] at hlx
  obtain ⟨n, hn⟩ : ∃ n, vs.length = n := ⟨_, rfl⟩
  obtain ⟨q, hq⟩ : ∃ q, xs.length = q := ⟨_, rfl⟩
  have Hn := hide (And.intro hn hq)
  have Hv := hide hv
  have Hx := hide hx
  simp only [hn, hq] at hF hR hlx ⊢
  have C := (Blk.new w #[.slice ao n c, .bool o, .int .i64 i.txn.id, .int .i64 i.txn.ep, .string i.txn.anchor, .int .i64 i.txn.start.1, .int .i64 i.txn.start.2, .int .i64 i.seq, .int .i64 i.at_.1, .int .i64 i.at_.2, .string i.val, .bool i.gone] 30).alloc (.cells #[.int .i64 s.1, .int .i64 s.2] 24)
  have A := Blk.new (w.alloc (.cells #[.slice ao n c, .bool o, .int .i64 i.txn.id, .int .i64 i.txn.ep, .string i.txn.anchor, .int .i64 i.txn.start.1, .int .i64 i.txn.start.2, .int .i64 i.seq, .int .i64 i.at_.1, .int .i64 i.at_.2, .string i.val, .bool i.gone] 30)) #[.int .i64 s.1, .int .i64 s.2] 24
  rw [show (w.alloc (.cells #[.slice ao n c, .bool o, .int .i64 i.txn.id, .int .i64 i.txn.ep, .string i.txn.anchor, .int .i64 i.txn.start.1, .int .i64 i.txn.start.2, .int .i64 i.seq, .int .i64 i.at_.1, .int .i64 i.at_.2, .string i.val, .bool i.gone] 30)).heap.size = w.heap.size + 1 by simp] at A
  have hB : Below w.heap.size w ((w.alloc (.cells #[.slice ao n c, .bool o, .int .i64 i.txn.id, .int .i64 i.txn.ep, .string i.txn.anchor, .int .i64 i.txn.start.1, .int .i64 i.txn.start.2, .int .i64 i.seq, .int .i64 i.at_.1, .int .i64 i.at_.2, .string i.val, .bool i.gone] 30)).alloc (.cells #[.int .i64 s.1, .int .i64 s.2] 24)) := ((Below.refl w.heap.size w).alloc (Nat.le_refl _) _).alloc (by simp) _
  clear hv key hn hq hx
  go_enter Try.func7, Try.ntmps7
  go_wp2_with fail
  generalize (w.alloc _).alloc _ = W at *
  refine (hF _ hB).mono ?_
  rintro e w1 ⟨rfl, hb1⟩
  replace C := C.later hb1
  replace A := A.later hb1
  replace hB := hB.trans (hb1.mono hB.size)
  clear hb1 hF
  have C_0 := C.c 0; have C_1 := C.c 1; have C_2 := C.c 2; have C_3 := C.c 3; have C_4 := C.c 4; have C_5 := C.c 5; have C_6 := C.c 6; have C_7 := C.c 7; have C_8 := C.c 8; have C_9 := C.c 9; have C_10 := C.c 10; have C_11 := C.c 11; simp only [List.getElem?_cons_zero, List.getElem?_cons_succ] at C_0 C_1 C_2 C_3 C_4 C_5 C_6 C_7 C_8 C_9 C_10 C_11
  have A_0 := A.c 0; have A_1 := A.c 1; simp only [List.getElem?_cons_zero, List.getElem?_cons_succ] at A_0 A_1
  go_wp2_with fail
  refine (hR _ hB).mono ?_
  rintro e w2 ⟨rfl, hb2⟩
  clear C_0 C_1 C_2 C_3 C_4 C_5 C_6 C_7 C_8 C_9 C_10 C_11 A_0 A_1
  replace C := C.later hb2
  replace A := A.later hb2
  have ltA := A.lt
  replace hB := hB.trans (hb2.mono hB.size)
  clear hb2 hR
  have hBw := hB
  clear hB
  obtain ⟨v, b, m, er⟩ := R
  have V := (Blk.new w2 #[.int .i64 v.at_.1, .int .i64 v.at_.2, .string v.val, .bool v.gone, .int .i64 v.by_] 37).alloc (.cells #[.int .i64 m.id, .int .i64 m.ep, .string m.anchor, .int .i64 m.start.1, .int .i64 m.start.2] 26)
  have M := Blk.new (w2.alloc (.cells #[.int .i64 v.at_.1, .int .i64 v.at_.2, .string v.val, .bool v.gone, .int .i64 v.by_] 37)) #[.int .i64 m.id, .int .i64 m.ep, .string m.anchor, .int .i64 m.start.1, .int .i64 m.start.2] 26
  rw [show (w2.alloc (.cells #[.int .i64 v.at_.1, .int .i64 v.at_.2, .string v.val, .bool v.gone, .int .i64 v.by_] 37)).heap.size = w2.heap.size + 1 by simp] at M
  have hB : Below w2.heap.size w2 ((w2.alloc (.cells #[.int .i64 v.at_.1, .int .i64 v.at_.2, .string v.val, .bool v.gone, .int .i64 v.by_] 37)).alloc (.cells #[.int .i64 m.id, .int .i64 m.ep, .string m.anchor, .int .i64 m.start.1, .int .i64 m.start.2] 26)) := ((Below.refl w2.heap.size w2).alloc (Nat.le_refl _) _).alloc (by simp) _
  replace C := C.later hB
  replace A := A.later hB
  replace hB := hBw.trans (hB.mono hBw.size)
  clear hBw M
  have Hlt := hide ltA
  clear ltA
  have C_0 := C.c 0; have C_1 := C.c 1; have C_2 := C.c 2; have C_3 := C.c 3; have C_4 := C.c 4; have C_5 := C.c 5; have C_6 := C.c 6; have C_7 := C.c 7; have C_8 := C.c 8; have C_9 := C.c 9; have C_10 := C.c 10; have C_11 := C.c 11; simp only [List.getElem?_cons_zero, List.getElem?_cons_succ] at C_0 C_1 C_2 C_3 C_4 C_5 C_6 C_7 C_8 C_9 C_10 C_11
  cases z
  case false =>
    clear Hkey
    go_wp2_with fail
    generalize (w2.alloc _).alloc _ = W2 at *
    refine (hA _).mono ?_
    rintro e wq ⟨rfl, hbq⟩
    have HB := hide (hB.trans (hbq.mono hB.size))
    clear hbq hB
    go_wp2
    go_ret
    exact ⟨rfl, unhide HB⟩
  by_cases he : er = 0
  case neg =>
    have he' : (er != 0) = true := by simpa using he
    clear Hkey he
    go_wp2_with fail
    generalize (w2.alloc _).alloc _ = W2 at *
    refine (hA _).mono ?_
    rintro e wq ⟨rfl, hbq⟩
    have HB := hide (hB.trans (hbq.mono hB.size))
    clear hbq hB
    go_wp2
    go_ret
    exact ⟨rfl, unhide HB⟩
  subst he
  cases o
  case true =>
    clear Hkey
    go_wp2_with fail
    generalize (w2.alloc _).alloc _ = W2 at *
    refine (hA _).mono ?_
    rintro e wq ⟨rfl, hbq⟩
    have HB := hide (hB.trans (hbq.mono hB.size))
    clear hbq hB
    go_wp2
    go_ret
    exact ⟨rfl, unhide HB⟩
  obtain ⟨hl60, hr, v', b', e1, hs⟩ := (unhide Hkey) rfl rfl
  simp only [Prod.mk.injEq] at e1
  obtain ⟨rfl, rfl, rfl, _⟩ := e1
  clear Hkey
  have Hst : Hid (Stay ((w2.alloc (.cells #[.int .i64 v.at_.1, .int .i64 v.at_.2, .string v.val, .bool v.gone, .int .i64 v.by_] 37)).alloc (.cells #[.int .i64 Met.zero.id, .int .i64 Met.zero.ep, .string Met.zero.anchor, .int .i64 Met.zero.start.1, .int .i64 Met.zero.start.2] 26)) w w2.heap.size s v b 0) :=
    hide ⟨vs, false, i, ao, n, c, C, A, V, (unhide Hv).later hB, (unhide Hv).off (Nat.le_refl _), (unhide Hn).1, by have := (unhide Hn).1; omega, hr, (fun h => by cases h), hs, hB, unhide Hlt⟩
  clear hl60 hr hs C A V hB
  go_wp2
  clear C_0 C_1 C_2 C_3 C_4 C_5 C_6 C_7 C_8 C_9 C_10 C_11
  generalize (w2.alloc _).alloc _ = W2 at *
  go_loopw [12] (fun u wr => ∃ k : Nat, u = .int .i64 k ∧ k ≤ q ∧ k ≤ 60 ∧ Hid (Stay wr w w2.heap.size s v b k)) (fun u _ => 60 - (intOf u).toNat)
  case atStart => exact ⟨0, rfl, by omega, by omega, unhide Hst⟩
  case round =>
    clear Hst
    obtain ⟨k, rfl, hk, hk60, Hs⟩ := hrel
    have hBr : Below w.heap.size w wr := by
      obtain ⟨_, _, _, _, _, _, _, _, _, _, _, _, _, _, _, _, h, _⟩ := unhide Hs
      exact h
    by_cases hlt : k < q
    case neg =>
      have hB := hBr
      clear hBr
      go_wp2_with fail
      refine (hA _).mono ?_
      rintro e wq ⟨rfl, hbq⟩
      have HB := hide (hB.trans (hbq.mono hB.size))
      clear hbq hB
      go_wp2
      go_ret
      exact ⟨rfl, unhide HB⟩
    by_cases h60 : k < 60
    case neg =>
      have hB := hBr
      clear hBr
      go_wp2_with fail
      refine (hA _).mono ?_
      rintro e wq ⟨rfl, hbq⟩
      have HB := hide (hB.trans (hbq.mono hB.size))
      clear hbq hB
      go_wp2
      go_ret
      exact ⟨rfl, unhide HB⟩
    have h1 : k < xs.length := by have := (unhide Hn).2; omega
    obtain ⟨xb, xo', rfl, y⟩ := (unhide Hx).each k h1
    obtain ⟨a, ha⟩ : ∃ a, xs[k] = a := ⟨_, rfl⟩
    rw [ha] at y
    replace y := y.block (hBr.block _ y.lt)
    have y_0 := y.c 0 (by omega); have y_1 := y.c 1 (by omega); have y_2 := y.c 2 (by omega); have y_3 := y.c 3 (by omega); have y_4 := y.c 4 (by omega); have y_5 := y.c 5 (by omega); have y_6 := y.c 6 (by omega); have y_7 := y.c 7 (by omega); have y_8 := y.c 8 (by omega); have y_9 := y.c 9 (by omega); have y_10 := y.c 10 (by omega); have y_11 := y.c 11 (by omega); have y_12 := y.c 12 (by omega); have y_13 := y.c 13 (by omega); have y_14 := y.c 14 (by omega); have y_15 := y.c 15 (by omega); simp only [Nat.add_zero, List.getElem?_cons_zero, List.getElem?_cons_succ] at y_0 y_1 y_2 y_3 y_4 y_5 y_6 y_7 y_8 y_9 y_10 y_11 y_12 y_13 y_14 y_15
    have E := Blk.new wr #[.int .i64 a.kind, .int .i64 a.id, .int .i64 a.ep, .int .i64 a.itn.txn.id, .int .i64 a.itn.txn.ep, .string a.itn.txn.anchor, .int .i64 a.itn.txn.start.1, .int .i64 a.itn.txn.start.2, .int .i64 a.itn.seq, .int .i64 a.itn.at_.1, .int .i64 a.itn.at_.2, .string a.itn.val, .bool a.itn.gone, .bool a.commit, .int .i64 a.at_.1, .int .i64 a.at_.2] 46
    have HbE := (Below.refl wr.heap.size wr).alloc (Nat.le_refl _) (.cells #[.int .i64 a.kind, .int .i64 a.id, .int .i64 a.ep, .int .i64 a.itn.txn.id, .int .i64 a.itn.txn.ep, .string a.itn.txn.anchor, .int .i64 a.itn.txn.start.1, .int .i64 a.itn.txn.start.2, .int .i64 a.itn.seq, .int .i64 a.itn.at_.1, .int .i64 a.itn.at_.2, .string a.itn.val, .bool a.itn.gone, .bool a.commit, .int .i64 a.at_.1, .int .i64 a.at_.2] 46)
    obtain ⟨_, _, _, _, _, _, _, A, _, _⟩ := unhide Hs
    replace A := A.later HbE
    have Hbr := hide HbE
    have hL1 := fun w => less_any s.1 s.2 a.itn.at_.1 a.itn.at_.2 w
    have hL2 := fun w => less_any s.1 s.2 a.at_.1 a.at_.2 w
    rw [less_eq] at hL1 hL2
    clear y h1 hBr HbE ha
    have A_0 := A.c 0; have A_1 := A.c 1; simp only [List.getElem?_cons_zero, List.getElem?_cons_succ] at A_0 A_1
    have E_0 := E.c 0; have E_1 := E.c 1; have E_2 := E.c 2; have E_3 := E.c 3; have E_4 := E.c 4; have E_5 := E.c 5; have E_6 := E.c 6; have E_7 := E.c 7; have E_8 := E.c 8; have E_9 := E.c 9; have E_10 := E.c 10; have E_11 := E.c 11; have E_12 := E.c 12; have E_13 := E.c 13; have E_14 := E.c 14; have E_15 := E.c 15; simp only [List.getElem?_cons_zero, List.getElem?_cons_succ] at E_0 E_1 E_2 E_3 E_4 E_5 E_6 E_7 E_8 E_9 E_10 E_11 E_12 E_13 E_14 E_15
    go_wp2_with fail
    clear y_0 y_1 y_2 y_3 y_4 y_5 y_6 y_7 y_8 y_9 y_10 y_11 y_12 y_13 y_14 y_15
    clear A_0 A_1 E_0 E_1 E_2 E_3 E_4 E_5 E_6 E_7 E_8 E_9 E_10 E_11 E_12 E_13 E_14 E_15
    generalize wr.alloc _ = W1 at *
    refine (hL1 _).mono ?_
    rintro e w3 ⟨rfl, hb3⟩
    replace A := A.later hb3
    replace E := E.later hb3
    replace Hbr := hide ((unhide Hbr).trans (hb3.mono (unhide Hbr).size))
    clear hb3 hL1
    cases z1 : ltB s a.itn.at_
    case false =>
      clear A E hL2
      go_wp2
      go_roundw
      case rel => exact ⟨k + 1, by go_num, by omega, by omega, (unhide Hs).later (unhide Hbr) (by omega)⟩
      case measure => simp [intOf]; omega
    have A_0 := A.c 0; have A_1 := A.c 1; simp only [List.getElem?_cons_zero, List.getElem?_cons_succ] at A_0 A_1
    have E_0 := E.c 0; have E_1 := E.c 1; have E_2 := E.c 2; have E_3 := E.c 3; have E_4 := E.c 4; have E_5 := E.c 5; have E_6 := E.c 6; have E_7 := E.c 7; have E_8 := E.c 8; have E_9 := E.c 9; have E_10 := E.c 10; have E_11 := E.c 11; have E_12 := E.c 12; have E_13 := E.c 13; have E_14 := E.c 14; have E_15 := E.c 15; simp only [List.getElem?_cons_zero, List.getElem?_cons_succ] at E_0 E_1 E_2 E_3 E_4 E_5 E_6 E_7 E_8 E_9 E_10 E_11 E_12 E_13 E_14 E_15
    go_wp2_with fail
    clear A_0 A_1 E_0 E_1 E_2 E_3 E_4 E_5 E_6 E_7 E_8 E_9 E_10 E_11 E_12 E_13 E_14 E_15
    refine (hL2 _).mono ?_
    rintro e w4 ⟨rfl, hb4⟩
    replace E := E.later hb4
    replace Hbr := hide ((unhide Hbr).trans (hb4.mono (unhide Hbr).size))
    clear hb4 hL2 A
    cases z2 : ltB s a.at_
    case false =>
      clear E
      go_wp2
      go_roundw
      case rel => exact ⟨k + 1, by go_num, by omega, by omega, (unhide Hs).later (unhide Hbr) (by omega)⟩
      case measure => simp [intOf]; omega
    have Hz := hide (And.intro z1 z2)
    clear z1 z2
    have E_0 := E.c 0; have E_1 := E.c 1; have E_2 := E.c 2; have E_3 := E.c 3; have E_4 := E.c 4; have E_5 := E.c 5; have E_6 := E.c 6; have E_7 := E.c 7; have E_8 := E.c 8; have E_9 := E.c 9; have E_10 := E.c 10; have E_11 := E.c 11; have E_12 := E.c 12; have E_13 := E.c 13; have E_14 := E.c 14; have E_15 := E.c 15; simp only [List.getElem?_cons_zero, List.getElem?_cons_succ] at E_0 E_1 E_2 E_3 E_4 E_5 E_6 E_7 E_8 E_9 E_10 E_11 E_12 E_13 E_14 E_15
    by_cases hid : a.itn.txn.id = -1
    case pos =>
      have hid' : (a.itn.txn.id == -1) = true := by simpa using hid
      clear E
      go_wp2
      go_roundw
      case rel => exact ⟨k + 1, by go_num, by omega, by omega, (unhide Hs).later (unhide Hbr) (by omega)⟩
      case measure => simp [intOf]; omega
    have hid' : (a.itn.txn.id == -1) = false := by simpa using hid
    obtain ⟨xv, xo, xi, bo, l, d, C, A, V, hv, hoff, hl, hlk, hr, hq, hs, hB, hvb⟩ := unhide Hs
    replace C := C.later (unhide Hbr)
    replace A := A.later (unhide Hbr)
    replace V := V.later (unhide Hbr)
    replace hv := hv.later (unhide Hbr)
    replace hB := hB.trans ((unhide Hbr).mono hB.size)
    have hyr := doesC_right a hr
    have hyq := doesC_quiet hq (unhide Hz).1 (unhide Hz).2 hid
    have hyl := doesC_len ⟨xv, xo, xi⟩ a
    have h := does_any bo d xv xo xi a w4 hv (by omega)
    obtain ⟨⟨yv, yo, yi⟩, hy⟩ : ∃ y, doesC a ⟨xv, xo, xi⟩ = y := ⟨_, rfl⟩
    rw [hy] at h hyr hyq hyl
    simp only at h hyr hyq hyl
    rw [hs] at hyq
    obtain ⟨m, hm⟩ : ∃ m, yv.length = m := ⟨_, rfl⟩
    simp only [hl, hm] at h hyl
    have Hy := hide (And.intro hyr (And.intro hyq (And.intro hm hyl)))
    have Hvb := hide hvb
    have ltC := C.lt
    clear hy hr hq hs hyr hyq hyl hm hvb Hz hid hv Hs Hbr
    have C_0 := C.c 0; have C_1 := C.c 1; have C_2 := C.c 2; have C_3 := C.c 3; have C_4 := C.c 4; have C_5 := C.c 5; have C_6 := C.c 6; have C_7 := C.c 7; have C_8 := C.c 8; have C_9 := C.c 9; have C_10 := C.c 10; have C_11 := C.c 11; simp only [List.getElem?_cons_zero, List.getElem?_cons_succ] at C_0 C_1 C_2 C_3 C_4 C_5 C_6 C_7 C_8 C_9 C_10 C_11
    go_wp2_with fail
    refine h.mono ?_
    rintro e w5 ⟨eo, f, rfl, hvy, hof, hb5⟩
    clear C_0 C_1 C_2 C_3 C_4 C_5 C_6 C_7 C_8 C_9 C_10 C_11 E_0 E_1 E_2 E_3 E_4 E_5 E_6 E_7 E_8 E_9 E_10 E_11 E_12 E_13 E_14 E_15
    replace C := C.later hb5
    replace A := A.later hb5
    replace V := V.later hb5
    replace hB := hB.trans (hb5.mono hB.size)
    clear hb5 h E
    have hoff2 := hoff.does ltC hof
    have C_0 := C.c 0; have C_1 := C.c 1; have C_2 := C.c 2; have C_3 := C.c 3; have C_4 := C.c 4; have C_5 := C.c 5; have C_6 := C.c 6; have C_7 := C.c 7; have C_8 := C.c 8; have C_9 := C.c 9; have C_10 := C.c 10; have C_11 := C.c 11; simp only [List.getElem?_cons_zero, List.getElem?_cons_succ] at C_0 C_1 C_2 C_3 C_4 C_5 C_6 C_7 C_8 C_9 C_10 C_11
    have Cf := C.f
    have C4 := C.all [.slice eo m f, .bool yo, .int .i64 yi.txn.id, .int .i64 yi.txn.ep, .string yi.txn.anchor, .int .i64 yi.txn.start.1, .int .i64 yi.txn.start.2, .int .i64 yi.seq, .int .i64 yi.at_.1, .int .i64 yi.at_.2, .string yi.val, .bool yi.gone] rfl
    have A4 := Blk.others (C := w.heap.size) (by omega) [.slice eo m f, .bool yo, .int .i64 yi.txn.id, .int .i64 yi.txn.ep, .string yi.txn.anchor, .int .i64 yi.txn.start.1, .int .i64 yi.txn.start.2, .int .i64 yi.seq, .int .i64 yi.at_.1, .int .i64 yi.at_.2, .string yi.val, .bool yi.gone] 0 A
    have V4 := Blk.others (C := w.heap.size) (by have := unhide Hvb; omega) [.slice eo m f, .bool yo, .int .i64 yi.txn.id, .int .i64 yi.txn.ep, .string yi.txn.anchor, .int .i64 yi.txn.start.1, .int .i64 yi.txn.start.2, .int .i64 yi.seq, .int .i64 yi.at_.1, .int .i64 yi.at_.2, .string yi.val, .bool yi.gone] 0 V
    have hv4 := hvy.others hoff2 [.slice eo m f, .bool yo, .int .i64 yi.txn.id, .int .i64 yi.txn.ep, .string yi.txn.anchor, .int .i64 yi.txn.start.1, .int .i64 yi.txn.start.2, .int .i64 yi.seq, .int .i64 yi.at_.1, .int .i64 yi.at_.2, .string yi.val, .bool yi.gone] 0
    have hB4 := below_setAll (C := w.heap.size) (Nat.le_refl _) [.slice eo m f, .bool yo, .int .i64 yi.txn.id, .int .i64 yi.txn.ep, .string yi.txn.anchor, .int .i64 yi.txn.start.1, .int .i64 yi.txn.start.2, .int .i64 yi.seq, .int .i64 yi.at_.1, .int .i64 yi.at_.2, .string yi.val, .bool yi.gone] 0 hB
    have Hw := hide (And.intro C4 (And.intro A4 (And.intro V4 (And.intro hv4 hB4))))
    have Hoff := hide hoff2
    clear C4 A4 V4 hv4 hB4 A V hvy hB hof hoff hoff2
    go_upto_region 11 with fail
    clear C_0 C_1 C_2 C_3 C_4 C_5 C_6 C_7 C_8 C_9 C_10 C_11
    clear Cf C
    generalize hWd : setAll w5 w.heap.size 0 [.slice eo m f, .bool yo, .int .i64 yi.txn.id, .int .i64 yi.txn.ep, .string yi.txn.anchor, .int .i64 yi.txn.start.1, .int .i64 yi.txn.start.2, .int .i64 yi.seq, .int .i64 yi.at_.1, .int .i64 yi.at_.2, .string yi.val, .bool yi.gone] = Wd at Hw
    simp only [setAll, Nat.zero_add, Nat.reduceAdd] at hWd
    rw [hWd]
    clear hWd
    obtain ⟨C, A, V, hvy, hB⟩ := unhide Hw
    clear Hw
    have C_0 := C.c 0; have C_1 := C.c 1; have C_2 := C.c 2; have C_3 := C.c 3; have C_4 := C.c 4; have C_5 := C.c 5; have C_6 := C.c 6; have C_7 := C.c 7; have C_8 := C.c 8; have C_9 := C.c 9; have C_10 := C.c 10; have C_11 := C.c 11; simp only [List.getElem?_cons_zero, List.getElem?_cons_succ] at C_0 C_1 C_2 C_3 C_4 C_5 C_6 C_7 C_8 C_9 C_10 C_11
    have A_0 := A.c 0; have A_1 := A.c 1; simp only [List.getElem?_cons_zero, List.getElem?_cons_succ] at A_0 A_1
    go_wp2_with fail
    have h := read_any eo f yv yo yi s s (-1) 0 Wd hvy (by have := (unhide Hy).2.2.1; have := (unhide Hy).2.2.2; omega)
    rw [readR_right (unhide Hy).1.1, quiet_read (unhide Hy).2.1.1] at h
    simp only at h
    rw [(unhide Hy).2.1.2] at h
    simp only [(unhide Hy).2.2.1] at h
    refine h.mono ?_
    rintro e w6 ⟨rfl, hb6⟩
    clear C_0 C_1 C_2 C_3 C_4 C_5 C_6 C_7 C_8 C_9 C_10 C_11 A_0 A_1
    replace C := C.later hb6
    replace A := A.later hb6
    replace V := V.later hb6
    replace hvy := hvy.later hb6
    have hBw := hB.trans (hb6.mono hB.size)
    clear hb6 h hB
    have U := (Blk.new w6 #[.int .i64 v.at_.1, .int .i64 v.at_.2, .string v.val, .bool v.gone, .int .i64 v.by_] 37).alloc (.cells #[.int .i64 Met.zero.id, .int .i64 Met.zero.ep, .string Met.zero.anchor, .int .i64 Met.zero.start.1, .int .i64 Met.zero.start.2] 26)
    have M := Blk.new (w6.alloc (.cells #[.int .i64 v.at_.1, .int .i64 v.at_.2, .string v.val, .bool v.gone, .int .i64 v.by_] 37)) #[.int .i64 Met.zero.id, .int .i64 Met.zero.ep, .string Met.zero.anchor, .int .i64 Met.zero.start.1, .int .i64 Met.zero.start.2] 26
    rw [show (w6.alloc (.cells #[.int .i64 v.at_.1, .int .i64 v.at_.2, .string v.val, .bool v.gone, .int .i64 v.by_] 37)).heap.size = w6.heap.size + 1 by simp] at M
    have hB : Below w6.heap.size w6 ((w6.alloc (.cells #[.int .i64 v.at_.1, .int .i64 v.at_.2, .string v.val, .bool v.gone, .int .i64 v.by_] 37)).alloc (.cells #[.int .i64 Met.zero.id, .int .i64 Met.zero.ep, .string Met.zero.anchor, .int .i64 Met.zero.start.1, .int .i64 Met.zero.start.2] 26)) := ((Below.refl w6.heap.size w6).alloc (Nat.le_refl _) _).alloc (by simp) _
    replace C := C.later hB
    replace A := A.later hB
    replace V := V.later hB
    replace hvy := hvy.later hB
    replace hB := hBw.trans (hB.mono hBw.size)
    clear hBw M
    go_upto_region 12 with fail
    generalize (w6.alloc _).alloc _ = W6 at *
    have U_0 := U.c 0; have U_1 := U.c 1; have U_2 := U.c 2; have U_3 := U.c 3; have U_4 := U.c 4; simp only [List.getElem?_cons_zero, List.getElem?_cons_succ] at U_0 U_1 U_2 U_3 U_4
    have V_0 := V.c 0; have V_1 := V.c 1; have V_2 := V.c 2; have V_3 := V.c 3; have V_4 := V.c 4; simp only [List.getElem?_cons_zero, List.getElem?_cons_succ] at V_0 V_1 V_2 V_3 V_4
    have qv := fun w => neqV v v w
    rw [sameV_self] at qv
    have qb : (b != b) = false := by simp
    have Hend : Hid (Stay W6 w w2.heap.size s v b (k + 1)) := hide ⟨yv, yo, yi, eo, m, f, C, A, V, hvy, unhide Hoff, (unhide Hy).2.2.1, (by have := (unhide Hy).2.2.2; omega), (unhide Hy).1, (unhide Hy).2.1.1, (unhide Hy).2.1.2, hB, unhide Hvb⟩
    clear C A V hvy hB U
    go_wp2
    go_roundw
    case rel => exact ⟨k + 1, by go_num, by omega, by omega, unhide Hend⟩
    case measure => simp [intOf]; omega
end

end Go.Proofs.Ytcahmnpoajnmpaa
