/-
  VersionSees returns true. No statement is proved here: the lifted text has it.
-/
import Derived.Test.YtcahmnpoajnmpaaVt7
import Derived.Test.YtcahmnpoajnmpaaViewI
import Derived.Test.YtcahmnpoajnmpaaVSees
import Derived.Deep.Cut
namespace Go.Proofs.Ytcahmnpoajnmpaa
open Go.RowKit
set_option linter.unusedVariables false

theorem and3 (x : Int) : ∃ m : Nat, m ≤ 3 ∧ bits .and .i64 x 3 = (m : Int) := by
  refine ⟨(BitVec.ofInt 64 x &&& BitVec.ofInt 64 3).toNat, ?_, ?_⟩
  · rw [BitVec.toNat_and]
    exact Nat.and_le_right
  · have h3 : (BitVec.ofInt 64 x &&& BitVec.ofInt 64 3).toNat ≤ 3 := by
      rw [BitVec.toNat_and]
      exact Nat.and_le_right
    have hw : ∀ q : Nat, q ≤ 3 → IntKind.i64.wrap (q : Int) = (q : Int) := fun q hq => by
      have : q = 0 ∨ q = 1 ∨ q = 2 ∨ q = 3 := by omega
      rcases this with rfl | rfl | rfl | rfl <;> rfl
    exact hw _ h3

section
set_option maxRecDepth 100000
set_option maxHeartbeats 20000000

theorem walkVersionSees {w : World} (a0 : Value) (x : Chn) (ha : ChV w a0 x) (b0 : Value) (j : Itn) (hb : ItV b0 j) (more : Int) (wmo : (Lit.int .i64 more).wf = true) :
    Calls Try.prog 8 #[a0, b0, .int .i64 more] w fun e w' => e = .returned (.bool true) ∧ Below w.heap.size w w' := by
  obtain ⟨⟨ao, c, rfl, hv⟩, hl⟩ := ha
  obtain ⟨rfl⟩ := hb
  obtain ⟨vs, o, i⟩ := x
  simp only at hv hl ⊢
  have hA := fun w => alive_any w
  have hF := fun w' (hb : Below w.heap.size w w') => fitsl_any ao c vs o i w' (hv.later hb)
  have hW := fun w' (hb : Below w.heap.size w w') => write_any ao c vs o i j w' (hv.later hb) hl
  obtain ⟨⟨⟨yv, yo, yi⟩, a, m, er⟩, hX⟩ : ∃ X, writeC ⟨vs, o, i⟩ j = X := ⟨_, rfl⟩
  rw [hX] at hW
  simp only at hW
  have key : (decide (vs.length ≤ 60) && rightCB ⟨vs, o, i⟩) = true → er = 0 → o = false → j.gone = false → ¬ j.txn.id < 0 → vs.length ≤ 60 ∧ _ := fun k1 k2 k3 k4 k5 => by
    rw [Bool.and_eq_true] at k1
    subst k2
    exact ⟨by simpa using k1.1, sees_facts ((rightCB_iff _).1 k1.2) hX k3 k4 k5⟩
  have Hkey := hide key
  generalize (decide (vs.length ≤ 60) && rightCB ⟨vs, o, i⟩) = z at *
  obtain ⟨n, hn⟩ : ∃ n, vs.length = n := ⟨_, rfl⟩
  obtain ⟨l, hyl⟩ : ∃ l, yv.length = l := ⟨_, rfl⟩
  have Hn := hide (And.intro hn hyl)
  simp only [hn, hyl] at hF hW ⊢
  have C := (Blk.new w #[.slice ao n c, .bool o, .int .i64 i.txn.id, .int .i64 i.txn.ep, .string i.txn.anchor, .int .i64 i.txn.start.1, .int .i64 i.txn.start.2, .int .i64 i.seq, .int .i64 i.at_.1, .int .i64 i.at_.2, .string i.val, .bool i.gone] 30).alloc (.cells #[.int .i64 j.txn.id, .int .i64 j.txn.ep, .string j.txn.anchor, .int .i64 j.txn.start.1, .int .i64 j.txn.start.2, .int .i64 j.seq, .int .i64 j.at_.1, .int .i64 j.at_.2, .string j.val, .bool j.gone] 28)
  have J := Blk.new (w.alloc (.cells #[.slice ao n c, .bool o, .int .i64 i.txn.id, .int .i64 i.txn.ep, .string i.txn.anchor, .int .i64 i.txn.start.1, .int .i64 i.txn.start.2, .int .i64 i.seq, .int .i64 i.at_.1, .int .i64 i.at_.2, .string i.val, .bool i.gone] 30)) #[.int .i64 j.txn.id, .int .i64 j.txn.ep, .string j.txn.anchor, .int .i64 j.txn.start.1, .int .i64 j.txn.start.2, .int .i64 j.seq, .int .i64 j.at_.1, .int .i64 j.at_.2, .string j.val, .bool j.gone] 28
  rw [show (w.alloc (.cells #[.slice ao n c, .bool o, .int .i64 i.txn.id, .int .i64 i.txn.ep, .string i.txn.anchor, .int .i64 i.txn.start.1, .int .i64 i.txn.start.2, .int .i64 i.seq, .int .i64 i.at_.1, .int .i64 i.at_.2, .string i.val, .bool i.gone] 30)).heap.size = w.heap.size + 1 by simp] at J
  have hB : Below w.heap.size w ((w.alloc (.cells #[.slice ao n c, .bool o, .int .i64 i.txn.id, .int .i64 i.txn.ep, .string i.txn.anchor, .int .i64 i.txn.start.1, .int .i64 i.txn.start.2, .int .i64 i.seq, .int .i64 i.at_.1, .int .i64 i.at_.2, .string i.val, .bool i.gone] 30)).alloc (.cells #[.int .i64 j.txn.id, .int .i64 j.txn.ep, .string j.txn.anchor, .int .i64 j.txn.start.1, .int .i64 j.txn.start.2, .int .i64 j.seq, .int .i64 j.at_.1, .int .i64 j.at_.2, .string j.val, .bool j.gone] 28)) := ((Below.refl w.heap.size w).alloc (Nat.le_refl _) _).alloc (by simp) _
  have Hv := hide hv
  clear hv key hX hn hyl
  go_enter Try.func8, Try.ntmps8
  go_wp2_with fail
  generalize (w.alloc _).alloc _ = W at *
  refine (hF _ hB).mono ?_
  rintro e w1 ⟨rfl, hb1⟩
  replace C := C.later hb1
  replace J := J.later hb1
  replace hB := hB.trans (hb1.mono hB.size)
  clear hb1 hF
  have C_0 := C.c 0; have C_1 := C.c 1; have C_2 := C.c 2; have C_3 := C.c 3; have C_4 := C.c 4; have C_5 := C.c 5; have C_6 := C.c 6; have C_7 := C.c 7; have C_8 := C.c 8; have C_9 := C.c 9; have C_10 := C.c 10; have C_11 := C.c 11; simp only [List.getElem?_cons_zero, List.getElem?_cons_succ] at C_0 C_1 C_2 C_3 C_4 C_5 C_6 C_7 C_8 C_9 C_10 C_11
  have J_0 := J.c 0; have J_1 := J.c 1; have J_2 := J.c 2; have J_3 := J.c 3; have J_4 := J.c 4; have J_5 := J.c 5; have J_6 := J.c 6; have J_7 := J.c 7; have J_8 := J.c 8; have J_9 := J.c 9; simp only [List.getElem?_cons_zero, List.getElem?_cons_succ] at J_0 J_1 J_2 J_3 J_4 J_5 J_6 J_7 J_8 J_9
  go_wp2_with fail
  refine (hW _ hB).mono ?_
  rintro e w2 ⟨bo, d, rfl, ho2, hb2⟩
  clear C_0 C_1 C_2 C_3 C_4 C_5 C_6 C_7 C_8 C_9 C_10 C_11 J_0 J_1 J_2 J_3 J_4 J_5 J_6 J_7 J_8 J_9
  replace C := C.later hb2
  replace J := J.later hb2
  replace hB := hB.trans (hb2.mono hB.size)
  clear hb2 hW
  have hBw := hB
  clear hB
  have Y := ((Blk.new w2 #[.slice bo l d, .bool yo, .int .i64 yi.txn.id, .int .i64 yi.txn.ep, .string yi.txn.anchor, .int .i64 yi.txn.start.1, .int .i64 yi.txn.start.2, .int .i64 yi.seq, .int .i64 yi.at_.1, .int .i64 yi.at_.2, .string yi.val, .bool yi.gone] 30).alloc (.cells #[.int .i64 a.1, .int .i64 a.2] 24)).alloc (.cells #[.int .i64 m.id, .int .i64 m.ep, .string m.anchor, .int .i64 m.start.1, .int .i64 m.start.2] 26)
  have A := (Blk.new (w2.alloc (.cells #[.slice bo l d, .bool yo, .int .i64 yi.txn.id, .int .i64 yi.txn.ep, .string yi.txn.anchor, .int .i64 yi.txn.start.1, .int .i64 yi.txn.start.2, .int .i64 yi.seq, .int .i64 yi.at_.1, .int .i64 yi.at_.2, .string yi.val, .bool yi.gone] 30)) #[.int .i64 a.1, .int .i64 a.2] 24).alloc (.cells #[.int .i64 m.id, .int .i64 m.ep, .string m.anchor, .int .i64 m.start.1, .int .i64 m.start.2] 26)
  rw [show (w2.alloc (.cells #[.slice bo l d, .bool yo, .int .i64 yi.txn.id, .int .i64 yi.txn.ep, .string yi.txn.anchor, .int .i64 yi.txn.start.1, .int .i64 yi.txn.start.2, .int .i64 yi.seq, .int .i64 yi.at_.1, .int .i64 yi.at_.2, .string yi.val, .bool yi.gone] 30)).heap.size = w2.heap.size + 1 by simp] at A
  have M := Blk.new ((w2.alloc (.cells #[.slice bo l d, .bool yo, .int .i64 yi.txn.id, .int .i64 yi.txn.ep, .string yi.txn.anchor, .int .i64 yi.txn.start.1, .int .i64 yi.txn.start.2, .int .i64 yi.seq, .int .i64 yi.at_.1, .int .i64 yi.at_.2, .string yi.val, .bool yi.gone] 30)).alloc (.cells #[.int .i64 a.1, .int .i64 a.2] 24)) #[.int .i64 m.id, .int .i64 m.ep, .string m.anchor, .int .i64 m.start.1, .int .i64 m.start.2] 26
  rw [show ((w2.alloc (.cells #[.slice bo l d, .bool yo, .int .i64 yi.txn.id, .int .i64 yi.txn.ep, .string yi.txn.anchor, .int .i64 yi.txn.start.1, .int .i64 yi.txn.start.2, .int .i64 yi.seq, .int .i64 yi.at_.1, .int .i64 yi.at_.2, .string yi.val, .bool yi.gone] 30)).alloc (.cells #[.int .i64 a.1, .int .i64 a.2] 24)).heap.size = w2.heap.size + 1 + 1 by simp] at M
  have hB : Below w2.heap.size w2 (((w2.alloc (.cells #[.slice bo l d, .bool yo, .int .i64 yi.txn.id, .int .i64 yi.txn.ep, .string yi.txn.anchor, .int .i64 yi.txn.start.1, .int .i64 yi.txn.start.2, .int .i64 yi.seq, .int .i64 yi.at_.1, .int .i64 yi.at_.2, .string yi.val, .bool yi.gone] 30)).alloc (.cells #[.int .i64 a.1, .int .i64 a.2] 24)).alloc (.cells #[.int .i64 m.id, .int .i64 m.ep, .string m.anchor, .int .i64 m.start.1, .int .i64 m.start.2] 26)) := (((Below.refl w2.heap.size w2).alloc (Nat.le_refl _) _).alloc (by simp) _).alloc (by simp; omega) _
  replace C := C.later hB
  replace J := J.later hB
  have hvy := ho2.vs.later hB
  replace hB := hBw.trans (hB.mono hBw.size)
  clear hBw M ho2
  have hA2 := hide hA
  clear hA
  have hA := unhide hA2
  cases z
  case false =>
    clear Hkey
    go_wp2_with fail
    generalize ((w2.alloc _).alloc _).alloc _ = W2 at *
    refine (hA _).mono ?_
    rintro e wq ⟨rfl, hbq⟩
    have HB := hide (hB.trans (hbq.mono hB.size))
    clear hbq hB
    go_wp2
    go_ret
    exact ⟨rfl, unhide HB⟩
  by_cases he : er = 0
  case neg =>
    have he' : (er != 0) = true := by simpa using he
    clear Hkey he
    go_wp2_with fail
    generalize ((w2.alloc _).alloc _).alloc _ = W2 at *
    refine (hA _).mono ?_
    rintro e wq ⟨rfl, hbq⟩
    have HB := hide (hB.trans (hbq.mono hB.size))
    clear hbq hB
    go_wp2
    go_ret
    exact ⟨rfl, unhide HB⟩
  subst he
  have C_0 := C.c 0; have C_1 := C.c 1; have C_2 := C.c 2; have C_3 := C.c 3; have C_4 := C.c 4; have C_5 := C.c 5; have C_6 := C.c 6; have C_7 := C.c 7; have C_8 := C.c 8; have C_9 := C.c 9; have C_10 := C.c 10; have C_11 := C.c 11; simp only [List.getElem?_cons_zero, List.getElem?_cons_succ] at C_0 C_1 C_2 C_3 C_4 C_5 C_6 C_7 C_8 C_9 C_10 C_11
  have J_0 := J.c 0; have J_1 := J.c 1; have J_2 := J.c 2; have J_3 := J.c 3; have J_4 := J.c 4; have J_5 := J.c 5; have J_6 := J.c 6; have J_7 := J.c 7; have J_8 := J.c 8; have J_9 := J.c 9; simp only [List.getElem?_cons_zero, List.getElem?_cons_succ] at J_0 J_1 J_2 J_3 J_4 J_5 J_6 J_7 J_8 J_9
  by_cases hg : j.gone = true
  case pos =>
    clear Hkey
    rw [hg] at J_9
    go_wp2_with fail
    generalize ((w2.alloc _).alloc _).alloc _ = W2 at *
    refine (hA _).mono ?_
    rintro e wq ⟨rfl, hbq⟩
    have HB := hide (hB.trans (hbq.mono hB.size))
    clear hbq hB
    go_wp2
    go_ret
    exact ⟨rfl, unhide HB⟩
  replace hg : j.gone = false := by simpa using hg
  have J_9' := J_9
  rw [hg] at J_9'
  cases o
  case true =>
    clear Hkey
    go_wp2_with fail
    generalize ((w2.alloc _).alloc _).alloc _ = W2 at *
    refine (hA _).mono ?_
    rintro e wq ⟨rfl, hbq⟩
    have HB := hide (hB.trans (hbq.mono hB.size))
    clear hbq hB
    go_wp2
    go_ret
    exact ⟨rfl, unhide HB⟩
  by_cases hid : j.txn.id < 0
  case pos =>
    clear Hkey
    go_wp2_with fail
    generalize ((w2.alloc _).alloc _).alloc _ = W2 at *
    refine (hA _).mono ?_
    rintro e wq ⟨rfl, hbq⟩
    have HB := hide (hB.trans (hbq.mono hB.size))
    clear hbq hB
    go_wp2
    go_ret
    exact ⟨rfl, unhide HB⟩
  obtain ⟨hl60, hyv, hyo, hi0, hrise, hfit, ⟨v, hr1, hvv⟩, hr2, hq, hres⟩ := (unhide Hkey) (by simp) (by simp) rfl hg (by omega)
  subst hyv hyo hi0
  clear Hkey
  obtain ⟨hn1, hl2⟩ := unhide Hn
  obtain rfl : l = n := by omega
  have hlim : l ≤ 2932031007400 := by omega
  have Hl := hide hl2
  have Hq := hide hq
  have Hrise := hide hrise
  have Hres := hide hres
  have Hr1 := hide hr1
  have Hr2 := hide hr2
  have Hfit := hide hfit
  have Hvv := hide hvv
  have Hl60 := hide hl60
  clear hn1 hl2 hq hrise hres hr1 hr2 hfit hvv hl60 Hn
  have Y_0 := Y.c 0; have Y_1 := Y.c 1; have Y_2 := Y.c 2; have Y_3 := Y.c 3; have Y_4 := Y.c 4; have Y_5 := Y.c 5; have Y_6 := Y.c 6; have Y_7 := Y.c 7; have Y_8 := Y.c 8; have Y_9 := Y.c 9; have Y_10 := Y.c 10; have Y_11 := Y.c 11; simp only [List.getElem?_cons_zero, List.getElem?_cons_succ] at Y_0 Y_1 Y_2 Y_3 Y_4 Y_5 Y_6 Y_7 Y_8 Y_9 Y_10 Y_11
  go_wp2_with fail
  generalize ((w2.alloc _).alloc _).alloc _ = W2 at *
  have h := read_any bo d _ true yi (0, 0) (0, 0) j.txn.id j.txn.ep W2 hvy (by rw [unhide Hl]; exact hlim)
  rw [readR_right (unhide Hrise), unhide Hr1] at h
  simp only [unhide Hl] at h
  refine h.mono ?_
  rintro e w3 ⟨rfl, hb3⟩
  clear C_0 C_1 C_2 C_3 C_4 C_5 C_6 C_7 C_8 C_9 C_10 C_11 J_0 J_1 J_2 J_3 J_4 J_5 J_6 J_7 J_8 J_9 Y_0 Y_1 Y_2 Y_3 Y_4 Y_5 Y_6 Y_7 Y_8 Y_9 Y_10 Y_11
  clear J_9' h
  replace C := C.later hb3
  replace J := J.later hb3
  replace Y := Y.later hb3
  replace A := A.later hb3
  replace hvy := hvy.later hb3
  replace hB := hB.trans (hb3.mono hB.size)
  clear hb3
  have hBw := hB
  clear hB
  have V := (Blk.new w3 #[.int .i64 v.at_.1, .int .i64 v.at_.2, .string v.val, .bool v.gone, .int .i64 v.by_] 37).alloc (.cells #[.int .i64 Met.zero.id, .int .i64 Met.zero.ep, .string Met.zero.anchor, .int .i64 Met.zero.start.1, .int .i64 Met.zero.start.2] 26)
  have M := Blk.new (w3.alloc (.cells #[.int .i64 v.at_.1, .int .i64 v.at_.2, .string v.val, .bool v.gone, .int .i64 v.by_] 37)) #[.int .i64 Met.zero.id, .int .i64 Met.zero.ep, .string Met.zero.anchor, .int .i64 Met.zero.start.1, .int .i64 Met.zero.start.2] 26
  rw [show (w3.alloc (.cells #[.int .i64 v.at_.1, .int .i64 v.at_.2, .string v.val, .bool v.gone, .int .i64 v.by_] 37)).heap.size = w3.heap.size + 1 by simp] at M
  have hB : Below w3.heap.size w3 ((w3.alloc (.cells #[.int .i64 v.at_.1, .int .i64 v.at_.2, .string v.val, .bool v.gone, .int .i64 v.by_] 37)).alloc (.cells #[.int .i64 Met.zero.id, .int .i64 Met.zero.ep, .string Met.zero.anchor, .int .i64 Met.zero.start.1, .int .i64 Met.zero.start.2] 26)) := ((Below.refl w3.heap.size w3).alloc (Nat.le_refl _) _).alloc (by simp) _
  replace C := C.later hB
  replace J := J.later hB
  replace Y := Y.later hB
  replace A := A.later hB
  replace hvy := hvy.later hB
  replace hB := hBw.trans (hB.mono hBw.size)
  clear hBw
  clear M
  have Y_0 := Y.c 0; have Y_1 := Y.c 1; have Y_2 := Y.c 2; have Y_3 := Y.c 3; have Y_4 := Y.c 4; have Y_5 := Y.c 5; have Y_6 := Y.c 6; have Y_7 := Y.c 7; have Y_8 := Y.c 8; have Y_9 := Y.c 9; have Y_10 := Y.c 10; have Y_11 := Y.c 11; simp only [List.getElem?_cons_zero, List.getElem?_cons_succ] at Y_0 Y_1 Y_2 Y_3 Y_4 Y_5 Y_6 Y_7 Y_8 Y_9 Y_10 Y_11
  have A_0 := A.c 0; have A_1 := A.c 1; simp only [List.getElem?_cons_zero, List.getElem?_cons_succ] at A_0 A_1
  go_wp2_with fail
  generalize (w3.alloc _).alloc _ = W3 at *
  have h := read_any bo d _ true yi a a (-1) 0 W3 hvy (by rw [unhide Hl]; exact hlim)
  rw [readR_right (unhide Hrise), unhide Hr2] at h
  simp only [unhide Hl] at h
  refine h.mono ?_
  rintro e w4 ⟨rfl, hb4⟩
  clear Y_0 Y_1 Y_2 Y_3 Y_4 Y_5 Y_6 Y_7 Y_8 Y_9 Y_10 Y_11 A_0 A_1
  clear h
  replace V := V.later hb4
  replace C := C.later hb4
  replace J := J.later hb4
  replace Y := Y.later hb4
  replace A := A.later hb4
  replace hvy := hvy.later hb4
  replace hB := hB.trans (hb4.mono hB.size)
  clear hb4
  have hBw := hB
  clear hB
  have V2 := (Blk.new w4 #[.int .i64 Ver.zero.at_.1, .int .i64 Ver.zero.at_.2, .string Ver.zero.val, .bool Ver.zero.gone, .int .i64 Ver.zero.by_] 37).alloc (.cells #[.int .i64 j.txn.id, .int .i64 j.txn.ep, .string j.txn.anchor, .int .i64 j.txn.start.1, .int .i64 j.txn.start.2] 26)
  have M2 := Blk.new (w4.alloc (.cells #[.int .i64 Ver.zero.at_.1, .int .i64 Ver.zero.at_.2, .string Ver.zero.val, .bool Ver.zero.gone, .int .i64 Ver.zero.by_] 37)) #[.int .i64 j.txn.id, .int .i64 j.txn.ep, .string j.txn.anchor, .int .i64 j.txn.start.1, .int .i64 j.txn.start.2] 26
  rw [show (w4.alloc (.cells #[.int .i64 Ver.zero.at_.1, .int .i64 Ver.zero.at_.2, .string Ver.zero.val, .bool Ver.zero.gone, .int .i64 Ver.zero.by_] 37)).heap.size = w4.heap.size + 1 by simp] at M2
  have hB : Below w4.heap.size w4 ((w4.alloc (.cells #[.int .i64 Ver.zero.at_.1, .int .i64 Ver.zero.at_.2, .string Ver.zero.val, .bool Ver.zero.gone, .int .i64 Ver.zero.by_] 37)).alloc (.cells #[.int .i64 j.txn.id, .int .i64 j.txn.ep, .string j.txn.anchor, .int .i64 j.txn.start.1, .int .i64 j.txn.start.2] 26)) := ((Below.refl w4.heap.size w4).alloc (Nat.le_refl _) _).alloc (by simp) _
  replace V := V.later hB
  replace C := C.later hB
  replace J := J.later hB
  replace Y := Y.later hB
  replace A := A.later hB
  replace hvy := hvy.later hB
  replace hB := hBw.trans (hB.mono hBw.size)
  clear hBw
  clear V2
  have J_0 := J.c 0; have J_1 := J.c 1; have J_2 := J.c 2; have J_3 := J.c 3; have J_4 := J.c 4; have J_5 := J.c 5; have J_6 := J.c 6; have J_7 := J.c 7; have J_8 := J.c 8; have J_9 := J.c 9; simp only [List.getElem?_cons_zero, List.getElem?_cons_succ] at J_0 J_1 J_2 J_3 J_4 J_5 J_6 J_7 J_8 J_9
  have V_0 := V.c 0; have V_1 := V.c 1; have V_2 := V.c 2; have V_3 := V.c 3; have V_4 := V.c 4; simp only [List.getElem?_cons_zero, List.getElem?_cons_succ] at V_0 V_1 V_2 V_3 V_4
  have M2_0 := M2.c 0; have M2_1 := M2.c 1; have M2_2 := M2.c 2; have M2_3 := M2.c 3; have M2_4 := M2.c 4; simp only [List.getElem?_cons_zero, List.getElem?_cons_succ] at M2_0 M2_1 M2_2 M2_3 M2_4
  have Y_0 := Y.c 0; have Y_1 := Y.c 1; have Y_2 := Y.c 2; have Y_3 := Y.c 3; have Y_4 := Y.c 4; have Y_5 := Y.c 5; have Y_6 := Y.c 6; have Y_7 := Y.c 7; have Y_8 := Y.c 8; have Y_9 := Y.c 9; have Y_10 := Y.c 10; have Y_11 := Y.c 11; simp only [List.getElem?_cons_zero, List.getElem?_cons_succ] at Y_0 Y_1 Y_2 Y_3 Y_4 Y_5 Y_6 Y_7 Y_8 Y_9 Y_10 Y_11
  have A_0 := A.c 0; have A_1 := A.c 1; simp only [List.getElem?_cons_zero, List.getElem?_cons_succ] at A_0 A_1
  rw [unhide Hvv] at V_2
  have qm := fun w => neqM j.txn j.txn w
  rw [sameM_self] at qm
  go_wp2_with fail
  generalize (w4.alloc _).alloc _ = W4 at *
  have h := query_any bo l d true yi j.txn.id j.txn.ep j.seq a W4
  rw [unhide Hq] at h
  refine h.mono ?_
  rintro e w5 ⟨rfl, hb5⟩
  clear J_0 J_1 J_2 J_3 J_4 J_5 J_6 J_7 J_8 J_9 V_0 V_1 V_2 V_3 V_4 M2_0 M2_1 M2_2 M2_3 M2_4 Y_0 Y_1 Y_2 Y_3 Y_4 Y_5 Y_6 Y_7 Y_8 Y_9 Y_10 Y_11 A_0 A_1
  clear h qm M2 V
  replace C := C.later hb5
  replace J := J.later hb5
  replace Y := Y.later hb5
  replace A := A.later hb5
  replace hvy := hvy.later hb5
  replace hB := hB.trans (hb5.mono hB.size)
  clear hb5
  have hBw := hB
  clear hB
  have HBw := hide hBw
  have HS := hide (And.intro C (And.intro J (And.intro Y hvy)))
  clear hBw
  have A_0 := A.c 0; have A_1 := A.c 1; simp only [List.getElem?_cons_zero, List.getElem?_cons_succ] at A_0 A_1
  have T := Blk.new w5 #[.int .i64 a.1, .int .i64 a.2] 24
  have hB : Below w5.heap.size w5 (w5.alloc (.cells #[.int .i64 a.1, .int .i64 a.2] 24)) := (Below.refl w5.heap.size w5).alloc (Nat.le_refl _) _
  have HT := hide (And.intro T (And.intro (unhide Hfit) hB))
  obtain ⟨mm, hm3, qa⟩ := and3 more
  have Hqa := hide qa
  clear qa
  clear C J Y hvy T hB
  go_wp2
  clear A_0 A_1
  clear A
  go_loopw [21] (fun u wr => ∃ k : Nat, u = .int .i64 k ∧ k ≤ mm ∧ Hid (∃ t, Blk wr w5.heap.size [.int .i64 t.1, .int .i64 t.2] ∧ Fit yv t) ∧ Hid (Below w5.heap.size w5 wr)) (fun u _ => mm - (intOf u).toNat)
  case atStart => exact ⟨0, rfl, by omega, ⟨a, (unhide HT).1, (unhide HT).2.1⟩, (unhide HT).2.2⟩
  case round =>
    obtain ⟨k, rfl, hk, Ht, Hb⟩ := hrel
    obtain ⟨t, T, hft⟩ := unhide Ht
    have T_0 := T.c 0; have T_1 := T.c 1; simp only [List.getElem?_cons_zero, List.getElem?_cons_succ] at T_0 T_1
    by_cases hlt : k < mm
    · have hlt' : (k : Int) < bits .and .i64 more 3 := by rw [unhide Hqa]; omega
      have Hft := hide hft
      clear hft Ht
      go_wp2_with fail
      have h := next_s t wr
      clear T_0 T_1
      cases hn : nextS t with
      | none =>
        rw [hn] at h
        simp only at h
        refine h.mono ?_
        rintro e w6 ⟨rfl, hb6⟩
        have hB := ((unhide HBw).trans (((unhide Hb).trans (hb6.mono (unhide Hb).size)).mono (unhide HBw).size))
        replace hB := hB.alloc hB.size (.cells #[.int .i64 0, .int .i64 0] 24)
        clear hb6 h
        go_wp2_with fail
        generalize w6.alloc _ = W6 at *
        refine (hA _).mono ?_
        rintro e wq ⟨rfl, hbq⟩
        have HB := hide (hB.trans (hbq.mono hB.size))
        clear hbq hB
        go_wp2
        go_ret
        exact ⟨rfl, unhide HB⟩
      | some s =>
        rw [hn] at h
        simp only at h
        refine h.mono ?_
        rintro e w6 ⟨rfl, hb6⟩
        have Hfs := hide ((unhide Hft).next hn)
        replace T := T.later hb6
        have hBw := (unhide Hb).trans (hb6.mono (unhide Hb).size)
        clear hb6 h hn
        have N := Blk.new w6 #[.int .i64 s.1, .int .i64 s.2] 24
        have hB : Below w6.heap.size w6 (w6.alloc (.cells #[.int .i64 s.1, .int .i64 s.2] 24)) := (Below.refl w6.heap.size w6).alloc (Nat.le_refl _) _
        replace T := T.later hB
        replace hB := hBw.trans (hB.mono hBw.size)
        have T_0 := T.c 0; have T_1 := T.c 1; simp only [List.getElem?_cons_zero, List.getElem?_cons_succ] at T_0 T_1
        have N_0 := N.c 0; have N_1 := N.c 1; simp only [List.getElem?_cons_zero, List.getElem?_cons_succ] at N_0 N_1
        have Tf := T.f
        have Hend := hide (And.intro (T.all [.int .i64 s.1, .int .i64 s.2] rfl) (below_setAll (C := w5.heap.size) (Nat.le_refl _) [.int .i64 s.1, .int .i64 s.2] 0 hB))
        clear hB hBw T N
        go_upto_region 16 with fail
        generalize w6.alloc _ = W6 at *
        go_wp2
        go_roundw
        case rel => exact ⟨k + 1, by go_num, by omega, ⟨s, (unhide Hend).1, unhide Hfs⟩, (unhide Hend).2⟩
        case measure => simp [intOf]; omega
    · have hlt' : ¬ (k : Int) < bits .and .i64 more 3 := by rw [unhide Hqa]; omega
      obtain ⟨⟨⟨zv, zo, zi⟩, u, hz1, hzl, hzr, hz2, hu1, hu2, hu3⟩, hz3⟩ := (unhide Hres) t hft
      simp only at hzl hzr
      obtain ⟨C, J, Y, hvy⟩ := unhide HS
      have hBw := (unhide HBw).trans ((unhide Hb).mono (unhide HBw).size)
      replace C := C.later (unhide Hb)
      replace J := J.later (unhide Hb)
      replace Y := Y.later (unhide Hb)
      replace hvy := hvy.later (unhide Hb)
      have Hz := hide (And.intro hz1 (And.intro hz2 hz3))
      have Hzr := hide hzr
      obtain ⟨zl, hzl2⟩ : ∃ zl, zv.length = zl := ⟨_, rfl⟩
      have hzlim : zl ≤ 2932031007400 := by have := unhide Hl; have := unhide Hl60; omega
      have Hzl := hide hzl2
      have Hu := hide (And.intro hu1 (And.intro hu2 hu3))
      clear hz1 hz2 hz3 hzr hzl hzl2 hu1 hu2 hu3 Ht hft
      have Y_0 := Y.c 0; have Y_1 := Y.c 1; have Y_2 := Y.c 2; have Y_3 := Y.c 3; have Y_4 := Y.c 4; have Y_5 := Y.c 5; have Y_6 := Y.c 6; have Y_7 := Y.c 7; have Y_8 := Y.c 8; have Y_9 := Y.c 9; have Y_10 := Y.c 10; have Y_11 := Y.c 11; simp only [List.getElem?_cons_zero, List.getElem?_cons_succ] at Y_0 Y_1 Y_2 Y_3 Y_4 Y_5 Y_6 Y_7 Y_8 Y_9 Y_10 Y_11
      have J_0 := J.c 0; have J_1 := J.c 1; have J_2 := J.c 2; have J_3 := J.c 3; have J_4 := J.c 4; have J_5 := J.c 5; have J_6 := J.c 6; have J_7 := J.c 7; have J_8 := J.c 8; have J_9 := J.c 9; simp only [List.getElem?_cons_zero, List.getElem?_cons_succ] at J_0 J_1 J_2 J_3 J_4 J_5 J_6 J_7 J_8 J_9
      go_wp2_with fail
      have h := resolve_any bo d _ true yi j.txn.id j.txn.ep true t wr hvy (by rw [unhide Hl]; exact hlim)
      rw [(unhide Hz).1] at h
      simp only [unhide Hl, unhide Hzl] at h
      refine h.mono ?_
      rintro e w6 ⟨eo, g, rfl, ho6, hb6⟩
      clear Y_0 Y_1 Y_2 Y_3 Y_4 Y_5 Y_6 Y_7 Y_8 Y_9 Y_10 Y_11 J_0 J_1 J_2 J_3 J_4 J_5 J_6 J_7 J_8 J_9 T_0 T_1
      replace T := T.later hb6
      replace C := C.later hb6
      replace J := J.later hb6
      replace Y := Y.later hb6
      replace hvy := hvy.later hb6
      replace hBw := hBw.trans (hb6.mono hBw.size)
      clear hb6 h
      have Z := Blk.new w6 #[.slice eo zl g, .bool zo, .int .i64 zi.txn.id, .int .i64 zi.txn.ep, .string zi.txn.anchor, .int .i64 zi.txn.start.1, .int .i64 zi.txn.start.2, .int .i64 zi.seq, .int .i64 zi.at_.1, .int .i64 zi.at_.2, .string zi.val, .bool zi.gone] 30
      have hB : Below w6.heap.size w6 (w6.alloc (.cells #[.slice eo zl g, .bool zo, .int .i64 zi.txn.id, .int .i64 zi.txn.ep, .string zi.txn.anchor, .int .i64 zi.txn.start.1, .int .i64 zi.txn.start.2, .int .i64 zi.seq, .int .i64 zi.at_.1, .int .i64 zi.at_.2, .string zi.val, .bool zi.gone] 30)) := (Below.refl w6.heap.size w6).alloc (Nat.le_refl _) _
      replace T := T.later hB
      replace C := C.later hB
      replace J := J.later hB
      replace Y := Y.later hB
      replace hvy := hvy.later hB
      have hvz := ho6.vs.later hB
      replace hB := hBw.trans (hB.mono hBw.size)
      clear hBw ho6
      have Z_0 := Z.c 0; have Z_1 := Z.c 1; have Z_2 := Z.c 2; have Z_3 := Z.c 3; have Z_4 := Z.c 4; have Z_5 := Z.c 5; have Z_6 := Z.c 6; have Z_7 := Z.c 7; have Z_8 := Z.c 8; have Z_9 := Z.c 9; have Z_10 := Z.c 10; have Z_11 := Z.c 11; simp only [List.getElem?_cons_zero, List.getElem?_cons_succ] at Z_0 Z_1 Z_2 Z_3 Z_4 Z_5 Z_6 Z_7 Z_8 Z_9 Z_10 Z_11
      have T_0 := T.c 0; have T_1 := T.c 1; simp only [List.getElem?_cons_zero, List.getElem?_cons_succ] at T_0 T_1
      go_wp2_with fail
      generalize w6.alloc _ = W6 at *
      have h := read_any eo g _ zo zi t t (-1) 0 W6 hvz (by rw [unhide Hzl]; exact hzlim)
      rw [readR_right (unhide Hzr), (unhide Hz).2.1] at h
      simp only [unhide Hzl] at h
      refine h.mono ?_
      rintro e w7 ⟨rfl, hb7⟩
      clear Z_0 Z_1 Z_2 Z_3 Z_4 Z_5 Z_6 Z_7 Z_8 Z_9 Z_10 Z_11 T_0 T_1
      replace T := T.later hb7
      replace C := C.later hb7
      replace J := J.later hb7
      replace Y := Y.later hb7
      replace hvy := hvy.later hb7
      replace hB := hB.trans (hb7.mono hB.size)
      clear hb7 h Z hvz
      have hBw := hB
      clear hB
      have U := (Blk.new w7 #[.int .i64 u.at_.1, .int .i64 u.at_.2, .string u.val, .bool u.gone, .int .i64 u.by_] 37).alloc (.cells #[.int .i64 Met.zero.id, .int .i64 Met.zero.ep, .string Met.zero.anchor, .int .i64 Met.zero.start.1, .int .i64 Met.zero.start.2] 26)
      have M := Blk.new (w7.alloc (.cells #[.int .i64 u.at_.1, .int .i64 u.at_.2, .string u.val, .bool u.gone, .int .i64 u.by_] 37)) #[.int .i64 Met.zero.id, .int .i64 Met.zero.ep, .string Met.zero.anchor, .int .i64 Met.zero.start.1, .int .i64 Met.zero.start.2] 26
      rw [show (w7.alloc (.cells #[.int .i64 u.at_.1, .int .i64 u.at_.2, .string u.val, .bool u.gone, .int .i64 u.by_] 37)).heap.size = w7.heap.size + 1 by simp] at M
      have hB : Below w7.heap.size w7 ((w7.alloc (.cells #[.int .i64 u.at_.1, .int .i64 u.at_.2, .string u.val, .bool u.gone, .int .i64 u.by_] 37)).alloc (.cells #[.int .i64 Met.zero.id, .int .i64 Met.zero.ep, .string Met.zero.anchor, .int .i64 Met.zero.start.1, .int .i64 Met.zero.start.2] 26)) := ((Below.refl w7.heap.size w7).alloc (Nat.le_refl _) _).alloc (by simp) _
      replace T := T.later hB
      replace C := C.later hB
      replace J := J.later hB
      replace Y := Y.later hB
      replace hvy := hvy.later hB
      replace hB := hBw.trans (hB.mono hBw.size)
      clear hBw M
      go_upto_region 19 with fail
      generalize (w7.alloc _).alloc _ = W7 at *
      have U_0 := U.c 0; have U_1 := U.c 1; have U_2 := U.c 2; have U_3 := U.c 3; have U_4 := U.c 4; simp only [List.getElem?_cons_zero, List.getElem?_cons_succ] at U_0 U_1 U_2 U_3 U_4
      have T_0 := T.c 0; have T_1 := T.c 1; simp only [List.getElem?_cons_zero, List.getElem?_cons_succ] at T_0 T_1
      have J_0 := J.c 0; have J_1 := J.c 1; have J_2 := J.c 2; have J_3 := J.c 3; have J_4 := J.c 4; have J_5 := J.c 5; have J_6 := J.c 6; have J_7 := J.c 7; have J_8 := J.c 8; have J_9 := J.c 9; simp only [List.getElem?_cons_zero, List.getElem?_cons_succ] at J_0 J_1 J_2 J_3 J_4 J_5 J_6 J_7 J_8 J_9
      have Y_0 := Y.c 0; have Y_1 := Y.c 1; have Y_2 := Y.c 2; have Y_3 := Y.c 3; have Y_4 := Y.c 4; have Y_5 := Y.c 5; have Y_6 := Y.c 6; have Y_7 := Y.c 7; have Y_8 := Y.c 8; have Y_9 := Y.c 9; have Y_10 := Y.c 10; have Y_11 := Y.c 11; simp only [List.getElem?_cons_zero, List.getElem?_cons_succ] at Y_0 Y_1 Y_2 Y_3 Y_4 Y_5 Y_6 Y_7 Y_8 Y_9 Y_10 Y_11
      rw [(unhide Hu).1] at U_2
      rw [(unhide Hu).2.1] at U_0 U_1
      rw [(unhide Hu).2.2] at U_4
      have qs := fun w => neqS t t w
      rw [sameS_self] at qs
      go_wp2_with fail
      have h := resolve_any bo d _ true yi j.txn.id j.txn.ep false t W7 hvy (by rw [unhide Hl]; exact hlim)
      rw [(unhide Hz).2.2] at h
      simp only [unhide Hl] at h
      refine h.mono ?_
      rintro e w8 ⟨fo, f, rfl, ho8, hb8⟩
      clear U_0 U_1 U_2 U_3 U_4 T_0 T_1 J_0 J_1 J_2 J_3 J_4 J_5 J_6 J_7 J_8 J_9 Y_0 Y_1 Y_2 Y_3 Y_4 Y_5 Y_6 Y_7 Y_8 Y_9 Y_10 Y_11
      replace C := C.later hb8
      replace hB := hB.trans (hb8.mono hB.size)
      clear hb8 h U T J Y hvy qs
      have hBw := hB
      clear hB
      have X := Blk.new w8 #[.slice fo l f, .bool false, .int .i64 Itn.zero.txn.id, .int .i64 Itn.zero.txn.ep, .string Itn.zero.txn.anchor, .int .i64 Itn.zero.txn.start.1, .int .i64 Itn.zero.txn.start.2, .int .i64 Itn.zero.seq, .int .i64 Itn.zero.at_.1, .int .i64 Itn.zero.at_.2, .string Itn.zero.val, .bool Itn.zero.gone] 30
      have hB : Below w8.heap.size w8 (w8.alloc (.cells #[.slice fo l f, .bool false, .int .i64 Itn.zero.txn.id, .int .i64 Itn.zero.txn.ep, .string Itn.zero.txn.anchor, .int .i64 Itn.zero.txn.start.1, .int .i64 Itn.zero.txn.start.2, .int .i64 Itn.zero.seq, .int .i64 Itn.zero.at_.1, .int .i64 Itn.zero.at_.2, .string Itn.zero.val, .bool Itn.zero.gone] 30)) := (Below.refl w8.heap.size w8).alloc (Nat.le_refl _) _
      replace C := C.later hB
      have hvx := ho8.vs.later hB
      replace hB := hBw.trans (hB.mono hBw.size)
      clear hBw ho8
      go_wp2_with fail
      generalize w8.alloc _ = W8 at *
      refine (hA _).mono ?_
      rintro e w9 ⟨rfl, hb9⟩
      replace C := C.later hb9
      replace X := X.later hb9
      replace hvx := hvx.later hb9
      replace hB := hB.trans (hb9.mono hB.size)
      clear hb9
      have C_0 := C.c 0; have C_1 := C.c 1; have C_2 := C.c 2; have C_3 := C.c 3; have C_4 := C.c 4; have C_5 := C.c 5; have C_6 := C.c 6; have C_7 := C.c 7; have C_8 := C.c 8; have C_9 := C.c 9; have C_10 := C.c 10; have C_11 := C.c 11; simp only [List.getElem?_cons_zero, List.getElem?_cons_succ] at C_0 C_1 C_2 C_3 C_4 C_5 C_6 C_7 C_8 C_9 C_10 C_11
      have X_0 := X.c 0; have X_1 := X.c 1; have X_2 := X.c 2; have X_3 := X.c 3; have X_4 := X.c 4; have X_5 := X.c 5; have X_6 := X.c 6; have X_7 := X.c 7; have X_8 := X.c 8; have X_9 := X.c 9; have X_10 := X.c 10; have X_11 := X.c 11; simp only [List.getElem?_cons_zero, List.getElem?_cons_succ] at X_0 X_1 X_2 X_3 X_4 X_5 X_6 X_7 X_8 X_9 X_10 X_11
      go_wp2_with fail
      have h := same_any fo ao f c _ _ false false Itn.zero Itn.zero w9 hvx ((unhide Hv).later hB)
      rw [(sameC_iff _ _).2 rfl] at h
      simp only [unhide Hl] at h
      refine h.mono ?_
      rintro e wq ⟨rfl, hbq⟩
      have HB := hide (hB.trans (hbq.mono hB.size))
      clear hbq hB h C X hvx
      clear C_0 C_1 C_2 C_3 C_4 C_5 C_6 C_7 C_8 C_9 C_10 C_11 X_0 X_1 X_2 X_3 X_4 X_5 X_6 X_7 X_8 X_9 X_10 X_11
      go_wp2
      go_ret
      exact ⟨rfl, unhide HB⟩
end

end Go.Proofs.Ytcahmnpoajnmpaa
