/-
  VersionOnce returns true. No statement is proved here: the lifted text has it.
-/
import Derived.Test.YtcahmnpoajnmpaaVt7
import Derived.Test.YtcahmnpoajnmpaaViewI
import Derived.Test.YtcahmnpoajnmpaaVOnce
namespace Go.Proofs.Ytcahmnpoajnmpaa
open Go.RowKit
set_option linter.unusedVariables false

section
set_option maxRecDepth 100000
set_option maxHeartbeats 20000000

theorem walkVersionOnce {w : World} (a0 : Value) (x : Chn) (ha : ChV w a0 x) (b0 : Value) (j : Itn) (hb : ItV b0 j) (commit : Bool) :
    Calls Try.prog 10 #[a0, b0, .bool commit] w fun e w' => e = .returned (.bool true) ∧ Below w.heap.size w w' := by
  obtain ⟨⟨ao, c, rfl, hv⟩, hl⟩ := ha
  obtain ⟨rfl⟩ := hb
  obtain ⟨vs, o, i⟩ := x
  simp only at hv hl ⊢
  have hA := fun w => alive_any w
  have hF := fun w' (hb : Below w.heap.size w w') => fitsl_any ao c vs o i w' (hv.later hb)
  have hW := fun w' (hb : Below w.heap.size w w') => write_any ao c vs o i j w' (hv.later hb) hl
  obtain ⟨⟨⟨yv, yo, yi⟩, a, m, er⟩, hX⟩ : ∃ X, writeC ⟨vs, o, i⟩ j = X := ⟨_, rfl⟩
  rw [hX] at hW
  simp only at hW
  have key : (decide (vs.length ≤ 60) && rightCB ⟨vs, o, i⟩) = true → er = 0 → vs.length ≤ 60 ∧ _ := fun k1 k2 => by
    rw [Bool.and_eq_true] at k1
    subst k2
    exact ⟨by simpa using k1.1, once_facts ((rightCB_iff _).1 k1.2) hX commit⟩
  have Hkey := hide key
  generalize (decide (vs.length ≤ 60) && rightCB ⟨vs, o, i⟩) = z at *
  obtain ⟨n, hn⟩ : ∃ n, vs.length = n := ⟨_, rfl⟩
  obtain ⟨l, hyl⟩ : ∃ l, yv.length = l := ⟨_, rfl⟩
  have Hn := hide (And.intro hn hyl)
  simp only [hn, hyl] at hF hW ⊢
  have C := (Blk.new w #[.slice ao n c, .bool o, .int .i64 i.txn.id, .int .i64 i.txn.ep, .string i.txn.anchor, .int .i64 i.txn.start.1, .int .i64 i.txn.start.2, .int .i64 i.seq, .int .i64 i.at_.1, .int .i64 i.at_.2, .string i.val, .bool i.gone] 30).alloc (.cells #[.int .i64 j.txn.id, .int .i64 j.txn.ep, .string j.txn.anchor, .int .i64 j.txn.start.1, .int .i64 j.txn.start.2, .int .i64 j.seq, .int .i64 j.at_.1, .int .i64 j.at_.2, .string j.val, .bool j.gone] 28)
  have J := Blk.new (w.alloc (.cells #[.slice ao n c, .bool o, .int .i64 i.txn.id, .int .i64 i.txn.ep, .string i.txn.anchor, .int .i64 i.txn.start.1, .int .i64 i.txn.start.2, .int .i64 i.seq, .int .i64 i.at_.1, .int .i64 i.at_.2, .string i.val, .bool i.gone] 30)) #[.int .i64 j.txn.id, .int .i64 j.txn.ep, .string j.txn.anchor, .int .i64 j.txn.start.1, .int .i64 j.txn.start.2, .int .i64 j.seq, .int .i64 j.at_.1, .int .i64 j.at_.2, .string j.val, .bool j.gone] 28
  rw [show (w.alloc (.cells #[.slice ao n c, .bool o, .int .i64 i.txn.id, .int .i64 i.txn.ep, .string i.txn.anchor, .int .i64 i.txn.start.1, .int .i64 i.txn.start.2, .int .i64 i.seq, .int .i64 i.at_.1, .int .i64 i.at_.2, .string i.val, .bool i.gone] 30)).heap.size = w.heap.size + 1 by simp] at J
  have hB : Below w.heap.size w ((w.alloc (.cells #[.slice ao n c, .bool o, .int .i64 i.txn.id, .int .i64 i.txn.ep, .string i.txn.anchor, .int .i64 i.txn.start.1, .int .i64 i.txn.start.2, .int .i64 i.seq, .int .i64 i.at_.1, .int .i64 i.at_.2, .string i.val, .bool i.gone] 30)).alloc (.cells #[.int .i64 j.txn.id, .int .i64 j.txn.ep, .string j.txn.anchor, .int .i64 j.txn.start.1, .int .i64 j.txn.start.2, .int .i64 j.seq, .int .i64 j.at_.1, .int .i64 j.at_.2, .string j.val, .bool j.gone] 28)) := ((Below.refl w.heap.size w).alloc (Nat.le_refl _) _).alloc (by simp) _
  clear hv key hX hn hyl
  go_enter Try.func10, Try.ntmps10
  go_wp2_with fail
  generalize (w.alloc _).alloc _ = W at *
  refine (hF _ hB).mono ?_
  rintro e w1 ⟨rfl, hb1⟩
  replace C := C.later hb1
  replace J := J.later hb1
  replace hB := hB.trans (hb1.mono hB.size)
  clear hb1 hF
  have C_0 := C.c 0; have C_1 := C.c 1; have C_2 := C.c 2; have C_3 := C.c 3; have C_4 := C.c 4; have C_5 := C.c 5; have C_6 := C.c 6; have C_7 := C.c 7; have C_8 := C.c 8; have C_9 := C.c 9; have C_10 := C.c 10; have C_11 := C.c 11; simp only [List.getElem?_cons_zero, List.getElem?_cons_succ] at C_0 C_1 C_2 C_3 C_4 C_5 C_6 C_7 C_8 C_9 C_10 C_11
  have J_0 := J.c 0; have J_1 := J.c 1; have J_2 := J.c 2; have J_3 := J.c 3; have J_4 := J.c 4; have J_5 := J.c 5; have J_6 := J.c 6; have J_7 := J.c 7; have J_8 := J.c 8; have J_9 := J.c 9; simp only [List.getElem?_cons_zero, List.getElem?_cons_succ] at J_0 J_1 J_2 J_3 J_4 J_5 J_6 J_7 J_8 J_9
  go_wp2_with fail
  refine (hW _ hB).mono ?_
  rintro e w2 ⟨bo, d, rfl, ho2, hb2⟩
  clear C_0 C_1 C_2 C_3 C_4 C_5 C_6 C_7 C_8 C_9 C_10 C_11 J_0 J_1 J_2 J_3 J_4 J_5 J_6 J_7 J_8 J_9
  replace C := C.later hb2
  replace J := J.later hb2
  replace hB := hB.trans (hb2.mono hB.size)
  clear hb2 hW
  have hBw := hB
  clear hB
  have Y := ((Blk.new w2 #[.slice bo l d, .bool yo, .int .i64 yi.txn.id, .int .i64 yi.txn.ep, .string yi.txn.anchor, .int .i64 yi.txn.start.1, .int .i64 yi.txn.start.2, .int .i64 yi.seq, .int .i64 yi.at_.1, .int .i64 yi.at_.2, .string yi.val, .bool yi.gone] 30).alloc (.cells #[.int .i64 a.1, .int .i64 a.2] 24)).alloc (.cells #[.int .i64 m.id, .int .i64 m.ep, .string m.anchor, .int .i64 m.start.1, .int .i64 m.start.2] 26)
  have A := (Blk.new (w2.alloc (.cells #[.slice bo l d, .bool yo, .int .i64 yi.txn.id, .int .i64 yi.txn.ep, .string yi.txn.anchor, .int .i64 yi.txn.start.1, .int .i64 yi.txn.start.2, .int .i64 yi.seq, .int .i64 yi.at_.1, .int .i64 yi.at_.2, .string yi.val, .bool yi.gone] 30)) #[.int .i64 a.1, .int .i64 a.2] 24).alloc (.cells #[.int .i64 m.id, .int .i64 m.ep, .string m.anchor, .int .i64 m.start.1, .int .i64 m.start.2] 26)
  rw [show (w2.alloc (.cells #[.slice bo l d, .bool yo, .int .i64 yi.txn.id, .int .i64 yi.txn.ep, .string yi.txn.anchor, .int .i64 yi.txn.start.1, .int .i64 yi.txn.start.2, .int .i64 yi.seq, .int .i64 yi.at_.1, .int .i64 yi.at_.2, .string yi.val, .bool yi.gone] 30)).heap.size = w2.heap.size + 1 by simp] at A
  have M := Blk.new ((w2.alloc (.cells #[.slice bo l d, .bool yo, .int .i64 yi.txn.id, .int .i64 yi.txn.ep, .string yi.txn.anchor, .int .i64 yi.txn.start.1, .int .i64 yi.txn.start.2, .int .i64 yi.seq, .int .i64 yi.at_.1, .int .i64 yi.at_.2, .string yi.val, .bool yi.gone] 30)).alloc (.cells #[.int .i64 a.1, .int .i64 a.2] 24)) #[.int .i64 m.id, .int .i64 m.ep, .string m.anchor, .int .i64 m.start.1, .int .i64 m.start.2] 26
  rw [show ((w2.alloc (.cells #[.slice bo l d, .bool yo, .int .i64 yi.txn.id, .int .i64 yi.txn.ep, .string yi.txn.anchor, .int .i64 yi.txn.start.1, .int .i64 yi.txn.start.2, .int .i64 yi.seq, .int .i64 yi.at_.1, .int .i64 yi.at_.2, .string yi.val, .bool yi.gone] 30)).alloc (.cells #[.int .i64 a.1, .int .i64 a.2] 24)).heap.size = w2.heap.size + 1 + 1 by simp] at M
  have hB : Below w2.heap.size w2 (((w2.alloc (.cells #[.slice bo l d, .bool yo, .int .i64 yi.txn.id, .int .i64 yi.txn.ep, .string yi.txn.anchor, .int .i64 yi.txn.start.1, .int .i64 yi.txn.start.2, .int .i64 yi.seq, .int .i64 yi.at_.1, .int .i64 yi.at_.2, .string yi.val, .bool yi.gone] 30)).alloc (.cells #[.int .i64 a.1, .int .i64 a.2] 24)).alloc (.cells #[.int .i64 m.id, .int .i64 m.ep, .string m.anchor, .int .i64 m.start.1, .int .i64 m.start.2] 26)) := (((Below.refl w2.heap.size w2).alloc (Nat.le_refl _) _).alloc (by simp) _).alloc (by simp; omega) _
  replace C := C.later hB
  replace J := J.later hB
  have hvy := ho2.vs.later hB
  replace hB := hBw.trans (hB.mono hBw.size)
  clear hBw M ho2
  cases z
  case false =>
    clear Hkey
    go_wp2_with fail
    generalize ((w2.alloc _).alloc _).alloc _ = W2 at *
    refine (hA _).mono ?_
    rintro e wq ⟨rfl, hbq⟩
    have HB := hide (hB.trans (hbq.mono hB.size))
    clear hbq hB
    go_wp2
    go_ret
    exact ⟨rfl, unhide HB⟩
  by_cases he : er = 0
  case neg =>
    have he' : (er != 0) = true := by simpa using he
    clear Hkey he
    go_wp2_with fail
    generalize ((w2.alloc _).alloc _).alloc _ = W2 at *
    refine (hA _).mono ?_
    rintro e wq ⟨rfl, hbq⟩
    have HB := hide (hB.trans (hbq.mono hB.size))
    clear hbq hB
    go_wp2
    go_ret
    exact ⟨rfl, unhide HB⟩
  subst he
  obtain ⟨hl60, hyv, hagain, ⟨zv, zo, zi⟩, hres, hzo, hzl, hres2, hdone⟩ := (unhide Hkey) (by simp) (by simp)
  simp only at hyv hzo hzl
  subst hyv hzo
  clear Hkey
  obtain ⟨hn1, hl2⟩ := unhide Hn
  have hlim : l ≤ 2932031007400 := by omega
  have Hag := hide (And.intro hagain (And.intro hres (And.intro hres2 hdone)))
  obtain ⟨k, hk⟩ : ∃ k, zv.length = k := ⟨_, rfl⟩
  have Hk := hide hk
  have hklim : k ≤ 2932031007400 := by omega
  have Hl := hide hl2
  clear hagain hres hres2 hdone hn1 hl2 Hn hl60 hzl hk hl
  have Y_0 := Y.c 0; have Y_1 := Y.c 1; have Y_2 := Y.c 2; have Y_3 := Y.c 3; have Y_4 := Y.c 4; have Y_5 := Y.c 5; have Y_6 := Y.c 6; have Y_7 := Y.c 7; have Y_8 := Y.c 8; have Y_9 := Y.c 9; have Y_10 := Y.c 10; have Y_11 := Y.c 11; simp only [List.getElem?_cons_zero, List.getElem?_cons_succ] at Y_0 Y_1 Y_2 Y_3 Y_4 Y_5 Y_6 Y_7 Y_8 Y_9 Y_10 Y_11
  have J_0 := J.c 0; have J_1 := J.c 1; have J_2 := J.c 2; have J_3 := J.c 3; have J_4 := J.c 4; have J_5 := J.c 5; have J_6 := J.c 6; have J_7 := J.c 7; have J_8 := J.c 8; have J_9 := J.c 9; simp only [List.getElem?_cons_zero, List.getElem?_cons_succ] at J_0 J_1 J_2 J_3 J_4 J_5 J_6 J_7 J_8 J_9
  go_wp2_with fail
  generalize ((w2.alloc _).alloc _).alloc _ = W2 at *
  have h := write_any bo d _ yo yi j W2 hvy (by rw [unhide Hl]; exact hlim)
  rw [(unhide Hag).1] at h
  simp only [unhide Hl] at h
  refine h.mono ?_
  rintro e w3 ⟨co, f, rfl, ho3, hb3⟩
  clear Y_0 Y_1 Y_2 Y_3 Y_4 Y_5 Y_6 Y_7 Y_8 Y_9 Y_10 Y_11 J_0 J_1 J_2 J_3 J_4 J_5 J_6 J_7 J_8 J_9
  replace C := C.later hb3
  replace J := J.later hb3
  replace Y := Y.later hb3
  replace A := A.later hb3
  replace hvy := hvy.later hb3
  replace hB := hB.trans (hb3.mono hB.size)
  clear hb3 h
  have hBw := hB
  clear hB
  have Y2 := ((Blk.new w3 #[.slice co l f, .bool yo, .int .i64 yi.txn.id, .int .i64 yi.txn.ep, .string yi.txn.anchor, .int .i64 yi.txn.start.1, .int .i64 yi.txn.start.2, .int .i64 yi.seq, .int .i64 yi.at_.1, .int .i64 yi.at_.2, .string yi.val, .bool yi.gone] 30).alloc (.cells #[.int .i64 a.1, .int .i64 a.2] 24)).alloc (.cells #[.int .i64 Met.zero.id, .int .i64 Met.zero.ep, .string Met.zero.anchor, .int .i64 Met.zero.start.1, .int .i64 Met.zero.start.2] 26)
  have A2 := (Blk.new (w3.alloc (.cells #[.slice co l f, .bool yo, .int .i64 yi.txn.id, .int .i64 yi.txn.ep, .string yi.txn.anchor, .int .i64 yi.txn.start.1, .int .i64 yi.txn.start.2, .int .i64 yi.seq, .int .i64 yi.at_.1, .int .i64 yi.at_.2, .string yi.val, .bool yi.gone] 30)) #[.int .i64 a.1, .int .i64 a.2] 24).alloc (.cells #[.int .i64 Met.zero.id, .int .i64 Met.zero.ep, .string Met.zero.anchor, .int .i64 Met.zero.start.1, .int .i64 Met.zero.start.2] 26)
  rw [show (w3.alloc (.cells #[.slice co l f, .bool yo, .int .i64 yi.txn.id, .int .i64 yi.txn.ep, .string yi.txn.anchor, .int .i64 yi.txn.start.1, .int .i64 yi.txn.start.2, .int .i64 yi.seq, .int .i64 yi.at_.1, .int .i64 yi.at_.2, .string yi.val, .bool yi.gone] 30)).heap.size = w3.heap.size + 1 by simp] at A2
  have M := Blk.new ((w3.alloc (.cells #[.slice co l f, .bool yo, .int .i64 yi.txn.id, .int .i64 yi.txn.ep, .string yi.txn.anchor, .int .i64 yi.txn.start.1, .int .i64 yi.txn.start.2, .int .i64 yi.seq, .int .i64 yi.at_.1, .int .i64 yi.at_.2, .string yi.val, .bool yi.gone] 30)).alloc (.cells #[.int .i64 a.1, .int .i64 a.2] 24)) #[.int .i64 Met.zero.id, .int .i64 Met.zero.ep, .string Met.zero.anchor, .int .i64 Met.zero.start.1, .int .i64 Met.zero.start.2] 26
  rw [show ((w3.alloc (.cells #[.slice co l f, .bool yo, .int .i64 yi.txn.id, .int .i64 yi.txn.ep, .string yi.txn.anchor, .int .i64 yi.txn.start.1, .int .i64 yi.txn.start.2, .int .i64 yi.seq, .int .i64 yi.at_.1, .int .i64 yi.at_.2, .string yi.val, .bool yi.gone] 30)).alloc (.cells #[.int .i64 a.1, .int .i64 a.2] 24)).heap.size = w3.heap.size + 1 + 1 by simp] at M
  have hB : Below w3.heap.size w3 (((w3.alloc (.cells #[.slice co l f, .bool yo, .int .i64 yi.txn.id, .int .i64 yi.txn.ep, .string yi.txn.anchor, .int .i64 yi.txn.start.1, .int .i64 yi.txn.start.2, .int .i64 yi.seq, .int .i64 yi.at_.1, .int .i64 yi.at_.2, .string yi.val, .bool yi.gone] 30)).alloc (.cells #[.int .i64 a.1, .int .i64 a.2] 24)).alloc (.cells #[.int .i64 Met.zero.id, .int .i64 Met.zero.ep, .string Met.zero.anchor, .int .i64 Met.zero.start.1, .int .i64 Met.zero.start.2] 26)) := (((Below.refl w3.heap.size w3).alloc (Nat.le_refl _) _).alloc (by simp) _).alloc (by simp; omega) _
  replace C := C.later hB
  replace J := J.later hB
  replace Y := Y.later hB
  replace A := A.later hB
  replace hvy := hvy.later hB
  have hv3 := ho3.vs.later hB
  replace hB := hBw.trans (hB.mono hBw.size)
  clear hBw M ho3
  have qs := fun w => neqS a a w
  rw [sameS_self] at qs
  have Y_0 := Y.c 0; have Y_1 := Y.c 1; have Y_2 := Y.c 2; have Y_3 := Y.c 3; have Y_4 := Y.c 4; have Y_5 := Y.c 5; have Y_6 := Y.c 6; have Y_7 := Y.c 7; have Y_8 := Y.c 8; have Y_9 := Y.c 9; have Y_10 := Y.c 10; have Y_11 := Y.c 11; simp only [List.getElem?_cons_zero, List.getElem?_cons_succ] at Y_0 Y_1 Y_2 Y_3 Y_4 Y_5 Y_6 Y_7 Y_8 Y_9 Y_10 Y_11
  have Y2_0 := Y2.c 0; have Y2_1 := Y2.c 1; have Y2_2 := Y2.c 2; have Y2_3 := Y2.c 3; have Y2_4 := Y2.c 4; have Y2_5 := Y2.c 5; have Y2_6 := Y2.c 6; have Y2_7 := Y2.c 7; have Y2_8 := Y2.c 8; have Y2_9 := Y2.c 9; have Y2_10 := Y2.c 10; have Y2_11 := Y2.c 11; simp only [List.getElem?_cons_zero, List.getElem?_cons_succ] at Y2_0 Y2_1 Y2_2 Y2_3 Y2_4 Y2_5 Y2_6 Y2_7 Y2_8 Y2_9 Y2_10 Y2_11
  have A_0 := A.c 0; have A_1 := A.c 1; simp only [List.getElem?_cons_zero, List.getElem?_cons_succ] at A_0 A_1
  have A2_0 := A2.c 0; have A2_1 := A2.c 1; simp only [List.getElem?_cons_zero, List.getElem?_cons_succ] at A2_0 A2_1
  go_wp2_with fail
  generalize ((w3.alloc _).alloc _).alloc _ = W3 at *
  have h := same_any bo co d f _ _ yo yo yi yi W3 hvy hv3
  rw [(sameC_iff _ _).2 rfl] at h
  simp only [unhide Hl] at h
  refine h.mono ?_
  rintro e w4 ⟨rfl, hb4⟩
  clear Y_0 Y_1 Y_2 Y_3 Y_4 Y_5 Y_6 Y_7 Y_8 Y_9 Y_10 Y_11 Y2_0 Y2_1 Y2_2 Y2_3 Y2_4 Y2_5 Y2_6 Y2_7 Y2_8 Y2_9 Y2_10 Y2_11 A_0 A_1 A2_0 A2_1
  replace C := C.later hb4
  replace J := J.later hb4
  replace Y := Y.later hb4
  replace A := A.later hb4
  replace hvy := hvy.later hb4
  replace hB := hB.trans (hb4.mono hB.size)
  clear hb4 h qs Y2 A2 hv3
  have Y_0 := Y.c 0; have Y_1 := Y.c 1; have Y_2 := Y.c 2; have Y_3 := Y.c 3; have Y_4 := Y.c 4; have Y_5 := Y.c 5; have Y_6 := Y.c 6; have Y_7 := Y.c 7; have Y_8 := Y.c 8; have Y_9 := Y.c 9; have Y_10 := Y.c 10; have Y_11 := Y.c 11; simp only [List.getElem?_cons_zero, List.getElem?_cons_succ] at Y_0 Y_1 Y_2 Y_3 Y_4 Y_5 Y_6 Y_7 Y_8 Y_9 Y_10 Y_11
  have A_0 := A.c 0; have A_1 := A.c 1; simp only [List.getElem?_cons_zero, List.getElem?_cons_succ] at A_0 A_1
  have J_0 := J.c 0; have J_1 := J.c 1; have J_2 := J.c 2; have J_3 := J.c 3; have J_4 := J.c 4; have J_5 := J.c 5; have J_6 := J.c 6; have J_7 := J.c 7; have J_8 := J.c 8; have J_9 := J.c 9; simp only [List.getElem?_cons_zero, List.getElem?_cons_succ] at J_0 J_1 J_2 J_3 J_4 J_5 J_6 J_7 J_8 J_9
  go_wp2_with fail
  have h := resolve_any bo d _ yo yi j.txn.id j.txn.ep commit a w4 hvy (by rw [unhide Hl]; exact hlim)
  rw [(unhide Hag).2.1] at h
  simp only [unhide Hl, unhide Hk] at h
  refine h.mono ?_
  rintro e w5 ⟨eo, g, rfl, ho5, hb5⟩
  clear Y_0 Y_1 Y_2 Y_3 Y_4 Y_5 Y_6 Y_7 Y_8 Y_9 Y_10 Y_11 A_0 A_1 J_0 J_1 J_2 J_3 J_4 J_5 J_6 J_7 J_8 J_9
  replace C := C.later hb5
  replace J := J.later hb5
  replace A := A.later hb5
  replace hB := hB.trans (hb5.mono hB.size)
  clear hb5 h Y hvy
  have hBw := hB
  clear hB
  have Z := Blk.new w5 #[.slice eo k g, .bool false, .int .i64 zi.txn.id, .int .i64 zi.txn.ep, .string zi.txn.anchor, .int .i64 zi.txn.start.1, .int .i64 zi.txn.start.2, .int .i64 zi.seq, .int .i64 zi.at_.1, .int .i64 zi.at_.2, .string zi.val, .bool zi.gone] 30
  have hB : Below w5.heap.size w5 (w5.alloc (.cells #[.slice eo k g, .bool false, .int .i64 zi.txn.id, .int .i64 zi.txn.ep, .string zi.txn.anchor, .int .i64 zi.txn.start.1, .int .i64 zi.txn.start.2, .int .i64 zi.seq, .int .i64 zi.at_.1, .int .i64 zi.at_.2, .string zi.val, .bool zi.gone] 30)) := (Below.refl w5.heap.size w5).alloc (Nat.le_refl _) _
  replace C := C.later hB
  replace J := J.later hB
  replace A := A.later hB
  have hvz := ho5.vs.later hB
  replace hB := hBw.trans (hB.mono hBw.size)
  clear hBw ho5
  obtain ⟨⟨⟨pv, po, pi⟩, pa, pm, pe⟩, hP⟩ : ∃ P, writeC ⟨zv, false, zi⟩ j = P := ⟨_, rfl⟩
  have hpe : commit = true → pe = 83 := fun h => by
    have e := (unhide Hag).2.2.2 h
    rw [hP] at e
    exact congrArg (fun q => q.2.2.2) e
  have HP := hide (And.intro hP hpe)
  have q2 := fun w => eqlM i.txn j.txn w
  generalize sameM i.txn j.txn = sm at *
  have hcs : o = false ∨ (o = true ∧ sm = false) ∨ (o = true ∧ sm = true ∧ ¬ j.seq ≤ i.seq) ∨ (o = true ∧ sm = true ∧ j.seq ≤ i.seq) := by
    cases o
    · exact .inl rfl
    · cases sm
      · exact .inr (.inl ⟨rfl, rfl⟩)
      · by_cases h : j.seq ≤ i.seq
        · exact .inr (.inr (.inr ⟨rfl, rfl, h⟩))
        · exact .inr (.inr (.inl ⟨rfl, rfl, h⟩))
  clear hP hpe
  have C_0 := C.c 0; have C_1 := C.c 1; have C_2 := C.c 2; have C_3 := C.c 3; have C_4 := C.c 4; have C_5 := C.c 5; have C_6 := C.c 6; have C_7 := C.c 7; have C_8 := C.c 8; have C_9 := C.c 9; have C_10 := C.c 10; have C_11 := C.c 11; simp only [List.getElem?_cons_zero, List.getElem?_cons_succ] at C_0 C_1 C_2 C_3 C_4 C_5 C_6 C_7 C_8 C_9 C_10 C_11
  have J_0 := J.c 0; have J_1 := J.c 1; have J_2 := J.c 2; have J_3 := J.c 3; have J_4 := J.c 4; have J_5 := J.c 5; have J_6 := J.c 6; have J_7 := J.c 7; have J_8 := J.c 8; have J_9 := J.c 9; simp only [List.getElem?_cons_zero, List.getElem?_cons_succ] at J_0 J_1 J_2 J_3 J_4 J_5 J_6 J_7 J_8 J_9
  have Z_0 := Z.c 0; have Z_1 := Z.c 1; have Z_2 := Z.c 2; have Z_3 := Z.c 3; have Z_4 := Z.c 4; have Z_5 := Z.c 5; have Z_6 := Z.c 6; have Z_7 := Z.c 7; have Z_8 := Z.c 8; have Z_9 := Z.c 9; have Z_10 := Z.c 10; have Z_11 := Z.c 11; simp only [List.getElem?_cons_zero, List.getElem?_cons_succ] at Z_0 Z_1 Z_2 Z_3 Z_4 Z_5 Z_6 Z_7 Z_8 Z_9 Z_10 Z_11
  have A_0 := A.c 0; have A_1 := A.c 1; simp only [List.getElem?_cons_zero, List.getElem?_cons_succ] at A_0 A_1
  clear C
  rcases hcs with rfl | ⟨rfl, rfl⟩ | ⟨rfl, rfl, h9⟩ | ⟨rfl, rfl, h9⟩
  · go_wp2_with fail
    generalize w5.alloc _ = W5 at *
    have h := resolve_any eo g _ false zi j.txn.id j.txn.ep commit a W5 hvz (by rw [unhide Hk]; exact hklim)
    rw [(unhide Hag).2.2.1] at h
    simp only [unhide Hk] at h
    refine h.mono ?_
    rintro e w6 ⟨qo, r, rfl, ho6, hb6⟩
    clear C_0 C_1 C_2 C_3 C_4 C_5 C_6 C_7 C_8 C_9 C_10 C_11 J_0 J_1 J_2 J_3 J_4 J_5 J_6 J_7 J_8 J_9 Z_0 Z_1 Z_2 Z_3 Z_4 Z_5 Z_6 Z_7 Z_8 Z_9 Z_10 Z_11 A_0 A_1
    replace J := J.later hb6
    replace Z := Z.later hb6
    replace hvz := hvz.later hb6
    replace hB := hB.trans (hb6.mono hB.size)
    clear hb6 h A q2
    have hBw := hB
    clear hB
    have V := Blk.new w6 #[.slice qo k r, .bool false, .int .i64 zi.txn.id, .int .i64 zi.txn.ep, .string zi.txn.anchor, .int .i64 zi.txn.start.1, .int .i64 zi.txn.start.2, .int .i64 zi.seq, .int .i64 zi.at_.1, .int .i64 zi.at_.2, .string zi.val, .bool zi.gone] 30
    have hB : Below w6.heap.size w6 (w6.alloc (.cells #[.slice qo k r, .bool false, .int .i64 zi.txn.id, .int .i64 zi.txn.ep, .string zi.txn.anchor, .int .i64 zi.txn.start.1, .int .i64 zi.txn.start.2, .int .i64 zi.seq, .int .i64 zi.at_.1, .int .i64 zi.at_.2, .string zi.val, .bool zi.gone] 30)) := (Below.refl w6.heap.size w6).alloc (Nat.le_refl _) _
    replace J := J.later hB
    replace Z := Z.later hB
    replace hvz := hvz.later hB
    have hv6 := ho6.vs.later hB
    replace hB := hBw.trans (hB.mono hBw.size)
    clear hBw ho6
    have Z_0 := Z.c 0; have Z_1 := Z.c 1; have Z_2 := Z.c 2; have Z_3 := Z.c 3; have Z_4 := Z.c 4; have Z_5 := Z.c 5; have Z_6 := Z.c 6; have Z_7 := Z.c 7; have Z_8 := Z.c 8; have Z_9 := Z.c 9; have Z_10 := Z.c 10; have Z_11 := Z.c 11; simp only [List.getElem?_cons_zero, List.getElem?_cons_succ] at Z_0 Z_1 Z_2 Z_3 Z_4 Z_5 Z_6 Z_7 Z_8 Z_9 Z_10 Z_11
    have J_0 := J.c 0; have J_1 := J.c 1; have J_2 := J.c 2; have J_3 := J.c 3; have J_4 := J.c 4; have J_5 := J.c 5; have J_6 := J.c 6; have J_7 := J.c 7; have J_8 := J.c 8; have J_9 := J.c 9; simp only [List.getElem?_cons_zero, List.getElem?_cons_succ] at J_0 J_1 J_2 J_3 J_4 J_5 J_6 J_7 J_8 J_9
    go_wp2_with fail
    generalize w6.alloc _ = W6 at *
    have h := write_any eo g _ false zi j W6 hvz (by rw [unhide Hk]; exact hklim)
    rw [(unhide HP).1] at h
    simp only [unhide Hk] at h
    refine h.mono ?_
    rintro e w7 ⟨so, t, rfl, ho7, hb7⟩
    clear Z_0 Z_1 Z_2 Z_3 Z_4 Z_5 Z_6 Z_7 Z_8 Z_9 Z_10 Z_11 J_0 J_1 J_2 J_3 J_4 J_5 J_6 J_7 J_8 J_9
    replace Z := Z.later hb7
    replace V := V.later hb7
    replace hvz := hvz.later hb7
    replace hv6 := hv6.later hb7
    replace hB := hB.trans (hb7.mono hB.size)
    clear hb7 h J ho7
    have hBw := hB
    clear hB
    have P1 := ((Blk.new w7 #[.slice so pv.length t, .bool po, .int .i64 pi.txn.id, .int .i64 pi.txn.ep, .string pi.txn.anchor, .int .i64 pi.txn.start.1, .int .i64 pi.txn.start.2, .int .i64 pi.seq, .int .i64 pi.at_.1, .int .i64 pi.at_.2, .string pi.val, .bool pi.gone] 30).alloc (.cells #[.int .i64 pa.1, .int .i64 pa.2] 24)).alloc (.cells #[.int .i64 pm.id, .int .i64 pm.ep, .string pm.anchor, .int .i64 pm.start.1, .int .i64 pm.start.2] 26)
    have P2 := (Blk.new (w7.alloc (.cells #[.slice so pv.length t, .bool po, .int .i64 pi.txn.id, .int .i64 pi.txn.ep, .string pi.txn.anchor, .int .i64 pi.txn.start.1, .int .i64 pi.txn.start.2, .int .i64 pi.seq, .int .i64 pi.at_.1, .int .i64 pi.at_.2, .string pi.val, .bool pi.gone] 30)) #[.int .i64 pa.1, .int .i64 pa.2] 24).alloc (.cells #[.int .i64 pm.id, .int .i64 pm.ep, .string pm.anchor, .int .i64 pm.start.1, .int .i64 pm.start.2] 26)
    rw [show (w7.alloc (.cells #[.slice so pv.length t, .bool po, .int .i64 pi.txn.id, .int .i64 pi.txn.ep, .string pi.txn.anchor, .int .i64 pi.txn.start.1, .int .i64 pi.txn.start.2, .int .i64 pi.seq, .int .i64 pi.at_.1, .int .i64 pi.at_.2, .string pi.val, .bool pi.gone] 30)).heap.size = w7.heap.size + 1 by simp] at P2
    have P3 := Blk.new ((w7.alloc (.cells #[.slice so pv.length t, .bool po, .int .i64 pi.txn.id, .int .i64 pi.txn.ep, .string pi.txn.anchor, .int .i64 pi.txn.start.1, .int .i64 pi.txn.start.2, .int .i64 pi.seq, .int .i64 pi.at_.1, .int .i64 pi.at_.2, .string pi.val, .bool pi.gone] 30)).alloc (.cells #[.int .i64 pa.1, .int .i64 pa.2] 24)) #[.int .i64 pm.id, .int .i64 pm.ep, .string pm.anchor, .int .i64 pm.start.1, .int .i64 pm.start.2] 26
    rw [show ((w7.alloc (.cells #[.slice so pv.length t, .bool po, .int .i64 pi.txn.id, .int .i64 pi.txn.ep, .string pi.txn.anchor, .int .i64 pi.txn.start.1, .int .i64 pi.txn.start.2, .int .i64 pi.seq, .int .i64 pi.at_.1, .int .i64 pi.at_.2, .string pi.val, .bool pi.gone] 30)).alloc (.cells #[.int .i64 pa.1, .int .i64 pa.2] 24)).heap.size = w7.heap.size + 1 + 1 by simp] at P3
    have hB : Below w7.heap.size w7 (((w7.alloc (.cells #[.slice so pv.length t, .bool po, .int .i64 pi.txn.id, .int .i64 pi.txn.ep, .string pi.txn.anchor, .int .i64 pi.txn.start.1, .int .i64 pi.txn.start.2, .int .i64 pi.seq, .int .i64 pi.at_.1, .int .i64 pi.at_.2, .string pi.val, .bool pi.gone] 30)).alloc (.cells #[.int .i64 pa.1, .int .i64 pa.2] 24)).alloc (.cells #[.int .i64 pm.id, .int .i64 pm.ep, .string pm.anchor, .int .i64 pm.start.1, .int .i64 pm.start.2] 26)) := (((Below.refl w7.heap.size w7).alloc (Nat.le_refl _) _).alloc (by simp) _).alloc (by simp; omega) _
    replace Z := Z.later hB
    replace V := V.later hB
    replace hvz := hvz.later hB
    replace hv6 := hv6.later hB
    replace hB := hBw.trans (hB.mono hBw.size)
    clear hBw P1 P2 P3
    go_wp2_with fail
    generalize ((w7.alloc _).alloc _).alloc _ = W7 at *
    refine (hA _).mono ?_
    rintro e w8 ⟨rfl, hb8⟩
    replace Z := Z.later hb8
    replace V := V.later hb8
    replace hvz := hvz.later hb8
    replace hv6 := hv6.later hb8
    replace hB := hB.trans (hb8.mono hB.size)
    clear hb8
    have Z_0 := Z.c 0; have Z_1 := Z.c 1; have Z_2 := Z.c 2; have Z_3 := Z.c 3; have Z_4 := Z.c 4; have Z_5 := Z.c 5; have Z_6 := Z.c 6; have Z_7 := Z.c 7; have Z_8 := Z.c 8; have Z_9 := Z.c 9; have Z_10 := Z.c 10; have Z_11 := Z.c 11; simp only [List.getElem?_cons_zero, List.getElem?_cons_succ] at Z_0 Z_1 Z_2 Z_3 Z_4 Z_5 Z_6 Z_7 Z_8 Z_9 Z_10 Z_11
    have V_0 := V.c 0; have V_1 := V.c 1; have V_2 := V.c 2; have V_3 := V.c 3; have V_4 := V.c 4; have V_5 := V.c 5; have V_6 := V.c 6; have V_7 := V.c 7; have V_8 := V.c 8; have V_9 := V.c 9; have V_10 := V.c 10; have V_11 := V.c 11; simp only [List.getElem?_cons_zero, List.getElem?_cons_succ] at V_0 V_1 V_2 V_3 V_4 V_5 V_6 V_7 V_8 V_9 V_10 V_11
    go_wp2_with fail
    have h := same_any eo qo g r _ _ false false zi zi w8 hvz hv6
    rw [(sameC_iff _ _).2 rfl] at h
    simp only [unhide Hk] at h
    refine h.mono ?_
    rintro e w9 ⟨rfl, hb9⟩
    replace Z := Z.later hb9
    have HB := hide (hB.trans (hb9.mono hB.size))
    clear Z_0 Z_1 Z_2 Z_3 Z_4 Z_5 Z_6 Z_7 Z_8 Z_9 Z_10 Z_11 V_0 V_1 V_2 V_3 V_4 V_5 V_6 V_7 V_8 V_9 V_10 V_11
    clear hb9 h hB V hvz hv6
    have Z_0 := Z.c 0; have Z_1 := Z.c 1; have Z_2 := Z.c 2; have Z_3 := Z.c 3; have Z_4 := Z.c 4; have Z_5 := Z.c 5; have Z_6 := Z.c 6; have Z_7 := Z.c 7; have Z_8 := Z.c 8; have Z_9 := Z.c 9; have Z_10 := Z.c 10; have Z_11 := Z.c 11; simp only [List.getElem?_cons_zero, List.getElem?_cons_succ] at Z_0 Z_1 Z_2 Z_3 Z_4 Z_5 Z_6 Z_7 Z_8 Z_9 Z_10 Z_11
    cases commit
    · go_wp2
      go_ret
      exact ⟨rfl, unhide HB⟩
    · obtain rfl : pe = 83 := (unhide HP).2 rfl
      go_wp2
      go_ret
      exact ⟨rfl, unhide HB⟩
  · go_wp2_with fail
    generalize w5.alloc _ = W5 at *
    have h := resolve_any eo g _ false zi j.txn.id j.txn.ep commit a W5 hvz (by rw [unhide Hk]; exact hklim)
    rw [(unhide Hag).2.2.1] at h
    simp only [unhide Hk] at h
    refine h.mono ?_
    rintro e w6 ⟨qo, r, rfl, ho6, hb6⟩
    clear C_0 C_1 C_2 C_3 C_4 C_5 C_6 C_7 C_8 C_9 C_10 C_11 J_0 J_1 J_2 J_3 J_4 J_5 J_6 J_7 J_8 J_9 Z_0 Z_1 Z_2 Z_3 Z_4 Z_5 Z_6 Z_7 Z_8 Z_9 Z_10 Z_11 A_0 A_1
    replace J := J.later hb6
    replace Z := Z.later hb6
    replace hvz := hvz.later hb6
    replace hB := hB.trans (hb6.mono hB.size)
    clear hb6 h A q2
    have hBw := hB
    clear hB
    have V := Blk.new w6 #[.slice qo k r, .bool false, .int .i64 zi.txn.id, .int .i64 zi.txn.ep, .string zi.txn.anchor, .int .i64 zi.txn.start.1, .int .i64 zi.txn.start.2, .int .i64 zi.seq, .int .i64 zi.at_.1, .int .i64 zi.at_.2, .string zi.val, .bool zi.gone] 30
    have hB : Below w6.heap.size w6 (w6.alloc (.cells #[.slice qo k r, .bool false, .int .i64 zi.txn.id, .int .i64 zi.txn.ep, .string zi.txn.anchor, .int .i64 zi.txn.start.1, .int .i64 zi.txn.start.2, .int .i64 zi.seq, .int .i64 zi.at_.1, .int .i64 zi.at_.2, .string zi.val, .bool zi.gone] 30)) := (Below.refl w6.heap.size w6).alloc (Nat.le_refl _) _
    replace J := J.later hB
    replace Z := Z.later hB
    replace hvz := hvz.later hB
    have hv6 := ho6.vs.later hB
    replace hB := hBw.trans (hB.mono hBw.size)
    clear hBw ho6
    have Z_0 := Z.c 0; have Z_1 := Z.c 1; have Z_2 := Z.c 2; have Z_3 := Z.c 3; have Z_4 := Z.c 4; have Z_5 := Z.c 5; have Z_6 := Z.c 6; have Z_7 := Z.c 7; have Z_8 := Z.c 8; have Z_9 := Z.c 9; have Z_10 := Z.c 10; have Z_11 := Z.c 11; simp only [List.getElem?_cons_zero, List.getElem?_cons_succ] at Z_0 Z_1 Z_2 Z_3 Z_4 Z_5 Z_6 Z_7 Z_8 Z_9 Z_10 Z_11
    have J_0 := J.c 0; have J_1 := J.c 1; have J_2 := J.c 2; have J_3 := J.c 3; have J_4 := J.c 4; have J_5 := J.c 5; have J_6 := J.c 6; have J_7 := J.c 7; have J_8 := J.c 8; have J_9 := J.c 9; simp only [List.getElem?_cons_zero, List.getElem?_cons_succ] at J_0 J_1 J_2 J_3 J_4 J_5 J_6 J_7 J_8 J_9
    go_wp2_with fail
    generalize w6.alloc _ = W6 at *
    have h := write_any eo g _ false zi j W6 hvz (by rw [unhide Hk]; exact hklim)
    rw [(unhide HP).1] at h
    simp only [unhide Hk] at h
    refine h.mono ?_
    rintro e w7 ⟨so, t, rfl, ho7, hb7⟩
    clear Z_0 Z_1 Z_2 Z_3 Z_4 Z_5 Z_6 Z_7 Z_8 Z_9 Z_10 Z_11 J_0 J_1 J_2 J_3 J_4 J_5 J_6 J_7 J_8 J_9
    replace Z := Z.later hb7
    replace V := V.later hb7
    replace hvz := hvz.later hb7
    replace hv6 := hv6.later hb7
    replace hB := hB.trans (hb7.mono hB.size)
    clear hb7 h J ho7
    have hBw := hB
    clear hB
    have P1 := ((Blk.new w7 #[.slice so pv.length t, .bool po, .int .i64 pi.txn.id, .int .i64 pi.txn.ep, .string pi.txn.anchor, .int .i64 pi.txn.start.1, .int .i64 pi.txn.start.2, .int .i64 pi.seq, .int .i64 pi.at_.1, .int .i64 pi.at_.2, .string pi.val, .bool pi.gone] 30).alloc (.cells #[.int .i64 pa.1, .int .i64 pa.2] 24)).alloc (.cells #[.int .i64 pm.id, .int .i64 pm.ep, .string pm.anchor, .int .i64 pm.start.1, .int .i64 pm.start.2] 26)
    have P2 := (Blk.new (w7.alloc (.cells #[.slice so pv.length t, .bool po, .int .i64 pi.txn.id, .int .i64 pi.txn.ep, .string pi.txn.anchor, .int .i64 pi.txn.start.1, .int .i64 pi.txn.start.2, .int .i64 pi.seq, .int .i64 pi.at_.1, .int .i64 pi.at_.2, .string pi.val, .bool pi.gone] 30)) #[.int .i64 pa.1, .int .i64 pa.2] 24).alloc (.cells #[.int .i64 pm.id, .int .i64 pm.ep, .string pm.anchor, .int .i64 pm.start.1, .int .i64 pm.start.2] 26)
    rw [show (w7.alloc (.cells #[.slice so pv.length t, .bool po, .int .i64 pi.txn.id, .int .i64 pi.txn.ep, .string pi.txn.anchor, .int .i64 pi.txn.start.1, .int .i64 pi.txn.start.2, .int .i64 pi.seq, .int .i64 pi.at_.1, .int .i64 pi.at_.2, .string pi.val, .bool pi.gone] 30)).heap.size = w7.heap.size + 1 by simp] at P2
    have P3 := Blk.new ((w7.alloc (.cells #[.slice so pv.length t, .bool po, .int .i64 pi.txn.id, .int .i64 pi.txn.ep, .string pi.txn.anchor, .int .i64 pi.txn.start.1, .int .i64 pi.txn.start.2, .int .i64 pi.seq, .int .i64 pi.at_.1, .int .i64 pi.at_.2, .string pi.val, .bool pi.gone] 30)).alloc (.cells #[.int .i64 pa.1, .int .i64 pa.2] 24)) #[.int .i64 pm.id, .int .i64 pm.ep, .string pm.anchor, .int .i64 pm.start.1, .int .i64 pm.start.2] 26
    rw [show ((w7.alloc (.cells #[.slice so pv.length t, .bool po, .int .i64 pi.txn.id, .int .i64 pi.txn.ep, .string pi.txn.anchor, .int .i64 pi.txn.start.1, .int .i64 pi.txn.start.2, .int .i64 pi.seq, .int .i64 pi.at_.1, .int .i64 pi.at_.2, .string pi.val, .bool pi.gone] 30)).alloc (.cells #[.int .i64 pa.1, .int .i64 pa.2] 24)).heap.size = w7.heap.size + 1 + 1 by simp] at P3
    have hB : Below w7.heap.size w7 (((w7.alloc (.cells #[.slice so pv.length t, .bool po, .int .i64 pi.txn.id, .int .i64 pi.txn.ep, .string pi.txn.anchor, .int .i64 pi.txn.start.1, .int .i64 pi.txn.start.2, .int .i64 pi.seq, .int .i64 pi.at_.1, .int .i64 pi.at_.2, .string pi.val, .bool pi.gone] 30)).alloc (.cells #[.int .i64 pa.1, .int .i64 pa.2] 24)).alloc (.cells #[.int .i64 pm.id, .int .i64 pm.ep, .string pm.anchor, .int .i64 pm.start.1, .int .i64 pm.start.2] 26)) := (((Below.refl w7.heap.size w7).alloc (Nat.le_refl _) _).alloc (by simp) _).alloc (by simp; omega) _
    replace Z := Z.later hB
    replace V := V.later hB
    replace hvz := hvz.later hB
    replace hv6 := hv6.later hB
    replace hB := hBw.trans (hB.mono hBw.size)
    clear hBw P1 P2 P3
    go_wp2_with fail
    generalize ((w7.alloc _).alloc _).alloc _ = W7 at *
    refine (hA _).mono ?_
    rintro e w8 ⟨rfl, hb8⟩
    replace Z := Z.later hb8
    replace V := V.later hb8
    replace hvz := hvz.later hb8
    replace hv6 := hv6.later hb8
    replace hB := hB.trans (hb8.mono hB.size)
    clear hb8
    have Z_0 := Z.c 0; have Z_1 := Z.c 1; have Z_2 := Z.c 2; have Z_3 := Z.c 3; have Z_4 := Z.c 4; have Z_5 := Z.c 5; have Z_6 := Z.c 6; have Z_7 := Z.c 7; have Z_8 := Z.c 8; have Z_9 := Z.c 9; have Z_10 := Z.c 10; have Z_11 := Z.c 11; simp only [List.getElem?_cons_zero, List.getElem?_cons_succ] at Z_0 Z_1 Z_2 Z_3 Z_4 Z_5 Z_6 Z_7 Z_8 Z_9 Z_10 Z_11
    have V_0 := V.c 0; have V_1 := V.c 1; have V_2 := V.c 2; have V_3 := V.c 3; have V_4 := V.c 4; have V_5 := V.c 5; have V_6 := V.c 6; have V_7 := V.c 7; have V_8 := V.c 8; have V_9 := V.c 9; have V_10 := V.c 10; have V_11 := V.c 11; simp only [List.getElem?_cons_zero, List.getElem?_cons_succ] at V_0 V_1 V_2 V_3 V_4 V_5 V_6 V_7 V_8 V_9 V_10 V_11
    go_wp2_with fail
    have h := same_any eo qo g r _ _ false false zi zi w8 hvz hv6
    rw [(sameC_iff _ _).2 rfl] at h
    simp only [unhide Hk] at h
    refine h.mono ?_
    rintro e w9 ⟨rfl, hb9⟩
    replace Z := Z.later hb9
    have HB := hide (hB.trans (hb9.mono hB.size))
    clear Z_0 Z_1 Z_2 Z_3 Z_4 Z_5 Z_6 Z_7 Z_8 Z_9 Z_10 Z_11 V_0 V_1 V_2 V_3 V_4 V_5 V_6 V_7 V_8 V_9 V_10 V_11
    clear hb9 h hB V hvz hv6
    have Z_0 := Z.c 0; have Z_1 := Z.c 1; have Z_2 := Z.c 2; have Z_3 := Z.c 3; have Z_4 := Z.c 4; have Z_5 := Z.c 5; have Z_6 := Z.c 6; have Z_7 := Z.c 7; have Z_8 := Z.c 8; have Z_9 := Z.c 9; have Z_10 := Z.c 10; have Z_11 := Z.c 11; simp only [List.getElem?_cons_zero, List.getElem?_cons_succ] at Z_0 Z_1 Z_2 Z_3 Z_4 Z_5 Z_6 Z_7 Z_8 Z_9 Z_10 Z_11
    cases commit
    · go_wp2
      go_ret
      exact ⟨rfl, unhide HB⟩
    · obtain rfl : pe = 83 := (unhide HP).2 rfl
      go_wp2
      go_ret
      exact ⟨rfl, unhide HB⟩
  · go_wp2_with fail
    generalize w5.alloc _ = W5 at *
    have h := resolve_any eo g _ false zi j.txn.id j.txn.ep commit a W5 hvz (by rw [unhide Hk]; exact hklim)
    rw [(unhide Hag).2.2.1] at h
    simp only [unhide Hk] at h
    refine h.mono ?_
    rintro e w6 ⟨qo, r, rfl, ho6, hb6⟩
    clear C_0 C_1 C_2 C_3 C_4 C_5 C_6 C_7 C_8 C_9 C_10 C_11 J_0 J_1 J_2 J_3 J_4 J_5 J_6 J_7 J_8 J_9 Z_0 Z_1 Z_2 Z_3 Z_4 Z_5 Z_6 Z_7 Z_8 Z_9 Z_10 Z_11 A_0 A_1
    replace J := J.later hb6
    replace Z := Z.later hb6
    replace hvz := hvz.later hb6
    replace hB := hB.trans (hb6.mono hB.size)
    clear hb6 h A q2
    have hBw := hB
    clear hB
    have V := Blk.new w6 #[.slice qo k r, .bool false, .int .i64 zi.txn.id, .int .i64 zi.txn.ep, .string zi.txn.anchor, .int .i64 zi.txn.start.1, .int .i64 zi.txn.start.2, .int .i64 zi.seq, .int .i64 zi.at_.1, .int .i64 zi.at_.2, .string zi.val, .bool zi.gone] 30
    have hB : Below w6.heap.size w6 (w6.alloc (.cells #[.slice qo k r, .bool false, .int .i64 zi.txn.id, .int .i64 zi.txn.ep, .string zi.txn.anchor, .int .i64 zi.txn.start.1, .int .i64 zi.txn.start.2, .int .i64 zi.seq, .int .i64 zi.at_.1, .int .i64 zi.at_.2, .string zi.val, .bool zi.gone] 30)) := (Below.refl w6.heap.size w6).alloc (Nat.le_refl _) _
    replace J := J.later hB
    replace Z := Z.later hB
    replace hvz := hvz.later hB
    have hv6 := ho6.vs.later hB
    replace hB := hBw.trans (hB.mono hBw.size)
    clear hBw ho6
    have Z_0 := Z.c 0; have Z_1 := Z.c 1; have Z_2 := Z.c 2; have Z_3 := Z.c 3; have Z_4 := Z.c 4; have Z_5 := Z.c 5; have Z_6 := Z.c 6; have Z_7 := Z.c 7; have Z_8 := Z.c 8; have Z_9 := Z.c 9; have Z_10 := Z.c 10; have Z_11 := Z.c 11; simp only [List.getElem?_cons_zero, List.getElem?_cons_succ] at Z_0 Z_1 Z_2 Z_3 Z_4 Z_5 Z_6 Z_7 Z_8 Z_9 Z_10 Z_11
    have J_0 := J.c 0; have J_1 := J.c 1; have J_2 := J.c 2; have J_3 := J.c 3; have J_4 := J.c 4; have J_5 := J.c 5; have J_6 := J.c 6; have J_7 := J.c 7; have J_8 := J.c 8; have J_9 := J.c 9; simp only [List.getElem?_cons_zero, List.getElem?_cons_succ] at J_0 J_1 J_2 J_3 J_4 J_5 J_6 J_7 J_8 J_9
    go_wp2_with fail
    generalize w6.alloc _ = W6 at *
    have h := write_any eo g _ false zi j W6 hvz (by rw [unhide Hk]; exact hklim)
    rw [(unhide HP).1] at h
    simp only [unhide Hk] at h
    refine h.mono ?_
    rintro e w7 ⟨so, t, rfl, ho7, hb7⟩
    clear Z_0 Z_1 Z_2 Z_3 Z_4 Z_5 Z_6 Z_7 Z_8 Z_9 Z_10 Z_11 J_0 J_1 J_2 J_3 J_4 J_5 J_6 J_7 J_8 J_9
    replace Z := Z.later hb7
    replace V := V.later hb7
    replace hvz := hvz.later hb7
    replace hv6 := hv6.later hb7
    replace hB := hB.trans (hb7.mono hB.size)
    clear hb7 h J ho7
    have hBw := hB
    clear hB
    have P1 := ((Blk.new w7 #[.slice so pv.length t, .bool po, .int .i64 pi.txn.id, .int .i64 pi.txn.ep, .string pi.txn.anchor, .int .i64 pi.txn.start.1, .int .i64 pi.txn.start.2, .int .i64 pi.seq, .int .i64 pi.at_.1, .int .i64 pi.at_.2, .string pi.val, .bool pi.gone] 30).alloc (.cells #[.int .i64 pa.1, .int .i64 pa.2] 24)).alloc (.cells #[.int .i64 pm.id, .int .i64 pm.ep, .string pm.anchor, .int .i64 pm.start.1, .int .i64 pm.start.2] 26)
    have P2 := (Blk.new (w7.alloc (.cells #[.slice so pv.length t, .bool po, .int .i64 pi.txn.id, .int .i64 pi.txn.ep, .string pi.txn.anchor, .int .i64 pi.txn.start.1, .int .i64 pi.txn.start.2, .int .i64 pi.seq, .int .i64 pi.at_.1, .int .i64 pi.at_.2, .string pi.val, .bool pi.gone] 30)) #[.int .i64 pa.1, .int .i64 pa.2] 24).alloc (.cells #[.int .i64 pm.id, .int .i64 pm.ep, .string pm.anchor, .int .i64 pm.start.1, .int .i64 pm.start.2] 26)
    rw [show (w7.alloc (.cells #[.slice so pv.length t, .bool po, .int .i64 pi.txn.id, .int .i64 pi.txn.ep, .string pi.txn.anchor, .int .i64 pi.txn.start.1, .int .i64 pi.txn.start.2, .int .i64 pi.seq, .int .i64 pi.at_.1, .int .i64 pi.at_.2, .string pi.val, .bool pi.gone] 30)).heap.size = w7.heap.size + 1 by simp] at P2
    have P3 := Blk.new ((w7.alloc (.cells #[.slice so pv.length t, .bool po, .int .i64 pi.txn.id, .int .i64 pi.txn.ep, .string pi.txn.anchor, .int .i64 pi.txn.start.1, .int .i64 pi.txn.start.2, .int .i64 pi.seq, .int .i64 pi.at_.1, .int .i64 pi.at_.2, .string pi.val, .bool pi.gone] 30)).alloc (.cells #[.int .i64 pa.1, .int .i64 pa.2] 24)) #[.int .i64 pm.id, .int .i64 pm.ep, .string pm.anchor, .int .i64 pm.start.1, .int .i64 pm.start.2] 26
    rw [show ((w7.alloc (.cells #[.slice so pv.length t, .bool po, .int .i64 pi.txn.id, .int .i64 pi.txn.ep, .string pi.txn.anchor, .int .i64 pi.txn.start.1, .int .i64 pi.txn.start.2, .int .i64 pi.seq, .int .i64 pi.at_.1, .int .i64 pi.at_.2, .string pi.val, .bool pi.gone] 30)).alloc (.cells #[.int .i64 pa.1, .int .i64 pa.2] 24)).heap.size = w7.heap.size + 1 + 1 by simp] at P3
    have hB : Below w7.heap.size w7 (((w7.alloc (.cells #[.slice so pv.length t, .bool po, .int .i64 pi.txn.id, .int .i64 pi.txn.ep, .string pi.txn.anchor, .int .i64 pi.txn.start.1, .int .i64 pi.txn.start.2, .int .i64 pi.seq, .int .i64 pi.at_.1, .int .i64 pi.at_.2, .string pi.val, .bool pi.gone] 30)).alloc (.cells #[.int .i64 pa.1, .int .i64 pa.2] 24)).alloc (.cells #[.int .i64 pm.id, .int .i64 pm.ep, .string pm.anchor, .int .i64 pm.start.1, .int .i64 pm.start.2] 26)) := (((Below.refl w7.heap.size w7).alloc (Nat.le_refl _) _).alloc (by simp) _).alloc (by simp; omega) _
    replace Z := Z.later hB
    replace V := V.later hB
    replace hvz := hvz.later hB
    replace hv6 := hv6.later hB
    replace hB := hBw.trans (hB.mono hBw.size)
    clear hBw P1 P2 P3
    go_wp2_with fail
    generalize ((w7.alloc _).alloc _).alloc _ = W7 at *
    refine (hA _).mono ?_
    rintro e w8 ⟨rfl, hb8⟩
    replace Z := Z.later hb8
    replace V := V.later hb8
    replace hvz := hvz.later hb8
    replace hv6 := hv6.later hb8
    replace hB := hB.trans (hb8.mono hB.size)
    clear hb8
    have Z_0 := Z.c 0; have Z_1 := Z.c 1; have Z_2 := Z.c 2; have Z_3 := Z.c 3; have Z_4 := Z.c 4; have Z_5 := Z.c 5; have Z_6 := Z.c 6; have Z_7 := Z.c 7; have Z_8 := Z.c 8; have Z_9 := Z.c 9; have Z_10 := Z.c 10; have Z_11 := Z.c 11; simp only [List.getElem?_cons_zero, List.getElem?_cons_succ] at Z_0 Z_1 Z_2 Z_3 Z_4 Z_5 Z_6 Z_7 Z_8 Z_9 Z_10 Z_11
    have V_0 := V.c 0; have V_1 := V.c 1; have V_2 := V.c 2; have V_3 := V.c 3; have V_4 := V.c 4; have V_5 := V.c 5; have V_6 := V.c 6; have V_7 := V.c 7; have V_8 := V.c 8; have V_9 := V.c 9; have V_10 := V.c 10; have V_11 := V.c 11; simp only [List.getElem?_cons_zero, List.getElem?_cons_succ] at V_0 V_1 V_2 V_3 V_4 V_5 V_6 V_7 V_8 V_9 V_10 V_11
    go_wp2_with fail
    have h := same_any eo qo g r _ _ false false zi zi w8 hvz hv6
    rw [(sameC_iff _ _).2 rfl] at h
    simp only [unhide Hk] at h
    refine h.mono ?_
    rintro e w9 ⟨rfl, hb9⟩
    replace Z := Z.later hb9
    have HB := hide (hB.trans (hb9.mono hB.size))
    clear Z_0 Z_1 Z_2 Z_3 Z_4 Z_5 Z_6 Z_7 Z_8 Z_9 Z_10 Z_11 V_0 V_1 V_2 V_3 V_4 V_5 V_6 V_7 V_8 V_9 V_10 V_11
    clear hb9 h hB V hvz hv6
    have Z_0 := Z.c 0; have Z_1 := Z.c 1; have Z_2 := Z.c 2; have Z_3 := Z.c 3; have Z_4 := Z.c 4; have Z_5 := Z.c 5; have Z_6 := Z.c 6; have Z_7 := Z.c 7; have Z_8 := Z.c 8; have Z_9 := Z.c 9; have Z_10 := Z.c 10; have Z_11 := Z.c 11; simp only [List.getElem?_cons_zero, List.getElem?_cons_succ] at Z_0 Z_1 Z_2 Z_3 Z_4 Z_5 Z_6 Z_7 Z_8 Z_9 Z_10 Z_11
    cases commit
    · go_wp2
      go_ret
      exact ⟨rfl, unhide HB⟩
    · obtain rfl : pe = 83 := (unhide HP).2 rfl
      go_wp2
      go_ret
      exact ⟨rfl, unhide HB⟩
  · go_wp2_with fail
    generalize w5.alloc _ = W5 at *
    refine (hA _).mono ?_
    rintro e wq ⟨rfl, hbq⟩
    have HB := hide (hB.trans (hbq.mono hB.size))
    clear hbq hB
    go_wp2
    go_ret
    exact ⟨rfl, unhide HB⟩
end

end Go.Proofs.Ytcahmnpoajnmpaa
