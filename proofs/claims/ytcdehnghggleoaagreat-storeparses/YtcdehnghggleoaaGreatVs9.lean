/-
  The contract of version.Read. No law is proved here.
-/
import Derived.Test.YtcdehnghggleoaaGreatGz5
namespace Go.Proofs.YtcdehnghggleoaaGreat
open Go.RowKit
set_option linter.unusedVariables false

theorem Blk.drew {w : World} {B : Nat} {cs : List Value} (h : Blk w B cs) : Blk w.drew B cs := ⟨h.c, h.f, h.lt⟩

/-- The version ahead of a place. -/
def ahead (vs : List Ver) (k : Nat) : Ver := (vs[k - 1]?).getD Ver.zero
theorem ahead_at {vs : List Ver} {k : Nat} (h : k - 1 < vs.length) : ahead vs k = vs[k - 1] := by
  unfold ahead
  rw [List.getElem?_eq_getElem h]; rfl
/-- A version's stamp alone. -/
def bare (v : Ver) : Ver := ⟨v.at_, ⟨#[]⟩, false, 0⟩
/-- What Read answers. -/
def readR (vs : List Ver) (o : Bool) (i : Itn) (a l : Stp) (id ep : Int) : Ver × Bool × Met × Int :=
  if (o && decide (i.txn.id = id)) = true ∧ i.txn.ep = ep then foundV (mkV i i.at_)
  else if (wayC o i id l).2 = 0 then
    (if srch vs a < srch vs l then (bare (ahead vs (srch vs l)), false, Met.zero, 82)
     else if srch vs a = 0 then (Ver.zero, false, Met.zero, 0) else foundV (ahead vs (srch vs a)))
  else (Ver.zero, false, (wayC o i id l).1, (wayC o i id l).2)

theorem filter_last (vs : List Ver) (p : Ver → Bool) (k : Nat) (hk : k < vs.length) (h1 : p vs[k] = true) (h2 : ∀ j (h : j < vs.length), k < j → p vs[j] = false) : (vs.filter p).getLast? = some vs[k] := by
  have e : vs = vs.take k ++ (vs[k] :: vs.drop (k + 1)) := by rw [← List.drop_eq_getElem_cons hk, List.take_append_drop]
  have hd : (vs.drop (k + 1)).filter p = [] := by
    rw [List.filter_eq_nil_iff]
    intro v hv
    obtain ⟨j, hj, rfl⟩ := List.getElem_of_mem hv
    rw [List.length_drop] at hj
    rw [List.getElem_drop, h2 (k + 1 + j) (by omega) (by omega)]
    simp
  have : vs.filter p = (vs.take k).filter p ++ [vs[k]] := by
    conv => lhs; rw [e]
    rw [List.filter_append, List.filter_cons_of_pos h1, hd]
  rw [this]
  simp

theorem doubt_cnt (vs : List Ver) (a l : Stp) (h : riseB vs = true) : doubtV vs a l = if cntV vs a < cntV vs l then some (ahead vs (cntV vs l)) else none := by
  have hl := cntV_le vs l
  unfold doubtV
  split
  · rename_i hc
    have hk : cntV vs l - 1 < vs.length := by omega
    rw [ahead_at hk]
    refine filter_last vs _ _ hk ?_ (fun j hj hlt => ?_)
    · have h1 := (rise_cnt vs l h _ hk).1 (by omega)
      have h2 := rise_cnt vs a h _ hk
      have h3 : upB vs[cntV vs l - 1].at_ a = false := by
        cases hh : upB vs[cntV vs l - 1].at_ a
        · rfl
        · have := h2.2 hh; omega
      rw [h1, h3]; rfl
    · have h2 := rise_cnt vs l h j hj
      have h3 : upB vs[j].at_ l = false := by
        cases hh : upB vs[j].at_ l
        · rfl
        · have := h2.2 hh; omega
      rw [h3]; simp
  · rename_i hc
    rw [List.getLast?_eq_none_iff, List.filter_eq_nil_iff]
    intro v hv h0
    exact hc ((cnt_any h a l).1 (List.any_eq_true.2 ⟨v, hv, h0⟩))
theorem best_cnt (vs : List Ver) (a : Stp) (h : riseB vs = true) : bestV vs a = if cntV vs a = 0 then none else some (ahead vs (cntV vs a)) := by
  have hl := cntV_le vs a
  rw [bestV_cnt vs a h]
  split
  · rename_i h0
    rw [h0]; rfl
  · rename_i h0
    rw [ahead_at (by omega), List.getLast?_eq_getElem?, List.length_take_of_le hl]
    rw [List.getElem?_eq_getElem (by rw [List.length_take_of_le hl]; omega), List.getElem_take]

theorem readR_right {vs : List Ver} (hr : riseB vs = true) (o : Bool) (i : Itn) (a l : Stp) (id ep : Int) : readR vs o i a l id ep = readC ⟨vs, o, i⟩ a l id ep := by
  unfold readR readC
  simp only
  rw [srch_cnt a hr, srch_cnt l hr, doubt_cnt vs a l hr, best_cnt vs a hr]
  by_cases h1 : o = true ∧ i.txn.id = id ∧ i.txn.ep = ep
  · obtain ⟨rfl, rfl, rfl⟩ := h1
    rw [if_pos (by simp), if_pos ⟨rfl, rfl, rfl⟩]
    unfold foundV mkV
    cases hg : i.gone <;> simp
  · rw [if_neg (fun k => h1 (by simpa [and_assoc] using k)), if_neg h1]
    unfold wayC
    by_cases h2 : o = true ∧ i.txn.id ≠ id ∧ upB i.at_ l = true
    · rw [if_pos h2, if_neg (by simp), if_pos h2]
    · rw [if_neg h2, if_pos rfl, if_neg h2]
      by_cases h3 : cntV vs a < cntV vs l
      · rw [if_pos h3, if_pos h3]; rfl
      · rw [if_neg h3, if_neg h3]
        by_cases h4 : cntV vs a = 0
        · rw [if_pos h4, if_pos h4]
        · rw [if_neg h4, if_neg h4]; rfl

section
set_option maxRecDepth 100000
set_option maxHeartbeats 1000000

theorem read_any (ao : Option Addr) (c : Nat) (vs : List Ver) (o : Bool) (i : Itn) (a l : Stp) (id ep : Int) (w : World) (hv : Vs w ao c vs) (hlim : vs.length ≤ 2932031007400) :
    Calls Tryz.prog 38 #[(.agg #[.slice ao vs.length c, .bool o, .int .i64 i.txn.id, .int .i64 i.txn.ep, .string i.txn.anchor, .int .i64 i.txn.start.1, .int .i64 i.txn.start.2, .int .i64 i.seq, .int .i64 i.at_.1, .int .i64 i.at_.2, .string i.val, .bool i.gone]), (.agg #[.int .i64 a.1, .int .i64 a.2]), (.agg #[.int .i64 l.1, .int .i64 l.2]), .int .i64 id, .int .i64 ep] w fun e w' => e = .returned (.tuple #[(.agg #[.int .i64 (readR vs o i a l id ep).1.at_.1, .int .i64 (readR vs o i a l id ep).1.at_.2, .string (readR vs o i a l id ep).1.val, .bool (readR vs o i a l id ep).1.gone, .int .i64 (readR vs o i a l id ep).1.by_]), .bool (readR vs o i a l id ep).2.1, (.agg #[.int .i64 (readR vs o i a l id ep).2.2.1.id, .int .i64 (readR vs o i a l id ep).2.2.1.ep, .string (readR vs o i a l id ep).2.2.1.anchor, .int .i64 (readR vs o i a l id ep).2.2.1.start.1, .int .i64 (readR vs o i a l id ep).2.2.1.start.2]), .int .i64 (readR vs o i a l id ep).2.2.2]) ∧ Below w.heap.size w w' := by
  have hO := fun w => isown_any ao vs.length c o i id w
  have hW := fun w => way_any ao vs.length c o i id l w
  have hNA := fun w' (hb : Below w.heap.size w w') => notabove_any ao c vs o i a w' (hv.later hb) hlim
  have hNL := fun w' (hb : Below w.heap.size w w') => notabove_any ao c vs o i l w' (hv.later hb) hlim
  have hka := srch_le vs a
  have hkl := srch_le vs l
  obtain ⟨R, e⟩ : ∃ R, readR vs o i a l id ep = R := ⟨_, rfl⟩
  rw [e]
  unfold readR at e
  have hcase : wayC o i id l = (Met.zero, 0) ∨ wayC o i id l = (i.txn, 81) := by
    unfold wayC
    split
    · exact .inr rfl
    · exact .inl rfl
  have Hv := hide hv
  generalize (o && decide (i.txn.id = id)) = P at *
  generalize wayC o i id l = Q at *
  generalize srch vs a = ka at *
  generalize srch vs l = kl at *
  obtain ⟨n, hn⟩ : ∃ n, vs.length = n := ⟨_, rfl⟩
  have Hn := hide hn
  simp only [hn] at hO hW hNA hNL hka hkl hlim ⊢
  have C := ((((Blk.new w #[.slice ao n c, .bool o, .int .i64 i.txn.id, .int .i64 i.txn.ep, .string i.txn.anchor, .int .i64 i.txn.start.1, .int .i64 i.txn.start.2, .int .i64 i.seq, .int .i64 i.at_.1, .int .i64 i.at_.2, .string i.val, .bool i.gone] 61).alloc (.cells #[.int .i64 a.1, .int .i64 a.2] 36)).alloc (.cells #[.int .i64 l.1, .int .i64 l.2] 36)).alloc (.cells #[.int .i64 0, .int .i64 0, .string ⟨#[]⟩, .bool false, .int .i64 0] 97)).alloc (.cells #[.int .i64 0, .int .i64 0, .string ⟨#[]⟩, .int .i64 0, .int .i64 0] 38)
  have A := (((Blk.new (w.alloc (.cells #[.slice ao n c, .bool o, .int .i64 i.txn.id, .int .i64 i.txn.ep, .string i.txn.anchor, .int .i64 i.txn.start.1, .int .i64 i.txn.start.2, .int .i64 i.seq, .int .i64 i.at_.1, .int .i64 i.at_.2, .string i.val, .bool i.gone] 61)) #[.int .i64 a.1, .int .i64 a.2] 36).alloc (.cells #[.int .i64 l.1, .int .i64 l.2] 36)).alloc (.cells #[.int .i64 0, .int .i64 0, .string ⟨#[]⟩, .bool false, .int .i64 0] 97)).alloc (.cells #[.int .i64 0, .int .i64 0, .string ⟨#[]⟩, .int .i64 0, .int .i64 0] 38)
  rw [show (w.alloc (.cells #[.slice ao n c, .bool o, .int .i64 i.txn.id, .int .i64 i.txn.ep, .string i.txn.anchor, .int .i64 i.txn.start.1, .int .i64 i.txn.start.2, .int .i64 i.seq, .int .i64 i.at_.1, .int .i64 i.at_.2, .string i.val, .bool i.gone] 61)).heap.size = w.heap.size + 1 by simp] at A
  have L := ((Blk.new ((w.alloc (.cells #[.slice ao n c, .bool o, .int .i64 i.txn.id, .int .i64 i.txn.ep, .string i.txn.anchor, .int .i64 i.txn.start.1, .int .i64 i.txn.start.2, .int .i64 i.seq, .int .i64 i.at_.1, .int .i64 i.at_.2, .string i.val, .bool i.gone] 61)).alloc (.cells #[.int .i64 a.1, .int .i64 a.2] 36)) #[.int .i64 l.1, .int .i64 l.2] 36).alloc (.cells #[.int .i64 0, .int .i64 0, .string ⟨#[]⟩, .bool false, .int .i64 0] 97)).alloc (.cells #[.int .i64 0, .int .i64 0, .string ⟨#[]⟩, .int .i64 0, .int .i64 0] 38)
  rw [show ((w.alloc (.cells #[.slice ao n c, .bool o, .int .i64 i.txn.id, .int .i64 i.txn.ep, .string i.txn.anchor, .int .i64 i.txn.start.1, .int .i64 i.txn.start.2, .int .i64 i.seq, .int .i64 i.at_.1, .int .i64 i.at_.2, .string i.val, .bool i.gone] 61)).alloc (.cells #[.int .i64 a.1, .int .i64 a.2] 36)).heap.size = w.heap.size + 1 + 1 by simp] at L
  have V := (Blk.new (((w.alloc (.cells #[.slice ao n c, .bool o, .int .i64 i.txn.id, .int .i64 i.txn.ep, .string i.txn.anchor, .int .i64 i.txn.start.1, .int .i64 i.txn.start.2, .int .i64 i.seq, .int .i64 i.at_.1, .int .i64 i.at_.2, .string i.val, .bool i.gone] 61)).alloc (.cells #[.int .i64 a.1, .int .i64 a.2] 36)).alloc (.cells #[.int .i64 l.1, .int .i64 l.2] 36)) #[.int .i64 0, .int .i64 0, .string ⟨#[]⟩, .bool false, .int .i64 0] 97).alloc (.cells #[.int .i64 0, .int .i64 0, .string ⟨#[]⟩, .int .i64 0, .int .i64 0] 38)
  rw [show (((w.alloc (.cells #[.slice ao n c, .bool o, .int .i64 i.txn.id, .int .i64 i.txn.ep, .string i.txn.anchor, .int .i64 i.txn.start.1, .int .i64 i.txn.start.2, .int .i64 i.seq, .int .i64 i.at_.1, .int .i64 i.at_.2, .string i.val, .bool i.gone] 61)).alloc (.cells #[.int .i64 a.1, .int .i64 a.2] 36)).alloc (.cells #[.int .i64 l.1, .int .i64 l.2] 36)).heap.size = w.heap.size + 1 + 1 + 1 by simp] at V
  have M := Blk.new ((((w.alloc (.cells #[.slice ao n c, .bool o, .int .i64 i.txn.id, .int .i64 i.txn.ep, .string i.txn.anchor, .int .i64 i.txn.start.1, .int .i64 i.txn.start.2, .int .i64 i.seq, .int .i64 i.at_.1, .int .i64 i.at_.2, .string i.val, .bool i.gone] 61)).alloc (.cells #[.int .i64 a.1, .int .i64 a.2] 36)).alloc (.cells #[.int .i64 l.1, .int .i64 l.2] 36)).alloc (.cells #[.int .i64 0, .int .i64 0, .string ⟨#[]⟩, .bool false, .int .i64 0] 97)) #[.int .i64 0, .int .i64 0, .string ⟨#[]⟩, .int .i64 0, .int .i64 0] 38
  rw [show ((((w.alloc (.cells #[.slice ao n c, .bool o, .int .i64 i.txn.id, .int .i64 i.txn.ep, .string i.txn.anchor, .int .i64 i.txn.start.1, .int .i64 i.txn.start.2, .int .i64 i.seq, .int .i64 i.at_.1, .int .i64 i.at_.2, .string i.val, .bool i.gone] 61)).alloc (.cells #[.int .i64 a.1, .int .i64 a.2] 36)).alloc (.cells #[.int .i64 l.1, .int .i64 l.2] 36)).alloc (.cells #[.int .i64 0, .int .i64 0, .string ⟨#[]⟩, .bool false, .int .i64 0] 97)).heap.size = w.heap.size + 1 + 1 + 1 + 1 by simp] at M
  have hB : Below w.heap.size w (((((w.alloc (.cells #[.slice ao n c, .bool o, .int .i64 i.txn.id, .int .i64 i.txn.ep, .string i.txn.anchor, .int .i64 i.txn.start.1, .int .i64 i.txn.start.2, .int .i64 i.seq, .int .i64 i.at_.1, .int .i64 i.at_.2, .string i.val, .bool i.gone] 61)).alloc (.cells #[.int .i64 a.1, .int .i64 a.2] 36)).alloc (.cells #[.int .i64 l.1, .int .i64 l.2] 36)).alloc (.cells #[.int .i64 0, .int .i64 0, .string ⟨#[]⟩, .bool false, .int .i64 0] 97)).alloc (.cells #[.int .i64 0, .int .i64 0, .string ⟨#[]⟩, .int .i64 0, .int .i64 0] 38)) := (((((Below.refl w.heap.size w).alloc (Nat.le_refl _) _).alloc (by simp) _).alloc (by simp; omega) _).alloc (by simp; omega) _).alloc (by simp; omega) _
  clear hv hn
  have HBox := hide (And.intro C (And.intro A (And.intro L (And.intro V M))))
  have own : P = true ∧ i.txn.ep = ep → Calls Tryz.prog 38 #[(.agg #[.slice ao n c, .bool o, .int .i64 i.txn.id, .int .i64 i.txn.ep, .string i.txn.anchor, .int .i64 i.txn.start.1, .int .i64 i.txn.start.2, .int .i64 i.seq, .int .i64 i.at_.1, .int .i64 i.at_.2, .string i.val, .bool i.gone]), (.agg #[.int .i64 a.1, .int .i64 a.2]), (.agg #[.int .i64 l.1, .int .i64 l.2]), .int .i64 id, .int .i64 ep] w fun e w' => e = .returned (.tuple #[(.agg #[.int .i64 R.1.at_.1, .int .i64 R.1.at_.2, .string R.1.val, .bool R.1.gone, .int .i64 R.1.by_]), .bool R.2.1, (.agg #[.int .i64 R.2.2.1.id, .int .i64 R.2.2.1.ep, .string R.2.2.1.anchor, .int .i64 R.2.2.1.start.1, .int .i64 R.2.2.1.start.2]), .int .i64 R.2.2.2]) ∧ Below w.heap.size w w' := by
    rintro ⟨rfl, rfl⟩
    rw [if_pos ⟨rfl, rfl⟩] at e
    have hD := fun w => decided_any i i.at_ w
    have hF := fun w => found_any (mkV i i.at_) w
    rw [e] at hF
    clear e hW hNA hNL A L
    go_enter Tryz.func38, Tryz.ntmps38
    go_wp2_with fail
    generalize ((((w.alloc _).alloc _).alloc _).alloc _).alloc _ = W at *
    refine (hO _).mono ?_
    rintro e w1 ⟨rfl, hb1⟩
    replace C := C.later hb1
    replace V := V.later hb1
    replace M := M.later hb1
    replace hB := hB.trans (hb1.mono hB.size)
    clear hb1 hO
    have C_0 := C.c 0; have C_1 := C.c 1; have C_2 := C.c 2; have C_3 := C.c 3; have C_4 := C.c 4; have C_5 := C.c 5; have C_6 := C.c 6; have C_7 := C.c 7; have C_8 := C.c 8; have C_9 := C.c 9; have C_10 := C.c 10; have C_11 := C.c 11; simp only [List.getElem?_cons_zero, List.getElem?_cons_succ] at C_0 C_1 C_2 C_3 C_4 C_5 C_6 C_7 C_8 C_9 C_10 C_11
    go_wp2_with fail
    refine (hD _).mono ?_
    rintro e w2 ⟨rfl, hb2⟩
    replace V := V.later hb2
    replace M := M.later hb2
    replace hB := hB.trans (hb2.mono hB.size)
    clear C_0 C_1 C_2 C_3 C_4 C_5 C_6 C_7 C_8 C_9 C_10 C_11
    clear hb2 C
    go_wp2_with fail
    refine (hF _).mono ?_
    rintro e w3 ⟨rfl, hb3⟩
    replace V := V.later hb3
    replace M := M.later hb3
    have HB := hide (hB.trans (hb3.mono hB.size))
    clear hb3 hB
    have V_0 := V.c 0; have V_1 := V.c 1; have V_2 := V.c 2; have V_3 := V.c 3; have V_4 := V.c 4; simp only [List.getElem?_cons_zero, List.getElem?_cons_succ] at V_0 V_1 V_2 V_3 V_4
    have M_0 := M.c 0; have M_1 := M.c 1; have M_2 := M.c 2; have M_3 := M.c 3; have M_4 := M.c 4; simp only [List.getElem?_cons_zero, List.getElem?_cons_succ] at M_0 M_1 M_2 M_3 M_4
    have Vf := V.f
    have Mf := M.f
    go_wp2
    have q1 := Blk.others (by omega) [.int .i64 R.2.2.1.id, .int .i64 R.2.2.1.ep, .string R.2.2.1.anchor, .int .i64 R.2.2.1.start.1, .int .i64 R.2.2.1.start.2] (C := w.heap.size + 1 + 1 + 1 + 1) 0 (V.all [.int .i64 R.1.at_.1, .int .i64 R.1.at_.2, .string R.1.val, .bool R.1.gone, .int .i64 R.1.by_] rfl)
    have q2 := (Blk.others (by omega) [.int .i64 R.1.at_.1, .int .i64 R.1.at_.2, .string R.1.val, .bool R.1.gone, .int .i64 R.1.by_] (C := w.heap.size + 1 + 1 + 1) 0 M).all [.int .i64 R.2.2.1.id, .int .i64 R.2.2.1.ep, .string R.2.2.1.anchor, .int .i64 R.2.2.1.start.1, .int .i64 R.2.2.1.start.2] rfl
    exact bodyPost_ret (results_vbme Tryz.results38 R.1 R.2.2.1 rfl rfl rfl rfl q1 q2) rfl ⟨rfl, below_setAll (by omega) [.int .i64 R.2.2.1.id, .int .i64 R.2.2.1.ep, .string R.2.2.1.anchor, .int .i64 R.2.2.1.start.1, .int .i64 R.2.2.1.start.2] 0 (below_setAll (by omega) [.int .i64 R.1.at_.1, .int .i64 R.1.at_.2, .string R.1.val, .bool R.1.gone, .int .i64 R.1.by_] 0 (unhide HB))⟩
  by_cases hP : P = true ∧ i.txn.ep = ep
  · exact own hP
  rw [if_neg hP] at e
  have hep : P = true → (i.txn.ep == ep) = false := fun h => by
    have : ¬ i.txn.ep = ep := fun h2 => hP ⟨h, h2⟩
    simpa using this
  clear own hP
  rcases hcase with rfl | rfl
  · rw [if_pos rfl] at e
    have HE := hide e
    clear e HBox
    cases P
    all_goals
      try have hep := hep rfl
      go_enter Tryz.func38, Tryz.ntmps38
      go_wp2_with fail
      generalize ((((w.alloc _).alloc _).alloc _).alloc _).alloc _ = W at *
      refine (hO _).mono ?_
      rintro e w1 ⟨rfl, hb1⟩
      replace C := C.later hb1
      replace A := A.later hb1
      replace L := L.later hb1
      replace V := V.later hb1
      replace M := M.later hb1
      replace hB := hB.trans (hb1.mono hB.size)
      clear hb1 hO
      have C_0 := C.c 0; have C_1 := C.c 1; have C_2 := C.c 2; have C_3 := C.c 3; have C_4 := C.c 4; have C_5 := C.c 5; have C_6 := C.c 6; have C_7 := C.c 7; have C_8 := C.c 8; have C_9 := C.c 9; have C_10 := C.c 10; have C_11 := C.c 11; simp only [List.getElem?_cons_zero, List.getElem?_cons_succ] at C_0 C_1 C_2 C_3 C_4 C_5 C_6 C_7 C_8 C_9 C_10 C_11
      have L_0 := L.c 0; have L_1 := L.c 1; simp only [List.getElem?_cons_zero, List.getElem?_cons_succ] at L_0 L_1
      go_wp2_with fail
      refine (hW _).mono ?_
      rintro e w2 ⟨rfl, hb2⟩
      clear C_0 C_1 C_2 C_3 C_4 C_5 C_6 C_7 C_8 C_9 C_10 C_11 L_0 L_1
      replace C := (C.later hb2).alloc (.cells #[.int .i64 Met.zero.id, .int .i64 Met.zero.ep, .string Met.zero.anchor, .int .i64 Met.zero.start.1, .int .i64 Met.zero.start.2] 38)
      replace A := (A.later hb2).alloc (.cells #[.int .i64 Met.zero.id, .int .i64 Met.zero.ep, .string Met.zero.anchor, .int .i64 Met.zero.start.1, .int .i64 Met.zero.start.2] 38)
      replace L := (L.later hb2).alloc (.cells #[.int .i64 Met.zero.id, .int .i64 Met.zero.ep, .string Met.zero.anchor, .int .i64 Met.zero.start.1, .int .i64 Met.zero.start.2] 38)
      replace V := (V.later hb2).alloc (.cells #[.int .i64 Met.zero.id, .int .i64 Met.zero.ep, .string Met.zero.anchor, .int .i64 Met.zero.start.1, .int .i64 Met.zero.start.2] 38)
      replace M := (M.later hb2).alloc (.cells #[.int .i64 Met.zero.id, .int .i64 Met.zero.ep, .string Met.zero.anchor, .int .i64 Met.zero.start.1, .int .i64 Met.zero.start.2] 38)
      replace hB := (hB.trans (hb2.mono hB.size)).alloc (hB.trans (hb2.mono hB.size)).size (.cells #[.int .i64 Met.zero.id, .int .i64 Met.zero.ep, .string Met.zero.anchor, .int .i64 Met.zero.start.1, .int .i64 Met.zero.start.2] 38)
      clear hb2 hW
      go_wp2_with fail
      generalize w2.alloc _ = W2 at *
      have C_0 := fun x : Later W2 => (C.later x.below).c 0; have C_1 := fun x : Later W2 => (C.later x.below).c 1; have C_2 := fun x : Later W2 => (C.later x.below).c 2; have C_3 := fun x : Later W2 => (C.later x.below).c 3; have C_4 := fun x : Later W2 => (C.later x.below).c 4; have C_5 := fun x : Later W2 => (C.later x.below).c 5; have C_6 := fun x : Later W2 => (C.later x.below).c 6; have C_7 := fun x : Later W2 => (C.later x.below).c 7; have C_8 := fun x : Later W2 => (C.later x.below).c 8; have C_9 := fun x : Later W2 => (C.later x.below).c 9; have C_10 := fun x : Later W2 => (C.later x.below).c 10; have C_11 := fun x : Later W2 => (C.later x.below).c 11; simp only [List.getElem?_cons_zero, List.getElem?_cons_succ] at C_0 C_1 C_2 C_3 C_4 C_5 C_6 C_7 C_8 C_9 C_10 C_11
      have A_0 := fun x : Later W2 => (A.later x.below).c 0; have A_1 := fun x : Later W2 => (A.later x.below).c 1; simp only [List.getElem?_cons_zero, List.getElem?_cons_succ] at A_0 A_1
      have L_0 := fun x : Later W2 => (L.later x.below).c 0; have L_1 := fun x : Later W2 => (L.later x.below).c 1; simp only [List.getElem?_cons_zero, List.getElem?_cons_succ] at L_0 L_1
      have hA := fun x : Later W2 => hNA x.val (hB.trans (x.below.mono hB.size))
      have hL := fun x : Later W2 => hNL x.val (hB.trans (x.below.mono hB.size))
      have ii : Nonempty (Later W2) := ⟨⟨W2, Below.refl _ _⟩⟩
      clear hNA hNL
      refine wp_region_later (by kernel_rfl) (by kernel_rfl) ?_
      repeat (first
        | go_big_quiet_step ((go_at_call 80; first | with_reducible exact calls_later (hA _) | with_reducible exact calls_later (hL _)))
        | quiet_step (fail))
      refine wpQuiet_nil ?_
      intro w' hw'
      obtain ⟨⟨W3, hb3⟩, rfl⟩ := hw'
      clear C_0 C_1 C_2 C_3 C_4 C_5 C_6 C_7 C_8 C_9 C_10 C_11 A_0 A_1 L_0 L_1
      replace C := C.later hb3
      replace V := V.later hb3
      replace M := M.later hb3
      replace hB := hB.trans (hb3.mono hB.size)
      clear hb3 A L ii hA hL
      have C_0 := C.c 0; simp only [List.getElem?_cons_zero] at C_0
      have V_0 := V.c 0; have V_1 := V.c 1; have V_2 := V.c 2; have V_3 := V.c 3; have V_4 := V.c 4; simp only [List.getElem?_cons_zero, List.getElem?_cons_succ] at V_0 V_1 V_2 V_3 V_4
      have M_0 := M.c 0; have M_1 := M.c 1; have M_2 := M.c 2; have M_3 := M.c 3; have M_4 := M.c 4; simp only [List.getElem?_cons_zero, List.getElem?_cons_succ] at M_0 M_1 M_2 M_3 M_4
      have Vf := V.f
      have Mf := M.f
      by_cases hl : (ka : Int) < (kl : Int)
      · obtain ⟨m, rfl⟩ : ∃ m, kl = m + 1 := ⟨kl - 1, by omega⟩
        have hm : m < vs.length := by rw [unhide Hn]; omega
        obtain ⟨b, q, rfl, x⟩ := (unhide Hv).each m hm
        have ha : ahead vs (m + 1) = vs[m] := ahead_at (by simpa using hm)
        obtain ⟨v, hv0⟩ : ∃ v, vs[m] = v := ⟨_, rfl⟩
        rw [hv0] at x ha
        obtain rfl : R = (bare v, false, Met.zero, 82) := by rw [← unhide HE, if_pos (by omega), ha]
        replace x := x.block (hB.block _ x.lt)
        have x0 := x.c0
        have x1 := x.c1
        have hl' : (ka : Int) < (m : Int) + 1 := by omega
        have hmn : (m : Int) < (n : Int) := by omega
        have HB := hide hB
        clear hB hv0 ha hl x
        go_wp2
        have q1 := Blk.others (by omega) [.int .i64 Met.zero.id, .int .i64 Met.zero.ep, .string Met.zero.anchor, .int .i64 Met.zero.start.1, .int .i64 Met.zero.start.2] (C := w.heap.size + 1 + 1 + 1 + 1) 0 (V.all [.int .i64 (bare v).at_.1, .int .i64 (bare v).at_.2, .string (bare v).val, .bool (bare v).gone, .int .i64 (bare v).by_] rfl)
        have q2 := (Blk.others (by omega) [.int .i64 (bare v).at_.1, .int .i64 (bare v).at_.2, .string (bare v).val, .bool (bare v).gone, .int .i64 (bare v).by_] (C := w.heap.size + 1 + 1 + 1) 0 M).all [.int .i64 Met.zero.id, .int .i64 Met.zero.ep, .string Met.zero.anchor, .int .i64 Met.zero.start.1, .int .i64 Met.zero.start.2] rfl
        exact bodyPost_ret (results_vbme Tryz.results38 (bare v) Met.zero rfl rfl rfl rfl q1 q2) rfl ⟨rfl, below_setAll (by omega) [.int .i64 Met.zero.id, .int .i64 Met.zero.ep, .string Met.zero.anchor, .int .i64 Met.zero.start.1, .int .i64 Met.zero.start.2] 0 (below_setAll (by omega) [.int .i64 (bare v).at_.1, .int .i64 (bare v).at_.2, .string (bare v).val, .bool (bare v).gone, .int .i64 (bare v).by_] 0 (unhide HB))⟩
      · by_cases h0 : ka = 0
        · obtain rfl : R = (Ver.zero, false, Met.zero, 0) := by rw [← unhide HE, if_neg (by omega), if_pos h0]
          subst h0
          have HB := hide hB
          clear hB
          go_wp2
          have q1 := Blk.others (by omega) [.int .i64 Met.zero.id, .int .i64 Met.zero.ep, .string Met.zero.anchor, .int .i64 Met.zero.start.1, .int .i64 Met.zero.start.2] (C := w.heap.size + 1 + 1 + 1 + 1) 0 (V.all [.int .i64 Ver.zero.at_.1, .int .i64 Ver.zero.at_.2, .string Ver.zero.val, .bool Ver.zero.gone, .int .i64 Ver.zero.by_] rfl)
          have q2 := (Blk.others (by omega) [.int .i64 Ver.zero.at_.1, .int .i64 Ver.zero.at_.2, .string Ver.zero.val, .bool Ver.zero.gone, .int .i64 Ver.zero.by_] (C := w.heap.size + 1 + 1 + 1) 0 M).all [.int .i64 Met.zero.id, .int .i64 Met.zero.ep, .string Met.zero.anchor, .int .i64 Met.zero.start.1, .int .i64 Met.zero.start.2] rfl
          exact bodyPost_ret (results_vbme Tryz.results38 Ver.zero Met.zero rfl rfl rfl rfl q1 q2) rfl ⟨rfl, below_setAll (by omega) [.int .i64 Met.zero.id, .int .i64 Met.zero.ep, .string Met.zero.anchor, .int .i64 Met.zero.start.1, .int .i64 Met.zero.start.2] 0 (below_setAll (by omega) [.int .i64 Ver.zero.at_.1, .int .i64 Ver.zero.at_.2, .string Ver.zero.val, .bool Ver.zero.gone, .int .i64 Ver.zero.by_] 0 (unhide HB))⟩
        · obtain ⟨m, rfl⟩ : ∃ m, ka = m + 1 := ⟨ka - 1, by omega⟩
          have hm : m < vs.length := by rw [unhide Hn]; omega
          obtain ⟨b, q, rfl, x⟩ := (unhide Hv).each m hm
          have ha : ahead vs (m + 1) = vs[m] := ahead_at (by simpa using hm)
          obtain ⟨v, hv0⟩ : ∃ v, vs[m] = v := ⟨_, rfl⟩
          rw [hv0] at x ha
          have hR : foundV v = R := by rw [← unhide HE, if_neg (by omega), if_neg h0, ha]
          have hF := fun w => found_any v w
          rw [hR] at hF
          replace x := x.block (hB.block _ x.lt)
          have x0 := x.c0
          have x1 := x.c1
          have x2 := x.c2
          have x3 := x.c3
          have x4 := x.c4
          have hl' : ¬ (m : Int) + 1 < (kl : Int) := by omega
          have hmn : (m : Int) < (n : Int) := by omega
          have hm0 : (((m : Int) + 1) == 0) = false := by rw [beq_eq_false_iff_ne]; omega
          clear hv0 ha hl x h0 hR HE
          go_wp2_with fail
          refine (hF _).mono ?_
          rintro e w4 ⟨rfl, hb4⟩
          replace V := V.later hb4
          replace M := M.later hb4
          have HB := hide (hB.trans (hb4.mono hB.size))
          clear C_0 V_0 V_1 V_2 V_3 V_4 M_0 M_1 M_2 M_3 M_4
          clear hb4 hB hF x0 x1 x2 x3 x4 Vf Mf C
          have V_0 := V.c 0; have V_1 := V.c 1; have V_2 := V.c 2; have V_3 := V.c 3; have V_4 := V.c 4; simp only [List.getElem?_cons_zero, List.getElem?_cons_succ] at V_0 V_1 V_2 V_3 V_4
          have M_0 := M.c 0; have M_1 := M.c 1; have M_2 := M.c 2; have M_3 := M.c 3; have M_4 := M.c 4; simp only [List.getElem?_cons_zero, List.getElem?_cons_succ] at M_0 M_1 M_2 M_3 M_4
          have Vf := V.f
          have Mf := M.f
          go_wp2
          have q1 := Blk.others (by omega) [.int .i64 R.2.2.1.id, .int .i64 R.2.2.1.ep, .string R.2.2.1.anchor, .int .i64 R.2.2.1.start.1, .int .i64 R.2.2.1.start.2] (C := w.heap.size + 1 + 1 + 1 + 1) 0 (V.all [.int .i64 R.1.at_.1, .int .i64 R.1.at_.2, .string R.1.val, .bool R.1.gone, .int .i64 R.1.by_] rfl)
          have q2 := (Blk.others (by omega) [.int .i64 R.1.at_.1, .int .i64 R.1.at_.2, .string R.1.val, .bool R.1.gone, .int .i64 R.1.by_] (C := w.heap.size + 1 + 1 + 1) 0 M).all [.int .i64 R.2.2.1.id, .int .i64 R.2.2.1.ep, .string R.2.2.1.anchor, .int .i64 R.2.2.1.start.1, .int .i64 R.2.2.1.start.2] rfl
          exact bodyPost_ret (results_vbme Tryz.results38 R.1 R.2.2.1 rfl rfl rfl rfl q1 q2) rfl ⟨rfl, below_setAll (by omega) [.int .i64 R.2.2.1.id, .int .i64 R.2.2.1.ep, .string R.2.2.1.anchor, .int .i64 R.2.2.1.start.1, .int .i64 R.2.2.1.start.2] 0 (below_setAll (by omega) [.int .i64 R.1.at_.1, .int .i64 R.1.at_.2, .string R.1.val, .bool R.1.gone, .int .i64 R.1.by_] 0 (unhide HB))⟩
  · rw [if_neg (by simp)] at e
    subst e
    clear hNA hNL HBox A
    cases P
    all_goals
      try have hep := hep rfl
      go_enter Tryz.func38, Tryz.ntmps38
      go_wp2_with fail
      generalize ((((w.alloc _).alloc _).alloc _).alloc _).alloc _ = W at *
      refine (hO _).mono ?_
      rintro e w1 ⟨rfl, hb1⟩
      replace C := C.later hb1
      replace L := L.later hb1
      replace V := V.later hb1
      replace M := M.later hb1
      replace hB := hB.trans (hb1.mono hB.size)
      clear hb1 hO
      have C_0 := C.c 0; have C_1 := C.c 1; have C_2 := C.c 2; have C_3 := C.c 3; have C_4 := C.c 4; have C_5 := C.c 5; have C_6 := C.c 6; have C_7 := C.c 7; have C_8 := C.c 8; have C_9 := C.c 9; have C_10 := C.c 10; have C_11 := C.c 11; simp only [List.getElem?_cons_zero, List.getElem?_cons_succ] at C_0 C_1 C_2 C_3 C_4 C_5 C_6 C_7 C_8 C_9 C_10 C_11
      have L_0 := L.c 0; have L_1 := L.c 1; simp only [List.getElem?_cons_zero, List.getElem?_cons_succ] at L_0 L_1
      go_wp2_with fail
      refine (hW _).mono ?_
      rintro e w2 ⟨rfl, hb2⟩
      clear C_0 C_1 C_2 C_3 C_4 C_5 C_6 C_7 C_8 C_9 C_10 C_11 L_0 L_1
      have D := Blk.new w2 #[.int .i64 i.txn.id, .int .i64 i.txn.ep, .string i.txn.anchor, .int .i64 i.txn.start.1, .int .i64 i.txn.start.2] 38
      have hneV : w.heap.size + 1 + 1 + 1 ≠ w2.heap.size := Nat.ne_of_lt (V.later hb2).lt
      have hneM : w.heap.size + 1 + 1 + 1 + 1 ≠ w2.heap.size := Nat.ne_of_lt (M.later hb2).lt
      replace V := (V.later hb2).alloc (.cells #[.int .i64 i.txn.id, .int .i64 i.txn.ep, .string i.txn.anchor, .int .i64 i.txn.start.1, .int .i64 i.txn.start.2] 38)
      replace M := (M.later hb2).alloc (.cells #[.int .i64 i.txn.id, .int .i64 i.txn.ep, .string i.txn.anchor, .int .i64 i.txn.start.1, .int .i64 i.txn.start.2] 38)
      replace hB := (hB.trans (hb2.mono hB.size)).alloc (hB.trans (hb2.mono hB.size)).size (.cells #[.int .i64 i.txn.id, .int .i64 i.txn.ep, .string i.txn.anchor, .int .i64 i.txn.start.1, .int .i64 i.txn.start.2] 38)
      clear hb2 hW
      go_wp2_with fail
      generalize w2.alloc _ = W2 at *
      have D_0 := D.c 0; have D_1 := D.c 1; have D_2 := D.c 2; have D_3 := D.c 3; have D_4 := D.c 4; simp only [List.getElem?_cons_zero, List.getElem?_cons_succ] at D_0 D_1 D_2 D_3 D_4
      have V_0 := V.c 0; have V_1 := V.c 1; have V_2 := V.c 2; have V_3 := V.c 3; have V_4 := V.c 4; simp only [List.getElem?_cons_zero, List.getElem?_cons_succ] at V_0 V_1 V_2 V_3 V_4
      have M_0 := M.c 0; have M_1 := M.c 1; have M_2 := M.c 2; have M_3 := M.c 3; have M_4 := M.c 4; simp only [List.getElem?_cons_zero, List.getElem?_cons_succ] at M_0 M_1 M_2 M_3 M_4
      have Vf := V.f
      have Mf := M.f
      have HB := hide hB
      have HV := hide V
      have HM := hide M
      clear hB D V M
      go_region
      go_wp2
      have q1 := Blk.others (by omega) [.int .i64 i.txn.id, .int .i64 i.txn.ep, .string i.txn.anchor, .int .i64 i.txn.start.1, .int .i64 i.txn.start.2] (C := w.heap.size + 1 + 1 + 1 + 1) 0 ((unhide HV).all [.int .i64 Ver.zero.at_.1, .int .i64 Ver.zero.at_.2, .string Ver.zero.val, .bool Ver.zero.gone, .int .i64 Ver.zero.by_] rfl)
      have q2 := (Blk.others (by omega) [.int .i64 Ver.zero.at_.1, .int .i64 Ver.zero.at_.2, .string Ver.zero.val, .bool Ver.zero.gone, .int .i64 Ver.zero.by_] (C := w.heap.size + 1 + 1 + 1) 0 (unhide HM)).all [.int .i64 i.txn.id, .int .i64 i.txn.ep, .string i.txn.anchor, .int .i64 i.txn.start.1, .int .i64 i.txn.start.2] rfl
      exact bodyPost_ret (results_vbme Tryz.results38 Ver.zero i.txn rfl rfl rfl rfl q1.drew q2.drew) rfl ⟨rfl, (below_setAll (by omega) [.int .i64 i.txn.id, .int .i64 i.txn.ep, .string i.txn.anchor, .int .i64 i.txn.start.1, .int .i64 i.txn.start.2] 0 (below_setAll (by omega) [.int .i64 Ver.zero.at_.1, .int .i64 Ver.zero.at_.2, .string Ver.zero.val, .bool Ver.zero.gone, .int .i64 Ver.zero.by_] 0 (unhide HB))).drew⟩
end

end Go.Proofs.YtcdehnghggleoaaGreat
