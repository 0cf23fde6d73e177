/-
  The contract of version.place. No law is proved here.
-/
import Derived.Test.YtcahmnpoajnmpaaVt3
namespace Go.Proofs.Ytcahmnpoajnmpaa
open Go.RowKit
set_option linter.unusedVariables false

/-- The stamp of an intent behind an intent in whose place it comes. -/
def stepP (o : Bool) (i : Itn) (b : Stp) : Stp := if o = true then maxS b i.at_ else b
/-- A stamp, if it is right. -/
def finP (x : Stp) : Stp × Int := if okS x = true then (x, 0) else ((0, 0), 31)
def preP (vs : List Ver) (a : Stp) : Option Stp := match lastS vs with | none => some a | some s => (nextS s).map (maxS a)
def placeR (vs : List Ver) (o : Bool) (i : Itn) (a : Stp) : Stp × Int := match preP vs a with | none => ((0, 0), 31) | some b => finP (stepP o i b)

theorem results_se {fn : Func} {k u : Nat} (hf : fn.results = #[.cell k 24, .tmp u]) {tmps : Array Value} {w : World} {B : Nat} (s : Stp) {e : Value} (hk : tmps[k]? = some (.pointer (some ⟨B, 0, none⟩))) (hu : tmps[u]? = some e)
    (h : Blk w B [.int .i64 s.1, .int .i64 s.2]) : (results fn tmps).run Try.prog w = .ok (.tuple #[(.agg #[.int .i64 s.1, .int .i64 s.2]), e]) w := by
  simp [results, hf, go_sem, h.c, hk, hu]

section
set_option maxRecDepth 100000
set_option maxHeartbeats 1000000

theorem max_s (a b : Stp) (w : World) : Calls Try.prog 55 #[(.agg #[.int .i64 a.1, .int .i64 a.2]), (.agg #[.int .i64 b.1, .int .i64 b.2])] w fun e w' => e = .returned (.agg #[.int .i64 (maxS a b).1, .int .i64 (maxS a b).2]) ∧ Below w.heap.size w w' := by
  have h := max_any a.1 a.2 b.1 b.2 w
  rw [less_eq] at h
  unfold maxS
  cases hq : ltB a b
  · rw [hq] at h; simpa using h
  · rw [hq] at h; simpa using h

theorem next_s (a : Stp) (w : World) : Calls Try.prog 30 #[(.agg #[.int .i64 a.1, .int .i64 a.2])] w fun e w' =>
    e = .returned (match nextS a with | some n => .tuple #[(.agg #[.int .i64 n.1, .int .i64 n.2]), .int .i64 0] | none => .tuple #[.agg #[.int .i64 0, .int .i64 0], .int .i64 31]) ∧ Below w.heap.size w w' := by
  have h := next_any a.1 a.2 w
  rw [nxt_eq] at h
  cases hq : nextS a with
  | none => rw [hq] at h; exact h
  | some n => rw [hq] at h; exact h

theorem place_any (ao : Option Addr) (c : Nat) (vs : List Ver) (o : Bool) (i : Itn) (a : Stp) (w : World) (hv : Vs w ao c vs) :
    Calls Try.prog 46 #[(.agg #[.slice ao vs.length c, .bool o, .int .i64 i.txn.id, .int .i64 i.txn.ep, .string i.txn.anchor, .int .i64 i.txn.start.1, .int .i64 i.txn.start.2, .int .i64 i.seq, .int .i64 i.at_.1, .int .i64 i.at_.2, .string i.val, .bool i.gone]), (.agg #[.int .i64 a.1, .int .i64 a.2])] w fun e w' => e = .returned (.tuple #[(.agg #[.int .i64 (placeR vs o i a).1.1, .int .i64 (placeR vs o i a).1.2]), .int .i64 (placeR vs o i a).2]) ∧ Below w.heap.size w w' := by
  have l1 := hv.len
  simp only [maxLen] at l1
  obtain ⟨P, hP⟩ : ∃ P, placeR vs o i a = P := ⟨_, rfl⟩
  rw [hP]
  unfold placeR preP at hP
  rcases Nat.eq_zero_or_pos vs.length with h0 | h0
  · have e : vs = [] := List.eq_nil_of_length_eq_zero h0
    subst e
    replace hP : finP (stepP o i a) = P := hP
    have C := ((Blk.new w #[.slice ao 0 c, .bool o, .int .i64 i.txn.id, .int .i64 i.txn.ep, .string i.txn.anchor, .int .i64 i.txn.start.1, .int .i64 i.txn.start.2, .int .i64 i.seq, .int .i64 i.at_.1, .int .i64 i.at_.2, .string i.val, .bool i.gone] 30).alloc (.cells #[.int .i64 a.1, .int .i64 a.2] 24)).alloc (.cells #[.int .i64 0, .int .i64 0] 24)
    have A := (Blk.new (w.alloc (.cells #[.slice ao 0 c, .bool o, .int .i64 i.txn.id, .int .i64 i.txn.ep, .string i.txn.anchor, .int .i64 i.txn.start.1, .int .i64 i.txn.start.2, .int .i64 i.seq, .int .i64 i.at_.1, .int .i64 i.at_.2, .string i.val, .bool i.gone] 30)) #[.int .i64 a.1, .int .i64 a.2] 24).alloc (.cells #[.int .i64 0, .int .i64 0] 24)
    rw [show (w.alloc (.cells #[.slice ao 0 c, .bool o, .int .i64 i.txn.id, .int .i64 i.txn.ep, .string i.txn.anchor, .int .i64 i.txn.start.1, .int .i64 i.txn.start.2, .int .i64 i.seq, .int .i64 i.at_.1, .int .i64 i.at_.2, .string i.val, .bool i.gone] 30)).heap.size = w.heap.size + 1 by simp] at A
    have R := Blk.new ((w.alloc (.cells #[.slice ao 0 c, .bool o, .int .i64 i.txn.id, .int .i64 i.txn.ep, .string i.txn.anchor, .int .i64 i.txn.start.1, .int .i64 i.txn.start.2, .int .i64 i.seq, .int .i64 i.at_.1, .int .i64 i.at_.2, .string i.val, .bool i.gone] 30)).alloc (.cells #[.int .i64 a.1, .int .i64 a.2] 24)) #[.int .i64 0, .int .i64 0] 24
    rw [show ((w.alloc (.cells #[.slice ao 0 c, .bool o, .int .i64 i.txn.id, .int .i64 i.txn.ep, .string i.txn.anchor, .int .i64 i.txn.start.1, .int .i64 i.txn.start.2, .int .i64 i.seq, .int .i64 i.at_.1, .int .i64 i.at_.2, .string i.val, .bool i.gone] 30)).alloc (.cells #[.int .i64 a.1, .int .i64 a.2] 24)).heap.size = w.heap.size + 1 + 1 by simp] at R
    have hB : Below w.heap.size w (((w.alloc (.cells #[.slice ao 0 c, .bool o, .int .i64 i.txn.id, .int .i64 i.txn.ep, .string i.txn.anchor, .int .i64 i.txn.start.1, .int .i64 i.txn.start.2, .int .i64 i.seq, .int .i64 i.at_.1, .int .i64 i.at_.2, .string i.val, .bool i.gone] 30)).alloc (.cells #[.int .i64 a.1, .int .i64 a.2] 24)).alloc (.cells #[.int .i64 0, .int .i64 0] 24)) := (((Below.refl w.heap.size w).alloc (Nat.le_refl _) _).alloc (by simp) _).alloc (by simp; omega) _
    clear hv h0 l1
    go_enter Try.func46, Try.ntmps46
    generalize hW : ((w.alloc _).alloc _).alloc _ = W at C A R hB
    subst hW
    cases o
    · have HP : Hid (finP a = P) := hide hP
      clear hP
      have C_0 := C.c 0; have C_1 := C.c 1; have C_2 := C.c 2; have C_3 := C.c 3; have C_4 := C.c 4; have C_5 := C.c 5; have C_6 := C.c 6; have C_7 := C.c 7; have C_8 := C.c 8; have C_9 := C.c 9; have C_10 := C.c 10; have C_11 := C.c 11; simp only [List.getElem?_cons_zero, List.getElem?_cons_succ] at C_0 C_1 C_2 C_3 C_4 C_5 C_6 C_7 C_8 C_9 C_10 C_11
      have A_0 := A.c 0; have A_1 := A.c 1; simp only [List.getElem?_cons_zero, List.getElem?_cons_succ] at A_0 A_1
      have hR := fun w => right_any (a).1 (a).2 w
      rw [right_eq] at hR
      go_wp2_with fail
      refine (hR _).mono ?_
      rintro e wr ⟨rfl, hbr⟩
      replace A := A.later hbr
      replace R := R.later hbr
      have HB := hide (hB.trans (hbr.mono hB.size))
      clear hbr hB hR
      have A_0 := A.c 0; have A_1 := A.c 1; simp only [List.getElem?_cons_zero, List.getElem?_cons_succ] at A_0 A_1
      have R_0 := R.c 0; have R_1 := R.c 1; simp only [List.getElem?_cons_zero, List.getElem?_cons_succ] at R_0 R_1
      have Rf := R.f
      cases hok : okS a
      · obtain rfl : P = ((0, 0), 31) := by rw [← unhide HP]; unfold finP; rw [hok]; rfl
        clear hok
        go_wp2
        exact bodyPost_ret (results_se Try.results46 (0, 0) rfl rfl (R.all [.int .i64 0, .int .i64 0] rfl)) rfl ⟨rfl, below_setAll (by omega) [.int .i64 0, .int .i64 0] 0 (unhide HB)⟩
      · obtain rfl : P = (a, 0) := by rw [← unhide HP]; unfold finP; rw [hok]; rfl
        clear hok
        go_wp2
        exact bodyPost_ret (results_se Try.results46 a rfl rfl (R.all [.int .i64 a.1, .int .i64 a.2] rfl)) rfl ⟨rfl, below_setAll (by omega) [.int .i64 a.1, .int .i64 a.2] 0 (unhide HB)⟩
    · have hM := fun w => max_s a i.at_ w
      obtain ⟨b', hb'⟩ : ∃ b', maxS a i.at_ = b' := ⟨_, rfl⟩
      have HP : Hid (finP b' = P) := hide (by rw [← hb']; exact hP)
      rw [hb'] at hM
      clear hP hb'
      have C_0 := C.c 0; have C_1 := C.c 1; have C_2 := C.c 2; have C_3 := C.c 3; have C_4 := C.c 4; have C_5 := C.c 5; have C_6 := C.c 6; have C_7 := C.c 7; have C_8 := C.c 8; have C_9 := C.c 9; have C_10 := C.c 10; have C_11 := C.c 11; simp only [List.getElem?_cons_zero, List.getElem?_cons_succ] at C_0 C_1 C_2 C_3 C_4 C_5 C_6 C_7 C_8 C_9 C_10 C_11
      have A_0 := A.c 0; have A_1 := A.c 1; simp only [List.getElem?_cons_zero, List.getElem?_cons_succ] at A_0 A_1
      have Af := A.f
      go_wp2_with fail
      refine (hM _).mono ?_
      rintro e wm ⟨rfl, hbm⟩
      replace C := C.later hbm
      replace A := A.later hbm
      replace R := R.later hbm
      replace hB := hB.trans (hbm.mono hB.size)
      clear C_0 C_1 C_2 C_3 C_4 C_5 C_6 C_7 C_8 C_9 C_10 C_11 A_0 A_1
      clear hbm hM Af
      have A_0 := A.c 0; have A_1 := A.c 1; simp only [List.getElem?_cons_zero, List.getElem?_cons_succ] at A_0 A_1
      have Af := A.f
      replace R := Blk.others (by omega) [.int .i64 (b').1, .int .i64 (b').2] (C := w.heap.size + 1) 0 R
      have A2 := A.all [.int .i64 (b').1, .int .i64 (b').2] rfl
      replace hB := below_setAll (C := w.heap.size + 1) (by omega) [.int .i64 (b').1, .int .i64 (b').2] 0 hB
      simp only [setAll, Nat.zero_add] at A2 R hB
      clear C
      have hR := fun w => right_any b'.1 b'.2 w
      rw [right_eq] at hR
      have g0 := A2.c 0
      have g1 := A2.c 1
      simp only [List.getElem?_cons_zero, List.getElem?_cons_succ] at g0 g1
      go_wp2_with fail
      clear A A_0 A_1 Af g0 g1
      have A := A2
      clear A2
      refine (hR _).mono ?_
      rintro e wr ⟨rfl, hbr⟩
      replace A := A.later hbr
      replace R := R.later hbr
      have HB := hide (hB.trans (hbr.mono hB.size))
      clear hbr hB hR
      have A_0 := A.c 0; have A_1 := A.c 1; simp only [List.getElem?_cons_zero, List.getElem?_cons_succ] at A_0 A_1
      have R_0 := R.c 0; have R_1 := R.c 1; simp only [List.getElem?_cons_zero, List.getElem?_cons_succ] at R_0 R_1
      have Rf := R.f
      cases hok : okS b'
      · obtain rfl : P = ((0, 0), 31) := by rw [← unhide HP]; unfold finP; rw [hok]; rfl
        clear hok
        go_wp2
        exact bodyPost_ret (results_se Try.results46 (0, 0) rfl rfl (R.all [.int .i64 0, .int .i64 0] rfl)) rfl ⟨rfl, below_setAll (by omega) [.int .i64 0, .int .i64 0] 0 (unhide HB)⟩
      · obtain rfl : P = (b', 0) := by rw [← unhide HP]; unfold finP; rw [hok]; rfl
        clear hok
        go_wp2
        exact bodyPost_ret (results_se Try.results46 b' rfl rfl (R.all [.int .i64 (b').1, .int .i64 (b').2] rfl)) rfl ⟨rfl, below_setAll (by omega) [.int .i64 (b').1, .int .i64 (b').2] 0 (unhide HB)⟩
  · obtain ⟨m, hm⟩ : ∃ m, vs.length = m + 1 := ⟨vs.length - 1, by omega⟩
    rw [lastS_at vs m hm] at hP
    obtain ⟨b, q, rfl, x⟩ := hv.each m (by omega)
    obtain ⟨v, hv0⟩ : ∃ v, vs[m]'(by omega) = v := ⟨_, rfl⟩
    rw [hv0] at x hP
    rw [hm] at l1 ⊢
    have C := ((Blk.new w #[.slice (some ⟨b, q, none⟩) (m + 1) c, .bool o, .int .i64 i.txn.id, .int .i64 i.txn.ep, .string i.txn.anchor, .int .i64 i.txn.start.1, .int .i64 i.txn.start.2, .int .i64 i.seq, .int .i64 i.at_.1, .int .i64 i.at_.2, .string i.val, .bool i.gone] 30).alloc (.cells #[.int .i64 a.1, .int .i64 a.2] 24)).alloc (.cells #[.int .i64 0, .int .i64 0] 24)
    have A := (Blk.new (w.alloc (.cells #[.slice (some ⟨b, q, none⟩) (m + 1) c, .bool o, .int .i64 i.txn.id, .int .i64 i.txn.ep, .string i.txn.anchor, .int .i64 i.txn.start.1, .int .i64 i.txn.start.2, .int .i64 i.seq, .int .i64 i.at_.1, .int .i64 i.at_.2, .string i.val, .bool i.gone] 30)) #[.int .i64 a.1, .int .i64 a.2] 24).alloc (.cells #[.int .i64 0, .int .i64 0] 24)
    rw [show (w.alloc (.cells #[.slice (some ⟨b, q, none⟩) (m + 1) c, .bool o, .int .i64 i.txn.id, .int .i64 i.txn.ep, .string i.txn.anchor, .int .i64 i.txn.start.1, .int .i64 i.txn.start.2, .int .i64 i.seq, .int .i64 i.at_.1, .int .i64 i.at_.2, .string i.val, .bool i.gone] 30)).heap.size = w.heap.size + 1 by simp] at A
    have R := Blk.new ((w.alloc (.cells #[.slice (some ⟨b, q, none⟩) (m + 1) c, .bool o, .int .i64 i.txn.id, .int .i64 i.txn.ep, .string i.txn.anchor, .int .i64 i.txn.start.1, .int .i64 i.txn.start.2, .int .i64 i.seq, .int .i64 i.at_.1, .int .i64 i.at_.2, .string i.val, .bool i.gone] 30)).alloc (.cells #[.int .i64 a.1, .int .i64 a.2] 24)) #[.int .i64 0, .int .i64 0] 24
    rw [show ((w.alloc (.cells #[.slice (some ⟨b, q, none⟩) (m + 1) c, .bool o, .int .i64 i.txn.id, .int .i64 i.txn.ep, .string i.txn.anchor, .int .i64 i.txn.start.1, .int .i64 i.txn.start.2, .int .i64 i.seq, .int .i64 i.at_.1, .int .i64 i.at_.2, .string i.val, .bool i.gone] 30)).alloc (.cells #[.int .i64 a.1, .int .i64 a.2] 24)).heap.size = w.heap.size + 1 + 1 by simp] at R
    have hB : Below w.heap.size w (((w.alloc (.cells #[.slice (some ⟨b, q, none⟩) (m + 1) c, .bool o, .int .i64 i.txn.id, .int .i64 i.txn.ep, .string i.txn.anchor, .int .i64 i.txn.start.1, .int .i64 i.txn.start.2, .int .i64 i.seq, .int .i64 i.at_.1, .int .i64 i.at_.2, .string i.val, .bool i.gone] 30)).alloc (.cells #[.int .i64 a.1, .int .i64 a.2] 24)).alloc (.cells #[.int .i64 0, .int .i64 0] 24)) := (((Below.refl w.heap.size w).alloc (Nat.le_refl _) _).alloc (by simp) _).alloc (by simp; omega) _
    replace x := x.block (hB.block _ x.lt)
    have x0 := x.c0
    have x1 := x.c1
    have hN := fun w => next_s v.at_ w
    have hm0 : (0 : Int) < (m : Int) + 1 := by omega
    clear hv h0 hv0 hm x
    go_enter Try.func46, Try.ntmps46
    go_wp2_with fail
    generalize ((w.alloc _).alloc _).alloc _ = W at *
    refine (hN _).mono ?_
    rintro e w1 ⟨rfl, hb1⟩
    cases hn : nextS v.at_ with
    | none =>
      rw [hn] at hP
      obtain rfl : P = ((0, 0), 31) := hP.symm
      replace R := R.later hb1
      replace hB := hB.trans (hb1.mono hB.size)
      clear hb1 hN C A
      have R_0 := fun o => (R.alloc o).c 0; have R_1 := fun o => (R.alloc o).c 1; simp only [List.getElem?_cons_zero, List.getElem?_cons_succ] at R_0 R_1; have Rf := fun o => (R.alloc o).f
      have HB := hide hB
      clear hB
      simp only
      go_wp2
      exact bodyPost_ret (results_se Try.results46 (0, 0) rfl rfl ((R.alloc _).all [.int .i64 0, .int .i64 0] rfl)) rfl ⟨rfl, below_setAll (by omega) [.int .i64 0, .int .i64 0] 0 ((unhide HB).alloc (unhide HB).size _)⟩
    | some nn =>
      rw [hn] at hP
      replace hP : finP (stepP o i (maxS a nn)) = P := hP
      have D := Blk.new w1 #[.int .i64 nn.1, .int .i64 nn.2] 24
      replace C := (C.later hb1).alloc (.cells #[.int .i64 nn.1, .int .i64 nn.2] 24)
      replace A := (A.later hb1).alloc (.cells #[.int .i64 nn.1, .int .i64 nn.2] 24)
      replace R := (R.later hb1).alloc (.cells #[.int .i64 nn.1, .int .i64 nn.2] 24)
      replace hB := (hB.trans (hb1.mono hB.size)).alloc (hB.trans (hb1.mono hB.size)).size (.cells #[.int .i64 nn.1, .int .i64 nn.2] 24)
      have hM1 := fun w => max_s a nn w
      obtain ⟨bb, hbb⟩ : ∃ bb, maxS a nn = bb := ⟨_, rfl⟩
      rw [hbb] at hM1 hP
      clear hb1 hN hbb hn x0 x1
      have A_0 := A.c 0; have A_1 := A.c 1; simp only [List.getElem?_cons_zero, List.getElem?_cons_succ] at A_0 A_1
      simp only
      go_wp2_with fail
      generalize w1.alloc _ = W1 at *
      refine (hM1 _).mono ?_
      rintro e w2 ⟨rfl, hb2⟩
      clear A_0 A_1
      replace C := C.later hb2
      replace A := A.later hb2
      replace R := R.later hb2
      replace hB := hB.trans (hb2.mono hB.size)
      clear hb2 hM1 D
      replace C := Blk.others (by omega) [.int .i64 bb.1, .int .i64 bb.2] (C := w.heap.size + 1) 0 C
      replace R := Blk.others (by omega) [.int .i64 bb.1, .int .i64 bb.2] (C := w.heap.size + 1) 0 R
      have hB2 := below_setAll (C := w.heap.size + 1) (by omega) [.int .i64 bb.1, .int .i64 bb.2] 0 hB
      have A2 := A.all [.int .i64 bb.1, .int .i64 bb.2] rfl
      simp only [setAll, Nat.zero_add] at A2 C R hB2
      have A_0 := A.c 0; have A_1 := A.c 1; simp only [List.getElem?_cons_zero, List.getElem?_cons_succ] at A_0 A_1
      have Af := A.f
      clear A
      have A := A2
      clear A2
      replace hB := hB2
      clear hB2
      cases o
      · have HP : Hid (finP bb = P) := hide hP
        clear hP
        have C_0 := C.c 0; have C_1 := C.c 1; have C_2 := C.c 2; have C_3 := C.c 3; have C_4 := C.c 4; have C_5 := C.c 5; have C_6 := C.c 6; have C_7 := C.c 7; have C_8 := C.c 8; have C_9 := C.c 9; have C_10 := C.c 10; have C_11 := C.c 11; simp only [List.getElem?_cons_zero, List.getElem?_cons_succ] at C_0 C_1 C_2 C_3 C_4 C_5 C_6 C_7 C_8 C_9 C_10 C_11
        have A_0 := A.c 0; have A_1 := A.c 1; simp only [List.getElem?_cons_zero, List.getElem?_cons_succ] at A_0 A_1
        have hR := fun w => right_any (bb).1 (bb).2 w
        rw [right_eq] at hR
        go_wp2_with fail
        refine (hR _).mono ?_
        rintro e wr ⟨rfl, hbr⟩
        replace A := A.later hbr
        replace R := R.later hbr
        have HB := hide (hB.trans (hbr.mono hB.size))
        clear hbr hB hR
        have A_0 := A.c 0; have A_1 := A.c 1; simp only [List.getElem?_cons_zero, List.getElem?_cons_succ] at A_0 A_1
        have R_0 := R.c 0; have R_1 := R.c 1; simp only [List.getElem?_cons_zero, List.getElem?_cons_succ] at R_0 R_1
        have Rf := R.f
        cases hok : okS bb
        · obtain rfl : P = ((0, 0), 31) := by rw [← unhide HP]; unfold finP; rw [hok]; rfl
          clear hok
          go_wp2
          exact bodyPost_ret (results_se Try.results46 (0, 0) rfl rfl (R.all [.int .i64 0, .int .i64 0] rfl)) rfl ⟨rfl, below_setAll (by omega) [.int .i64 0, .int .i64 0] 0 (unhide HB)⟩
        · obtain rfl : P = (bb, 0) := by rw [← unhide HP]; unfold finP; rw [hok]; rfl
          clear hok
          go_wp2
          exact bodyPost_ret (results_se Try.results46 bb rfl rfl (R.all [.int .i64 bb.1, .int .i64 bb.2] rfl)) rfl ⟨rfl, below_setAll (by omega) [.int .i64 bb.1, .int .i64 bb.2] 0 (unhide HB)⟩
      · have hM := fun w => max_s bb i.at_ w
        obtain ⟨b', hb'⟩ : ∃ b', maxS bb i.at_ = b' := ⟨_, rfl⟩
        have HP : Hid (finP b' = P) := hide (by rw [← hb']; exact hP)
        rw [hb'] at hM
        clear hP hb'
        have C_0 := C.c 0; have C_1 := C.c 1; have C_2 := C.c 2; have C_3 := C.c 3; have C_4 := C.c 4; have C_5 := C.c 5; have C_6 := C.c 6; have C_7 := C.c 7; have C_8 := C.c 8; have C_9 := C.c 9; have C_10 := C.c 10; have C_11 := C.c 11; simp only [List.getElem?_cons_zero, List.getElem?_cons_succ] at C_0 C_1 C_2 C_3 C_4 C_5 C_6 C_7 C_8 C_9 C_10 C_11
        have A_0 := A.c 0; have A_1 := A.c 1; simp only [List.getElem?_cons_zero, List.getElem?_cons_succ] at A_0 A_1
        have Af := A.f
        go_wp2_with fail
        refine (hM _).mono ?_
        rintro e wm ⟨rfl, hbm⟩
        replace C := C.later hbm
        replace A := A.later hbm
        replace R := R.later hbm
        replace hB := hB.trans (hbm.mono hB.size)
        clear C_0 C_1 C_2 C_3 C_4 C_5 C_6 C_7 C_8 C_9 C_10 C_11 A_0 A_1
        clear hbm hM Af
        have A_0 := A.c 0; have A_1 := A.c 1; simp only [List.getElem?_cons_zero, List.getElem?_cons_succ] at A_0 A_1
        have Af := A.f
        replace R := Blk.others (by omega) [.int .i64 (b').1, .int .i64 (b').2] (C := w.heap.size + 1) 0 R
        have A2 := A.all [.int .i64 (b').1, .int .i64 (b').2] rfl
        replace hB := below_setAll (C := w.heap.size + 1) (by omega) [.int .i64 (b').1, .int .i64 (b').2] 0 hB
        simp only [setAll, Nat.zero_add] at A2 R hB
        clear C
        have hR := fun w => right_any b'.1 b'.2 w
        rw [right_eq] at hR
        have g0 := A2.c 0
        have g1 := A2.c 1
        simp only [List.getElem?_cons_zero, List.getElem?_cons_succ] at g0 g1
        go_wp2_with fail
        clear A A_0 A_1 Af g0 g1
        have A := A2
        clear A2
        refine (hR _).mono ?_
        rintro e wr ⟨rfl, hbr⟩
        replace A := A.later hbr
        replace R := R.later hbr
        have HB := hide (hB.trans (hbr.mono hB.size))
        clear hbr hB hR
        have A_0 := A.c 0; have A_1 := A.c 1; simp only [List.getElem?_cons_zero, List.getElem?_cons_succ] at A_0 A_1
        have R_0 := R.c 0; have R_1 := R.c 1; simp only [List.getElem?_cons_zero, List.getElem?_cons_succ] at R_0 R_1
        have Rf := R.f
        cases hok : okS b'
        · obtain rfl : P = ((0, 0), 31) := by rw [← unhide HP]; unfold finP; rw [hok]; rfl
          clear hok
          go_wp2
          exact bodyPost_ret (results_se Try.results46 (0, 0) rfl rfl (R.all [.int .i64 0, .int .i64 0] rfl)) rfl ⟨rfl, below_setAll (by omega) [.int .i64 0, .int .i64 0] 0 (unhide HB)⟩
        · obtain rfl : P = (b', 0) := by rw [← unhide HP]; unfold finP; rw [hok]; rfl
          clear hok
          go_wp2
          exact bodyPost_ret (results_se Try.results46 b' rfl rfl (R.all [.int .i64 (b').1, .int .i64 (b').2] rfl)) rfl ⟨rfl, below_setAll (by omega) [.int .i64 (b').1, .int .i64 (b').2] 0 (unhide HB)⟩
end

end Go.Proofs.Ytcahmnpoajnmpaa
