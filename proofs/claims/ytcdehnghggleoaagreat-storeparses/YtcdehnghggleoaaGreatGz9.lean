/-
  Pz7, Pz8, Pz9, Pz10, Pd1, Pd2: one behind the other. No law is proved here.
-/
import Derived.Test.YtcdehnghggleoaaGreatGz8
import Derived.Test.YtcdehnghggleoaaGreatGz2
/-
  A store's parts: an intent. No law is proved here.
-/
namespace Go.Proofs.YtcdehnghggleoaaGreat
open Go.RowKit
set_option linter.unusedVariables false

theorem results_it9 {fn : Func} {k : Nat} (hf : fn.results = #[.cell k 42]) {tmps : Array Value} {w : World} {B : Nat} (i : Itn) (hk : tmps[k]? = some (.pointer (some ⟨B, 0, none⟩)))
    (h : Blk w B [.int .i64 i.txn.id, .int .i64 i.txn.ep, .string i.txn.anchor, .int .i64 i.txn.start.1, .int .i64 i.txn.start.2, .int .i64 i.seq, .int .i64 i.at_.1, .int .i64 i.at_.2, .string i.val, .bool i.gone]) : (results fn tmps).run Tryz.prog w = .ok (.agg #[.int .i64 i.txn.id, .int .i64 i.txn.ep, .string i.txn.anchor, .int .i64 i.txn.start.1, .int .i64 i.txn.start.2, .int .i64 i.seq, .int .i64 i.at_.1, .int .i64 i.at_.2, .string i.val, .bool i.gone]) w := by
  simp [results, hf, go_sem, h.c, hk]
/-- In the middle of a block. -/
theorem Blk.mid {B : Nat} {w : World} {cs : List Value} (h : Blk w B cs) : ∀ (r : List Value) (k : Nat) (p q t : List Value), cs = p ++ q ++ t → p.length = k → r.length = q.length → Blk (setAll w B k r) B (p ++ r ++ t)
  | r, k, p, q, t, e, hp, hq => by
    subst e
    induction r generalizing w k p q with
    | nil =>
      have : q = [] := List.eq_nil_of_length_eq_zero (by simpa using hq.symm)
      subst this
      exact h
    | cons c r ih =>
      match q, hq with
      | y :: q, hq =>
        have h1 := h.set k (by simp; omega) c
        have e1 : (p ++ (y :: q) ++ t).set k c = (p ++ [c]) ++ q ++ t := by
          subst hp
          simp
        rw [e1] at h1
        have := ih (k := k + 1) (p := p ++ [c]) (q := q) (by simp [hp]) (by simpa using hq) h1
        rw [setAll]
        simpa using this

/-- An intent, the error, what is left. -/
def itnP (er : Int) (l : List UInt8) : Itn × Int × List UInt8 :=
  let a := numP er l
  let b := numP a.2.1 a.2.2
  let k := txtP b.2.1 b.2.2 8
  let s := stpP (if S5.keyB ⟨k.1.toArray⟩ = true then k.2.1 else 11) k.2.2
  let q := numP s.2.2.1 s.2.2.2
  let c := stpP q.2.1 q.2.2
  let v := valP c.2.2.1 c.2.2.2
  (⟨⟨(a.1 : Int), (b.1 : Int), ⟨k.1.toArray⟩, ((s.1 : Int), (s.2.1 : Int))⟩, (q.1 : Int), ((c.1 : Int), (c.2.1 : Int)), v.1, v.2.1⟩, v.2.2.1, v.2.2.2)

section
set_option maxRecDepth 100000
set_option maxHeartbeats 8000000

theorem pintent_aux (P R : Nat) (er : Int) (l : List UInt8) (w : World) (h : Pt w P R er l) (hl : l.length ≤ 1099511627776) (a b q : Nat × Int × List UInt8) (k : List UInt8 × Int × List UInt8) (s c : Nat × Nat × Int × List UInt8) (v : ByteArray × Bool × Int × List UInt8)
    (ha : numP er l = a) (hb : numP a.2.1 a.2.2 = b) (hk : txtP b.2.1 b.2.2 8 = k) (hs : stpP (if S5.keyB ⟨k.1.toArray⟩ = true then k.2.1 else 11) k.2.2 = s) (hq : numP s.2.2.1 s.2.2.2 = q) (hc : stpP q.2.1 q.2.2 = c) (hv : valP c.2.2.1 c.2.2.2 = v) :
    Calls Tryz.prog 53 #[.pointer (some ⟨P, 0, none⟩)] w fun e w' => e = .returned (.agg #[.int .i64 a.1, .int .i64 b.1, .string ⟨k.1.toArray⟩, .int .i64 s.1, .int .i64 s.2.1, .int .i64 q.1, .int .i64 c.1, .int .i64 c.2.1, .string v.1, .bool v.2.1]) ∧ Pt w' P R v.2.2.1 v.2.2.2 ∧ PtM P R w w' := by
  have l1 := numP_len er l
  rw [ha] at l1
  have l2 := numP_len a.2.1 a.2.2
  rw [hb] at l2
  have l3 := txtP_len b.2.1 b.2.2 8
  rw [hk] at l3
  have l4 := stpP_len (if S5.keyB ⟨k.1.toArray⟩ = true then k.2.1 else 11) k.2.2
  rw [hs] at l4
  have l5 := numP_len s.2.2.1 s.2.2.2
  rw [hq] at l5
  have l6 := stpP_len q.2.1 q.2.2
  rw [hc] at l6
  have c1 := fun w' (h : Pt w' P R er l) => pnumber_any P R er l w' h hl
  rw [ha] at c1
  have c2 := fun w' (h : Pt w' P R a.2.1 a.2.2) => pnumber_any P R _ _ w' h (by omega)
  rw [hb] at c2
  have c3 := fun w' (h : Pt w' P R b.2.1 b.2.2) => ptext_any P R _ _ 8 w' h (by omega)
  rw [hk] at c3
  have c4 := fun w' => S5.key_any ⟨k.1.toArray⟩ w'
  have c5 := fun w' (h : Pt w' P R k.2.1 k.2.2) => pmust_any P R k.2.1 k.2.2 (S5.keyB ⟨k.1.toArray⟩) w' h
  generalize S5.keyB ⟨k.1.toArray⟩ = kb at *
  generalize (if kb = true then k.2.1 else 11) = ek at *
  have c6 := fun w' (h : Pt w' P R ek k.2.2) => pstamp_any P R _ _ w' h (by omega)
  rw [hs] at c6
  have c7 := fun w' (h : Pt w' P R s.2.2.1 s.2.2.2) => pnumber_any P R _ _ w' h (by omega)
  rw [hq] at c7
  have c8 := fun w' (h : Pt w' P R q.2.1 q.2.2) => pstamp_any P R _ _ w' h (by omega)
  rw [hc] at c8
  have c9 := fun w' (h : Pt w' P R c.2.2.1 c.2.2.2) => pvalue_any P R _ _ w' h (by omega)
  rw [hv] at c9
  clear l1 l2 l3 l4 l5 l6 ha hb hk hs hq hc hv
  obtain ⟨a1, a2, a3⟩ := a
  obtain ⟨b1, b2, b3⟩ := b
  obtain ⟨q1, q2, q3⟩ := q
  obtain ⟨k1, k2, k3⟩ := k
  obtain ⟨s1, s2, s3, s4⟩ := s
  obtain ⟨d1, d2, d3, d4⟩ := c
  obtain ⟨v1, v2, v3, v4⟩ := v
  simp only at c1 c2 c3 c4 c5 c6 c7 c8 c9 ⊢
  generalize (⟨k1.toArray⟩ : ByteArray) = kk at *
  have g1 := h.r.lt
  have g2 := h.c.lt
  have j1 : w.heap.size + 1 ≠ P := by omega
  have j2 : w.heap.size + 1 ≠ R := by omega
  have j3 : w.heap.size ≠ w.heap.size + 1 := by omega
  have A := (Blk.new w #[.int .i64 0, .int .i64 0, .string ⟨#[]⟩, .int .i64 0, .int .i64 0, .int .i64 0, .int .i64 0, .int .i64 0, .string ⟨#[]⟩, .bool false] 42).alloc (.cells #[.int .i64 0, .int .i64 0, .string ⟨#[]⟩, .int .i64 0, .int .i64 0, .int .i64 0, .int .i64 0, .int .i64 0, .string ⟨#[]⟩, .bool false] 42)
  have T := Blk.new (w.alloc (.cells #[.int .i64 0, .int .i64 0, .string ⟨#[]⟩, .int .i64 0, .int .i64 0, .int .i64 0, .int .i64 0, .int .i64 0, .string ⟨#[]⟩, .bool false] 42)) #[.int .i64 0, .int .i64 0, .string ⟨#[]⟩, .int .i64 0, .int .i64 0, .int .i64 0, .int .i64 0, .int .i64 0, .string ⟨#[]⟩, .bool false] 42
  rw [show (w.alloc (.cells #[.int .i64 0, .int .i64 0, .string ⟨#[]⟩, .int .i64 0, .int .i64 0, .int .i64 0, .int .i64 0, .int .i64 0, .string ⟨#[]⟩, .bool false] 42)).heap.size = w.heap.size + 1 by simp] at T
  have hB : Below w.heap.size w ((w.alloc (.cells #[.int .i64 0, .int .i64 0, .string ⟨#[]⟩, .int .i64 0, .int .i64 0, .int .i64 0, .int .i64 0, .int .i64 0, .string ⟨#[]⟩, .bool false] 42)).alloc (.cells #[.int .i64 0, .int .i64 0, .string ⟨#[]⟩, .int .i64 0, .int .i64 0, .int .i64 0, .int .i64 0, .int .i64 0, .string ⟨#[]⟩, .bool false] 42)) := ((Below.refl w.heap.size w).alloc (Nat.le_refl _) _).alloc (by simp) _
  have h0 := h.later hB
  have M := hide (PtM.of (P := P) (R := R) hB)
  clear h hB
  go_enter Tryz.func53, Tryz.ntmps53
  go_wp2_with fail
  generalize (w.alloc _).alloc _ = W at *
  refine (c1 W h0).mono ?_
  clear c1 h0
  rintro e w1 ⟨rfl, h1, mm⟩
  replace A := A.ptm (by omega) (by omega) mm
  replace T := T.ptm (by omega) (by omega) mm
  replace M := hide ((unhide M).trans mm)
  clear mm
  go_wp2_with fail
  refine (c2 _ h1).mono ?_
  clear c2 h1
  rintro e w2 ⟨rfl, h2, mm⟩
  replace A := A.ptm (by omega) (by omega) mm
  replace T := T.ptm (by omega) (by omega) mm
  replace M := hide ((unhide M).trans mm)
  clear mm
  have HH := hide (And.intro h2 (And.intro A T))
  have T_0 := T.c 0; have T_1 := T.c 1; have T_2 := T.c 2; have T_3 := T.c 3; have T_4 := T.c 4; have T_5 := T.c 5; have T_6 := T.c 6; have T_7 := T.c 7; have T_8 := T.c 8; have T_9 := T.c 9; simp only [List.getElem?_cons_zero, List.getElem?_cons_succ] at T_0 T_1 T_2 T_3 T_4 T_5 T_6 T_7 T_8 T_9
  have Tf := T.f
  clear h2 A T
  go_wp2_with fail
  obtain ⟨h2, A, T⟩ := unhide HH
  have hP9 := Pt.others j1 j2 [.int .i64 a1, .int .i64 b1] 0 h2 T (by simp) (by simp) (by simp)
  have A9 := Blk.others j3 [.int .i64 a1, .int .i64 b1] 0 A
  have M9 := hide (PtM.newAll (B := w.heap.size + 1) (Nat.le_succ _) [.int .i64 a1, .int .i64 b1] 0 (unhide M))
  have T9 : Blk (setAll _ (w.heap.size + 1) 0 [.int .i64 a1, .int .i64 b1]) (w.heap.size + 1) [.int .i64 a1, .int .i64 b1, .string ⟨#[]⟩, .int .i64 0, .int .i64 0, .int .i64 0, .int .i64 0, .int .i64 0, .string ⟨#[]⟩, .bool false] := Blk.mid T [.int .i64 a1, .int .i64 b1] 0 [] [.int .i64 0, .int .i64 0] [.string ⟨#[]⟩, .int .i64 0, .int .i64 0, .int .i64 0, .int .i64 0, .int .i64 0, .string ⟨#[]⟩, .bool false] rfl rfl rfl
  clear h2 A T M HH Tf T_0 T_1 T_2 T_3 T_4 T_5 T_6 T_7 T_8 T_9
  change Calls _ _ _ (setAll w2 (w.heap.size + 1) 0 [.int .i64 a1, .int .i64 b1]) _
  generalize setAll w2 (w.heap.size + 1) 0 [.int .i64 a1, .int .i64 b1] = w3 at *
  refine (c3 w3 hP9).mono ?_
  clear c3 hP9
  rintro e w4 ⟨rfl, h4, mm⟩
  have A := A9.ptm (by omega) (by omega) mm
  have T := T9.ptm (by omega) (by omega) mm
  have M := hide ((unhide M9).trans mm)
  clear mm A9 T9 M9
  have HH := hide (And.intro h4 (And.intro A T))
  have T_0 := T.c 0; have T_1 := T.c 1; have T_2 := T.c 2; have T_3 := T.c 3; have T_4 := T.c 4; have T_5 := T.c 5; have T_6 := T.c 6; have T_7 := T.c 7; have T_8 := T.c 8; have T_9 := T.c 9; simp only [List.getElem?_cons_zero, List.getElem?_cons_succ] at T_0 T_1 T_2 T_3 T_4 T_5 T_6 T_7 T_8 T_9
  have Tf := T.f
  clear h4 A T
  go_wp2_with fail
  obtain ⟨h4, A, T⟩ := unhide HH
  have hP9 := Pt.others j1 j2 [.string kk] 2 h4 T (by simp) (by simp) (by simp)
  have A9 := Blk.others j3 [.string kk] 2 A
  have M9 := hide (PtM.newAll (B := w.heap.size + 1) (Nat.le_succ _) [.string kk] 2 (unhide M))
  have T9 : Blk (setAll _ (w.heap.size + 1) 2 [.string kk]) (w.heap.size + 1) [.int .i64 a1, .int .i64 b1, .string kk, .int .i64 0, .int .i64 0, .int .i64 0, .int .i64 0, .int .i64 0, .string ⟨#[]⟩, .bool false] := Blk.mid T [.string kk] 2 [.int .i64 a1, .int .i64 b1] [.string ⟨#[]⟩] [.int .i64 0, .int .i64 0, .int .i64 0, .int .i64 0, .int .i64 0, .string ⟨#[]⟩, .bool false] rfl rfl rfl
  clear h4 A T M HH Tf T_0 T_1 T_2 T_3 T_4 T_5 T_6 T_7 T_8 T_9
  change Calls _ _ _ (setAll w4 (w.heap.size + 1) 2 [.string kk]) _
  generalize setAll w4 (w.heap.size + 1) 2 [.string kk] = w5 at *
  refine (c4 w5).mono ?_
  clear c4
  rintro e w6 ⟨rfl, rfl⟩
  go_wp2_with fail
  refine (c5 _ hP9).mono ?_
  clear c5 hP9
  rintro e w7 ⟨rfl, h7, mm⟩
  have A := A9.ptm (by omega) (by omega) mm
  have T := T9.ptm (by omega) (by omega) mm
  have M := hide ((unhide M9).trans mm)
  clear mm A9 T9 M9
  go_wp2_with fail
  refine (c6 _ h7).mono ?_
  clear c6 h7
  rintro e w8 ⟨rfl, h8, mm⟩
  replace A := A.ptm (by omega) (by omega) mm
  replace T := T.ptm (by omega) (by omega) mm
  replace M := hide ((unhide M).trans mm)
  clear mm
  go_wp2_with fail
  refine (c7 _ h8).mono ?_
  clear c7 h8
  rintro e w9 ⟨rfl, h9, mm⟩
  replace A := A.ptm (by omega) (by omega) mm
  replace T := T.ptm (by omega) (by omega) mm
  replace M := hide ((unhide M).trans mm)
  clear mm
  go_wp2_with fail
  refine (c8 _ h9).mono ?_
  clear c8 h9
  rintro e w10 ⟨rfl, h10, mm⟩
  replace A := A.ptm (by omega) (by omega) mm
  replace T := T.ptm (by omega) (by omega) mm
  replace M := hide ((unhide M).trans mm)
  clear mm
  have HH := hide (And.intro h10 (And.intro A T))
  have T_0 := T.c 0; have T_1 := T.c 1; have T_2 := T.c 2; have T_3 := T.c 3; have T_4 := T.c 4; have T_5 := T.c 5; have T_6 := T.c 6; have T_7 := T.c 7; have T_8 := T.c 8; have T_9 := T.c 9; simp only [List.getElem?_cons_zero, List.getElem?_cons_succ] at T_0 T_1 T_2 T_3 T_4 T_5 T_6 T_7 T_8 T_9
  have Tf := T.f
  clear h10 A T
  go_wp2_with fail
  obtain ⟨h10, A, T⟩ := unhide HH
  have hP9 := Pt.others j1 j2 [.int .i64 s1, .int .i64 s2, .int .i64 q1, .int .i64 d1, .int .i64 d2] 3 h10 T (by simp) (by simp) (by simp)
  have A9 := Blk.others j3 [.int .i64 s1, .int .i64 s2, .int .i64 q1, .int .i64 d1, .int .i64 d2] 3 A
  have M9 := hide (PtM.newAll (B := w.heap.size + 1) (Nat.le_succ _) [.int .i64 s1, .int .i64 s2, .int .i64 q1, .int .i64 d1, .int .i64 d2] 3 (unhide M))
  have T9 : Blk (setAll _ (w.heap.size + 1) 3 [.int .i64 s1, .int .i64 s2, .int .i64 q1, .int .i64 d1, .int .i64 d2]) (w.heap.size + 1) [.int .i64 a1, .int .i64 b1, .string kk, .int .i64 s1, .int .i64 s2, .int .i64 q1, .int .i64 d1, .int .i64 d2, .string ⟨#[]⟩, .bool false] := Blk.mid T [.int .i64 s1, .int .i64 s2, .int .i64 q1, .int .i64 d1, .int .i64 d2] 3 [.int .i64 a1, .int .i64 b1, .string kk] [.int .i64 0, .int .i64 0, .int .i64 0, .int .i64 0, .int .i64 0] [.string ⟨#[]⟩, .bool false] rfl rfl rfl
  clear h10 A T M HH Tf T_0 T_1 T_2 T_3 T_4 T_5 T_6 T_7 T_8 T_9
  change Calls _ _ _ (setAll w10 (w.heap.size + 1) 3 [.int .i64 s1, .int .i64 s2, .int .i64 q1, .int .i64 d1, .int .i64 d2]) _
  generalize setAll w10 (w.heap.size + 1) 3 [.int .i64 s1, .int .i64 s2, .int .i64 q1, .int .i64 d1, .int .i64 d2] = w11 at *
  refine (c9 w11 hP9).mono ?_
  clear c9 hP9
  rintro e w12 ⟨rfl, h12, mm⟩
  have A := A9.ptm (by omega) (by omega) mm
  have T := T9.ptm (by omega) (by omega) mm
  have M := hide ((unhide M9).trans mm)
  clear mm A9 T9 M9
  have HH := hide (And.intro h12 (And.intro A T))
  have T_0 := T.c 0; have T_1 := T.c 1; have T_2 := T.c 2; have T_3 := T.c 3; have T_4 := T.c 4; have T_5 := T.c 5; have T_6 := T.c 6; have T_7 := T.c 7; have T_8 := T.c 8; have T_9 := T.c 9; simp only [List.getElem?_cons_zero, List.getElem?_cons_succ] at T_0 T_1 T_2 T_3 T_4 T_5 T_6 T_7 T_8 T_9
  have Tf := T.f
  clear h12 A T
  obtain ⟨_, A, _⟩ := unhide HH
  have A_0 := A.c 0; have A_1 := A.c 1; have A_2 := A.c 2; have A_3 := A.c 3; have A_4 := A.c 4; have A_5 := A.c 5; have A_6 := A.c 6; have A_7 := A.c 7; have A_8 := A.c 8; have A_9 := A.c 9; simp only [List.getElem?_cons_zero, List.getElem?_cons_succ] at A_0 A_1 A_2 A_3 A_4 A_5 A_6 A_7 A_8 A_9
  have Af := A.f
  clear A
  go_wp2
  obtain ⟨h12, A, T⟩ := unhide HH
  have hP9 := Pt.others j1 j2 [.string v1, .bool v2] 8 h12 T (by simp) (by simp) (by simp)
  have A9 := Blk.others j3 [.string v1, .bool v2] 8 A
  have M9 := hide (PtM.newAll (B := w.heap.size + 1) (Nat.le_succ _) [.string v1, .bool v2] 8 (unhide M))
  have T9 : Blk (setAll _ (w.heap.size + 1) 8 [.string v1, .bool v2]) (w.heap.size + 1) [.int .i64 a1, .int .i64 b1, .string kk, .int .i64 s1, .int .i64 s2, .int .i64 q1, .int .i64 d1, .int .i64 d2, .string v1, .bool v2] := Blk.mid T [.string v1, .bool v2] 8 [.int .i64 a1, .int .i64 b1, .string kk, .int .i64 s1, .int .i64 s2, .int .i64 q1, .int .i64 d1, .int .i64 d2] [.string ⟨#[]⟩, .bool false] [] rfl rfl rfl
  clear h12 A T M HH Tf T_0 T_1 T_2 T_3 T_4 T_5 T_6 T_7 T_8 T_9
  have QA := A9.all [.int .i64 a1, .int .i64 b1, .string kk, .int .i64 s1, .int .i64 s2, .int .i64 q1, .int .i64 d1, .int .i64 d2, .string v1, .bool v2] rfl
  have hP8 := Pt.others (B := w.heap.size) (by omega) (by omega) [.int .i64 a1, .int .i64 b1, .string kk, .int .i64 s1, .int .i64 s2, .int .i64 q1, .int .i64 d1, .int .i64 d2, .string v1, .bool v2] 0 hP9 A9 (by simp) (by simp) (by simp)
  refine bodyPost_ret (results_it9 Tryz.results53 ⟨⟨(a1 : Int), (b1 : Int), kk, ((s1 : Int), (s2 : Int))⟩, (q1 : Int), ((d1 : Int), (d2 : Int)), v1, v2⟩ rfl QA) rfl ?_
  exact ⟨rfl, hP8, PtM.newAll (Nat.le_refl _) [.int .i64 a1, .int .i64 b1, .string kk, .int .i64 s1, .int .i64 s2, .int .i64 q1, .int .i64 d1, .int .i64 d2, .string v1, .bool v2] 0 (unhide M9)⟩
theorem pintent_any (P R : Nat) (er : Int) (l : List UInt8) (w : World) (h : Pt w P R er l) (hl : l.length ≤ 1099511627776) :
    Calls Tryz.prog 53 #[.pointer (some ⟨P, 0, none⟩)] w fun e w' => ∃ i, i = (itnP er l).1 ∧ e = .returned (.agg #[.int .i64 i.txn.id, .int .i64 i.txn.ep, .string i.txn.anchor, .int .i64 i.txn.start.1, .int .i64 i.txn.start.2, .int .i64 i.seq, .int .i64 i.at_.1, .int .i64 i.at_.2, .string i.val, .bool i.gone]) ∧ Pt w' P R (itnP er l).2.1 (itnP er l).2.2 ∧ PtM P R w w' := by
  refine (pintent_aux P R er l w h hl _ _ _ _ _ _ _ rfl rfl rfl rfl rfl rfl rfl).mono ?_
  rintro e w' ⟨he, hp, hm⟩
  exact ⟨_, rfl, he, hp, hm⟩
end

end Go.Proofs.YtcdehnghggleoaaGreat

/-
  The parts by lists: sound where the strict reader has it, an error where not. No law is proved here.
-/
namespace Go.Proofs.YtcdehnghggleoaaGreat
open Go.RowKit
set_option linter.unusedVariables false

theorem numP_ne {er : Int} {l : List UInt8} (h : er ≠ 0) : (numP er l).2.1 ≠ 0 := by unfold numP; rw [if_neg h]; exact h
theorem txtP_ne {er : Int} {l : List UInt8} {m : Int} (h : er ≠ 0) : (txtP er l m).2.1 ≠ 0 := by unfold txtP; rw [if_neg h]; exact h
theorem flgP_ne {er : Int} {l : List UInt8} (h : er ≠ 0) : (flgP er l).2.1 ≠ 0 := by unfold flgP; rw [if_neg h]; exact h
theorem stpP_ne {er : Int} {l : List UInt8} (h : er ≠ 0) : (stpP er l).2.2.1 ≠ 0 := by unfold stpP; rw [if_neg h]; exact h
theorem valP_ne {er : Int} {l : List UInt8} (h : er ≠ 0) : (valP er l).2.2.1 ≠ 0 := by
  unfold valP
  simp only
  split
  · exact flgP_ne (txtP_ne h)
  · decide
theorem verP_ne {er : Int} {l : List UInt8} (h : er ≠ 0) : (verP er l).2.1 ≠ 0 := by
  unfold verP
  exact numP_ne (valP_ne (stpP_ne h))
theorem itnP_ne {er : Int} {l : List UInt8} (h : er ≠ 0) : (itnP er l).2.1 ≠ 0 := by
  unfold itnP
  refine valP_ne (stpP_ne (numP_ne (stpP_ne ?_)))
  split
  · exact txtP_ne (numP_ne (numP_ne h))
  · decide

theorem numP_some {l r : List UInt8} {v : Nat} (h : optN l mxN = some (v, r)) : numP 0 l = (v, 0, r) := by
  unfold optN at h
  split at h
  · rename_i q
    simp only [Option.some.injEq, Prod.mk.injEq] at h
    unfold numP
    rw [if_pos rfl]
    exact Prod.ext h.1 (Prod.ext q h.2)
  · cases h
theorem numP_none {l : List UInt8} (h : optN l mxN = none) : (numP 0 l).2.1 ≠ 0 := by
  unfold optN at h
  split at h
  · cases h
  · rename_i q
    unfold numP
    rw [if_pos rfl]
    exact q
theorem flgP_some {l r : List UInt8} {v : Bool} (h : optF l = some (v, r)) : flgP 0 l = (v, 0, r) := by
  unfold optF at h
  split at h
  · rename_i q
    simp only [Option.some.injEq, Prod.mk.injEq] at h
    unfold flgP
    rw [if_pos rfl]
    exact Prod.ext h.1 (Prod.ext q h.2)
  · cases h
theorem flgP_none {l : List UInt8} (h : optF l = none) : (flgP 0 l).2.1 ≠ 0 := by
  unfold optF at h
  split at h
  · cases h
  · rename_i q
    unfold flgP
    rw [if_pos rfl]
    exact q
theorem txtP_some {l r : List UInt8} {m : Int} {v : ByteArray} (h : optT l m = some (v, r)) : (⟨(txtP 0 l m).1.toArray⟩ : ByteArray) = v ∧ (txtP 0 l m).2 = (0, r) := by
  unfold optT at h
  split at h
  · rename_i q
    simp only [Option.some.injEq, Prod.mk.injEq] at h
    unfold txtP
    rw [if_pos rfl]
    exact ⟨h.1, Prod.ext q h.2⟩
  · cases h
theorem txtP_none {l : List UInt8} {m : Int} (h : optT l m = none) : (txtP 0 l m).2.1 ≠ 0 := by
  unfold optT at h
  split at h
  · cases h
  · rename_i q
    unfold txtP
    rw [if_pos rfl]
    exact q
theorem stpP_some {l r : List UInt8} {s : Stp} (h : optS l = some (s, r)) : (((stpP 0 l).1 : Int), ((stpP 0 l).2.1 : Int)) = s ∧ (stpP 0 l).2.2 = (0, r) := by
  unfold optS at h
  split at h
  · rename_i q
    simp only [Option.some.injEq, Prod.mk.injEq] at h
    unfold stpP
    rw [if_pos rfl]
    exact ⟨h.1, Prod.ext q h.2⟩
  · cases h
theorem stpP_none {l : List UInt8} (h : optS l = none) : (stpP 0 l).2.2.1 ≠ 0 := by
  unfold optS at h
  split at h
  · cases h
  · rename_i q
    unfold stpP
    rw [if_pos rfl]
    exact q

/-- A value that comes next. -/
def optV (l : List UInt8) : Option ((ByteArray × Bool) × List UInt8) := (optT l 16).bind fun t => (optF t.2).bind fun g => if valB t.1 g.1 = true then some ((t.1, g.1), g.2) else none
theorem valP_some {l r : List UInt8} {v : ByteArray × Bool} (h : optV l = some (v, r)) : valP 0 l = (v.1, v.2, 0, r) := by
  unfold optV at h
  simp only [Option.bind_eq_some_iff] at h
  obtain ⟨⟨t, l1⟩, h1, ⟨g, l2⟩, h2, h3⟩ := h
  simp only at h2 h3
  obtain ⟨e1, e2⟩ := txtP_some h1
  have e3 := flgP_some h2
  split at h3
  · rename_i q
    simp only [Option.some.injEq, Prod.mk.injEq] at h3
    obtain ⟨rfl, rfl⟩ := h3
    unfold valP
    rw [e1, e2]
    simp only [e3, q, if_true]
  · cases h3
theorem valP_none {l : List UInt8} (h : optV l = none) : (valP 0 l).2.2.1 ≠ 0 := by
  unfold optV at h
  cases h1 : optT l 16 with
  | none =>
    have := txtP_none h1
    unfold valP
    simp only
    split
    · exact flgP_ne this
    · decide
  | some t =>
    obtain ⟨t, l1⟩ := t
    obtain ⟨e1, e2⟩ := txtP_some h1
    rw [h1] at h
    simp only [Option.bind_some] at h
    unfold valP
    rw [e1, e2]
    cases h2 : optF l1 with
    | none =>
      have := flgP_none h2
      simp only
      split
      · exact this
      · decide
    | some g =>
      obtain ⟨g, l2⟩ := g
      rw [h2] at h
      simp only [Option.bind_some] at h
      rw [flgP_some h2]
      simp only
      split
      · rename_i q
        rw [if_pos q] at h
        cases h
      · decide

theorem prsV_eq (l : List UInt8) : prsV l = (optS l).bind fun s => (optV s.2).bind fun v => (optN v.2 mxN).bind fun n => some (⟨s.1, v.1.1, v.1.2, (n.1 : Int)⟩, n.2) := by
  unfold prsV optV
  cases optS l with
  | none => rfl
  | some s =>
    simp only [Option.bind_some]
    cases optT s.2 16 with
    | none => rfl
    | some t =>
      simp only [Option.bind_some]
      cases optF t.2 with
      | none => rfl
      | some g =>
        simp only [Option.bind_some]
        split <;> rfl
theorem verP_some {l r : List UInt8} {v : Ver} (h : prsV l = some (v, r)) : verP 0 l = (v, 0, r) := by
  rw [prsV_eq] at h
  simp only [Option.bind_eq_some_iff] at h
  obtain ⟨⟨s, l1⟩, h1, ⟨x, l2⟩, h2, ⟨n, l3⟩, h3, h4⟩ := h
  simp only [Option.some.injEq, Prod.mk.injEq] at h2 h3 h4
  obtain ⟨rfl, rfl⟩ := h4
  obtain ⟨e1, e2⟩ := stpP_some h1
  unfold verP
  rw [e1, e2]
  simp only [valP_some h2, numP_some h3]
theorem verP_none {l : List UInt8} (h : prsV l = none) : (verP 0 l).2.1 ≠ 0 := by
  rw [prsV_eq] at h
  unfold verP
  cases h1 : optS l with
  | none => exact numP_ne (valP_ne (stpP_none h1))
  | some s =>
    obtain ⟨s, l1⟩ := s
    obtain ⟨e1, e2⟩ := stpP_some h1
    rw [h1] at h
    simp only [Option.bind_some] at h
    rw [e2]
    cases h2 : optV l1 with
    | none => exact numP_ne (valP_none h2)
    | some x =>
      obtain ⟨x, l2⟩ := x
      rw [h2] at h
      simp only [Option.bind_some] at h
      rw [valP_some h2]
      cases h3 : optN l2 mxN with
      | none => exact numP_none h3
      | some n => rw [h3] at h; cases h

theorem prsI_eq (l : List UInt8) : prsI l = (optN l mxN).bind fun i => (optN i.2 mxN).bind fun p => (optT p.2 8).bind fun k => if S5.keyB k.1 = true then (optS k.2).bind fun s => (optN s.2 mxN).bind fun q => (optS q.2).bind fun a => (optV a.2).bind fun v => some (⟨⟨(i.1 : Int), (p.1 : Int), k.1, s.1⟩, (q.1 : Int), a.1, v.1.1, v.1.2⟩, v.2) else none := by
  unfold prsI optV
  congr 1; funext i; congr 1; funext p; congr 1; funext k
  split
  · congr 1; funext s; congr 1; funext q; congr 1; funext a
    cases optT a.2 16 with
    | none => rfl
    | some t =>
      simp only [Option.bind_some]
      cases optF t.2 with
      | none => rfl
      | some g =>
        simp only [Option.bind_some]
        split <;> rfl
  · rfl
theorem itnP_some {l r : List UInt8} {v : Itn} (h : prsI l = some (v, r)) : itnP 0 l = (v, 0, r) := by
  rw [prsI_eq] at h
  simp only [Option.bind_eq_some_iff] at h
  obtain ⟨⟨i, l1⟩, h1, ⟨p, l2⟩, h2, ⟨k, l3⟩, h3, h4⟩ := h
  simp only at h2 h3 h4
  obtain ⟨e1, e2⟩ := txtP_some h3
  split at h4
  · rename_i kb
    simp only [Option.bind_eq_some_iff] at h4
    obtain ⟨⟨s, l4⟩, h5, ⟨q, l5⟩, h6, ⟨a, l6⟩, h7, ⟨x, l7⟩, h8, h9⟩ := h4
    simp only [Option.some.injEq, Prod.mk.injEq] at h6 h7 h8 h9
    obtain ⟨rfl, rfl⟩ := h9
    obtain ⟨s1, s2⟩ := stpP_some h5
    obtain ⟨a1, a2⟩ := stpP_some h7
    unfold itnP
    simp only [numP_some h1, numP_some h2, e1, e2, kb, if_true, s1, s2, numP_some h6, a1, a2, valP_some h8]
  · cases h4
theorem itnP_none {l : List UInt8} (h : prsI l = none) : (itnP 0 l).2.1 ≠ 0 := by
  rw [prsI_eq] at h
  unfold itnP
  simp only
  cases h1 : optN l mxN with
  | none =>
    refine valP_ne (stpP_ne (numP_ne (stpP_ne ?_)))
    split
    · exact txtP_ne (numP_ne (numP_none h1))
    · decide
  | some i =>
    obtain ⟨i, l1⟩ := i
    rw [h1] at h
    simp only [Option.bind_some] at h
    rw [numP_some h1]
    simp only
    cases h2 : optN l1 mxN with
    | none =>
      refine valP_ne (stpP_ne (numP_ne (stpP_ne ?_)))
      split
      · exact txtP_ne (numP_none h2)
      · decide
    | some p =>
      obtain ⟨p, l2⟩ := p
      rw [h2] at h
      simp only [Option.bind_some] at h
      rw [numP_some h2]
      simp only
      cases h3 : optT l2 8 with
      | none =>
        refine valP_ne (stpP_ne (numP_ne (stpP_ne ?_)))
        split
        · exact txtP_none h3
        · decide
      | some k =>
        obtain ⟨k, l3⟩ := k
        obtain ⟨e1, e2⟩ := txtP_some h3
        rw [h3] at h
        simp only [Option.bind_some] at h
        rw [e1, e2]
        simp only
        split
        · rename_i kb
          rw [if_pos kb] at h
          cases h5 : optS l3 with
          | none => exact valP_ne (stpP_ne (numP_ne (stpP_none h5)))
          | some s =>
            obtain ⟨s, l4⟩ := s
            obtain ⟨_, s2⟩ := stpP_some h5
            rw [h5] at h
            simp only [Option.bind_some] at h
            rw [s2]
            simp only
            cases h6 : optN l4 mxN with
            | none => exact valP_ne (stpP_ne (numP_none h6))
            | some q =>
              obtain ⟨q, l5⟩ := q
              rw [h6] at h
              simp only [Option.bind_some] at h
              rw [numP_some h6]
              simp only
              cases h7 : optS l5 with
              | none => exact valP_ne (stpP_none h7)
              | some a =>
                obtain ⟨a, l6⟩ := a
                obtain ⟨_, a2⟩ := stpP_some h7
                rw [h7] at h
                simp only [Option.bind_some] at h
                rw [a2]
                simp only
                cases h8 : optV l6 with
                | none => exact valP_none h8
                | some x => rw [h8] at h; cases h
        · exact valP_ne (stpP_ne (numP_ne (stpP_ne (by decide))))

end Go.Proofs.YtcdehnghggleoaaGreat

/-
  A chain's parts by lists. No law is proved here.
-/
namespace Go.Proofs.YtcdehnghggleoaaGreat
open Go.RowKit
set_option linter.unusedVariables false

/-- The versions that are appended while there is no error. -/
def vrsP : Nat → Int → List UInt8 → List Ver → List Ver × Int × List UInt8
  | 0, er, l, vs => (vs, er, l)
  | n + 1, er, l, vs => if er = 0 then vrsP n (verP 0 l).2.1 (verP 0 l).2.2 (vs ++ [(verP 0 l).1]) else (vs, er, l)
theorem vrsP_ne {n : Nat} {er : Int} {l : List UInt8} {vs : List Ver} (h : er ≠ 0) : vrsP n er l vs = (vs, er, l) := by
  cases n with
  | zero => rfl
  | succ n => unfold vrsP; rw [if_neg h]
theorem vrsP_some : ∀ {n : Nat} {l r : List UInt8} {us : List Ver} (vs : List Ver), prsVs n l = some (us, r) → vrsP n 0 l vs = (vs ++ us, 0, r)
  | 0, l, r, us, vs, h => by
    simp only [prsVs, Option.some.injEq, Prod.mk.injEq] at h
    obtain ⟨rfl, rfl⟩ := h
    simp [vrsP]
  | n + 1, l, r, us, vs, h => by
    simp only [prsVs, Option.bind_eq_some_iff] at h
    obtain ⟨⟨v, l1⟩, h1, ⟨ws, l2⟩, h2, h3⟩ := h
    simp only [Option.some.injEq, Prod.mk.injEq] at h2 h3
    obtain ⟨rfl, rfl⟩ := h3
    unfold vrsP
    rw [if_pos rfl, verP_some h1]
    simp only
    rw [vrsP_some _ h2]
    simp
theorem vrsP_none : ∀ {n : Nat} {l : List UInt8} (vs : List Ver), prsVs n l = none → (vrsP n 0 l vs).2.1 ≠ 0
  | 0, l, vs, h => by simp [prsVs] at h
  | n + 1, l, vs, h => by
    unfold vrsP
    rw [if_pos rfl]
    cases h1 : prsV l with
    | none =>
      rw [vrsP_ne (verP_none h1)]
      exact verP_none h1
    | some v =>
      obtain ⟨v, l1⟩ := v
      rw [verP_some h1]
      simp only
      refine vrsP_none _ ?_
      simp only [prsVs, h1, Option.bind_some] at h
      cases h2 : prsVs n l1 with
      | none => rfl
      | some x => rw [h2] at h; simp at h

/-- A chain, the error, what is left. -/
def chnP (er : Int) (l : List UInt8) : Chn × Int × List UInt8 :=
  let n := numP er l
  let v := vrsP n.1 n.2.1 n.2.2 []
  let o := flgP v.2.1 v.2.2
  if o.1 = true then (⟨v.1, true, (itnP o.2.1 o.2.2).1⟩, (itnP o.2.1 o.2.2).2) else (⟨v.1, false, Itn.zero⟩, o.2)
theorem chnP_some {l r : List UInt8} {c : Chn} (h : prsC l = some (c, r)) : chnP 0 l = (c, 0, r) := by
  unfold prsC at h
  simp only [Option.bind_eq_some_iff] at h
  obtain ⟨⟨n, l1⟩, h1, ⟨vs, l2⟩, h2, ⟨o, l3⟩, h3, h4⟩ := h
  simp only at h2 h3 h4
  unfold chnP
  simp only [numP_some h1, vrsP_some [] h2, flgP_some h3, List.nil_append]
  split at h4
  · rename_i q
    simp only [Option.bind_eq_some_iff] at h4
    obtain ⟨⟨i, l4⟩, h5, h6⟩ := h4
    simp only [Option.some.injEq, Prod.mk.injEq] at h6
    obtain ⟨rfl, rfl⟩ := h6
    rw [if_pos q, itnP_some h5]
  · rename_i q
    simp only [Option.some.injEq, Prod.mk.injEq] at h4
    obtain ⟨rfl, rfl⟩ := h4
    rw [if_neg q]

theorem chnP_bad {er : Int} {l : List UInt8} (h : (vrsP (numP er l).1 (numP er l).2.1 (numP er l).2.2 []).2.1 ≠ 0) : (chnP er l).2.1 ≠ 0 := by
  unfold chnP
  simp only
  split
  · exact itnP_ne (flgP_ne h)
  · exact flgP_ne h
theorem chnP_ne {er : Int} {l : List UInt8} (h : er ≠ 0) : (chnP er l).2.1 ≠ 0 := by
  refine chnP_bad ?_
  rw [vrsP_ne (numP_ne h)]
  exact numP_ne h
theorem chnP_none {l : List UInt8} (h : prsC l = none) : (chnP 0 l).2.1 ≠ 0 := by
  unfold prsC at h
  cases h1 : optN l mxN with
  | none =>
    refine chnP_bad ?_
    rw [vrsP_ne (numP_none h1)]
    exact numP_none h1
  | some n =>
    obtain ⟨n, l1⟩ := n
    rw [h1] at h
    simp only [Option.bind_some] at h
    cases h2 : prsVs n l1 with
    | none =>
      refine chnP_bad ?_
      rw [numP_some h1]
      exact vrsP_none [] h2
    | some vs =>
      obtain ⟨vs, l2⟩ := vs
      rw [h2] at h
      simp only [Option.bind_some] at h
      unfold chnP
      simp only [numP_some h1, vrsP_some [] h2]
      cases h3 : optF l2 with
      | none =>
        split
        · exact itnP_ne (flgP_none h3)
        · exact flgP_none h3
      | some o =>
        obtain ⟨o, l3⟩ := o
        rw [h3] at h
        simp only [Option.bind_some] at h
        rw [flgP_some h3]
        simp only
        cases h4 : prsI l3 with
        | none =>
          split
          · exact itnP_none h4
          · rename_i q
            rw [if_neg q] at h
            cases h
        | some i =>
          split at h
          · rw [h4] at h; cases h
          · cases h

end Go.Proofs.YtcdehnghggleoaaGreat

/-
  The document's parts by lists: it goes on behind a fault, and tells at the end. No law is proved here.
-/
namespace Go.Proofs.YtcdehnghggleoaaGreat
open Go.RowKit
set_option linter.unusedVariables false

/-- A version, whether there was a fault, what is left. -/
def verR (l : List UInt8) : Ver × Bool × List UInt8 :=
  let a := P1.rdS l
  let t := P1.rdT a.2.2.2 16
  let g := P1.rdF t.2.2
  let n := P1.rdN g.2.2 mxN
  (⟨((a.1 : Int), (a.2.1 : Int)), ⟨t.1.toArray⟩, g.1, (n.1 : Int)⟩, (((a.2.2.1 != 0 || t.2.1 != 0) || g.2.1 != 0) || n.2.1 != 0), n.2.2)
theorem prsV_doc (l : List UInt8) : prsV l = if (verR l).2.1 = false ∧ valB (verR l).1.val (verR l).1.gone = true then some ((verR l).1, (verR l).2.2) else none := by
  unfold prsV optS optT optF optN verR
  simp only
  generalize P1.rdS l = a
  obtain ⟨a1, a2, a3, a4⟩ := a
  simp only
  by_cases h1 : a3 = 0
  · subst h1
    simp only [if_true, Option.bind_some]
    generalize P1.rdT a4 16 = t
    obtain ⟨t1, t2, t3⟩ := t
    simp only
    by_cases h2 : t2 = 0
    · subst h2
      simp only [if_true, Option.bind_some]
      generalize P1.rdF t3 = g
      obtain ⟨g1, g2, g3⟩ := g
      simp only
      by_cases h3 : g2 = 0
      · subst h3
        simp only [if_true, Option.bind_some]
        generalize P1.rdN g3 mxN = n
        obtain ⟨n1, n2, n3⟩ := n
        simp only
        by_cases h4 : n2 = 0
        · subst h4
          simp
        · simp [h4]
      · simp [h3]
    · simp [h2]
  · simp [h1]

/-- An intent, whether there was a fault, what is left. -/
def itnR (l : List UInt8) : Itn × Bool × List UInt8 :=
  let i := P1.rdN l mxN
  let p := P1.rdN i.2.2 mxN
  let k := P1.rdT p.2.2 8
  let s := P1.rdS k.2.2
  let q := P1.rdN s.2.2.2 mxN
  let a := P1.rdS q.2.2
  let t := P1.rdT a.2.2.2 16
  let g := P1.rdF t.2.2
  (⟨⟨(i.1 : Int), (p.1 : Int), ⟨k.1.toArray⟩, ((s.1 : Int), (s.2.1 : Int))⟩, (q.1 : Int), ((a.1 : Int), (a.2.1 : Int)), ⟨t.1.toArray⟩, g.1⟩,
   (((((((i.2.1 != 0 || p.2.1 != 0) || k.2.1 != 0) || s.2.2.1 != 0) || q.2.1 != 0) || a.2.2.1 != 0) || t.2.1 != 0) || g.2.1 != 0), g.2.2)
theorem prsI_doc (l : List UInt8) : prsI l = if (itnR l).2.1 = false ∧ valB (itnR l).1.val (itnR l).1.gone = true ∧ S5.keyB (itnR l).1.txn.anchor = true then some ((itnR l).1, (itnR l).2.2) else none := by
  unfold prsI optS optT optF optN itnR
  simp only
  generalize P1.rdN l mxN = i
  obtain ⟨i1, i2, i3⟩ := i
  simp only
  by_cases h1 : i2 = 0
  rotate_left
  · simp [h1]
  subst h1
  simp only [if_true, Option.bind_some]
  generalize P1.rdN i3 mxN = p
  obtain ⟨p1, p2, p3⟩ := p
  simp only
  by_cases h2 : p2 = 0
  rotate_left
  · simp [h2]
  subst h2
  simp only [if_true, Option.bind_some]
  generalize P1.rdT p3 8 = k
  obtain ⟨k1, k2, k3⟩ := k
  simp only
  by_cases h3 : k2 = 0
  rotate_left
  · simp [h3]
  subst h3
  simp only [if_true, Option.bind_some]
  generalize S5.keyB ⟨k1.toArray⟩ = kb
  cases kb
  · simp
  simp only [if_true]
  generalize P1.rdS k3 = s
  obtain ⟨s1, s2, s3, s4⟩ := s
  simp only
  by_cases h4 : s3 = 0
  rotate_left
  · simp [h4]
  subst h4
  simp only [if_true, Option.bind_some]
  generalize P1.rdN s4 mxN = q
  obtain ⟨q1, q2, q3⟩ := q
  simp only
  by_cases h5 : q2 = 0
  rotate_left
  · simp [h5]
  subst h5
  simp only [if_true, Option.bind_some]
  generalize P1.rdS q3 = a
  obtain ⟨a1, a2, a3, a4⟩ := a
  simp only
  by_cases h6 : a3 = 0
  rotate_left
  · simp [h6]
  subst h6
  simp only [if_true, Option.bind_some]
  generalize P1.rdT a4 16 = t
  obtain ⟨t1, t2, t3⟩ := t
  simp only
  by_cases h7 : t2 = 0
  rotate_left
  · simp [h7]
  subst h7
  simp only [if_true, Option.bind_some]
  generalize P1.rdF t3 = g
  obtain ⟨g1, g2, g3⟩ := g
  simp only
  by_cases h8 : g2 = 0
  rotate_left
  · simp [h8]
  subst h8
  simp

/-- A chain that is right and not empty. -/
def okC (l : List UInt8) : Option (Chn × List UInt8) := (prsC l).bind fun c => if (rightCB c.1 && !emC c.1) = true then some c else none
/-- One more key. -/
theorem prsK_ok (n : Nat) (a : ByteArray) (l : List UInt8) : prsK (n + 1) a l = (optT l 8).bind fun k => (okC k.2).bind fun c => if (S5.keyB k.1 && S5.ltB a k.1) = true then (prsK n k.1 c.2).bind fun D => some ((k.1, c.1) :: D.1, D.2) else none := by
  unfold okC
  rw [prsK]
  congr 1; funext k
  cases prsC k.2 with
  | none => rfl
  | some c =>
    simp only [Option.bind_some]
    cases S5.keyB k.1 <;> cases S5.ltB a k.1 <;> cases rightCB c.1 <;> cases emC c.1 <;> rfl

/-- What is left is shorter. -/
theorem optT_len {l r : List UInt8} {most : Int} {s : ByteArray} (h : optT l most = some (s, r)) : r.length < l.length := by
  have := (optT_one h).1
  have h2 := P1.enc_pos s.size
  rw [this]
  simp only [List.length_append, P1.encT]
  omega
theorem optN_len {l r : List UInt8} {most : Int} {v : Nat} (h : optN l most = some (v, r)) : r.length < l.length := by
  have := (optN_one h).1
  have h2 := P1.enc_pos v
  rw [this]
  simp only [List.length_append]
  omega
theorem encV_pos (v : Ver) : 0 < (encV v).length := by
  have h2 := P1.enc_pos v.by_.toNat
  simp only [encV, List.length_append]
  omega
theorem flat_len (vs : List Ver) : vs.length ≤ (vs.flatMap encV).length := by
  induction vs with
  | nil => simp
  | cons v r ih =>
    have := encV_pos v
    simp only [List.flatMap_cons, List.length_append, List.length_cons]
    omega
theorem prsC_len {l r : List UInt8} {c : Chn} (h : prsC l = some (c, r)) : r.length + c.vs.length < l.length := by
  have := prsC_one h
  have h2 := P1.enc_pos c.vs.length
  have h3 := flat_len c.vs
  rw [this]
  simp only [encC, List.length_append]
  omega
theorem okC_one {l r : List UInt8} {c : Chn} (h : okC l = some (c, r)) : prsC l = some (c, r) ∧ rightCB c = true ∧ emC c = false := by
  unfold okC at h
  simp only [Option.bind_eq_some_iff] at h
  obtain ⟨⟨c', r'⟩, h1, h2⟩ := h
  simp only at h2
  split at h2
  · rename_i q
    cases h2
    simp only [Bool.and_eq_true, Bool.not_eq_true'] at q
    exact ⟨h1, q⟩
  · cases h2
/-- A chain by its parts. -/
theorem prsC_eq (l : List UInt8) : prsC l = (optN l mxN).bind fun n => (prsVs n.1 n.2).bind fun vs => (optF vs.2).bind fun o => if o.1 = true then (prsI o.2).bind fun i => some (⟨vs.1, true, i.1⟩, i.2) else some (⟨vs.1, false, Itn.zero⟩, o.2) := rfl

/-- The store's walk: what is still to come of the bytes, behind what there is. -/
def comeK (k : Nat) (a : ByteArray) (l : List UInt8) (D : List KC) : Option (List KC) := (prsK k a l).bind fun E => if E.2 = [] then some (D ++ E.1) else none
theorem comeK_zero (a : ByteArray) (l : List UInt8) (D : List KC) : comeK 0 a l D = if l = [] then some D else none := by simp [comeK, prsK]
theorem comeK_no {k : Nat} {a : ByteArray} {l : List UInt8} {D : List KC} (h : prsK (k + 1) a l = none) : comeK (k + 1) a l D = none := by simp [comeK, h]
theorem comeK_yes {k : Nat} {a : ByteArray} {l l1 l2 : List UInt8} {D : List KC} {key : ByteArray} {c : Chn} (h1 : optT l 8 = some (key, l1)) (h2 : prsC l1 = some (c, l2)) (h3 : (S5.keyB key && S5.ltB a key && rightCB c && !emC c) = true) :
    comeK (k + 1) a l D = comeK k key l2 (D ++ [(key, c)]) := by
  unfold comeK
  rw [prsK, h1]
  simp only [Option.bind_some, h2, h3, if_true]
  cases prsK k key l2 with
  | none => rfl
  | some E => simp
theorem prsS_come (l : List UInt8) : prsS l = (optN l mxN).bind fun n => comeK n.1 S5.emp n.2 [] := by
  simp only [prsS, comeK, List.nil_append]

end Go.Proofs.YtcdehnghggleoaaGreat

/-
  The document's reader by what is left of it. No law is proved here.
-/
namespace Go.Proofs.YtcdehnghggleoaaGreat
open Go.RowKit
set_option linter.unusedVariables false

/-- The document's reader: what is left, whether there was a fault. -/
def Dc (S : Nat) (w : World) (M : Nat) (r : List UInt8) (bad : Bool) : Prop :=
  ∃ ao c l i, P1.RefRd w M (.slice ao l.length c) i bad ∧ P1.Sl w (.slice ao l.length c) l ∧ i ≤ l.length ∧ l.length ≤ 1099511627776 ∧ r = l.drop i ∧ (l ≠ [] → ∀ a, ao = some a → a.block < S)
theorem Dc.lt {S : Nat} {w : World} {M : Nat} {r : List UInt8} {bad : Bool} (h : Dc S w M r bad) : M < w.heap.size := by
  obtain ⟨ao, c, l, i, h1, _⟩ := h
  exact h1.lt
theorem Dc.len {S : Nat} {w : World} {M : Nat} {r : List UInt8} {bad : Bool} (h : Dc S w M r bad) : r.length ≤ 1099511627776 := by
  obtain ⟨ao, c, l, i, h1, h2, h3, h4, rfl, h5⟩ := h
  rw [List.length_drop]
  omega
theorem Dc.below {S : Nat} {w w' : World} {M B : Nat} {r : List UInt8} {bad : Bool} (h : Dc S w M r bad) (hb : Below B w w') (hB : w.heap.size ≤ B) : Dc S w' M r bad := by
  obtain ⟨ao, c, l, i, h1, h2, h3, h4, e, h5⟩ := h
  exact ⟨ao, c, l, i, h1.below hb hB, h2.below hb hB, h3, h4, e, h5⟩
theorem Dc.later {S : Nat} {w w' : World} {M : Nat} {r : List UInt8} {bad : Bool} (h : Dc S w M r bad) (hb : Below w.heap.size w w') : Dc S w' M r bad := h.below hb (Nat.le_refl _)
theorem Dc.bad {S : Nat} {w : World} {M : Nat} {r : List UInt8} {bad : Bool} (h : Dc S w M r bad) : w.cell? ⟨M, 2, none⟩ = some (.bool bad) := by
  obtain ⟨ao, c, l, i, h1, _⟩ := h
  exact h1.cells.2.2.1
theorem Dc.other {S : Nat} {w : World} {M : Nat} {r : List UInt8} {bad : Bool} (h : Dc S w M r bad) {q : Addr} {y : Value} (hq : w.cell? q = some y) (hy : ∀ n, y ≠ .int .u8 n) (n1 : q.block ≠ M) (x : Value) : Dc S (w.setCell q x) M r bad := by
  obtain ⟨ao, c, l, i, h1, h2, h3, h4, e, h5⟩ := h
  exact ⟨ao, c, l, i, h1.other n1 x, sl_setNo h2 hq hy x, h3, h4, e, h5⟩
theorem Dc.others {S : Nat} {M : Nat} {r : List UInt8} {bad : Bool} {B : Nat} (n1 : B ≠ M) : ∀ (vs : List Value) {w : World} {cs : List Value} (k : Nat), Dc S w M r bad → Blk w B cs → k + vs.length ≤ cs.length → (∀ y ∈ cs, ∀ n, y ≠ .int .u8 n) → (∀ y ∈ vs, ∀ n, y ≠ .int .u8 n) → Dc S (setAll w B k vs) M r bad
  | [], _, _, _, h, _, _, _, _ => h
  | v :: s, w, cs, k, h, hb, hk, hc, hv => by
    have hk0 : k < cs.length := by simp at hk; omega
    have hq : w.cell? ⟨B, k, none⟩ = some cs[k] := by rw [hb.c k, List.getElem?_eq_getElem hk0]
    rw [setAll]
    refine Dc.others n1 s (k + 1) (h.other hq (hc _ (List.getElem_mem hk0)) n1 v) (hb.set k hk0 v) (by simp at hk ⊢; omega) (fun y hy => ?_) (fun y hy => hv y (List.mem_cons_of_mem _ hy))
    rcases List.mem_or_eq_of_mem_set hy with q | q
    · exact hc y q
    · rw [q]; exact hv v (by simp)

theorem Dc.grown {S : Nat} {w w' : World} {M : Nat} {r : List UInt8} {bad : Bool} (h : Dc S w M r bad) {row : Option Nat} (hg : w.grownBy w' row) (hM : some M ≠ row) (hS : ∀ g, row = some g → S ≤ g) : Dc S w' M r bad := by
  obtain ⟨ao, c, l, i, h1, h2, h3, h4, e, h5⟩ := h
  have hlt := h1.lt
  have eM := hg.block M hlt hM
  refine ⟨ao, c, l, i, ?_, ?_, h3, h4, e, h5⟩
  · exact eM.trans h1
  · obtain ⟨bo, d, e', g1, g2, g3, g4⟩ := h2
    injection e' with e1 e2 e3
    subst e1 e3
    refine ⟨ao, c, rfl, g1, g2, g3, fun a ha j u hu => ?_⟩
    have hc := g4 a ha j u hu
    have hne : l ≠ [] := by
      rintro rfl
      simp [P1.bc] at hu
    have hb := h5 hne a ha
    rw [World.cell?_of_block]
    · exact hc
    · exact hg.block _ (World.block_lt_of_cell? w _ hc) (fun q => by
        have := hS _ q.symm
        rw [P1.Addr.add_block] at this
        omega)

/-- Blocks beside the reader. -/
theorem Blk.turned {w w' : World} {B M : Nat} {cs : List Value} (h : Blk w B cs) (n1 : B ≠ M) (hm : P1.Turned M w w') : Blk w' B cs := by
  have e := hm.block B h.lt n1
  exact ⟨fun j => (World.cell?_of_block (a := ⟨B, j, none⟩) e).trans (h.c j), fun j => (World.frozen?_of_block (a := ⟨B, j, none⟩) e).trans (h.f j), Nat.lt_of_lt_of_le h.lt hm.size⟩
theorem TurnedAll {M B : Nat} {a : World} (hB : a.heap.size ≤ B) : ∀ (cs : List Value) {b : World} (k : Nat), P1.Turned M a b → P1.Turned M a (setAll b B k cs)
  | [], _, _, h => h
  | c :: r, b, k, h => by
    rw [setAll]
    exact TurnedAll hB r (k + 1) (h.new hB c)

section
set_option maxRecDepth 100000
set_option maxHeartbeats 2000000

theorem dn_any (S M : Nat) (r : List UInt8) (bad : Bool) (most : Int) (w : World) (h : Dc S w M r bad) :
    Calls Tryz.prog 23 #[.pointer (some ⟨M, 0, none⟩), .int .i64 most] w fun e w' => e = .returned (.int .i64 (P1.rdN r most).1) ∧ Dc S w' M (P1.rdN r most).2.2 (bad || (P1.rdN r most).2.1 != 0) ∧ P1.Turned M w w' := by
  obtain ⟨ao, c, l, i, h1, h2, h3, h4, rfl, h5⟩ := h
  refine (P1.refn_any M i bad ao c l most w h1 h2 h4 h3).mono ?_
  rintro e w' ⟨k, rfl, hr, hk, hm, ht⟩
  exact ⟨rfl, ⟨ao, c, l, i + k, hm, h2.touch ht h1 ⟨_, _, _, rfl⟩, hk, h4, hr, h5⟩, (P1.Turned.of (Below.refl _ _)).touch ht⟩
theorem dt_any (S M : Nat) (r : List UInt8) (bad : Bool) (most : Int) (w : World) (h : Dc S w M r bad) :
    Calls Tryz.prog 24 #[.pointer (some ⟨M, 0, none⟩), .int .i64 most] w fun e w' => e = .returned (.string ⟨(P1.rdT r most).1.toArray⟩) ∧ Dc S w' M (P1.rdT r most).2.2 (bad || (P1.rdT r most).2.1 != 0) ∧ P1.Turned M w w' := by
  obtain ⟨ao, c, l, i, h1, h2, h3, h4, rfl, h5⟩ := h
  refine (P1.reft_any M i bad ao c l most w h1 h2 h4 h3).mono ?_
  rintro e w' ⟨k, rfl, hr, hk, hm, ht⟩
  exact ⟨rfl, ⟨ao, c, l, i + k, hm, h2.touch ht h1 ⟨_, _, _, rfl⟩, hk, h4, hr, h5⟩, (P1.Turned.of (Below.refl _ _)).touch ht⟩
theorem df_any (S M : Nat) (r : List UInt8) (bad : Bool) (w : World) (h : Dc S w M r bad) :
    Calls Tryz.prog 58 #[.pointer (some ⟨M, 0, none⟩)] w fun e w' => e = .returned (.bool (P1.rdF r).1) ∧ Dc S w' M (P1.rdF r).2.2 (bad || (P1.rdF r).2.1 != 0) ∧ P1.Turned M w w' := by
  obtain ⟨ao, c, l, i, h1, h2, h3, h4, rfl, h5⟩ := h
  refine (P1.reff_any M i bad ao c l w h1 h2 h4 h3).mono ?_
  rintro e w' ⟨k, rfl, hr, hk, hm, ht⟩
  exact ⟨rfl, ⟨ao, c, l, i + k, hm, h2.touch ht h1 ⟨_, _, _, rfl⟩, hk, h4, hr, h5⟩, (P1.Turned.of (Below.refl _ _)).touch ht⟩
theorem dget_any (S M : Nat) (r : List UInt8) (bad : Bool) (w : World) (h : Dc S w M r bad) :
    Calls Tryz.prog 88 #[.pointer (some ⟨M, 0, none⟩)] w fun e w' => ∃ er, e = .returned (.tuple #[.agg #[.int .i64 (P1.rdS r).1, .int .i64 (P1.rdS r).2.1], .int .i64 er]) ∧ Dc S w' M (P1.rdS r).2.2.2 (bad || (P1.rdS r).2.2.1 != 0) ∧ P1.Turned M w w' := by
  obtain ⟨ao, c, l, i, h1, h2, h3, h4, rfl, h5⟩ := h
  refine (P1.refgetb_any M i bad ao c l w h1 h2 h4 h3).mono ?_
  rintro e w' ⟨x, er, rfl, k, rfl, hr, hk, hm, hs, ht⟩
  exact ⟨er, rfl, ⟨ao, c, l, i + k, hm, hs, hk, h4, hr, h5⟩, ht⟩
theorem dg_any (S M : Nat) (r : List UInt8) (bad : Bool) (w : World) (h : Dc S w M r bad) :
    Calls Tryz.prog 57 #[.pointer (some ⟨M, 0, none⟩)] w fun e w' => e = .returned (.agg #[.int .i64 (P1.rdS r).1, .int .i64 (P1.rdS r).2.1]) ∧ Dc S w' M (P1.rdS r).2.2.2 (bad || (P1.rdS r).2.2.1 != 0) ∧ P1.Turned M w w' := by
  have hN := fun w' h' => dget_any S M r bad w' h'
  generalize P1.rdS r = z at *
  obtain ⟨a, b, x, y⟩ := z
  simp only at hN ⊢
  generalize (bad || x != 0) = bb at *
  have g1 := h.lt
  have Q := Blk.new w #[.int .i64 0, .int .i64 0] 36
  have hB : Below w.heap.size w (w.alloc (.cells #[.int .i64 0, .int .i64 0] 36)) := (Below.refl w.heap.size w).alloc (Nat.le_refl _) _
  have h0 := h.later hB
  have T0 := hide (P1.Turned.of (M := M) hB)
  clear h hB
  go_enter Tryz.func57, Tryz.ntmps57
  go_wp2_with fail
  generalize w.alloc _ = W at *
  refine (hN W h0).mono ?_
  clear hN h0
  rintro e w1 ⟨er, rfl, h1, t1⟩
  replace Q := Q.turned (by omega) t1
  have gk := Q.lt
  replace T0 := hide ((unhide T0).trans t1)
  clear t1
  have Q_0 := Q.c 0; have Q_1 := Q.c 1; simp only [List.getElem?_cons_zero, List.getElem?_cons_succ] at Q_0 Q_1
  have f1 := Q.f
  have HH := hide (And.intro h1 Q)
  clear h1 Q
  go_wp2
  obtain ⟨h1, Q⟩ := unhide HH
  have QA := (Q.all [.int .i64 a, .int .i64 b] rfl).alloc (.cells #[.int .i64 a, .int .i64 b] 36)
  have q0 := QA.c 0
  have q1 := QA.c 1
  simp only [List.getElem?_cons_zero, List.getElem?_cons_succ] at q0 q1
  refine bodyPost_ret (results_stp Tryz.results57 rfl q0 q1) rfl ?_
  exact ⟨rfl, (Dc.others (B := w.heap.size) (by omega) [.int .i64 a, .int .i64 b] 0 h1 Q (by simp) (by simp) (by simp)).later ((Below.refl _ _).alloc (Nat.le_refl _) _), (TurnedAll (Nat.le_refl _) [.int .i64 a, .int .i64 b] 0 (unhide T0)).trans (P1.Turned.of ((Below.refl _ _).alloc (Nat.le_refl _) _))⟩
end

end Go.Proofs.YtcdehnghggleoaaGreat

/-
  The document's Value; a row of versions beside the reader; the loop of a chain's versions by lists. No law is proved here.
-/
namespace Go.Proofs.YtcdehnghggleoaaGreat
open Go.RowKit
set_option linter.unusedVariables false

theorem VOwn.frame {B : Nat} {w w' : World} {ao : Option Addr} {c : Nat} {vs : List Ver} (h : VOwn B w ao c vs) (hk : ∀ g, B ≤ g → g < w.heap.size → w'.heap[g]? = w.heap[g]?) (hz : w.heap.size ≤ w'.heap.size) : VOwn B w' ao c vs := by
  refine ⟨h.1, ?_⟩
  rcases h.2 with h0 | ⟨g, cap, cur, e, hb, hg, rest⟩
  · exact .inl h0
  · refine .inr ⟨g, cap, cur, e, hb, ?_, rest⟩
    rw [hk g hb (Array.getElem?_eq_some_iff.1 hg).1]
    exact hg
theorem VOwn.turned {B M : Nat} {w w' : World} {ao : Option Addr} {c : Nat} {vs : List Ver} (h : VOwn B w ao c vs) (hM : M < B) (hm : P1.Turned M w w') : VOwn B w' ao c vs :=
  h.frame (fun g hb hg => hm.block g hg (by omega)) hm.size
theorem VOwn.ptm {B P R : Nat} {w w' : World} {ao : Option Addr} {c : Nat} {vs : List Ver} (h : VOwn B w ao c vs) (hP : P < B) (hR : R < B) (hm : PtM P R w w') : VOwn B w' ao c vs :=
  h.frame (fun g hb hg => hm.blk g hg (by omega) (by omega)) hm.size

/-- What the loop of the document's versions knows. -/
def ChI (n : Nat) (r0 : List UInt8) (k : Nat) (r : List UInt8) (bad good : Bool) (vs : List Ver) : Prop :=
  if bad = false ∧ good = true then prsVs n r0 = (prsVs (n - k) r).bind fun us => some (vs ++ us.1, us.2) else prsVs n r0 = none
theorem ChI.start (n : Nat) (r0 : List UInt8) : ChI n r0 0 r0 false true [] := by
  unfold ChI
  rw [if_pos ⟨rfl, rfl⟩, Nat.sub_zero]
  cases prsVs n r0 <;> rfl
theorem ChI.step {n : Nat} {r0 r : List UInt8} {k : Nat} {good : Bool} {vs : List Ver} (h : ChI n r0 k r false good vs) (hk : k < n) :
    ChI n r0 (k + 1) (verR r).2.2 (verR r).2.1 (good && valB (verR r).1.val (verR r).1.gone) (vs ++ [(verR r).1]) := by
  unfold ChI at *
  cases good
  · rw [if_neg (by simp)] at h
    rw [if_neg (by simp)]
    exact h
  · rw [if_pos ⟨rfl, rfl⟩] at h
    have e : n - k = (n - (k + 1)) + 1 := by omega
    rw [e, prsVs, prsV_doc] at h
    simp only [Bool.true_and]
    split
    · rename_i q
      rw [if_pos q] at h
      rw [h]
      simp only [Option.bind_some]
      cases prsVs (n - (k + 1)) (verR r).2.2 with
      | none => rfl
      | some us => simp
    · rename_i q
      rw [if_neg q] at h
      exact h
theorem ChI.done {n : Nat} {r0 r : List UInt8} {k : Nat} {bad good : Bool} {vs : List Ver} (h : ChI n r0 k r bad good vs) (hk : k = n ∨ bad = true) :
    prsVs n r0 = if bad = false ∧ good = true then some (vs, r) else none := by
  unfold ChI at h
  split
  · rename_i q
    rw [if_pos q] at h
    rcases hk with rfl | hk
    · rw [h, Nat.sub_self]
      simp [prsVs]
    · rw [q.1] at hk
      cases hk
  · rename_i q
    rw [if_neg q] at h
    exact h

section
set_option maxRecDepth 100000
set_option maxHeartbeats 2000000

theorem refvalue_any (s : ByteArray) (gone : Bool) (w : World) (hs : s.size ≤ 9223372036854775807) : Calls Tryz.prog 59 #[.string s, .bool gone] w fun e w' => e = .returned (.bool (valB s gone)) ∧ w' = w := by
  have e0' : (ByteArray.mk #[]).toList = [] := S5.emp_toList
  have HA : Hid (s.toList.all visB = false → valB s gone = false) := fun h => by unfold valB; rw [h, Bool.and_false]
  have HB : Hid (s.toList.all visB = true → valB s gone = (decide (s.size ≤ 16) && (!gone || s.toList == []))) := fun h => by unfold valB; rw [h, Bool.and_true]
  generalize hz : (s.toList == []) = z at *
  generalize valB s gone = vb at *
  go_enter Tryz.func59, Tryz.ntmps59
  go_wp2
  go_loop [5] (fun i => ∃ k : Nat, i = .int .i64 k ∧ k ≤ s.size ∧ Hid (Viss s k)) (fun i => s.size - (intOf i).toNat)
  case atStart => exact ⟨0, rfl, by omega, by intro b hb; simp at hb⟩
  case round =>
    obtain ⟨k, rfl, hk, Hl⟩ := hrel
    by_cases hlt : k < s.size
    · have H3 : Hid (s[k].toNat < 33 ∨ 126 < s[k].toNat → s.toList.all visB = false) := vis_not hlt
      have H2 : Hid (33 ≤ s[k].toNat → s[k].toNat ≤ 126 → Viss s (k + 1)) := fun a b => (unhide Hl).step hlt a b
      obtain ⟨cn, hcn⟩ : ∃ cn, s[k].toNat = cn := ⟨_, rfl⟩
      rw [hcn] at H3 H2
      by_cases h97 : cn < 33
      · go_wp2
        go_ret
        rw [unhide HA (unhide H3 (.inl h97))]
        exact ⟨rfl, rfl⟩
      · by_cases h122 : 126 < cn
        · go_wp2
          go_ret
          rw [unhide HA (unhide H3 (.inr h122))]
          exact ⟨rfl, rfl⟩
        · go_wp2
          go_round
          case rel => exact ⟨k + 1, by go_num, by omega, unhide H2 (by omega) (by omega)⟩
          case measure => simp [intOf]; omega
    · have hv := unhide HB ((unhide Hl).all (by omega))
      by_cases h16 : s.size ≤ 16
      · rw [decide_eq_true h16, Bool.true_and] at hv
        have Hv := hide hv
        clear hv
        cases gone
        · go_wp2
          go_ret
          rw [unhide Hv]
          exact ⟨rfl, rfl⟩
        · go_wp2
          go_ret
          rw [unhide Hv]
          exact ⟨rfl, rfl⟩
      · rw [decide_eq_false h16, Bool.false_and] at hv
        have Hv := hide hv
        clear hv
        go_wp2
        go_ret
        rw [unhide Hv]
        exact ⟨rfl, rfl⟩
end

end Go.Proofs.YtcdehnghggleoaaGreat
