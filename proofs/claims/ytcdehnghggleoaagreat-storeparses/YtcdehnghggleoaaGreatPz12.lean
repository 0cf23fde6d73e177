/-
  The store's Parse: what its loop knows. No law is proved here.
-/
import Derived.Test.YtcdehnghggleoaaGreatPz11
import Derived.Test.YtcdehnghggleoaaGreatSt8
namespace Go.Proofs.YtcdehnghggleoaaGreat
open Go.RowKit Go.Maps
set_option linter.unusedVariables false

/-- All versions lie at or behind block S. -/
def Far (L : List Ent) (S : Nat) : Prop := ∀ e ∈ L, ∀ g o, e.ao = some ⟨g, o, none⟩ → S ≤ g
theorem PtM.below {P R B : Nat} {w w' : World} (h : PtM P R w w') (hP : B ≤ P) (hR : B ≤ R) (hB : B ≤ w.heap.size) : Below B w w' :=
  ⟨h.os, h.tape, h.output, h.size, fun k hk => h.blk k (by omega) (by omega) (by omega)⟩
theorem own_ptm {w w' : World} {P R b n : Nat} {d : DataW Value} (h : w.ownsMap Tryz.prog 9 rv b n d) (h1 : b ≠ P) (h2 : b ≠ R) (hm : PtM P R w w') : w'.ownsMap Tryz.prog 9 rv b n d := by
  have hlt := h.lt
  obtain ⟨es, clock, hb, F, hs, hD⟩ := h
  exact ⟨es, clock, (hm.blk b hlt h1 h2).trans hb, F, hs, hD⟩
theorem Vs.ptm {w w' : World} {P R S : Nat} {ao : Option Addr} {c : Nat} {vs : List Ver} (h : Vs w ao c vs) (hS : ∀ g o, ao = some ⟨g, o, Option.none⟩ → S ≤ g) (h1 : P < S) (h2 : R < S) (hm : PtM P R w w') : Vs w' ao c vs :=
  h.kept fun g o e hl => hm.blk g hl (by have := hS g o e; omega) (by have := hS g o e; omega)
theorem Sto.ptm {w w' : World} {a b : Nat} {L : List Ent} {P R S : Nat} (h : Sto w a b L) (hF : Far L S) (h1 : P < S) (h2 : R < S) (a1 : a ≠ P) (a2 : a ≠ R) (b1 : b ≠ P) (b2 : b ≠ R) (hm : PtM P R w w') : Sto w' a b L := by
  obtain ⟨n, hn, hl⟩ := h.own
  exact ⟨(hm.blk a h.lta a1 a2).trans h.at_, ⟨n, own_ptm hn b1 b2 hm, hl⟩, h.rise, h.keys, fun e he => (h.vs e he).ptm (hF e he) h1 h2 hm, h.lim⟩
theorem Room.ptm {w w' : World} {b N : Nat} {L : List Ent} {P R : Nat} (h : Room w b L N) (b1 : b ≠ P) (b2 : b ≠ R) (hm : PtM P R w w') : Room w' b L N := by
  obtain ⟨⟨n, hn, hl⟩, h2⟩ := h
  exact ⟨⟨n, own_ptm hn b1 b2 hm, hl⟩, h2⟩

/-- The parts under a map's write. -/
theorem Pt.mapped {w w' : World} {P R b : Nat} {er : Int} {l : List UInt8} (h : Pt w P R er l) (hb : ∃ o : Obj, w.heap[b]? = some o ∧ o.isCells = false) (h1 : b ≠ P) (h2 : b ≠ R) (hg : w.grownBy w' (some b)) : Pt w' P R er l := by
  have eP := hg.block P h.c.lt (fun e => h1 (by injection e with e; exact e.symm))
  have eR := hg.block R h.r.lt (fun e => h2 (by injection e with e; exact e.symm))
  obtain ⟨bo, n, d, g1, g2, g3, g4⟩ := h.r
  have hne : ∀ a, bo = some a → w'.heap[a.block]? = w.heap[a.block]? := fun a ha => by
    obtain ⟨m, hm⟩ := g4 a ha
    refine hg.block _ (P1.shape_lt hm) (fun e => ?_)
    have e1 : a.block = b := by injection e
    obtain ⟨o, ho, hc⟩ := hb
    rw [e1] at hm
    unfold World.shape? at hm
    rw [ho] at hm
    cases o
    · cases hc
    all_goals cases hm
  refine ⟨⟨fun j => (World.cell?_of_block (a := ⟨P, j, none⟩) eP).trans (h.c.c j), fun j => (World.frozen?_of_block (a := ⟨P, j, none⟩) eP).trans (h.c.f j), Nat.lt_of_lt_of_le h.c.lt hg.size⟩, ⟨bo, n, d, (World.cell?_of_block (a := ⟨R, 0, none⟩) eR).trans g1, (World.frozen?_of_block (a := ⟨R, 0, none⟩) eR).trans g2, ?_, ?_⟩, h.ne⟩
  · obtain ⟨ao', d', e', q1, q2, q3, q4⟩ := g3
    injection e' with e1 e2 e3
    subst e1 e2 e3
    exact ⟨bo, d, rfl, q1, q2, q3, fun a ha j u hu => (World.cell?_of_block (by rw [P1.Addr.add_block]; exact hne a ha)).trans (q4 a ha j u hu)⟩
  · intro a ha
    obtain ⟨m, hm⟩ := g4 a ha
    exact ⟨m, (P1.shape_block (hne a ha)).trans hm⟩

/-- The map's write, whatever there is. -/
theorem put_loose {w : World} {b n : Nat} {d : DataW Value} (hn : w.ownsMap Tryz.prog 9 rv b n d) (hl : n < 1000000) (k : ByteArray) (hk : k.size ≤ 1000) (v : Value) :
    ∃ w2, (Instr.mapUpdate 66 (.map (some b)) (.string k) v).run Tryz.prog w = .ok () w2 ∧ w.grownBy w2 (some b) := by
  obtain ⟨w2, hrun, ho, hg⟩ := hn.update (t := 66) (e := 61) keyed Tryz.underlying66 (by unfold maxLen; omega) (keyOf_s (k := k) (by unfold maxLen; omega)) (val := v) (d := .held v) (ps := []) rfl
  exact ⟨w2, hrun, hg⟩
theorem own_notcells {w : World} {b n : Nat} {d : DataW Value} (hn : w.ownsMap Tryz.prog 9 rv b n d) : ∃ o : Obj, w.heap[b]? = some o ∧ o.isCells = false := by
  obtain ⟨es, clock, hb, _⟩ := hn
  exact ⟨_, hb, rfl⟩

theorem gt_ltB (a k : ByteArray) : S5.ltB a k = (!Op.bytesLess k.toList a.toList && !k.toList == a.toList) := by
  show S5.ltB a k = (!S5.ltB k a && !k.toList == a.toList)
  rcases S5.L.tot a k with h | h | h
  · have h1 : S5.ltB a k = true := h
    rw [h1, S5.lt_asymm h1]
    have h2 : (k.toList == a.toList) = false := by
      rw [beq_eq_false_iff_ne]
      intro e
      exact S5.L.irr a (by have := S5.toList_inj e; rw [this] at h; exact h)
    rw [h2]
    rfl
  · subst h
    rw [S5.lt_irrefl]
    simp
  · have h1 : S5.ltB k a = true := h
    rw [h1, S5.lt_asymm h1]
    rfl
/-- A key that is above all others comes last. -/
theorem abs_last : ∀ {L : List Ent} {x : Ent}, (∀ e ∈ L, S5.L e.key x.key) → absL (setE L x) = absL L ++ [(x.key, x.c)]
  | [], x, h => rfl
  | e :: r, x, h => by
    have h1 := h e (List.mem_cons_self ..)
    have n1 : ¬ e.key = x.key := fun q => S5.L.irr x.key (by rw [q] at h1; exact h1)
    have n2 : ¬ S5.ltB x.key e.key = true := fun q => S5.L.irr x.key (S5.L.tr q h1)
    unfold setE
    rw [if_neg n1, if_neg n2]
    unfold absL
    rw [List.map_cons, List.map_cons, List.cons_append]
    congr 1
    exact abs_last fun z hz => h z (List.mem_cons_of_mem _ hz)
/-- None above a. -/
def Upto (L : List Ent) (a : ByteArray) : Prop := ∀ e ∈ L, e.key = a ∨ S5.L e.key a
theorem Upto.above {L : List Ent} {a k : ByteArray} (h : Upto L a) (hk : S5.L a k) : ∀ e ∈ L, S5.L e.key k := fun e he => by
  rcases h e he with q | q
  · rw [q]; exact hk
  · exact S5.L.tr q hk
theorem Upto.next {L : List Ent} {a : ByteArray} {x : Ent} (hr : riseE L) (h : Upto L a) (hk : S5.L a x.key) : Upto (setE L x) x.key := fun e he => by
  rcases (mem_setE hr).1 he with rfl | ⟨q, _⟩
  · exact .inl rfl
  · exact .inr (h.above hk e q)
theorem Far.next {L : List Ent} {S : Nat} {x : Ent} (hr : riseE L) (h : Far L S) (hx : ∀ g o, x.ao = some ⟨g, o, none⟩ → S ≤ g) : Far (setE L x) S := fun e he => by
  rcases (mem_setE hr).1 he with rfl | ⟨q, _⟩
  · exact hx
  · exact h e q

/-- What Parse's loop knows. -/
def PI (l0 : List UInt8) (w : World) (s b S k : Nat) (a : ByteArray) (er : Int) (l : List UInt8) : Prop :=
  (er ≠ 0 → prsS l0 = none) ∧ (er = 0 → ∃ L N, Sto w s b L ∧ Room w b L N ∧ 1000 ≤ N ∧ N + l.length ≤ 2000 ∧ Far L S ∧ Upto L a ∧ prsS l0 = comeK k a l (absL L))
theorem PI.len {l0 : List UInt8} {w : World} {s b S k : Nat} {a : ByteArray} {l : List UInt8} (h : PI l0 w s b S k a 0 l) : l.length ≤ 1000 := by
  obtain ⟨L, N, h1, h2, h3, h4, _⟩ := h.2 rfl
  omega
theorem PI.ptm {l0 : List UInt8} {w w' : World} {s b S k P R : Nat} {a : ByteArray} {er : Int} {l : List UInt8} (h : PI l0 w s b S k a er l) (h1 : P < S) (h2 : R < S) (a1 : s ≠ P) (a2 : s ≠ R) (b1 : b ≠ P) (b2 : b ≠ R) (hm : PtM P R w w') : PI l0 w' s b S k a er l :=
  ⟨h.1, fun he => by
    obtain ⟨L, N, g1, g2, g3, g4, g5, g6, g7⟩ := h.2 he
    exact ⟨L, N, g1.ptm g5 h1 h2 a1 a2 b1 b2 hm, g2.ptm b1 b2 hm, g3, g4, g5, g6, g7⟩⟩
theorem PI.later {l0 : List UInt8} {w w' : World} {s b S k : Nat} {a : ByteArray} {er : Int} {l : List UInt8} (h : PI l0 w s b S k a er l) (hm : Below w.heap.size w w') : PI l0 w' s b S k a er l :=
  ⟨h.1, fun he => by
    obtain ⟨L, N, g1, g2, g3, g4, g5, g6, g7⟩ := h.2 he
    exact ⟨L, N, g1.later hm, g2.later hm, g3, g4, g5, g6, g7⟩⟩

/-- One round by lists. -/
def stpK (l : List UInt8) (a : ByteArray) : Int :=
  let t := txtP 0 l 8
  let c := chnP t.2.1 t.2.2
  let e1 := if (S5.keyB ⟨t.1.toArray⟩ && S5.ltB a ⟨t.1.toArray⟩) = true then c.2.1 else 11
  if (rightCB c.1 && !emC c.1) = true then e1 else 11
theorem stpK_yes {l : List UInt8} {a : ByteArray} (h : stpK l a = 0) :
    optT l 8 = some (⟨(txtP 0 l 8).1.toArray⟩, (txtP 0 l 8).2.2) ∧ prsC (txtP 0 l 8).2.2 = some ((chnP (txtP 0 l 8).2.1 (txtP 0 l 8).2.2).1, (chnP (txtP 0 l 8).2.1 (txtP 0 l 8).2.2).2.2) ∧
    (S5.keyB ⟨(txtP 0 l 8).1.toArray⟩ && S5.ltB a ⟨(txtP 0 l 8).1.toArray⟩ && rightCB (chnP (txtP 0 l 8).2.1 (txtP 0 l 8).2.2).1 && !emC (chnP (txtP 0 l 8).2.1 (txtP 0 l 8).2.2).1) = true := by
  unfold stpK at h
  simp only at h
  split at h
  · rename_i q2
    split at h
    · rename_i q1
      cases h1 : optT l 8 with
      | none => exact absurd h (chnP_ne (txtP_none h1))
      | some t =>
        obtain ⟨t, l1⟩ := t
        obtain ⟨e1, e2⟩ := txtP_some h1
        rw [e2] at h q2 ⊢
        simp only at h q2 ⊢
        rw [e1] at q1 ⊢
        cases h2 : prsC l1 with
        | none => exact absurd h (chnP_none h2)
        | some c =>
          obtain ⟨c, l2⟩ := c
          rw [chnP_some h2] at q2 ⊢
          simp only [Bool.and_eq_true] at q1 q2 ⊢
          exact ⟨trivial, trivial, ⟨⟨q1, q2.1⟩, q2.2⟩⟩
    · exact absurd h (by decide)
  · exact absurd h (by decide)
theorem stpK_no {l : List UInt8} {a : ByteArray} {k : Nat} (h : stpK l a ≠ 0) : prsK (k + 1) a l = none := by
  unfold stpK at h
  simp only at h
  rw [prsK]
  cases h1 : optT l 8 with
  | none => rfl
  | some t =>
    obtain ⟨t, l1⟩ := t
    obtain ⟨e1, e2⟩ := txtP_some h1
    rw [e2] at h
    simp only at h
    rw [e1] at h
    simp only [Option.bind_some]
    cases h2 : prsC l1 with
    | none => rfl
    | some c =>
      obtain ⟨c, l2⟩ := c
      rw [chnP_some h2] at h
      simp only [Option.bind_some] at h ⊢
      split at h
      · rename_i q2
        split at h
        · exact absurd rfl h
        · rename_i q1
          rw [if_neg]
          intro q
          simp only [Bool.and_eq_true] at q q1
          exact q1 ⟨q.1.1.1, q.1.1.2⟩
      · rename_i q2
        rw [if_neg]
        intro q
        simp only [Bool.and_eq_true] at q q2
        exact q2 ⟨q.1.2, q.2⟩

theorem PI.start {l0 : List UInt8} {w : World} {s b S : Nat} (hl : l0.length ≤ 1000) (h : Sto w s b []) : PI l0 w s b S (numP 0 l0).1 S5.emp (numP 0 l0).2.1 (numP 0 l0).2.2 := by
  have h1 := numP_len 0 l0
  refine ⟨fun hn => ?_, fun he => ?_⟩
  · rw [prsS_come]
    cases h2 : optN l0 mxN with
    | none => rfl
    | some n =>
      obtain ⟨n, r⟩ := n
      rw [numP_some h2] at hn
      exact absurd rfl hn
  · have hr : Room w b [] 1000 := by
      obtain ⟨n, hn, _⟩ := h.own
      exact ⟨⟨0, own_tight hn, by omega⟩, fun e he => (by cases he)⟩
    refine ⟨[], 1000, h, hr, Nat.le_refl _, by omega, fun e he => (by cases he), fun e he => (by cases he), ?_⟩
    rw [prsS_come]
    cases h2 : optN l0 mxN with
    | none => exact absurd he (numP_none h2)
    | some n =>
      obtain ⟨n, r⟩ := n
      rw [numP_some h2]
      rfl
theorem txtP_size (l : List UInt8) (m : Int) : (txtP 0 l m).1.length ≤ l.length := by
  unfold txtP
  rw [if_pos rfl]
  unfold P1.rdT
  split
  · exact Nat.zero_le _
  · rw [List.length_take, List.length_drop]
    omega
theorem PI.cell {l0 : List UInt8} {w : World} {s b S k : Nat} {a : ByteArray} {l : List UInt8} (h : PI l0 w s b S k a 0 l) : w.cell? ⟨s, 0, Option.none⟩ = some (.map (some b)) ∧ ∃ o : Obj, w.heap[b]? = some o ∧ o.isCells = false := by
  obtain ⟨L, N, g1, g2, _⟩ := h.2 rfl
  obtain ⟨⟨n, hn, _⟩, _⟩ := g2
  exact ⟨g1.cell, own_notcells hn⟩
/-- One round. -/
theorem PI.put {l0 : List UInt8} {w : World} {s b S m : Nat} {a : ByteArray} {l : List UInt8} (h : PI l0 w s b S (m + 1) a 0 l) {t1 : List UInt8} {t2 : Int} {t3 : List UInt8} (ht : txtP 0 l 8 = (t1, t2, t3)) {key : ByteArray} (hkey : (⟨t1.toArray⟩ : ByteArray) = key) {c1 : Chn} {c2 : Int} {c3 : List UInt8} (hc : chnP t2 t3 = (c1, c2, c3))
    {ao : Option Addr} {cap n : Nat} (hn : c1.vs.length = n) (hv : Vs w ao cap c1.vs) (hf : ∀ g o, ao = some ⟨g, o, Option.none⟩ → S ≤ g) {e4 : Int} (he : e4 = if (rightCB c1 && !emC c1) = true then (if (S5.keyB key && S5.ltB a key) = true then c2 else 11) else 11) :
    ∃ w2, (Instr.mapUpdate 66 (.map (some b)) (.string key) (.agg #[.slice ao n cap, .bool c1.opn, .int .i64 c1.itn.txn.id, .int .i64 c1.itn.txn.ep, .string c1.itn.txn.anchor, .int .i64 c1.itn.txn.start.1, .int .i64 c1.itn.txn.start.2, .int .i64 c1.itn.seq, .int .i64 c1.itn.at_.1, .int .i64 c1.itn.at_.2, .string c1.itn.val, .bool c1.itn.gone])).run Tryz.prog w = .ok () w2 ∧ PI l0 w2 s b S m key e4 c3 ∧ w.grownBy w2 (some b) ∧ w2.cell? ⟨s, 0, Option.none⟩ = some (.map (some b)) := by
  subst hn hkey
  have hst : stpK l a = e4 := by
    unfold stpK
    simp only [ht, hc]
    exact he.symm
  obtain ⟨L, N, g1, g2, g3, g4, g5, g6, g7⟩ := h.2 rfl
  have hsz := txtP_size l 8
  rw [ht] at hsz
  simp only at hsz
  by_cases h0 : e4 = 0
  · obtain ⟨q1, q2, q3⟩ := stpK_yes (hst.trans h0)
    simp only [ht, hc] at q1 q2 q3
    have ll1 := optT_len q1
    have ll2 := prsC_len q2
    have q4 := q3
    simp only [Bool.and_eq_true] at q4
    obtain ⟨w2, hrun, k1, k2, k3⟩ := put_store g1 g2 (by omega) ⟨⟨t1.toArray⟩, ao, cap, c1⟩ rfl hv q4.1.1.1 (by show c1.vs.length ≤ N + 1; omega)
    refine ⟨w2, hrun, ⟨fun hn => absurd h0 hn, fun _ => ⟨_, N + 1, k1, k2, by omega, by omega, g5.next g1.rise hf, g6.next (x := ⟨⟨t1.toArray⟩, ao, cap, c1⟩) g1.rise q4.1.1.2, ?_⟩⟩, k3, k1.cell⟩
    rw [g7, comeK_yes q1 q2 q3, abs_last (g6.above (k := ⟨t1.toArray⟩) q4.1.1.2)]
  · obtain ⟨⟨n, hn, hnN⟩, _⟩ := g2
    obtain ⟨w2, hrun, hg⟩ := put_loose hn (by omega) ⟨t1.toArray⟩ (by show t1.toArray.size ≤ 1000; rw [List.size_toArray]; omega) (.agg #[.slice ao c1.vs.length cap, .bool c1.opn, .int .i64 c1.itn.txn.id, .int .i64 c1.itn.txn.ep, .string c1.itn.txn.anchor, .int .i64 c1.itn.txn.start.1, .int .i64 c1.itn.txn.start.2, .int .i64 c1.itn.seq, .int .i64 c1.itn.at_.1, .int .i64 c1.itn.at_.2, .string c1.itn.val, .bool c1.itn.gone])
    have hsb := g1.ne
    refine ⟨w2, hrun, ⟨fun _ => ?_, fun e => absurd e h0⟩, hg, (World.cell?_of_block (a := ⟨s, 0, none⟩) (hg.block s g1.lta (fun e => hsb (by injection e)))).trans g1.cell⟩
    rw [g7]
    exact comeK_no (stpK_no (fun e => h0 (hst.symm.trans e)))
/-- When the loop is done. -/
theorem PI.done {l0 : List UInt8} {w : World} {s b S k : Nat} {a : ByteArray} {er : Int} {l : List UInt8} (h : PI l0 w s b S k a er l) (hk : k = 0 ∨ er ≠ 0) :
    if er = 0 ∧ l = [] then ∃ L N, Sto w s b L ∧ Room w b L N ∧ N ≤ 2000 ∧ Far L S ∧ prsS l0 = some (absL L) else prsS l0 = none := by
  split
  · rename_i q
    obtain ⟨rfl, rfl⟩ := q
    rcases hk with rfl | hk
    · obtain ⟨L, N, h1, h2, h3, h4, h5, h6, h7⟩ := h.2 rfl
      rw [comeK_zero, if_pos rfl] at h7
      exact ⟨L, N, h1, h2, by omega, h5, h7⟩
    · exact absurd rfl hk
  · rename_i q
    by_cases he : er = 0
    · rcases hk with rfl | hk
      · obtain ⟨L, N, h1, h2, h3, h4, h5, h6, h7⟩ := h.2 he
        rw [comeK_zero, if_neg (fun e => q ⟨he, e⟩)] at h7
        exact h7
      · exact absurd he hk
    · exact h.1 he

end Go.Proofs.YtcdehnghggleoaaGreat
