/-
  The contract of Read. No law is proved here.
-/
import Derived.Test.YtcdehnghggleoaaGreatGz7
import Derived.Test.YtcdehnghggleoaaGreatVq
import Derived.Maps.AppendAt
namespace Go.Proofs.YtcdehnghggleoaaGreat
open Go.RowKit Go.Maps
set_option linter.unusedVariables false
attribute [local go_sem] Oper.semAt_some

/-- While a span is read: the caller's variables. -/
structure RdI (w : World) (S1 : Nat) (at' li : Stp) (id ep : Int) (s : RdS) (W : World) : Prop where
  bel : Below w.heap.size w W
  A : Blk W (w.heap.size + 1) [.int .i64 (at').1, .int .i64 (at').2]
  L : Blk W (w.heap.size + 1 + 1) [.int .i64 li.1, .int .i64 li.2]
  I : Blk W (w.heap.size + 1 + 1 + 1) [.int .i64 id]
  E : Blk W (w.heap.size + 1 + 1 + 1 + 1) [.int .i64 ep]
  Q1 : Blk W (w.heap.size + 1 + 1 + 1 + 1 + 1) [.slice none 0 0]
  Q2 : Blk W (w.heap.size + 1 + 1 + 1 + 1 + 1 + 1) [.int .i64 0, .int .i64 0]
  Q3 : Blk W (w.heap.size + 1 + 1 + 1 + 1 + 1 + 1 + 1) [.int .i64 0, .int .i64 0, .string ⟨#[]⟩, .int .i64 0, .int .i64 0]
  Q4 : Blk W (w.heap.size + 1 + 1 + 1 + 1 + 1 + 1 + 1 + 1) [.int .i64 0]
  P : ∃ v, Blk W S1 [v] ∧ W.ownsRow (S1 + 3) 51 2 v s.ps.length (pcs s.ps)
  U : Blk W (S1 + 1) [.int .i64 s.u.1, .int .i64 s.u.2]
  R : Blk W (S1 + 2) [.int .i64 s.r]

theorem RdI.own {w : World} {S1 B : Nat} (hB : w.heap.size ≤ B) {at' li : Stp} {id ep : Int} {s : RdS} {W W' : World} {row : Option Nat} (h : RdI w S1 at' li id ep s W) (hg : W.grownBy W' row) (hr : ∀ r, row = some r → B ≤ r ∧ ∃ o : Obj, W.heap[r]? = some o ∧ o.isCells = false) : RdI w S1 at' li id ep s W' := by
  have hr' : ∀ r, row = some r → ∃ o : Obj, W.heap[r]? = some o ∧ o.isCells = false := fun r e => (hr r e).2
  obtain ⟨v, hp, ho⟩ := h.P
  exact ⟨below_turn h.bel hB h.bel.size hg hr, h.A.turn (by simp) hg hr', h.L.turn (by simp) hg hr', h.I.turn (by simp) hg hr', h.E.turn (by simp) hg hr', h.Q1.turn (by simp) hg hr', h.Q2.turn (by simp) hg hr', h.Q3.turn (by simp) hg hr', h.Q4.turn (by simp) hg hr',
    ⟨v, hp.turn (by simp) hg hr', row_turn ho hg hr'⟩, h.U.turn (by simp) hg hr', h.R.turn (by simp) hg hr'⟩

theorem RdI.later {w : World} {S1 : Nat} {at' li : Stp} {id ep : Int} {s : RdS} {W W' : World} (h : RdI w S1 at' li id ep s W) (hb : Below W.heap.size W W') : RdI w S1 at' li id ep s W' := by
  obtain ⟨v, hp, ho⟩ := h.P
  refine ⟨h.bel.trans (hb.mono h.bel.size), h.A.later hb, h.L.later hb, h.I.later hb, h.E.later hb, h.Q1.later hb, h.Q2.later hb, h.Q3.later hb, h.Q4.later hb, ⟨v, hp.later hb, ?_⟩, h.U.later hb, h.R.later hb⟩
  exact ho.kept (row := none) ⟨hb.os, hb.tape, hb.output, hb.size, fun k hk _ => hb.block k hk⟩ (by cases v.ownBlock <;> simp)

/-- The answer, when a round has left for good. -/
structure RdX (w : World) (R : List Pr × Stp × Met × Int) (W : World) : Prop where
  bel : Below w.heap.size w W
  Q1 : Blk W (w.heap.size + 1 + 1 + 1 + 1 + 1) [.slice none 0 0]
  Q2 : Blk W (w.heap.size + 1 + 1 + 1 + 1 + 1 + 1) [.int .i64 R.2.1.1, .int .i64 R.2.1.2]
  Q3 : Blk W (w.heap.size + 1 + 1 + 1 + 1 + 1 + 1 + 1) [.int .i64 R.2.2.1.id, .int .i64 R.2.2.1.ep, .string R.2.2.1.anchor, .int .i64 R.2.2.1.start.1, .int .i64 R.2.2.1.start.2]
  Q4 : Blk W (w.heap.size + 1 + 1 + 1 + 1 + 1 + 1 + 1 + 1) [.int .i64 R.2.2.2]
  nil : R.1 = []
theorem RdX.own {w : World} {B : Nat} (hB : w.heap.size ≤ B) {R : List Pr × Stp × Met × Int} {W W' : World} {row : Option Nat} (h : RdX w R W) (hg : W.grownBy W' row) (hr : ∀ r, row = some r → B ≤ r ∧ ∃ o : Obj, W.heap[r]? = some o ∧ o.isCells = false) : RdX w R W' := by
  have hr' : ∀ r, row = some r → ∃ o : Obj, W.heap[r]? = some o ∧ o.isCells = false := fun r e => (hr r e).2
  exact ⟨below_turn h.bel hB h.bel.size hg hr, h.Q1.turn (by simp) hg hr', h.Q2.turn (by simp) hg hr', h.Q3.turn (by simp) hg hr', h.Q4.turn (by simp) hg hr', h.nil⟩

theorem results_r4 {fn : Func} {k1 k2 k3 k4 : Nat} (hf : fn.results = #[.cell k1 43, .cell k2 36, .cell k3 38, .cell k4 25]) {tmps : Array Value} {w : World} {B1 B2 B3 B4 : Nat} (v : Value) (hv1 : v.oneCell' = true) (s : Stp) (m : Met) (e : Int)
    (hk1 : tmps[k1]? = some (.pointer (some ⟨B1, 0, none⟩))) (hk2 : tmps[k2]? = some (.pointer (some ⟨B2, 0, none⟩))) (hk3 : tmps[k3]? = some (.pointer (some ⟨B3, 0, none⟩))) (hk4 : tmps[k4]? = some (.pointer (some ⟨B4, 0, none⟩)))
    (h1 : Blk w B1 [v]) (h2 : Blk w B2 [.int .i64 s.1, .int .i64 s.2]) (h3 : Blk w B3 [.int .i64 m.id, .int .i64 m.ep, .string m.anchor, .int .i64 m.start.1, .int .i64 m.start.2]) (h4 : Blk w B4 [.int .i64 e]) :
    (results fn tmps).run Tryz.prog w = .ok (.tuple #[v, (.agg #[.int .i64 s.1, .int .i64 s.2]), (.agg #[.int .i64 m.id, .int .i64 m.ep, .string m.anchor, .int .i64 m.start.1, .int .i64 m.start.2]), .int .i64 e]) w := by
  simp [results, hf, go_sem, h1.c, h2.c, h3.c, h4.c, hk1, hk2, hk3, hk4]

theorem four {W : World} {b1 b2 b3 b4 : Nat} {c1 c2 c3 c4 : List Value} (h1 : Blk W b1 c1) (h2 : Blk W b2 c2) (h3 : Blk W b3 c3) (h4 : Blk W b4 c4) (r1 r2 r3 r4 : List Value) (l1 : r1.length = c1.length) (l2 : r2.length = c2.length) (l3 : r3.length = c3.length) (l4 : r4.length = c4.length) (n : b1 < b2 ∧ b2 < b3 ∧ b3 < b4) :
    Blk (setAll (setAll (setAll (setAll W b1 0 r1) b2 0 r2) b3 0 r3) b4 0 r4) b1 r1 ∧ Blk (setAll (setAll (setAll (setAll W b1 0 r1) b2 0 r2) b3 0 r3) b4 0 r4) b2 r2 ∧ Blk (setAll (setAll (setAll (setAll W b1 0 r1) b2 0 r2) b3 0 r3) b4 0 r4) b3 r3 ∧ Blk (setAll (setAll (setAll (setAll W b1 0 r1) b2 0 r2) b3 0 r3) b4 0 r4) b4 r4 :=
  ⟨Blk.others (by omega) r4 0 (Blk.others (by omega) r3 0 (Blk.others (by omega) r2 0 (h1.all r1 l1))),
   Blk.others (by omega) r4 0 (Blk.others (by omega) r3 0 ((Blk.others (by omega) r1 0 h2).all r2 l2)),
   Blk.others (by omega) r4 0 ((Blk.others (by omega) r2 0 (Blk.others (by omega) r1 0 h3)).all r3 l3),
   (Blk.others (by omega) r3 0 (Blk.others (by omega) r2 0 (Blk.others (by omega) r1 0 h4))).all r4 l4⟩
theorem Tryz.infoPair : (Tryz.prog.info? 51).map (fun i => (i.zero, i.size, i.bytes)) = some (some (.agg #[.string ⟨#[]⟩, .string ⟨#[]⟩]), 2, 32) := by kernel_rfl

theorem wpListIn_append_pair {F : Fence} {n : Nat} {ops : Array Oper} {rest : List Oper} {o : Oper} {ac : Act} {Q : Exit → Act → World → Prop} (w : World) (hgd : o.guard = none) (s x : Operand)
    (ho : o.op = Op.call { callee := Callee.builtin Builtin.append, args := #[s, x], argTypes := #[43, 43] })
    (B : Nat) (hB : B ≤ w.heap.size) (v : Value) (ps : List Pr) (np : Nat) (hnp : ps.length = np) (hv : ac.eval s = v) (hrow : w.ownsRow B 51 2 v ps.length (pcs ps)) (g : Nat) (p : Pr) (hx : ac.eval x = .slice (some ⟨g, 0, none⟩) 1 1)
    (h0 : w.cell? ⟨g, 0, none⟩ = some (.string p.1)) (h1 : w.cell? ⟨g, 1, none⟩ = some (.string p.2)) (hlen : ps.length ≤ 1000000)
    (hK : ∀ v' w', w'.ownsRow B 51 2 v' (ps.length + 1) (pcs (ps ++ [p])) → w.grownBy w' v.ownBlock → (v'.ownBlock = v.ownBlock ∨ v'.ownBlock = some w.heap.size) → (∃ g' c', v' = .slice (some ⟨g', 0, none⟩) (np + 1) c') → wpListIn F n Tryz.prog ops Q rest (ac.put o.dst v') w') :
    wpListIn F n Tryz.prog ops Q (o :: rest) ac w := by
  refine wpListIn_plain hgd fun K hK' => ?_
  obtain ⟨i0, hi, hz0, hz1, hz2⟩ := info_parts Tryz.infoPair
  obtain ⟨v', w', hrun, r1, r2, _, r4⟩ := run_append_own_at (P := Tryz.prog) w B 43 o.type 51 i0 _ 2 32 Tryz.underlying43 hi hz0 hz1 hz2 rfl (by decide) v ps.length (pcs ps) hrow ⟨g, 0, none⟩ 1 1 [.string p.1, .string p.2] rfl
    (fun j u hj => by
      match j, hj with
      | 0, hj => simp at hj; subst hj; exact h0
      | 1, hj => simp at hj; subst hj; exact h1)
    (fun u hu => by simp at hu; rcases hu with rfl | rfl <;> rfl) (by unfold maxLen; omega) (by omega) hB
  rw [← pcs_snoc] at r1
  have hf : ∃ g' c', v' = .slice (some ⟨g', 0, none⟩) (np + 1) c' := by
    rw [← hnp]
    rcases r1.2 with ⟨_, h⟩ | ⟨g', cap, _, e, _⟩
    · omega
    · exact ⟨g', cap, e⟩
  unfold Oper.wpIn
  refine ⟨?_, ?_⟩
  · simp [Oper.about, ho, resolve, Target.leads, Sem.run_pure]
  · rw [Oper.semAt_plain F _ _ (by rw [ho]; intro c hc'; cases hc')]
    simp [execOp, ho, resolve, invoke, builtin, hv, hx, hrun, Result.andThen]
    exact hK' _ _ (hK v' w' r1 r2 r4 hf)

theorem row_later {W W' : World} {base : Nat} {e : TypeId} {size : Nat} {v : Value} {k : Nat} {xs : List Value} (h : W.ownsRow base e size v k xs) (hb : Below W.heap.size W W') : W'.ownsRow base e size v k xs :=
  h.kept (row := none) ⟨hb.os, hb.tape, hb.output, hb.size, fun k hk _ => hb.block k hk⟩ (by cases v.ownBlock <;> simp)
theorem row_slice {W : World} {base : Nat} {e : TypeId} {size : Nat} {v : Value} {k : Nat} {xs : List Value} (h : W.ownsRow base e size v k xs) : ∃ po c, v = .slice po k c := by
  rcases h.2 with ⟨rfl, rfl⟩ | ⟨g, cap, cur, rfl, _⟩
  · exact ⟨none, 0, rfl⟩
  · exact ⟨_, _, rfl⟩
theorem Blk.grown {W W' : World} {b : Nat} {cs : List Value} {row : Option Nat} (h : Blk W b cs) (hg : W.grownBy W' row) (hne : some b ≠ row) : Blk W' b cs := by
  have hb := hg.block b h.lt hne
  exact ⟨fun j => (World.cell?_of_block (a := ⟨b, j, none⟩) hb).trans (h.c j), fun j => (World.frozen?_of_block (a := ⟨b, j, none⟩) hb).trans (h.f j), Nat.lt_of_lt_of_le h.lt hg.size⟩

theorem RdI.appended {w : World} {S1 : Nat} {at' li : Stp} {id ep : Int} {ps qs : List Pr} {u : Stp} {r : Int} {W W' : World} {pv v' : Value} {tmp : Obj} (hs : w.heap.size + 1 + 1 + 1 + 1 + 1 + 1 + 1 + 1 < S1) (h : RdI w S1 at' li id ep ⟨ps, u, r⟩ W) (hp : Blk W S1 [pv])
    (hrow : W.ownsRow (S1 + 3) 51 2 pv ps.length (pcs ps)) (hg : (W.alloc tmp).grownBy W' pv.ownBlock) (hrow' : W'.ownsRow (S1 + 3) 51 2 v' qs.length (pcs qs)) : RdI w S1 at' li id ep ⟨qs, u, r⟩ (W'.setCell ⟨S1, 0, none⟩ v') := by
  have hne : ∀ b, b < S1 + 3 → some b ≠ pv.ownBlock := fun b hb e => by
    have := (row_form hrow b e.symm).1
    omega
  have hz := h.R.lt
  have k : ∀ {b : Nat} {cs : List Value}, Blk W b cs → b < S1 + 3 → b ≠ S1 → Blk (W'.setCell ⟨S1, 0, none⟩ v') b cs := fun hb hlt hn => ((hb.alloc tmp).grown hg (hne _ hlt)).other (q := ⟨S1, 0, none⟩) (fun e => hn e.symm) v'
  refine ⟨?_, k h.A (by omega) (by omega), k h.L (by omega) (by omega), k h.I (by omega) (by omega), k h.E (by omega) (by omega), k h.Q1 (by omega) (by omega), k h.Q2 (by omega) (by omega), k h.Q3 (by omega) (by omega), k h.Q4 (by omega) (by omega), ⟨v', ?_, ?_⟩, k h.U (by omega) (by omega), k h.R (by omega) (by omega)⟩
  · refine Below.setCell (p := ⟨S1, 0, none⟩) ?_ (by simp only; omega) v'
    exact (h.bel.alloc h.bel.size tmp).grown hg (by have := h.bel.size; simp; omega) (fun j e => by have := (row_form hrow j e).1; omega)
  · exact ((hp.alloc tmp).grown hg (hne _ (by omega))).set 0 (by simp) v'
  · refine hrow'.kept (row := some S1) (grownBy_setCell' W' S1 v') ?_
    cases hv : v'.ownBlock with
    | none => exact .inl rfl
    | some g =>
      refine .inr fun e => ?_
      have := (row_form hrow' g hv).1
      cases e
      omega

theorem smax_any (u v : Stp) (w : World) : Calls Tryz.prog 39 #[(.agg #[.int .i64 u.1, .int .i64 u.2]), (.agg #[.int .i64 v.1, .int .i64 v.2])] w fun e w' => e = .returned (.agg #[.int .i64 (maxS u v).1, .int .i64 (maxS u v).2]) ∧ Below w.heap.size w w' := by
  refine (max_any u.1 u.2 v.1 v.2 w).mono ?_
  rintro e w' ⟨rfl, hb⟩
  refine ⟨?_, hb⟩
  unfold maxS
  rw [less_eq]
  cases ltB u v <;> rfl

theorem grown_cell (W : World) (p : Addr) (v : Value) : W.grownBy (W.setCell p v) (some p.block) :=
  ⟨rfl, rfl, rfl, (KeepsWalks.setCell W p v).size, fun k _ hk => Below.heap_setCell _ _ _ k (fun e => hk (by rw [e]))⟩
theorem row_all {base : Nat} {e : TypeId} {size : Nat} {v : Value} {k : Nat} {xs : List Value} {b : Nat} (hb : b < base) : ∀ (cs : List Value) {W : World} (j : Nat), W.ownsRow base e size v k xs → (setAll W b j cs).ownsRow base e size v k xs
  | [], _, _, h => h
  | c :: q, W, j, h => by
    rw [setAll]
    refine row_all hb q (j + 1) (h.kept (grown_cell W ⟨b, j, none⟩ c) ?_)
    cases hv : v.ownBlock with
    | none => exact .inl rfl
    | some g =>
      refine .inr fun e => ?_
      have := (row_form h g hv).1
      injection e with e
      simp only at e
      omega
theorem wpIn_world {F : Fence} {n : Nat} {P : Program} {c : Code} {Q : Exit → Act → World → Prop} {a : Act} {W W' : World} (h : W = W') (hh : c.wpIn F n P Q a W') : c.wpIn F n P Q a W := h ▸ hh

theorem RdI.doubt {w : World} {S1 : Nat} {at' li : Stp} {id ep : Int} {ps : List Pr} {u u' : Stp} {r r' : Int} {W : World} (hs : w.heap.size + 1 + 1 + 1 + 1 + 1 + 1 + 1 + 1 < S1) (h : RdI w S1 at' li id ep ⟨ps, u, r⟩ W) :
    RdI w S1 at' li id ep ⟨ps, u', r'⟩ (setAll (setAll W (S1 + 1) 0 [.int .i64 (u').1, .int .i64 (u').2]) (S1 + 2) 0 [.int .i64 r']) := by
  have k : ∀ {b : Nat} {cs : List Value}, Blk W b cs → b ≠ S1 + 1 → b ≠ S1 + 2 → Blk (setAll (setAll W (S1 + 1) 0 [.int .i64 (u').1, .int .i64 (u').2]) (S1 + 2) 0 [.int .i64 r']) b cs := fun hb n1 n2 => Blk.others n2 _ 0 (Blk.others n1 _ 0 hb)
  obtain ⟨v, hp, ho⟩ := h.P
  exact ⟨below_setAll (by omega) _ 0 (below_setAll (by omega) _ 0 h.bel), k h.A (by omega) (by omega), k h.L (by omega) (by omega), k h.I (by omega) (by omega), k h.E (by omega) (by omega), k h.Q1 (by omega) (by omega), k h.Q2 (by omega) (by omega), k h.Q3 (by omega) (by omega), k h.Q4 (by omega) (by omega),
    ⟨v, k hp (by omega) (by omega), row_all (by omega) _ 0 (row_all (by omega) _ 0 ho)⟩, Blk.others (by omega) _ 0 (h.U.all _ rfl), (Blk.others (by omega) _ 0 h.R).all _ rfl⟩

theorem put_all {D b : Nat} {d : Option (List Deferred)} : ∀ (cs : List Value) {W : World} (k : Nat), W.heap[D]? = some (.deferred d) → (setAll W b k cs).heap[D]? = some (.deferred d)
  | [], _, _, h => h
  | c :: q, W, k, h => by rw [setAll]; exact put_all q (k + 1) ((KeepsOthers.setCell W ⟨b, k, none⟩ c).same D _ h rfl)
theorem put_drew {W : World} {D : Nat} {o : Obj} (h : W.heap[D]? = some o) : W.drew.heap[D]? = some o := h
theorem Blk.put {W : World} {b D : Nat} {cs : List Value} {o : Obj} (h : Blk W b cs) (h0 : 0 < cs.length) (hK : W.heap[D]? = some o) (hc : o.isCells = false) (o' : Obj) : Blk (W.putObj D o') b cs :=
  h.turn h0 (grownBy_putObj' W D o') (fun r e => (by cases e; exact ⟨o, hK, hc⟩))
theorem row_ps {W : World} {base : Nat} {v : Value} {ps : List Pr} (h : W.ownsRow base 51 2 v ps.length (pcs ps)) : ∃ po c, v = .slice po ps.length c ∧ PsAt W po ps := by
  rcases id h.2 with ⟨rfl, h0⟩ | ⟨g, cap, cur, rfl, hb, hg, h1, h2, h3, h4⟩
  · exact ⟨none, 0, by rw [h0], fun hp => absurd hp (by omega)⟩
  · refine ⟨_, cap, rfl, fun _ => ⟨g, 0, rfl, fun j hj => ?_⟩⟩
    have key : ∀ i u, (pcs ps)[i]? = some u → W.cell? ⟨g, i, none⟩ = some u := fun i u hu => by
      have := h.cells (g := g) rfl i u hu
      have e : (⟨g, 0, none⟩ : Addr).add i = ⟨g, i, none⟩ := by cases i <;> simp [Addr.add]
      rw [e] at this
      exact this
    have hpc : ∀ (qs : List Pr) (j : Nat) (hj : j < qs.length), (pcs qs)[j * 2]? = some (.string qs[j].1) ∧ (pcs qs)[j * 2 + 1]? = some (.string qs[j].2) := by
      intro qs
      induction qs with
      | nil => intro j hj; simp at hj
      | cons q r ih =>
        intro j hj
        have e : pcs (q :: r) = .string q.1 :: .string q.2 :: pcs r := by unfold pcs; simp
        rw [e]
        cases j with
        | zero => exact ⟨rfl, rfl⟩
        | succ j =>
          have := ih j (by simpa using hj)
          rw [show (j + 1) * 2 = j * 2 + 1 + 1 by omega]
          simpa using this
    have := hpc ps j hj
    rw [Nat.zero_add]
    exact ⟨key _ _ this.1, key _ _ this.2⟩
theorem heap_all {b i : Nat} (hn : i ≠ b) : ∀ (cs : List Value) {W : World} (k : Nat), (setAll W b k cs).heap[i]? = W.heap[i]?
  | [], _, _ => rfl
  | c :: q, W, k => by rw [setAll, heap_all hn q (k + 1)]; exact Below.heap_setCell _ _ _ i hn
theorem PsAt.block {W W' : World} {po : Option Addr} {ps : List Pr} (h : PsAt W po ps) (hk : ∀ b o, po = some ⟨b, o, none⟩ → W'.heap[b]? = W.heap[b]?) : PsAt W' po ps := fun h0 => by
  obtain ⟨b, o, e, hc⟩ := h h0
  have hb := hk b o e
  exact ⟨b, o, e, fun j hj => ⟨(World.cell?_of_block (a := ⟨b, _, none⟩) hb).trans (hc j hj).1, (World.cell?_of_block (a := ⟨b, _, none⟩) hb).trans (hc j hj).2⟩⟩

/-- What Read answers. -/
def RdAns (w : World) (R : List Pr × Stp × Met × Int) (e : Ending) (w' : World) : Prop :=
  ∃ po c, e = .returned (.tuple #[.slice po R.1.length c, (.agg #[.int .i64 R.2.1.1, .int .i64 R.2.1.2]), (.agg #[.int .i64 R.2.2.1.id, .int .i64 R.2.2.1.ep, .string R.2.2.1.anchor, .int .i64 R.2.2.1.start.1, .int .i64 R.2.2.1.start.2]), .int .i64 R.2.2.2]) ∧ PsAt w' po R.1 ∧ Below w.heap.size w w'
section
set_option maxRecDepth 100000
set_option maxHeartbeats 2000000
theorem read9_any (a b : Nat) (L : List Ent) (f t : ByteArray) (at' li : Stp) (id ep : Int) (w : World) (h : Sto w a b L) :
    Calls Tryz.prog 11 #[.pointer (some ⟨a, 0, none⟩), .agg #[.string f, .string t], (.agg #[.int .i64 (at').1, .int .i64 (at').2]), (.agg #[.int .i64 li.1, .int .i64 li.2]), .int .i64 id, .int .i64 ep] w (RdAns w (readS f t at' li id ep L)) := by
  have hM := fun w' => maygo_any ⟨a, 0, none⟩ f t w'
  obtain ⟨R, hR⟩ : ∃ R, readS f t at' li id ep L = R := ⟨_, rfl⟩
  rw [hR]
  have HR := hide hR
  clear hR
  generalize hz : S5.rightB f t = z at *
  have QX := ((((((((Blk.new w #[.string f, .string t] 47).alloc (.cells #[.int .i64 (at').1, .int .i64 (at').2] 36)).alloc (.cells #[.int .i64 li.1, .int .i64 li.2] 36)).alloc (.cells #[.int .i64 id] 3)).alloc (.cells #[.int .i64 ep] 3)).alloc (.cells #[.slice none 0 0] 43)).alloc (.cells #[.int .i64 0, .int .i64 0] 36)).alloc (.cells #[.int .i64 0, .int .i64 0, .string ⟨#[]⟩, .int .i64 0, .int .i64 0] 38)).alloc (.cells #[.int .i64 0] 25)
  have QA := (((((((Blk.new (w.alloc (.cells #[.string f, .string t] 47)) #[.int .i64 (at').1, .int .i64 (at').2] 36).alloc (.cells #[.int .i64 li.1, .int .i64 li.2] 36)).alloc (.cells #[.int .i64 id] 3)).alloc (.cells #[.int .i64 ep] 3)).alloc (.cells #[.slice none 0 0] 43)).alloc (.cells #[.int .i64 0, .int .i64 0] 36)).alloc (.cells #[.int .i64 0, .int .i64 0, .string ⟨#[]⟩, .int .i64 0, .int .i64 0] 38)).alloc (.cells #[.int .i64 0] 25)
  rw [show (w.alloc (.cells #[.string f, .string t] 47)).heap.size = w.heap.size + 1 by simp] at QA
  have QL := ((((((Blk.new ((w.alloc (.cells #[.string f, .string t] 47)).alloc (.cells #[.int .i64 (at').1, .int .i64 (at').2] 36)) #[.int .i64 li.1, .int .i64 li.2] 36).alloc (.cells #[.int .i64 id] 3)).alloc (.cells #[.int .i64 ep] 3)).alloc (.cells #[.slice none 0 0] 43)).alloc (.cells #[.int .i64 0, .int .i64 0] 36)).alloc (.cells #[.int .i64 0, .int .i64 0, .string ⟨#[]⟩, .int .i64 0, .int .i64 0] 38)).alloc (.cells #[.int .i64 0] 25)
  rw [show ((w.alloc (.cells #[.string f, .string t] 47)).alloc (.cells #[.int .i64 (at').1, .int .i64 (at').2] 36)).heap.size = w.heap.size + 1 + 1 by simp] at QL
  have QI := (((((Blk.new (((w.alloc (.cells #[.string f, .string t] 47)).alloc (.cells #[.int .i64 (at').1, .int .i64 (at').2] 36)).alloc (.cells #[.int .i64 li.1, .int .i64 li.2] 36)) #[.int .i64 id] 3).alloc (.cells #[.int .i64 ep] 3)).alloc (.cells #[.slice none 0 0] 43)).alloc (.cells #[.int .i64 0, .int .i64 0] 36)).alloc (.cells #[.int .i64 0, .int .i64 0, .string ⟨#[]⟩, .int .i64 0, .int .i64 0] 38)).alloc (.cells #[.int .i64 0] 25)
  rw [show (((w.alloc (.cells #[.string f, .string t] 47)).alloc (.cells #[.int .i64 (at').1, .int .i64 (at').2] 36)).alloc (.cells #[.int .i64 li.1, .int .i64 li.2] 36)).heap.size = w.heap.size + 1 + 1 + 1 by simp] at QI
  have QE := ((((Blk.new ((((w.alloc (.cells #[.string f, .string t] 47)).alloc (.cells #[.int .i64 (at').1, .int .i64 (at').2] 36)).alloc (.cells #[.int .i64 li.1, .int .i64 li.2] 36)).alloc (.cells #[.int .i64 id] 3)) #[.int .i64 ep] 3).alloc (.cells #[.slice none 0 0] 43)).alloc (.cells #[.int .i64 0, .int .i64 0] 36)).alloc (.cells #[.int .i64 0, .int .i64 0, .string ⟨#[]⟩, .int .i64 0, .int .i64 0] 38)).alloc (.cells #[.int .i64 0] 25)
  rw [show ((((w.alloc (.cells #[.string f, .string t] 47)).alloc (.cells #[.int .i64 (at').1, .int .i64 (at').2] 36)).alloc (.cells #[.int .i64 li.1, .int .i64 li.2] 36)).alloc (.cells #[.int .i64 id] 3)).heap.size = w.heap.size + 1 + 1 + 1 + 1 by simp] at QE
  have QP := (((Blk.new (((((w.alloc (.cells #[.string f, .string t] 47)).alloc (.cells #[.int .i64 (at').1, .int .i64 (at').2] 36)).alloc (.cells #[.int .i64 li.1, .int .i64 li.2] 36)).alloc (.cells #[.int .i64 id] 3)).alloc (.cells #[.int .i64 ep] 3)) #[.slice none 0 0] 43).alloc (.cells #[.int .i64 0, .int .i64 0] 36)).alloc (.cells #[.int .i64 0, .int .i64 0, .string ⟨#[]⟩, .int .i64 0, .int .i64 0] 38)).alloc (.cells #[.int .i64 0] 25)
  rw [show (((((w.alloc (.cells #[.string f, .string t] 47)).alloc (.cells #[.int .i64 (at').1, .int .i64 (at').2] 36)).alloc (.cells #[.int .i64 li.1, .int .i64 li.2] 36)).alloc (.cells #[.int .i64 id] 3)).alloc (.cells #[.int .i64 ep] 3)).heap.size = w.heap.size + 1 + 1 + 1 + 1 + 1 by simp] at QP
  have QS := ((Blk.new ((((((w.alloc (.cells #[.string f, .string t] 47)).alloc (.cells #[.int .i64 (at').1, .int .i64 (at').2] 36)).alloc (.cells #[.int .i64 li.1, .int .i64 li.2] 36)).alloc (.cells #[.int .i64 id] 3)).alloc (.cells #[.int .i64 ep] 3)).alloc (.cells #[.slice none 0 0] 43)) #[.int .i64 0, .int .i64 0] 36).alloc (.cells #[.int .i64 0, .int .i64 0, .string ⟨#[]⟩, .int .i64 0, .int .i64 0] 38)).alloc (.cells #[.int .i64 0] 25)
  rw [show ((((((w.alloc (.cells #[.string f, .string t] 47)).alloc (.cells #[.int .i64 (at').1, .int .i64 (at').2] 36)).alloc (.cells #[.int .i64 li.1, .int .i64 li.2] 36)).alloc (.cells #[.int .i64 id] 3)).alloc (.cells #[.int .i64 ep] 3)).alloc (.cells #[.slice none 0 0] 43)).heap.size = w.heap.size + 1 + 1 + 1 + 1 + 1 + 1 by simp] at QS
  have QM := (Blk.new (((((((w.alloc (.cells #[.string f, .string t] 47)).alloc (.cells #[.int .i64 (at').1, .int .i64 (at').2] 36)).alloc (.cells #[.int .i64 li.1, .int .i64 li.2] 36)).alloc (.cells #[.int .i64 id] 3)).alloc (.cells #[.int .i64 ep] 3)).alloc (.cells #[.slice none 0 0] 43)).alloc (.cells #[.int .i64 0, .int .i64 0] 36)) #[.int .i64 0, .int .i64 0, .string ⟨#[]⟩, .int .i64 0, .int .i64 0] 38).alloc (.cells #[.int .i64 0] 25)
  rw [show (((((((w.alloc (.cells #[.string f, .string t] 47)).alloc (.cells #[.int .i64 (at').1, .int .i64 (at').2] 36)).alloc (.cells #[.int .i64 li.1, .int .i64 li.2] 36)).alloc (.cells #[.int .i64 id] 3)).alloc (.cells #[.int .i64 ep] 3)).alloc (.cells #[.slice none 0 0] 43)).alloc (.cells #[.int .i64 0, .int .i64 0] 36)).heap.size = w.heap.size + 1 + 1 + 1 + 1 + 1 + 1 + 1 by simp] at QM
  have QR := Blk.new ((((((((w.alloc (.cells #[.string f, .string t] 47)).alloc (.cells #[.int .i64 (at').1, .int .i64 (at').2] 36)).alloc (.cells #[.int .i64 li.1, .int .i64 li.2] 36)).alloc (.cells #[.int .i64 id] 3)).alloc (.cells #[.int .i64 ep] 3)).alloc (.cells #[.slice none 0 0] 43)).alloc (.cells #[.int .i64 0, .int .i64 0] 36)).alloc (.cells #[.int .i64 0, .int .i64 0, .string ⟨#[]⟩, .int .i64 0, .int .i64 0] 38)) #[.int .i64 0] 25
  rw [show ((((((((w.alloc (.cells #[.string f, .string t] 47)).alloc (.cells #[.int .i64 (at').1, .int .i64 (at').2] 36)).alloc (.cells #[.int .i64 li.1, .int .i64 li.2] 36)).alloc (.cells #[.int .i64 id] 3)).alloc (.cells #[.int .i64 ep] 3)).alloc (.cells #[.slice none 0 0] 43)).alloc (.cells #[.int .i64 0, .int .i64 0] 36)).alloc (.cells #[.int .i64 0, .int .i64 0, .string ⟨#[]⟩, .int .i64 0, .int .i64 0] 38)).heap.size = w.heap.size + 1 + 1 + 1 + 1 + 1 + 1 + 1 + 1 by simp] at QR
  have hB : Below w.heap.size w (((((((((w.alloc (.cells #[.string f, .string t] 47)).alloc (.cells #[.int .i64 (at').1, .int .i64 (at').2] 36)).alloc (.cells #[.int .i64 li.1, .int .i64 li.2] 36)).alloc (.cells #[.int .i64 id] 3)).alloc (.cells #[.int .i64 ep] 3)).alloc (.cells #[.slice none 0 0] 43)).alloc (.cells #[.int .i64 0, .int .i64 0] 36)).alloc (.cells #[.int .i64 0, .int .i64 0, .string ⟨#[]⟩, .int .i64 0, .int .i64 0] 38)).alloc (.cells #[.int .i64 0] 25)) := (((((((((Below.refl w.heap.size w).alloc (Nat.le_refl _) _).alloc (by simp) _).alloc (by simp; omega) _).alloc (by simp; omega) _).alloc (by simp; omega) _).alloc (by simp; omega) _).alloc (by simp; omega) _).alloc (by simp; omega) _).alloc (by simp; omega) _
  have hsto := h.later hB
  refine (callsIn_wide (n := 6)).1 ?_
  refine callsIn_of_wp_marks Tryz.func11 rfl trivial ?_ rfl
  simp only [Tryz.ntmps11, List.size_toArray, List.length_cons, List.length_nil, Nat.reduceAdd, Nat.reduceSub, Array.replicate_succ, Array.replicate_zero, List.push_toArray, List.append_toArray, List.nil_append, List.cons_append]
  gi_wp2_with fail
  generalize ((((((((w.alloc _).alloc _).alloc _).alloc _).alloc _).alloc _).alloc _).alloc _).alloc _ = W at *
  refine ⟨trivial, (callsIn_wide.2 (hM _)).mono ?_⟩
  rintro e W1 ⟨rfl, hb1⟩
  have hsto1 := hsto.later hb1
  replace hB := hB.trans (hb1.mono hB.size)
  replace QX := QX.later hb1
  replace QA := QA.later hb1
  replace QL := QL.later hb1
  replace QI := QI.later hb1
  replace QE := QE.later hb1
  replace QP := QP.later hb1
  replace QS := QS.later hb1
  replace QM := QM.later hb1
  replace QR := QR.later hb1
  clear hb1 hsto hM
  cases z
  · have QM_0 := QM.c 0; have QM_1 := QM.c 1; have QM_2 := QM.c 2; have QM_3 := QM.c 3; have QM_4 := QM.c 4; simp only [List.getElem?_cons_zero, List.getElem?_cons_succ] at QM_0 QM_1 QM_2 QM_3 QM_4
    have QS_0 := QS.c 0; have QS_1 := QS.c 1; simp only [List.getElem?_cons_zero, List.getElem?_cons_succ] at QS_0 QS_1
    have QP_0 := QP.c 0; simp only [List.getElem?_cons_zero] at QP_0
    have QR_0 := QR.c 0; simp only [List.getElem?_cons_zero] at QR_0
    have QMf := QM.f
    have QSf := QS.f
    have QPf := QP.f
    have QRf := QR.f
    have HB := hide hB
    clear hB
    have HH := hide (And.intro QP (And.intro QS (And.intro QM QR)))
    have hRe : R = ([], (0, 0), Met.zero, 51) := by
      rw [← unhide HR]
      unfold readS
      rw [hz, if_neg (by simp)]
    subst hRe
    clear QP QS QM QR HR
    gi_wp2
    obtain ⟨QP, QS, QM, QR⟩ := unhide HH
    obtain ⟨q1, q2, q3, q4⟩ := four QP QS QM QR [.slice none 0 0] [.int .i64 0, .int .i64 0] [.int .i64 0, .int .i64 0, .string ⟨#[]⟩, .int .i64 0, .int .i64 0] [.int .i64 51] rfl rfl rfl rfl ⟨by omega, by omega, by omega⟩
    exact ⟨_, results_r4 Tryz.results11 (.slice none 0 0) rfl (0, 0) Met.zero 51 rfl rfl rfl rfl q1 q2 q3 q4, none, 0, rfl, fun h => absurd h (by simp),
      below_setAll (by omega) [.int .i64 51] 0 (below_setAll (by omega) [.int .i64 0, .int .i64 0, .string ⟨#[]⟩, .int .i64 0, .int .i64 0] 0 (below_setAll (by omega) [.int .i64 0, .int .i64 0] 0 (below_setAll (by omega) [.slice none 0 0] 0 (unhide HB))))⟩
  · have hSW : w.heap.size + 1 + 1 + 1 + 1 + 1 + 1 + 1 + 1 < W1.heap.size := QR.lt
    have hRe : R = goR at' li id ep RdS.zero (inE f t L) := by
      rw [← unhide HR]
      unfold readS
      rw [hz, if_pos rfl]
    have HR := hide hRe
    clear hRe
    gi_upto_region 6 with fail
    have hB0 := hB
    clear hB
    have VP := ((Blk.new W1 #[.slice none 0 0] 43).alloc (.cells #[.int .i64 0, .int .i64 0] 36)).alloc (.cells #[.int .i64 0] 25)
    have VU := (Blk.new (W1.alloc (.cells #[.slice none 0 0] 43)) #[.int .i64 0, .int .i64 0] 36).alloc (.cells #[.int .i64 0] 25)
    rw [show (W1.alloc (.cells #[.slice none 0 0] 43)).heap.size = W1.heap.size + 1 by simp] at VU
    have VR := Blk.new ((W1.alloc (.cells #[.slice none 0 0] 43)).alloc (.cells #[.int .i64 0, .int .i64 0] 36)) #[.int .i64 0] 25
    rw [show ((W1.alloc (.cells #[.slice none 0 0] 43)).alloc (.cells #[.int .i64 0, .int .i64 0] 36)).heap.size = W1.heap.size + 1 + 1 by simp] at VR
    have hB : Below W1.heap.size W1 (((W1.alloc (.cells #[.slice none 0 0] 43)).alloc (.cells #[.int .i64 0, .int .i64 0] 36)).alloc (.cells #[.int .i64 0] 25)) := (((Below.refl W1.heap.size W1).alloc (Nat.le_refl _) _).alloc (by simp) _).alloc (by simp; omega) _
    have hsto2 := hsto1.later hB
    replace QX := QX.later hB
    replace QA := QA.later hB
    replace QL := QL.later hB
    replace QI := QI.later hB
    replace QE := QE.later hB
    replace QP := QP.later hB
    replace QS := QS.later hB
    replace QM := QM.later hB
    replace QR := QR.later hB
    have hB2 := hB0.trans (hB.mono hB0.size)
    have hsz2 : (((W1.alloc (.cells #[.slice none 0 0] 43)).alloc (.cells #[.int .i64 0, .int .i64 0] 36)).alloc (.cells #[.int .i64 0] 25)).heap.size = W1.heap.size + 3 := by simp
    clear hB hB0 hsto1
    generalize ((W1.alloc _).alloc _).alloc _ = W2 at *
    have QX_0 := QX.c 0; have QX_1 := QX.c 1; simp only [List.getElem?_cons_zero, List.getElem?_cons_succ] at QX_0 QX_1
    gi_wp2_with fail
    refine ⟨trivial, (callsIn_wide.2 (in_any ⟨a, 0, none⟩ f t W2)).mono ?_⟩
    rintro e W3 ⟨rfl, rfl⟩
    have hb3 : Below W2.heap.size W2 ((W2.alloc (.cells #[.pointer (some ⟨a, 0, none⟩)] 24)).alloc (.cells #[.string f, .string t] 47)) := ((Below.refl _ _).alloc (Nat.le_refl _) _).alloc (by simp) _
    have hsz3 : ((W2.alloc (.cells #[.pointer (some ⟨a, 0, none⟩)] 24)).alloc (.cells #[.string f, .string t] 47)).heap.size = W1.heap.size + 5 := by simp; omega
    have hST : Still w ((W2.alloc (.cells #[.pointer (some ⟨a, 0, none⟩)] 24)).alloc (.cells #[.string f, .string t] 47)) a b L f t (W1.heap.size + 3 + 1) (W1.heap.size + 3) := by
      refine ⟨hsto2.later hb3, hB2.trans (hb3.mono hB2.size), ?_, ?_⟩
      · have := World.alloc_heap_new (W2.alloc (.cells #[.pointer (some ⟨a, 0, none⟩)] 24)) (.cells #[.string f, .string t] 47)
        rwa [World.size_alloc, hsz2] at this
      · have := World.alloc_heap_new W2 (.cells #[.pointer (some ⟨a, 0, none⟩)] 24)
        rw [hsz2] at this
        exact (Below.heap_alloc _ _ _ (by simp; omega)).trans this
    have hrd0 : RdI w W1.heap.size at' li id ep RdS.zero ((W2.alloc (.cells #[.pointer (some ⟨a, 0, none⟩)] 24)).alloc (.cells #[.string f, .string t] 47)) :=
      ⟨hB2.trans (hb3.mono hB2.size), QA.later hb3, QL.later hb3, QI.later hb3, QE.later hb3, QP.later hb3, QS.later hb3, QM.later hb3, QR.later hb3, ⟨_, VP.later hb3, World.ownsRow_nil _ _ _ _⟩, VU.later hb3, VR.later hb3⟩
    have hvp := (VP.later hb3).head
    clear QX QA QL QI QE QP QS QM QR VP VU VR hsto2 hB2 hb3 QX_0 QX_1
    gi_wp2
    generalize (W2.alloc _).alloc _ = W3 at *
    clear hsz2
    have hmix : Tryz.prog.follows .mixedOrders = true := by kernel_rfl
    refine wpIn_rangeFunc_ownH rfl (by omega) (gf := 73) (lb := lbIn (W1.heap.size + 3 + 1) (W1.heap.size + 3)) rfl trivial (enters_of Tryz.func73 (by kernel_rfl) rfl)
      (in1_stops 5 (by omega) a b L f t hz (W1.heap.size + 3 + 1) (W1.heap.size + 3) (W1.heap.size + 3) W1.heap.size w W3 h hST (by omega) (by omega) (by omega) (by omega) (fun i n c => by rw [hvp]; simp))
      (fun h k => h.trans k) (fun W l o o' hl ho hc hw => Turn.book (C := W3.heap.size) (by omega) (by omega) W l o o' hl ho hc hw) (Below.refl _ _) (fun _ => rfl)
      (fun pre W => ∃ s : RdS, (∀ r, goR at' li id ep RdS.zero (pre.map (·.1) ++ r) = goR at' li id ep s r) ∧ s.ps.length < 50 ∧ RdI w W1.heap.size at' li id ep s W)
      (fun c pre W => match c with
        | .ret => ∃ X, (∀ r, goR at' li id ep RdS.zero (pre.map (·.1) ++ r) = X) ∧ RdX w X W
        | .exit i => i = 0 ∧ ∃ s : RdS, (∀ r, goR at' li id ep RdS.zero (pre.map (·.1) ++ r) = finR s) ∧ RdI w W1.heap.size at' li id ep s W
        | _ => False)
      (fun pre W W' row hI hg hr => by obtain ⟨s, h1, h2, h3⟩ := hI; exact ⟨s, h1, h2, h3.own (B := W3.heap.size) (by omega) hg hr⟩)
      (fun c pre W W' row hI hg hr => by
        cases c with
        | ret => obtain ⟨X, h1, h3⟩ := hI; exact ⟨X, h1, h3.own (B := W3.heap.size) (by omega) hg hr⟩
        | exit i => obtain ⟨h0, s, h1, h3⟩ := hI; exact ⟨h0, s, h1, h3.own (B := W3.heap.size) (by omega) hg hr⟩
        | _ => exact hI.elim)
      ⟨RdS.zero, fun r => rfl, by simp [RdS.zero], hrd0⟩
      (fun x a' W => ∃ Bc, W1.heap.size + 3 ≤ Bc ∧ Blk W Bc [.slice x.1.ao x.1.c.vs.length x.1.cap, .bool x.1.c.opn, .int .i64 x.1.c.itn.txn.id, .int .i64 x.1.c.itn.txn.ep, .string x.1.c.itn.txn.anchor, .int .i64 x.1.c.itn.txn.start.1, .int .i64 x.1.c.itn.txn.start.2, .int .i64 x.1.c.itn.seq, .int .i64 x.1.c.itn.at_.1, .int .i64 x.1.c.itn.at_.2, .string x.1.c.itn.val, .bool x.1.c.itn.gone] ∧ a' = { tmps := #[.pointer (some ⟨a, 0, none⟩), .agg #[.string f, .string t], .agg #[.int .i64 at'.fst, .int .i64 at'.snd], .agg #[.int .i64 li.fst, .int .i64 li.snd], .int .i64 id, .int .i64 ep, undef, .pointer (some ⟨w.heap.size, 0, none⟩), .pointer (some ⟨w.heap.size + 1, 0, none⟩), .pointer (some ⟨w.heap.size + 1 + 1, 0, none⟩), .pointer (some ⟨w.heap.size + 1 + 1 + 1, 0, none⟩), .pointer (some ⟨w.heap.size + 1 + 1 + 1 + 1, 0, none⟩), .pointer (some ⟨w.heap.size + 1 + 1 + 1 + 1 + 1, 0, none⟩), .pointer (some ⟨w.heap.size + 1 + 1 + 1 + 1 + 1 + 1, 0, none⟩), .pointer (some ⟨w.heap.size + 1 + 1 + 1 + 1 + 1 + 1 + 1, 0, none⟩), .pointer (some ⟨w.heap.size + 1 + 1 + 1 + 1 + 1 + 1 + 1 + 1, 0, none⟩), .int .i64 0, .pointer (some ⟨W1.heap.size, 0, none⟩), .pointer (some ⟨W1.heap.size + 1, 0, none⟩), .pointer (some ⟨W1.heap.size + 1 + 1, 0, none⟩), .string x.1.key, .pointer (some ⟨Bc, 0, none⟩), undef, undef, undef, undef, .pointer (some ⟨a, 0, none⟩), .agg #[.string f, .string t], .int .i64 0, .int .i64 0, .bool false, undef, undef, undef, .agg #[.int .i64 0, .int .i64 0], .pointer (some ⟨a, 0, none⟩), .agg #[.string f, .string t], .func (.func 73) #[] #[.pointer (some ⟨W1.heap.size + 3 + 1, 0, none⟩), .pointer (some ⟨W1.heap.size + 3, 0, none⟩)], .string x.1.key, .agg #[.slice x.1.ao x.1.c.vs.length x.1.cap, .bool x.1.c.opn, .int .i64 x.1.c.itn.txn.id, .int .i64 x.1.c.itn.txn.ep, .string x.1.c.itn.txn.anchor, .int .i64 x.1.c.itn.txn.start.1, .int .i64 x.1.c.itn.txn.start.2, .int .i64 x.1.c.itn.seq, .int .i64 x.1.c.itn.at_.1, .int .i64 x.1.c.itn.at_.2, .string x.1.c.itn.val, .bool x.1.c.itn.gone], undef, undef, undef, undef, undef, undef, undef, undef, undef, undef, undef, undef, undef, undef, undef, undef, undef, undef, undef, undef, undef, undef, undef, undef, undef, undef, undef, undef, undef, undef, undef, undef, undef, undef, undef, undef, undef, undef, undef, undef, undef, undef], defers := [] })
      (fun x a' _ W W' row hI hg hr => by obtain ⟨Bc, h1, h2, h3⟩ := hI; exact ⟨Bc, h1, h2.turn (by simp) hg (fun r e => (hr r e).2), h3⟩)
      ?assign ?body ?done ?stop
    case assign =>
      rintro l pre x W K ⟨s, hs1, hs2, hI⟩ hK
      have hlt := hI.R.lt
      have hbw : Below W.heap.size W (W.alloc (.cells #[.slice x.1.ao x.1.c.vs.length x.1.cap, .bool x.1.c.opn, .int .i64 x.1.c.itn.txn.id, .int .i64 x.1.c.itn.txn.ep, .string x.1.c.itn.txn.anchor, .int .i64 x.1.c.itn.txn.start.1, .int .i64 x.1.c.itn.txn.start.2, .int .i64 x.1.c.itn.seq, .int .i64 x.1.c.itn.at_.1, .int .i64 x.1.c.itn.at_.2, .string x.1.c.itn.val, .bool x.1.c.itn.gone] 61)) := (Below.refl _ _).alloc (Nat.le_refl _) _
      have hI2 := hI.later hbw
      have hN := Blk.new W #[.slice x.1.ao x.1.c.vs.length x.1.cap, .bool x.1.c.opn, .int .i64 x.1.c.itn.txn.id, .int .i64 x.1.c.itn.txn.ep, .string x.1.c.itn.txn.anchor, .int .i64 x.1.c.itn.txn.start.1, .int .i64 x.1.c.itn.txn.start.2, .int .i64 x.1.c.itn.seq, .int .i64 x.1.c.itn.at_.1, .int .i64 x.1.c.itn.at_.2, .string x.1.c.itn.val, .bool x.1.c.itn.gone] 61
      gi_wp2
      exact hK _ _ (keeps_later hbw _) (Turn.later hbw (by omega) (by omega)) ⟨s, hs1, hs2, hI2⟩ ⟨W.heap.size, by omega, hN, rfl⟩
    case body =>
      rintro l pre x a' W hl ⟨r0, hr0⟩ ⟨s, hs1, hs2, hI⟩ ⟨Bc, hBc, hC, rfl⟩ hlt
      have hx := x.2
      have hvs := (h.below hI.bel (Nat.le_refl _)).vs x.1 hx
      have hvl := (h.below hI.bel (Nat.le_refl _)).lim x.1 hx
      have hmp : (pre ++ [x]).map (·.1) = pre.map (·.1) ++ [x.1] := by rw [List.map_append]; rfl
      obtain ⟨e, he⟩ : ∃ e, x.1 = e := ⟨_, rfl⟩
      rw [he] at hmp
      simp only [he] at hvs hvl hC ⊢
      clear hx he
      obtain ⟨key, ao, cap, vs, q, i⟩ := e
      have HMp := hide hmp
      clear hmp
      simp only at hvs hvl hC ⊢
      have hRc := fun w' (hb : Below W.heap.size W w') => read_any ao cap vs q i at' li id ep w' (hvs.later hb) (by omega)
      have hGo := fun r => hs1 (⟨key, ao, cap, ⟨vs, q, i⟩⟩ :: r)
      simp only [goR, stepR] at hGo
      obtain ⟨⟨v, isv, m, er⟩, hQ⟩ : ∃ Q, readR vs q i at' li id ep = Q := ⟨_, rfl⟩
      rw [hQ] at hRc
      simp only [hQ] at hRc hGo
      clear hQ
      obtain ⟨pv, hpv, hpo⟩ := hI.P
      obtain ⟨po, pc, hpf⟩ := row_slice hpo
      obtain ⟨np, hnp⟩ : ∃ np, s.ps.length = np := ⟨_, rfl⟩
      obtain ⟨nv, hnv⟩ : ∃ nv, vs.length = nv := ⟨_, rfl⟩
      simp only [hnv] at hRc hC
      have cA := hI.A
      have cL := hI.L
      have cI := hI.I
      have cE := hI.E
      have cA_0 := cA.c 0; have cA_1 := cA.c 1; simp only [List.getElem?_cons_zero, List.getElem?_cons_succ] at cA_0 cA_1
      have cL_0 := cL.c 0; have cL_1 := cL.c 1; simp only [List.getElem?_cons_zero, List.getElem?_cons_succ] at cL_0 cL_1
      have cI_0 := cI.c 0; simp only [List.getElem?_cons_zero] at cI_0
      have cE_0 := cE.c 0; simp only [List.getElem?_cons_zero] at cE_0
      have hC_0 := hC.c 0; have hC_1 := hC.c 1; have hC_2 := hC.c 2; have hC_3 := hC.c 3; have hC_4 := hC.c 4; have hC_5 := hC.c 5; have hC_6 := hC.c 6; have hC_7 := hC.c 7; have hC_8 := hC.c 8; have hC_9 := hC.c 9; have hC_10 := hC.c 10; have hC_11 := hC.c 11; simp only [List.getElem?_cons_zero, List.getElem?_cons_succ] at hC_0 hC_1 hC_2 hC_3 hC_4 hC_5 hC_6 hC_7 hC_8 hC_9 hC_10 hC_11
      gi_wp2_with fail
      refine ⟨trivial, (CallsIn.inRound l (callsIn_wide.2 (hRc W (Below.refl _ _)))).mono ?_⟩
      rintro e W4 ⟨rfl, hb4⟩
      have hI4 := hI.later hb4
      have hO4 := (Out.refl w.heap.size (W1.heap.size + 3) pv.ownBlock W).below hb4
      clear hRc hvs hvl cA cL cI cE hC
      have V := (Blk.new W4 #[.int .i64 v.at_.1, .int .i64 v.at_.2, .string v.val, .bool v.gone, .int .i64 v.by_] 97).alloc (.cells #[.int .i64 m.id, .int .i64 m.ep, .string m.anchor, .int .i64 m.start.1, .int .i64 m.start.2] 38)
      have M := Blk.new (W4.alloc (.cells #[.int .i64 v.at_.1, .int .i64 v.at_.2, .string v.val, .bool v.gone, .int .i64 v.by_] 97)) #[.int .i64 m.id, .int .i64 m.ep, .string m.anchor, .int .i64 m.start.1, .int .i64 m.start.2] 38
      rw [show (W4.alloc (.cells #[.int .i64 v.at_.1, .int .i64 v.at_.2, .string v.val, .bool v.gone, .int .i64 v.by_] 97)).heap.size = W4.heap.size + 1 by simp] at M
      have hB : Below W4.heap.size W4 ((W4.alloc (.cells #[.int .i64 v.at_.1, .int .i64 v.at_.2, .string v.val, .bool v.gone, .int .i64 v.by_] 97)).alloc (.cells #[.int .i64 m.id, .int .i64 m.ep, .string m.anchor, .int .i64 m.start.1, .int .i64 m.start.2] 38)) := ((Below.refl W4.heap.size W4).alloc (Nat.le_refl _) _).alloc (by simp) _
      have hI5 := hI4.later hB
      have hW4l : W1.heap.size + 1 + 1 < W4.heap.size := hI4.R.lt
      have hO5 := hO4.below hB
      have hpv5 := (hpv.later hb4).later hB
      have hpo5 := row_later (row_later hpo hb4) hB
      have hWl := hO5.size
      gi_upto_region 10 with fail
      generalize (W4.alloc _).alloc _ = W5 at *
      clear hB hI4 hO4 hb4 cA_0 cA_1 cL_0 cL_1 cI_0 cE_0 hC_0 hC_1 hC_2 hC_3 hC_4 hC_5 hC_6 hC_7 hC_8 hC_9 hC_10 hC_11
      by_cases h81 : er = 81
      · subst h81
        have hX : ∀ r, goR at' li id ep RdS.zero ((pre ++ [x]).map (·.1) ++ r) = ([], (0, 0), m, 81) := fun r => by
          rw [unhide HMp, List.append_assoc]
          exact (hGo r).trans (if_pos rfl)
        have HX := hide hX
        clear hX hGo hs1
        have c1 := hI5.Q1
        have c2 := hI5.Q2
        have c3 := hI5.Q3
        have c4 := hI5.Q4
        have c1_0 := c1.c 0; simp only [List.getElem?_cons_zero] at c1_0
        have c2_0 := c2.c 0; have c2_1 := c2.c 1; simp only [List.getElem?_cons_zero, List.getElem?_cons_succ] at c2_0 c2_1
        have c3_0 := c3.c 0; have c3_1 := c3.c 1; have c3_2 := c3.c 2; have c3_3 := c3.c 3; have c3_4 := c3.c 4; simp only [List.getElem?_cons_zero, List.getElem?_cons_succ] at c3_0 c3_1 c3_2 c3_3 c3_4
        have c4_0 := c4.c 0; simp only [List.getElem?_cons_zero] at c4_0
        have M_0 := M.c 0; have M_1 := M.c 1; have M_2 := M.c 2; have M_3 := M.c 3; have M_4 := M.c 4; simp only [List.getElem?_cons_zero, List.getElem?_cons_succ] at M_0 M_1 M_2 M_3 M_4
        have f1 := c1.f
        have f2 := c2.f
        have f3 := c3.f
        have f4 := c4.f
        gi_upto_region 11 with fail
        refine region_round (S := fun y => Blk y (W4.heap.size + 1) [.int .i64 m.id, .int .i64 m.ep, .string m.anchor, .int .i64 m.start.1, .int .i64 m.start.2]) (by kernel_rfl) (fun ⟨_, _, h⟩ => h) ?_
        have hS := M.drew
        have hO6 := hO5.drew
        replace c1 := c1.drew
        replace c2 := c2.drew
        replace c3 := c3.drew
        replace c4 := c4.drew
        have HB6 := hide (hI5.bel.trans (Below.refl _ W5).drew)
        clear hI5 hO5 c1_0 c2_0 c2_1 c3_0 c3_1 c3_2 c3_3 c3_4 c4_0 f1 f2 f3 f4 M_0 M_1 M_2 M_3 M_4 M V hpv5
        generalize W5.drew = W6 at *
        have c1_0 := c1.c 0; simp only [List.getElem?_cons_zero] at c1_0
        have c2_0 := c2.c 0; have c2_1 := c2.c 1; simp only [List.getElem?_cons_zero, List.getElem?_cons_succ] at c2_0 c2_1
        have c3_0 := c3.c 0; have c3_1 := c3.c 1; have c3_2 := c3.c 2; have c3_3 := c3.c 3; have c3_4 := c3.c 4; simp only [List.getElem?_cons_zero, List.getElem?_cons_succ] at c3_0 c3_1 c3_2 c3_3 c3_4
        have c4_0 := c4.c 0; simp only [List.getElem?_cons_zero] at c4_0
        have f1 := c1.f
        have f2 := c2.f
        have f3 := c3.f
        have f4 := c4.f
        refine held_take 0 53 rfl rfl (by kernel_rfl) (by kernel_rfl) (by kernel_rfl) (fun _ _ _ h => h) (by rfl) hS (v := ?_) ?_ ?_
        rotate_left
        · intro y hSy
          go_simp
          with_reducible rfl
        simp only [Act.put, List.setIfInBounds_toArray, List.set_cons_zero, List.set_cons_succ]
        refine held_take 1 54 rfl rfl (by kernel_rfl) (by kernel_rfl) (by kernel_rfl) (fun _ _ _ h => h) (by rfl) hS (v := ?_) ?_ ?_
        rotate_left
        · intro y hSy
          have hSy_0 := hSy.c 0; have hSy_1 := hSy.c 1; have hSy_2 := hSy.c 2; have hSy_3 := hSy.c 3; have hSy_4 := hSy.c 4; simp only [List.getElem?_cons_zero, List.getElem?_cons_succ] at hSy_0 hSy_1 hSy_2 hSy_3 hSy_4
          go_simp
          with_reducible rfl
        simp only [Act.put, List.setIfInBounds_toArray, List.set_cons_zero, List.set_cons_succ]
        refine held_take 2 55 rfl rfl (by kernel_rfl) (by kernel_rfl) (by kernel_rfl) (fun _ _ _ h => h) (by rfl) hS (v := ?_) ?_ ?_
        rotate_left
        · intro y hSy
          go_simp
          with_reducible rfl
        simp only [Act.put, List.setIfInBounds_toArray, List.set_cons_zero, List.set_cons_succ]
        refine wpAnyH_ready (rs := [3]) (by kernel_rfl) (by simp) ?_
        refine AllReadyH.cons rfl (fun K hK => ?_) AllReadyH.nil
        go_simp
        have hS1 := Blk.others (C := w.heap.size + 1 + 1 + 1 + 1 + 1) (by omega) [.slice none 0 0] 0 hS
        refine hK.out _ _ hS1 (fun _ => ?_)
        clear hK K
        refine wpAnyH_ready (rs := [4]) (by kernel_rfl) (by simp) ?_
        refine AllReadyH.cons rfl (fun K hK => ?_) AllReadyH.nil
        go_simp
        have hS2 := Blk.others (C := w.heap.size + 1 + 1 + 1 + 1 + 1 + 1) (by omega) [.int .i64 0, .int .i64 0] 0 hS1
        refine hK.out _ _ hS2 (fun _ => ?_)
        clear hK K
        refine wpAnyH_ready (rs := [5]) (by kernel_rfl) (by simp) ?_
        refine AllReadyH.cons rfl (fun K hK => ?_) AllReadyH.nil
        go_simp
        have hS3 := Blk.others (C := w.heap.size + 1 + 1 + 1 + 1 + 1 + 1 + 1) (by omega) [.int .i64 m.id, .int .i64 m.ep, .string m.anchor, .int .i64 m.start.1, .int .i64 m.start.2] 0 hS2
        refine hK.out _ _ hS3 (fun _ => ?_)
        clear hK K
        refine wpAnyH_ready (rs := [6]) (by kernel_rfl) (by simp) ?_
        refine AllReadyH.cons rfl (fun K hK => ?_) AllReadyH.nil
        go_simp
        have hS4 := Blk.others (C := w.heap.size + 1 + 1 + 1 + 1 + 1 + 1 + 1 + 1) (by omega) [.int .i64 81] 0 hS3
        refine hK.out _ _ hS4 (fun _ => ?_)
        clear hK K
        refine wpAnyH_done (by kernel_rfl) ?_ _
        obtain ⟨q1, q2, q3, q4⟩ := four c1 c2 c3 c4 [.slice none 0 0] [.int .i64 0, .int .i64 0] [.int .i64 m.id, .int .i64 m.ep, .string m.anchor, .int .i64 m.start.1, .int .i64 m.start.2] [.int .i64 81] rfl rfl rfl rfl ⟨by omega, by omega, by omega⟩
        have hb7 : Below w.heap.size w (setAll (setAll (setAll (setAll W6 (w.heap.size + 1 + 1 + 1 + 1 + 1) 0 [.slice none 0 0]) (w.heap.size + 1 + 1 + 1 + 1 + 1 + 1) 0 [.int .i64 0, .int .i64 0]) (w.heap.size + 1 + 1 + 1 + 1 + 1 + 1 + 1) 0 [.int .i64 m.id, .int .i64 m.ep, .string m.anchor, .int .i64 m.start.1, .int .i64 m.start.2]) (w.heap.size + 1 + 1 + 1 + 1 + 1 + 1 + 1 + 1) 0 [.int .i64 81]) := below_setAll (by omega) [.int .i64 81] 0 (below_setAll (by omega) [.int .i64 m.id, .int .i64 m.ep, .string m.anchor, .int .i64 m.start.1, .int .i64 m.start.2] 0 (below_setAll (by omega) [.int .i64 0, .int .i64 0] 0 (below_setAll (by omega) [.slice none 0 0] 0 (unhide HB6))))
        have hO7 := Out.all (b := w.heap.size + 1 + 1 + 1 + 1 + 1 + 1 + 1 + 1) (.inl ⟨by omega, by omega⟩) [.int .i64 81] 0 (Out.all (b := w.heap.size + 1 + 1 + 1 + 1 + 1 + 1 + 1) (.inl ⟨by omega, by omega⟩) [.int .i64 m.id, .int .i64 m.ep, .string m.anchor, .int .i64 m.start.1, .int .i64 m.start.2] 0 (Out.all (b := w.heap.size + 1 + 1 + 1 + 1 + 1 + 1) (.inl ⟨by omega, by omega⟩) [.int .i64 0, .int .i64 0] 0 (Out.all (b := w.heap.size + 1 + 1 + 1 + 1 + 1) (.inl ⟨by omega, by omega⟩) [.slice none 0 0] 0 hO6)))
        gi_wp2
        exact ⟨hO7.keeps (by omega) (fun k e => (row_form hpo k e).2.2.2), ([], (0, 0), m, 81), unhide HX, ⟨hb7, q1, q2, q3, q4, rfl⟩⟩
      · simp only [if_neg h81] at hGo
        have b81 : (er == 81) = false := by rw [beq_eq_false_iff_ne]; exact h81
        by_cases h0 : er = 0
        · subst h0
          simp only [if_pos] at hGo
          have hI6 := hI5
          have hO6 := hO5
          have hpv6 := hpv5
          have hpo6 := hpo5
          have hV := V
          clear hI5 hO5 hpv5 hpo5 V M
          gi_upto_region 14 with fail
          cases isv
          · simp only [Bool.false_eq_true, if_false, if_neg (show ¬ s.ps.length = 50 by omega)] at hGo
            have hT := hO6.turn hI.bel.size (fun k e => by have := (row_form hpo k e).1; omega) hpv.head hpv6.head (fun k e => (row_form hpo k e).2.2.1) (fun k e => .inl e)
            have hkp := hO6.keeps (C := W3.heap.size) (by omega) (fun k e => (row_form hpo k e).2.2.2)
            have hend : ∃ s' : RdS, (∀ r, goR at' li id ep RdS.zero ((pre ++ [x]).map (·.1) ++ r) = goR at' li id ep s' r) ∧ s'.ps.length < 50 ∧ RdI w W1.heap.size at' li id ep s' W5 := ⟨⟨s.ps, s.u, s.r⟩, fun r => by rw [unhide HMp, List.append_assoc]; exact hGo r, hs2, hI6⟩
            have Hend := hide hend
            have b50 : ((np : Int) == 50) = false := by rw [beq_eq_false_iff_ne]; omega
            rw [hpf, hnp] at hpv6
            have hpv6_0 := hpv6.c 0; simp only [List.getElem?_cons_zero] at hpv6_0
            clear hend hGo hI6 hpo6 hV hpv hpo hpf hI hs1 hpv6
            gi_wp2
            exact ⟨hkp, hT, unhide Hend⟩
          · simp only [if_true] at hGo
            rw [List.length_append] at hGo
            simp only [List.length_cons, List.length_nil, hnp] at hGo
            have hW6l : W1.heap.size + 1 + 1 < W5.heap.size := hI6.R.lt
            subst hpf
            rw [hnp] at hpv6 hO6 hpo6 hpv hpo
            have hpo7 := fun o => hpo6.alloc o
            rw [← hnp] at hpo7
            simp only [hnp] at hpo7
            have hne : some W1.heap.size ≠ (Value.slice po np pc).ownBlock := fun e => by
              have := (row_form hpo W1.heap.size e.symm).1
              omega
            have hpvA := fun o => (hpv6.alloc o)
            have hV_0 := hV.c 0; have hV_1 := hV.c 1; have hV_2 := hV.c 2; have hV_3 := hV.c 3; have hV_4 := hV.c 4; simp only [List.getElem?_cons_zero, List.getElem?_cons_succ] at hV_0 hV_1 hV_2 hV_3 hV_4
            have hpv6_0 := hpv6.c 0; simp only [List.getElem?_cons_zero] at hpv6_0
            have HI6 := hide hI6
            have HO6 := hide hO6
            have HPO := hide hpo
            have HPO6 := hide hpo6
            have HPV := hide hpv
            have HP6 := hide hpv6
            clear hI6 hO6 hpo hpo6 hpv hpv6 hV
            gi_upto_region 15 with fail
            gi_wp2_with (gi_at_builtin; refine wpListIn_append_pair _ rfl _ _ rfl (W1.heap.size + 3) (by simp; omega) (.slice po np pc) s.ps np hnp rfl (by rw [hnp]; exact hpo7 _) W5.heap.size (key, v.val) rfl (by simp) (by simp) (by omega) ?_; intro v' w7 hrow7 hg7 hloc7 hf7; obtain ⟨g7, c7, rfl⟩ := hf7; have z1 := ((hpvA _).grown hg7 hne).head; have z2 := ((hpvA _).grown hg7 hne).f; have HR7 := hide hrow7; have HG7 := hide hg7; have HL7 := hide hloc7; clear hrow7 hg7 hloc7)
            · have hg7 := unhide HG7
              have hlen7 : (s.ps ++ [(key, v.val)]).length = np + 1 := by simp [hnp]
              have hI7 := RdI.appended (qs := s.ps ++ [(key, v.val)]) hSW (unhide HI6) (unhide HP6) (by rw [hnp]; exact unhide HPO6) hg7 (by rw [hlen7, ← hnp]; exact unhide HR7)
              have hO7 := (((unhide HO6).alloc _).grown hg7 (fun k e => .inl e.symm)).cell (p := ⟨W1.heap.size, 0, none⟩) (.inl ⟨by simp only; omega, by simp only; omega⟩) (.slice (some ⟨g7, 0, none⟩) (np + 1) c7)
              have hkp := hO7.keeps (C := W3.heap.size) (by omega) (fun k e => (row_form (unhide HPO) k e).2.2.2)
              have hT := hO7.turn hI.bel.size (fun k e => by have := (row_form (unhide HPO) k e).1; omega) (unhide HPV).head (World.cell?_setCell_same _ _ _ z1) (fun k e => (row_form (unhide HPO) k e).2.2.1) (fun k e => by
                rcases unhide HL7 with y | y
                · exact .inl (by rw [← y]; exact e)
                · rw [y] at e
                  right
                  have h1 := (unhide HO6).size
                  simp at e
                  omega)
              have h50 : np + (0 + 1) = 50 := by
                have y : ((np : Int) + 1 == 50) = true := by assumption
                rw [beq_iff_eq] at y
                omega
              simp only [if_pos h50] at hGo
              exact ⟨hkp, rfl, ⟨s.ps ++ [(key, v.val)], s.u, s.r⟩, fun r => by rw [unhide HMp, List.append_assoc]; exact hGo r, hI7⟩
            · have hg7 := unhide HG7
              have hlen7 : (s.ps ++ [(key, v.val)]).length = np + 1 := by simp [hnp]
              have hI7 := RdI.appended (qs := s.ps ++ [(key, v.val)]) hSW (unhide HI6) (unhide HP6) (by rw [hnp]; exact unhide HPO6) hg7 (by rw [hlen7, ← hnp]; exact unhide HR7)
              have hO7 := (((unhide HO6).alloc _).grown hg7 (fun k e => .inl e.symm)).cell (p := ⟨W1.heap.size, 0, none⟩) (.inl ⟨by simp only; omega, by simp only; omega⟩) (.slice (some ⟨g7, 0, none⟩) (np + 1) c7)
              have hkp := hO7.keeps (C := W3.heap.size) (by omega) (fun k e => (row_form (unhide HPO) k e).2.2.2)
              have hT := hO7.turn hI.bel.size (fun k e => by have := (row_form (unhide HPO) k e).1; omega) (unhide HPV).head (World.cell?_setCell_same _ _ _ z1) (fun k e => (row_form (unhide HPO) k e).2.2.1) (fun k e => by
                rcases unhide HL7 with y | y
                · exact .inl (by rw [← y]; exact e)
                · rw [y] at e
                  right
                  have h1 := (unhide HO6).size
                  simp at e
                  omega)
              have h50 : ¬ np + (0 + 1) = 50 := by
                have y : ((np : Int) + 1 == 50) = false := by assumption
                rw [beq_eq_false_iff_ne] at y
                omega
              simp only [if_neg h50] at hGo
              exact ⟨hkp, hT, ⟨s.ps ++ [(key, v.val)], s.u, s.r⟩, fun r => by rw [unhide HMp, List.append_assoc]; exact hGo r, by rw [hlen7]; omega, hI7⟩
        · have b0 : (er == 0) = false := by rw [beq_eq_false_iff_ne]; exact h0
          simp only [if_neg h0] at hGo
          have cU := hI5.U
          have cU_0 := cU.c 0; have cU_1 := cU.c 1; simp only [List.getElem?_cons_zero, List.getElem?_cons_succ] at cU_0 cU_1
          have V_0 := V.c 0; have V_1 := V.c 1; have V_2 := V.c 2; have V_3 := V.c 3; have V_4 := V.c 4; simp only [List.getElem?_cons_zero, List.getElem?_cons_succ] at V_0 V_1 V_2 V_3 V_4
          gi_upto_region 13 with fail
          gi_wp2_with fail
          refine ⟨trivial, (CallsIn.inRound l (callsIn_wide.2 (smax_any s.u v.at_ W5))).mono ?_⟩
          rintro e W6 ⟨rfl, hb6⟩
          have hI6 := hI5.later hb6
          have hO6 := hO5.below hb6
          have hpv6 := hpv5.later hb6
          have hpo6 := row_later hpo5 hb6
          have hV := V.later hb6
          generalize maxS s.u v.at_ = u6 at *
          have cU := hI6.U
          have cR := hI6.R
          have fU := cU.f
          have fR := cR.f
          have cU_0 := cU.c 0; have cU_1 := cU.c 1; simp only [List.getElem?_cons_zero, List.getElem?_cons_succ] at cU_0 cU_1
          have cR_0 := cR.c 0; simp only [List.getElem?_cons_zero] at cR_0
          clear hI5 hO5 hpv5 hpo5 V M hb6
          gi_upto_region 14 with fail
          have hI7 := RdI.doubt (u' := u6) (r' := er) hSW hI6
          have hO7 := Out.all (b := W1.heap.size + 2) (.inl ⟨by omega, by omega⟩) [.int .i64 er] 0 (Out.all (b := W1.heap.size + 1) (.inl ⟨by omega, by omega⟩) [.int .i64 u6.1, .int .i64 u6.2] 0 hO6)
          have hpv7 := Blk.others (C := W1.heap.size + 2) (by omega) [.int .i64 er] 0 (Blk.others (C := W1.heap.size + 1) (by omega) [.int .i64 u6.1, .int .i64 u6.2] 0 hpv6)
          have hpo7 := row_all (b := W1.heap.size + 2) (by omega) [.int .i64 er] 0 (row_all (b := W1.heap.size + 1) (by omega) [.int .i64 u6.1, .int .i64 u6.2] 0 hpo6)
          have hV7 := Blk.others (C := W1.heap.size + 2) (by omega) [.int .i64 er] 0 (Blk.others (C := W1.heap.size + 1) (by omega) [.int .i64 u6.1, .int .i64 u6.2] 0 hV)
          clear hI6 hO6 hpv6 hpo6 hV cU cR fU fR cU_0 cU_1 cR_0
          refine wpIn_world (W' := setAll (setAll W6 (W1.heap.size + 1) 0 [.int .i64 u6.1, .int .i64 u6.2]) (W1.heap.size + 2) 0 [.int .i64 er]) rfl ?_
          generalize setAll (setAll W6 (W1.heap.size + 1) 0 [.int .i64 u6.1, .int .i64 u6.2]) (W1.heap.size + 2) 0 [.int .i64 er] = W7 at *
          have hI6 := hI7
          have hO6 := hO7
          have hpv6 := hpv7
          have hpo6 := hpo7
          have hV := hV7
          clear hI7 hO7 hpv7 hpo7 hV7
          cases isv
          · simp only [Bool.false_eq_true, if_false, if_neg (show ¬ s.ps.length = 50 by omega)] at hGo
            have hT := hO6.turn hI.bel.size (fun k e => by have := (row_form hpo k e).1; omega) hpv.head hpv6.head (fun k e => (row_form hpo k e).2.2.1) (fun k e => .inl e)
            have hkp := hO6.keeps (C := W3.heap.size) (by omega) (fun k e => (row_form hpo k e).2.2.2)
            have hend : ∃ s' : RdS, (∀ r, goR at' li id ep RdS.zero ((pre ++ [x]).map (·.1) ++ r) = goR at' li id ep s' r) ∧ s'.ps.length < 50 ∧ RdI w W1.heap.size at' li id ep s' W7 := ⟨⟨s.ps, u6, er⟩, fun r => by rw [unhide HMp, List.append_assoc]; exact hGo r, hs2, hI6⟩
            have Hend := hide hend
            have b50 : ((np : Int) == 50) = false := by rw [beq_eq_false_iff_ne]; omega
            rw [hpf, hnp] at hpv6
            have hpv6_0 := hpv6.c 0; simp only [List.getElem?_cons_zero] at hpv6_0
            clear hend hGo hI6 hpo6 hV hpv hpo hpf hI hs1 hpv6
            gi_wp2
            exact ⟨hkp, hT, unhide Hend⟩
          · simp only [if_true] at hGo
            rw [List.length_append] at hGo
            simp only [List.length_cons, List.length_nil, hnp] at hGo
            have hW6l : W1.heap.size + 1 + 1 < W7.heap.size := hI6.R.lt
            subst hpf
            rw [hnp] at hpv6 hO6 hpo6 hpv hpo
            have hpo7 := fun o => hpo6.alloc o
            rw [← hnp] at hpo7
            simp only [hnp] at hpo7
            have hne : some W1.heap.size ≠ (Value.slice po np pc).ownBlock := fun e => by
              have := (row_form hpo W1.heap.size e.symm).1
              omega
            have hpvA := fun o => (hpv6.alloc o)
            have hV_0 := hV.c 0; have hV_1 := hV.c 1; have hV_2 := hV.c 2; have hV_3 := hV.c 3; have hV_4 := hV.c 4; simp only [List.getElem?_cons_zero, List.getElem?_cons_succ] at hV_0 hV_1 hV_2 hV_3 hV_4
            have hpv6_0 := hpv6.c 0; simp only [List.getElem?_cons_zero] at hpv6_0
            have HI6 := hide hI6
            have HO6 := hide hO6
            have HPO := hide hpo
            have HPO6 := hide hpo6
            have HPV := hide hpv
            have HP6 := hide hpv6
            clear hI6 hO6 hpo hpo6 hpv hpv6 hV
            gi_upto_region 15 with fail
            gi_wp2_with (gi_at_builtin; refine wpListIn_append_pair _ rfl _ _ rfl (W1.heap.size + 3) (by simp; omega) (.slice po np pc) s.ps np hnp rfl (by rw [hnp]; exact hpo7 _) W7.heap.size (key, v.val) rfl (by simp) (by simp) (by omega) ?_; intro v' w7 hrow7 hg7 hloc7 hf7; obtain ⟨g7, c7, rfl⟩ := hf7; have z1 := ((hpvA _).grown hg7 hne).head; have z2 := ((hpvA _).grown hg7 hne).f; have HR7 := hide hrow7; have HG7 := hide hg7; have HL7 := hide hloc7; clear hrow7 hg7 hloc7)
            · have hg7 := unhide HG7
              have hlen7 : (s.ps ++ [(key, v.val)]).length = np + 1 := by simp [hnp]
              have hI7 := RdI.appended (qs := s.ps ++ [(key, v.val)]) hSW (unhide HI6) (unhide HP6) (by rw [hnp]; exact unhide HPO6) hg7 (by rw [hlen7, ← hnp]; exact unhide HR7)
              have hO7 := (((unhide HO6).alloc _).grown hg7 (fun k e => .inl e.symm)).cell (p := ⟨W1.heap.size, 0, none⟩) (.inl ⟨by simp only; omega, by simp only; omega⟩) (.slice (some ⟨g7, 0, none⟩) (np + 1) c7)
              have hkp := hO7.keeps (C := W3.heap.size) (by omega) (fun k e => (row_form (unhide HPO) k e).2.2.2)
              have hT := hO7.turn hI.bel.size (fun k e => by have := (row_form (unhide HPO) k e).1; omega) (unhide HPV).head (World.cell?_setCell_same _ _ _ z1) (fun k e => (row_form (unhide HPO) k e).2.2.1) (fun k e => by
                rcases unhide HL7 with y | y
                · exact .inl (by rw [← y]; exact e)
                · rw [y] at e
                  right
                  have h1 := (unhide HO6).size
                  simp at e
                  omega)
              have h50 : np + (0 + 1) = 50 := by
                have y : ((np : Int) + 1 == 50) = true := by assumption
                rw [beq_iff_eq] at y
                omega
              simp only [if_pos h50] at hGo
              exact ⟨hkp, rfl, ⟨s.ps ++ [(key, v.val)], u6, er⟩, fun r => by rw [unhide HMp, List.append_assoc]; exact hGo r, hI7⟩
            · have hg7 := unhide HG7
              have hlen7 : (s.ps ++ [(key, v.val)]).length = np + 1 := by simp [hnp]
              have hI7 := RdI.appended (qs := s.ps ++ [(key, v.val)]) hSW (unhide HI6) (unhide HP6) (by rw [hnp]; exact unhide HPO6) hg7 (by rw [hlen7, ← hnp]; exact unhide HR7)
              have hO7 := (((unhide HO6).alloc _).grown hg7 (fun k e => .inl e.symm)).cell (p := ⟨W1.heap.size, 0, none⟩) (.inl ⟨by simp only; omega, by simp only; omega⟩) (.slice (some ⟨g7, 0, none⟩) (np + 1) c7)
              have hkp := hO7.keeps (C := W3.heap.size) (by omega) (fun k e => (row_form (unhide HPO) k e).2.2.2)
              have hT := hO7.turn hI.bel.size (fun k e => by have := (row_form (unhide HPO) k e).1; omega) (unhide HPV).head (World.cell?_setCell_same _ _ _ z1) (fun k e => (row_form (unhide HPO) k e).2.2.1) (fun k e => by
                rcases unhide HL7 with y | y
                · exact .inl (by rw [← y]; exact e)
                · rw [y] at e
                  right
                  have h1 := (unhide HO6).size
                  simp at e
                  omega)
              have h50 : ¬ np + (0 + 1) = 50 := by
                have y : ((np : Int) + 1 == 50) = false := by assumption
                rw [beq_eq_false_iff_ne] at y
                omega
              simp only [if_neg h50] at hGo
              exact ⟨hkp, hT, ⟨s.ps ++ [(key, v.val)], u6, er⟩, fun r => by rw [unhide HMp, List.append_assoc]; exact hGo r, by rw [hlen7]; omega, hI7⟩
    case done =>
      rintro D xs W hD hxs ⟨s, hs1, hs2, hI⟩ hK
      have hRf : R = finR s := by
        rw [unhide HR, ← hxs, ← List.append_nil (xs.map (·.1)), hs1 []]
        rfl
      clear HR hs1 hxs hs2
      obtain ⟨pv, hpv, hpo⟩ := hI.P
      obtain ⟨po, pc, rfl, hps⟩ := row_ps hpo
      have cR := hI.R
      have cR_0 := cR.c 0; simp only [List.getElem?_cons_zero] at cR_0
      have c1 := hI.Q1
      have c2 := hI.Q2
      have c3 := hI.Q3
      have c4 := hI.Q4
      have cU := hI.U
      have f1 := c1.f
      have f2 := c2.f
      have f3 := c3.f
      have f4 := c4.f
      have cU_0 := cU.c 0; have cU_1 := cU.c 1; simp only [List.getElem?_cons_zero, List.getElem?_cons_succ] at cU_0 cU_1
      have hpv_0 := hpv.c 0; simp only [List.getElem?_cons_zero] at hpv_0
      have c1_0 := c1.c 0; simp only [List.getElem?_cons_zero] at c1_0
      have c2_0 := c2.c 0; have c2_1 := c2.c 1; simp only [List.getElem?_cons_zero, List.getElem?_cons_succ] at c2_0 c2_1
      have c3_0 := c3.c 0; have c3_1 := c3.c 1; have c3_2 := c3.c 2; have c3_3 := c3.c 3; have c3_4 := c3.c 4; simp only [List.getElem?_cons_zero, List.getElem?_cons_succ] at c3_0 c3_1 c3_2 c3_3 c3_4
      have c4_0 := c4.c 0; simp only [List.getElem?_cons_zero] at c4_0
      by_cases hr : s.r = 0
      · have b0 : (s.r == 0) = true := by rw [beq_iff_eq]; exact hr
        gi_wp2
        obtain ⟨q1, q2, q3, q4⟩ := four c1 c2 c3 c4 [.slice po s.ps.length pc] [.int .i64 0, .int .i64 0] [.int .i64 0, .int .i64 0, .string ⟨#[]⟩, .int .i64 0, .int .i64 0] [.int .i64 0] rfl rfl rfl rfl ⟨by omega, by omega, by omega⟩
        have hK4 := put_all (b := w.heap.size + 1 + 1 + 1 + 1 + 1 + 1 + 1 + 1) [.int .i64 0] 0 (put_all (b := w.heap.size + 1 + 1 + 1 + 1 + 1 + 1 + 1) [.int .i64 0, .int .i64 0, .string ⟨#[]⟩, .int .i64 0, .int .i64 0] 0 (put_all (b := w.heap.size + 1 + 1 + 1 + 1 + 1 + 1) [.int .i64 0, .int .i64 0] 0 (put_all (b := w.heap.size + 1 + 1 + 1 + 1 + 1) [.slice po s.ps.length pc] 0 hK)))
        have e1 : R = (s.ps, (0, 0), Met.zero, 0) := by rw [hRf]; unfold finR; rw [if_pos hr]
        refine ⟨by simp, .inl ⟨_, _, rfl, run_takeDeferred hK4, ⟨_, results_r4 Tryz.results11 (.slice po s.ps.length pc) rfl (0, 0) Met.zero 0 rfl rfl rfl rfl (q1.put (by simp) hK4 rfl _) (q2.put (by simp) hK4 rfl _) (q3.put (by simp) hK4 rfl _) (q4.put (by simp) hK4 rfl _), ?_⟩⟩⟩
        rw [e1]
        refine ⟨po, pc, rfl, ?_, ?_⟩
        · refine hps.block fun g o e => ?_
          subst e
          have hg := row_form hpo g rfl
          have hDg : g ≠ D := fun e => by
            subst e
            obtain ⟨u, hu, huc⟩ := hg.2.2.2
            rw [hK] at hu
            cases hu
            cases huc
          exact (World.putObj_heap_other hDg).trans ((heap_all (b := w.heap.size + 1 + 1 + 1 + 1 + 1 + 1 + 1 + 1) (by omega) [.int .i64 0] 0).trans ((heap_all (b := w.heap.size + 1 + 1 + 1 + 1 + 1 + 1 + 1) (by omega) [.int .i64 0, .int .i64 0, .string ⟨#[]⟩, .int .i64 0, .int .i64 0] 0).trans ((heap_all (b := w.heap.size + 1 + 1 + 1 + 1 + 1 + 1) (by omega) [.int .i64 0, .int .i64 0] 0).trans (heap_all (b := w.heap.size + 1 + 1 + 1 + 1 + 1) (by omega) [.slice (some ⟨g, o, none⟩) s.ps.length pc] 0))))
        · have hb7 := below_setAll (C := w.heap.size + 1 + 1 + 1 + 1 + 1 + 1 + 1 + 1) (by omega) [.int .i64 0] 0 (below_setAll (C := w.heap.size + 1 + 1 + 1 + 1 + 1 + 1 + 1) (by omega) [.int .i64 0, .int .i64 0, .string ⟨#[]⟩, .int .i64 0, .int .i64 0] 0 (below_setAll (C := w.heap.size + 1 + 1 + 1 + 1 + 1 + 1) (by omega) [.int .i64 0, .int .i64 0] 0 (below_setAll (C := w.heap.size + 1 + 1 + 1 + 1 + 1) (by omega) [.slice po s.ps.length pc] 0 hI.bel)))
          exact hb7.grown (grownBy_putObj' _ D _) hb7.size (fun k e => (by cases e; omega))
      · have b0 : (s.r == 0) = false := by rw [beq_eq_false_iff_ne]; exact hr
        gi_upto_region 18 with fail
        have hb := hI.bel
        refine wpIn_wide.2 ?_
        clear hI hpv hpo hps cR cU hpv_0
        go_region
        gi_wp2
        obtain ⟨q1, q2, q3, q4⟩ := four c1 c2 c3 c4 [.slice none 0 0] [.int .i64 s.u.1, .int .i64 s.u.2] [.int .i64 0, .int .i64 0, .string ⟨#[]⟩, .int .i64 0, .int .i64 0] [.int .i64 s.r] rfl rfl rfl rfl ⟨by omega, by omega, by omega⟩
        have hK4 := put_all (b := w.heap.size + 1 + 1 + 1 + 1 + 1 + 1 + 1 + 1) [.int .i64 s.r] 0 (put_all (b := w.heap.size + 1 + 1 + 1 + 1 + 1 + 1 + 1) [.int .i64 0, .int .i64 0, .string ⟨#[]⟩, .int .i64 0, .int .i64 0] 0 (put_all (b := w.heap.size + 1 + 1 + 1 + 1 + 1 + 1) [.int .i64 s.u.1, .int .i64 s.u.2] 0 (put_all (b := w.heap.size + 1 + 1 + 1 + 1 + 1) [.slice none 0 0] 0 hK)))
        have hK5 := put_drew hK4
        have e1 : R = ([], s.u, Met.zero, s.r) := by rw [hRf]; unfold finR; rw [if_neg hr]
        refine ⟨by simp, .inl ⟨_, _, rfl, run_takeDeferred hK5, ⟨_, results_r4 Tryz.results11 (.slice none 0 0) rfl s.u Met.zero s.r rfl rfl rfl rfl (q1.drew.put (by simp) hK5 rfl _) (q2.drew.put (by simp) hK5 rfl _) (q3.drew.put (by simp) hK5 rfl _) (q4.drew.put (by simp) hK5 rfl _), ?_⟩⟩⟩
        rw [e1]
        refine ⟨none, 0, rfl, fun h => absurd h (by simp), ?_⟩
        have hb7 := below_setAll (C := w.heap.size + 1 + 1 + 1 + 1 + 1 + 1 + 1 + 1) (by omega) [.int .i64 s.r] 0 (below_setAll (C := w.heap.size + 1 + 1 + 1 + 1 + 1 + 1 + 1) (by omega) [.int .i64 0, .int .i64 0, .string ⟨#[]⟩, .int .i64 0, .int .i64 0] 0 (below_setAll (C := w.heap.size + 1 + 1 + 1 + 1 + 1 + 1) (by omega) [.int .i64 s.u.1, .int .i64 s.u.2] 0 (below_setAll (C := w.heap.size + 1 + 1 + 1 + 1 + 1) (by omega) [.slice none 0 0] 0 hb)))
        exact hb7.drew.grown (grownBy_putObj' _ D _) hb7.drew.size (fun k e => (by cases e; omega))
    case stop =>
      rintro D c pre W hD ⟨rest, hrest⟩ hIx hK
      cases c with
      | ret =>
        obtain ⟨X, hX, hI⟩ := hIx
        have hRf : R = X := by rw [unhide HR, ← hrest, hX rest]
        subst hRf
        clear HR hX hrest
        gi_wp2
        refine ⟨by simp, .inl ⟨_, _, rfl, run_takeDeferred hK, ⟨_, results_r4 Tryz.results11 (.slice none 0 0) rfl R.2.1 R.2.2.1 R.2.2.2 rfl rfl rfl rfl (hI.Q1.put (by simp) hK rfl _) (hI.Q2.put (by simp) hK rfl _) (hI.Q3.put (by simp) hK rfl _) (hI.Q4.put (by simp) hK rfl _), ?_⟩⟩⟩
        refine ⟨none, 0, by rw [hI.nil]; rfl, fun h => absurd h (by rw [hI.nil]; simp), ?_⟩
        exact hI.bel.grown (grownBy_putObj' _ D _) hI.bel.size (fun k e => (by cases e; omega))
      | exit i =>
        obtain ⟨rfl, s, hs1, hI⟩ := hIx
        have hRf : R = finR s := by rw [unhide HR, ← hrest, hs1 rest]
        clear HR hs1 hrest
        obtain ⟨pv, hpv, hpo⟩ := hI.P
        obtain ⟨po, pc, rfl, hps⟩ := row_ps hpo
        have cR := hI.R
        have cR_0 := cR.c 0; simp only [List.getElem?_cons_zero] at cR_0
        have c1 := hI.Q1
        have c2 := hI.Q2
        have c3 := hI.Q3
        have c4 := hI.Q4
        have cU := hI.U
        have f1 := c1.f
        have f2 := c2.f
        have f3 := c3.f
        have f4 := c4.f
        have cU_0 := cU.c 0; have cU_1 := cU.c 1; simp only [List.getElem?_cons_zero, List.getElem?_cons_succ] at cU_0 cU_1
        have hpv_0 := hpv.c 0; simp only [List.getElem?_cons_zero] at hpv_0
        have c1_0 := c1.c 0; simp only [List.getElem?_cons_zero] at c1_0
        have c2_0 := c2.c 0; have c2_1 := c2.c 1; simp only [List.getElem?_cons_zero, List.getElem?_cons_succ] at c2_0 c2_1
        have c3_0 := c3.c 0; have c3_1 := c3.c 1; have c3_2 := c3.c 2; have c3_3 := c3.c 3; have c3_4 := c3.c 4; simp only [List.getElem?_cons_zero, List.getElem?_cons_succ] at c3_0 c3_1 c3_2 c3_3 c3_4
        have c4_0 := c4.c 0; simp only [List.getElem?_cons_zero] at c4_0
        by_cases hr : s.r = 0
        · have b0 : (s.r == 0) = true := by rw [beq_iff_eq]; exact hr
          gi_wp2
          obtain ⟨q1, q2, q3, q4⟩ := four c1 c2 c3 c4 [.slice po s.ps.length pc] [.int .i64 0, .int .i64 0] [.int .i64 0, .int .i64 0, .string ⟨#[]⟩, .int .i64 0, .int .i64 0] [.int .i64 0] rfl rfl rfl rfl ⟨by omega, by omega, by omega⟩
          have hK4 := put_all (b := w.heap.size + 1 + 1 + 1 + 1 + 1 + 1 + 1 + 1) [.int .i64 0] 0 (put_all (b := w.heap.size + 1 + 1 + 1 + 1 + 1 + 1 + 1) [.int .i64 0, .int .i64 0, .string ⟨#[]⟩, .int .i64 0, .int .i64 0] 0 (put_all (b := w.heap.size + 1 + 1 + 1 + 1 + 1 + 1) [.int .i64 0, .int .i64 0] 0 (put_all (b := w.heap.size + 1 + 1 + 1 + 1 + 1) [.slice po s.ps.length pc] 0 hK)))
          have e1 : R = (s.ps, (0, 0), Met.zero, 0) := by rw [hRf]; unfold finR; rw [if_pos hr]
          refine ⟨by simp, .inl ⟨_, _, rfl, run_takeDeferred hK4, ⟨_, results_r4 Tryz.results11 (.slice po s.ps.length pc) rfl (0, 0) Met.zero 0 rfl rfl rfl rfl (q1.put (by simp) hK4 rfl _) (q2.put (by simp) hK4 rfl _) (q3.put (by simp) hK4 rfl _) (q4.put (by simp) hK4 rfl _), ?_⟩⟩⟩
          rw [e1]
          refine ⟨po, pc, rfl, ?_, ?_⟩
          · refine hps.block fun g o e => ?_
            subst e
            have hg := row_form hpo g rfl
            have hDg : g ≠ D := fun e => by
              subst e
              obtain ⟨u, hu, huc⟩ := hg.2.2.2
              rw [hK] at hu
              cases hu
              cases huc
            exact (World.putObj_heap_other hDg).trans ((heap_all (b := w.heap.size + 1 + 1 + 1 + 1 + 1 + 1 + 1 + 1) (by omega) [.int .i64 0] 0).trans ((heap_all (b := w.heap.size + 1 + 1 + 1 + 1 + 1 + 1 + 1) (by omega) [.int .i64 0, .int .i64 0, .string ⟨#[]⟩, .int .i64 0, .int .i64 0] 0).trans ((heap_all (b := w.heap.size + 1 + 1 + 1 + 1 + 1 + 1) (by omega) [.int .i64 0, .int .i64 0] 0).trans (heap_all (b := w.heap.size + 1 + 1 + 1 + 1 + 1) (by omega) [.slice (some ⟨g, o, none⟩) s.ps.length pc] 0))))
          · have hb7 := below_setAll (C := w.heap.size + 1 + 1 + 1 + 1 + 1 + 1 + 1 + 1) (by omega) [.int .i64 0] 0 (below_setAll (C := w.heap.size + 1 + 1 + 1 + 1 + 1 + 1 + 1) (by omega) [.int .i64 0, .int .i64 0, .string ⟨#[]⟩, .int .i64 0, .int .i64 0] 0 (below_setAll (C := w.heap.size + 1 + 1 + 1 + 1 + 1 + 1) (by omega) [.int .i64 0, .int .i64 0] 0 (below_setAll (C := w.heap.size + 1 + 1 + 1 + 1 + 1) (by omega) [.slice po s.ps.length pc] 0 hI.bel)))
            exact hb7.grown (grownBy_putObj' _ D _) hb7.size (fun k e => (by cases e; omega))
        · have b0 : (s.r == 0) = false := by rw [beq_eq_false_iff_ne]; exact hr
          gi_upto_region 18 with fail
          have hb := hI.bel
          refine wpIn_wide.2 ?_
          clear hI hpv hpo hps cR cU hpv_0
          go_region
          gi_wp2
          obtain ⟨q1, q2, q3, q4⟩ := four c1 c2 c3 c4 [.slice none 0 0] [.int .i64 s.u.1, .int .i64 s.u.2] [.int .i64 0, .int .i64 0, .string ⟨#[]⟩, .int .i64 0, .int .i64 0] [.int .i64 s.r] rfl rfl rfl rfl ⟨by omega, by omega, by omega⟩
          have hK4 := put_all (b := w.heap.size + 1 + 1 + 1 + 1 + 1 + 1 + 1 + 1) [.int .i64 s.r] 0 (put_all (b := w.heap.size + 1 + 1 + 1 + 1 + 1 + 1 + 1) [.int .i64 0, .int .i64 0, .string ⟨#[]⟩, .int .i64 0, .int .i64 0] 0 (put_all (b := w.heap.size + 1 + 1 + 1 + 1 + 1 + 1) [.int .i64 s.u.1, .int .i64 s.u.2] 0 (put_all (b := w.heap.size + 1 + 1 + 1 + 1 + 1) [.slice none 0 0] 0 hK)))
          have hK5 := put_drew hK4
          have e1 : R = ([], s.u, Met.zero, s.r) := by rw [hRf]; unfold finR; rw [if_neg hr]
          refine ⟨by simp, .inl ⟨_, _, rfl, run_takeDeferred hK5, ⟨_, results_r4 Tryz.results11 (.slice none 0 0) rfl s.u Met.zero s.r rfl rfl rfl rfl (q1.drew.put (by simp) hK5 rfl _) (q2.drew.put (by simp) hK5 rfl _) (q3.drew.put (by simp) hK5 rfl _) (q4.drew.put (by simp) hK5 rfl _), ?_⟩⟩⟩
          rw [e1]
          refine ⟨none, 0, rfl, fun h => absurd h (by simp), ?_⟩
          have hb7 := below_setAll (C := w.heap.size + 1 + 1 + 1 + 1 + 1 + 1 + 1 + 1) (by omega) [.int .i64 s.r] 0 (below_setAll (C := w.heap.size + 1 + 1 + 1 + 1 + 1 + 1 + 1) (by omega) [.int .i64 0, .int .i64 0, .string ⟨#[]⟩, .int .i64 0, .int .i64 0] 0 (below_setAll (C := w.heap.size + 1 + 1 + 1 + 1 + 1 + 1) (by omega) [.int .i64 s.u.1, .int .i64 s.u.2] 0 (below_setAll (C := w.heap.size + 1 + 1 + 1 + 1 + 1) (by omega) [.slice none 0 0] 0 hb)))
          exact hb7.drew.grown (grownBy_putObj' _ D _) hb7.drew.size (fun k e => (by cases e; omega))
      | _ => exact hIx.elim
end
end Go.Proofs.YtcdehnghggleoaaGreat
