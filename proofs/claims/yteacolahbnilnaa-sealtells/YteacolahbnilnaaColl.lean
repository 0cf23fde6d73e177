/-
  What a Scan under way has gathered.
-/
import Derived.Test.YteacolahbnilnaaIter
namespace Go.Proofs.Yteacolahbnilnaa
open Go.RowKit Go.Shelf
set_option linter.unusedVariables false

attribute [local go_sem] Oper.semAt_some

theorem Try.infoBytes : (Try.prog.info? 22).map (fun i => (i.zero, i.size, i.bytes)) = some (some (.slice none 0 0), 1, 24) := by kernel_rfl

/-- The value v owns a row of slices, each of which owns bytes of its own. -/
def Recs (B : Nat) (w : World) (v : Value) (rs : List (List UInt8)) : Prop :=
  ∃ vs : List Value, w.ownsRow B 22 1 v rs.length vs ∧ ∀ (i : Nat) (u : Value) (x : List UInt8), vs[i]? = some u → rs[i]? = some x → Own B w u x

/-- What a Scan under way has gathered. -/
def Coll (w : World) (pre : List (List UInt8)) (W : World) : Prop :=
  ∃ v, Boxed W w.heap.size 27 v ∧ Recs w.heap.size W v pre ∧ Boxed W (w.heap.size + 1) 3 (.int .i64 (total pre)) ∧ Below w.heap.size w W


/-- Rows of different element types lie apart. -/
theorem rows_apart {W : World} {b1 b2 s1 s2 n1 n2 : Nat} {e1 e2 : TypeId} {v1 v2 : Value} {x1 x2 : List Value} (h1 : W.ownsRow b1 e1 s1 v1 n1 x1) (h2 : W.ownsRow b2 e2 s2 v2 n2 x2) (hne : e1 ≠ e2) : v1.ownBlock = none ∨ v1.ownBlock ≠ v2.ownBlock := by
  rcases h1.2 with ⟨rfl, _⟩ | ⟨g, cap, cur, rfl, _, hg, _⟩
  · exact .inl rfl
  · refine .inr fun e => ?_
    rcases h2.2 with ⟨rfl, _⟩ | ⟨g', cap', cur', rfl, _, hg', _⟩
    · simp [Value.ownBlock] at e
    · obtain rfl : g = g' := by simpa [Value.ownBlock] using e
      rw [hg] at hg'
      simp at hg'
      exact hne hg'.2

theorem row_not_box {W : World} {B b1 s1 n1 : Nat} {e1 t : TypeId} {v1 u : Value} {x1 : List Value} (h1 : W.ownsRow b1 e1 s1 v1 n1 x1) (h2 : Boxed W B t u) (hne : t ≠ e1) : v1.ownBlock = none ∨ v1.ownBlock ≠ some B :=
  .inr (h2.not_row hne h1).symm

theorem below_grown {w w' : World} (h : Below w.heap.size w w') : w.grownBy w' none := ⟨h.os, h.tape, h.output, h.size, fun k hk _ => h.block k hk⟩

/-- Only new memory: rows stay. -/
theorem row_below {W W' : World} {b e s n : Nat} {v : Value} {xs : List Value} (h : W.ownsRow b e s v n xs) (hb : Below W.heap.size W W') : W'.ownsRow b e s v n xs :=
  h.kept (below_grown hb) (by cases hv : v.ownBlock <;> simp)

theorem Own.later {B : Nat} {W W' : World} {v : Value} {l : List UInt8} (h : Own B W v l) (hb : Below W.heap.size W W') : Own B W' v l := row_below h hb

theorem Recs.later {B : Nat} {W W' : World} {v : Value} {rs : List (List UInt8)} (h : Recs B W v rs) (hb : Below W.heap.size W W') : Recs B W' v rs := by
  obtain ⟨vs, h1, h2⟩ := h
  exact ⟨vs, row_below h1 hb, fun i u x hu hx => (h2 i u x hu hx).later hb⟩

theorem cells_row {W : World} {b e s n : Nat} {v : Value} {xs : List Value} (h : W.ownsRow b e s v n xs) {row : Option Nat} (hrow : ∀ r, row = some r → ∃ o : Obj, W.heap[r]? = some o ∧ o.isCells = false) : v.ownBlock = none ∨ v.ownBlock ≠ row := by
  rcases h.2 with ⟨rfl, _⟩ | ⟨g, cap, cur, rfl, _, hg, _⟩
  · exact .inl rfl
  · refine .inr fun e' => ?_
    obtain ⟨o, ho, hc⟩ := hrow g (by simpa [Value.ownBlock] using e'.symm)
    rw [hg] at ho; cases ho; cases hc

theorem cells_box {W : World} {B : Nat} {t : TypeId} {u : Value} (h : Boxed W B t u) {row : Option Nat} (hrow : ∀ r, row = some r → ∃ o : Obj, W.heap[r]? = some o ∧ o.isCells = false) : some B ≠ row := by
  intro e
  obtain ⟨o, ho, hc⟩ := hrow B e.symm
  rw [show W.heap[B]? = _ from h] at ho; cases ho; cases hc

theorem Recs.kept {B : Nat} {W W' : World} {v : Value} {rs : List (List UInt8)} (h : Recs B W v rs) {row : Option Nat} (hg : W.grownBy W' row) (hrow : ∀ r, row = some r → ∃ o : Obj, W.heap[r]? = some o ∧ o.isCells = false) : Recs B W' v rs := by
  obtain ⟨vs, h1, h2⟩ := h
  exact ⟨vs, h1.kept hg (cells_row h1 hrow), fun i u x hu hx => World.ownsRow.kept (h2 i u x hu hx) hg (cells_row (h2 i u x hu hx) hrow)⟩

theorem coll_own {α : Type} (w : World) (f : α → List UInt8) (B : Nat) (hB : w.heap.size ≤ B) : OwnFrom B (fun (pre : List α) W => Coll w (pre.map f) W) := by
  rintro s W W' row ⟨v, b1, hr, b2, hbel⟩ hg hrow
  have hrow' : ∀ r, row = some r → ∃ o : Obj, W.heap[r]? = some o ∧ o.isCells = false := fun r e => (hrow r e).2
  exact ⟨v, b1.kept hg (cells_box b1 hrow'), hr.kept hg hrow', b2.kept hg (cells_box b2 hrow'), hbel.grown hg hbel.size (fun k e => Nat.le_trans hB (hrow k e).1)⟩

/-- One record more: behind the clone, the append and the store back. -/
theorem coll_step {w W W1 w1 : World} {pre : List (List UInt8)} {v r v' : Value} {x : List UInt8} {vs : List Value} {tmp : Obj}
    (b1 : Boxed W w.heap.size 27 v) (hrow : W.ownsRow w.heap.size 22 1 v pre.length vs) (hrec : ∀ (i : Nat) (u : Value) (x : List UInt8), vs[i]? = some u → pre[i]? = some x → Own w.heap.size W u x)
    (b2 : Boxed W (w.heap.size + 1) 3 (.int .i64 (total pre))) (hbel : Below w.heap.size w W) (hW1 : Below W.heap.size W W1) (hr : Own W.heap.size W1 r x)
    (hown' : w1.ownsRow w.heap.size 22 1 v' (pre.length + 1) (vs ++ [r])) (hgrow : (W1.alloc tmp).grownBy w1 v.ownBlock) :
    Boxed w1 w.heap.size 27 v ∧ Boxed (w1.setCell ⟨w.heap.size, 0, none⟩ v') w.heap.size 27 v' ∧ Recs w.heap.size (w1.setCell ⟨w.heap.size, 0, none⟩ v') v' (pre ++ [x]) ∧
      Boxed (w1.setCell ⟨w.heap.size, 0, none⟩ v') (w.heap.size + 1) 3 (.int .i64 (total pre)) ∧ Below w.heap.size W (w1.setCell ⟨w.heap.size, 0, none⟩ v') ∧ KeepsOthers W (w1.setCell ⟨w.heap.size, 0, none⟩ v') ∧ Boxed w1 (w.heap.size + 1) 3 (.int .i64 (total pre)) := by
  have hg1 := below_grown hW1
  have b1' : Boxed W1 w.heap.size 27 v := b1.kept hg1 (by simp)
  have b2' : Boxed W1 (w.heap.size + 1) 3 (.int .i64 (total pre)) := b2.kept hg1 (by simp)
  have hrow1 := row_below hrow hW1
  have hsz := hbel.size
  have hsz1 := hW1.size
  have hr0 : Own w.heap.size W1 r x := hr.mono hsz
  obtain ⟨k1, k2, k3, k4, k5⟩ := b1'.appended (by decide) hrow1 (by omega) (Nat.le_refl _) hown' hgrow
  have hsc := grownBy_setCell' w1 w.heap.size v'
  have keep : ∀ (u : Value) (y : List UInt8), Own w.heap.size W1 u y → Own w.heap.size (w1.setCell ⟨w.heap.size, 0, none⟩ v') u y := by
    intro u y hu
    have u1 : Own w.heap.size (W1.alloc tmp) u y := World.ownsRow.alloc hu tmp
    have u2 : Own w.heap.size w1 u y := World.ownsRow.kept u1 hgrow (rows_apart u1 (World.ownsRow.alloc hrow1 tmp) (by decide))
    exact World.ownsRow.kept u2 hsc (row_not_box u2 k1 (by decide))
  have c1 : Boxed w1 (w.heap.size + 1) 3 (.int .i64 (total pre)) := (b2'.alloc tmp).kept hgrow ((b2'.alloc tmp).not_row (by decide) (World.ownsRow.alloc hrow1 tmp))
  refine ⟨k1, k2, ⟨vs ++ [r], by simpa using k3, ?_⟩, c1.kept hsc (by simp), ?_, ?_, c1⟩
  · intro i u y hu hy
    have hlen : vs.length = pre.length := by have := hrow.1; omega
    by_cases hi : i < pre.length
    · rw [List.getElem?_append_left (by omega)] at hu hy
      exact keep u y ((hrec i u y hu hy).later hW1)
    · rw [List.getElem?_append_right (by omega)] at hu hy
      by_cases hi0 : i = pre.length
      · subst hi0
        rw [hlen] at hu
        simp at hu hy
        subst hu; subst hy
        exact keep _ _ hr0
      · rw [List.getElem?_eq_none (by simp; omega)] at hy; cases hy
  · exact (hW1.mono hsz).trans k5
  · exact (KeepsOthers.of_grownBy hg1 (fun j o e _ => by cases e)).trans k4

/-- .. and the count of bytes behind it. -/
theorem coll_count {w W : World} {pre : List (List UInt8)} {v : Value} {n : Nat} (m : Nat) (h1 : Boxed W w.heap.size 27 v) (h2 : Recs w.heap.size W v pre) (h3 : Boxed W (w.heap.size + 1) 3 (.int .i64 n)) (h4 : Below w.heap.size w W) (hm : m = total pre) :
    Coll w pre (W.setCell ⟨w.heap.size + 1, 0, none⟩ (.int .i64 m)) ∧ Below w.heap.size W (W.setCell ⟨w.heap.size + 1, 0, none⟩ (.int .i64 m)) ∧ KeepsOthers W (W.setCell ⟨w.heap.size + 1, 0, none⟩ (.int .i64 m)) := by
  subst hm
  have hg := grownBy_setCell' W (w.heap.size + 1) (.int .i64 (total pre))
  have hb : Below w.heap.size W (W.setCell ⟨w.heap.size + 1, 0, none⟩ (.int .i64 (total pre))) := (Below.refl _ W).setCell (p := ⟨w.heap.size + 1, 0, none⟩) (by simp) _
  refine ⟨⟨v, h1.kept hg (by simp), ?_, h3.set _, h4.trans hb⟩, hb, KeepsOthers.setCell _ _ _⟩
  obtain ⟨vs, k1, k2⟩ := h2
  exact ⟨vs, k1.kept hg (row_not_box k1 h3 (by decide)), fun i u x hu hx => World.ownsRow.kept (k2 i u x hu hx) hg (row_not_box (k2 i u x hu hx) h3 (by decide))⟩

/-- append onto a row of the call's own, as one step of a region that draws its order, inside a fence. -/
theorem step_append_own_in {F : Fence} {n : Nat} {P : Program} {ops : Array Oper} {o : Oper} {a : Act} {w : World} {K : Act → World → Prop} {Q : Exit → Act → World → Prop} {E : Prop}
    (hg : o.guard = none) (s x : Operand) (t : TypeId) (hop : o.op = Op.call { callee := Callee.builtin Builtin.append, args := #[s, x], argTypes := #[t, t] })
    (base : Nat) (e : TypeId) (i : TypeInfo) (z : Value) (size bytes : Nat) (h1 : P.underlying t = some (.slice e)) (h2 : P.info? e = some i) (h3 : i.zero = some z) (h4 : i.size = size) (h5 : i.bytes = bytes) (h6 : z.cells.size = size) (h7 : 0 < size)
    (v : Value) (k : Nat) (xs : List Value) (hs : a.eval s = v) (hown : w.ownsRow base e size v k xs) (ad : Addr) (m c : Nat) (news : List Value) (hx : a.eval x = .slice (some ad) m c) (hn : news.length = m * size)
    (hc : ∀ j u, news[j]? = some u → w.cell? (ad.add j) = some u) (h1c : ∀ u ∈ news, u.oneCell' = true) (b1 : k + m ≤ maxLen) (b2 : (k + m) * bytes ≤ 140737488355328) (b3 : base ≤ w.heap.size)
    (hK : ∀ v' w', w'.ownsRow base e size v' (k + m) (xs ++ news) → w.grownBy w' v.ownBlock → K (a.put o.dst v') w') :
    if Region.wanted o (yielded ops a.tmps) = true then Oper.wpIn F n P o a w K Q else E := by
  have hw : Region.wanted o (yielded ops a.tmps) = true := by simp [Region.wanted, hg]
  rw [if_pos hw]
  obtain ⟨v', w', hrun, r1, r2, r3⟩ := run_append_own (P := P) w base t o.type e i z size bytes h1 h2 h3 h4 h5 h6 h7 v k xs hown ad m c news hn hc h1c b1 b2 b3
  unfold Oper.wpIn
  refine ⟨?_, ?_⟩
  · simp [Oper.about, hop, resolve, Target.leads, Sem.run_pure]
  · rw [Oper.semAt_plain F _ _ (by rw [hop]; intro c hc'; cases hc')]
    simp [execOp, hop, resolve, invoke, builtin, hs, hx, hrun, Result.andThen]
    exact hK v' w' r1 r2

end Go.Proofs.Yteacolahbnilnaa
