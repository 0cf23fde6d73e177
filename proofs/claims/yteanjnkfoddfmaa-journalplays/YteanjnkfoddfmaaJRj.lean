/-
  The document's journal as it lies in memory; its reader by what is left; append onto a row of slices. No law is proved here.
-/
import Derived.Test.YteanjnkfoddfmaaJ9
import Derived.Deep.AppendSrc
namespace Go.Proofs.Yteanjnkfoddfmaa
open Go.RowKit
set_option linter.unusedVariables false

/-! A slice of slices: its elements, and append of them. -/

theorem Sl.oneCell {w : World} {v : Value} {l : List UInt8} (h : Sl w v l) : v.oneCell' = true := by
  obtain ⟨ao, c, rfl, _⟩ := h
  rfl

theorem Bsq.vs {P : Nat → Prop} {w : World} {v : Value} {ls : List (List UInt8)} (h : Bsq P w v ls) :
    ∃ vs : List Value, vs.length = ls.length ∧ (∀ u ∈ vs, u.oneCell' = true) ∧ (∀ (i : Nat) (u : Value) (x : List UInt8), vs[i]? = some u → ls[i]? = some x → Sl w u x ∧ ∀ g, u.ownBlock = some g → P g) ∧
      ∀ a, (∃ n c, v = .slice (some a) n c) → ∀ j u, vs[j]? = some u → w.cell? (a.add j) = some u := by
  obtain ⟨ao, c, rfl, h1, h2, h3, h4⟩ := h
  cases ao with
  | none =>
    obtain ⟨rfl, rfl⟩ := h3 rfl
    exact ⟨[], rfl, fun u hu => by simp at hu, fun i u x hu => by simp at hu, fun a ⟨n, c, e⟩ => by cases e⟩
  | some a =>
    have inh : Inhabited Value := ⟨.slice none 0 0⟩
    obtain ⟨f, hf⟩ := Deep.choose_lt (α := Value) (n := ls.length) (p := fun i u => w.cell? (a.add i) = some u ∧ ∀ x, ls[i]? = some x → Sl w u x ∧ ∀ g, u.ownBlock = some g → P g) (fun i hi => by
      obtain ⟨u, k1, k2, k3⟩ := (h4 a rfl).2 i ls[i] (List.getElem?_eq_getElem hi)
      refine ⟨u, k1, fun x hx => ?_⟩
      rw [List.getElem?_eq_getElem hi] at hx
      simp only [Option.some.injEq] at hx
      subst hx
      exact ⟨k2, k3⟩)
    have hget : ∀ (j : Nat) (u : Value), ((List.range ls.length).map f)[j]? = some u → j < ls.length ∧ u = f j := fun j u hu => by
      have hj : j < ls.length := by have := (List.getElem?_eq_some_iff.1 hu).1; simpa using this
      rw [List.getElem?_map, List.getElem?_range hj] at hu
      exact ⟨hj, by simpa using hu.symm⟩
    refine ⟨(List.range ls.length).map f, by simp, fun u hu => ?_, fun i u x hu hx => ?_, fun a' ⟨n, c', e⟩ j u hu => ?_⟩
    · obtain ⟨j, hj⟩ := List.getElem?_of_mem hu
      obtain ⟨hj', rfl⟩ := hget j u hj
      exact ((hf j hj').2 ls[j] (List.getElem?_eq_getElem hj')).1.oneCell
    · obtain ⟨hj', rfl⟩ := hget i u hu
      exact (hf i hj').2 x hx
    · injection e with e1
      injection e1 with e1
      subst e1
      obtain ⟨hj', rfl⟩ := hget j u hu
      exact (hf j hj').1

/-- A row of slices of the call's own, which are in blocks of P, the row is not. -/
def Rq (B : Nat) (P : Nat → Prop) (w : World) (v : Value) (ls : List (List UInt8)) : Prop :=
  ∃ vs : List Value, w.ownsRow B 26 1 v ls.length vs ∧ (∀ (i : Nat) (u : Value) (x : List UInt8), vs[i]? = some u → ls[i]? = some x → Sl w u x ∧ ∀ g, u.ownBlock = some g → P g) ∧ (∀ g, v.ownBlock = some g → ¬ P g) ∧ ∀ k, P k → k < w.heap.size

theorem Rq.lit {B : Nat} {P : Nat → Prop} (w : World) (hB : B ≤ w.heap.size) (hP : ∀ k, P k → k < w.heap.size) : Rq B P (w.alloc (.cells #[] 26)) (.slice (some ⟨w.heap.size, 0, none⟩) 0 0) [] := by
  refine ⟨[], World.ownsRow_lit w #[] 0 hB (by decide) rfl, fun i u x hu => by simp at hu, fun g hg h => ?_, fun k hk => by have := hP k hk; simp; omega⟩
  simp only [Value.ownBlock, Option.some.injEq] at hg
  have := hP g h
  omega

theorem Rq.lt {B : Nat} {P : Nat → Prop} {w : World} {v : Value} {ls : List (List UInt8)} (h : Rq B P w v ls) : ∀ g, v.ownBlock = some g → B ≤ g ∧ g < w.heap.size := by
  obtain ⟨vs, h1, _⟩ := h
  exact World.ownsRow.lt h1

/-- New memory: it may hold elements. -/
theorem Rq.grow {B : Nat} {P : Nat → Prop} {w w' : World} {v : Value} {ls : List (List UInt8)} (h : Rq B P w v ls) (hb : Below w.heap.size w w') : Rq B (fun k => P k ∨ (w.heap.size ≤ k ∧ k < w'.heap.size)) w' v ls := by
  have hlt := h.lt
  obtain ⟨vs, h1, h2, h3, h4⟩ := h
  refine ⟨vs, row_kept h1 hb.size (fun g hg => hb.block g (hlt g hg).2), fun i u x hu hx => ⟨(h2 i u x hu hx).1.later hb, fun g hg => .inl ((h2 i u x hu hx).2 g hg)⟩, fun g hg hk => ?_, fun k hk => ?_⟩
  · rcases hk with hk | hk
    · exact h3 g hg hk
    · have := (hlt g hg).2; omega
  · rcases hk with hk | hk
    · exact Nat.lt_of_lt_of_le (h4 k hk) hb.size
    · exact hk.2

theorem Rq.bsq {B : Nat} {P P' : Nat → Prop} {w : World} {v : Value} {ls : List (List UInt8)} (h : Rq B P w v ls) (hP : ∀ k, P k → P' k) (hv : ∀ g, v.ownBlock = some g → P' g) : Bsq P' w v ls := by
  obtain ⟨vs, h1, h2, h3, h4⟩ := h
  have hc := fun g hg => World.ownsRow.cells h1 (g := g) hg
  have hl : vs.length = ls.length := by have := h1.1; simpa using this
  rcases h1.2 with ⟨rfl, h0⟩ | ⟨g, cap, cur, rfl, hbg, hg, hnc, hcm, hcs, htake⟩
  · have e : ls = [] := List.eq_nil_of_length_eq_zero h0
    subst e
    exact ⟨none, 0, rfl, Nat.le_refl _, Nat.zero_le _, fun _ => ⟨rfl, rfl⟩, fun a ha => by cases ha⟩
  · refine ⟨some ⟨g, 0, none⟩, cap, rfl, hnc, hcm, fun e => (by cases e), fun a ha => ?_⟩
    injection ha with ha
    subst ha
    refine ⟨hv g rfl, fun j x hx => ?_⟩
    have hj : j < vs.length := by rw [hl]; exact (List.getElem?_eq_some_iff.1 hx).1
    obtain ⟨k1, k2⟩ := h2 j vs[j] x (List.getElem?_eq_getElem hj) hx
    exact ⟨vs[j], hc g rfl j _ (List.getElem?_eq_getElem hj), k1, fun q hq => hP q (k2 q hq)⟩

theorem Rq.append {B : Nat} {P : Nat → Prop} {w : World} {v xv : Value} {ls ms : List (List UInt8)} (h : Rq B P w v ls) (hB : B ≤ w.heap.size) (hx : Bsq P w xv ms) (hlen : ls.length + ms.length ≤ 2199023255552) (ty : TypeId) :
    ∃ v' w', (Builtin.append_ #[54, 54] ty #[v, xv]).run Try.prog w = .ok v' w' ∧ Rq B P w' v' (ls ++ ms) ∧ Fr (fun k => v.ownBlock = some k) w w' := by
  obtain ⟨i0, hi, hz0, hz1, hz2⟩ := info_parts Try.infoBytes
  have hlt := h.lt
  obtain ⟨vs, h1, h2, h3, h4⟩ := h
  have hvl : vs.length = ls.length := by have := h1.1; simpa using this
  obtain ⟨us, k1, k2, k3, k4⟩ := hx.vs
  obtain ⟨ao, c, rfl, x1, x2, x3, x4⟩ := id hx
  cases ao with
  | none =>
    obtain ⟨rfl, rfl⟩ := x3 rfl
    rw [List.append_nil]
    refine ⟨v, w, ?_, ⟨vs, h1, h2, h3, h4⟩, Fr.refl _ _⟩
    have hs := Src.ofNil (P := Try.prog) (size := i0.size) w Try.underlying54 0
    rcases h1.2 with ⟨rfl, _⟩ | ⟨g, cap, cur, rfl, _, _, hnc, _⟩
    · exact run_append_nothing (P := Try.prog) w 54 54 ty 26 i0 Try.underlying54 hi none 0 0 (Nat.le_refl _) _ hs
    · exact run_append_nothing (P := Try.prog) w 54 54 ty 26 i0 Try.underlying54 hi (some ⟨g, 0, none⟩) ls.length cap hnc _ hs
  | some a =>
    by_cases hm : ms = []
    · subst hm
      have hus : us = [] := List.eq_nil_of_length_eq_zero (by simpa using k1)
      subst hus
      rw [List.append_nil]
      refine ⟨v, w, ?_, ⟨vs, h1, h2, h3, h4⟩, Fr.refl _ _⟩
      have hs := Src.ofSlice (P := Try.prog) (size := i0.size) w Try.underlying54 a 0 c [] (by simp) (fun j u hu => by simp at hu) (fun u hu => by simp at hu)
      rcases h1.2 with ⟨rfl, _⟩ | ⟨g, cap, cur, rfl, _, _, hnc, _⟩
      · exact run_append_nothing (P := Try.prog) w 54 54 ty 26 i0 Try.underlying54 hi none 0 0 (Nat.le_refl _) _ hs
      · exact run_append_nothing (P := Try.prog) w 54 54 ty 26 i0 Try.underlying54 hi (some ⟨g, 0, none⟩) ls.length cap hnc _ hs
    · have hpos : 0 < ms.length := by cases ms <;> simp_all
      obtain ⟨v', w', hr, r1, r2, r3⟩ := append_row w B hB 54 26 i0 (.slice none 0 0) 1 24 Try.underlying54 hi hz0 hz1 hz2 rfl (by decide) v ls.length vs h1 a ms.length c hpos us (by rw [k1, Nat.mul_one]) (k4 a ⟨_, _, rfl⟩) k2 (by unfold maxLen; omega) (by omega) ty
      have hf : Fr (fun k => v.ownBlock = some k) w w' := Fr.grown r2 fun k hk => hk
      have hPk : ∀ k, P k → w'.heap[k]? = w.heap[k]? := fun k hk => hf.block k (h4 k hk) (fun e => h3 k e hk)
      refine ⟨v', w', hr, ⟨vs ++ us, by rw [List.length_append]; exact r1, fun i u x hu hx' => ?_, fun g hg hk => ?_, fun k hk => Nat.lt_of_lt_of_le (h4 k hk) hf.size⟩, hf⟩
      · by_cases hi' : i < ls.length
        · rw [List.getElem?_append_left (by omega)] at hu hx'
          obtain ⟨q1, q2⟩ := h2 i u x hu hx'
          exact ⟨q1.frame fun g hg _ => hPk g (q2 g hg), q2⟩
        · rw [List.getElem?_append_right (by omega)] at hu hx'
          rw [hvl] at hu
          obtain ⟨q1, q2⟩ := k3 _ u x hu hx'
          exact ⟨q1.frame fun g hg _ => hPk g (q2 g hg), q2⟩
      · rcases r3 with e | e
        · exact h3 g (e ▸ hg) hk
        · have := e g hg; have := h4 g hk; omega

theorem wpList_append_rq {ops : Array Oper} {rest : List Oper} {o : Oper} {ac : Act} {Qx : Exit → Act → World → Prop} {w : World} (hgd : o.guard = none) (s y : Operand)
    (ho : o.op = .call { callee := .builtin .append, args := #[s, y], argTypes := #[54, 54] })
    {B : Nat} {P : Nat → Prop} {v xv : Value} {ls ms : List (List UInt8)} (hv : ac.eval s = v) (hxv : ac.eval y = xv) (h : Rq B P w v ls) (hB : B ≤ w.heap.size) (hx : Bsq P w xv ms) (hlen : ls.length + ms.length ≤ 2199023255552)
    (hK : ∀ v' w', Rq B P w' v' (ls ++ ms) → Fr (fun k => v.ownBlock = some k) w w' → wpList Try.prog ops Qx rest (ac.put o.dst v') w') : wpList Try.prog ops Qx (o :: rest) ac w := by
  refine wpList_plain hgd fun K hK' => ?_
  obtain ⟨v', w', hrun, h2, h3⟩ := h.append hB hx hlen o.type
  unfold Oper.wp execOp
  simp only [ho, resolve, invoke, builtin, Sem.run_bind, Sem.run_pure, Result.andThen_ok, List.map_toArray, List.map_cons, List.map_nil, hv, hxv, hrun]
  exact hK' _ _ (hK v' w' h2 h3)

theorem step_append_rq {ops : Array Oper} {o : Oper} {a : Act} {w : World} {K : Act → World → Prop} {Q : Exit → Act → World → Prop} {E : Prop} (hgd : o.guard = none) (s y : Operand)
    (ho : o.op = .call { callee := .builtin .append, args := #[s, y], argTypes := #[54, 54] })
    {B : Nat} {P : Nat → Prop} {v xv : Value} {ls ms : List (List UInt8)} (hv : a.eval s = v) (hxv : a.eval y = xv) (h : Rq B P w v ls) (hB : B ≤ w.heap.size) (hx : Bsq P w xv ms) (hlen : ls.length + ms.length ≤ 2199023255552)
    (hK : ∀ v' w', Rq B P w' v' (ls ++ ms) → Fr (fun k => v.ownBlock = some k) w w' → K (a.put o.dst v') w') : if Region.wanted o (yielded ops a.tmps) = true then Oper.wp Try.prog o a w K Q else E := by
  have hw : Region.wanted o (yielded ops a.tmps) = true := by simp [Region.wanted, hgd]
  rw [if_pos hw]
  obtain ⟨v', w', hrun, h2, h3⟩ := h.append hB hx hlen o.type
  unfold Oper.wp execOp
  simp only [ho, resolve, invoke, builtin, Sem.run_bind, Sem.run_pure, Result.andThen_ok, List.map_toArray, List.map_cons, List.map_nil, hv, hxv, hrun]
  exact hK v' w' h2 h3

/-! The document's journal. -/

/-- The document's journal in block J, on the document's disk in block M; its data and its records lie in blocks of P. -/
structure Rj (P : Nat → Prop) (w : World) (J M t v o : Nat) (st : St) : Prop where
  c0 : w.cell? ⟨J, 0, none⟩ = some (.pointer (some ⟨M, 0, none⟩))
  c1 : w.cell? ⟨J, 1, none⟩ = some (.int .i64 st.1)
  c2 : ∃ dv, w.cell? ⟨J, 2, none⟩ = some dv ∧ Sl w dv st.2.1 ∧ ∀ g, dv.ownBlock = some g → P g
  c3 : ∃ lv, w.cell? ⟨J, 3, none⟩ = some lv ∧ Bsq P w lv st.2.2
  c4 : w.cell? ⟨J, 4, none⟩ = some (.int .i64 t)
  c5 : w.cell? ⟨J, 5, none⟩ = some (.int .i64 v)
  c6 : w.cell? ⟨J, 6, none⟩ = some (.int .i64 o)
  fz : ∀ j, w.frozen? ⟨J, j, none⟩ = false
  pj : ¬ P J
  pl : ∀ k, P k → k < w.heap.size

section
variable {P : Nat → Prop} {w w' : World} {J M t v o : Nat} {st : St}

theorem Rj.lt (h : Rj P w J M t v o st) : J < w.heap.size := World.block_lt_of_cell? w _ h.c0

theorem Rj.frame (h : Rj P w J M t v o st) (hs : w.heap.size ≤ w'.heap.size) (hk : ∀ k, k < w.heap.size → P k ∨ k = J → w'.heap[k]? = w.heap[k]?) : Rj P w' J M t v o st := by
  have hJ := hk J h.lt (.inr rfl)
  have hP : ∀ k, P k → w'.heap[k]? = w.heap[k]? := fun k hp => hk k (h.pl k hp) (.inl hp)
  obtain ⟨dv, d1, d2, d3⟩ := h.c2
  obtain ⟨lv, l1, l2⟩ := h.c3
  exact ⟨(World.cell?_of_block (w := w) hJ).trans h.c0, (World.cell?_of_block (w := w) hJ).trans h.c1, ⟨dv, (World.cell?_of_block (w := w) hJ).trans d1, d2.frame fun g hg _ => hP g (d3 g hg), d3⟩, ⟨lv, (World.cell?_of_block (w := w) hJ).trans l1, l2.frame hP⟩,
    (World.cell?_of_block (w := w) hJ).trans h.c4, (World.cell?_of_block (w := w) hJ).trans h.c5, (World.cell?_of_block (w := w) hJ).trans h.c6, fun j => (World.frozen?_of_block (w := w) hJ).trans (h.fz j), h.pj, fun k hk => Nat.lt_of_lt_of_le (h.pl k hk) hs⟩
theorem Rj.later (h : Rj P w J M t v o st) (hb : Below w.heap.size w w') : Rj P w' J M t v o st := h.frame hb.size fun k hk _ => hb.block k hk
theorem Rj.mono (h : Rj P w J M t v o st) {Q : Nat → Prop} (hq : ∀ k, P k → Q k) (hJ : ¬ Q J) (hl : ∀ k, Q k → k < w.heap.size) : Rj Q w J M t v o st := by
  obtain ⟨dv, d1, d2, d3⟩ := h.c2
  obtain ⟨lv, l1, l2⟩ := h.c3
  exact ⟨h.c0, h.c1, ⟨dv, d1, d2, fun g hg => hq g (d3 g hg)⟩, ⟨lv, l1, l2.mono hq⟩, h.c4, h.c5, h.c6, h.fz, hJ, hl⟩

/-- New memory: it may hold what the journal has. -/
theorem Rj.grow (h : Rj P w J M t v o st) (hb : Below w.heap.size w w') : Rj (fun k => P k ∨ (w.heap.size ≤ k ∧ k < w'.heap.size)) w' J M t v o st :=
  (h.later hb).mono (fun k hk => .inl hk) (fun hk => by
    rcases hk with hk | hk
    · exact h.pj hk
    · have := h.lt; omega) (fun k hk => by
    rcases hk with hk | hk
    · exact Nat.lt_of_lt_of_le (h.pl k hk) hb.size
    · exact hk.2)

theorem jcell (w : World) (J i j : Nat) (x u : Value) (hij : i ≠ j) (h : w.cell? ⟨J, j, none⟩ = some u) : (w.setCell ⟨J, i, none⟩ x).cell? ⟨J, j, none⟩ = some u :=
  (World.cell?_setCell_other w _ _ _ (fun e => hij (by injection e))).trans h

theorem setP (h : Rj P w J M t v o st) (i : Nat) (x : Value) : ∀ k, P k → (w.setCell ⟨J, i, none⟩ x).heap[k]? = w.heap[k]? := fun k hk => Below.heap_setCell w _ x k (fun e => h.pj (by have : k = J := e; rw [← this]; exact hk))

theorem Rj.setL (h : Rj P w J M t v o st) (lv : Value) (L : List (List UInt8)) (hl : Bsq P w lv L) : Rj P (w.setCell ⟨J, 3, none⟩ lv) J M t v o (st.1, st.2.1, L) := by
  obtain ⟨dv, d1, d2, d3⟩ := h.c2
  obtain ⟨lv0, l1, _⟩ := h.c3
  have hP := setP h 3 lv
  exact ⟨jcell w J 3 0 _ _ (by decide) h.c0, jcell w J 3 1 _ _ (by decide) h.c1, ⟨dv, jcell w J 3 2 _ _ (by decide) d1, d2.frame fun g hg _ => hP g (d3 g hg), d3⟩, ⟨lv, World.cell?_setCell_same w _ _ l1, hl.frame hP⟩,
    jcell w J 3 4 _ _ (by decide) h.c4, jcell w J 3 5 _ _ (by decide) h.c5, jcell w J 3 6 _ _ (by decide) h.c6, fun j => by simpa using h.fz j, h.pj, fun k hk => by simpa [World.setCell] using h.pl k hk⟩
theorem Rj.setB (h : Rj P w J M t v o st) (b : Nat) : Rj P (w.setCell ⟨J, 1, none⟩ (.int .i64 b)) J M t v o (b, st.2.1, st.2.2) := by
  obtain ⟨dv, d1, d2, d3⟩ := h.c2
  obtain ⟨lv, l1, l2⟩ := h.c3
  have hP := setP h 1 (.int .i64 b)
  exact ⟨jcell w J 1 0 _ _ (by decide) h.c0, World.cell?_setCell_same w _ _ h.c1, ⟨dv, jcell w J 1 2 _ _ (by decide) d1, d2.frame fun g hg _ => hP g (d3 g hg), d3⟩, ⟨lv, jcell w J 1 3 _ _ (by decide) l1, l2.frame hP⟩,
    jcell w J 1 4 _ _ (by decide) h.c4, jcell w J 1 5 _ _ (by decide) h.c5, jcell w J 1 6 _ _ (by decide) h.c6, fun j => by simpa using h.fz j, h.pj, fun k hk => by simpa [World.setCell] using h.pl k hk⟩
theorem Rj.setD (h : Rj P w J M t v o st) (dv : Value) (d : List UInt8) (hd : Sl w dv d) (hp : ∀ g, dv.ownBlock = some g → P g) : Rj P (w.setCell ⟨J, 2, none⟩ dv) J M t v o (st.1, d, st.2.2) := by
  obtain ⟨dv0, d1, _⟩ := h.c2
  obtain ⟨lv, l1, l2⟩ := h.c3
  have hP := setP h 2 dv
  exact ⟨jcell w J 2 0 _ _ (by decide) h.c0, jcell w J 2 1 _ _ (by decide) h.c1, ⟨dv, World.cell?_setCell_same w _ _ d1, hd.frame fun g hg _ => hP g (hp g hg), hp⟩, ⟨lv, jcell w J 2 3 _ _ (by decide) l1, l2.frame hP⟩,
    jcell w J 2 4 _ _ (by decide) h.c4, jcell w J 2 5 _ _ (by decide) h.c5, jcell w J 2 6 _ _ (by decide) h.c6, fun j => by simpa using h.fz j, h.pj, fun k hk => by simpa [World.setCell] using h.pl k hk⟩
theorem Rj.setH (h : Rj P w J M t v o st) (t' v' o' : Nat) : Rj P (((w.setCell ⟨J, 4, none⟩ (.int .i64 t')).setCell ⟨J, 5, none⟩ (.int .i64 v')).setCell ⟨J, 6, none⟩ (.int .i64 o')) J M t' v' o' st := by
  obtain ⟨dv, d1, d2, d3⟩ := h.c2
  obtain ⟨lv, l1, l2⟩ := h.c3
  have hP : ∀ k, P k → (((w.setCell ⟨J, 4, none⟩ (.int .i64 t')).setCell ⟨J, 5, none⟩ (.int .i64 v')).setCell ⟨J, 6, none⟩ (.int .i64 o')).heap[k]? = w.heap[k]? := fun k hk => by
    have hne : k ≠ J := fun e => h.pj (by rw [← e]; exact hk)
    rw [Below.heap_setCell _ _ _ _ (by exact hne), Below.heap_setCell _ _ _ _ (by exact hne), Below.heap_setCell _ _ _ _ (by exact hne)]
  have g3 : ∀ (j : Nat) (u : Value), j < 4 → w.cell? ⟨J, j, none⟩ = some u → (((w.setCell ⟨J, 4, none⟩ (.int .i64 t')).setCell ⟨J, 5, none⟩ (.int .i64 v')).setCell ⟨J, 6, none⟩ (.int .i64 o')).cell? ⟨J, j, none⟩ = some u := fun j u hj hu =>
    jcell _ J 6 j _ _ (by omega) (jcell _ J 5 j _ _ (by omega) (jcell _ J 4 j _ _ (by omega) hu))
  exact ⟨g3 0 _ (by decide) h.c0, g3 1 _ (by decide) h.c1, ⟨dv, g3 2 _ (by decide) d1, d2.frame fun g hg _ => hP g (d3 g hg), d3⟩, ⟨lv, g3 3 _ (by decide) l1, l2.frame hP⟩,
    jcell _ J 6 4 _ _ (by decide) (jcell _ J 5 4 _ _ (by decide) (World.cell?_setCell_same w _ _ h.c4)), jcell _ J 6 5 _ _ (by decide) (World.cell?_setCell_same _ _ _ (jcell _ J 4 5 _ _ (by decide) h.c5)), World.cell?_setCell_same _ _ _ (jcell _ J 5 6 _ _ (by decide) (jcell _ J 4 6 _ _ (by decide) h.c6)),
    fun j => by simpa using h.fz j, h.pj, fun k hk => by simpa [World.setCell] using h.pl k hk⟩
end

/-! The document's reader, by what is left. -/

/-- The document's reader in block R over l: what is left, and whether all was well. -/
def Rr (w : World) (R : Nat) (ao : Option Addr) (c : Nat) (l r : List UInt8) (bad : Bool) : Prop := ∃ i, r = l.drop i ∧ i ≤ l.length ∧ RefRd w R (.slice ao l.length c) i bad

section
variable {R : Nat} {ao : Option Addr} {c : Nat} {l r : List UInt8} {bad : Bool} {w : World}

theorem Rr.frame {w' : World} (h : Rr w R ao c l r bad) (hk : w'.heap[R]? = w.heap[R]?) : Rr w' R ao c l r bad := by
  obtain ⟨i, h1, h2, h3⟩ := h
  exact ⟨i, h1, h2, by unfold RefRd at *; rw [hk]; exact h3⟩
theorem Rr.lt (h : Rr w R ao c l r bad) : R < w.heap.size := by
  obtain ⟨i, h1, h2, h3⟩ := h
  exact h3.lt
theorem Rr.sl (h : Rr w R ao c l r bad) {w' : World} {v : Value} {m : List UInt8} (hs : Sl w v m) (ht : Touch R w w') : Sl w' v m := by
  obtain ⟨i, h1, h2, h3⟩ := h
  exact hs.touch ht h3 ⟨_, _, _, rfl⟩

theorem rr_open (ao : Option Addr) (c : Nat) (l : List UInt8) (w : World) :
    Calls Try.prog 45 #[.slice ao l.length c] w fun e w' => ∃ R, e = .returned (.pointer (some ⟨R, 0, none⟩)) ∧ w.heap.size ≤ R ∧ Rr w' R ao c l l false ∧ Below w.heap.size w w' := by
  refine (refopen_any ao l.length c w).mono ?_
  rintro e w' ⟨R, rfl, h1, h2, h3⟩
  exact ⟨R, rfl, h1, ⟨0, rfl, Nat.zero_le _, h2⟩, h3⟩

theorem rr_n (h : Rr w R ao c l r bad) (hs : Sl w (.slice ao l.length c) l) (hl : l.length ≤ 1099511627776) (most : Int) :
    Calls Try.prog 46 #[.pointer (some ⟨R, 0, none⟩), .int .i64 most] w fun e w' => e = .returned (.int .i64 (rdN r most).1) ∧ Rr w' R ao c l (rdN r most).2.2 (bad || (rdN r most).2.1 != 0) ∧ Touch R w w' := by
  obtain ⟨i, rfl, h2, h3⟩ := h
  refine (refn_any R i bad ao c l most w h3 hs hl h2).mono ?_
  rintro e w' ⟨k, rfl, k1, k2, k3, k4⟩
  exact ⟨rfl, ⟨i + k, k1, k2, k3⟩, k4⟩

theorem rr_t (h : Rr w R ao c l r bad) (hs : Sl w (.slice ao l.length c) l) (hl : l.length ≤ 1099511627776) (most : Int) :
    Calls Try.prog 72 #[.pointer (some ⟨R, 0, none⟩), .int .i64 most] w fun e w' => e = .returned (.string (bs (rdT r most).1)) ∧ Rr w' R ao c l (rdT r most).2.2 (bad || (rdT r most).2.1 != 0) ∧ Touch R w w' := by
  obtain ⟨i, rfl, h2, h3⟩ := h
  refine (reft_any R i bad ao c l most w h3 hs hl h2).mono ?_
  rintro e w' ⟨k, rfl, k1, k2, k3, k4⟩
  exact ⟨rfl, ⟨i + k, k1, k2, k3⟩, k4⟩

theorem rr_end (h : Rr w R ao c l r bad) (hl : l.length ≤ 1099511627776) :
    Calls Try.prog 47 #[.pointer (some ⟨R, 0, none⟩)] w fun e w' => e = .returned (.bool (!bad && decide (r = []))) ∧ Below w.heap.size w w' := by
  obtain ⟨i, rfl, h2, h3⟩ := h
  refine (refend_any R i bad ao c l.length w h3 h2 hl).mono ?_
  rintro e w' ⟨rfl, hb⟩
  have e : decide (i = l.length) = decide (l.drop i = []) := by
    rw [decide_eq_decide, List.drop_eq_nil_iff]
    omega
  rw [e]
  exact ⟨rfl, hb⟩
end

theorem rr_end_b {R : Nat} {ao : Option Addr} {c : Nat} {l r : List UInt8} {bad : Bool} {w : World} (h : Rr w R ao c l r bad) (hl : l.length ≤ 1099511627776) (b : Bool) (hb : (!bad && decide (r = [])) = b) :
    Calls Try.prog 47 #[.pointer (some ⟨R, 0, none⟩)] w fun e w' => e = .returned (.bool b) ∧ Below w.heap.size w w' := by
  subst hb
  exact rr_end h hl

theorem Rq.val {B : Nat} {P : Nat → Prop} {w : World} {v : Value} {ls : List (List UInt8)} (h : Rq B P w v ls) : ∃ ao c, v = .slice ao ls.length c := by
  obtain ⟨vs, h1, _⟩ := h
  rcases h1.2 with ⟨rfl, h0⟩ | ⟨g, cap, cur, rfl, _⟩
  · exact ⟨none, 0, by rw [h0]⟩
  · exact ⟨_, _, rfl⟩

theorem bsq_lit (w : World) (u : Value) (s : List UInt8) (P : Nat → Prop) (hs : Sl w u s) (hu : ∀ g, u.ownBlock = some g → P g) (hP : P w.heap.size) : Bsq P (w.alloc (.cells #[u] 26)) (.slice (some ⟨w.heap.size, 0, none⟩) 1 1) [s] := by
  refine ⟨some ⟨w.heap.size, 0, none⟩, 1, rfl, Nat.le_refl _, by decide, fun e => (by cases e), fun a ha => ?_⟩
  injection ha with ha
  subst ha
  refine ⟨hP, fun j x hx => ?_⟩
  have hj : j = 0 := by
    have := (List.getElem?_eq_some_iff.1 hx).1
    simpa using this
  subst hj
  simp only [List.getElem?_cons_zero, Option.some.injEq] at hx
  subst hx
  refine ⟨u, ?_, hs.later (below_new _ _), hu⟩
  rw [Addr.add_lit]
  exact World.cell?_alloc_new w _ _ 0

/-- What change leaves. -/
def Chd (P : Nat → Prop) (J M t v o : Nat) (st : St) (l : List UInt8) (w : World) (e : Ending) (w' : World) : Prop :=
  (∃ st' P', one l st = some st' ∧ e = .returned (.bool true) ∧ Rj P' w' J M t v o st' ∧ (∀ k, P' k → P k ∨ w.heap.size ≤ k) ∧ Fr (fun k => k = J) w w') ∨ (one l st = none ∧ e = .returned (.bool false) ∧ Below w.heap.size w w')

theorem Rj.newL {P P2 : Nat → Prop} {w w9 : World} {J M t v o : Nat} {st : St} {v9 : Value} {L' : List (List UInt8)} (h : Rj P w J M t v o st) (hb : Below w.heap.size w w9) (hq : Rq w.heap.size P2 w9 v9 L') (hP2 : ∀ k, P2 k → P k ∨ (w.heap.size ≤ k ∧ k < w9.heap.size)) :
    Rj (fun k => P k ∨ (w.heap.size ≤ k ∧ k < w9.heap.size)) (w9.setCell ⟨J, 3, none⟩ v9) J M t v o (st.1, st.2.1, L') :=
  (h.grow hb).setL v9 L' (hq.bsq hP2 (fun g hg => .inr (hq.lt g hg)))

theorem rd_kind (l : List UInt8) : (∃ x r, 1 ≤ x ∧ x ≤ 3 ∧ rdN l 3 = (x, 0, r) ∧ rdN l 1099511627776 = (x, 0, r)) ∨ ((rdN l 3).1 = 0 ∧ chOf l = none) := by
  by_cases h : (first l).2 = 0 ∨ (3 : Int) < ((first l).1 : Int)
  · refine .inr ⟨by rw [rdN_no h], ?_⟩
    unfold chOf
    by_cases h' : (first l).2 = 0 ∨ (1099511627776 : Int) < ((first l).1 : Int)
    · rw [rdN_no h', if_pos (by show (11 : Int) ≠ 0; decide)]
    · rw [rdN_yes h', if_neg (by simp), if_neg (by show ¬ (first l).1 = 1; omega), if_neg (by show ¬ (first l).1 = 2; omega), if_neg (by show ¬ (first l).1 = 3; omega)]
  · have h' : ¬ ((first l).2 = 0 ∨ (1099511627776 : Int) < ((first l).1 : Int)) := by omega
    by_cases h0 : (first l).1 = 0
    · refine .inr ⟨by rw [rdN_yes h]; exact h0, ?_⟩
      unfold chOf
      rw [rdN_yes h', if_neg (by simp), if_neg (by show ¬ (first l).1 = 1; omega), if_neg (by show ¬ (first l).1 = 2; omega), if_neg (by show ¬ (first l).1 = 3; omega)]
    · exact .inl ⟨(first l).1, _, by omega, by omega, rdN_yes h, rdN_yes h'⟩

theorem ch_one {l r : List UInt8} (h : rdN l 1099511627776 = (1, 0, r)) : chOf l = if (rdT r 65536).2.1 = 0 ∧ (rdT r 65536).2.2 = [] then some (.add (rdT r 65536).1) else none := by
  unfold chOf
  rw [h]
  simp
theorem ch_two {l r : List UInt8} (h : rdN l 1099511627776 = (2, 0, r)) : chOf l = if (rdN r 1099511627776).2.1 = 0 ∧ (rdN r 1099511627776).2.2 = [] then some (.first (rdN r 1099511627776).1) else none := by
  unfold chOf
  rw [h]
  simp
theorem ch_three {l r : List UInt8} (h : rdN l 1099511627776 = (3, 0, r)) : chOf l = if (rdN r 1099511627776).2.1 = 0 ∧ (rdT (rdN r 1099511627776).2.2 65536).2.1 = 0 ∧ (rdT (rdN r 1099511627776).2.2 65536).2.2 = [] then some (.lay (rdN r 1099511627776).1 (rdT (rdN r 1099511627776).2.2 65536).1) else none := by
  unfold chOf
  rw [h]
  simp

end Go.Proofs.Yteanjnkfoddfmaa
