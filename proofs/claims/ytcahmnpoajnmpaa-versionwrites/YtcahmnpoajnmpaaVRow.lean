/-
  A row of numbers of the call's own; blocks beside a row that grows. No law is proved here.
-/
import Derived.Test.YtcahmnpoajnmpaaDoes
namespace Go.Proofs.Ytcahmnpoajnmpaa
open Go.RowKit
set_option linter.unusedVariables false

/-- append onto a row of the call's own: where the answer lies. -/
theorem append_row (w : World) (B : Nat) (hB : B ≤ w.heap.size) (t e : TypeId) (i : TypeInfo) (z : Value) (size bytes : Nat) (ht : Try.prog.underlying t = some (.slice e)) (hi : Try.prog.info? e = some i) (hz : i.zero = some z)
    (hsize : i.size = size) (hby : i.bytes = bytes) (hzs : z.cells.size = size) (hsz : 0 < size)
    (v : Value) (n : Nat) (xs : List Value) (h : w.ownsRow B e size v n xs) (a : Addr) (m c : Nat) (hm : 0 < m) (news : List Value) (hl : news.length = m * size) (hc : ∀ j u, news[j]? = some u → w.cell? (a.add j) = some u) (h1 : ∀ u ∈ news, u.oneCell' = true)
    (h63 : n + m ≤ maxLen) (hbytes : (n + m) * bytes ≤ 140737488355328) (ty : TypeId) :
    ∃ v' w', (Builtin.append_ #[t, t] ty #[v, .slice (some a) m c]).run Try.prog w = .ok v' w' ∧ w'.ownsRow B e size v' (n + m) (xs ++ news) ∧ w.grownBy w' v.ownBlock ∧
      (v'.ownBlock = v.ownBlock ∨ ∀ g, v'.ownBlock = some g → w.heap.size ≤ g) := by
  obtain ⟨v', w', hr, h2, h3, _⟩ := run_append_own (P := Try.prog) w B t ty e i z size bytes ht hi hz hsize hby hzs hsz v n xs h a m c news hl hc h1 h63 hbytes hB
  refine ⟨v', w', hr, h2, h3, ?_⟩
  rcases h.2 with ⟨rfl, h0⟩ | ⟨g, cap, cur, rfl, hbg, hg, hnc, hcm, hcs, htake⟩
  · subst h0
    have hx : xs = [] := List.eq_nil_of_length_eq_zero (by have := h.1; simpa using this)
    subst hx
    obtain ⟨v2, w2, hr2, h22, _, _⟩ := run_append_own (P := Try.prog) w w.heap.size t ty e i z size bytes ht hi hz hsize hby hzs hsz (.slice none 0 0) 0 [] (World.ownsRow_nil w _ _ _) a m c news hl hc h1 h63 hbytes (Nat.le_refl _)
    rw [hr] at hr2
    injection hr2 with e1 e2
    subst e1 e2
    exact .inr fun g hg => (World.ownsRow.lt h22 g hg).1
  · by_cases hroom : n + m ≤ cap
    · have hfit : n * i.size + news.length ≤ cur.size := by rw [hsize, hl, hcs, ← Nat.add_mul]; exact Nat.mul_le_mul_right _ hroom
      have hr2 := run_append_room (P := Try.prog) w t ty e i ht hi g n cap cur hg a m c news (by rw [hsize]; exact hl) hc h1 hroom hfit
      rw [hr] at hr2
      injection hr2 with e1 e2
      subst e1
      exact .inl rfl
    · have holds := World.ownsRow.cells h (g := g) rfl
      obtain ⟨v2, w2, hr2, h22, _⟩ := run_append_arg_grows (P := Try.prog) w t ty e i z size bytes ht hi hz hsize hby hzs hsz ⟨g, 0, none⟩ n cap xs h.1 holds a m c news hl hc (by omega) h63 hbytes
      rw [hr] at hr2
      injection hr2 with e1 e2
      subst e1 e2
      exact .inr fun g hg => (World.ownsRow.lt h22 g hg).1

theorem Try.infoInt : (Try.prog.info? 3).map (fun i => (i.zero, i.size, i.bytes)) = some (some (.int .i64 0), 1, 8) := by kernel_rfl

/-- Numbers in a row of the call's own, at or behind block B. -/
def IOwn (B : Nat) (w : World) (v : Value) (ys : List Int) : Prop := w.ownsRow B 3 1 v ys.length (ys.map (Value.int .i64))
theorem IOwn.zero (B : Nat) (w : World) : IOwn B w (.slice none 0 0) [] := ⟨rfl, .inl ⟨rfl, rfl⟩⟩
theorem IOwn.lt {B : Nat} {w : World} {v : Value} {ys : List Int} (h : IOwn B w v ys) : ∀ g, v.ownBlock = some g → B ≤ g ∧ g < w.heap.size := fun g hg => World.ownsRow.lt h g hg
theorem IOwn.later {B : Nat} {w w' : World} {v : Value} {ys : List Int} (h : IOwn B w v ys) (hb : Below w.heap.size w w') : IOwn B w' v ys := by
  refine ⟨h.1, ?_⟩
  rcases h.2 with hn | ⟨g, cap, cur, e, hbg, hg, rest⟩
  · exact .inl hn
  · refine .inr ⟨g, cap, cur, e, hbg, ?_, rest⟩
    have hlt : g < w.heap.size := by
      rcases Nat.lt_or_ge g w.heap.size with q | q
      · exact q
      · rw [Array.getElem?_eq_none q] at hg; exact absurd hg (by simp)
    rw [hb.block g hlt, hg]
theorem IOwn.other {B : Nat} {w : World} {v : Value} {ys : List Int} (h : IOwn B w v ys) {q : Addr} (hq : q.block < B) (x : Value) : IOwn B (w.setCell q x) v ys := by
  refine ⟨h.1, ?_⟩
  rcases h.2 with hn | ⟨g, cap, cur, e, hbg, hg, rest⟩
  · exact .inl hn
  · refine .inr ⟨g, cap, cur, e, hbg, ?_, rest⟩
    rw [Below.heap_setCell _ _ _ _ (by omega), hg]
theorem IOwn.others {B : Nat} {v : Value} {ys : List Int} {C : Nat} (hC : C < B) : ∀ (r : List Value) {w : World} (k : Nat), IOwn B w v ys → IOwn B (setAll w C k r) v ys
  | [], w, k, h => h
  | x :: r, w, k, h => by rw [setAll]; exact IOwn.others hC r (k + 1) (h.other (q := ⟨C, k, none⟩) hC x)
/-- What it looks like. -/
theorem IOwn.form {B : Nat} {w : World} {v : Value} {ys : List Int} (h : IOwn B w v ys) : ∃ ao c, v = .slice ao ys.length c ∧ ys.length ≤ c ∧ c ≤ maxLen ∧ ∀ k (hk : k < ys.length), ∃ g, ao = some ⟨g, 0, none⟩ ∧ w.cell? ⟨g, 0 + k * 1, none⟩ = some (.int .i64 ys[k]) := by
  have hcs := fun g hg => World.ownsRow.cells h (g := g) hg
  rcases h.2 with ⟨rfl, h0⟩ | ⟨g, cap, cur, rfl, hb, hg, h1, h2, h3, h4⟩
  · have : ys = [] := List.eq_nil_of_length_eq_zero h0
    subst this
    exact ⟨none, 0, rfl, Nat.le_refl _, Nat.zero_le _, fun k hk => by cases hk⟩
  · refine ⟨some ⟨g, 0, none⟩, cap, rfl, h1, h2, fun k hk => ⟨g, rfl, ?_⟩⟩
    have := hcs g rfl k (.int .i64 ys[k]) (by simp [hk])
    rw [Addr.add_lit] at this
    rw [Nat.mul_one]
    exact this

theorem wpList_append_int {ops : Array Oper} {rest : List Oper} {o : Oper} {ac : Act} {Qx : Exit → Act → World → Prop} (w : World) (hgd : o.guard = none) (s y : Operand)
    (ho : o.op = .call { callee := .builtin .append, args := #[s, y], argTypes := #[54, 54] })
    (B : Nat) (hB : B ≤ w.heap.size) (v : Value) (ys : List Int) (h : IOwn B w v ys) (id : Int) (hn : ys.length ≤ 1000) (N : Nat) (hv : ac.eval s = v) (hx : ac.eval y = .slice (some ⟨N, 0, none⟩) 1 1) (hN : w.cell? ⟨N, 0, none⟩ = some (.int .i64 id))
    (hK : ∀ v' w', IOwn B w' v' (ys ++ [id]) → w.grownBy w' v.ownBlock → (v'.ownBlock = v.ownBlock ∨ ∀ g, v'.ownBlock = some g → w.heap.size ≤ g) → wpList Try.prog ops Qx rest (ac.put o.dst v') w') : wpList Try.prog ops Qx (o :: rest) ac w := by
  refine wpList_plain hgd fun K hK' => ?_
  obtain ⟨i0, hi, hz0, hz1, hz2⟩ := info_parts Try.infoInt
  obtain ⟨v', w', hrun, h1, h2, h3⟩ := append_row w B hB 54 3 i0 _ 1 8 Try.underlying54 hi hz0 hz1 hz2 rfl (by decide) v ys.length _ h ⟨N, 0, none⟩ 1 1 (by decide) [.int .i64 id] rfl (fun j u hu => by
      match j, hu with
      | 0, hu => simp at hu; subst hu; exact hN) (fun u hu => by simp at hu; subst hu; rfl) (by unfold maxLen; omega) (by omega) o.type
  unfold Oper.wp execOp
  simp only [ho, resolve, invoke, builtin, Sem.run_bind, Sem.run_pure, Result.andThen_ok, List.map_toArray, List.map_cons, List.map_nil, hv, hx, hrun]
  refine hK' _ _ (hK v' w' ?_ h2 h3)
  unfold IOwn
  rw [List.length_append, List.map_append]
  exact h1

/-- Beside a row that grows. -/
theorem Blk.grown {w w' : World} {B : Nat} {cs : List Value} {r : Option Nat} (h : Blk w B cs) (hg : w.grownBy w' r) (hn : ∀ g, r = some g → g ≠ B) : Blk w' B cs := by
  have e := hg.block B h.lt (fun e => hn B e.symm rfl)
  exact ⟨fun j => (World.cell?_of_block (a := ⟨B, j, none⟩) e).trans (h.c j), fun j => (World.frozen?_of_block (a := ⟨B, j, none⟩) e).trans (h.f j), Nat.lt_of_lt_of_le h.lt hg.size⟩
theorem Vs.grown {w w' : World} {ao : Option Addr} {c : Nat} {vs : List Ver} {r : Option Nat} (h : Vs w ao c vs) (hg : w.grownBy w' r) (hn : ∀ g, r = some g → Off g ao vs) : Vs w' ao c vs :=
  ⟨h.le, h.cm, h.nil, fun i hi => by
    obtain ⟨b, o, e, hv⟩ := h.each i hi
    refine ⟨b, o, e, hv.block (hg.block b hv.lt fun e2 => ?_)⟩
    rcases hn b e2.symm b o e with e3 | e3
    · rw [e3] at hi; cases hi
    · exact e3 rfl⟩

theorem Blk.drw {w : World} {B : Nat} {cs : List Value} (h : Blk w B cs) : Blk w.drew B cs := h.later (Below.refl w.heap.size w).drew

end Go.Proofs.Ytcahmnpoajnmpaa
