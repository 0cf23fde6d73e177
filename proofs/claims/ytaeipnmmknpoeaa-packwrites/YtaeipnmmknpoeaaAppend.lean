/-
  append onto a row of bytes of the call's own: where the answer lies.
-/
import Derived.Test.YtaeipnmmknpoeaaRefPut
namespace Go.Proofs.Ytaeipnmmknpoeaa
open Go.RowKit
set_option linter.unusedVariables false

theorem append_block (w : World) (B : Nat) (hB : B ≤ w.heap.size) (v : Value) (l : List UInt8) (h : Own B w v l) (a : Addr) (c : Nat) (news : List UInt8) (hc : ∀ j u, (bc news)[j]? = some u → w.cell? (a.add j) = some u)
    (hlen : l.length + news.length ≤ 70368744177664) (ty : TypeId) :
    ∃ v' w', (Builtin.append_ #[23, 23] ty #[v, .slice (some a) news.length c]).run Try.prog w = .ok v' w' ∧ Own B w' v' (l ++ news) ∧ w.grownBy w' v.ownBlock ∧
      (v'.ownBlock = v.ownBlock ∨ ∀ g, v'.ownBlock = some g → w.heap.size ≤ g) := by
  obtain ⟨i0, hi, hz0, hz1, hz2⟩ := info_parts Try.infoByte
  obtain ⟨v', w', hr, h2, h3, _⟩ := run_append_own (P := Try.prog) w B 23 ty 5 i0 (.int .u8 0) 1 1 Try.underlying23 hi hz0 hz1 hz2 rfl (by decide) v l.length (bc l) h a news.length c (bc news) (by simp [bc_length]) hc (bc_one _)
    (by unfold maxLen; omega) (by omega) hB
  refine ⟨v', w', hr, by unfold Own; rw [bc_append, List.length_append]; exact h2, h3, ?_⟩
  rcases h.2 with ⟨rfl, h0⟩ | ⟨g, cap, cur, rfl, hbg, hg, hnc, hcm, hcs, htake⟩
  · have hl0 : l = [] := List.eq_nil_of_length_eq_zero h0
    subst hl0
    obtain ⟨v2, w2, hr2, h22, _, _⟩ := run_append_own (P := Try.prog) w w.heap.size 23 ty 5 i0 (.int .u8 0) 1 1 Try.underlying23 hi hz0 hz1 hz2 rfl (by decide) (.slice none 0 0) 0 [] (World.ownsRow_nil w _ _ _) a news.length c (bc news) (by simp [bc_length]) hc (bc_one _)
      (by unfold maxLen; simp at hlen ⊢; omega) (by simp at hlen ⊢; omega) (Nat.le_refl _)
    rw [hr] at hr2
    injection hr2 with e1 e2
    subst e1 e2
    exact .inr fun g hg => (World.ownsRow.lt h22 g hg).1
  · by_cases hroom : l.length + news.length ≤ cap
    · have hfit : l.length * i0.size + (bc news).length ≤ cur.size := by rw [hz1, bc_length, hcs]; omega
      have hr2 := run_append_room (P := Try.prog) w 23 ty 5 i0 Try.underlying23 hi g l.length cap cur hg a news.length c (bc news) (by rw [bc_length, hz1, Nat.mul_one]) hc (bc_one _) hroom hfit
      rw [hr] at hr2
      injection hr2 with e1 e2
      subst e1
      exact .inl rfl
    · have holds := World.ownsRow.cells h (g := g) rfl
      obtain ⟨v2, w2, hr2, h22, _⟩ := run_append_arg_grows (P := Try.prog) w 23 ty 5 i0 (.int .u8 0) 1 1 Try.underlying23 hi hz0 hz1 hz2 rfl (by decide) ⟨g, 0, none⟩ l.length cap (bc l) (by simp [bc_length]) holds a news.length c (bc news) (by simp [bc_length]) hc (by omega)
        (by unfold maxLen; omega) (by omega)
      rw [hr] at hr2
      injection hr2 with e1 e2
      subst e1 e2
      exact .inr fun g hg => (World.ownsRow.lt h22 g hg).1

theorem wpList_append_ownb {ops : Array Oper} {rest : List Oper} {o : Oper} {a : Act} {Q : Exit → Act → World → Prop} (w : World) (hgd : o.guard = none) (s x : Operand)
    (ho : o.op = .call { callee := .builtin .append, args := #[s, x], argTypes := #[23, 23] })
    (B : Nat) (hB : B ≤ w.heap.size) (v : Value) (l : List UInt8) (hv : a.eval s = v) (h : Own B w v l)
    (ad : Addr) (c n : Nat) (news : List UInt8) (hn : news.length = n) (hx : a.eval x = .slice (some ad) n c) (hc : ∀ j u, (bc news)[j]? = some u → w.cell? (ad.add j) = some u)
    (hlen : l.length + news.length ≤ 70368744177664)
    (hK : ∀ v' w', Own B w' v' (l ++ news) → w.grownBy w' v.ownBlock → (v'.ownBlock = v.ownBlock ∨ ∀ g, v'.ownBlock = some g → w.heap.size ≤ g) → wpList Try.prog ops Q rest (a.put o.dst v') w') : wpList Try.prog ops Q (o :: rest) a w := by
  subst hn
  refine wpList_plain hgd fun K hK' => ?_
  obtain ⟨v', w', hr, h2, h3, h4⟩ := append_block w B hB v l h ad c news hc hlen o.type
  unfold Oper.wp execOp
  simp only [ho, resolve, invoke, builtin, Sem.run_bind, Sem.run_pure, Result.andThen_ok, List.map_toArray, List.map_cons, List.map_nil, hv, hx, hr]
  exact hK' _ _ (hK v' w' h2 h3 h4)

end Go.Proofs.Ytaeipnmmknpoeaa
