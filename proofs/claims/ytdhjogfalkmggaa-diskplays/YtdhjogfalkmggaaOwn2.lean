/-
  append onto a row of the call's own; a byte of a row of the call's own written. No law is proved here.
-/
import Derived.Test.YtdhjogfalkmggaaGs
namespace Go.Proofs.Ytdhjogfalkmggaa
open Go.RowKit
set_option linter.unusedVariables false

theorem Appd.own {B : Nat} {w w' : World} {v v' : Value} {l news : List UInt8} (h : Appd w v l news v' w') (ho : Own B w v l) (hB : B ≤ w.heap.size) : Own B w' v' (l ++ news) ∧ Below B w w' := by
  rcases h with ⟨rfl, rfl, rfl⟩ | ⟨g, n, c, hc, rfl, rfl, _, ho', hg⟩ | ⟨ho', hg⟩
  · rw [List.append_nil]
    exact ⟨ho, Below.refl _ _⟩
  · have hlt := World.ownsRow.lt ho g rfl
    refine ⟨⟨ho'.1, ?_⟩, (Below.refl B w).grown hg hB (fun k hk => by injection hk with hk; omega)⟩
    rcases ho'.2 with ⟨e, _⟩ | ⟨g', cap, cur, e, _, rest⟩
    · cases e
    · injection e with e1 e2 e3
      injection e1 with e1
      injection e1 with e1
      subst e1 e2 e3
      exact .inr ⟨_, _, cur, rfl, hlt.1, rest⟩
  · exact ⟨ho'.mono hB, (Below.refl B w).grown hg hB (fun k hk => by cases hk)⟩

theorem wpList_append_ob {ops : Array Oper} {rest : List Oper} {o : Oper} {a : Act} {Q : Exit → Act → World → Prop} (w : World) (hgd : o.guard = none) (s x : Operand)
    (ho : o.op = .call { callee := .builtin .append, args := #[s, x], argTypes := #[26, 26] })
    (B : Nat) (v xv : Value) (l news : List UInt8) (hB : B ≤ w.heap.size) (hown : Own B w v l) (hev : a.eval s = v) (hxv : a.eval x = xv) (hx : Sl w xv news)
    (hlen : l.length + news.length ≤ 70368744177664)
    (hK : ∀ v' w', Own B w' v' (l ++ news) → Below B w w' → wpList Try.prog ops Q rest (a.put o.dst v') w') : wpList Try.prog ops Q (o :: rest) a w :=
  wpList_append_gr w hgd s x ho v xv l news (.inr (hown.mono (Nat.zero_le _))) hown.sl hev hxv hx hlen fun v' w' h => hK v' w' (h.own hown hB).1 (h.own hown hB).2

theorem row_form {B : Nat} {w : World} {v : Value} {l : List UInt8} (h : Own B w v l) (hl : 0 < l.length) : ∃ g cap, v = .slice (some ⟨g, 0, none⟩) l.length cap := by
  rcases h.2 with ⟨_, h0⟩ | ⟨g, cap, cur, rfl, _⟩
  · omega
  · exact ⟨g, cap, rfl⟩

/-- A byte of a row of one's own is written. -/
theorem put_row {B g n cap : Nat} {L : List UInt8} {w : World} (ho : Own B w (.slice (some ⟨g, 0, none⟩) n cap) L) (j : Nat) (hj : j < L.length) (hn : L.length = n) (x b : UInt8) (hx : L[j]? = some x) :
    w.cell? ⟨g, j, none⟩ = some (.int .u8 (x.toNat : Int)) ∧ w.frozen? ⟨g, j, none⟩ = false ∧
      Own B (w.setCell ⟨g, j, none⟩ (.int .u8 (b.toNat : Int))) (.slice (some ⟨g, 0, none⟩) n cap) (L.set j b) ∧ Fr (fun k => k = g) w (w.setCell ⟨g, j, none⟩ (.int .u8 (b.toNat : Int))) := by
  subst hn
  have hc := World.ownsRow.cellAt ho j (by omega)
  rw [bc_get, hx] at hc
  have hf := World.ownsRow.frozenAt ho j
  have hst := World.ownsRow.stored ho j (.int .u8 (b.toNat : Int))
  refine ⟨hc, hf, ?_, (Fr.refl (fun k => k = g) w).set (p := ⟨g, j, none⟩) rfl _⟩
  unfold Own
  rw [bc_set, List.length_set]
  exact hst.1

theorem add1 (b : UInt8) : ((b.toNat : Int) + 1) % 256 = ((b + 1).toNat : Int) := by
  rw [UInt8.toNat_add]
  simp

theorem Own.other {B : Nat} {T : Nat → Prop} {w w' : World} {v : Value} {l : List UInt8} (h : Own B w v l) (hf : Fr T w w') (hn : ∀ g, v.ownBlock = some g → ¬ T g) : Own B w' v l := h.frame fun g hg hlt => hf.block g hlt (hn g hg)

end Go.Proofs.Ytdhjogfalkmggaa
