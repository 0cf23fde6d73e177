/-
  Pairs in a row of the call's own: append; the document's SamePairs of one list twice. No law is proved here.
-/
import Derived.Test.YtcdehnghggleoaaSk
import Derived.Deep.AppendSrc
import Derived.BigQuiet
namespace Go.Proofs.Ytcdehnghggleoaa
open Go.RowKit
set_option linter.unusedVariables false

/-- A list of pairs in a row of the call's own. -/
def POwn (B : Nat) (w : World) (v : Value) (l : List Pr) : Prop := w.ownsRow B 89 2 v l.length (pcs l)

theorem POwn.nil (B : Nat) (w : World) : POwn B w (.slice none 0 0) [] := ⟨rfl, .inl ⟨rfl, rfl⟩⟩
theorem POwn.later {B : Nat} {w w' : World} {v : Value} {l : List Pr} (h : POwn B w v l) (hb : Below w.heap.size w w') : POwn B w' v l := row_later h hb
theorem POwn.lt {B : Nat} {w : World} {v : Value} {l : List Pr} (h : POwn B w v l) : ∀ g, v.ownBlock = some g → B ≤ g ∧ g < w.heap.size := fun g hg => World.ownsRow.lt h g hg
theorem POwn.ps {B : Nat} {w : World} {v : Value} {l : List Pr} (h : POwn B w v l) : ∃ po c, v = .slice po l.length c ∧ PsAt w po l := row_ps h
theorem pcs_append (a b : List Pr) : pcs (a ++ b) = pcs a ++ pcs b := by unfold pcs; simp
theorem pcs_one (l : List Pr) : ∀ u ∈ pcs l, u.oneCell' = true := by
  intro u hu
  simp only [pcs, List.mem_flatMap] at hu
  obtain ⟨p, _, hu⟩ := hu
  simp at hu
  rcases hu with rfl | rfl <;> rfl
theorem pcs_get : ∀ (l : List Pr) (i : Nat) (h : i < l.length), (pcs l)[i * 2]? = some (.string l[i].1) ∧ (pcs l)[i * 2 + 1]? = some (.string l[i].2)
  | p :: r, 0, _ => by unfold pcs; simp
  | p :: r, i + 1, h => by
    have := pcs_get r i (by simpa using h)
    unfold pcs at this ⊢
    rw [List.flatMap_cons, List.getElem?_append_right (by simp; omega), List.getElem?_append_right (by simp; omega)]
    simp only [List.getElem_cons_succ]
    refine ⟨?_, ?_⟩
    · rw [← this.1]; congr 1; simp; omega
    · rw [← this.2]; congr 1; simp; omega
/-- The cells that a list leads to. -/
theorem PsAt.cells {w : World} {a : Addr} {l : List Pr} (h : PsAt w (some a) l) (j : Nat) (u : Value) (hu : (pcs l)[j]? = some u) : w.cell? (a.add j) = some u := by
  have hj : j < l.length * 2 := by
    have := (List.getElem?_eq_some_iff.1 hu).1
    rwa [pcs_len] at this
  obtain ⟨b, o, e, hc⟩ := h (by omega)
  injection e with e
  subst e
  have hk : j / 2 < l.length := by omega
  obtain ⟨g1, g2⟩ := pcs_get l (j / 2) hk
  obtain ⟨c1, c2⟩ := hc (j / 2) hk
  rw [Addr.add_lit]
  rcases Nat.mod_two_eq_zero_or_one j with q | q
  · have hjj : j = j / 2 * 2 := by omega
    rw [hjj, g1] at hu
    rw [hjj, ← hu]
    exact c1
  · have hjj : j = j / 2 * 2 + 1 := by omega
    rw [hjj, g2] at hu
    rw [hjj, ← hu]
    exact c2

theorem below_drewN (B : Nat) (w : World) (n : Nat) : Below B w (w.drewN n) := ⟨rfl, rfl, rfl, Nat.le_refl _, fun _ _ => rfl⟩

/-- append of whatever pairs onto a row of the call's own. -/
theorem run_append_pairs (w : World) (B : Nat) (hB : B ≤ w.heap.size) (v : Value) (ao : Option Addr) (n c : Nat) (l news : List Pr) (h : POwn B w v l) (hx : PsAt w ao news) (hn : n = news.length) (hlen : (l.length + news.length) * 32 ≤ 140737488355328) (ty : TypeId) :
    ∃ v' w', (Builtin.append_ #[51, 51] ty #[v, .slice ao n c]).run Try.prog w = .ok v' w' ∧ POwn B w' v' (l ++ news) ∧ w.grownBy w' v.ownBlock := by
  subst hn
  obtain ⟨i0, hi, hz0, hz1, hz2⟩ := info_parts Try.infoPair
  cases ao with
  | some a =>
    obtain ⟨v', w', hr, r2, r3, _⟩ := run_append_own (P := Try.prog) w B 51 ty 89 i0 (.agg #[.string ⟨#[]⟩, .string ⟨#[]⟩]) 2 32 Try.underlying51 hi hz0 hz1 hz2 rfl (by decide) v l.length (pcs l) h a news.length c (pcs news) (by rw [pcs_len]) hx.cells (pcs_one news)
      (by unfold maxLen; omega) (by omega) hB
    exact ⟨v', w', hr, by unfold POwn; rw [pcs_append, List.length_append]; exact r2, r3⟩
  | none =>
    have e : news = [] := by
      cases news with
      | nil => rfl
      | cons x r => obtain ⟨b, o, e, _⟩ := hx (by simp); cases e
    subst e
    rw [List.append_nil]
    have hs := Src.ofNil (P := Try.prog) (size := i0.size) w Try.underlying51 c
    rcases h.2 with ⟨rfl, h0⟩ | ⟨g, cap, cur, rfl, hbg, hg, hnc, hcm, hcs, htake⟩
    · refine ⟨.slice none 0 0, w, ?_, h, World.grownBy.refl _ _⟩
      simp [Builtin.append_, run_underlying Try.underlying51, sizeOf, typeInfo, hi, hs.len, hs.cells, List.length_nil]
    · refine ⟨_, w, ?_, h, World.grownBy.refl _ _⟩
      exact run_append_room_src (P := Try.prog) w 51 51 ty 89 i0 Try.underlying51 hi g 0 l.length cap _ 0 [] hs (by omega) (fun j hj => by simp at hj) (fun j hj => by simp at hj)

theorem wpList_append_pairs {ops : Array Oper} {rest : List Oper} {o : Oper} {a : Act} {Q : Exit → Act → World → Prop} (w : World) (hgd : o.guard = none) (s x : Operand)
    (ho : o.op = .call { callee := .builtin .append, args := #[s, x], argTypes := #[51, 51] })
    (B : Nat) (hB : B ≤ w.heap.size) (v : Value) (l : List Pr) (hv : a.eval s = v) (h : POwn B w v l) (ao : Option Addr) (n c : Nat) (news : List Pr) (hxv : a.eval x = .slice ao n c) (hx : PsAt w ao news) (hn : n = news.length)
    (hlen : (l.length + news.length) * 32 ≤ 140737488355328)
    (hK : ∀ v' w', POwn B w' v' (l ++ news) → w.grownBy w' v.ownBlock → wpList Try.prog ops Q rest (a.put o.dst v') w') : wpList Try.prog ops Q (o :: rest) a w := by
  refine wpList_plain hgd fun K hK' => ?_
  obtain ⟨v', w', hr, h2, h3⟩ := run_append_pairs w B hB v ao n c l news h hx hn hlen o.type
  unfold Oper.wp execOp
  simp only [ho, resolve, invoke, builtin, Sem.run_bind, Sem.run_pure, Result.andThen_ok, List.map_toArray, List.map_cons, List.map_nil, hv, hxv, hr]
  exact hK' _ _ (hK v' w' h2 h3)

section
set_option maxRecDepth 100000
set_option maxHeartbeats 2000000

theorem samepairs_yes (ao bo : Option Addr) (c d : Nat) (l : List Pr) (w : World) (ha : PsAt w ao l) (hb : PsAt w bo l) (hl : l.length ≤ 9223372036854775807) :
    Calls Try.prog 21 #[.slice ao l.length c, .slice bo l.length d] w fun e w' => e = .returned (.bool true) ∧ Below w.heap.size w w' := by
  have HA := hide ha
  have HB := hide hb
  clear ha hb
  go_enter Try.func21, Try.ntmps21
  go_wp2
  go_loopw [5] (fun i wr => ∃ k n : Nat, k ≤ l.length ∧ i = .int .i64 k ∧ wr = w.drewN n) (fun i _ => l.length - (intOf i).toNat)
  case atStart => exact ⟨0, 0, by omega, rfl, rfl⟩
  case round =>
    obtain ⟨k, n, hk, rfl, rfl⟩ := hrel
    by_cases hlt : k < l.length
    · obtain ⟨b, o, rfl, hc1⟩ := unhide HA (by omega)
      obtain ⟨b2, o2, rfl, hc2⟩ := unhide HB (by omega)
      obtain ⟨p1, p2⟩ := hc1 k hlt
      obtain ⟨q1, q2⟩ := hc2 k hlt
      obtain ⟨⟨x, y⟩, hx⟩ : ∃ x, Hid (l[k] = x) := ⟨l[k], Eq.refl l[k]⟩
      rw [unhide hx] at p1 p2 q1 q2
      clear hc1 hc2
      simp only at p1 p2 q1 q2
      have hkI : (k : Int) < (l.length : Int) := by omega
      go_wp2_with fail
      go_quiet (fail)
      go_wp2
      go_roundw
      case rel => exact ⟨k + 1, _, by omega, by go_num, rfl⟩
      case measure => simp [intOf]; omega
    · go_wp2
      go_ret
      exact ⟨rfl, below_drewN _ _ _⟩
end

end Go.Proofs.Ytcdehnghggleoaa
