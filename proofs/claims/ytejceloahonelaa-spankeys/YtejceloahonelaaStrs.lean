/-
  Lists of texts in rows of the call's own; append; the document's Same. No law is proved here.
-/
import Derived.Test.YtejceloahonelaaView
import Derived.Deep.AppendSrc
import Derived.BigQuiet
namespace Go.Proofs.Ytejceloahonelaa
open Go.RowKit
set_option linter.unusedVariables false

/-- A list of texts in a row of the call's own. -/
def OwnS (B : Nat) (w : World) (v : Value) (l : List ByteArray) : Prop := w.ownsRow B 9 1 v l.length (l.map Value.string)

theorem OwnS.open {B : Nat} {w : World} {v : Value} {l : List ByteArray} (h : OwnS B w v l) : ∃ ao c, v = .slice ao l.length c ∧ StrsAt w ao l ∧ l.length ≤ c ∧ c ≤ maxLen ∧ ((ao = none ∧ c = 0 ∧ l = []) ∨ ∃ g, ao = some ⟨g, 0, none⟩ ∧ B ≤ g ∧ g < w.heap.size) := by
  have hl := h.1
  rcases id h.2 with ⟨rfl, h0⟩ | ⟨g, cap, cur, rfl, hb, hg, h1, h2, h3, h4⟩
  · have e : l = [] := List.eq_nil_of_length_eq_zero h0
    subst e
    exact ⟨none, 0, rfl, fun h => absurd h (by simp), Nat.le_refl _, Nat.zero_le _, .inl ⟨rfl, rfl, rfl⟩⟩
  · refine ⟨_, cap, rfl, fun _ => ⟨g, 0, rfl, fun j hj => ?_⟩, h1, h2, .inr ⟨g, rfl, hb, ?_⟩⟩
    · have hc := h.cellAt j (by simp; omega)
      rw [Nat.zero_add]
      simpa [hj] using hc
    · rcases Nat.lt_or_ge g w.heap.size with q | q
      · exact q
      · rw [Array.getElem?_eq_none q] at hg; exact absurd hg (by simp)

theorem OwnS.nil (B : Nat) (w : World) : OwnS B w (.slice none 0 0) [] := ⟨rfl, .inl ⟨rfl, rfl⟩⟩

theorem OwnS.later {B : Nat} {w w' : World} {v : Value} {l : List ByteArray} (h : OwnS B w v l) (hb : Below w.heap.size w w') : OwnS B w' v l := by
  refine ⟨h.1, ?_⟩
  rcases h.2 with hn | ⟨g, cap, cur, rfl, hbg, hg, rest⟩
  · exact .inl hn
  · refine .inr ⟨g, cap, cur, rfl, hbg, ?_, rest⟩
    have hlt : g < w.heap.size := by
      rcases Nat.lt_or_ge g w.heap.size with q | q
      · exact q
      · rw [Array.getElem?_eq_none q] at hg; exact absurd hg (by simp)
    rw [hb.block g hlt, hg]

theorem Try.infoString : (Try.prog.info? 9).map (fun i => (i.zero, i.size, i.bytes)) = some (some (.string ⟨#[]⟩), 1, 16) := by kernel_rfl
theorem below_drewN (B : Nat) (w : World) (n : Nat) : Below B w (w.drewN n) := ⟨rfl, rfl, rfl, Nat.le_refl _, fun _ _ => rfl⟩

/-- append of whatever texts onto a row of the call's own. -/
theorem run_append_strs (w : World) (B : Nat) (hB : B ≤ w.heap.size) (v : Value) (ao : Option Addr) (n c : Nat) (l news : List ByteArray) (h : OwnS B w v l) (hx : StrsAt w ao news) (hn : n = news.length) (hlen : (l.length + news.length) * 16 ≤ 140737488355328) (ty : TypeId) :
    ∃ v' w', (Builtin.append_ #[32, 32] ty #[v, .slice ao n c]).run Try.prog w = .ok v' w' ∧ OwnS B w' v' (l ++ news) ∧ w.grownBy w' v.ownBlock := by
  subst hn
  obtain ⟨i0, hi, hz0, hz1, hz2⟩ := info_parts Try.infoString
  have one : ∀ u ∈ news.map Value.string, u.oneCell' = true := fun u hu => by obtain ⟨x, _, rfl⟩ := List.mem_map.1 hu; rfl
  cases ao with
  | some a =>
    have hcell : ∀ j u, (news.map Value.string)[j]? = some u → w.cell? (a.add j) = some u := fun j u hj => by
      rw [List.getElem?_map] at hj
      have hj' : j < news.length := by
        rcases Nat.lt_or_ge j news.length with q | q
        · exact q
        · rw [List.getElem?_eq_none q] at hj; cases hj
      obtain ⟨b, o, e, hc⟩ := hx (by omega)
      cases e
      rw [List.getElem?_eq_getElem hj'] at hj
      cases hj
      rw [Addr.add_lit]
      exact hc j hj'
    obtain ⟨v', w', hr, r2, r3, _⟩ := run_append_own (P := Try.prog) w B 32 ty 9 i0 (.string ⟨#[]⟩) 1 16 Try.underlying32 hi hz0 hz1 hz2 rfl (by decide) v l.length (l.map Value.string) h a news.length c (news.map Value.string) (by simp) hcell one
      (by unfold maxLen; omega) (by omega) hB
    exact ⟨v', w', hr, by unfold OwnS; rw [List.map_append, List.length_append]; exact r2, r3⟩
  | none =>
    have e : news = [] := by
      cases news with
      | nil => rfl
      | cons x r => obtain ⟨b, o, e, _⟩ := hx (by simp); cases e
    subst e
    rw [List.append_nil]
    have hs := Src.ofNil (P := Try.prog) (size := i0.size) w Try.underlying32 c
    rcases h.2 with ⟨rfl, h0⟩ | ⟨g, cap, cur, rfl, hbg, hg, hnc, hcm, hcs, htake⟩
    · refine ⟨.slice none 0 0, w, ?_, h, World.grownBy.refl _ _⟩
      simp [Builtin.append_, run_underlying Try.underlying32, sizeOf, typeInfo, hi, hs.len, hs.cells, List.length_nil]
    · refine ⟨_, w, ?_, h, World.grownBy.refl _ _⟩
      exact run_append_room_src (P := Try.prog) w 32 32 ty 9 i0 Try.underlying32 hi g 0 l.length cap _ 0 [] hs (by omega) (fun j hj => by simp at hj) (fun j hj => by simp at hj)

theorem wpList_append_strs {ops : Array Oper} {rest : List Oper} {o : Oper} {a : Act} {Q : Exit → Act → World → Prop} (w : World) (hgd : o.guard = none) (s x : Operand)
    (ho : o.op = .call { callee := .builtin .append, args := #[s, x], argTypes := #[32, 32] })
    (B : Nat) (hB : B ≤ w.heap.size) (v : Value) (l : List ByteArray) (hv : a.eval s = v) (h : OwnS B w v l) (ao : Option Addr) (n c : Nat) (news : List ByteArray) (hxv : a.eval x = .slice ao n c) (hx : StrsAt w ao news) (hn : n = news.length)
    (hlen : (l.length + news.length) * 16 ≤ 140737488355328)
    (hK : ∀ v' w', OwnS B w' v' (l ++ news) → w.grownBy w' v.ownBlock → wpList Try.prog ops Q rest (a.put o.dst v') w') : wpList Try.prog ops Q (o :: rest) a w := by
  refine wpList_plain hgd fun K hK' => ?_
  obtain ⟨v', w', hr, h2, h3⟩ := run_append_strs w B hB v ao n c l news h hx hn hlen o.type
  unfold Oper.wp execOp
  simp only [ho, resolve, invoke, builtin, Sem.run_bind, Sem.run_pure, Result.andThen_ok, List.map_toArray, List.map_cons, List.map_nil, hv, hxv, hr]
  exact hK' _ _ (hK v' w' h2 h3)

section
set_option maxRecDepth 100000
set_option maxHeartbeats 2000000

theorem same_yes (ao bo : Option Addr) (c d : Nat) (l : List ByteArray) (w : World) (ha : StrsAt w ao l) (hb : StrsAt w bo l) (hl : l.length ≤ 9223372036854775807) :
    Calls Try.prog 22 #[.slice ao l.length c, .slice bo l.length d] w fun e w' => e = .returned (.bool true) ∧ Below w.heap.size w w' := by
  have HA := hide ha
  have HB := hide hb
  clear ha hb
  go_enter Try.func22, Try.ntmps22
  go_wp2
  go_loopw [5] (fun i wr => ∃ k n : Nat, k ≤ l.length ∧ i = .int .i64 k ∧ wr = w.drewN n) (fun i _ => l.length - (intOf i).toNat)
  case atStart => exact ⟨0, 0, by omega, rfl, rfl⟩
  case round =>
    obtain ⟨k, n, hk, rfl, rfl⟩ := hrel
    by_cases hlt : k < l.length
    · obtain ⟨b, o, rfl, hc1⟩ := unhide HA (by omega)
      obtain ⟨b2, o2, rfl, hc2⟩ := unhide HB (by omega)
      replace hc1 := hc1 k hlt
      replace hc2 := hc2 k hlt
      obtain ⟨x, hx⟩ : ∃ x, Hid (l[k] = x) := ⟨l[k], Eq.refl l[k]⟩
      rw [unhide hx] at hc1 hc2
      have hkI : (k : Int) < (l.length : Int) := by omega
      go_wp2_with fail
      go_quiet (fail)
      go_wp2
      go_roundw
      case rel => exact ⟨k + 1, _, by omega, by go_num, rfl⟩
      case measure => simp [intOf]; omega
    · go_wp2
      go_ret
      exact ⟨rfl, below_drewN _ w _⟩

end

end Go.Proofs.Ytejceloahonelaa
