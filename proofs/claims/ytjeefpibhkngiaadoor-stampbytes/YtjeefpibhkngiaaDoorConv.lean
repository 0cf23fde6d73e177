/-
  Bytes appended to a row of the call's own, whatever they are; bytes that came in. No law is proved here.
-/
import Derived.Test.YtjeefpibhkngiaaDoorReader
import Derived.Deep.AppendSrc
import Derived.ProofKit
import Derived.OpenShut
namespace Go.Proofs.YtjeefpibhkngiaaDoor
open Go.RowKit Go.ChangeShapes Go.WideShapes
set_option linter.unusedVariables false

/-- append of whatever bytes onto a row of the call's own. -/
theorem run_append_sl (w : World) (B : Nat) (hB : B ≤ w.heap.size) (v x : Value) (l news : List UInt8) (h : Own B w v l) (hx : Sl w x news) (hlen : l.length + news.length ≤ 70368744177664) (ty : TypeId) :
    ∃ v' w', (Builtin.append_ #[35, 35] ty #[v, x]).run Tryd.prog w = .ok v' w' ∧ Own B w' v' (l ++ news) ∧ w.grownBy w' v.ownBlock := by
  obtain ⟨i0, hi, hz0, hz1, hz2⟩ := info_parts Tryd.infoByte
  obtain ⟨ao, c, rfl, h1, h2, h3, h4⟩ := hx
  cases ao with
  | some a =>
    obtain ⟨v', w', hr, r2, r3, _⟩ := run_append_own (P := Tryd.prog) w B 35 ty 5 i0 (.int .u8 0) 1 1 Tryd.underlying35 hi hz0 hz1 hz2 rfl (by decide) v l.length (bc l) h a news.length c (bc news) (by simp [bc_length]) (h4 a rfl) (bc_one _)
      (by unfold maxLen; omega) (by omega) hB
    exact ⟨v', w', hr, by unfold Own; rw [bc_append, List.length_append]; exact r2, r3⟩
  | none =>
    obtain ⟨rfl, rfl⟩ := h3 rfl
    rw [List.append_nil]
    rcases h.2 with ⟨rfl, h0⟩ | ⟨g, cap, cur, rfl, hbg, hg, hnc, hcm, hcs, htake⟩
    · refine ⟨.slice none 0 0, w, ?_, h, World.grownBy.refl _ _⟩
      have hs := Src.ofNil (P := Tryd.prog) (size := i0.size) w Tryd.underlying35 0
      simp [Builtin.append_, run_underlying Tryd.underlying35, sizeOf, typeInfo, hi, hs.len, hs.cells, List.length_nil]
    · refine ⟨_, w, ?_, h, World.grownBy.refl _ _⟩
      have hs := Src.ofNil (P := Tryd.prog) (size := i0.size) w Tryd.underlying35 0
      exact run_append_room_src (P := Tryd.prog) w 35 35 ty 5 i0 Tryd.underlying35 hi g 0 l.length cap _ 0 [] hs (by omega) (fun j hj => by simp at hj) (fun j hj => by simp at hj)

theorem wpList_append_sl {ops : Array Oper} {rest : List Oper} {o : Oper} {a : Act} {Q : Exit → Act → World → Prop} (w : World) (hgd : o.guard = none) (s x : Operand)
    (ho : o.op = .call { callee := .builtin .append, args := #[s, x], argTypes := #[35, 35] })
    (B : Nat) (hB : B ≤ w.heap.size) (v : Value) (l : List UInt8) (hv : a.eval s = v) (h : Own B w v l) (xv : Value) (news : List UInt8) (hxv : a.eval x = xv) (hx : Sl w xv news)
    (hlen : l.length + news.length ≤ 70368744177664)
    (hK : ∀ v' w', Own B w' v' (l ++ news) → w.grownBy w' v.ownBlock → wpList Tryd.prog ops Q rest (a.put o.dst v') w') : wpList Tryd.prog ops Q (o :: rest) a w := by
  refine wpList_plain hgd fun K hK' => ?_
  obtain ⟨v', w', hr, h2, h3⟩ := run_append_sl w B hB v xv l news h hx hlen o.type
  unfold Oper.wp execOp
  simp only [ho, resolve, invoke, builtin, Sem.run_bind, Sem.run_pure, Result.andThen_ok, List.map_toArray, List.map_cons, List.map_nil, hv, hxv, hr]
  exact hK' _ _ (hK v' w' h2 h3)

section
variable {H : Type} {enc : TypeId × Value → H} {w : World} {base : Nat} {spare : Nat → Bool} {held : Bool}

/-- A slice of bytes that came in. -/
theorem view_bytes {fuel : Nat} {a : Option Addr} {len cap : Nat} {x : DataW H × List MemPlace} (h : DataW.trod enc Tryd.prog w base spare held fuel 35 (Value.cells (.slice a len cap)).toList = some x) : ∃ l, Sl w (.slice a len cap) l := by
  rcases ChangeShapes.open_ints Tryd.underlying35 Tryd.underlying5 (by kernel_rfl) h with ⟨hcs, _⟩ | ⟨a', len', cap', zs, hcs, _, hl, hm, hz, _, hcell, hwz⟩
  · simp [Value.cells] at hcs
    obtain ⟨rfl, rfl, rfl⟩ := hcs
    exact ⟨[], Sl.nil w⟩
  · simp [Value.cells] at hcs
    obtain ⟨rfl, rfl, rfl⟩ := hcs
    have hlz : len ≤ zs.length := by rw [hz]; split <;> omega
    have hlen : ((zs.take len).map fun z => UInt8.ofNat z.toNat).length = len := by simp; omega
    refine ⟨(zs.take len).map fun z => UInt8.ofNat z.toNat, some a', cap, by rw [hlen], by rw [hlen]; exact hl, hm, fun e => (by cases e), fun a ha j u hu => ?_⟩
    cases ha
    rw [bc_get, List.getElem?_map] at hu
    have hj : j < len := by
      rcases Nat.lt_or_ge j len with h | h
      · exact h
      · rw [List.getElem?_take, if_neg (by omega)] at hu; cases hu
    rw [List.getElem?_take, if_pos hj, List.getElem?_eq_getElem (by omega)] at hu
    simp only [Option.map_some, Option.some.injEq] at hu
    rw [hcell j (by omega), ← hu, List.getD_eq_getElem?_getD, List.getElem?_eq_getElem (by omega)]
    have hb := bounds_u8 (hwz zs[j] (List.getElem_mem _))
    simp only [Option.getD_some]
    congr 2
    rw [UInt8.toNat_ofNat']
    omega

end

end Go.Proofs.YtjeefpibhkngiaaDoor
