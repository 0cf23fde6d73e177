/-
  Slices of slices of bytes that came in.
-/
import Derived.Test.YteacolahbnilnaaSame
import Derived.Deep.Slices
namespace Go.Proofs.Yteacolahbnilnaa
open Go.RowKit Go.ChangeShapes Go.WideShapes
set_option linter.unusedVariables false

section
variable {H : Type} {enc : TypeId × Value → H} {w : World} {base : Nat} {spare : Nat → Bool} {held : Bool}

theorem view_one {fuel : Nat} {v : Value} {x : DataW H × List MemPlace} (h : DataW.trod enc Try.prog w base spare held fuel 22 [v] = some x) : ∃ l, Sl w v l := by
  have h' := h
  rcases ChangeShapes.open_ints Try.underlying22 Try.underlying5 (by kernel_rfl) h with ⟨hcs, _⟩ | ⟨a', len', cap', zs, hcs, _⟩
  · simp at hcs
    subst hcs
    exact ⟨[], Sl.nil w⟩
  · simp at hcs
    subst hcs
    exact view_bytes (a := some a') (len := len') (cap := cap') h'

theorem view_bss {fuel : Nat} {a : Option Addr} {len cap : Nat} {x : DataW H × List MemPlace} (h : DataW.trod enc Try.prog w base spare held fuel 27 (Value.cells (.slice a len cap)).toList = some x) : ∃ ls, Bss w (.slice a len cap) ls := by
  rcases Deep.open_slice1 Try.underlying27 (by kernel_rfl) h with ⟨hcs, _⟩ | ⟨a', len', cap', m, n, V, D, Pl, hcs, _, hl, hm, hmm, _, hel⟩
  · simp [Value.cells] at hcs
    obtain ⟨rfl, rfl, rfl⟩ := hcs
    exact ⟨[], none, 0, rfl, Nat.le_refl _, Nat.zero_le _, fun _ => ⟨rfl, rfl⟩, fun a ha => by cases ha⟩
  · simp [Value.cells] at hcs
    obtain ⟨rfl, rfl, rfl⟩ := hcs
    have hlm : len ≤ m := by rw [hmm]; split <;> omega
    obtain ⟨L, hL⟩ := Deep.choose_lt (α := List UInt8) (n := len) (p := fun i l => Sl w (V i) l) (fun i hi => view_one (hel i (by omega)).2)
    refine ⟨(List.range len).map L, some a', cap, by simp, by simpa using hl, hm, fun e => (by cases e), fun a ha j y hy => ?_⟩
    cases ha
    have hj : j < len := by
      have := (List.getElem?_eq_some_iff.1 hy).1
      simpa using this
    refine ⟨V j, (hel j (by omega)).1, ?_⟩
    have e : y = L j := by
      rw [List.getElem?_map, List.getElem?_range hj] at hy
      simpa using hy.symm
    rw [e]
    exact hL j hj

end

end Go.Proofs.Yteacolahbnilnaa
