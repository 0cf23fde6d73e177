/-
  An array of two flags that came in. No law is proved here.
-/
import Derived.Test.YteanjnkfoddfmaaJ8
namespace Go.Proofs.Yteanjnkfoddfmaa
open Go.RowKit Go.ChangeShapes Go.WideShapes
set_option linter.unusedVariables false
set_option maxRecDepth 100000

section
variable {H : Type} {enc : TypeId × Value → H} {w : World} {base : Nat} {spare : Nat → Bool} {held : Bool}

theorem arr2 {α : Type} {a : Array α} (h : a.size = 2) : ∃ x y, a = #[x, y] := by
  obtain ⟨l⟩ := a
  match l, h with
  | [x, y], _ => exact ⟨x, y, rfl⟩

theorem Try.cells2 : Try.prog.cellsOf 53 = 2 := by kernel_rfl
theorem Try.cellsBool : Try.prog.cellsOf 4 = 1 := by kernel_rfl

theorem view_bb {r : Reach} {b0 : Nat} {v : Value} {d : DataW H} {ps : List MemPlace} (hv : Value.okWide Try.prog w r b0 53 v) (h : DataW.Trod enc Try.prog w base spare held 53 v d ps) :
    ∃ z : Bool × Bool, v = .agg #[.bool z.1, .bool z.2] := by
  simp only [Value.okWide, Try.underlying53] at hv
  obtain ⟨cs, rfl, hsz, _⟩ := hv
  obtain ⟨c0, c1, rfl⟩ := arr2 (hsz.trans Try.cells2)
  obtain ⟨fuel, hf⟩ := h
  obtain ⟨xs, m, _, _, _, hxl, hx⟩ := DataW.trod_array Try.underlying53 hf
  rw [Try.cellsBool] at hx
  have h0 := hx 0 (by decide)
  have h1 := hx 1 (by decide)
  rw [List.getElem?_eq_getElem (by omega)] at h0 h1
  obtain ⟨n0, e0, _⟩ := DataW.trod_bool Try.underlying4 h0
  obtain ⟨n1, e1, _⟩ := DataW.trod_bool Try.underlying4 h1
  simp [Value.cells] at e0 e1
  subst e0; subst e1
  exact ⟨(n0, n1), rfl⟩

end

end Go.Proofs.Yteanjnkfoddfmaa
