/-
  Arrays of two stamps and of three numbers that came in. No law is proved here.
-/
import Derived.Test.YtcahmnpoajnmpaaViewI
namespace Go.Proofs.Ytcahmnpoajnmpaa
open Go.RowKit Go.ChangeShapes Go.WideShapes
set_option linter.unusedVariables false

/-- Two stamps, by value. -/
structure S2V (v : Value) (z : Stp × Stp) : Prop where
  eq : v = .agg #[.int .i64 z.1.1, .int .i64 z.1.2, .int .i64 z.2.1, .int .i64 z.2.2]
/-- Three numbers, by value. -/
structure I3V (v : Value) (z : Int × Int × Int) : Prop where
  eq : v = .agg #[.int .i64 z.1, .int .i64 z.2.1, .int .i64 z.2.2]

theorem Try.cells2S : Try.prog.cellsOf 34 = 4 := by kernel_rfl
theorem Try.cells3I : Try.prog.cellsOf 35 = 3 := by kernel_rfl
theorem Try.cellsInt : Try.prog.cellsOf 3 = 1 := by kernel_rfl

section
variable {H : Type} {enc : TypeId × Value → H} {w : World} {base : Nat} {spare : Nat → Bool} {held : Bool}

theorem arr3 {α : Type} {a : Array α} (h : a.size = 3) : ∃ x y z, a = #[x, y, z] := by
  obtain ⟨l⟩ := a
  match l, h with
  | [x, y, z], _ => exact ⟨x, y, z, rfl⟩
theorem arr4 {α : Type} {a : Array α} (h : a.size = 4) : ∃ x y z u, a = #[x, y, z, u] := by
  obtain ⟨l⟩ := a
  match l, h with
  | [x, y, z, u], _ => exact ⟨x, y, z, u, rfl⟩

theorem leaf_int_of {cs : List Value} {m : Nat} {y : DataW H × List MemPlace} (h : DataW.trod enc Try.prog w base spare held m 3 cs = some y) : ∃ k, cs = [.int .i64 k] := by
  obtain ⟨k, e, _⟩ := DataW.trod_int Try.underlying3 h
  exact ⟨k, e⟩

theorem stp_leaves {cs : List Value} {m : Nat} {y : DataW H × List MemPlace} (h : DataW.trod enc Try.prog w base spare held m 24 cs = some y) (hl : cs.length = 2) : ∃ z : Stp, cs = [.int .i64 z.1, .int .i64 z.2] := by
  obtain ⟨hl, hc⟩ := leaves_of 6 _ _ _ _ _ Try.flatStp h hl
  match cs, hl with
  | [c0, c1], _ =>
    obtain ⟨u0, m0, y0, e0, t0⟩ := hc 0 _ rfl
    obtain ⟨u1, m1, y1, e1, t1⟩ := hc 1 _ rfl
    obtain ⟨a0, rfl⟩ := leaf_int t0
    obtain ⟨a1, rfl⟩ := leaf_int t1
    simp at e0 e1
    subst e0 e1
    exact ⟨(a0, a1), rfl⟩

theorem view_i3 {r : Reach} {b0 : Nat} {v : Value} {d : DataW H} {ps : List MemPlace} (hv : Value.okWide Try.prog w r b0 35 v) (h : DataW.Trod enc Try.prog w base spare held 35 v d ps) : ∃ z, I3V v z := by
  simp only [Value.okWide, Try.underlying35] at hv
  obtain ⟨cs, rfl, hsz, _⟩ := hv
  obtain ⟨c0, c1, c2, rfl⟩ := arr3 (hsz.trans Try.cells3I)
  obtain ⟨fuel, hf⟩ := h
  obtain ⟨xs, m, _, _, _, hxl, hx⟩ := DataW.trod_array Try.underlying35 hf
  rw [Try.cellsInt] at hx
  have h0 := hx 0 (by decide)
  have h1 := hx 1 (by decide)
  have h2 := hx 2 (by decide)
  rw [List.getElem?_eq_getElem (by omega)] at h0 h1 h2
  obtain ⟨n0, e0⟩ := leaf_int_of h0
  obtain ⟨n1, e1⟩ := leaf_int_of h1
  obtain ⟨n2, e2⟩ := leaf_int_of h2
  simp [Value.cells] at e0 e1 e2
  subst e0 e1 e2
  exact ⟨(n0, n1, n2), ⟨rfl⟩⟩

theorem view_s2 {r : Reach} {b0 : Nat} {v : Value} {d : DataW H} {ps : List MemPlace} (hv : Value.okWide Try.prog w r b0 34 v) (h : DataW.Trod enc Try.prog w base spare held 34 v d ps) : ∃ z, S2V v z := by
  simp only [Value.okWide, Try.underlying34] at hv
  obtain ⟨cs, rfl, hsz, _⟩ := hv
  obtain ⟨c0, c1, c2, c3, rfl⟩ := arr4 (hsz.trans Try.cells2S)
  obtain ⟨fuel, hf⟩ := h
  obtain ⟨xs, m, _, _, _, hxl, hx⟩ := DataW.trod_array Try.underlying34 hf
  rw [Try.cellsStp] at hx
  have h0 := hx 0 (by decide)
  have h1 := hx 1 (by decide)
  rw [List.getElem?_eq_getElem (by omega)] at h0 h1
  obtain ⟨z0, e0⟩ := stp_leaves h0 (by simp [Value.cells])
  obtain ⟨z1, e1⟩ := stp_leaves h1 (by simp [Value.cells])
  simp [Value.cells] at e0 e1
  obtain ⟨rfl, rfl⟩ := e0
  obtain ⟨rfl, rfl⟩ := e1
  exact ⟨(z0, z1), ⟨rfl⟩⟩
end

end Go.Proofs.Ytcahmnpoajnmpaa
