/-
  Spans and pairs of stamps that came in. No law is proved here.
-/
import Derived.Test.YtcdehnghggleoaaViewA9
namespace Go.Proofs.Ytcdehnghggleoaa
open Go.RowKit Go.ChangeShapes Go.WideShapes
set_option linter.unusedVariables false
set_option maxRecDepth 100000

/-- A span, by value. -/
structure SpV9 (v : Value) (z : ByteArray × ByteArray) : Prop where
  eq : v = .agg #[.string z.1, .string z.2]
/-- Two stamps, by value. -/
structure S2V9 (v : Value) (z : Stp × Stp) : Prop where
  eq : v = .agg #[.int .i64 z.1.1, .int .i64 z.1.2, .int .i64 z.2.1, .int .i64 z.2.2]

theorem Try.flatSpan9 : flat9 Try.prog 6 26 = some [9, 9] := by kernel_rfl
theorem Try.cellsSpan9 : Try.prog.cellsOf 26 = 2 := by kernel_rfl
theorem Try.flatS29 : flat9 Try.prog 6 33 = some [3, 3, 3, 3] := by kernel_rfl
theorem Try.cellsS29 : Try.prog.cellsOf 33 = 4 := by kernel_rfl

section
variable {H : Type} {enc : TypeId × Value → H} {w : World} {base : Nat} {spare : Nat → Bool} {held : Bool}

theorem view_sp9 {r : Reach} {b0 : Nat} {v : Value} {d : DataW H} {p : List MemPlace} (hv : Value.okWide Try.prog w r b0 26 v)
    (h : DataW.Trod enc Try.prog w base spare held 26 v d p) : ∃ z, SpV9 v z := by
  obtain ⟨cs, rfl, hsz⟩ := okWide_struct Try.underlying26 hv
  rw [Try.cellsSpan9] at hsz
  obtain ⟨fuel, hf⟩ := h
  obtain ⟨hl, hc⟩ := leaves_of9 6 _ _ fuel _ _ Try.flatSpan9 hf (by simp [Value.cells, hsz])
  obtain ⟨cs⟩ := cs
  match cs, hsz with
  | [c0, c1], _ =>
    obtain ⟨u0, m0, y0, e0, t0⟩ := hc 0 _ rfl
    obtain ⟨u1, m1, y1, e1, t1⟩ := hc 1 _ rfl
    obtain ⟨a0, rfl⟩ := leaf_string t0
    obtain ⟨a1, rfl⟩ := leaf_string t1
    simp [Value.cells] at e0 e1
    subst e0 e1
    exact ⟨(a0, a1), ⟨rfl⟩⟩

theorem view_s29 {r : Reach} {b0 : Nat} {v : Value} {d : DataW H} {p : List MemPlace} (hv : Value.okWide Try.prog w r b0 33 v)
    (h : DataW.Trod enc Try.prog w base spare held 33 v d p) : ∃ z, S2V9 v z := by
  simp only [Value.okWide, Try.underlying33] at hv
  obtain ⟨cs, rfl, hsz, _⟩ := hv
  rw [Try.cellsS29] at hsz
  obtain ⟨fuel, hf⟩ := h
  obtain ⟨hl, hc⟩ := leaves_of9 6 _ _ fuel _ _ Try.flatS29 hf (by simp [Value.cells, hsz])
  obtain ⟨cs⟩ := cs
  match cs, hsz with
  | [c0, c1, c2, c3], _ =>
    obtain ⟨u0, m0, y0, e0, t0⟩ := hc 0 _ rfl
    obtain ⟨u1, m1, y1, e1, t1⟩ := hc 1 _ rfl
    obtain ⟨u2, m2, y2, e2, t2⟩ := hc 2 _ rfl
    obtain ⟨u3, m3, y3, e3, t3⟩ := hc 3 _ rfl
    obtain ⟨a0, rfl⟩ := leaf_int t0
    obtain ⟨a1, rfl⟩ := leaf_int t1
    obtain ⟨a2, rfl⟩ := leaf_int t2
    obtain ⟨a3, rfl⟩ := leaf_int t3
    simp [Value.cells] at e0 e1 e2 e3
    subst e0 e1 e2 e3
    exact ⟨((a0, a1), (a2, a3)), ⟨rfl⟩⟩
end

end Go.Proofs.Ytcdehnghggleoaa
