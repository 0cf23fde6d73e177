/-
  Stamps and intents that came in. No law is proved here.
-/
import Derived.Test.YtcahmnpoajnmpaaViewC
namespace Go.Proofs.Ytcahmnpoajnmpaa
open Go.RowKit Go.ChangeShapes Go.WideShapes
set_option linter.unusedVariables false

/-- A stamp, by value. -/
structure StV (v : Value) (z : Stp) : Prop where
  eq : v = (.agg #[.int .i64 z.1, .int .i64 z.2])
/-- An intent, by value. -/
structure ItV (v : Value) (z : Itn) : Prop where
  eq : v = (.agg #[.int .i64 z.txn.id, .int .i64 z.txn.ep, .string z.txn.anchor, .int .i64 z.txn.start.1, .int .i64 z.txn.start.2, .int .i64 z.seq, .int .i64 z.at_.1, .int .i64 z.at_.2, .string z.val, .bool z.gone])

theorem Try.flatStp : flat Try.prog 6 24 = some [3, 3] := by kernel_rfl
theorem Try.flatItn : flat Try.prog 6 28 = some [3, 3, 9, 3, 3, 3, 3, 3, 9, 4] := by kernel_rfl
theorem Try.cellsStp : Try.prog.cellsOf 24 = 2 := by kernel_rfl
theorem Try.cellsItn : Try.prog.cellsOf 28 = 10 := by kernel_rfl

section
variable {H : Type} {enc : TypeId × Value → H} {w : World} {base : Nat} {spare : Nat → Bool} {held : Bool}

theorem view_st {r : Reach} {b0 : Nat} {v : Value} {d : DataW H} {p : List MemPlace} (hv : Value.okWide Try.prog w r b0 24 v)
    (h : DataW.Trod enc Try.prog w base spare held 24 v d p) : ∃ z, StV v z := by
  obtain ⟨cs, rfl, hsz⟩ := okWide_struct Try.underlying24 hv
  rw [Try.cellsStp] at hsz
  obtain ⟨fuel, hf⟩ := h
  obtain ⟨hl, hc⟩ := leaves_of 6 _ _ fuel _ _ Try.flatStp hf (by simp [Value.cells, hsz])
  obtain ⟨l⟩ := cs
  match l, hsz with
  | [c0, c1], _ =>
    obtain ⟨u0, m0, y0, e0, t0⟩ := hc 0 _ rfl
    obtain ⟨u1, m1, y1, e1, t1⟩ := hc 1 _ rfl
    obtain ⟨a0, rfl⟩ := leaf_int t0
    obtain ⟨a1, rfl⟩ := leaf_int t1
    simp [Value.cells] at e0 e1
    subst e0 e1
    exact ⟨(a0, a1), ⟨rfl⟩⟩

theorem view_it {r : Reach} {b0 : Nat} {v : Value} {d : DataW H} {p : List MemPlace} (hv : Value.okWide Try.prog w r b0 28 v)
    (h : DataW.Trod enc Try.prog w base spare held 28 v d p) : ∃ z, ItV v z := by
  obtain ⟨cs, rfl, hsz⟩ := okWide_struct Try.underlying28 hv
  rw [Try.cellsItn] at hsz
  obtain ⟨fuel, hf⟩ := h
  obtain ⟨hl, hc⟩ := leaves_of 6 _ _ fuel _ _ Try.flatItn hf (by simp [Value.cells, hsz])
  obtain ⟨l⟩ := cs
  match l, hsz with
  | [q2, q3, q4, q5, q6, q7, q8, q9, q10, q11], _ =>
    obtain ⟨u2, m2, y2, e2, t2⟩ := hc 0 _ rfl
    obtain ⟨u3, m3, y3, e3, t3⟩ := hc 1 _ rfl
    obtain ⟨u4, m4, y4, e4, t4⟩ := hc 2 _ rfl
    obtain ⟨u5, m5, y5, e5, t5⟩ := hc 3 _ rfl
    obtain ⟨u6, m6, y6, e6, t6⟩ := hc 4 _ rfl
    obtain ⟨u7, m7, y7, e7, t7⟩ := hc 5 _ rfl
    obtain ⟨u8, m8, y8, e8, t8⟩ := hc 6 _ rfl
    obtain ⟨u9, m9, y9, e9, t9⟩ := hc 7 _ rfl
    obtain ⟨u10, m10, y10, e10, t10⟩ := hc 8 _ rfl
    obtain ⟨u11, m11, y11, e11, t11⟩ := hc 9 _ rfl
    obtain ⟨a2, rfl⟩ := leaf_int t2
    obtain ⟨a3, rfl⟩ := leaf_int t3
    obtain ⟨a4, rfl⟩ := leaf_string t4
    obtain ⟨a5, rfl⟩ := leaf_int t5
    obtain ⟨a6, rfl⟩ := leaf_int t6
    obtain ⟨a7, rfl⟩ := leaf_int t7
    obtain ⟨a8, rfl⟩ := leaf_int t8
    obtain ⟨a9, rfl⟩ := leaf_int t9
    obtain ⟨a10, rfl⟩ := leaf_string t10
    obtain ⟨a11, rfl⟩ := leaf_bool t11
    simp [Value.cells] at e2 e3 e4 e5 e6 e7 e8 e9 e10 e11
    subst e2 e3 e4 e5 e6 e7 e8 e9 e10 e11
    exact ⟨⟨⟨a2, a3, a4, (a5, a6)⟩, a7, (a8, a9), a10, a11⟩, ⟨rfl⟩⟩
end

end Go.Proofs.Ytcahmnpoajnmpaa
