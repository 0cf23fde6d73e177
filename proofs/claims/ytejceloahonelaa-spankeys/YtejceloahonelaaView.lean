/-
  Spans and lists of texts that came in. No law is proved here.
-/
import Derived.Test.YtejceloahonelaaFits
import Derived.ProofKit
import Derived.OpenShut
import Derived.ShutString
import Derived.Deep.Strs
namespace Go.Proofs.Ytejceloahonelaa
open Go.RowKit Go.ChangeShapes Go.WideShapes
set_option linter.unusedVariables false

/-- A span, by value. -/
structure Spn (v : Value) (z : ByteArray × ByteArray) : Prop where
  eq : v = .agg #[.string z.1, .string z.2]
  s0 : z.1.size ≤ maxLen
  s1 : z.2.size ≤ maxLen

theorem Try.cellsSpan : Try.prog.cellsOf 23 = 2 := by kernel_rfl
theorem Try.cellsString : Try.prog.cellsOf 9 = 1 := by kernel_rfl

section
variable {H : Type} {enc : TypeId × Value → H} {w : World} {r : Reach} {b0 base : Nat} {spare : Nat → Bool} {held : Bool} {v : Value} {d : DataW H} {p : List MemPlace}

theorem view_sp (hv : Value.okWide Try.prog w r b0 23 v)
    (h : DataW.Trod enc Try.prog w base spare held 23 v d p) : ∃ z, Spn v z := by
  obtain ⟨cs, rfl, hsz⟩ := okWide_struct Try.underlying23 hv
  rw [Try.cellsSpan] at hsz
  obtain ⟨c0, c1, rfl⟩ : ∃ c0 c1, cs = #[c0, c1] := by
    obtain ⟨l⟩ := cs
    match l, hsz with
    | [c0, c1], _ => exact ⟨c0, c1, rfl⟩
  obtain ⟨fuel, hf⟩ := h
  obtain ⟨y0, y1, n, _, _, h0, h1⟩ := trod_struct2 Try.underlying23 hf
  obtain ⟨s0, e0, _, n0⟩ := DataW.trod_string Try.underlying9 h0
  obtain ⟨s1, e1, _, n1⟩ := DataW.trod_string Try.underlying9 h1
  rw [Try.cellsString] at e0 e1
  simp [Value.cells] at e0 e1
  subst e0 e1
  exact ⟨(s0, s1), rfl, n0, n1⟩

/-- A list of texts that came in. -/
structure StrV (w : World) (v : Value) (l : List ByteArray) : Prop where
  at' : ∃ ao c, v = .slice ao l.length c ∧ StrsAt w ao l
  len : l.length ≤ maxLen
  each : ∀ x ∈ l, x.size ≤ maxLen

theorem view_strs (hv : Value.okWide Try.prog w r b0 32 v)
    (h : DataW.Trod enc Try.prog w base spare held 32 v d p) : ∃ l, StrV w v l := by
  obtain ⟨a, len, cap, rfl⟩ := okWide_slice Try.underlying32 hv
  obtain ⟨fuel, hf⟩ := h
  rcases Deep.open_strs Try.underlying32 Try.underlying9 (by kernel_rfl) hf with ⟨hcs, _⟩ | ⟨a', len', cap', m, Sx, hcs, _, hl, hm, hmm, _, hel⟩
  · simp [Value.cells] at hcs
    obtain ⟨rfl, rfl, rfl⟩ := hcs
    exact ⟨[], ⟨none, 0, rfl, fun h => absurd h (by simp)⟩, Nat.zero_le _, by simp⟩
  · simp [Value.cells] at hcs
    obtain ⟨rfl, rfl, rfl⟩ := hcs
    have hlm : len ≤ m := by rw [hmm]; split <;> omega
    refine ⟨(List.range len).map Sx, ⟨some a', cap, by simp, fun h => ?_⟩, by simp; omega, ?_⟩
    · obtain ⟨b, o, sp⟩ := a'
      have h0 : 0 < len := by simpa using h
      have hsp : sp = none := by
        have := (hel 0 (by omega)).1
        rw [Addr.add_zero'] at this
        simpa using World.cell?_spot this
      subst hsp
      refine ⟨b, o, rfl, fun j hj => ?_⟩
      have hj' : j < len := by simpa using hj
      have := (hel j (by omega)).1
      rw [Addr.add_lit] at this
      rw [this]; simp
    · intro x hx
      rw [List.mem_map] at hx
      obtain ⟨i, hi, rfl⟩ := hx
      exact (hel i (by have := List.mem_range.1 hi; omega)).2

end

end Go.Proofs.Ytejceloahonelaa
