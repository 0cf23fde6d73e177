/-
  A stamp that came in; the table that the library's Itoa reads, out of the row's condition. No law is proved here.
-/
import Derived.Test.YtjeefpibhkngiaaDoorTab
import Derived.ProofKit
import Derived.OpenShut
import Derived.LaidMore
import Derived.Stop.Joined
import Derived.Stop.LaidErr
namespace Go.Proofs.YtjeefpibhkngiaaDoor
open Go.RowKit Go.ChangeShapes Go.WideShapes
set_option linter.unusedVariables false

/-- A stamp, by value. -/
structure Stm (v : Value) (z : Int × Int) : Prop where
  eq : v = .agg #[.int .i64 z.1, .int .i64 z.2]
  w0 : -9223372036854775808 ≤ z.1
  w1 : z.1 ≤ 9223372036854775807
  l0 : -9223372036854775808 ≤ z.2
  l1 : z.2 ≤ 9223372036854775807

theorem Tryd.cellsStamp : Tryd.prog.cellsOf 23 = 2 := by kernel_rfl
theorem Tryd.cellsInt : Tryd.prog.cellsOf 3 = 1 := by kernel_rfl

theorem view_stp {H : Type} {enc : TypeId × Value → H} {w : World} {r : Reach} {b0 base : Nat} {spare : Nat → Bool} {held : Bool} {v : Value} {d : DataW H} {p : List MemPlace} (hv : Value.okWide Tryd.prog w r b0 23 v)
    (h : DataW.Trod enc Tryd.prog w base spare held 23 v d p) : ∃ z, Stm v z := by
  obtain ⟨cs, rfl, hsz⟩ := okWide_struct Tryd.underlying23 hv
  rw [Tryd.cellsStamp] at hsz
  obtain ⟨c0, c1, rfl⟩ : ∃ c0 c1, cs = #[c0, c1] := by
    obtain ⟨l⟩ := cs
    match l, hsz with
    | [c0, c1], _ => exact ⟨c0, c1, rfl⟩
  obtain ⟨fuel, hf⟩ := h
  obtain ⟨y0, y1, n, _, _, h0, h1⟩ := trod_struct2 Tryd.underlying23 hf
  obtain ⟨s0, e0, _, n0⟩ := DataW.trod_int Tryd.underlying3 h0
  obtain ⟨s1, e1, _, n1⟩ := DataW.trod_int Tryd.underlying3 h1
  rw [Tryd.cellsInt] at e0 e1
  simp [Value.cells] at e0 e1
  subst e0 e1
  exact ⟨(s0, s1), rfl, (bounds_i64 n0).1, (bounds_i64 n0).2, (bounds_i64 n1).1, (bounds_i64 n1).2⟩

theorem powTab : (Rows.laid_internal_strconv_uint64pow10 : DataW Unit) = Lib.tabData .u64 Lib.pow10Tab := by kernel_rfl

theorem tab_of_laid {W : World} (h : laidMetH Tryd.prog Rows.stampTellsRow.laid W) : Tab W := by
  rw [MakeChecks.laidMetH_plain _ _ _ (by kernel_rfl)] at h
  have h2 := h.tail.tail
  rw [powTab] at h2
  exact Lib.tabIs_of_head (g := 0) (n := 20) (by kernel_rfl) (by kernel_rfl) Tryd.underlying78 Tryd.underlying66 (by kernel_rfl) (by kernel_rfl) h2

/-- The door's own heap meets the condition. -/
theorem door_met (os : Os) (args : Array Value) : laidMetH Tryd.prog Rows.stampTellsRow.laid ((World.doorLaid Tryd.prog 24 os).forCall (fun _ _ => 0) ⟨#[], args, []⟩).memory :=
  laidMetH_of_parts3 (fuel := 8) (laidMet_of_run' 8 (by kernel_rfl) (by kernel_rfl)) (by kernel_rfl) (by kernel_rfl)

end Go.Proofs.YtjeefpibhkngiaaDoor
