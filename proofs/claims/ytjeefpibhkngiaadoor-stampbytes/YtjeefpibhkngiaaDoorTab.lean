/-
  strconv.Itoa over this program, and the table that it reads: what stays while only new memory is laid. No law is proved here.
-/
import Derived.Test.YtjeefpibhkngiaaDoorRows
import Derived.Test.YtjeefpibhkngiaaDoorShelf
import Derived.Test.YtjeefpibhkngiaaDoorBase
namespace Go.Proofs.YtjeefpibhkngiaaDoor
open Go.RowKit Go.Sort
set_option linter.unusedVariables false

/-- The library's table of powers of ten holds what its initialiser lays. -/
def Tab (w : World) : Prop := Lib.TabIs Tryd.prog w (Rows.stampTellsRow.named[0]'(by decide)) .u64 Lib.pow10Tab

theorem Tab.below {w w' : World} (h : Tab w) (hb : Below w.heap.size w w') : Tab w' := by
  unfold Tab Lib.TabIs World.var? at *
  cases hg : Tryd.prog.globalNamed (Rows.stampTellsRow.named[0]'(by decide)) with
  | none => simp [hg] at h
  | some g =>
    simp only [hg, Option.bind_some] at h ⊢
    have hlt : g < w.heap.size := by
      rcases Nat.lt_or_ge g w.heap.size with h' | h'
      · exact h'
      · rw [Array.getElem?_eq_none h'] at h; simp at h
    rw [hb.block g hlt]
    exact h

theorem itoa_any (n : Int) (h0 : -9223372036854775808 ≤ n) (h1 : n ≤ 9223372036854775807) (w : World) (ht : Tab w) :
    Calls Tryd.prog 34 #[.int .i64 n] w fun e w' => e = .returned (.string ⟨(Lib.itoa n).toArray⟩) ∧ Below w.heap.size w w' :=
  (Any.strconv_Itoa Tryd.laysM171 n h0 h1 w ht).mono fun e w' ⟨he, k, os, hw⟩ => ⟨he, by
    subst hw
    exact ⟨rfl, rfl, rfl, by rw [size_grow]; exact Nat.le_add_right _ _, fun i hi => heap_grow_old (w.drewN k) os hi⟩⟩

end Go.Proofs.YtjeefpibhkngiaaDoor
