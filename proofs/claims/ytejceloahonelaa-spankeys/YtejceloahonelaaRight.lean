/-
  Contracts of Right: the program's and the document's. No law is proved here.
-/
import Derived.Test.YtejceloahonelaaKey
namespace Go.Proofs.Ytejceloahonelaa
open Go.RowKit
set_option linter.unusedVariables false

/-- Is one text less than another one? -/
def ltB (x y : ByteArray) : Bool := Op.bytesLess x.toList y.toList
/-- Are two texts one? -/
def eqB (x y : ByteArray) : Bool := x.toList == y.toList
def emp : ByteArray := ⟨#[]⟩
def brace : ByteArray := ⟨#[123]⟩
/-- Is a span right? -/
def rightB (f t : ByteArray) : Bool := keyB f && (eqB t emp || (eqB t brace || keyB t) && !(ltB t f || eqB t f))

/-- A span lies in block B, and may be written. -/
structure Sp (w : World) (B : Nat) (f t : ByteArray) : Prop where
  c0 : w.cell? ⟨B, 0, none⟩ = some (.string f)
  c1 : w.cell? ⟨B, 1, none⟩ = some (.string t)
  f0 : w.frozen? ⟨B, 0, none⟩ = false
  f1 : w.frozen? ⟨B, 1, none⟩ = false

theorem Sp.lt {w : World} {B : Nat} {f t : ByteArray} (h : Sp w B f t) : B < w.heap.size := World.block_lt_of_cell? w _ h.c0
theorem Sp.below {w w' : World} {B C : Nat} {f t : ByteArray} (h : Sp w B f t) (hb : Below C w w') (hC : B < C) : Sp w' B f t :=
  ⟨(hb.cell hC).trans h.c0, (hb.cell hC).trans h.c1, (hb.frozen hC).trans h.f0, (hb.frozen hC).trans h.f1⟩
theorem Sp.later {w w' : World} {B : Nat} {f t : ByteArray} (h : Sp w B f t) (hb : Below w.heap.size w w') : Sp w' B f t := h.below hb h.lt
theorem Sp.alloc {w : World} {B : Nat} {f t : ByteArray} (h : Sp w B f t) (o : Obj) : Sp (w.alloc o) B f t := h.later ((Below.refl _ _).alloc (Nat.le_refl _) o)
theorem Sp.new (w : World) (f t : ByteArray) (T : TypeId) : Sp (w.alloc (.cells #[.string f, .string t] T)) w.heap.size f t := ⟨by simp, by simp, by simp, by simp⟩
theorem Sp.other {w : World} {B : Nat} {f t : ByteArray} (h : Sp w B f t) {q : Addr} (hq : q.block ≠ B) (v : Value) : Sp (w.setCell q v) B f t := by
  have n : ∀ k, q ≠ ⟨B, k, none⟩ := fun k e => hq (by rw [e])
  exact ⟨(World.cell?_setCell_other w _ _ _ (n 0)).trans h.c0, (World.cell?_setCell_other w _ _ _ (n 1)).trans h.c1, by simpa using h.f0, by simpa using h.f1⟩
theorem Sp.put {w : World} {B : Nat} {f t : ByteArray} (h : Sp w B f t) (f' t' : ByteArray) : Sp ((w.setCell ⟨B, 0, none⟩ (.string f')).setCell ⟨B, 1, none⟩ (.string t')) B f' t' := by
  refine ⟨?_, ?_, by simpa using h.f0, by simpa using h.f1⟩
  · rw [World.cell?_setCell_other _ _ _ _ (by simp)]; exact World.cell?_setCell_same w _ _ h.c0
  · exact World.cell?_setCell_same _ _ _ ((World.cell?_setCell_other w _ _ _ (by simp)).trans h.c1)

theorem below_alloc {w w' : World} (o : Obj) (h : Below (w.alloc o).heap.size (w.alloc o) w') : Below w.heap.size w w' :=
  ((Below.refl _ w).alloc (Nat.le_refl _) o).trans (h.mono (by simp))

theorem emp_toList : emp.toList = [] := ByteArray.toList_mk []
theorem brace_toList : brace.toList = [123] := ByteArray.toList_mk [123]

section
set_option maxRecDepth 100000
set_option maxHeartbeats 1000000

theorem right_any (f t : ByteArray) (w : World) : Calls Try.prog 15 #[.agg #[.string f, .string t]] w fun e w' => e = .returned (.bool (rightB f t)) ∧ Below w.heap.size w w' := by
  have hB : ∀ o, Hid (Below w.heap.size w (w.alloc o)) := fun o => (Below.refl _ _).alloc (Nat.le_refl _) o
  have Hr : Hid (rightB f t = (keyB f && (eqB t emp || (eqB t brace || keyB t) && !(ltB t f || eqB t f)))) := Eq.refl (rightB f t)
  have e0' : (t.toList == []) = eqB t emp := by unfold eqB; rw [emp_toList]
  have e1' : (t.toList == [123]) = eqB t brace := by unfold eqB; rw [brace_toList]
  have e2' : Op.bytesLess t.toList f.toList = ltB t f := rfl
  have e3' : (t.toList == f.toList) = eqB t f := rfl
  generalize rightB f t = r at Hr ⊢
  generalize eqB t emp = e0 at *
  generalize eqB t brace = e1 at *
  generalize ltB t f = e2 at *
  generalize eqB t f = e3 at *
  cases hkf : keyB f <;> rw [hkf] at Hr
  · go_enter Try.func15, Try.ntmps15
    go_wp2_with (go_at_call 13; refine (key_any _ _).mono ?_; rintro e w' ⟨rfl, rfl⟩)
    go_ret
    rw [unhide Hr]
    exact ⟨rfl, unhide (hB _)⟩
  · cases e0
    · cases e1
      · cases hkt : keyB t <;> rw [hkt] at Hr
        all_goals
          go_enter Try.func15, Try.ntmps15
          go_wp2_with (go_at_call 13; refine (key_any _ _).mono ?_; rintro e w' ⟨rfl, rfl⟩)
          go_ret
          rw [unhide Hr]
          refine ⟨?_, unhide (hB _)⟩
          cases e2 <;> cases e3 <;> rfl
      · go_enter Try.func15, Try.ntmps15
        go_wp2_with (go_at_call 13; refine (key_any _ _).mono ?_; rintro e w' ⟨rfl, rfl⟩)
        go_ret
        rw [unhide Hr]
        refine ⟨?_, unhide (hB _)⟩
        cases e2 <;> cases e3 <;> rfl
    · go_enter Try.func15, Try.ntmps15
      go_wp2_with (go_at_call 13; refine (key_any _ _).mono ?_; rintro e w' ⟨rfl, rfl⟩)
      go_ret
      rw [unhide Hr]
      exact ⟨rfl, unhide (hB _)⟩

end

end Go.Proofs.Ytejceloahonelaa
