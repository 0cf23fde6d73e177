/-
  What was put behind is read; acts in a row of the call's own.
-/
import Derived.Test.YtaeipnmmknpoeaaAct
namespace Go.Proofs.Ytaeipnmmknpoeaa
open Go.RowKit
set_option linter.unusedVariables false

theorem rdN_enc (v : Nat) (r : List UInt8) (most : Int) (hv : v ≤ 9223372036854775807) (hm : (v : Int) ≤ most) : rdN (enc v ++ r) most = (v, 0, r) := by
  have e := first_enc v r hv
  have hp := enc_pos v
  rw [rdN_yes (by rw [e]; simp only; omega), e]
  simp

theorem rdF_enc (b : Bool) (r : List UInt8) : rdF (encF b ++ r) = (b, 0, r) := by
  cases b
  · have := rdN_enc 0 r 1 (by decide) (by decide)
    rw [enc_zero] at this
    unfold rdF
    rw [show encF false ++ r = [0] ++ r from rfl, this]
    rfl
  · have := rdN_enc 1 r 1 (by decide) (by decide)
    rw [enc_one] at this
    unfold rdF
    rw [show encF true ++ r = [1] ++ r from rfl, this]
    rfl

theorem rdT_enc (s : ByteArray) (r : List UInt8) (most : Int) (hs : s.size ≤ 9223372036854775807) (hm : (s.size : Int) ≤ most) : rdT (encT s ++ r) most = (s.data.toList, 0, r) := by
  have e := first_enc s.size (s.data.toList ++ r) hs
  rw [← List.append_assoc] at e
  have e' : first (encT s ++ r) = (s.size, (enc s.size).length) := e
  have hp := enc_pos s.size
  have hl : (encT s ++ r).length = (enc s.size).length + s.size + r.length := by unfold encT; rw [List.length_append, List.length_append, str_len]
  have hd : (encT s ++ r).drop (enc s.size).length = s.data.toList ++ r := by unfold encT; rw [List.append_assoc, List.drop_left]
  rw [rdT_yes (by rw [e', hl]; simp only; omega), e']
  simp only
  rw [← List.drop_drop, hd]
  have h1 : (s.data.toList ++ r).take s.size = s.data.toList := by rw [← str_len s]; exact List.take_left
  have h2 : (s.data.toList ++ r).drop s.size = r := by rw [← str_len s]; exact List.drop_left
  rw [h1, h2]

/-- An act's cells. -/
def ActV.cells (a : ActV) : List Value := [.int .i64 a.kind, .int .i64 a.n, .bool a.f, .string a.s]

def actCells (xs : List ActV) : List Value := xs.flatMap ActV.cells

theorem actCells_len (xs : List ActV) : (actCells xs).length = xs.length * 4 := by
  induction xs with
  | nil => rfl
  | cons a r ih =>
    unfold actCells at ih ⊢
    rw [List.flatMap_cons, List.length_append, ih, List.length_cons]
    simp [ActV.cells]
    omega

theorem actCells_get : ∀ (xs : List ActV) (i j : Nat) (h : i < xs.length), j < 4 → (actCells xs)[i * 4 + j]? = xs[i].cells[j]?
  | a :: r, 0, j, _, hj => by
    unfold actCells
    rw [List.flatMap_cons, List.getElem?_append_left (by simp [ActV.cells]; omega)]
    simp
  | a :: r, i + 1, j, h, hj => by
    have ih := actCells_get r i j (by simpa using h) hj
    unfold actCells at ih ⊢
    rw [List.flatMap_cons, List.getElem?_append_right (by simp [ActV.cells]; omega)]
    rw [show (i + 1) * 4 + j - a.cells.length = i * 4 + j by simp [ActV.cells]; omega, ih]
    simp

/-- A row of the call's own that holds acts. -/
def OwnActs (B : Nat) (w : World) (v : Value) (xs : List ActV) : Prop := w.ownsRow B 25 4 v xs.length (actCells xs)

theorem OwnActs.acts {B : Nat} {w : World} {v : Value} {xs : List ActV} (h : OwnActs B w v xs) (hn : ∀ a ∈ xs, a.n ≤ 9223372036854775807 ∧ a.s.size ≤ maxLen) : Acts w v xs := by
  have hc := fun g hg => World.ownsRow.cells h (g := g) hg
  rcases h.2 with ⟨rfl, h0⟩ | ⟨g, cap, cur, rfl, hb, hg, h1, h2, h3, h4⟩
  · have : xs = [] := List.eq_nil_of_length_eq_zero h0
    subst this
    exact ⟨none, 0, rfl, Nat.le_refl _, Nat.zero_le _, fun i hi => (by cases hi)⟩
  · refine ⟨_, _, rfl, h1, h2, fun i hi => ?_⟩
    obtain ⟨h5, h6⟩ := hn xs[i] (List.getElem_mem _)
    have each : ∀ j u, j < 4 → xs[i].cells[j]? = some u → w.cell? ⟨g, 0 + i * 4 + j, none⟩ = some u := fun j u hj hu => by
      have := hc g rfl (i * 4 + j) u (by rw [actCells_get xs i j hi hj]; exact hu)
      rw [Addr.add_lit] at this
      rw [Nat.add_assoc]
      exact this
    exact ⟨h5, h6, g, 0, rfl, each 0 _ (by decide) rfl, each 1 _ (by decide) rfl, each 2 _ (by decide) rfl, each 3 _ (by decide) rfl⟩

theorem Try.infoAct : (Try.prog.info? 25).map (fun i => (i.zero, i.size, i.bytes)) = some (some (.agg #[.int .i64 0, .int .i64 0, .bool false, .string ⟨#[]⟩]), 4, 40) := by kernel_rfl

/-- One act in a block of its own. -/
theorem cell_act (w : World) (a : ActV) : ∀ j u, (actCells [a])[j]? = some u → (w.alloc (.cells #[.int .i64 a.kind, .int .i64 a.n, .bool a.f, .string a.s] 25)).cell? ((⟨w.heap.size, 0, none⟩ : Addr).add j) = some u := by
  intro j u hu
  match j, hu with
  | 0, hu => simp [actCells, ActV.cells] at hu; subst hu; simp [Addr.add]
  | 1, hu => simp [actCells, ActV.cells] at hu; subst hu; simp [Addr.add]
  | 2, hu => simp [actCells, ActV.cells] at hu; subst hu; simp [Addr.add]
  | 3, hu => simp [actCells, ActV.cells] at hu; subst hu; simp [Addr.add]
  | j + 4, hu => simp [actCells, ActV.cells] at hu

theorem actCells_one (a : ActV) : ∀ u ∈ actCells [a], u.oneCell' = true := by
  intro u hu
  simp [actCells, ActV.cells] at hu
  rcases hu with rfl | rfl | rfl | rfl <;> rfl

end Go.Proofs.Ytaeipnmmknpoeaa
