/-
  Versions and chains as they lie in memory. No law is proved here.
-/
import Derived.Test.YtcahmnpoajnmpaaRefS
import Derived.Test.YtcahmnpoajnmpaaVLaws
import Derived.Laws.StructEq
namespace Go.Proofs.Ytcahmnpoajnmpaa
open Go.RowKit
set_option linter.unusedVariables false

/-- The block B has these cells, and may be written. -/
structure Blk (w : World) (B : Nat) (cs : List Value) : Prop where
  c : ∀ j, w.cell? ⟨B, j, none⟩ = cs[j]?
  f : ∀ j, w.frozen? ⟨B, j, none⟩ = false
  lt : B < w.heap.size

theorem Blk.below {w w' : World} {B C : Nat} {cs : List Value} (h : Blk w B cs) (hb : Below C w w') (hC : B < C) : Blk w' B cs :=
  ⟨fun j => (hb.cell (p := ⟨B, j, none⟩) hC).trans (h.c j), fun j => (hb.frozen (p := ⟨B, j, none⟩) hC).trans (h.f j), Nat.lt_of_lt_of_le h.lt hb.size⟩
theorem Blk.later {w w' : World} {B : Nat} {cs : List Value} (h : Blk w B cs) (hb : Below w.heap.size w w') : Blk w' B cs := h.below hb h.lt
theorem Blk.alloc {w : World} {B : Nat} {cs : List Value} (h : Blk w B cs) (o : Obj) : Blk (w.alloc o) B cs := h.later ((Below.refl _ _).alloc (Nat.le_refl _) o)
theorem Blk.new (w : World) (cs : Array Value) (t : TypeId) : Blk (w.alloc (.cells cs t)) w.heap.size cs.toList :=
  ⟨fun j => by simp, fun j => by simp, by simp⟩
theorem Blk.other {w : World} {B : Nat} {cs : List Value} (h : Blk w B cs) {q : Addr} (hq : q.block ≠ B) (v : Value) : Blk (w.setCell q v) B cs := by
  have n : ∀ k, q ≠ ⟨B, k, none⟩ := fun k e => hq (by rw [e])
  exact ⟨fun j => (World.cell?_setCell_other w _ _ _ (n j)).trans (h.c j), fun j => by simpa using h.f j, by simpa [World.setCell] using h.lt⟩
theorem Blk.set {w : World} {B : Nat} {cs : List Value} (h : Blk w B cs) (k : Nat) (hk : k < cs.length) (v : Value) : Blk (w.setCell ⟨B, k, none⟩ v) B (cs.set k v) := by
  refine ⟨fun j => ?_, fun j => by simpa using h.f j, by simpa [World.setCell] using h.lt⟩
  by_cases e : j = k
  · subst e
    rw [World.cell?_setCell_same w _ _ ((h.c j).trans (List.getElem?_eq_getElem hk)), List.getElem?_set_self hk]
  · rw [World.cell?_setCell_other w _ _ _ (fun h => e (by injection h with _ h; exact h.symm)), h.c j]
    rw [List.getElem?_set_ne (by omega)]

/-- Cells of block B, one behind the other from k on, written. -/
def setAll (w : World) (B : Nat) : Nat → List Value → World
  | _, [] => w
  | k, c :: r => setAll (w.setCell ⟨B, k, none⟩ c) B (k + 1) r

theorem setAll_size (B : Nat) : ∀ (r : List Value) (w : World) (k : Nat), (setAll w B k r).heap.size = w.heap.size
  | [], w, k => rfl
  | c :: r, w, k => by rw [setAll, setAll_size B r]; simp [World.setCell]

theorem Blk.setAll_at {B : Nat} : ∀ (r : List Value) (w : World) (p q : List Value) (k : Nat), Blk w B (p ++ q) → p.length = k → r.length = q.length → Blk (setAll w B k r) B (p ++ r)
  | [], w, p, q, k, h, hp, hq => by
    have : q = [] := List.eq_nil_of_length_eq_zero (by simpa using hq.symm)
    subst this
    exact h
  | c :: r, w, p, q, k, h, hp, hq => by
    match q, hq with
    | d :: q, hq =>
      have h1 := h.set k (by simp; omega) c
      have e : (p ++ d :: q).set k c = p ++ c :: q := by
        subst hp
        simp
      rw [e] at h1
      have := Blk.setAll_at r (w.setCell ⟨B, k, none⟩ c) (p ++ [c]) q (k + 1) (by simpa using h1) (by simp; omega) (by simpa using hq)
      rw [setAll]
      simpa using this
theorem Blk.all {w : World} {B : Nat} {cs : List Value} (h : Blk w B cs) (r : List Value) (hr : r.length = cs.length) : Blk (setAll w B 0 r) B r :=
  Blk.setAll_at r w [] cs 0 h rfl hr
theorem Blk.others {B C : Nat} (hn : B ≠ C) : ∀ (r : List Value) {w : World} {cs : List Value} (k : Nat), Blk w B cs → Blk (setAll w C k r) B cs
  | [], w, cs, k, h => h
  | c :: r, w, cs, k, h => by rw [setAll]; exact Blk.others hn r (k + 1) (h.other (fun e => hn e.symm) c)
theorem below_setAll {B C : Nat} {w : World} (hB : B ≤ C) : ∀ (r : List Value) {w1 : World} (k : Nat), Below B w w1 → Below B w (setAll w1 C k r)
  | [], w1, k, h => h
  | c :: r, w1, k, h => by rw [setAll]; exact below_setAll hB r (k + 1) (h.setCell (p := ⟨C, k, none⟩) hB c)

/-- A version lies behind an address. -/
structure VAt (w : World) (b o : Nat) (v : Ver) : Prop where
  c0 : w.cell? ⟨b, o, none⟩ = some (.int .i64 v.at_.1)
  c1 : w.cell? ⟨b, o + 1, none⟩ = some (.int .i64 v.at_.2)
  c2 : w.cell? ⟨b, o + 2, none⟩ = some (.string v.val)
  c3 : w.cell? ⟨b, o + 3, none⟩ = some (.bool v.gone)
  c4 : w.cell? ⟨b, o + 4, none⟩ = some (.int .i64 v.by_)

theorem VAt.lt {w : World} {b o : Nat} {v : Ver} (h : VAt w b o v) : b < w.heap.size := World.block_lt_of_cell? w _ h.c0
theorem VAt.block {w w' : World} {b o : Nat} {v : Ver} (h : VAt w b o v) (hk : w'.heap[b]? = w.heap[b]?) : VAt w' b o v :=
  ⟨(World.cell?_of_block (w := w) hk).trans h.c0, (World.cell?_of_block (w := w) hk).trans h.c1, (World.cell?_of_block (w := w) hk).trans h.c2, (World.cell?_of_block (w := w) hk).trans h.c3, (World.cell?_of_block (w := w) hk).trans h.c4⟩

/-- The versions of a slice, as they lie in memory. -/
structure Vs (w : World) (ao : Option Addr) (c : Nat) (vs : List Ver) : Prop where
  le : vs.length ≤ c
  cm : c ≤ maxLen
  nil : ao = none → c = 0
  each : ∀ i (h : i < vs.length), ∃ b o, ao = some ⟨b, o, none⟩ ∧ VAt w b (o + i * 5) vs[i]

theorem Vs.zero (w : World) : Vs w none 0 [] := ⟨Nat.le_refl _, Nat.zero_le _, fun _ => rfl, fun i h => absurd h (Nat.not_lt_zero _)⟩
theorem Vs.kept {w w' : World} {ao : Option Addr} {c : Nat} {vs : List Ver} (h : Vs w ao c vs) (hk : ∀ b o, ao = some ⟨b, o, none⟩ → b < w.heap.size → w'.heap[b]? = w.heap[b]?) : Vs w' ao c vs :=
  ⟨h.le, h.cm, h.nil, fun i hi => by
    obtain ⟨b, o, e, hv⟩ := h.each i hi
    exact ⟨b, o, e, hv.block (hk b o e hv.lt)⟩⟩
theorem Vs.below {w w' : World} {C : Nat} {ao : Option Addr} {c : Nat} {vs : List Ver} (h : Vs w ao c vs) (hb : Below C w w') (hC : w.heap.size ≤ C) : Vs w' ao c vs :=
  h.kept fun b o _ hl => hb.block b (by omega)
theorem Vs.later {w w' : World} {ao : Option Addr} {c : Nat} {vs : List Ver} (h : Vs w ao c vs) (hb : Below w.heap.size w w') : Vs w' ao c vs := h.below hb (Nat.le_refl _)
theorem Vs.alloc {w : World} {ao : Option Addr} {c : Nat} {vs : List Ver} (h : Vs w ao c vs) (o : Obj) : Vs (w.alloc o) ao c vs := h.later ((Below.refl _ _).alloc (Nat.le_refl _) o)
theorem Vs.len {w : World} {ao : Option Addr} {c : Nat} {vs : List Ver} (h : Vs w ao c vs) : vs.length ≤ maxLen := Nat.le_trans h.le h.cm
/-- A slice of a part of it. -/
theorem Vs.take {w : World} {ao : Option Addr} {c : Nat} {vs : List Ver} (h : Vs w ao c vs) (k : Nat) (hk : k ≤ vs.length) : Vs w ao c (vs.take k) :=
  ⟨by rw [List.length_take]; have := h.le; omega, h.cm, h.nil, fun i hi => by
    rw [List.length_take] at hi
    obtain ⟨b, o, e, hv⟩ := h.each i (by omega)
    exact ⟨b, o, e, by rw [List.getElem_take]; exact hv⟩⟩

/-- Drawing changes no memory. -/
theorem bdn {B : Nat} {a w : World} (h : Below B a w) (n : Nat) : Below B a (w.drewN n) := h.trans ⟨rfl, rfl, rfl, Nat.le_refl _, fun _ _ => rfl⟩

theorem less_eq (a b : Stp) : lessB a.1 a.2 b.1 b.2 = ltB a b := by
  rw [Bool.eq_iff_iff, less_iff, ltB_iff]
theorem right_eq (a : Stp) : rightB a.1 a.2 = okS a := by
  unfold okS
  rw [Bool.eq_iff_iff, right_iff]; simp
theorem nxt_eq (a : Stp) : nxt a.1 a.2 = (match nextS a with | some n => (n.1, n.2, 0) | none => (0, 0, 31)) := by
  unfold nxt nextS
  rw [right_eq]
  split
  · split
    · split <;> rfl
    · rfl
  · rfl

end Go.Proofs.Ytcahmnpoajnmpaa
