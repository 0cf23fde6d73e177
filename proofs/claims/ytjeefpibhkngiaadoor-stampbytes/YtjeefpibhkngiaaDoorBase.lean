/-
  Bytes in memory: what it means that a slice value leads to given bytes, and that this stays so while only new memory is laid. No law of the program is proved here; it is a text that the proofs of layer 1 share.
-/
import Derived.WalkKit
import Derived.WalkSpells
import Derived.WalkLawsBesides
import Derived.Lib.AppendStr
import Derived.Laws.BytesArg
namespace Go.Proofs.YtjeefpibhkngiaaDoor
open Go.RowKit
set_option linter.unusedVariables false

theorem hide {p : Prop} (h : p) : Hid p := h
theorem unhide {p : Prop} (h : Hid p) : p := h

/-- Bytes as cells. -/
def bc (l : List UInt8) : List Value := l.map fun b => Value.int .u8 (b.toNat : Int)

theorem bc_length (l : List UInt8) : (bc l).length = l.length := by simp [bc]
theorem bc_append (l m : List UInt8) : bc (l ++ m) = bc l ++ bc m := by simp [bc]
theorem bc_get (l : List UInt8) (j : Nat) : (bc l)[j]? = l[j]?.map fun b => Value.int .u8 (b.toNat : Int) := by simp [bc]
theorem bc_one (l : List UInt8) : ∀ u ∈ bc l, u.oneCell' = true := by
  intro u hu
  simp only [bc, List.mem_map] at hu
  obtain ⟨b, _, rfl⟩ := hu
  rfl
theorem bc_str (s : ByteArray) : Lib.strCells s = bc s.data.toList := rfl

/-- The value v is a slice that leads to the bytes l in the world w. -/
def Sl (w : World) (v : Value) (l : List UInt8) : Prop :=
  ∃ ao c, v = .slice ao l.length c ∧ l.length ≤ c ∧ c ≤ maxLen ∧ (ao = none → l = [] ∧ c = 0) ∧
    ∀ a, ao = some a → ∀ j u, (bc l)[j]? = some u → w.cell? (a.add j) = some u

theorem Sl.nil (w : World) : Sl w (.slice none 0 0) [] := ⟨none, 0, rfl, Nat.le_refl _, Nat.zero_le _, fun _ => ⟨rfl, rfl⟩, fun a h => by cases h⟩

theorem Addr.add_block (a : Addr) (j : Nat) : (a.add j).block = a.block := by unfold Addr.add; split <;> rfl

theorem Sl.below {B : Nat} {w w' : World} {v : Value} {l : List UInt8} (h : Sl w v l) (hb : Below B w w') (hB : w.heap.size ≤ B) : Sl w' v l := by
  obtain ⟨ao, c, rfl, h1, h2, h3, h4⟩ := h
  refine ⟨ao, c, rfl, h1, h2, h3, fun a ha j u hu => ?_⟩
  have hc := h4 a ha j u hu
  rw [hb.cell (p := a.add j) (Nat.lt_of_lt_of_le (World.block_lt_of_cell? w _ hc) hB)]
  exact hc

theorem Sl.setCell {w : World} {v : Value} {l : List UInt8} (h : Sl w v l) {p : Addr} {ao : Option Addr} {n c : Nat} (hp : w.cell? p = some (.slice ao n c)) (x : Value) : Sl (w.setCell p x) v l := by
  obtain ⟨bo, d, rfl, h1, h2, h3, h4⟩ := h
  refine ⟨bo, d, rfl, h1, h2, h3, fun a ha j u hu => ?_⟩
  have hc := h4 a ha j u hu
  rw [World.cell?_setCell_other]
  · exact hc
  · intro e
    rw [e, hc] at hp
    rw [bc_get] at hu
    cases hl : l[j]? with
    | none => rw [hl] at hu; cases hu
    | some b => rw [hl] at hu; cases hu; cases hp

theorem Sl.drop {w : World} {ao : Option Addr} {n c : Nat} {l : List UInt8} (h : Sl w (.slice ao n c) l) (k : Nat) (hk : k ≤ l.length) :
    Sl w (.slice (if c = k then ao else ao.map (·.add (k * 1))) (n - k) (c - k)) (l.drop k) := by
  obtain ⟨bo, d, e, h1, h2, h3, h4⟩ := h
  injection e with e1 e2 e3
  subst e1; subst e2; subst e3
  refine ⟨if c = k then ao else ao.map (·.add (k * 1)), c - k, by rw [List.length_drop], ?_, ?_, ?_, ?_⟩
  · rw [List.length_drop]; omega
  · omega
  · intro e
    have : ao = none := by
      split at e
      · exact e
      · cases ao <;> simp at e ⊢
    obtain ⟨rfl, rfl⟩ := h3 this
    simp
  · intro a ha j u hu
    have hj : j < (l.drop k).length := by
      have := (List.getElem?_eq_some_iff.1 hu).1
      rwa [bc_length] at this
    rw [List.length_drop] at hj
    split at ha
    · omega
    · cases ao with
      | none => cases ha
      | some a0 =>
        simp only [Option.map_some, Option.some.injEq] at ha
        subst ha
        rw [Addr.add_add, Nat.mul_one]
        refine h4 a0 rfl (k + j) u ?_
        rw [bc_get] at hu ⊢
        rw [← hu, List.getElem?_drop]

/-- The cells that a slice leads to, as numbers. -/
theorem Sl.cell {w : World} {b o n c : Nat} {l : List UInt8} (h : Sl w (.slice (some ⟨b, o, none⟩) n c) l) (j : Nat) (hj : j < l.length) : w.cell? ⟨b, o + j, none⟩ = some (.int .u8 (l[j].toNat : Int)) := by
  obtain ⟨bo, d, e, h1, h2, h3, h4⟩ := h
  injection e with e1 e2 e3
  subst e1
  have := h4 _ rfl j (.int .u8 (l[j].toNat : Int)) (by rw [bc_get, List.getElem?_eq_getElem hj]; rfl)
  rwa [Addr.add_lit] at this

/-- Where there is a byte, the address has no spot. -/
theorem Sl.addr {w : World} {ao : Option Addr} {n c : Nat} {l : List UInt8} (h : Sl w (.slice ao n c) l) (hl : 0 < l.length) : ∃ b o, ao = some ⟨b, o, none⟩ := by
  obtain ⟨bo, d, e, h1, h2, h3, h4⟩ := h
  injection e with e1 e2 e3
  subst e1
  cases ao with
  | none => have := (h3 rfl).1; subst this; simp at hl
  | some a =>
    have := h4 a rfl 0 (.int .u8 (l[0].toNat : Int)) (by rw [bc_get, List.getElem?_eq_getElem hl]; rfl)
    rw [Addr.add_zero'] at this
    have hs := World.cell?_spot this
    obtain ⟨b, o, s⟩ := a
    simp at hs
    subst hs
    exact ⟨b, o, rfl⟩

/-- The value v owns the bytes l in a row of its own, at or behind block B. -/
def Own (B : Nat) (w : World) (v : Value) (l : List UInt8) : Prop := w.ownsRow B 5 1 v l.length (bc l)

theorem Own.sl {B : Nat} {w : World} {v : Value} {l : List UInt8} (h : Own B w v l) : Sl w v l := by
  have hc := fun g hg => World.ownsRow.cells h (g := g) hg
  rcases h.2 with ⟨rfl, h0⟩ | ⟨g, cap, cur, rfl, hb, hg, h1, h2, h3, h4⟩
  · have : l = [] := List.eq_nil_of_length_eq_zero h0
    subst this
    exact Sl.nil w
  · refine ⟨_, _, rfl, h1, h2, ?_, ?_⟩
    · intro e; cases e
    · intro a ha j u hu; cases ha; exact hc g rfl j u hu

theorem Own.mono {B B' : Nat} {w : World} {v : Value} {l : List UInt8} (h : Own B w v l) (hB : B' ≤ B) : Own B' w v l := by
  refine ⟨h.1, ?_⟩
  rcases h.2 with h0 | ⟨g, cap, cur, rfl, hb, rest⟩
  · exact .inl h0
  · exact .inr ⟨g, cap, cur, rfl, Nat.le_trans hB hb, rest⟩

end Go.Proofs.YtjeefpibhkngiaaDoor
