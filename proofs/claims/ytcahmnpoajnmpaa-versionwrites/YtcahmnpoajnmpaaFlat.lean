/-
  How a struct's cells are read: a struct of plain fields, field by field; a slice of such structs, element by element. Of no program.
-/
import Derived.ProofKit
import Derived.OpenShut
import Derived.Deep.Slices
namespace Go.Proofs.Ytcahmnpoajnmpaa
open Go.RowKit Go.ChangeShapes Go.WideShapes

/-- The types of a struct's fields, one cell each, structs within it written out. -/
def flatFs (P : Program) (fl : TypeId → Option (List TypeId)) : Nat → List Field → Option (List TypeId)
  | _, [] => some []
  | off, f :: r =>
    match fl f.type with
    | some l => if f.offset = off ∧ P.cellsOf f.type = l.length then (flatFs P fl (off + l.length) r).map (l ++ ·) else none
    | none => none

def flat (P : Program) : Nat → TypeId → Option (List TypeId)
  | 0, _ => none
  | n + 1, t =>
    match P.underlying t with
    | some (.struct fs) => match flatFs P (flat P n) 0 fs.toList with
      | some ts => if P.cellsOf t = ts.length then some ts else none
      | none => none
    | _ => if P.cellsOf t = 1 then some [t] else none

theorem flat_len (P : Program) : ∀ (n : Nat) (t : TypeId) (ts : List TypeId), flat P n t = some ts → P.cellsOf t = ts.length
  | 0, _, _, h => by simp [flat] at h
  | n + 1, t, ts, h => by
    unfold flat at h
    split at h
    · split at h
      · split at h
        · simp only [Option.some.injEq] at h
          subst h
          assumption
        · cases h
      · cases h
    · split at h
      · simp only [Option.some.injEq] at h
        subst h
        assumption
      · cases h

section
variable {H : Type} {enc : TypeId × Value → H} {P : Program} {w : World} {base : Nat} {spare : Nat → Bool} {held : Bool}

/-- Each cell is read by its own type. -/
def Leaves (enc : TypeId × Value → H) (P : Program) (w : World) (base : Nat) (spare : Nat → Bool) (held : Bool) (ts : List TypeId) (cs : List Value) : Prop :=
  cs.length = ts.length ∧ ∀ (i : Nat) (t : TypeId), ts[i]? = some t → ∃ u m y, cs[i]? = some u ∧ DataW.trod enc P w base spare held m t [u] = some y

theorem Leaves.append {ts us : List TypeId} {cs ds : List Value} (h : Leaves enc P w base spare held ts cs) (k : Leaves enc P w base spare held us ds) : Leaves enc P w base spare held (ts ++ us) (cs ++ ds) := by
  refine ⟨by rw [List.length_append, List.length_append, h.1, k.1], fun i t hi => ?_⟩
  by_cases hlt : i < ts.length
  · rw [List.getElem?_append_left hlt] at hi
    obtain ⟨u, m, y, h1, h2⟩ := h.2 i t hi
    exact ⟨u, m, y, by rw [List.getElem?_append_left (by rw [h.1]; exact hlt)]; exact h1, h2⟩
  · rw [List.getElem?_append_right (by omega)] at hi
    obtain ⟨u, m, y, h1, h2⟩ := k.2 _ t hi
    exact ⟨u, m, y, by rw [List.getElem?_append_right (by rw [h.1]; omega), h.1]; exact h1, h2⟩

theorem leaves_fields (fl : TypeId → Option (List TypeId))
    (hfl : ∀ t ts fuel cs x, fl t = some ts → DataW.trod enc P w base spare held fuel t cs = some x → cs.length = ts.length → Leaves enc P w base spare held ts cs) (n : Nat) (cs : List Value) :
    ∀ (fs : List Field) (off : Nat) (ts : List TypeId), flatFs P fl off fs = some ts → off + ts.length ≤ cs.length → (∀ f ∈ fs, ∃ x, DataW.trod enc P w base spare held n f.type ((cs.drop f.offset).take (P.cellsOf f.type)) = some x) →
      Leaves enc P w base spare held ts ((cs.drop off).take ts.length)
  | [], off, ts, h, _, _ => by
    simp [flatFs] at h
    subst h
    exact ⟨by simp, fun i t hi => by simp at hi⟩
  | f :: r, off, ts, h, hle, hx => by
    unfold flatFs at h
    cases hl : fl f.type with
    | none => rw [hl] at h; cases h
    | some l =>
      rw [hl] at h
      simp only at h
      split at h
      · rename_i hc
        obtain ⟨ho, hcl⟩ := hc
        cases hr : flatFs P fl (off + l.length) r with
        | none => rw [hr] at h; cases h
        | some us =>
          rw [hr] at h
          simp only [Option.map_some, Option.some.injEq] at h
          subst h
          rw [List.length_append] at hle
          obtain ⟨x, hx0⟩ := hx f (by simp)
          rw [ho, hcl] at hx0
          have h1 := hfl f.type l n _ x hl hx0 (by rw [List.length_take, List.length_drop]; omega)
          have h2 := leaves_fields fl hfl n cs r (off + l.length) us hr (by omega) (fun g hg => hx g (by simp [hg]))
          have e : (cs.drop off).take (l ++ us).length = (cs.drop off).take l.length ++ (cs.drop (off + l.length)).take us.length := by
            rw [List.length_append, List.take_add, List.drop_drop]
          rw [e]
          exact h1.append h2
      · cases h

theorem leaves_of : ∀ (n : Nat) (t : TypeId) (ts : List TypeId) (fuel : Nat) (cs : List Value) (x : DataW H × List MemPlace), flat P n t = some ts → DataW.trod enc P w base spare held fuel t cs = some x → cs.length = ts.length →
    Leaves enc P w base spare held ts cs
  | 0, _, _, _, _, _, h, _, _ => by simp [flat] at h
  | n + 1, t, ts, fuel, cs, x, h, hx, hlen => by
    unfold flat at h
    split at h
    · rename_i fs hu
      cases hf : flatFs P (flat P n) 0 fs.toList with
      | none => rw [hf] at h; cases h
      | some us =>
        rw [hf] at h
        simp only at h
        split at h
        · simp only [Option.some.injEq] at h
          subst h
          obtain ⟨xs, m, _, _, _, hxl, hfs⟩ := DataW.trod_struct hu hx
          have := leaves_fields (enc := enc) (w := w) (base := base) (spare := spare) (held := held) (flat P n) (fun t ts fuel cs x h1 h2 h3 => leaves_of n t ts fuel cs x h1 h2 h3) m cs fs.toList 0 us hf (by omega) (fun f hf' => by
            obtain ⟨i, hi, he⟩ := List.getElem_of_mem hf'
            have hi' : i < fs.size := by simpa using hi
            have e : fs[i]? = some f := by rw [Array.getElem?_eq_getElem hi']; rw [← he]; simp
            have hg := hfs i f e
            rw [List.getElem?_eq_getElem (by rw [hxl]; exact hi')] at hg
            exact ⟨_, hg⟩)
          rw [List.drop_zero, List.take_of_length_le (by omega)] at this
          exact this
        · cases h
    · split at h
      · simp only [Option.some.injEq] at h
        subst h
        match cs, hlen with
        | [c], _ =>
          refine ⟨rfl, fun i t' hi => ?_⟩
          match i, hi with
          | 0, hi =>
            simp at hi
            subst hi
            exact ⟨c, fuel, x, rfl, hx⟩
          | i + 1, hi => simp at hi
      · cases h

/-- A slice of structs of plain fields, element by element. -/
theorem rows_of {t e : TypeId} {n fuel : Nat} {ts : List TypeId} {v : Value} {x : DataW H × List MemPlace} (ht : P.underlying t = some (.slice e)) (hf : flat P n e = some ts) (h : DataW.trod enc P w base spare held fuel t [v] = some x) :
    v = .slice none 0 0 ∨ ∃ (a : Addr) (len cap : Nat), v = .slice (some a) len cap ∧ len ≤ cap ∧ cap ≤ maxLen ∧
      ∀ i, i < len → ∃ cs, Leaves enc P w base spare held ts cs ∧ ∀ j, j < ts.length → w.cell? (a.add (i * ts.length + j)) = cs[j]? := by
  have hl := flat_len P n e ts hf
  rcases Deep.open_slice ht h with ⟨h0, _⟩ | ⟨a, len, cap, m, n', D, Pl, hcs, _, h1, h2, hm, _, hel⟩
  · left; simpa using h0
  · right
    refine ⟨a, len, cap, by simpa using hcs, h1, h2, fun i hi => ?_⟩
    have hmi : i < m := by rw [hm]; split <;> omega
    obtain ⟨cs, hc, ht'⟩ := hel i hmi
    obtain ⟨_, hlen, hcell⟩ := World.cells?_some hc
    rw [hl] at hlen hcell
    refine ⟨cs, leaves_of n e ts n' cs _ hf ht' hlen, fun j hj => ?_⟩
    have := hcell j hj
    rwa [Deep.add_add] at this

end

end Go.Proofs.Ytcahmnpoajnmpaa
