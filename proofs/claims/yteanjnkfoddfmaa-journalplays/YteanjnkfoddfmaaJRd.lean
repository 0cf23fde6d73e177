/-
  The document's journal and its disk; what lies elsewhere than the journal stays. No law is proved here.
-/
import Derived.Test.YteanjnkfoddfmaaJChange
namespace Go.Proofs.Yteanjnkfoddfmaa
open Go.RowKit
set_option linter.unusedVariables false

/-- No cell of block J is a byte. -/
def NB (w : World) (J : Nat) : Prop := ∀ (j : Nat) (y : Value), w.cell? ⟨J, j, none⟩ = some y → ∀ k, y ≠ .int .u8 k

theorem NB.set {w : World} {J : Nat} (h : NB w J) (i : Nat) {u : Value} (hc : w.cell? ⟨J, i, none⟩ = some u) (x : Value) (hx : ∀ k, x ≠ .int .u8 k) : NB (w.setCell ⟨J, i, none⟩ x) J := by
  intro j y hy
  by_cases hij : i = j
  · subst hij
    rw [World.cell?_setCell_same w _ _ hc] at hy
    injection hy with hy
    subst hy
    exact hx
  · rw [World.cell?_setCell_other w _ _ _ (fun e => hij (by injection e))] at hy
    exact h j y hy

theorem NB.later {w w' : World} {J : Nat} (h : NB w J) (hJ : J < w.heap.size) (hb : Below w.heap.size w w') : NB w' J := fun j y hy => by
  rw [hb.cell (p := ⟨J, j, none⟩) hJ] at hy
  exact h j y hy

theorem Sl.jframe {w w' : World} {J : Nat} {v : Value} {l : List UInt8} (h : Sl w v l) (hJ : NB w J) (hf : Fr (fun k => k = J) w w') : Sl w' v l := by
  obtain ⟨ao, c, rfl, h1, h2, h3, h4⟩ := h
  refine ⟨ao, c, rfl, h1, h2, h3, fun a ha j x hx => ?_⟩
  have hc := h4 a ha j x hx
  have hsp := World.cell?_spot hc
  have hlt := World.block_lt_of_cell? w _ hc
  have hx' : ∃ b : UInt8, x = .int .u8 (b.toNat : Int) := by
    rw [bc_get] at hx
    cases hl : l[j]? with
    | none => rw [hl] at hx; cases hx
    | some b => rw [hl] at hx; cases hx; exact ⟨b, rfl⟩
  obtain ⟨y, rfl⟩ := hx'
  generalize a.add j = q at *
  obtain ⟨b, o, sp⟩ := q
  simp only at hsp hlt
  subst hsp
  have hne : b ≠ J := fun e => by subst e; exact hJ o _ hc _ rfl
  rw [World.cell?_of_block (w := w) (a := ⟨b, o, none⟩) (hf.block b hlt hne)]
  exact hc

/-- The document's journal and its disk, all in blocks of S. -/
def Rjd (S : Nat → Prop) (w : World) (J M : Nat) (nf nc sf sc : List UInt8) (t v o : Nat) (st : St) : Prop :=
  ∃ T P, Rj P w J M t v o st ∧ Rk T w M nf nc sf sc ∧ (∀ k, k < w.heap.size → T k → S k ∧ k ≠ J ∧ ¬ P k) ∧ S J ∧ ∀ k, P k → S k

section
variable {S : Nat → Prop} {w w' : World} {J M : Nat} {nf nc sf sc : List UInt8} {t v o : Nat} {st : St}

theorem Rjd.frame (h : Rjd S w J M nf nc sf sc t v o st) (hs : w.heap.size ≤ w'.heap.size) (hk : ∀ k, k < w.heap.size → S k → w'.heap[k]? = w.heap[k]?) : Rjd S w' J M nf nc sf sc t v o st := by
  obtain ⟨T, P, h1, h2, h3, h4, h5⟩ := h
  have h2' := h2.mono (U := fun k => T k ∧ k < w.heap.size) (fun k hk ht => ⟨ht, hk⟩)
  refine ⟨fun k => T k ∧ k < w.heap.size, P, h1.frame hs (fun k hlt hx => hk k hlt ?_), h2'.frame hs (fun k hlt hx => hk k hlt (h3 k hlt hx.1).1), fun k hlt hx => h3 k hx.2 hx.1, h4, h5⟩
  rcases hx with hx | rfl
  · exact h5 k hx
  · exact h4
theorem Rjd.later (h : Rjd S w J M nf nc sf sc t v o st) (hb : Below w.heap.size w w') : Rjd S w' J M nf nc sf sc t v o st := h.frame hb.size fun k hk _ => hb.block k hk
theorem Rjd.other (h : Rjd S w J M nf nc sf sc t v o st) {T : Nat → Prop} (hf : Fr T w w') (hn : ∀ k, k < w.heap.size → S k → ¬ T k) : Rjd S w' J M nf nc sf sc t v o st := h.frame hf.size fun k hk hs => hf.block k hk (hn k hk hs)
theorem Rjd.mono (h : Rjd S w J M nf nc sf sc t v o st) {S' : Nat → Prop} (hT : ∀ k, k < w.heap.size → S k → S' k) : Rjd S' w J M nf nc sf sc t v o st := by
  obtain ⟨T, P, h1, h2, h3, h4, h5⟩ := h
  exact ⟨T, P, h1, h2, fun k hk ht => ⟨hT k hk (h3 k hk ht).1, (h3 k hk ht).2⟩, hT J h1.lt h4, fun k hk => hT k (h1.pl k hk) (h5 k hk)⟩
theorem Rjd.rk (h : Rjd S w J M nf nc sf sc t v o st) : Rk S w M nf nc sf sc := by
  obtain ⟨T, P, h1, h2, h3, h4, h5⟩ := h
  exact h2.mono fun k hk ht => (h3 k hk ht).1
theorem Rjd.rj (h : Rjd S w J M nf nc sf sc t v o st) : ∃ P, Rj P w J M t v o st := by
  obtain ⟨T, P, h1, _⟩ := h
  exact ⟨P, h1⟩
theorem Rjd.shrink (h : Rjd S w J M nf nc sf sc t v o st) : Rjd (fun k => S k ∧ k < w.heap.size) w J M nf nc sf sc t v o st := h.mono fun k hk hs => ⟨hs, hk⟩
/-- Ahead of a call: what is there of the journal's, and whatever is new. -/
theorem Rjd.ready (h : Rjd S w J M nf nc sf sc t v o st) (hb : Below w.heap.size w w') : Rjd (fun k => (S k ∧ k < w.heap.size) ∨ w'.heap.size ≤ k) w' J M nf nc sf sc t v o st :=
  (h.shrink.later hb).mono fun k _ hs => .inl hs
end

theorem Rk.now {T : Nat → Prop} {w : World} {M : Nat} {nf nc sf sc : List UInt8} (h : Rk T w M nf nc sf sc) : ∃ v1 v3, w.cell? ⟨M, 1, none⟩ = some v1 ∧ w.cell? ⟨M, 3, none⟩ = some v3 ∧ Sl w v1 nf ∧ Sl w v3 nc ∧ nf.length ≤ 16777216 ∧ nc.length ≤ 16777216 ∧ M < w.heap.size := by
  obtain ⟨v0, v1, v2, v3, hq⟩ := h
  exact ⟨v1, v3, hq.c1, hq.c3, hq.s1, hq.s3, hq.b1, hq.b3, hq.lt⟩

end Go.Proofs.Yteanjnkfoddfmaa
