/-
  A disk as it lies in memory: four slices in a block; which blocks are the disk's own; what stays when others are written. No law is proved here.
-/
import Derived.Test.YtdhjogfalkmggaaBase
namespace Go.Proofs.Ytdhjogfalkmggaa
open Go.RowKit
set_option linter.unusedVariables false

/-- Outside the blocks of S all that was there is as it was. -/
structure Fr (S : Nat → Prop) (w w' : World) : Prop where
  os : w'.os = w.os
  tape : w'.tape = w.tape
  output : w'.output = w.output
  size : w.heap.size ≤ w'.heap.size
  block : ∀ k, k < w.heap.size → ¬ S k → w'.heap[k]? = w.heap[k]?

theorem Fr.refl (S : Nat → Prop) (w : World) : Fr S w w := ⟨rfl, rfl, rfl, Nat.le_refl _, fun _ _ _ => rfl⟩
theorem Fr.of {S : Nat → Prop} {w w' : World} (h : Below w.heap.size w w') : Fr S w w' := ⟨h.os, h.tape, h.output, h.size, fun k hk _ => h.block k hk⟩
theorem Fr.trans {S : Nat → Prop} {w w1 w2 : World} (h : Fr S w w1) (k : Fr S w1 w2) : Fr S w w2 :=
  ⟨k.os.trans h.os, k.tape.trans h.tape, k.output.trans h.output, Nat.le_trans h.size k.size, fun j hj hn => (k.block j (Nat.lt_of_lt_of_le hj h.size) hn).trans (h.block j hj hn)⟩
theorem Fr.below {S : Nat → Prop} {w w' : World} (h : Fr S w w') {B : Nat} (hS : ∀ k, S k → B ≤ k) (hB : B ≤ w.heap.size) : Below B w w' :=
  ⟨h.os, h.tape, h.output, h.size, fun k hk => h.block k (by omega) (fun hs => by have := hS k hs; omega)⟩
theorem Fr.set {S : Nat → Prop} {w w1 : World} (h : Fr S w w1) {p : Addr} (hp : S p.block) (x : Value) : Fr S w (w1.setCell p x) :=
  ⟨h.os, h.tape, h.output, by simpa [World.setCell] using h.size, fun k hk hn => (Below.heap_setCell _ _ _ _ (fun e => hn (by rw [e]; exact hp))).trans (h.block k hk hn)⟩
theorem Fr.grown {S : Nat → Prop} {w w' : World} {row : Option Nat} (h : w.grownBy w' row) (hr : ∀ k, row = some k → S k) : Fr S w w' :=
  ⟨h.os, h.tape, h.output, h.size, fun k hk hn => h.block k hk (fun e => hn (hr k e.symm))⟩
theorem Fr.mono {S T : Nat → Prop} {w w' : World} (h : Fr S w w') (hT : ∀ k, k < w.heap.size → S k → T k) : Fr T w w' := ⟨h.os, h.tape, h.output, h.size, fun k hk hn => h.block k hk (fun hs => hn (hT k hk hs))⟩

/-- The slice lies in a block of S that is there, and not in B. -/
def In (S : Nat → Prop) (w : World) (B : Nat) (v : Value) : Prop := ∀ g, v.ownBlock = some g → S g ∧ g < w.heap.size ∧ g ≠ B

theorem In.nil (S : Nat → Prop) (w : World) (B : Nat) : In S w B (.slice none 0 0) := fun g h => by cases h
theorem In.size {S : Nat → Prop} {w w' : World} {B : Nat} {v : Value} (h : In S w B v) (hs : w.heap.size ≤ w'.heap.size) : In S w' B v := fun g hg => ⟨(h g hg).1, Nat.lt_of_lt_of_le (h g hg).2.1 hs, (h g hg).2.2⟩
theorem In.mono {S T : Nat → Prop} {w : World} {B : Nat} {v : Value} (h : In S w B v) (hT : ∀ k, k < w.heap.size → S k → T k) : In T w B v := fun g hg => ⟨hT g (h g hg).2.1 (h g hg).1, (h g hg).2⟩

/-- Four slices lie in block B, and may be written. -/
structure Q4 (S : Nat → Prop) (w : World) (B : Nat) (v0 v1 v2 v3 : Value) (l0 l1 l2 l3 : List UInt8) : Prop where
  c0 : w.cell? ⟨B, 0, none⟩ = some v0
  c1 : w.cell? ⟨B, 1, none⟩ = some v1
  c2 : w.cell? ⟨B, 2, none⟩ = some v2
  c3 : w.cell? ⟨B, 3, none⟩ = some v3
  f0 : w.frozen? ⟨B, 0, none⟩ = false
  f1 : w.frozen? ⟨B, 1, none⟩ = false
  f2 : w.frozen? ⟨B, 2, none⟩ = false
  f3 : w.frozen? ⟨B, 3, none⟩ = false
  s0 : Sl w v0 l0
  s1 : Sl w v1 l1
  s2 : Sl w v2 l2
  s3 : Sl w v3 l3
  i0 : In S w B v0
  i1 : In S w B v1
  i2 : In S w B v2
  i3 : In S w B v3
  b0 : l0.length ≤ 16777216
  b1 : l1.length ≤ 16777216
  b2 : l2.length ≤ 16777216
  b3 : l3.length ≤ 16777216
  inB : S B

section
variable {S : Nat → Prop} {w : World} {B : Nat} {v0 v1 v2 v3 : Value} {l0 l1 l2 l3 : List UInt8}

theorem Q4.lt (h : Q4 S w B v0 v1 v2 v3 l0 l1 l2 l3) : B < w.heap.size := World.block_lt_of_cell? w _ h.c0

theorem Q4.frame (h : Q4 S w B v0 v1 v2 v3 l0 l1 l2 l3) {w' : World} (hs : w.heap.size ≤ w'.heap.size) (hk : ∀ k, k < w.heap.size → S k → w'.heap[k]? = w.heap[k]?) : Q4 S w' B v0 v1 v2 v3 l0 l1 l2 l3 := by
  have hB : w'.heap[B]? = w.heap[B]? := hk B h.lt h.inB
  have hc : ∀ j, w'.cell? ⟨B, j, none⟩ = w.cell? ⟨B, j, none⟩ := fun j => World.cell?_of_block (w := w) hB
  have hf : ∀ j, w'.frozen? ⟨B, j, none⟩ = w.frozen? ⟨B, j, none⟩ := fun j => World.frozen?_of_block (w := w) hB
  exact ⟨(hc 0).trans h.c0, (hc 1).trans h.c1, (hc 2).trans h.c2, (hc 3).trans h.c3, (hf 0).trans h.f0, (hf 1).trans h.f1, (hf 2).trans h.f2, (hf 3).trans h.f3,
    h.s0.frame fun g hg _ => hk g (h.i0 g hg).2.1 (h.i0 g hg).1, h.s1.frame fun g hg _ => hk g (h.i1 g hg).2.1 (h.i1 g hg).1, h.s2.frame fun g hg _ => hk g (h.i2 g hg).2.1 (h.i2 g hg).1, h.s3.frame fun g hg _ => hk g (h.i3 g hg).2.1 (h.i3 g hg).1,
    h.i0.size hs, h.i1.size hs, h.i2.size hs, h.i3.size hs, h.b0, h.b1, h.b2, h.b3, h.inB⟩

theorem Q4.mono (h : Q4 S w B v0 v1 v2 v3 l0 l1 l2 l3) {T : Nat → Prop} (hT : ∀ k, k < w.heap.size → S k → T k) : Q4 T w B v0 v1 v2 v3 l0 l1 l2 l3 :=
  ⟨h.c0, h.c1, h.c2, h.c3, h.f0, h.f1, h.f2, h.f3, h.s0, h.s1, h.s2, h.s3, h.i0.mono hT, h.i1.mono hT, h.i2.mono hT, h.i3.mono hT, h.b0, h.b1, h.b2, h.b3, hT B h.lt h.inB⟩

theorem sl_set {v : Value} {l : List UInt8} (h : Sl w v l) (hi : In S w B v) (n : Nat) (x : Value) : Sl (w.setCell ⟨B, n, none⟩ x) v l := h.frame fun g hg _ => Below.heap_setCell _ _ _ _ (hi g hg).2.2
theorem in_set {v : Value} (hi : In S w B v) (p : Addr) (x : Value) : In S (w.setCell p x) B v := hi.size (by simp [World.setCell])

theorem Q4.set0 (h : Q4 S w B v0 v1 v2 v3 l0 l1 l2 l3) {v : Value} {l : List UInt8} (hs : Sl w v l) (hi : In S w B v) (hb : l.length ≤ 16777216) : Q4 S (w.setCell ⟨B, 0, none⟩ v) B v v1 v2 v3 l l1 l2 l3 :=
  ⟨World.cell?_setCell_same w _ _ h.c0, (World.cell?_setCell_other w _ _ _ (by simp)).trans h.c1, (World.cell?_setCell_other w _ _ _ (by simp)).trans h.c2, (World.cell?_setCell_other w _ _ _ (by simp)).trans h.c3, by simpa using h.f0, by simpa using h.f1, by simpa using h.f2, by simpa using h.f3,
    sl_set hs hi _ _, sl_set h.s1 h.i1 _ _, sl_set h.s2 h.i2 _ _, sl_set h.s3 h.i3 _ _, in_set hi _ _, in_set h.i1 _ _, in_set h.i2 _ _, in_set h.i3 _ _, hb, h.b1, h.b2, h.b3, h.inB⟩
theorem Q4.set1 (h : Q4 S w B v0 v1 v2 v3 l0 l1 l2 l3) {v : Value} {l : List UInt8} (hs : Sl w v l) (hi : In S w B v) (hb : l.length ≤ 16777216) : Q4 S (w.setCell ⟨B, 1, none⟩ v) B v0 v v2 v3 l0 l l2 l3 :=
  ⟨(World.cell?_setCell_other w _ _ _ (by simp)).trans h.c0, World.cell?_setCell_same w _ _ h.c1, (World.cell?_setCell_other w _ _ _ (by simp)).trans h.c2, (World.cell?_setCell_other w _ _ _ (by simp)).trans h.c3, by simpa using h.f0, by simpa using h.f1, by simpa using h.f2, by simpa using h.f3,
    sl_set h.s0 h.i0 _ _, sl_set hs hi _ _, sl_set h.s2 h.i2 _ _, sl_set h.s3 h.i3 _ _, in_set h.i0 _ _, in_set hi _ _, in_set h.i2 _ _, in_set h.i3 _ _, h.b0, hb, h.b2, h.b3, h.inB⟩
theorem Q4.set2 (h : Q4 S w B v0 v1 v2 v3 l0 l1 l2 l3) {v : Value} {l : List UInt8} (hs : Sl w v l) (hi : In S w B v) (hb : l.length ≤ 16777216) : Q4 S (w.setCell ⟨B, 2, none⟩ v) B v0 v1 v v3 l0 l1 l l3 :=
  ⟨(World.cell?_setCell_other w _ _ _ (by simp)).trans h.c0, (World.cell?_setCell_other w _ _ _ (by simp)).trans h.c1, World.cell?_setCell_same w _ _ h.c2, (World.cell?_setCell_other w _ _ _ (by simp)).trans h.c3, by simpa using h.f0, by simpa using h.f1, by simpa using h.f2, by simpa using h.f3,
    sl_set h.s0 h.i0 _ _, sl_set h.s1 h.i1 _ _, sl_set hs hi _ _, sl_set h.s3 h.i3 _ _, in_set h.i0 _ _, in_set h.i1 _ _, in_set hi _ _, in_set h.i3 _ _, h.b0, h.b1, hb, h.b3, h.inB⟩
theorem Q4.set3 (h : Q4 S w B v0 v1 v2 v3 l0 l1 l2 l3) {v : Value} {l : List UInt8} (hs : Sl w v l) (hi : In S w B v) (hb : l.length ≤ 16777216) : Q4 S (w.setCell ⟨B, 3, none⟩ v) B v0 v1 v2 v l0 l1 l2 l :=
  ⟨(World.cell?_setCell_other w _ _ _ (by simp)).trans h.c0, (World.cell?_setCell_other w _ _ _ (by simp)).trans h.c1, (World.cell?_setCell_other w _ _ _ (by simp)).trans h.c2, World.cell?_setCell_same w _ _ h.c3, by simpa using h.f0, by simpa using h.f1, by simpa using h.f2, by simpa using h.f3,
    sl_set h.s0 h.i0 _ _, sl_set h.s1 h.i1 _ _, sl_set h.s2 h.i2 _ _, sl_set hs hi _ _, in_set h.i0 _ _, in_set h.i1 _ _, in_set h.i2 _ _, in_set hi _ _, h.b0, h.b1, h.b2, hb, h.inB⟩
end

/-- Four slices as one block that is laid anew. -/
theorem Q4.new {S : Nat → Prop} (w : World) (v0 v1 v2 v3 : Value) (l0 l1 l2 l3 : List UInt8) (t : TypeId) (s0 : Sl w v0 l0) (s1 : Sl w v1 l1) (s2 : Sl w v2 l2) (s3 : Sl w v3 l3)
    (i0 : ∀ g, v0.ownBlock = some g → S g ∧ g < w.heap.size) (i1 : ∀ g, v1.ownBlock = some g → S g ∧ g < w.heap.size) (i2 : ∀ g, v2.ownBlock = some g → S g ∧ g < w.heap.size) (i3 : ∀ g, v3.ownBlock = some g → S g ∧ g < w.heap.size)
    (b0 : l0.length ≤ 16777216) (b1 : l1.length ≤ 16777216) (b2 : l2.length ≤ 16777216) (b3 : l3.length ≤ 16777216) (hS : S w.heap.size) :
    Q4 S (w.alloc (.cells #[v0, v1, v2, v3] t)) w.heap.size v0 v1 v2 v3 l0 l1 l2 l3 := by
  have hb : Below w.heap.size w (w.alloc (.cells #[v0, v1, v2, v3] t)) := (Below.refl _ _).alloc (Nat.le_refl _) _
  have hin : ∀ v : Value, (∀ g, v.ownBlock = some g → S g ∧ g < w.heap.size) → In S (w.alloc (.cells #[v0, v1, v2, v3] t)) w.heap.size v := fun v h g hg => ⟨(h g hg).1, by have := (h g hg).2; simp; omega, by have := (h g hg).2; omega⟩
  exact ⟨by simp, by simp, by simp, by simp, by simp, by simp, by simp, by simp, s0.later hb, s1.later hb, s2.later hb, s3.later hb, hin _ i0, hin _ i1, hin _ i2, hin _ i3, b0, b1, b2, b3, hS⟩

/-- Two slices have no block in common. -/
def Far (v u : Value) : Prop := ∀ g, v.ownBlock = some g → u.ownBlock ≠ some g

/-- Where append may write onto v0, it does not write over the others. -/
def Grow (w : World) (v0 v1 v2 v3 : Value) (l0 l2 : List UInt8) : Prop :=
  Tight v0 ∨ (Own 0 w v0 l0 ∧ Far v0 v1 ∧ Far v0 v3 ∧ (Far v0 v2 ∨ ((∃ g n c n' c', v0 = .slice (some ⟨g, 0, none⟩) n c ∧ v2 = .slice (some ⟨g, 0, none⟩) n' c') ∧ l2 <+: l0)))

theorem Grow.frame {w w' : World} {v0 v1 v2 v3 : Value} {l0 l2 : List UInt8} (h : Grow w v0 v1 v2 v3 l0 l2) (hk : ∀ g, v0.ownBlock = some g → g < w.heap.size → w'.heap[g]? = w.heap[g]?) : Grow w' v0 v1 v2 v3 l0 l2 := by
  rcases h with h | ⟨ho, r⟩
  · exact .inl h
  · exact .inr ⟨ho.frame hk, r⟩

/-- A disk in block B: its file and its cell now, its safe file and its safe cell. -/
def Dk (S : Nat → Prop) (w : World) (B : Nat) (nf nc sf sc : List UInt8) : Prop := ∃ v0 v1 v2 v3, Q4 S w B v0 v1 v2 v3 nf nc sf sc ∧ Grow w v0 v1 v2 v3 nf sf

section
variable {S : Nat → Prop} {w w' : World} {B : Nat} {nf nc sf sc : List UInt8}

theorem Dk.lt (h : Dk S w B nf nc sf sc) : B < w.heap.size := by obtain ⟨_, _, _, _, h, _⟩ := h; exact h.lt

theorem Dk.frame (h : Dk S w B nf nc sf sc) (hs : w.heap.size ≤ w'.heap.size) (hk : ∀ k, k < w.heap.size → S k → w'.heap[k]? = w.heap[k]?) : Dk S w' B nf nc sf sc := by
  obtain ⟨v0, v1, v2, v3, h, hg⟩ := h
  exact ⟨v0, v1, v2, v3, h.frame hs hk, hg.frame fun g hg _ => hk g (h.i0 g hg).2.1 (h.i0 g hg).1⟩

theorem Dk.later (h : Dk S w B nf nc sf sc) (hb : Below w.heap.size w w') : Dk S w' B nf nc sf sc := h.frame hb.size fun k hk _ => hb.block k hk

theorem Dk.other (h : Dk S w B nf nc sf sc) {T : Nat → Prop} (hf : Fr T w w') (hn : ∀ k, k < w.heap.size → S k → ¬ T k) : Dk S w' B nf nc sf sc := h.frame hf.size fun k hk hs => hf.block k hk (hn k hk hs)

theorem Dk.mono (h : Dk S w B nf nc sf sc) {T : Nat → Prop} (hT : ∀ k, k < w.heap.size → S k → T k) : Dk T w B nf nc sf sc := by
  obtain ⟨v0, v1, v2, v3, h, hg⟩ := h
  exact ⟨v0, v1, v2, v3, h.mono hT, hg⟩
end

theorem Sl.pre {w w0 : World} {g n c n' c' : Nat} {l s : List UInt8} (h : Sl w (.slice (some ⟨g, 0, none⟩) n c) l) (hp : s <+: l) (k : Sl w0 (.slice (some ⟨g, 0, none⟩) n' c') s) : Sl w (.slice (some ⟨g, 0, none⟩) n' c') s := by
  obtain ⟨ao, d, e, h1, h2, h3, h4⟩ := h
  obtain ⟨bo, d', e', k1, k2, k3, k4⟩ := k
  injection e with e1 e2 e3
  injection e' with e1' e2' e3'
  subst e1 e1' e2' e3'
  refine ⟨_, _, rfl, k1, k2, fun e => (by cases e), fun a ha j u hu => h4 a ha j u ?_⟩
  have hj : j < s.length := by
    have := (List.getElem?_eq_some_iff.1 hu).1
    rwa [bc_length] at this
  obtain ⟨t, rfl⟩ := hp
  rw [bc_get] at hu ⊢
  rw [List.getElem?_append_left hj]
  exact hu

/-- Behind an append onto the file, and the store of what it answers. -/
theorem append_dk {S : Nat → Prop} {w w1 : World} {B : Nat} {v0 v1 v2 v3 v' : Value} {nf nc sf sc news : List UInt8} (h : Q4 S w B v0 v1 v2 v3 nf nc sf sc) (hg : Grow w v0 v1 v2 v3 nf sf) (hS : ∀ k, w.heap.size ≤ k → S k) (hb : (nf ++ news).length ≤ 16777216)
    (hr : Appd w v0 nf news v' w1) :
    w1.cell? ⟨B, 0, none⟩ = some v0 ∧ w1.frozen? ⟨B, 0, none⟩ = false ∧ (∃ ao n c, v' = .slice ao n c) ∧ Dk S (w1.setCell ⟨B, 0, none⟩ v') B (nf ++ news) nc sf sc ∧ Fr S w (w1.setCell ⟨B, 0, none⟩ v') := by
  rcases hr with ⟨rfl, rfl, rfl⟩ | ⟨g, n, c, hc, e0, rfl, ho, ho', hgr⟩ | ⟨ho', hgr⟩
  · rw [List.append_nil]
    refine ⟨h.c0, h.f0, ?_, ⟨v', v1, v2, v3, h.set0 h.s0 h.i0 h.b0, ?_⟩, (Fr.refl _ _).set h.inB _⟩
    · obtain ⟨ao, c, rfl, _⟩ := h.s0; exact ⟨_, _, _, rfl⟩
    · exact hg.frame fun g hg' _ => Below.heap_setCell _ _ _ _ (h.i0 g hg').2.2
  · have hgB := h.i0 g (by rw [e0]; rfl)
    have hB : w1.heap[B]? = w.heap[B]? := hgr.block B h.lt (fun e => by injection e with e; exact hgB.2.2 e.symm)
    have hfar : ∀ {v : Value} {l : List UInt8}, Sl w v l → Far v0 v → Sl w1 v l := fun hs hf => hs.frame fun k hk hlt => hgr.block k hlt (fun e => by injection e with e; subst e; exact hf k (by rw [e0]; rfl) hk)
    rcases hg with ⟨ao, m, ht⟩ | ⟨_, hf1, hf3, hf2⟩
    · rw [ht] at e0
      injection e0 with e1 e2 e3
      omega
    have hs2 : Sl w1 v2 sf := by
      rcases hf2 with hf2 | ⟨⟨g', n1, c1, n2, c2, e1, rfl⟩, hp⟩
      · exact hfar h.s2 hf2
      · rw [e1] at e0
        injection e0 with e2 e3 e4
        injection e2 with e2
        injection e2 with e2
        subst e2
        exact ho'.sl.pre (hp.trans (List.prefix_append _ _)) h.s2
    have hq : Q4 S w1 B v0 v1 v2 v3 nf nc sf sc := by
      refine ⟨(World.cell?_of_block (w := w) hB).trans h.c0, (World.cell?_of_block (w := w) hB).trans h.c1, (World.cell?_of_block (w := w) hB).trans h.c2, (World.cell?_of_block (w := w) hB).trans h.c3, (World.frozen?_of_block (w := w) hB).trans h.f0, (World.frozen?_of_block (w := w) hB).trans h.f1, (World.frozen?_of_block (w := w) hB).trans h.f2, (World.frozen?_of_block (w := w) hB).trans h.f3,
        ?_, hfar h.s1 hf1, hs2, hfar h.s3 hf3, h.i0.size hgr.size, h.i1.size hgr.size, h.i2.size hgr.size, h.i3.size hgr.size, h.b0, h.b1, h.b2, h.b3, h.inB⟩
      have hk0 := h.s0
      rw [e0] at hk0 ⊢
      exact ho'.sl.pre (List.prefix_append _ _) hk0
    have hi' : In S w1 B (.slice (some ⟨g, 0, none⟩) n c) := fun k hk => by
      have : k = g := by simpa [Value.ownBlock] using hk.symm
      subst this
      exact ⟨hgB.1, Nat.lt_of_lt_of_le hgB.2.1 hgr.size, hgB.2.2⟩
    have hsame : ∀ {u : Value}, Far v0 u → Far (.slice (some ⟨g, 0, none⟩) n c) u := fun hf k hk => hf k (by rw [e0]; exact hk)
    refine ⟨hq.c0, hq.f0, ⟨_, _, _, rfl⟩, ⟨_, v1, v2, v3, hq.set0 ho'.sl hi' hb, .inr ⟨ho'.frame fun k hk _ => Below.heap_setCell _ _ _ _ (hi' k hk).2.2, hsame hf1, hsame hf3, ?_⟩⟩, (Fr.grown hgr (fun k hk => by injection hk with hk; subst hk; exact hgB.1)).set h.inB _⟩
    rcases hf2 with hf2 | ⟨⟨g', n1, c1, n2, c2, e1, rfl⟩, hp⟩
    · exact .inl (hsame hf2)
    · rw [e1] at e0
      injection e0 with e2 e3 e4
      injection e2 with e2
      injection e2 with e2
      subst e2
      exact .inr ⟨⟨g', n, c, n2, c2, rfl, rfl⟩, hp.trans (List.prefix_append _ _)⟩
  · have hq : Q4 S w1 B v0 v1 v2 v3 nf nc sf sc := h.frame hgr.size fun k hk _ => hgr.block k hk (by simp)
    have hnew := fun k hk => World.ownsRow.lt ho' k hk
    have hi' : In S w1 B v' := fun k hk => ⟨hS k (hnew k hk).1, (hnew k hk).2, fun e => by have := (hnew k hk).1; have := h.lt; omega⟩
    have hfar : ∀ {u : Value}, In S w B u → Far v' u := fun hu k hk e => by have := (hnew k hk).1; have := (hu k e).2.1; omega
    refine ⟨hq.c0, hq.f0, ?_, ⟨_, v1, v2, v3, hq.set0 ho'.sl hi' hb, .inr ⟨(ho'.mono (Nat.zero_le _)).frame fun k hk _ => Below.heap_setCell _ _ _ _ (hi' k hk).2.2, hfar h.i1, hfar h.i3, .inl (hfar h.i2)⟩⟩, (Fr.grown hgr (fun k hk => by cases hk)).set h.inB _⟩
    obtain ⟨ao, c, rfl⟩ := ho'.val
    exact ⟨_, _, _, rfl⟩

end Go.Proofs.Ytdhjogfalkmggaa
