/-
  A disk as it lies in memory: four slices in a block; which blocks are the disk's own; what stays when others are written. No law is proved here.
  What two files have in common, and what a crash leaves of a file: over lists. Of no program.
  Contracts of disk's copied, of bytes.Equal, and of disk's common. No law is proved here.
  Contracts of disk's New, Append, Cut, Set, Sync, File, Cell. No law is proved here.
  A region whose order is open, and whose calls at most lay new memory: one walk in the order of the text serves every order.
  Contracts of disk's Dirty, fileLeft and Crash. No law is proved here.
  The contract of disk's Crash. No law is proved here.
  append onto a row of the call's own; a byte of a row of the call's own written. No law is proved here.
  A region whose order is open, walked by hand: the condition that is held may be made sharper as the walk goes on. Of no program.
-/
import Derived.Test.YteanjnkfoddfmaaL2
import Derived.Laws.CopyOwn
import Derived.BigQuiet
import Derived.WalkKit
import Derived.Deep.RegionHeld
namespace Go.Proofs.Yteanjnkfoddfmaa
open Go.RowKit
set_option linter.unusedVariables false

/-- Outside the blocks of S all that was there is as it was. -/
structure Fr (S : Nat → Prop) (w w' : World) : Prop where
  os : w'.os = w.os
  tape : w'.tape = w.tape
  output : w'.output = w.output
  size : w.heap.size ≤ w'.heap.size
  block : ∀ k, k < w.heap.size → ¬ S k → w'.heap[k]? = w.heap[k]?

theorem Fr.refl (S : Nat → Prop) (w : World) : Fr S w w := ⟨rfl, rfl, rfl, Nat.le_refl _, fun _ _ _ => rfl⟩
theorem Fr.of {S : Nat → Prop} {w w' : World} (h : Below w.heap.size w w') : Fr S w w' := ⟨h.os, h.tape, h.output, h.size, fun k hk _ => h.block k hk⟩
theorem Fr.trans {S : Nat → Prop} {w w1 w2 : World} (h : Fr S w w1) (k : Fr S w1 w2) : Fr S w w2 :=
  ⟨k.os.trans h.os, k.tape.trans h.tape, k.output.trans h.output, Nat.le_trans h.size k.size, fun j hj hn => (k.block j (Nat.lt_of_lt_of_le hj h.size) hn).trans (h.block j hj hn)⟩
theorem Fr.below {S : Nat → Prop} {w w' : World} (h : Fr S w w') {B : Nat} (hS : ∀ k, S k → B ≤ k) (hB : B ≤ w.heap.size) : Below B w w' :=
  ⟨h.os, h.tape, h.output, h.size, fun k hk => h.block k (by omega) (fun hs => by have := hS k hs; omega)⟩
theorem Fr.set {S : Nat → Prop} {w w1 : World} (h : Fr S w w1) {p : Addr} (hp : S p.block) (x : Value) : Fr S w (w1.setCell p x) :=
  ⟨h.os, h.tape, h.output, by simpa [World.setCell] using h.size, fun k hk hn => (Below.heap_setCell _ _ _ _ (fun e => hn (by rw [e]; exact hp))).trans (h.block k hk hn)⟩
theorem Fr.grown {S : Nat → Prop} {w w' : World} {row : Option Nat} (h : w.grownBy w' row) (hr : ∀ k, row = some k → S k) : Fr S w w' :=
  ⟨h.os, h.tape, h.output, h.size, fun k hk hn => h.block k hk (fun e => hn (hr k e.symm))⟩
theorem Fr.mono {S T : Nat → Prop} {w w' : World} (h : Fr S w w') (hT : ∀ k, k < w.heap.size → S k → T k) : Fr T w w' := ⟨h.os, h.tape, h.output, h.size, fun k hk hn => h.block k hk (fun hs => hn (hT k hk hs))⟩

/-- The slice lies in a block of S that is there, and not in B. -/
def In (S : Nat → Prop) (w : World) (B : Nat) (v : Value) : Prop := ∀ g, v.ownBlock = some g → S g ∧ g < w.heap.size ∧ g ≠ B

theorem In.nil (S : Nat → Prop) (w : World) (B : Nat) : In S w B (.slice none 0 0) := fun g h => by cases h
theorem In.size {S : Nat → Prop} {w w' : World} {B : Nat} {v : Value} (h : In S w B v) (hs : w.heap.size ≤ w'.heap.size) : In S w' B v := fun g hg => ⟨(h g hg).1, Nat.lt_of_lt_of_le (h g hg).2.1 hs, (h g hg).2.2⟩
theorem In.mono {S T : Nat → Prop} {w : World} {B : Nat} {v : Value} (h : In S w B v) (hT : ∀ k, k < w.heap.size → S k → T k) : In T w B v := fun g hg => ⟨hT g (h g hg).2.1 (h g hg).1, (h g hg).2⟩

/-- Four slices lie in block B, and may be written. -/
structure Q4 (S : Nat → Prop) (w : World) (B : Nat) (v0 v1 v2 v3 : Value) (l0 l1 l2 l3 : List UInt8) : Prop where
  c0 : w.cell? ⟨B, 0, none⟩ = some v0
  c1 : w.cell? ⟨B, 1, none⟩ = some v1
  c2 : w.cell? ⟨B, 2, none⟩ = some v2
  c3 : w.cell? ⟨B, 3, none⟩ = some v3
  f0 : w.frozen? ⟨B, 0, none⟩ = false
  f1 : w.frozen? ⟨B, 1, none⟩ = false
  f2 : w.frozen? ⟨B, 2, none⟩ = false
  f3 : w.frozen? ⟨B, 3, none⟩ = false
  s0 : Sl w v0 l0
  s1 : Sl w v1 l1
  s2 : Sl w v2 l2
  s3 : Sl w v3 l3
  i0 : In S w B v0
  i1 : In S w B v1
  i2 : In S w B v2
  i3 : In S w B v3
  b0 : l0.length ≤ 16777216
  b1 : l1.length ≤ 16777216
  b2 : l2.length ≤ 16777216
  b3 : l3.length ≤ 16777216
  inB : S B

section
variable {S : Nat → Prop} {w : World} {B : Nat} {v0 v1 v2 v3 : Value} {l0 l1 l2 l3 : List UInt8}

theorem Q4.lt (h : Q4 S w B v0 v1 v2 v3 l0 l1 l2 l3) : B < w.heap.size := World.block_lt_of_cell? w _ h.c0

theorem Q4.frame (h : Q4 S w B v0 v1 v2 v3 l0 l1 l2 l3) {w' : World} (hs : w.heap.size ≤ w'.heap.size) (hk : ∀ k, k < w.heap.size → S k → w'.heap[k]? = w.heap[k]?) : Q4 S w' B v0 v1 v2 v3 l0 l1 l2 l3 := by
  have hB : w'.heap[B]? = w.heap[B]? := hk B h.lt h.inB
  have hc : ∀ j, w'.cell? ⟨B, j, none⟩ = w.cell? ⟨B, j, none⟩ := fun j => World.cell?_of_block (w := w) hB
  have hf : ∀ j, w'.frozen? ⟨B, j, none⟩ = w.frozen? ⟨B, j, none⟩ := fun j => World.frozen?_of_block (w := w) hB
  exact ⟨(hc 0).trans h.c0, (hc 1).trans h.c1, (hc 2).trans h.c2, (hc 3).trans h.c3, (hf 0).trans h.f0, (hf 1).trans h.f1, (hf 2).trans h.f2, (hf 3).trans h.f3,
    h.s0.frame fun g hg _ => hk g (h.i0 g hg).2.1 (h.i0 g hg).1, h.s1.frame fun g hg _ => hk g (h.i1 g hg).2.1 (h.i1 g hg).1, h.s2.frame fun g hg _ => hk g (h.i2 g hg).2.1 (h.i2 g hg).1, h.s3.frame fun g hg _ => hk g (h.i3 g hg).2.1 (h.i3 g hg).1,
    h.i0.size hs, h.i1.size hs, h.i2.size hs, h.i3.size hs, h.b0, h.b1, h.b2, h.b3, h.inB⟩

theorem Q4.mono (h : Q4 S w B v0 v1 v2 v3 l0 l1 l2 l3) {T : Nat → Prop} (hT : ∀ k, k < w.heap.size → S k → T k) : Q4 T w B v0 v1 v2 v3 l0 l1 l2 l3 :=
  ⟨h.c0, h.c1, h.c2, h.c3, h.f0, h.f1, h.f2, h.f3, h.s0, h.s1, h.s2, h.s3, h.i0.mono hT, h.i1.mono hT, h.i2.mono hT, h.i3.mono hT, h.b0, h.b1, h.b2, h.b3, hT B h.lt h.inB⟩

theorem sl_set {v : Value} {l : List UInt8} (h : Sl w v l) (hi : In S w B v) (n : Nat) (x : Value) : Sl (w.setCell ⟨B, n, none⟩ x) v l := h.frame fun g hg _ => Below.heap_setCell _ _ _ _ (hi g hg).2.2
theorem in_set {v : Value} (hi : In S w B v) (p : Addr) (x : Value) : In S (w.setCell p x) B v := hi.size (by simp [World.setCell])

theorem Q4.set0 (h : Q4 S w B v0 v1 v2 v3 l0 l1 l2 l3) {v : Value} {l : List UInt8} (hs : Sl w v l) (hi : In S w B v) (hb : l.length ≤ 16777216) : Q4 S (w.setCell ⟨B, 0, none⟩ v) B v v1 v2 v3 l l1 l2 l3 :=
  ⟨World.cell?_setCell_same w _ _ h.c0, (World.cell?_setCell_other w _ _ _ (by simp)).trans h.c1, (World.cell?_setCell_other w _ _ _ (by simp)).trans h.c2, (World.cell?_setCell_other w _ _ _ (by simp)).trans h.c3, by simpa using h.f0, by simpa using h.f1, by simpa using h.f2, by simpa using h.f3,
    sl_set hs hi _ _, sl_set h.s1 h.i1 _ _, sl_set h.s2 h.i2 _ _, sl_set h.s3 h.i3 _ _, in_set hi _ _, in_set h.i1 _ _, in_set h.i2 _ _, in_set h.i3 _ _, hb, h.b1, h.b2, h.b3, h.inB⟩
theorem Q4.set1 (h : Q4 S w B v0 v1 v2 v3 l0 l1 l2 l3) {v : Value} {l : List UInt8} (hs : Sl w v l) (hi : In S w B v) (hb : l.length ≤ 16777216) : Q4 S (w.setCell ⟨B, 1, none⟩ v) B v0 v v2 v3 l0 l l2 l3 :=
  ⟨(World.cell?_setCell_other w _ _ _ (by simp)).trans h.c0, World.cell?_setCell_same w _ _ h.c1, (World.cell?_setCell_other w _ _ _ (by simp)).trans h.c2, (World.cell?_setCell_other w _ _ _ (by simp)).trans h.c3, by simpa using h.f0, by simpa using h.f1, by simpa using h.f2, by simpa using h.f3,
    sl_set h.s0 h.i0 _ _, sl_set hs hi _ _, sl_set h.s2 h.i2 _ _, sl_set h.s3 h.i3 _ _, in_set h.i0 _ _, in_set hi _ _, in_set h.i2 _ _, in_set h.i3 _ _, h.b0, hb, h.b2, h.b3, h.inB⟩
theorem Q4.set2 (h : Q4 S w B v0 v1 v2 v3 l0 l1 l2 l3) {v : Value} {l : List UInt8} (hs : Sl w v l) (hi : In S w B v) (hb : l.length ≤ 16777216) : Q4 S (w.setCell ⟨B, 2, none⟩ v) B v0 v1 v v3 l0 l1 l l3 :=
  ⟨(World.cell?_setCell_other w _ _ _ (by simp)).trans h.c0, (World.cell?_setCell_other w _ _ _ (by simp)).trans h.c1, World.cell?_setCell_same w _ _ h.c2, (World.cell?_setCell_other w _ _ _ (by simp)).trans h.c3, by simpa using h.f0, by simpa using h.f1, by simpa using h.f2, by simpa using h.f3,
    sl_set h.s0 h.i0 _ _, sl_set h.s1 h.i1 _ _, sl_set hs hi _ _, sl_set h.s3 h.i3 _ _, in_set h.i0 _ _, in_set h.i1 _ _, in_set hi _ _, in_set h.i3 _ _, h.b0, h.b1, hb, h.b3, h.inB⟩
theorem Q4.set3 (h : Q4 S w B v0 v1 v2 v3 l0 l1 l2 l3) {v : Value} {l : List UInt8} (hs : Sl w v l) (hi : In S w B v) (hb : l.length ≤ 16777216) : Q4 S (w.setCell ⟨B, 3, none⟩ v) B v0 v1 v2 v l0 l1 l2 l :=
  ⟨(World.cell?_setCell_other w _ _ _ (by simp)).trans h.c0, (World.cell?_setCell_other w _ _ _ (by simp)).trans h.c1, (World.cell?_setCell_other w _ _ _ (by simp)).trans h.c2, World.cell?_setCell_same w _ _ h.c3, by simpa using h.f0, by simpa using h.f1, by simpa using h.f2, by simpa using h.f3,
    sl_set h.s0 h.i0 _ _, sl_set h.s1 h.i1 _ _, sl_set h.s2 h.i2 _ _, sl_set hs hi _ _, in_set h.i0 _ _, in_set h.i1 _ _, in_set h.i2 _ _, in_set hi _ _, h.b0, h.b1, h.b2, hb, h.inB⟩
end

/-- Four slices as one block that is laid anew. -/
theorem Q4.new {S : Nat → Prop} (w : World) (v0 v1 v2 v3 : Value) (l0 l1 l2 l3 : List UInt8) (t : TypeId) (s0 : Sl w v0 l0) (s1 : Sl w v1 l1) (s2 : Sl w v2 l2) (s3 : Sl w v3 l3)
    (i0 : ∀ g, v0.ownBlock = some g → S g ∧ g < w.heap.size) (i1 : ∀ g, v1.ownBlock = some g → S g ∧ g < w.heap.size) (i2 : ∀ g, v2.ownBlock = some g → S g ∧ g < w.heap.size) (i3 : ∀ g, v3.ownBlock = some g → S g ∧ g < w.heap.size)
    (b0 : l0.length ≤ 16777216) (b1 : l1.length ≤ 16777216) (b2 : l2.length ≤ 16777216) (b3 : l3.length ≤ 16777216) (hS : S w.heap.size) :
    Q4 S (w.alloc (.cells #[v0, v1, v2, v3] t)) w.heap.size v0 v1 v2 v3 l0 l1 l2 l3 := by
  have hb : Below w.heap.size w (w.alloc (.cells #[v0, v1, v2, v3] t)) := (Below.refl _ _).alloc (Nat.le_refl _) _
  have hin : ∀ v : Value, (∀ g, v.ownBlock = some g → S g ∧ g < w.heap.size) → In S (w.alloc (.cells #[v0, v1, v2, v3] t)) w.heap.size v := fun v h g hg => ⟨(h g hg).1, by have := (h g hg).2; simp; omega, by have := (h g hg).2; omega⟩
  exact ⟨by simp, by simp, by simp, by simp, by simp, by simp, by simp, by simp, s0.later hb, s1.later hb, s2.later hb, s3.later hb, hin _ i0, hin _ i1, hin _ i2, hin _ i3, b0, b1, b2, b3, hS⟩

/-- Two slices have no block in common. -/
def Far (v u : Value) : Prop := ∀ g, v.ownBlock = some g → u.ownBlock ≠ some g

/-- Where append may write onto v0, it does not write over the others. -/
def Grow (w : World) (v0 v1 v2 v3 : Value) (l0 l2 : List UInt8) : Prop :=
  Tight v0 ∨ (Own 0 w v0 l0 ∧ Far v0 v1 ∧ Far v0 v3 ∧ (Far v0 v2 ∨ ((∃ g n c n' c', v0 = .slice (some ⟨g, 0, none⟩) n c ∧ v2 = .slice (some ⟨g, 0, none⟩) n' c') ∧ l2 <+: l0)))

theorem Grow.frame {w w' : World} {v0 v1 v2 v3 : Value} {l0 l2 : List UInt8} (h : Grow w v0 v1 v2 v3 l0 l2) (hk : ∀ g, v0.ownBlock = some g → g < w.heap.size → w'.heap[g]? = w.heap[g]?) : Grow w' v0 v1 v2 v3 l0 l2 := by
  rcases h with h | ⟨ho, r⟩
  · exact .inl h
  · exact .inr ⟨ho.frame hk, r⟩

/-- A disk in block B: its file and its cell now, its safe file and its safe cell. -/
def Dk (S : Nat → Prop) (w : World) (B : Nat) (nf nc sf sc : List UInt8) : Prop := ∃ v0 v1 v2 v3, Q4 S w B v0 v1 v2 v3 nf nc sf sc ∧ Grow w v0 v1 v2 v3 nf sf

section
variable {S : Nat → Prop} {w w' : World} {B : Nat} {nf nc sf sc : List UInt8}

theorem Dk.lt (h : Dk S w B nf nc sf sc) : B < w.heap.size := by obtain ⟨_, _, _, _, h, _⟩ := h; exact h.lt

theorem Dk.frame (h : Dk S w B nf nc sf sc) (hs : w.heap.size ≤ w'.heap.size) (hk : ∀ k, k < w.heap.size → S k → w'.heap[k]? = w.heap[k]?) : Dk S w' B nf nc sf sc := by
  obtain ⟨v0, v1, v2, v3, h, hg⟩ := h
  exact ⟨v0, v1, v2, v3, h.frame hs hk, hg.frame fun g hg _ => hk g (h.i0 g hg).2.1 (h.i0 g hg).1⟩

theorem Dk.later (h : Dk S w B nf nc sf sc) (hb : Below w.heap.size w w') : Dk S w' B nf nc sf sc := h.frame hb.size fun k hk _ => hb.block k hk

theorem Dk.other (h : Dk S w B nf nc sf sc) {T : Nat → Prop} (hf : Fr T w w') (hn : ∀ k, k < w.heap.size → S k → ¬ T k) : Dk S w' B nf nc sf sc := h.frame hf.size fun k hk hs => hf.block k hk (hn k hk hs)

theorem Dk.mono (h : Dk S w B nf nc sf sc) {T : Nat → Prop} (hT : ∀ k, k < w.heap.size → S k → T k) : Dk T w B nf nc sf sc := by
  obtain ⟨v0, v1, v2, v3, h, hg⟩ := h
  exact ⟨v0, v1, v2, v3, h.mono hT, hg⟩
end

theorem Sl.pre {w w0 : World} {g n c n' c' : Nat} {l s : List UInt8} (h : Sl w (.slice (some ⟨g, 0, none⟩) n c) l) (hp : s <+: l) (k : Sl w0 (.slice (some ⟨g, 0, none⟩) n' c') s) : Sl w (.slice (some ⟨g, 0, none⟩) n' c') s := by
  obtain ⟨ao, d, e, h1, h2, h3, h4⟩ := h
  obtain ⟨bo, d', e', k1, k2, k3, k4⟩ := k
  injection e with e1 e2 e3
  injection e' with e1' e2' e3'
  subst e1 e1' e2' e3'
  refine ⟨_, _, rfl, k1, k2, fun e => (by cases e), fun a ha j u hu => h4 a ha j u ?_⟩
  have hj : j < s.length := by
    have := (List.getElem?_eq_some_iff.1 hu).1
    rwa [bc_length] at this
  obtain ⟨t, rfl⟩ := hp
  rw [bc_get] at hu ⊢
  rw [List.getElem?_append_left hj]
  exact hu

/-- Behind an append onto the file, and the store of what it answers. -/
theorem append_dk {S : Nat → Prop} {w w1 : World} {B : Nat} {v0 v1 v2 v3 v' : Value} {nf nc sf sc news : List UInt8} (h : Q4 S w B v0 v1 v2 v3 nf nc sf sc) (hg : Grow w v0 v1 v2 v3 nf sf) (hS : ∀ k, w.heap.size ≤ k → S k) (hb : (nf ++ news).length ≤ 16777216)
    (hr : Appd w v0 nf news v' w1) :
    w1.cell? ⟨B, 0, none⟩ = some v0 ∧ w1.frozen? ⟨B, 0, none⟩ = false ∧ (∃ ao n c, v' = .slice ao n c) ∧ Dk S (w1.setCell ⟨B, 0, none⟩ v') B (nf ++ news) nc sf sc ∧ Fr S w (w1.setCell ⟨B, 0, none⟩ v') := by
  rcases hr with ⟨rfl, rfl, rfl⟩ | ⟨g, n, c, hc, e0, rfl, ho, ho', hgr⟩ | ⟨ho', hgr⟩
  · rw [List.append_nil]
    refine ⟨h.c0, h.f0, ?_, ⟨v', v1, v2, v3, h.set0 h.s0 h.i0 h.b0, ?_⟩, (Fr.refl _ _).set h.inB _⟩
    · obtain ⟨ao, c, rfl, _⟩ := h.s0; exact ⟨_, _, _, rfl⟩
    · exact hg.frame fun g hg' _ => Below.heap_setCell _ _ _ _ (h.i0 g hg').2.2
  · have hgB := h.i0 g (by rw [e0]; rfl)
    have hB : w1.heap[B]? = w.heap[B]? := hgr.block B h.lt (fun e => by injection e with e; exact hgB.2.2 e.symm)
    have hfar : ∀ {v : Value} {l : List UInt8}, Sl w v l → Far v0 v → Sl w1 v l := fun hs hf => hs.frame fun k hk hlt => hgr.block k hlt (fun e => by injection e with e; subst e; exact hf k (by rw [e0]; rfl) hk)
    rcases hg with ⟨ao, m, ht⟩ | ⟨_, hf1, hf3, hf2⟩
    · rw [ht] at e0
      injection e0 with e1 e2 e3
      omega
    have hs2 : Sl w1 v2 sf := by
      rcases hf2 with hf2 | ⟨⟨g', n1, c1, n2, c2, e1, rfl⟩, hp⟩
      · exact hfar h.s2 hf2
      · rw [e1] at e0
        injection e0 with e2 e3 e4
        injection e2 with e2
        injection e2 with e2
        subst e2
        exact ho'.sl.pre (hp.trans (List.prefix_append _ _)) h.s2
    have hq : Q4 S w1 B v0 v1 v2 v3 nf nc sf sc := by
      refine ⟨(World.cell?_of_block (w := w) hB).trans h.c0, (World.cell?_of_block (w := w) hB).trans h.c1, (World.cell?_of_block (w := w) hB).trans h.c2, (World.cell?_of_block (w := w) hB).trans h.c3, (World.frozen?_of_block (w := w) hB).trans h.f0, (World.frozen?_of_block (w := w) hB).trans h.f1, (World.frozen?_of_block (w := w) hB).trans h.f2, (World.frozen?_of_block (w := w) hB).trans h.f3,
        ?_, hfar h.s1 hf1, hs2, hfar h.s3 hf3, h.i0.size hgr.size, h.i1.size hgr.size, h.i2.size hgr.size, h.i3.size hgr.size, h.b0, h.b1, h.b2, h.b3, h.inB⟩
      have hk0 := h.s0
      rw [e0] at hk0 ⊢
      exact ho'.sl.pre (List.prefix_append _ _) hk0
    have hi' : In S w1 B (.slice (some ⟨g, 0, none⟩) n c) := fun k hk => by
      have : k = g := by simpa [Value.ownBlock] using hk.symm
      subst this
      exact ⟨hgB.1, Nat.lt_of_lt_of_le hgB.2.1 hgr.size, hgB.2.2⟩
    have hsame : ∀ {u : Value}, Far v0 u → Far (.slice (some ⟨g, 0, none⟩) n c) u := fun hf k hk => hf k (by rw [e0]; exact hk)
    refine ⟨hq.c0, hq.f0, ⟨_, _, _, rfl⟩, ⟨_, v1, v2, v3, hq.set0 ho'.sl hi' hb, .inr ⟨ho'.frame fun k hk _ => Below.heap_setCell _ _ _ _ (hi' k hk).2.2, hsame hf1, hsame hf3, ?_⟩⟩, (Fr.grown hgr (fun k hk => by injection hk with hk; subst hk; exact hgB.1)).set h.inB _⟩
    rcases hf2 with hf2 | ⟨⟨g', n1, c1, n2, c2, e1, rfl⟩, hp⟩
    · exact .inl (hsame hf2)
    · rw [e1] at e0
      injection e0 with e2 e3 e4
      injection e2 with e2
      injection e2 with e2
      subst e2
      exact .inr ⟨⟨g', n, c, n2, c2, rfl, rfl⟩, hp.trans (List.prefix_append _ _)⟩
  · have hq : Q4 S w1 B v0 v1 v2 v3 nf nc sf sc := h.frame hgr.size fun k hk _ => hgr.block k hk (by simp)
    have hnew := fun k hk => World.ownsRow.lt ho' k hk
    have hi' : In S w1 B v' := fun k hk => ⟨hS k (hnew k hk).1, (hnew k hk).2, fun e => by have := (hnew k hk).1; have := h.lt; omega⟩
    have hfar : ∀ {u : Value}, In S w B u → Far v' u := fun hu k hk e => by have := (hnew k hk).1; have := (hu k e).2.1; omega
    refine ⟨hq.c0, hq.f0, ?_, ⟨_, v1, v2, v3, hq.set0 ho'.sl hi' hb, .inr ⟨(ho'.mono (Nat.zero_le _)).frame fun k hk _ => Below.heap_setCell _ _ _ _ (hi' k hk).2.2, hfar h.i1, hfar h.i3, .inl (hfar h.i2)⟩⟩, (Fr.grown hgr (fun k hk => by cases hk)).set h.inB _⟩
    obtain ⟨ao, c, rfl⟩ := ho'.val
    exact ⟨_, _, _, rfl⟩

end Go.Proofs.Yteanjnkfoddfmaa

namespace Go.Proofs.Yteanjnkfoddfmaa

/-- How many first bytes two have in common. -/
def cmn : List UInt8 → List UInt8 → Nat
  | a :: xs, b :: ys => if a = b then cmn xs ys + 1 else 0
  | _, _ => 0

theorem cmn_left : ∀ (a b : List UInt8), cmn a b ≤ a.length
  | [], _ => by simp [cmn]
  | _ :: _, [] => by simp [cmn]
  | a :: xs, b :: ys => by
    unfold cmn
    have := cmn_left xs ys
    split <;> simp <;> omega

theorem cmn_right : ∀ (a b : List UInt8), cmn a b ≤ b.length
  | [], _ => by simp [cmn]
  | _ :: _, [] => by simp [cmn]
  | a :: xs, b :: ys => by
    unfold cmn
    have := cmn_right xs ys
    split <;> simp <;> omega

/-- The first k bytes are alike, and then one of the two ends, or they differ. -/
theorem cmn_eq : ∀ (a b : List UInt8) (k : Nat), (∀ i, i < k → a[i]? = b[i]?) → k ≤ a.length → k ≤ b.length → (k = a.length ∨ k = b.length ∨ a[k]? ≠ b[k]?) → cmn a b = k
  | [], b, k, _, h1, _, _ => by simp at h1; subst h1; simp [cmn]
  | _ :: _, [], k, _, _, h2, _ => by simp at h2; subst h2; simp [cmn]
  | a :: xs, b :: ys, 0, _, _, _, h => by
    unfold cmn
    rcases h with h | h | h
    · simp at h
    · simp at h
    · simp at h; rw [if_neg h]
  | a :: xs, b :: ys, k + 1, hk, h1, h2, h => by
    have h0 := hk 0 (by omega)
    simp at h0
    subst h0
    unfold cmn
    rw [if_pos rfl, cmn_eq xs ys k (fun i hi => by have := hk (i + 1) (by omega); simpa using this) (by simpa using h1) (by simpa using h2) (by simpa using h)]

theorem cmn_take : ∀ (a b : List UInt8), a.take (cmn a b) = b.take (cmn a b)
  | [], b => by simp [cmn]
  | _ :: _, [] => by simp [cmn]
  | a :: xs, b :: ys => by
    unfold cmn
    split
    · rename_i h; subst h; simp [cmn_take xs ys]
    · simp

theorem cmn_pre (a b : List UInt8) : cmn a (a ++ b) = a.length :=
  cmn_eq _ _ _ (fun i hi => by rw [List.getElem?_append_left hi]) (Nat.le_refl _) (by simp) (.inl rfl)

theorem cmn_self (a : List UInt8) : cmn a a = a.length := by
  have := cmn_pre a []
  rwa [List.append_nil] at this

/-- The last byte with its lowest bit turned. -/
def flp (l : List UInt8) : List UInt8 := l.set (l.length - 1) (l.getD (l.length - 1) 0 ^^^ 1)

theorem flp_length (l : List UInt8) : (flp l).length = l.length := by simp [flp]

/-- How many bytes behind those in common are kept. -/
def more (sf nf : List UInt8) (keep : Int) : Nat := min keep.toNat (nf.length - cmn sf nf)

/-- The file that a crash leaves. -/
def left (sf nf : List UInt8) (keep : Int) (torn : Bool) : List UInt8 :=
  if keep < 1 then sf else if torn = true ∧ 0 < more sf nf keep then flp (nf.take (cmn sf nf + more sf nf keep)) else nf.take (cmn sf nf + more sf nf keep)

theorem left_length (sf nf : List UInt8) (keep : Int) (torn : Bool) (n : Nat) (h1 : sf.length ≤ n) (h2 : nf.length ≤ n) : (left sf nf keep torn).length ≤ n := by
  unfold left
  split
  · exact h1
  · split
    · rw [flp_length, List.length_take]; omega
    · rw [List.length_take]; omega

theorem left_self (l : List UInt8) (keep : Int) (torn : Bool) : left l l keep torn = l := by
  unfold left
  have hm : more l l keep = 0 := by unfold more; rw [cmn_self]; omega
  rw [hm, cmn_self]
  simp

/-- The file that a crash leaves of one that was appended to. -/
theorem left_safe (sf r : List UInt8) (keep : Int) (torn : Bool) : ∃ k, k ≤ r.length ∧ ((left sf (sf ++ r) keep torn = sf ++ r.take k ∧ (torn = true → k = 0)) ∨ (torn = true ∧ 0 < k ∧ left sf (sf ++ r) keep torn = flp (sf ++ r.take k))) := by
  unfold left
  by_cases h : keep < 1
  · rw [if_pos h]
    exact ⟨0, Nat.zero_le _, .inl ⟨by simp, fun _ => rfl⟩⟩
  · rw [if_neg h, cmn_pre]
    refine ⟨more sf (sf ++ r) keep, by unfold more; rw [cmn_pre, List.length_append]; omega, ?_⟩
    have e : (sf ++ r).take (sf.length + more sf (sf ++ r) keep) = sf ++ r.take (more sf (sf ++ r) keep) := by
      rw [List.take_append, List.take_of_length_le (by omega)]
      congr 2
      omega
    rw [e]
    by_cases ht : torn = true ∧ 0 < more sf (sf ++ r) keep
    · rw [if_pos ht]
      exact .inr ⟨ht.1, ht.2, rfl⟩
    · rw [if_neg ht]
      exact .inl ⟨rfl, fun h => by have : ¬ 0 < more sf (sf ++ r) keep := fun k => ht ⟨h, k⟩; omega⟩

end Go.Proofs.Yteanjnkfoddfmaa

namespace Go.Proofs.Yteanjnkfoddfmaa
open Go.RowKit
set_option linter.unusedVariables false

section
set_option maxRecDepth 100000

theorem rep_bc (n : Nat) : (madeCells (Value.int .u8 0).cells (n * 1)).toList = List.replicate n (Value.int .u8 0) := by
  rw [Nat.mul_one]
  exact toList_madeCells_one _ _

theorem copied_any (v : Value) (l : List UInt8) (w : World) (hs : Sl w v l) (hl : l.length ≤ 1099511627776) :
    Calls Try.prog 60 #[v] w fun e w' => e = .returned (.slice (some ⟨w.heap.size, 0, none⟩) l.length l.length) ∧ Own w.heap.size w' (.slice (some ⟨w.heap.size, 0, none⟩) l.length l.length) l ∧ Below w.heap.size w w' := by
  obtain ⟨i0, hi, hz0, hz1, hz2⟩ := info_parts Try.infoByte
  have Hs := hide hs
  obtain ⟨ao, c, rfl, h1, h2, h3, h4⟩ := hs
  unfold maxLen at h2
  clear h3 h4
  obtain ⟨w1, hr, ho, hg⟩ := run_make_full (P := Try.prog) w w.heap.size 26 5 i0 (.int .u8 0) 1 Try.underlying26 hi hz0 hz1 .i64 .i64 l.length (by rw [hz2]; omega) (by unfold maxLen; omega) (Nat.le_refl _)
  have hb1 : Below w.heap.size w w1 := ⟨hg.os, hg.tape, hg.output, hg.size, fun k hk => hg.block k hk (by simp)⟩
  have Hs1 := hide ((unhide Hs).later hb1)
  rw [rep_bc] at ho
  obtain ⟨cur, hcur⟩ : ∃ cur : List Value, Hid (w1.heap[w.heap.size]? = some (.cells cur.toArray 5 (0, 0)) ∧ cur.length = l.length) := by
    rcases ho.2 with ⟨e, _⟩ | ⟨g, cap, cur, e, _, hgg, _, _, hcs, _⟩
    · cases e
    · injection e with e1 e2 e3
      injection e1 with e1
      injection e1 with e1
      subst e1 e3
      exact ⟨cur.toList, by simpa using hgg, by simpa using hcs⟩
  obtain ⟨w2, hr2, hg2, hb2⟩ : ∃ w2, (Builtin.copy_ #[26, 26] 3 #[.slice (some ⟨w.heap.size, 0, none⟩) l.length l.length, .slice ao l.length c]).run Try.prog w1 = .ok (.int .i64 l.length) w2 ∧ Hid (w2.heap[w.heap.size]? = some (.cells (bc l).toArray 5 (0, 0))) ∧ Hid (Below w.heap.size w w2) := by
    by_cases h0 : l = []
    · subst h0
      have e : cur = [] := List.eq_nil_of_length_eq_zero (unhide hcur).2
      subst e
      exact ⟨w1, run_copy_none (P := Try.prog) w1 26 26 3 5 _ ao 0 0 0 c Try.underlying26 (by rw [hi]; simp [hz1]) rfl, hide (unhide hcur).1, hide hb1⟩
    · have hp : 0 < l.length := by cases l <;> simp_all
      obtain ⟨ao', c', e, k1, k2, k3, k4⟩ := id (unhide Hs1)
      injection e with e1 e2 e3
      subst e1
      obtain ⟨b, o, rfl⟩ := (unhide Hs1).addr hp
      have hrun := run_copy_row (P := Try.prog) w1 26 26 3 5 w.heap.size 0 l.length l.length ⟨b, o, none⟩ l.length c cur.toArray 5 (bc l) Try.underlying26 (by rw [hi]; simp [hz1]) (unhide hcur).1 (by rw [bc_length]; simp) (k4 _ rfl) (by rw [bc_length]; simp [(unhide hcur).2]) (bc_one _)
      rw [bc_length] at hrun
      refine ⟨_, hrun, hide ?_, hide (below_setRow hb1 (Nat.le_refl _) _)⟩
      rw [setRow_heap w1 _ _ _ _ _ (unhide hcur).1]
      have ed : List.drop (0 + l.length) cur.toArray.toList = [] := List.drop_eq_nil_of_le (by have := (unhide hcur).2; simp; omega)
      rw [ed]
      simp
  have hb1 := hide hb1
  clear ho hg hb1
  go_enter Try.func60, Try.ntmps60
  go_wp2
  go_ret
  refine ⟨rfl, ?_, unhide hb2⟩
  exact ⟨by simp [bc_length], .inr ⟨w.heap.size, l.length, _, rfl, Nat.le_refl _, unhide hg2, Nat.le_refl _, by unfold maxLen; omega, by simp [bc_length], by simp only [Nat.mul_one]; rw [List.take_of_length_le (by simp [bc_length])]⟩⟩

theorem common_any (v u : Value) (l m : List UInt8) (w : World) (hs : Sl w v l) (hu : Sl w u m) (hl : l.length ≤ 1099511627776) (hm : m.length ≤ 1099511627776) :
    Calls Try.prog 77 #[v, u] w fun e w' => e = .returned (.int .i64 (cmn l m)) ∧ Below w.heap.size w w' := by
  have Hs := hide hs
  have Hu := hide hu
  obtain ⟨ao, c, rfl, h1, h2, h3, h4⟩ := hs
  obtain ⟨bo, d, rfl, k1, k2, k3, k4⟩ := hu
  clear h3 h4 k3 k4
  unfold maxLen at h2 k2
  by_cases hlm : m.length < l.length
  all_goals
    go_enter Try.func77, Try.ntmps77
    go_wp2
    go_loopw [13] (fun i wr => ∃ k n : Nat, k ≤ l.length ∧ k ≤ m.length ∧ i = .int .i64 k ∧ wr = w.drewN n ∧ Hid (∀ j, j < k → l[j]? = m[j]?)) (fun i _ => l.length + m.length - (intOf i).toNat)
    case atStart => exact ⟨0, 0, by omega, by omega, rfl, rfl, hide (fun j hj => by omega)⟩
    case round =>
      obtain ⟨k, n, hk1, hk2, rfl, rfl, hE⟩ := hrel
      by_cases hlt : k < l.length ∧ k < m.length
      · obtain ⟨hl1, hl2⟩ := hlt
        obtain ⟨b, o, rfl⟩ := (unhide Hs).addr (by omega)
        obtain ⟨b2, o2, rfl⟩ := (unhide Hu).addr (by omega)
        have hc1 := (unhide Hs).cell k hl1
        have hc2 := (unhide Hu).cell k hl2
        obtain ⟨x, hx⟩ : ∃ x, Hid (l[k] = x) := ⟨l[k], Eq.refl l[k]⟩
        obtain ⟨y, hy⟩ : ∃ y, Hid (m[k] = y) := ⟨m[k], Eq.refl m[k]⟩
        rw [hx.out] at hc1
        rw [hy.out] at hc2
        have hkI : (k : Int) < (l.length : Int) := by omega
        have hkJ : (k : Int) < (m.length : Int) := by omega
        by_cases hxy : x = y
        · have hq : ((x.toNat : Int) == (y.toNat : Int)) = true := by rw [hxy]; simp
          have hE' : Hid (∀ j, j < k + 1 → l[j]? = m[j]?) := by
            intro j hj
            by_cases e : j = k
            · subst e
              rw [List.getElem?_eq_getElem hl1, List.getElem?_eq_getElem hl2, hx.out, hy.out, hxy]
            · exact (unhide hE) j (by omega)
          clear hE hxy
          go_wp2_with fail
          go_quiet (fail)
          go_wp2
          go_roundw
          case rel => exact ⟨k + 1, _, by omega, by omega, by go_num, rfl, hE'⟩
          case measure => simp [intOf]; omega
        · have hq : ((x.toNat : Int) == (y.toNat : Int)) = false := by
            rw [beq_eq_false_iff_ne]
            intro e
            exact hxy (UInt8.toNat_inj.1 (by omega))
          have hE' : Hid (cmn l m = k) := cmn_eq l m k (unhide hE) (by omega) (by omega) (.inr (.inr (by rw [List.getElem?_eq_getElem hl1, List.getElem?_eq_getElem hl2, hx.out, hy.out]; simpa using hxy)))
          clear hE hxy
          go_wp2_with fail
          go_quiet (fail)
          go_wp2
          go_ret
          exact ⟨by rw [unhide hE']; rfl, below_drewN (below_drewN (Below.refl _ w) n) nq⟩
      · have hE' : Hid (cmn l m = k) := cmn_eq l m k (unhide hE) (by omega) (by omega) (by omega)
        clear hE
        go_wp2
        go_ret
        first | exact ⟨by rw [unhide hE', (by omega : k = m.length)]; rfl, below_drewN (Below.refl _ w) n⟩ | exact ⟨by rw [unhide hE', (by omega : k = l.length)]; rfl, below_drewN (Below.refl _ w) n⟩
end

end Go.Proofs.Yteanjnkfoddfmaa

namespace Go.Proofs.Yteanjnkfoddfmaa
open Go.RowKit
set_option linter.unusedVariables false

theorem wpList_append_gr {ops : Array Oper} {rest : List Oper} {o : Oper} {a : Act} {Q : Exit → Act → World → Prop} (w : World) (hgd : o.guard = none) (s x : Operand)
    (ho : o.op = .call { callee := .builtin .append, args := #[s, x], argTypes := #[26, 26] })
    (v xv : Value) (l news : List UInt8) (hg : Tight v ∨ Own 0 w v l) (hv : Sl w v l) (hev : a.eval s = v) (hxv : a.eval x = xv) (hx : Sl w xv news)
    (hlen : l.length + news.length ≤ 70368744177664)
    (hK : ∀ v' w', Appd w v l news v' w' → wpList Try.prog ops Q rest (a.put o.dst v') w') : wpList Try.prog ops Q (o :: rest) a w := by
  refine wpList_plain hgd fun K hK' => ?_
  obtain ⟨v', w', hr, h2⟩ := run_append_gr w v xv l news hg hv hx hlen o.type
  unfold Oper.wp execOp
  simp only [ho, resolve, invoke, builtin, Sem.run_bind, Sem.run_pure, Result.andThen_ok, List.map_toArray, List.map_cons, List.map_nil, hev, hxv, hr]
  exact hK' _ _ (hK v' w' h2)

theorem Grow.gr {w : World} {v0 v1 v2 v3 : Value} {l0 l2 : List UInt8} (h : Grow w v0 v1 v2 v3 l0 l2) : Tight v0 ∨ Own 0 w v0 l0 := by
  rcases h with h | h
  · exact .inl h
  · exact .inr h.1

section
set_option maxRecDepth 100000
variable {S : Nat → Prop}

theorem new_any (w : World) : Calls Try.prog 9 #[] w fun e w' =>
    e = .returned (.pointer (some ⟨w.heap.size, 0, none⟩)) ∧ w' = w.alloc (.cells #[.slice none 0 0, .slice none 0 0, .slice none 0 0, .slice none 0 0] 72) := by
  go_enter Try.func9, Try.ntmps9
  go_wp2
  go_ret
  exact ⟨rfl, rfl⟩

theorem Dk.new (w : World) (hS : S w.heap.size) (t : TypeId) : Dk S (w.alloc (.cells #[.slice none 0 0, .slice none 0 0, .slice none 0 0, .slice none 0 0] t)) w.heap.size [] [] [] [] :=
  ⟨_, _, _, _, Q4.new w _ _ _ _ [] [] [] [] t (Sl.nil w) (Sl.nil w) (Sl.nil w) (Sl.nil w) (fun g h => by cases h) (fun g h => by cases h) (fun g h => by cases h) (fun g h => by cases h) (by simp) (by simp) (by simp) (by simp) hS, .inl ⟨none, 0, rfl⟩⟩

theorem append_ok (B : Nat) (nf nc sf sc lb : List UInt8) (v : Value) (w : World) (h : Dk S w B nf nc sf sc) (hS : ∀ k, w.heap.size ≤ k → S k) (hv : Sl w v lb) (hb : nf.length + lb.length ≤ 16777216) :
    Calls Try.prog 24 #[.pointer (some ⟨B, 0, none⟩), v] w fun e w' => e = .returned (.int .i64 0) ∧ Dk S w' B (nf ++ lb) nc sf sc ∧ Fr S w w' := by
  obtain ⟨v0, v1, v2, v3, hq, hg⟩ := h
  have c0 := hq.c0
  obtain ⟨ao, cp, rfl, _, hcp, _⟩ := id hq.s0
  obtain ⟨xo, xc, rfl, _, hxc, _⟩ := id hv
  unfold maxLen at hcp hxc
  have hI : (lb.length : Int) ≤ 16777216 - nf.length := by omega
  have Hq := hide hq
  have Hg := hide hg
  have Hv := hide hv
  clear hq hg hv
  go_enter Try.func24, Try.ntmps24
  go_wp2_with (at_builtin; refine wpList_append_gr _ rfl (.tmp 22) (.tmp 23) rfl _ _ nf lb (unhide Hg).gr (unhide Hq).s0 rfl rfl (unhide Hv) (by omega) ?_)
  intro v' w1 hr
  obtain ⟨k1, k2, ⟨ao', n', c', rfl⟩, k3, k4⟩ := append_dk (unhide Hq) (unhide Hg) hS (by rw [List.length_append]; omega) hr
  have K3 := hide k3
  have K4 := hide k4
  clear k3 k4 hr Hq Hg Hv hS
  go_wp2
  go_ret
  exact ⟨rfl, unhide K3, unhide K4⟩

theorem append_no (B : Nat) (nf nc sf sc lb : List UInt8) (v : Value) (w : World) (h : Dk S w B nf nc sf sc) (hv : Sl w v lb) (hb : 16777216 < nf.length + lb.length) :
    Calls Try.prog 24 #[.pointer (some ⟨B, 0, none⟩), v] w fun e w' => e = .returned (.int .i64 61) ∧ w' = w := by
  obtain ⟨v0, v1, v2, v3, hq, hg⟩ := h
  have c0 := hq.c0
  obtain ⟨ao, cp, rfl, _, hcp, _⟩ := id hq.s0
  obtain ⟨xo, xc, rfl, _, hxc, _⟩ := id hv
  unfold maxLen at hcp hxc
  have hb0 := hq.b0
  have hI : 16777216 - (nf.length : Int) < (lb.length : Int) := by omega
  clear hq hg hv
  go_enter Try.func24, Try.ntmps24
  go_wp2
  go_ret
  exact ⟨rfl, rfl⟩

theorem cut_dk {w : World} {B : Nat} {nf nc sf sc : List UInt8} {ao : Option Addr} {n c : Nat} {v1 v2 v3 : Value} (h : Q4 S w B (.slice ao n c) v1 v2 v3 nf nc sf sc) (k : Nat) (hk : k ≤ nf.length) :
    Dk S (w.setCell ⟨B, 0, none⟩ (.slice ao k k)) B (nf.take k) nc sf sc := by
  have hn : nf.length ≤ c := by obtain ⟨_, _, e, h1, _⟩ := h.s0; injection e with _ _ e3; omega
  exact ⟨_, _, _, _, h.set0 (h.s0.cut k hk k (Nat.le_refl _) (by omega)) (fun g hg => h.i0 g (by cases ao <;> exact hg)) (by rw [List.length_take]; have := h.b0; omega), .inl ⟨_, _, rfl⟩⟩

theorem cut_ok (B : Nat) (nf nc sf sc : List UInt8) (k : Nat) (w : World) (h : Dk S w B nf nc sf sc) (hk : k ≤ nf.length) :
    Calls Try.prog 42 #[.pointer (some ⟨B, 0, none⟩), .int .i64 k] w fun e w' => e = .returned (.int .i64 0) ∧ Dk S w' B (nf.take k) nc sf sc ∧ Fr S w w' := by
  obtain ⟨v0, v1, v2, v3, hq, hg⟩ := h
  have c0 := hq.c0
  have f0 := hq.f0
  have hb0 := hq.b0
  obtain ⟨ao, cp, rfl, hcn, hcp, _⟩ := id hq.s0
  unfold maxLen at hcp
  have K3 := hide (cut_dk hq k hk)
  have K4 := hide ((Fr.refl S w).set (p := ⟨B, 0, none⟩) hq.inB (.slice ao k k))
  clear hq hg
  go_enter Try.func42, Try.ntmps42
  go_wp2
  go_ret
  exact ⟨rfl, unhide K3, unhide K4⟩

theorem cut_no (B : Nat) (nf nc sf sc : List UInt8) (n : Int) (w : World) (h : Dk S w B nf nc sf sc) (hk : n < 0 ∨ nf.length < n) :
    Calls Try.prog 42 #[.pointer (some ⟨B, 0, none⟩), .int .i64 n] w fun e w' => e = .returned (.int .i64 61) ∧ w' = w := by
  obtain ⟨v0, v1, v2, v3, hq, hg⟩ := h
  have c0 := hq.c0
  obtain ⟨ao, cp, rfl, hcn, hcp, _⟩ := id hq.s0
  clear hq hg
  by_cases h0 : n < 0
  · clear hk
    go_enter Try.func42, Try.ntmps42
    go_wp2
    go_ret
    exact ⟨rfl, rfl⟩
  · have h1 : (nf.length : Int) < n := by omega
    clear hk
    go_enter Try.func42, Try.ntmps42
    go_wp2
    go_ret
    exact ⟨rfl, rfl⟩

theorem own_in {w w1 : World} {B g n c : Nat} {l : List UInt8} (hB : B < w.heap.size) (hS : ∀ k, w.heap.size ≤ k → S k) (ho : Own w.heap.size w1 (.slice (some ⟨g, 0, none⟩) n c) l) : In S w1 B (.slice (some ⟨g, 0, none⟩) n c) := fun k hk => by
  have := World.ownsRow.lt ho k hk
  exact ⟨hS k this.1, this.2, by omega⟩

theorem set_dk {w w1 : World} {B : Nat} {nf nc sf sc lb : List UInt8} {g n c : Nat} {v0 v1 v2 v3 : Value} (h : Q4 S w B v0 v1 v2 v3 nf nc sf sc) (hg : Grow w v0 v1 v2 v3 nf sf) (hS : ∀ k, w.heap.size ≤ k → S k) (hb : lb.length ≤ 16777216)
    (hw : Below w.heap.size w w1) (ho : Own w.heap.size w1 (.slice (some ⟨g, 0, none⟩) n c) lb) : Dk S (w1.setCell ⟨B, 1, none⟩ (.slice (some ⟨g, 0, none⟩) n c)) B nf lb sf sc := by
  have hq1 := h.frame (w' := w1) hw.size (fun k hk _ => hw.block k hk)
  have hg1 := hg.frame (w' := w1) (fun g _ hlt => hw.block g hlt)
  have hi := own_in h.lt hS ho
  refine ⟨_, _, _, _, hq1.set1 ho.sl hi hb, ?_⟩
  rcases hg1 with ht | ⟨ho1, hf1, hf3, hf2⟩
  · exact .inl ht
  · refine .inr ⟨ho1.frame fun k hk _ => Below.heap_setCell _ _ _ _ (h.i0 k hk).2.2, fun k hk e => ?_, hf3, hf2⟩
    have := World.ownsRow.lt ho k e
    have := (h.i0 k hk).2.1
    omega

theorem set_ok (B : Nat) (nf nc sf sc lb : List UInt8) (v : Value) (w : World) (h : Dk S w B nf nc sf sc) (hS : ∀ k, w.heap.size ≤ k → S k) (hv : Sl w v lb) (hb : lb.length ≤ 16777216) :
    Calls Try.prog 30 #[.pointer (some ⟨B, 0, none⟩), v] w fun e w' => e = .returned (.int .i64 0) ∧ Dk S w' B nf lb sf sc ∧ Fr S w w' := by
  obtain ⟨v0, v1, v2, v3, hq, hg⟩ := h
  obtain ⟨xo, xc, rfl, _, hxc, _⟩ := id hv
  unfold maxLen at hxc
  have Hq := hide hq
  have Hg := hide hg
  have Hv := hide hv
  obtain ⟨yo, yc, rfl, _⟩ := id hq.s1
  clear hq hg hv
  go_enter Try.func30, Try.ntmps30
  go_wp2_with fail
  refine (copied_any _ lb _ (unhide Hv) (by omega)).mono ?_
  rintro e w1 ⟨rfl, ho, hw⟩
  have c1 := ((unhide Hq).frame (w' := w1) hw.size (fun k hk _ => hw.block k hk)).c1
  have f1 := ((unhide Hq).frame (w' := w1) hw.size (fun k hk _ => hw.block k hk)).f1
  have K3 := hide (set_dk (unhide Hq) (unhide Hg) hS hb hw ho)
  have K4 := hide ((Fr.of (S := S) hw).set (p := ⟨B, 1, none⟩) (unhide Hq).inB (.slice (some ⟨w.heap.size, 0, none⟩) lb.length lb.length))
  clear ho hw hS Hq Hg Hv
  go_wp2
  go_ret
  exact ⟨rfl, unhide K3, unhide K4⟩

theorem sync_dk {w : World} {B : Nat} {nf nc sf sc : List UInt8} {v0 v1 v2 v3 : Value} (h : Q4 S w B v0 v1 v2 v3 nf nc sf sc) (hg : Grow w v0 v1 v2 v3 nf sf) : Dk S ((w.setCell ⟨B, 2, none⟩ v0).setCell ⟨B, 3, none⟩ v1) B nf nc nf nc := by
  have hq := (h.set2 h.s0 h.i0 h.b0).set3 (v := v1) (l := nc) (sl_set h.s1 h.i1 _ _) (in_set h.i1 _ _) h.b1
  refine ⟨_, _, _, _, hq, ?_⟩
  rcases hg with ht | ⟨ho, hf1, hf3, hf2⟩
  · exact .inl ht
  · refine .inr ⟨(ho.frame fun k hk _ => Below.heap_setCell _ _ _ _ (h.i0 k hk).2.2).frame fun k hk _ => Below.heap_setCell _ _ _ _ (h.i0 k hk).2.2, hf1, hf1, ?_⟩
    rcases ho.2 with ⟨rfl, _⟩ | ⟨g, cap, cur, rfl, _⟩
    · exact .inl (fun k hk => by cases hk)
    · exact .inr ⟨⟨g, _, cap, _, cap, rfl, rfl⟩, List.prefix_refl _⟩

theorem sync_ok (B : Nat) (nf nc sf sc : List UInt8) (w : World) (h : Dk S w B nf nc sf sc) :
    Calls Try.prog 43 #[.pointer (some ⟨B, 0, none⟩)] w fun e w' => e = .returned (.int .i64 0) ∧ Dk S w' B nf nc nf nc ∧ Fr S w w' := by
  obtain ⟨v0, v1, v2, v3, hq, hg⟩ := h
  have K3 := hide (sync_dk hq hg)
  have K4 := hide (((Fr.refl S w).set (p := ⟨B, 2, none⟩) hq.inB v0).set (p := ⟨B, 3, none⟩) hq.inB v1)
  obtain ⟨ao, cp, rfl, _, hcp, _⟩ := id hq.s0
  obtain ⟨bo, dp, rfl, _, hdp, _⟩ := id hq.s1
  obtain ⟨xo, xp, rfl, _, hxp, _⟩ := id hq.s2
  obtain ⟨yo, yp, rfl, _, hyp, _⟩ := id hq.s3
  obtain ⟨c0, c1, c2, c3, f0, f1, f2, f3, _⟩ := hq
  clear hg
  go_enter Try.func43, Try.ntmps43
  go_wp2
  go_ret
  exact ⟨rfl, unhide K3, unhide K4⟩

theorem file_ok (B : Nat) (nf nc sf sc : List UInt8) (w : World) (h : Dk S w B nf nc sf sc) :
    Calls Try.prog 27 #[.pointer (some ⟨B, 0, none⟩)] w fun e w' => e = .returned (.slice (some ⟨w.heap.size, 0, none⟩) nf.length nf.length) ∧ Own w.heap.size w' (.slice (some ⟨w.heap.size, 0, none⟩) nf.length nf.length) nf ∧ Below w.heap.size w w' := by
  obtain ⟨v0, v1, v2, v3, hq, hg⟩ := h
  have hs := hide hq.s0
  have hb := hq.b0
  obtain ⟨ao, cp, rfl, _, hcp, _⟩ := id hq.s0
  have c0 := hq.c0
  clear hq hg
  go_enter Try.func27, Try.ntmps27
  go_wp2_with fail
  refine (copied_any _ nf _ (unhide hs) (by omega)).mono ?_
  rintro e w1 ⟨rfl, ho, hw⟩
  have Ho := hide ho
  have Hw := hide hw
  clear ho hw
  go_wp2
  go_ret
  exact ⟨rfl, unhide Ho, unhide Hw⟩

theorem cell_ok (B : Nat) (nf nc sf sc : List UInt8) (w : World) (h : Dk S w B nf nc sf sc) :
    Calls Try.prog 28 #[.pointer (some ⟨B, 0, none⟩)] w fun e w' => e = .returned (.slice (some ⟨w.heap.size, 0, none⟩) nc.length nc.length) ∧ Own w.heap.size w' (.slice (some ⟨w.heap.size, 0, none⟩) nc.length nc.length) nc ∧ Below w.heap.size w w' := by
  obtain ⟨v0, v1, v2, v3, hq, hg⟩ := h
  have hs := hide hq.s1
  have hb := hq.b1
  obtain ⟨ao, cp, rfl, _, hcp, _⟩ := id hq.s1
  have c1 := hq.c1
  clear hq hg
  go_enter Try.func28, Try.ntmps28
  go_wp2_with fail
  refine (copied_any _ nc _ (unhide hs) (by omega)).mono ?_
  rintro e w1 ⟨rfl, ho, hw⟩
  have Ho := hide ho
  have Hw := hide hw
  clear ho hw
  go_wp2
  go_ret
  exact ⟨rfl, unhide Ho, unhide Hw⟩
end

end Go.Proofs.Yteanjnkfoddfmaa

namespace Go.Proofs.Yteanjnkfoddfmaa
open Go.RowKit

/-- A world that has at most new memory behind w. -/
structure Later (w : World) where
  val : World
  below : Below w.heap.size w val

theorem Later.cell {w : World} (i : Later w) {p : Addr} {v : Value} (h : w.cell? p = some v) : i.val.cell? p = some v :=
  (i.below.cell (World.block_lt_of_cell? w p h)).trans h

theorem wp_region_later {P : Program} {id : Nat} {Q : Exit → Act → World → Prop} {a : Act} {w : World} {l : List Oper} (hm : P.follows .mixedOrders = true) (hB : Region.lexB .any l.toArray = true)
    (h : wpQuiet P l.toArray (fun w' => ∃ i : Later w, w' = i.val) (fun a' => ∀ w', (∃ i : Later w, w' = i.val) → Q .normal a' w') l a) : (Code.region id l.toArray true).wp P Q a w :=
  wp_region_quiet (C := fun w' => ∃ i : Later w, w' = i.val) hm hB ⟨⟨_, (Below.refl _ w).drew⟩, rfl⟩ (by simpa using h)

/-- A call that at most lays new memory. -/
theorem calls_later {P : Program} {f : FuncId} {args : Array Value} {w : World} {i : Later w} {v : Value} (h : Calls P f args i.val fun e w' => e = .returned v ∧ Below i.val.heap.size i.val w') :
    Calls P f args i.val fun e w'' => e = .returned v ∧ ∃ j : Later w, w'' = j.val :=
  h.mono fun _ w' ⟨he, hb⟩ => ⟨he, ⟨w', i.below.trans (hb.mono i.below.size)⟩, rfl⟩

end Go.Proofs.Yteanjnkfoddfmaa

namespace Go.Proofs.Yteanjnkfoddfmaa
open Go.RowKit
set_option linter.unusedVariables false

/-- Is something now that is not safe? -/
def dirt (nf nc sf sc : List UInt8) : Bool := !(nf == sf) || !(nc == sc)

theorem dirt_self (nf nc : List UInt8) : dirt nf nc nf nc = false := by simp [dirt]

section
set_option maxRecDepth 100000
variable {S : Nat → Prop}

theorem xor1 (b : UInt8) : bits BinOp.xor IntKind.u8 (b.toNat : Int) 1 = ((b ^^^ 1).toNat : Int) := by
  have h : ∀ n : Fin 256, bits BinOp.xor IntKind.u8 ((UInt8.ofNat n.1).toNat : Int) 1 = (((UInt8.ofNat n.1) ^^^ 1).toNat : Int) := by decide +kernel
  have := h ⟨b.toNat, b.toNat_lt⟩
  simpa using this

theorem bc_set (l : List UInt8) (j : Nat) (x : UInt8) : bc (l.set j x) = (bc l).set j (.int .u8 (x.toNat : Int)) := by
  simp [bc, List.map_set]

/-- The last byte of a row of one's own is turned. -/
theorem flip_last {B g n : Nat} {X : List UInt8} {w : World} (ho : Own B w (.slice (some ⟨g, 0, none⟩) n n) X) (hn : X.length = n) (h0 : 0 < n) :
    w.cell? ⟨g, n - 1, none⟩ = some (.int .u8 ((X.getD (X.length - 1) 0).toNat : Int)) ∧ w.frozen? ⟨g, n - 1, none⟩ = false ∧
      Own B (w.setCell ⟨g, n - 1, none⟩ (.int .u8 ((X.getD (X.length - 1) 0 ^^^ 1).toNat : Int))) (.slice (some ⟨g, 0, none⟩) n n) (flp X) ∧
      w.grownBy (w.setCell ⟨g, n - 1, none⟩ (.int .u8 ((X.getD (X.length - 1) 0 ^^^ 1).toNat : Int))) (some g) := by
  subst hn
  have hc := World.ownsRow.cellAt ho (X.length - 1) (by omega)
  rw [bc_get, List.getElem?_eq_getElem (by omega)] at hc
  have hf := World.ownsRow.frozenAt ho (X.length - 1)
  have hst := World.ownsRow.stored ho (X.length - 1) (.int .u8 ((X.getD (X.length - 1) 0 ^^^ 1).toNat : Int))
  refine ⟨?_, hf, ?_, hst.2⟩
  · rw [hc]
    simp [List.getD, List.getElem?_eq_getElem (show X.length - 1 < X.length by omega)]
  · unfold Own flp
    rw [bc_set, List.length_set]
    exact hst.1

set_option maxHeartbeats 2000000 in
theorem left_ok (B : Nat) (nf nc sf sc : List UInt8) (keep : Int) (torn : Bool) (w : World) (h : Dk S w B nf nc sf sc) (hk : keep ≤ 9223372036854775807) :
    Calls Try.prog 59 #[.pointer (some ⟨B, 0, none⟩), .int .i64 keep, .bool torn] w fun e w' =>
      ∃ g n, e = .returned (.slice (some ⟨g, 0, none⟩) n n) ∧ Own w.heap.size w' (.slice (some ⟨g, 0, none⟩) n n) (left sf nf keep torn) ∧ Below w.heap.size w w' := by
  obtain ⟨v0, v1, v2, v3, hq, hg⟩ := h
  have hc := hide (fun i : Later w => common_any v2 v0 sf nf i.val (hq.s2.later i.below) (hq.s0.later i.below) (by have := hq.b2; omega) (by have := hq.b0; omega))
  have s0 := hide hq.s0
  have s2 := hide hq.s2
  have b0 := hq.b0
  have b2 := hq.b2
  obtain ⟨ao, cp, rfl, hcn, hcp, _⟩ := id hq.s0
  obtain ⟨xo, xp, rfl, hxn, hxp, _⟩ := id hq.s2
  unfold maxLen at hcp hxp
  have C0 := fun i : Later w => i.cell hq.c0
  have C2 := fun i : Later w => i.cell hq.c2
  have c2 := hq.c2
  have inst : Nonempty (Later w) := ⟨⟨w, Below.refl _ _⟩⟩
  clear hq hg
  by_cases h1 : keep < 1
  · have e : left sf nf keep torn = sf := by unfold left; rw [if_pos h1]
    rw [e]
    clear hc C0 C2
    go_enter Try.func59, Try.ntmps59
    go_wp2_with fail
    refine (copied_any _ sf _ (unhide s2) (by omega)).mono ?_
    rintro e w1 ⟨rfl, ho, hw⟩
    have Ho := hide ho
    have Hw := hide hw
    clear ho hw
    go_wp2
    go_ret
    exact ⟨_, _, rfl, unhide Ho, unhide Hw⟩
  · have cr := cmn_right sf nf
    obtain ⟨m, hm⟩ : ∃ m, Hid (more sf nf keep = m) := ⟨_, hide rfl⟩
    have hL : Hid (left sf nf keep torn = if torn = true ∧ 0 < m then flp (nf.take (cmn sf nf + m)) else nf.take (cmn sf nf + m)) := by
      show _ = _
      unfold left
      rw [if_neg h1, unhide hm]
    have hmI : Hid ((m : Int) = min keep ((nf.length : Int) - (cmn sf nf : Int))) := by
      show _ = _
      rw [← unhide hm]
      unfold more
      omega
    generalize cmn sf nf = c at *
    go_enter Try.func59, Try.ntmps59
    go_wp2_with fail
    refine wp_region_later (by kernel_rfl) (by kernel_rfl) ?_
    repeat (first
      | go_big_quiet_step ((go_at_call 77; with_reducible exact calls_later (unhide hc _)))
      | quiet_step (fail))
    refine wpQuiet_nil ?_
    intro w' hw'
    obtain ⟨i, rfl⟩ := hw'
    have c0 := C0 i
    have s0' := hide ((unhide s0).later i.below)
    have hB := hide i.below
    have k1 : 1 ≤ keep := by omega
    generalize i.val = W at *
    clear C0 C2 hc s0 s2 c2 h1
    by_cases hsm : keep ≤ (nf.length : Int) - (c : Int)
    · obtain ⟨mm, rfl⟩ : ∃ mm : Nat, keep = mm := ⟨keep.toNat, by omega⟩
      obtain rfl : m = mm := by have := unhide hmI; omega
      have hle : c + m ≤ nf.length := by omega
      have ht : ((c : Int) + (m : Int)).toNat = c + m := by omega
      have Hs := hide ((unhide s0').cut (c + m) hle cp (by omega) (Nat.le_refl _))
      have hlen : (nf.take (c + m)).length = c + m := by rw [List.length_take]; omega
      obtain ⟨X, hX⟩ : ∃ X, Hid (nf.take (c + m) = X) := ⟨_, hide rfl⟩
      rw [unhide hX] at Hs hlen
      go_wp2_with fail
      refine (copied_any _ X _ (unhide Hs) (by omega)).mono ?_
      rintro e w1 ⟨rfl, ho, hw⟩
      rw [hlen] at ho ⊢
      replace hw := (unhide hB).trans (hw.mono (unhide hB).size)
      replace ho := ho.mono (unhide hB).size
      obtain ⟨g, hgg⟩ : ∃ g, Hid (g = W.heap.size) := ⟨_, hide rfl⟩
      rw [← unhide hgg] at ho ⊢
      cases torn
      · have hL' : Hid (left sf nf (m : Int) false = X) := by
          show _ = _
          rw [unhide hL, ← unhide hX]
          rfl
        have Ho := hide ho
        have Hw := hide hw
        clear ho hw
        go_wp2
        go_ret
        rw [unhide hL']
        exact ⟨_, _, rfl, unhide Ho, unhide Hw⟩
      · by_cases hm0 : 0 < m
        · have hL' : Hid (left sf nf (m : Int) true = flp X) := by
            show _ = _
            rw [unhide hL, ← unhide hX, if_pos ⟨rfl, hm0⟩]
          obtain ⟨hcb, hfz, ho', hgr⟩ := flip_last ho hlen (by omega)
          have Ho := hide ho'
          have Hw := hide (hw.setCell (p := ⟨g, c + m - 1, none⟩) (World.ownsRow.lt ho g rfl).1 (.int .u8 ((X.getD (X.length - 1) 0 ^^^ 1).toNat : Int)))
          clear ho hw ho' hgr
          obtain ⟨b, hb⟩ : ∃ b, Hid (X.getD (X.length - 1) 0 = b) := ⟨_, hide rfl⟩
          rw [unhide hb] at hcb Ho Hw
          have hxb := xor1 b
          go_wp2
          go_ret
          rw [unhide hL']
          exact ⟨_, _, rfl, unhide Ho, unhide Hw⟩
        · exfalso
          clear hw ho
          omega
    · have hsub : (nf.length : Int) - (c : Int) = (m : Int) := by have := unhide hmI; omega
      have hmk : (m : Int) < keep := by omega
      clear hsm
      have hle : c + m ≤ nf.length := by omega
      have ht : ((c : Int) + (m : Int)).toNat = c + m := by omega
      have Hs := hide ((unhide s0').cut (c + m) hle cp (by omega) (Nat.le_refl _))
      have hlen : (nf.take (c + m)).length = c + m := by rw [List.length_take]; omega
      obtain ⟨X, hX⟩ : ∃ X, Hid (nf.take (c + m) = X) := ⟨_, hide rfl⟩
      rw [unhide hX] at Hs hlen
      go_wp2_with fail
      refine (copied_any _ X _ (unhide Hs) (by omega)).mono ?_
      rintro e w1 ⟨rfl, ho, hw⟩
      rw [hlen] at ho ⊢
      replace hw := (unhide hB).trans (hw.mono (unhide hB).size)
      replace ho := ho.mono (unhide hB).size
      obtain ⟨g, hgg⟩ : ∃ g, Hid (g = W.heap.size) := ⟨_, hide rfl⟩
      rw [← unhide hgg] at ho ⊢
      cases torn
      · have hL' : Hid (left sf nf keep false = X) := by
          show _ = _
          rw [unhide hL, ← unhide hX]
          rfl
        have Ho := hide ho
        have Hw := hide hw
        clear ho hw
        go_wp2
        go_ret
        rw [unhide hL']
        exact ⟨_, _, rfl, unhide Ho, unhide Hw⟩
      · by_cases hm0 : 0 < m
        · have hL' : Hid (left sf nf keep true = flp X) := by
            show _ = _
            rw [unhide hL, ← unhide hX, if_pos ⟨rfl, hm0⟩]
          obtain ⟨hcb, hfz, ho', hgr⟩ := flip_last ho hlen (by omega)
          have Ho := hide ho'
          have Hw := hide (hw.setCell (p := ⟨g, c + m - 1, none⟩) (World.ownsRow.lt ho g rfl).1 (.int .u8 ((X.getD (X.length - 1) 0 ^^^ 1).toNat : Int)))
          clear ho hw ho' hgr
          obtain ⟨b, hb⟩ : ∃ b, Hid (X.getD (X.length - 1) 0 = b) := ⟨_, hide rfl⟩
          rw [unhide hb] at hcb Ho Hw
          have hxb := xor1 b
          go_wp2
          go_ret
          rw [unhide hL']
          exact ⟨_, _, rfl, unhide Ho, unhide Hw⟩
        · have hm1 : m = 0 := by omega
          have hL' : Hid (left sf nf keep true = X) := by
            show _ = _
            rw [unhide hL, ← unhide hX, if_neg (by omega)]
          have Ho := hide ho
          have Hw := hide hw
          clear ho hw
          go_wp2
          go_ret
          rw [unhide hL']
          have Ho' := unhide Ho
          simp only [hm1, Nat.add_zero] at Ho'
          exact ⟨_, _, rfl, Ho', unhide Hw⟩
end

end Go.Proofs.Yteanjnkfoddfmaa

namespace Go.Proofs.Yteanjnkfoddfmaa
open Go.RowKit
set_option linter.unusedVariables false

/-- The cell that a crash leaves. -/
def cel (nc sc : List UInt8) (cell : Bool) : List UInt8 := if cell = true then nc else sc

/-- Two cells in block N, and they may be written. -/
structure Var (w : World) (N : Nat) (x y : Value) : Prop where
  c0 : w.cell? ⟨N, 0, none⟩ = some x
  c1 : w.cell? ⟨N, 1, none⟩ = some y
  f0 : w.frozen? ⟨N, 0, none⟩ = false
  f1 : w.frozen? ⟨N, 1, none⟩ = false

theorem Var.lt {w : World} {N : Nat} {x y : Value} (h : Var w N x y) : N < w.heap.size := World.block_lt_of_cell? w _ h.c0
theorem Var.later {w w' : World} {N : Nat} {x y : Value} (h : Var w N x y) (hb : Below w.heap.size w w') : Var w' N x y :=
  ⟨(hb.cell h.lt).trans h.c0, (hb.cell h.lt).trans h.c1, (hb.frozen h.lt).trans h.f0, (hb.frozen h.lt).trans h.f1⟩
theorem Var.new (w : World) (x y : Value) (t : TypeId) : Var (w.alloc (.cells #[x, y] t)) w.heap.size x y := ⟨by simp, by simp, by simp, by simp⟩
theorem Var.put {w : World} {N : Nat} {x y : Value} (h : Var w N x y) (u v : Value) : Var ((w.setCell ⟨N, 0, none⟩ u).setCell ⟨N, 1, none⟩ v) N u v :=
  ⟨(World.cell?_setCell_other _ _ _ _ (by simp)).trans (World.cell?_setCell_same w _ _ h.c0), World.cell?_setCell_same _ _ _ ((World.cell?_setCell_other _ _ _ _ (by simp)).trans h.c1), by simpa using h.f0, by simpa using h.f1⟩
theorem Var.put1 {w : World} {N : Nat} {x y : Value} (h : Var w N x y) (v : Value) : Var (w.setCell ⟨N, 1, none⟩ v) N x v :=
  ⟨(World.cell?_setCell_other _ _ _ _ (by simp)).trans h.c0, World.cell?_setCell_same w _ _ h.c1, by simpa using h.f0, by simpa using h.f1⟩

theorem below_new (w : World) (o : Obj) : Below w.heap.size w (w.alloc o) := (Below.refl _ _).alloc (Nat.le_refl _) o

/-- What stands in Crash when the left content is laid in its variable. -/
structure Mid (S : Nat → Prop) (w0 w : World) (B N g1 n1 g2 n2 : Nat) (v0 v1 v2 v3 : Value) (nf nc sf sc L : List UInt8) : Prop where
  q : Q4 S w B v0 v1 v2 v3 nf nc sf sc
  l : Own w0.heap.size w (.slice (some ⟨g1, 0, none⟩) n1 n1) L
  c : Own w0.heap.size w (.slice (some ⟨g2, 0, none⟩) n2 n2) sc
  v : Var w N (.slice (some ⟨g1, 0, none⟩) n1 n1) (.slice (some ⟨g2, 0, none⟩) n2 n2)
  n1 : g1 ≠ N
  n2 : g2 ≠ N
  lo : w0.heap.size ≤ N
  b : Below w0.heap.size w0 w

section
variable {S : Nat → Prop} {w0 w : World} {B N g1 n1 g2 n2 : Nat} {v0 v1 v2 v3 x y : Value} {nf nc sf sc L : List UInt8}

theorem mid_put (q : ∀ y, Below w0.heap.size w0 y → Q4 S y B v0 v1 v2 v3 nf nc sf sc) (b : Below w0.heap.size w0 w) (l : Own w0.heap.size w (.slice (some ⟨g1, 0, none⟩) n1 n1) L) (c : Own w0.heap.size w (.slice (some ⟨g2, 0, none⟩) n2 n2) sc)
    (v : Var w N x y) (h1 : g1 ≠ N) (h2 : g2 ≠ N) (lo : w0.heap.size ≤ N) : Mid S w0 ((w.setCell ⟨N, 0, none⟩ (.slice (some ⟨g1, 0, none⟩) n1 n1)).setCell ⟨N, 1, none⟩ (.slice (some ⟨g2, 0, none⟩) n2 n2)) B N g1 n1 g2 n2 v0 v1 v2 v3 nf nc sf sc L := by
  have b' := (b.setCell (p := ⟨N, 0, none⟩) lo (.slice (some ⟨g1, 0, none⟩) n1 n1)).setCell (p := ⟨N, 1, none⟩) lo (.slice (some ⟨g2, 0, none⟩) n2 n2)
  refine ⟨q _ b', ?_, ?_, v.put _ _, h1, h2, lo, b'⟩
  · refine l.frame fun k hk _ => ?_
    have : k = g1 := by simpa [Value.ownBlock] using hk.symm
    rw [Below.heap_setCell _ _ _ _ (by rw [this]; exact h1), Below.heap_setCell _ _ _ _ (by rw [this]; exact h1)]
  · refine c.frame fun k hk _ => ?_
    have : k = g2 := by simpa [Value.ownBlock] using hk.symm
    rw [Below.heap_setCell _ _ _ _ (by rw [this]; exact h2), Below.heap_setCell _ _ _ _ (by rw [this]; exact h2)]

theorem mid_new (q : ∀ y, Below w0.heap.size w0 y → Q4 S y B v0 v1 v2 v3 nf nc sf sc) (b : Below w0.heap.size w0 w) (l : Own w0.heap.size w (.slice (some ⟨g1, 0, none⟩) n1 n1) L) (c : Own w0.heap.size w (.slice (some ⟨g2, 0, none⟩) n2 n2) sc) (t : TypeId) :
    Mid S w0 (w.alloc (.cells #[.slice (some ⟨g1, 0, none⟩) n1 n1, .slice (some ⟨g2, 0, none⟩) n2 n2] t)) B w.heap.size g1 n1 g2 n2 v0 v1 v2 v3 nf nc sf sc L := by
  have b' := b.alloc b.size (.cells #[.slice (some ⟨g1, 0, none⟩) n1 n1, .slice (some ⟨g2, 0, none⟩) n2 n2] t)
  have k1 := World.ownsRow.lt l g1 rfl
  have k2 := World.ownsRow.lt c g2 rfl
  exact ⟨q _ b', l.later (below_new _ _), c.later (below_new _ _), Var.new _ _ _ _, by omega, by omega, b.size, b'⟩

theorem Own.inn {W : World} {g n : Nat} {l : List UInt8} (h : Own w0.heap.size W (.slice (some ⟨g, 0, none⟩) n n) l) : ∀ k, (Value.slice (some ⟨g, 0, none⟩) n n).ownBlock = some k → (fun k => w0.heap.size ≤ k) k ∧ k < W.heap.size := fun k hk => World.ownsRow.lt h k hk

theorem Mid.fin (h : Mid S w0 w B N g1 n1 g2 n2 v0 v1 v2 v3 nf nc sf sc L) (hL : L.length ≤ 16777216) (t : TypeId) :
    Dk (fun k => w0.heap.size ≤ k) (w.alloc (.cells #[.slice (some ⟨g1, 0, none⟩) n1 n1, .slice (some ⟨g2, 0, none⟩) n2 n2, .slice (some ⟨g1, 0, none⟩) n1 n1, .slice (some ⟨g2, 0, none⟩) n2 n2] t)) w.heap.size L sc L sc ∧
      Below w0.heap.size w0 (w.alloc (.cells #[.slice (some ⟨g1, 0, none⟩) n1 n1, .slice (some ⟨g2, 0, none⟩) n2 n2, .slice (some ⟨g1, 0, none⟩) n1 n1, .slice (some ⟨g2, 0, none⟩) n2 n2] t)) :=
  ⟨⟨_, _, _, _, Q4.new w _ _ _ _ L sc L sc t h.l.sl h.c.sl h.l.sl h.c.sl h.l.inn h.c.inn h.l.inn h.c.inn hL h.q.b3 hL h.q.b3 h.b.size, .inl ⟨_, _, rfl⟩⟩, h.b.alloc h.b.size _⟩

/-- The same with the cell as it is now. -/
theorem Mid.fin2 (h : Mid S w0 w B N g1 n1 g2 n2 v0 v1 v2 v3 nf nc sf sc L) (hL : L.length ≤ 16777216) (t : TypeId) {w1 : World} {g3 n3 : Nat} (hb : Below w.heap.size w w1) (ho : Own w.heap.size w1 (.slice (some ⟨g3, 0, none⟩) n3 n3) nc) :
    Var w1 N (.slice (some ⟨g1, 0, none⟩) n1 n1) (.slice (some ⟨g2, 0, none⟩) n2 n2) ∧
    Dk (fun k => w0.heap.size ≤ k) ((w1.setCell ⟨N, 1, none⟩ (.slice (some ⟨g3, 0, none⟩) n3 n3)).alloc (.cells #[.slice (some ⟨g1, 0, none⟩) n1 n1, .slice (some ⟨g3, 0, none⟩) n3 n3, .slice (some ⟨g1, 0, none⟩) n1 n1, .slice (some ⟨g3, 0, none⟩) n3 n3] t)) w1.heap.size L nc L nc ∧
      Below w0.heap.size w0 ((w1.setCell ⟨N, 1, none⟩ (.slice (some ⟨g3, 0, none⟩) n3 n3)).alloc (.cells #[.slice (some ⟨g1, 0, none⟩) n1 n1, .slice (some ⟨g3, 0, none⟩) n3 n3, .slice (some ⟨g1, 0, none⟩) n1 n1, .slice (some ⟨g3, 0, none⟩) n3 n3] t)) := by
  have b1 : Below w0.heap.size w0 w1 := h.b.trans (hb.mono h.b.size)
  have b2 := b1.setCell (p := ⟨N, 1, none⟩) h.lo (.slice (some ⟨g3, 0, none⟩) n3 n3)
  have hlt := h.v.lt
  have k3 := World.ownsRow.lt ho g3 rfl
  have l2 : Own w0.heap.size (w1.setCell ⟨N, 1, none⟩ (.slice (some ⟨g3, 0, none⟩) n3 n3)) (.slice (some ⟨g1, 0, none⟩) n1 n1) L := (h.l.later hb).frame fun k hk _ => by
    have : k = g1 := by simpa [Value.ownBlock] using hk.symm
    exact Below.heap_setCell _ _ _ _ (by rw [this]; exact h.n1)
  have c2 : Own w0.heap.size (w1.setCell ⟨N, 1, none⟩ (.slice (some ⟨g3, 0, none⟩) n3 n3)) (.slice (some ⟨g3, 0, none⟩) n3 n3) nc := (ho.mono h.b.size).frame fun k hk _ => by
    have : k = g3 := by simpa [Value.ownBlock] using hk.symm
    exact Below.heap_setCell _ _ _ _ (by rw [this]; simp only; omega)
  have e : (w1.setCell ⟨N, 1, none⟩ (.slice (some ⟨g3, 0, none⟩) n3 n3)).heap.size = w1.heap.size := by simp [World.setCell]
  refine ⟨h.v.later hb, ?_, b2.alloc b2.size _⟩
  have := Q4.new (S := fun k => w0.heap.size ≤ k) (w1.setCell ⟨N, 1, none⟩ (.slice (some ⟨g3, 0, none⟩) n3 n3)) _ _ _ _ L nc L nc t l2.sl c2.sl l2.sl c2.sl l2.inn c2.inn l2.inn c2.inn hL h.q.b1 hL h.q.b1 b2.size
  rw [e] at this
  exact ⟨_, _, _, _, this, .inl ⟨_, _, rfl⟩⟩
end

section
set_option maxRecDepth 100000
variable {S : Nat → Prop}

set_option maxHeartbeats 2000000 in
theorem crash_ok (B : Nat) (nf nc sf sc : List UInt8) (keep : Int) (torn cell : Bool) (w : World) (h : Dk S w B nf nc sf sc) (hk : keep ≤ 9223372036854775807) :
    Calls Try.prog 22 #[.pointer (some ⟨B, 0, none⟩), .int .i64 keep, .bool torn, .bool cell] w fun e w' =>
      ∃ B', e = .returned (.pointer (some ⟨B', 0, none⟩)) ∧ Dk (fun k => w.heap.size ≤ k) w' B' (left sf nf keep torn) (cel nc sc cell) (left sf nf keep torn) (cel nc sc cell) ∧ Below w.heap.size w w' := by
  have hb4 : (left sf nf keep torn).length ≤ 16777216 := by obtain ⟨_, _, _, _, hq, _⟩ := h; exact left_length sf nf keep torn _ hq.b2 hq.b0
  have hF := hide (fun y (hy : Below w.heap.size w y) => left_ok (S := S) B nf nc sf sc keep torn y (h.later hy) hk)
  generalize left sf nf keep torn = L at *
  obtain ⟨v0, v1, v2, v3, hq, hg⟩ := h
  have HQ := hide (fun y (hy : Below w.heap.size w y) => hq.frame (w' := y) hy.size (fun k hk _ => hy.block k hk))
  have b1 := hq.b1
  have b3 := hq.b3
  obtain ⟨bo, dp, rfl, _, hdp, _⟩ := id hq.s1
  obtain ⟨yo, yp, rfl, _, hyp, _⟩ := id hq.s3
  have c3 := hq.c3
  have hBn := World.new_ne w ⟨B, 3, none⟩ hq.c3
  have hBlt := hq.lt
  clear hq hg
  go_enter Try.func22, Try.ntmps22
  go_wp2_with fail
  go_region_held (fun w' => w'.cell? ⟨B, 3, none⟩ = some (.slice yo sc.length yp)) (go_keep)
    (first | (go_at_call 59; refine (unhide hF _ (by first | exact (Below.refl _ _).drew | exact (Below.refl _ _).drew.alloc (Nat.le_refl _) _)).mono ?_; rintro e w3 ⟨g1, n1, rfl, ho1, hb1⟩; have HP1 := hide (World.ownsRow.lt ho1 g1 rfl); have HO1 := hide ho1; have HB1 := hide hb1; have HB := hide (show Below w.heap.size w w3 from Below.trans (by first | exact (Below.refl _ _).drew | exact (Below.refl _ _).drew.alloc (Nat.le_refl _) _) (hb1.mono (by simp))); have c3 := (unhide HQ w3 (unhide HB)).c3; have hBn3 := World.new_ne w3 ⟨B, 3, none⟩ c3; (first | have HV : Hid (Var w3 w.heap.size _ _) := hide ((Var.new w.drew _ _ _).later hb1) | skip); clear hb1 ho1) | (go_at_call 60; refine (copied_any _ sc _ (unhide HQ _ (by first | exact unhide HB | exact (unhide HB).alloc (unhide HB).size _)).s3 (by omega)).mono ?_; rintro e w4 ⟨rfl, ho2, hb2⟩; have HP2 := hide (World.ownsRow.lt ho2 _ rfl); have HO2 := hide ho2; have HB2 := hide hb2; have HB := hide (show Below w.heap.size w w4 from Below.trans (by first | exact unhide HB | exact (unhide HB).alloc (unhide HB).size _) (hb2.mono (by have := (unhide HB).size; simp; omega))); have c3 := (unhide HQ w4 (unhide HB)).c3; have hBn4 := World.new_ne w4 ⟨B, 3, none⟩ c3; (first | have HV := hide ((Var.new _ _ _ _).later hb2) | have HV := hide ((unhide HV).later hb2) | skip); (first | (have y0 := (unhide HV).c0; have y1 := (unhide HV).c1; have z0 := (unhide HV).f0; have z1 := (unhide HV).f1) | skip); clear hb2 ho2))
  · have hM := hide (mid_new (unhide HQ) (unhide HB) (((unhide HO1).later (unhide HB2))) ((unhide HO2).mono (Nat.le_trans (unhide HB1).size (Nat.le_refl _))) 70)
    generalize w4.alloc (.cells #[.slice (some ⟨g1, 0, none⟩) n1 n1, .slice (some ⟨w3.heap.size, 0, none⟩) sc.length sc.length] 70) = W at *
    generalize w3.heap.size = g2 at *
    generalize w4.heap.size = N at *
    clear HO1 HB1 HO2 HB2 HB HQ hF HP1 HP2
    cases cell
    · have d0 := (unhide hM).v.c0
      have d1 := (unhide hM).v.c1
      have F := hide ((unhide hM).fin hb4 72)
      clear hM
      go_wp2
      go_ret
      exact ⟨_, rfl, (unhide F).1, (unhide F).2⟩
    · have c1 := (unhide hM).q.c1
      go_wp2_with fail
      refine (copied_any _ nc _ (unhide hM).q.s1 (by omega)).mono ?_
      rintro e w5 ⟨rfl, ho, hb⟩
      obtain ⟨hv, hd⟩ := (unhide hM).fin2 hb4 72 hb ho
      have F := hide hd
      obtain ⟨d0, d1, d2, d3⟩ := hv
      clear hd hM ho hb c1
      generalize W.heap.size = g3 at *
      go_wp2
      go_ret
      exact ⟨_, rfl, (unhide F).1, (unhide F).2⟩
  · have hM := hide (mid_put (unhide HQ) (unhide HB) (((unhide HO1).later (below_new _ _)).later (unhide HB2)) ((unhide HO2).mono (by have := (unhide HB1).size; simp at this ⊢; omega)) (unhide HV) (by have := unhide HP1; omega) (by simp) (by have := (unhide HB1).size; simpa using this))
    simp only [World.size_alloc] at hM
    generalize (w4.setCell ⟨w3.heap.size, 0, none⟩ (.slice (some ⟨g1, 0, none⟩) n1 n1)).setCell ⟨w3.heap.size, 1, none⟩ (.slice (some ⟨w3.heap.size + 1, 0, none⟩) sc.length sc.length) = W at *
    generalize w3.heap.size + 1 = g2 at *
    generalize w3.heap.size = N at *
    clear HO1 HB1 HO2 HB2 HB HQ hF HP1 HP2
    cases cell
    · have d0 := (unhide hM).v.c0
      have d1 := (unhide hM).v.c1
      have F := hide ((unhide hM).fin hb4 72)
      clear hM
      go_wp2
      go_ret
      exact ⟨_, rfl, (unhide F).1, (unhide F).2⟩
    · have c1 := (unhide hM).q.c1
      go_wp2_with fail
      refine (copied_any _ nc _ (unhide hM).q.s1 (by omega)).mono ?_
      rintro e w5 ⟨rfl, ho, hb⟩
      obtain ⟨hv, hd⟩ := (unhide hM).fin2 hb4 72 hb ho
      have F := hide hd
      obtain ⟨d0, d1, d2, d3⟩ := hv
      clear hd hM ho hb c1
      generalize W.heap.size = g3 at *
      go_wp2
      go_ret
      exact ⟨_, rfl, (unhide F).1, (unhide F).2⟩
  · have hM := hide (mid_put (unhide HQ) (unhide HB) (((unhide HO1).mono (by simp)).later (unhide HB2)) ((unhide HO2).mono (by have := (unhide HB1).size; simp at this ⊢; omega)) (unhide HV) (by have := unhide HP1; simp at this; omega) (by have := (unhide HB1).size; simp at this; omega) (Nat.le_refl _))
    generalize (w4.setCell ⟨w.heap.size, 0, none⟩ (.slice (some ⟨g1, 0, none⟩) n1 n1)).setCell ⟨w.heap.size, 1, none⟩ (.slice (some ⟨w3.heap.size, 0, none⟩) sc.length sc.length) = W at *
    generalize w3.heap.size = g2 at *
    clear HO1 HB1 HO2 HB2 HB HQ hF HP1 HP2
    cases cell
    · have d0 := (unhide hM).v.c0
      have d1 := (unhide hM).v.c1
      have F := hide ((unhide hM).fin hb4 72)
      clear hM
      go_wp2
      go_ret
      exact ⟨_, rfl, (unhide F).1, (unhide F).2⟩
    · have c1 := (unhide hM).q.c1
      go_wp2_with fail
      refine (copied_any _ nc _ (unhide hM).q.s1 (by omega)).mono ?_
      rintro e w5 ⟨rfl, ho, hb⟩
      obtain ⟨hv, hd⟩ := (unhide hM).fin2 hb4 72 hb ho
      have F := hide hd
      obtain ⟨d0, d1, d2, d3⟩ := hv
      clear hd hM ho hb c1
      generalize W.heap.size = g3 at *
      go_wp2
      go_ret
      exact ⟨_, rfl, (unhide F).1, (unhide F).2⟩
end

end Go.Proofs.Yteanjnkfoddfmaa

namespace Go.Proofs.Yteanjnkfoddfmaa
open Go.RowKit
set_option linter.unusedVariables false

theorem Appd.own {B : Nat} {w w' : World} {v v' : Value} {l news : List UInt8} (h : Appd w v l news v' w') (ho : Own B w v l) (hB : B ≤ w.heap.size) : Own B w' v' (l ++ news) ∧ Below B w w' := by
  rcases h with ⟨rfl, rfl, rfl⟩ | ⟨g, n, c, hc, rfl, rfl, _, ho', hg⟩ | ⟨ho', hg⟩
  · rw [List.append_nil]
    exact ⟨ho, Below.refl _ _⟩
  · have hlt := World.ownsRow.lt ho g rfl
    refine ⟨⟨ho'.1, ?_⟩, (Below.refl B w).grown hg hB (fun k hk => by injection hk with hk; omega)⟩
    rcases ho'.2 with ⟨e, _⟩ | ⟨g', cap, cur, e, _, rest⟩
    · cases e
    · injection e with e1 e2 e3
      injection e1 with e1
      injection e1 with e1
      subst e1 e2 e3
      exact .inr ⟨_, _, cur, rfl, hlt.1, rest⟩
  · exact ⟨ho'.mono hB, (Below.refl B w).grown hg hB (fun k hk => by cases hk)⟩

theorem wpList_append_ob {ops : Array Oper} {rest : List Oper} {o : Oper} {a : Act} {Q : Exit → Act → World → Prop} (w : World) (hgd : o.guard = none) (s x : Operand)
    (ho : o.op = .call { callee := .builtin .append, args := #[s, x], argTypes := #[26, 26] })
    (B : Nat) (v xv : Value) (l news : List UInt8) (hB : B ≤ w.heap.size) (hown : Own B w v l) (hev : a.eval s = v) (hxv : a.eval x = xv) (hx : Sl w xv news)
    (hlen : l.length + news.length ≤ 70368744177664)
    (hK : ∀ v' w', Own B w' v' (l ++ news) → Below B w w' → wpList Try.prog ops Q rest (a.put o.dst v') w') : wpList Try.prog ops Q (o :: rest) a w :=
  wpList_append_gr w hgd s x ho v xv l news (.inr (hown.mono (Nat.zero_le _))) hown.sl hev hxv hx hlen fun v' w' h => hK v' w' (h.own hown hB).1 (h.own hown hB).2

theorem row_form {B : Nat} {w : World} {v : Value} {l : List UInt8} (h : Own B w v l) (hl : 0 < l.length) : ∃ g cap, v = .slice (some ⟨g, 0, none⟩) l.length cap := by
  rcases h.2 with ⟨_, h0⟩ | ⟨g, cap, cur, rfl, _⟩
  · omega
  · exact ⟨g, cap, rfl⟩

/-- A byte of a row of one's own is written. -/
theorem put_row {B g n cap : Nat} {L : List UInt8} {w : World} (ho : Own B w (.slice (some ⟨g, 0, none⟩) n cap) L) (j : Nat) (hj : j < L.length) (hn : L.length = n) (x b : UInt8) (hx : L[j]? = some x) :
    w.cell? ⟨g, j, none⟩ = some (.int .u8 (x.toNat : Int)) ∧ w.frozen? ⟨g, j, none⟩ = false ∧
      Own B (w.setCell ⟨g, j, none⟩ (.int .u8 (b.toNat : Int))) (.slice (some ⟨g, 0, none⟩) n cap) (L.set j b) ∧ Fr (fun k => k = g) w (w.setCell ⟨g, j, none⟩ (.int .u8 (b.toNat : Int))) := by
  subst hn
  have hc := World.ownsRow.cellAt ho j (by omega)
  rw [bc_get, hx] at hc
  have hf := World.ownsRow.frozenAt ho j
  have hst := World.ownsRow.stored ho j (.int .u8 (b.toNat : Int))
  refine ⟨hc, hf, ?_, (Fr.refl (fun k => k = g) w).set (p := ⟨g, j, none⟩) rfl _⟩
  unfold Own
  rw [bc_set, List.length_set]
  exact hst.1

theorem add1 (b : UInt8) : ((b.toNat : Int) + 1) % 256 = ((b + 1).toNat : Int) := by
  rw [UInt8.toNat_add]
  simp

theorem Own.other {B : Nat} {T : Nat → Prop} {w w' : World} {v : Value} {l : List UInt8} (h : Own B w v l) (hf : Fr T w w') (hn : ∀ g, v.ownBlock = some g → ¬ T g) : Own B w' v l := h.frame fun g hg hlt => hf.block g hlt (hn g hg)

section
variable {S : Nat → Prop}

theorem file_g (B : Nat) (nf nc sf sc : List UInt8) (w : World) (h : Dk S w B nf nc sf sc) :
    Calls Try.prog 27 #[.pointer (some ⟨B, 0, none⟩)] w fun e w' => ∃ g, e = .returned (.slice (some ⟨g, 0, none⟩) nf.length nf.length) ∧ Own w.heap.size w' (.slice (some ⟨g, 0, none⟩) nf.length nf.length) nf ∧ Below w.heap.size w w' :=
  (file_ok B nf nc sf sc w h).mono fun e w' h => ⟨w.heap.size, h⟩

theorem cell_g (B : Nat) (nf nc sf sc : List UInt8) (w : World) (h : Dk S w B nf nc sf sc) :
    Calls Try.prog 28 #[.pointer (some ⟨B, 0, none⟩)] w fun e w' => ∃ g, e = .returned (.slice (some ⟨g, 0, none⟩) nc.length nc.length) ∧ Own w.heap.size w' (.slice (some ⟨g, 0, none⟩) nc.length nc.length) nc ∧ Below w.heap.size w w' :=
  (cell_ok B nf nc sf sc w h).mono fun e w' h => ⟨w.heap.size, h⟩
end

end Go.Proofs.Yteanjnkfoddfmaa

namespace Go.Proofs.Yteanjnkfoddfmaa

theorem held_mono {P : Program} {md : Region.Mode} {ops : Array Oper} {Q : Exit → Act → World → Prop} {S S' : World → Prop} (h : ∀ w, S' w → S w) :
    ∀ (fuel : Nat) (listed : Array Bool) (a : Act) (w : World), wpAnyH P md ops Q S' fuel listed a w → wpAnyH P md ops Q S fuel listed a w
  | 0, _, _, _, k => k
  | fuel + 1, _, _, _, k => ⟨k.1, fun i hi => wpOp_mono (fun a' w' k' => ⟨h w' k'.1, held_mono h fuel _ a' w' k'.2⟩) (k.2 i hi)⟩

/-- Operation number i is taken first; its slot is named. -/
theorem held_take {P : Program} {md : Region.Mode} {ops : Array Oper} {Q : Exit → Act → World → Prop} {S : World → Prop} (i d : Nat) {oi : Oper} {v : Value} {fuel : Nat} {listed : Array Bool} {a : Act} {w : World} (hi : ops[i]? = some oi) (hd : oi.dst = some d)
    (hs : Region.noSelect ops = true) (hf : Region.free md ops listed i = true) (hr : (Region.ready md ops listed).contains i = true)
    (hQ : ∀ c a w, Q (.panic c) (a.put (some d) v) w → Q (.panic c) a w) (hw : Region.wanted oi (yielded ops a.tmps) = true) (hS : S w) (hy : ∀ y, S y → (execOp a.eval oi).run P y = .ok (.value v) y)
    (h : wpAnyH P md ops Q S fuel (listed.setIfInBounds i true) (a.put (some d) v) w) : wpAnyH P md ops Q S (fuel + 1) listed a w :=
  wpAnyH_take hi hs hf hr (by rw [hd]; exact hQ) (Or.inl ⟨hw, hy⟩) hS (by rw [hd]; exact h)

end Go.Proofs.Yteanjnkfoddfmaa
