/-
  The disk and the document's disk side by side: which blocks are whose. No law is proved here.
-/
import Derived.Test.YtdhjogfalkmggaaRef3
namespace Go.Proofs.Ytdhjogfalkmggaa
open Go.RowKit
set_option linter.unusedVariables false

/-- A disk and a document's disk that have no block in common, behind all that was there; and an act in a block of its own. -/
def Both (w W : World) (N : Nat) (z : ActV) (D M : Nat) (nf nc sf sc mf mc tf tc : List UInt8) : Prop :=
  ∃ S T : Nat → Prop, (∀ k, S k → ¬ T k) ∧ (∀ k, S k → w.heap.size ≤ k ∧ k ≠ N) ∧ (∀ k, T k → w.heap.size ≤ k ∧ k ≠ N) ∧ Dk S W D nf nc sf sc ∧ Rk T W M mf mc tf tc ∧ Below w.heap.size w W ∧ ActAt W N z

/-- The same without an act. -/
def Bth (w W : World) (D M : Nat) (nf nc sf sc : List UInt8) : Prop :=
  ∃ S T : Nat → Prop, (∀ k, S k → ¬ T k) ∧ (∀ k, S k → w.heap.size ≤ k) ∧ (∀ k, T k → w.heap.size ≤ k) ∧ Dk S W D nf nc sf sc ∧ Rk T W M nf nc sf sc ∧ Below w.heap.size w W

section
variable {w W W1 : World} {N D M : Nat} {z : ActV} {nf nc sf sc mf mc tf tc : List UInt8}

theorem Bth.b (h : Bth w W D M nf nc sf sc) : Below w.heap.size w W := by obtain ⟨_, _, _, _, _, _, _, h⟩ := h; exact h
theorem Both.b (h : Both w W N z D M nf nc sf sc mf mc tf tc) : Below w.heap.size w W := by obtain ⟨_, _, _, _, _, _, _, h, _⟩ := h; exact h
theorem Both.act (h : Both w W N z D M nf nc sf sc mf mc tf tc) : ActAt W N z := by obtain ⟨_, _, _, _, _, _, _, _, h⟩ := h; exact h

theorem Both.later (h : Both w W N z D M nf nc sf sc mf mc tf tc) (hb : Below W.heap.size W W1) : Both w W1 N z D M nf nc sf sc mf mc tf tc := by
  obtain ⟨S, T, h1, h2, h3, h4, h5, h6, h7⟩ := h
  exact ⟨S, T, h1, h2, h3, h4.later hb, h5.later hb, h6.trans (hb.mono h6.size), h7.later hb⟩

theorem Both.bth (h : Both w W N z D M nf nc sf sc nf nc sf sc) : Bth w W D M nf nc sf sc := by
  obtain ⟨S, T, h1, h2, h3, h4, h5, h6, h7⟩ := h
  exact ⟨S, T, h1, fun k hk => (h2 k hk).1, fun k hk => (h3 k hk).1, h4, h5, h6⟩

theorem Bth.act (h : Bth w W D M nf nc sf sc) (z : ActV) (t : TypeId) : Both w (W.alloc (.cells #[.int .i64 z.kind, .int .i64 z.n, z.v, .bool z.torn, .bool z.cell] t)) W.heap.size z D M nf nc sf sc nf nc sf sc := by
  obtain ⟨S, T, h1, h2, h3, h4, h5, h6⟩ := h
  have hb := below_new W (.cells #[.int .i64 z.kind, .int .i64 z.n, z.v, .bool z.torn, .bool z.cell] t)
  exact ⟨fun k => S k ∧ k < W.heap.size, fun k => T k ∧ k < W.heap.size, fun k a b => h1 k a.1 b.1, fun k a => ⟨h2 k a.1, by have := a.2; omega⟩, fun k a => ⟨h3 k a.1, by have := a.2; omega⟩,
    (h4.mono (fun k hk a => ⟨a, hk⟩)).later hb, (h5.mono (fun k hk a => ⟨a, hk⟩)).later hb, h6.trans (hb.mono h6.size), ActAt.new W z t⟩

/-- The disk is written: the other one stays. -/
theorem Both.asD (h : Both w W N z D M nf nc sf sc mf mc tf tc) : ∃ S : Nat → Prop, Dk S W D nf nc sf sc ∧ (∀ k, W.heap.size ≤ k → S k) ∧ ∀ (W1 : World) (a b c d : List UInt8), Dk S W1 D a b c d → Fr S W W1 → Both w W1 N z D M a b c d mf mc tf tc := by
  obtain ⟨S, T, h1, h2, h3, h4, h5, h6, h7⟩ := h
  have hN := h7.lt
  have hz := h6.size
  refine ⟨fun k => S k ∨ W.heap.size ≤ k, h4.mono (fun k _ a => .inl a), fun k hk => .inr hk, fun W1 a b c d hd hf => ?_⟩
  refine ⟨fun k => S k ∨ W.heap.size ≤ k, fun k => T k ∧ k < W.heap.size, fun k a b => ?_, fun k a => ?_, fun k a => h3 k a.1, hd, (h5.mono (fun k hk a => ⟨a, hk⟩)).other hf (fun k _ a b => ?_), h6.trans (hf.below (fun k a => ?_) hz), h7.other hf (fun a => ?_)⟩
  · rcases a with a | a
    · exact h1 k a b.1
    · have := b.2; omega
  · rcases a with a | a
    · exact h2 k a
    · exact ⟨by omega, by omega⟩
  · rcases b with b | b
    · exact h1 k b a.1
    · have := a.2; omega
  · rcases a with a | a
    · exact (h2 k a).1
    · omega
  · rcases a with a | a
    · exact (h2 N a).2 rfl
    · omega

/-- The document's disk is written: the other one stays. -/
theorem Both.asM (h : Both w W N z D M nf nc sf sc mf mc tf tc) : ∃ T : Nat → Prop, Rk T W M mf mc tf tc ∧ (∀ k, W.heap.size ≤ k → T k) ∧ ∀ (W1 : World) (a b c d : List UInt8), Rk T W1 M a b c d → Fr T W W1 → Both w W1 N z D M nf nc sf sc a b c d := by
  obtain ⟨S, T, h1, h2, h3, h4, h5, h6, h7⟩ := h
  have hN := h7.lt
  have hz := h6.size
  refine ⟨fun k => T k ∨ W.heap.size ≤ k, h5.mono (fun k _ a => .inl a), fun k hk => .inr hk, fun W1 a b c d hd hf => ?_⟩
  refine ⟨fun k => S k ∧ k < W.heap.size, fun k => T k ∨ W.heap.size ≤ k, fun k a b => ?_, fun k a => h2 k a.1, fun k a => ?_, (h4.mono (fun k hk a => ⟨a, hk⟩)).other hf (fun k _ a b => ?_), hd, h6.trans (hf.below (fun k a => ?_) hz), h7.other hf (fun a => ?_)⟩
  · rcases b with b | b
    · exact h1 k a.1 b
    · have := a.2; omega
  · rcases a with a | a
    · exact h3 k a
    · exact ⟨by omega, by omega⟩
  · rcases b with b | b
    · exact h1 k a.1 b
    · have := a.2; omega
  · rcases a with a | a
    · exact (h3 k a).1
    · omega
  · rcases a with a | a
    · exact (h3 N a).2 rfl
    · omega

/-- The disk that a crash left takes the disk's place. -/
theorem Both.crashD (h : Both w W N z D M nf nc sf sc mf mc tf tc) {X : Nat} {a b c d : List UInt8} (hX : Dk (fun k => W.heap.size ≤ k) W1 X a b c d) (hb : Below W.heap.size W W1) : Both w W1 N z X M a b c d mf mc tf tc := by
  obtain ⟨S, T, h1, h2, h3, h4, h5, h6, h7⟩ := h
  have hN := h7.lt
  have hz := h6.size
  exact ⟨fun k => W.heap.size ≤ k, fun k => T k ∧ k < W.heap.size, fun k a b => by have := b.2; omega, fun k a => ⟨by omega, by omega⟩, fun k a => h3 k a.1, hX, (h5.mono (fun k hk a => ⟨a, hk⟩)).later hb, h6.trans (hb.mono hz), h7.later hb⟩

/-- The document's disk that a crash left takes its place. -/
theorem Both.crashM (h : Both w W N z D M nf nc sf sc mf mc tf tc) : ∃ T : Nat → Prop, Rk T W M mf mc tf tc ∧ (∀ k, W.heap.size ≤ k → T k) ∧ ∀ (W1 : World) (X : Nat) (a b c d : List UInt8), Rk T W1 X a b c d → Below W.heap.size W W1 → Both w W1 N z D X nf nc sf sc a b c d := by
  obtain ⟨S, T, h1, h2, h3, h4, h5, h6, h7⟩ := h
  have hN := h7.lt
  have hz := h6.size
  refine ⟨fun k => T k ∨ W.heap.size ≤ k, h5.mono (fun k _ a => .inl a), fun k hk => .inr hk, fun W1 X a b c d hd hb => ?_⟩
  refine ⟨fun k => S k ∧ k < W.heap.size, fun k => T k ∨ W.heap.size ≤ k, fun k a b => ?_, fun k a => h2 k a.1, fun k a => ?_, (h4.mono (fun k hk a => ⟨a, hk⟩)).later hb, hd, h6.trans (hb.mono hz), h7.later hb⟩
  · rcases b with b | b
    · exact h1 k a.1 b
    · have := a.2; omega
  · rcases a with a | a
    · exact h3 k a
    · exact ⟨by omega, by omega⟩
end

end Go.Proofs.Ytdhjogfalkmggaa
