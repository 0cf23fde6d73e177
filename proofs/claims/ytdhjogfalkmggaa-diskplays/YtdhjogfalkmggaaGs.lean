/-
  What the laws over one disk share: the disk and the act's block through a law; File and Cell with the answer's block as a letter. No law is proved here.
-/
import Derived.Test.YtdhjogfalkmggaaDiskNilW
import Derived.Deep.RegionHeld
namespace Go.Proofs.Ytdhjogfalkmggaa
open Go.RowKit
set_option linter.unusedVariables false

/-- What stands throughout a law over one disk: the disk, the act's block, and all that was there. -/
structure One (w wr : World) (D : Nat) (z : ActV) (nf nc sf sc : List UInt8) : Prop where
  d : Dk (fun k => w.heap.size < k) wr D nf nc sf sc
  a : ActAt wr w.heap.size z
  b : Below w.heap.size w wr

section
variable {w wr w' : World} {D : Nat} {z : ActV} {nf nc sf sc : List UInt8}

theorem One.later (h : One w wr D z nf nc sf sc) (hb : Below wr.heap.size wr w') : One w w' D z nf nc sf sc := ⟨h.d.later hb, h.a.later hb, h.b.trans (hb.mono h.b.size)⟩

theorem One.step (h : One w wr D z nf nc sf sc) {nf' nc' sf' sc' : List UInt8} (hd : Dk (fun k => w.heap.size < k) w' D nf' nc' sf' sc') (hf : Fr (fun k => w.heap.size < k) wr w') : One w w' D z nf' nc' sf' sc' :=
  ⟨hd, h.a.other hf (by simp), h.b.trans (hf.below (fun k hk => Nat.le_of_lt hk) h.b.size)⟩

theorem One.new (h : One w wr D z nf nc sf sc) : ∀ k, wr.heap.size ≤ k → w.heap.size < k := fun k hk => by have := h.a.lt; omega
end

theorem act_n {w : World} {z : ActV} (h : ActOk w z) : z.n ≤ 9223372036854775807 := h.n1

section
variable {S : Nat → Prop}

theorem file_g (B : Nat) (nf nc sf sc : List UInt8) (w : World) (h : Dk S w B nf nc sf sc) :
    Calls Try.prog 20 #[.pointer (some ⟨B, 0, none⟩)] w fun e w' => ∃ g, e = .returned (.slice (some ⟨g, 0, none⟩) nf.length nf.length) ∧ Own w.heap.size w' (.slice (some ⟨g, 0, none⟩) nf.length nf.length) nf ∧ Below w.heap.size w w' :=
  (file_ok B nf nc sf sc w h).mono fun e w' h => ⟨w.heap.size, h⟩

theorem cell_g (B : Nat) (nf nc sf sc : List UInt8) (w : World) (h : Dk S w B nf nc sf sc) :
    Calls Try.prog 21 #[.pointer (some ⟨B, 0, none⟩)] w fun e w' => ∃ g, e = .returned (.slice (some ⟨g, 0, none⟩) nc.length nc.length) ∧ Own w.heap.size w' (.slice (some ⟨g, 0, none⟩) nc.length nc.length) nc ∧ Below w.heap.size w w' :=
  (cell_ok B nf nc sf sc w h).mono fun e w' h => ⟨w.heap.size, h⟩
end

end Go.Proofs.Ytdhjogfalkmggaa
