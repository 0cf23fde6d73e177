/-
  The contract of the closure of Keys, and of slices.IndexFunc over it. No law is proved here.
-/
import Derived.Test.YtejceloahonelaaClip
import Derived.Lib.SlKept
namespace Go.Proofs.Ytejceloahonelaa
open Go.RowKit Go.Sort
set_option linter.unusedVariables false

section
set_option maxRecDepth 100000
set_option maxHeartbeats 1000000

theorem lacks_any (c : Nat) (f t k : ByteArray) (w : World) (h : Sp w c f t) : Calls Try.prog 25 #[.string k, .pointer (some ⟨c, 0, none⟩)] w fun e w' => e = .returned (.bool (!hasB f t k)) ∧ Below w.heap.size w w' := by
  obtain ⟨c0, c1, f0, f1⟩ := h
  go_enter Try.func25, Try.ntmps25
  go_wp2_with fail
  refine (has_any _ _ _ _).mono ?_
  rintro e w1 ⟨rfl, hb⟩
  have H := hide hb
  clear hb
  go_wp2
  go_ret
  exact ⟨rfl, unhide H⟩

/-- What slices.IndexFunc answers. -/
structure Idx (f t : ByteArray) (D : Array ByteArray) (i : Int) : Prop where
  all : ∀ j : Nat, (j : Int) < i ∨ i = -1 → j < D.size → hasB f t D[j]! = true
  hit : i = -1 ∨ ∃ k : Nat, i = k ∧ k < D.size ∧ hasB f t D[k]! = false

theorem index_any (g c cap : Nat) (f t : ByteArray) (D : Array ByteArray) (w : World) (hH : Holds Value.string w g 0 D) (hc : Sp w c f t) (hn : D.size ≤ 9223372036854775807) (hg : g < w.heap.size) :
    Calls Try.prog 30 #[.slice (some ⟨g, 0, none⟩) D.size cap, .func (.func 25) #[] #[.pointer (some ⟨c, 0, none⟩)]] w fun e w' => ∃ i, e = .returned (.int .i64 i) ∧ Idx f t D i ∧ Below w.heap.size w w' := by
  have HH := hide hH
  have Hc := hide hc
  clear hH hc
  go_enter Try.func30, Try.ntmps30
  go_wp2
  go_loopw [8] (fun i wr => ∃ k : Nat, i = .int .i64 k ∧ k ≤ D.size ∧ Hid (∀ j : Nat, j < k → hasB f t D[j]! = true) ∧ Hid (Below w.heap.size w wr)) (fun i _ => D.size - (intOf i).toNat)
  case atStart => exact ⟨0, rfl, by omega, (fun j h => absurd h (Nat.not_lt_zero _)), Below.refl _ _⟩
  case round =>
    obtain ⟨k, rfl, hk, Ha, Hb⟩ := hrel
    by_cases hlt : k < D.size
    · have hcell : wr.cell? ⟨g, k, none⟩ = some (.string D[k]!) := by
        have := ((unhide HH) k hlt).1
        rw [Nat.zero_add] at this
        exact ((unhide Hb).cell hg).trans this
      generalize hx : D[k]! = x at hcell
      have Hx := hide hx
      clear hx
      have hs := hide ((unhide Hc).later (unhide Hb))
      go_wp2_with fail
      refine (lacks_any c f t x wr (unhide hs)).mono ?_
      rintro e w1 ⟨rfl, hb⟩
      have Hb1 := hide ((unhide Hb).trans (hb.mono (unhide Hb).size))
      clear hb hcell
      cases hh : hasB f t x
      · go_wp2
        go_ret
        refine ⟨k, rfl, ⟨fun j hj hjs => ?_, .inr ⟨k, rfl, hlt, by rw [unhide Hx]; exact hh⟩⟩, unhide Hb1⟩
        rcases hj with hj | hj
        · exact unhide Ha j (by omega)
        · omega
      · go_wp2
        go_roundw
        case rel =>
          refine ⟨k + 1, by go_num, by omega, (fun j hj => ?_), unhide Hb1⟩
          by_cases e : j = k
          · subst e; rw [unhide Hx]; exact hh
          · exact unhide Ha j (by omega)
        case measure => simp [intOf]; omega
    · go_wp2
      go_ret
      refine ⟨-1, rfl, ⟨fun j hj hjs => unhide Ha j (by omega), .inl rfl⟩, unhide Hb⟩

end

end Go.Proofs.Ytejceloahonelaa
