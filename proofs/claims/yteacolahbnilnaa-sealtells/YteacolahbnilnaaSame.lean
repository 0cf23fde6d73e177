/-
  Slices of slices of bytes; wampumref02.Same: where both lead to the same lists it answers true.
-/
import Derived.Test.YteacolahbnilnaaAlive
namespace Go.Proofs.Yteacolahbnilnaa
open Go.RowKit
set_option linter.unusedVariables false

/-- The value v is a slice of slices that lead to the lists ls in the world w. -/
def Bss (w : World) (v : Value) (ls : List (List UInt8)) : Prop :=
  ∃ ao c, v = .slice ao ls.length c ∧ ls.length ≤ c ∧ c ≤ maxLen ∧ (ao = none → ls = [] ∧ c = 0) ∧ ∀ a, ao = some a → ∀ (j : Nat) (x : List UInt8), ls[j]? = some x → ∃ u, w.cell? (a.add j) = some u ∧ Sl w u x

theorem Bss.below {B : Nat} {w w' : World} {v : Value} {ls : List (List UInt8)} (h : Bss w v ls) (hb : Below B w w') (hB : w.heap.size ≤ B) : Bss w' v ls := by
  obtain ⟨ao, c, rfl, h1, h2, h3, h4⟩ := h
  refine ⟨ao, c, rfl, h1, h2, h3, fun a ha j x hx => ?_⟩
  obtain ⟨u, hc, hs⟩ := h4 a ha j x hx
  refine ⟨u, ?_, hs.below hb hB⟩
  rw [hb.cell (p := a.add j) (Nat.lt_of_lt_of_le (World.block_lt_of_cell? w _ hc) hB)]
  exact hc

theorem Bss.drewN {w : World} {v : Value} {ls : List (List UInt8)} (h : Bss w v ls) (n : Nat) : Bss (w.drewN n) v ls := h

theorem Bss.addr {w : World} {ao : Option Addr} {n c : Nat} {ls : List (List UInt8)} (h : Bss w (.slice ao n c) ls) (hl : 0 < ls.length) : ∃ b o, ao = some ⟨b, o, none⟩ := by
  obtain ⟨bo, d, e, h1, h2, h3, h4⟩ := h
  injection e with e1 e2 e3
  subst e1
  cases ao with
  | none => have := (h3 rfl).1; subst this; simp at hl
  | some a =>
    obtain ⟨u, hc, _⟩ := h4 a rfl 0 ls[0] (List.getElem?_eq_getElem hl)
    rw [Addr.add_zero'] at hc
    have hs := World.cell?_spot hc
    obtain ⟨b, o, s⟩ := a
    simp at hs
    subst hs
    exact ⟨b, o, rfl⟩

theorem Bss.cell {w : World} {b o n c : Nat} {ls : List (List UInt8)} (h : Bss w (.slice (some ⟨b, o, none⟩) n c) ls) (j : Nat) (hj : j < ls.length) : ∃ ao d, w.cell? ⟨b, o + j, none⟩ = some (.slice ao ls[j].length d) ∧ Sl w (.slice ao ls[j].length d) ls[j] := by
  obtain ⟨bo, d, e, h1, h2, h3, h4⟩ := h
  injection e with e1 e2 e3
  subst e1
  obtain ⟨u, hc, hs⟩ := h4 _ rfl j ls[j] (List.getElem?_eq_getElem hj)
  rw [Addr.add_lit] at hc
  obtain ⟨ao, k, rfl, _⟩ := id hs
  exact ⟨ao, k, hc, hs⟩

theorem Bss.take {w : World} {ao : Option Addr} {n c : Nat} {ls : List (List UInt8)} (h : Bss w (.slice ao n c) ls) (k : Nat) (hk : k ≤ ls.length) : Bss w (.slice ao k c) (ls.take k) := by
  obtain ⟨bo, d, e, h1, h2, h3, h4⟩ := h
  injection e with e1 e2 e3
  subst e1; subst e2; subst e3
  refine ⟨ao, c, by rw [List.length_take]; congr 1; omega, by rw [List.length_take]; omega, h2, fun e => ?_, fun a ha j x hx => ?_⟩
  · obtain ⟨rfl, rfl⟩ := h3 e; simp
  · refine h4 a ha j x ?_
    by_cases hj : j < k
    · rw [List.getElem?_take_of_lt hj] at hx; exact hx
    · rw [List.getElem?_eq_none (by rw [List.length_take]; omega)] at hx; cases hx

/-- A row of slices of the call's own. -/
theorem bss_row {B : Nat} {w : World} {v : Value} {vs : List Value} {ls : List (List UInt8)} (h : w.ownsRow B 22 1 v ls.length vs) (hs : ∀ (i : Nat) (u : Value) (x : List UInt8), vs[i]? = some u → ls[i]? = some x → Sl w u x) : Bss w v ls := by
  have hl := h.1
  rcases id h.2 with ⟨rfl, h0⟩ | ⟨g, cap, cur, rfl, hb, hg, h1, h2, h3, h4⟩
  · have : ls = [] := List.eq_nil_of_length_eq_zero h0
    subst this
    exact ⟨none, 0, rfl, Nat.le_refl _, Nat.zero_le _, fun _ => ⟨rfl, rfl⟩, fun a ha => by cases ha⟩
  · refine ⟨_, _, rfl, h1, h2, fun e => (by cases e), fun a ha j x hx => ?_⟩
    cases ha
    have hj : j < ls.length := (List.getElem?_eq_some_iff.1 hx).1
    have hc := h.cellAt j (by omega)
    rw [List.getElem?_eq_getElem (by omega)] at hc
    rw [Addr.add_lit, Nat.zero_add]
    exact ⟨_, hc, hs j _ x (List.getElem?_eq_getElem _) hx⟩

theorem Recs.bss {B : Nat} {w : World} {v : Value} {rs : List (List UInt8)} (h : Recs B w v rs) : Bss w v rs := by
  obtain ⟨vs, h1, h2⟩ := h
  exact bss_row h1 fun i u x hu hx => (h2 i u x hu hx).sl

set_option maxRecDepth 100000 in
set_option maxHeartbeats 2000000 in
theorem same_yes (va vb : Value) (ls : List (List UInt8)) (w : World) (ha : Bss w va ls) (hb : Bss w vb ls) :
    Calls Try.prog 17 #[va, vb] w fun e w' => e = .returned (.bool true) ∧ ∃ n, w' = w.drewN n := by
  have hva : ∃ ao c, va = .slice ao ls.length c ∧ ls.length ≤ c ∧ c ≤ maxLen := by obtain ⟨ao, c, rfl, h1, h2, _⟩ := ha; exact ⟨_, _, rfl, h1, h2⟩
  obtain ⟨ao, c, rfl, h1, h2⟩ := hva
  have hvb : ∃ ao c, vb = .slice ao ls.length c ∧ ls.length ≤ c ∧ c ≤ maxLen := by obtain ⟨ao, c, rfl, h1, h2, _⟩ := hb; exact ⟨_, _, rfl, h1, h2⟩
  obtain ⟨bo, d, rfl, h3, h4⟩ := hvb
  unfold maxLen at h2 h4
  have HA := hide ha
  have HB := hide hb
  clear ha hb
  go_enter Try.func17, Try.ntmps17
  go_wp2
  go_loopw [5] (fun i wr => ∃ k n : Nat, k ≤ ls.length ∧ i = .int .i64 k ∧ wr = w.drewN n) (fun i _ => ls.length - (intOf i).toNat)
  case atStart => exact ⟨0, 0, by omega, rfl, rfl⟩
  case round =>
    obtain ⟨k, n, hk, rfl, rfl⟩ := hrel
    by_cases hlt : k < ls.length
    · obtain ⟨b, o, rfl⟩ := HA.out.addr (by omega)
      obtain ⟨b2, o2, rfl⟩ := HB.out.addr (by omega)
      obtain ⟨xa, xc, hc1, hs1⟩ := HA.out.cell k hlt
      obtain ⟨ya, yc, hc2, hs2⟩ := HB.out.cell k hlt
      obtain ⟨x, hx⟩ : ∃ x, Hid (ls[k] = x) := ⟨ls[k], Eq.refl ls[k]⟩
      rw [hx.out] at hc1 hs1 hc2 hs2
      have hcA := fun nq => conv_sl (w.drewN nq) _ _ (hs1.drewN nq)
      have hcB := fun nq => conv_sl (w.drewN nq) _ _ (hs2.drewN nq)
      have hkI : (k : Int) < (ls.length : Int) := by omega
      clear hs1 hs2
      go_wp2_with fail
      go_quiet (fail)
      go_wp2
      go_roundw
      case rel => exact ⟨k + 1, _, by omega, by go_num, rfl⟩
      case measure => simp [intOf]; omega
    · go_wp2
      go_ret
      exact ⟨rfl, _, rfl⟩

end Go.Proofs.Yteacolahbnilnaa
