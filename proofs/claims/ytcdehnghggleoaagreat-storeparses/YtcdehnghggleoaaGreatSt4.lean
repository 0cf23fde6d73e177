/-
  What a round of a loop over a store's keys may turn. No law is proved here.
-/
import Derived.Test.YtcdehnghggleoaaGreatGz6
import Derived.Test.YtcdehnghggleoaaGreatS5Keys
import Derived.Test.YtcdehnghggleoaaGreatIter
import Derived.RangeFuncNested
import Derived.RangeFuncCalls
import Derived.Deep.RegionHeld
namespace Go.Proofs.YtcdehnghggleoaaGreat
open Go.RowKit Go.Maps
set_option linter.unusedVariables false

/-- The box Bp does not hold a slice whose row is block i. -/
def NotRow (Bp : Nat) (W : World) (i : Nat) : Prop := ∀ n c, W.cell? ⟨Bp, 0, none⟩ ≠ some (.slice (some ⟨i, 0, none⟩) n c)
/-- What a round keeps: all but the blocks from B0 to B1 (the caller's variables), and the row of the slice that Bp holds. -/
structure Turn (B0 B1 Bp : Nat) (q : Bool) (W W' : World) : Prop where
  os : W'.os = W.os
  tape : W'.tape = W.tape
  output : W'.output = W.output
  size : W.heap.size ≤ W'.heap.size
  low : ∀ i, i < B0 → W'.heap[i]? = W.heap[i]?
  high : ∀ i o, W.heap[i]? = some o → B1 ≤ i → NotRow Bp W i → ((q = true ∧ o.isCells = false ∧ o.isWalk = false) ∨ W'.heap[i]? = some o) ∧ NotRow Bp W' i

theorem Turn.trans {B0 B1 Bp : Nat} {q : Bool} {a b c : World} (h : Turn B0 B1 Bp q a b) (k : Turn B0 B1 Bp q b c) : Turn B0 B1 Bp q a c := by
  refine ⟨k.os.trans h.os, k.tape.trans h.tape, k.output.trans h.output, Nat.le_trans h.size k.size, fun i hi => (k.low i hi).trans (h.low i hi), fun i o hi hr hn => ?_⟩
  obtain ⟨h1, h2⟩ := h.high i o hi hr hn
  have hlt : i < b.heap.size := Nat.lt_of_lt_of_le (Array.getElem?_eq_some_iff.1 hi).1 h.size
  obtain ⟨o', ho'⟩ : ∃ o', b.heap[i]? = some o' := ⟨_, Array.getElem?_eq_getElem hlt⟩
  obtain ⟨k1, k2⟩ := k.high i o' ho' hr h2
  refine ⟨?_, k2⟩
  rcases h1 with h1 | h1
  · exact .inl h1
  · rw [h1] at ho'
    cases ho'
    exact k1

/-- The loop's own turns. -/
theorem Turn.book {B0 B1 Bp C : Nat} (h0 : B0 ≤ C) (hBp : Bp < C) (W : World) (l : Nat) (o o' : Obj) (hl : C ≤ l) (h : W.heap[l]? = some o) (hc : o.isCells = false) (hw : o.isWalk = false) : Turn B0 B1 Bp true W (W.putObj l o') := by
  refine ⟨rfl, rfl, rfl, by simp, fun i hi => World.putObj_heap_other (by omega), fun i u hi _ hn => ?_⟩
  have hcell : (W.putObj l o').cell? ⟨Bp, 0, none⟩ = W.cell? ⟨Bp, 0, none⟩ := World.cell?_of_block (World.putObj_heap_other (by simp only; omega))
  refine ⟨?_, fun n c => by rw [hcell]; exact hn n c⟩
  by_cases e : i = l
  · subst e
    rw [h] at hi
    cases hi
    exact .inl ⟨rfl, hc, hw⟩
  · exact .inr ((World.putObj_heap_other e).trans hi)

theorem Turn.below {B0 B1 Bp : Nat} {q : Bool} {a b : World} (h : Turn B0 B1 Bp q a b) : Below B0 a b := ⟨h.os, h.tape, h.output, h.size, h.low⟩
theorem Turn.cells {B0 B1 Bp : Nat} {q : Bool} {a b : World} (h : Turn B0 B1 Bp q a b) {i : Nat} {cs : Array Value} {t : TypeId} {z : Nat × Nat} (hi : a.heap[i]? = some (.cells cs t z)) (hr : B1 ≤ i) (hn : NotRow Bp a i) : b.heap[i]? = some (.cells cs t z) ∧ NotRow Bp b i := by
  obtain ⟨h1, h2⟩ := h.high i _ hi hr hn
  refine ⟨?_, h2⟩
  rcases h1 with ⟨_, h1, _⟩ | h1
  · cases h1
  · exact h1
theorem Turn.cell {B0 B1 Bp : Nat} {q : Bool} {a b : World} (h : Turn B0 B1 Bp q a b) {p : Addr} {v : Value} (hc : a.cell? p = some v) (hr : B1 ≤ p.block) (hn : NotRow Bp a p.block) : b.cell? p = some v := by
  obtain ⟨o, ho, hoc⟩ := cells_of_cell hc
  obtain ⟨h1, _⟩ := h.high _ o ho hr hn
  rcases h1 with ⟨_, h1, _⟩ | h1
  · rw [h1] at hoc; cases hoc
  · rw [World.cell?_of_block (w := a) (h1.trans ho.symm)]
    exact hc
theorem NotRow.below {Bp : Nat} {a b : World} {C : Nat} {i : Nat} (h : NotRow Bp a i) (hb : Below C a b) (hC : Bp < C) : NotRow Bp b i := fun n c => by
  rw [World.cell?_of_block (w := a) (hb.block Bp hC)]
  exact h n c

section
set_option maxRecDepth 100000
set_option maxHeartbeats 1000000

theorem mkeys_any (b : Nat) (w : World) : Calls Tryz.prog 62 #[.map (some b)] w fun e w' =>
    e = .returned (.func (.func 94) #[] #[.pointer (some ⟨w.heap.size, 0, none⟩)]) ∧ w' = w.alloc (.cells #[.map (some b)] 66) :=
  (callsIn_wide (n := 5)).1 (AnyZ.keys_in Tryz.keysZ Fence.wide 5 trivial rfl (some b) w)

theorem strs_own {B : Nat} {w : World} {v : Value} {ks : List (List UInt8)} (h : w.ownsRow B 9 1 v ks.length (ks.map encStr)) : ∃ ao c, v = .slice ao ks.length c ∧ S5.StrsAt w ao (ks.map S5.ofL) := by
  rcases id h.2 with ⟨rfl, h0⟩ | ⟨g, cap, cur, rfl, hb, hg, h1, h2, h3, h4⟩
  · have e : ks = [] := List.eq_nil_of_length_eq_zero h0
    subst e
    exact ⟨none, 0, rfl, fun h => absurd h (by simp)⟩
  · refine ⟨_, cap, rfl, fun _ => ⟨g, 0, rfl, fun j hj => ?_⟩⟩
    have hj' : j < ks.length := by simpa using hj
    have hc := h.cellAt j (by simp; omega)
    rw [Nat.zero_add]
    simpa [hj', encStr, S5.ofL] using hc

theorem gives_any {w : World} {a b : Nat} {l : List Ent} (h : Sto w a b l) : SeqGives Fence.wide 2 Tryz.prog 94 #[.pointer (some ⟨w.heap.size, 0, none⟩)] encStr (fun ss => ss.Perm (strKeys (DL l))) (Maps.size (DL l)) (w.alloc (.cells #[.map (some b)] 66)) := by
  obtain ⟨n, hn, _⟩ := h.own
  exact AnyZ.keys_gives (ρ := Tryz.keysZ_ren) { Tryz.keysZ with } Fence.wide _ trivial rfl (by omega) w.heap.size b n (DL l) _ (by simp) (by simp) (hn.alloc _)

theorem collect_any (a b : Nat) (l : List Ent) (w : World) (h : Sto w a b l) :
    Calls Tryz.prog 75 #[.func (.func 94) #[] #[.pointer (some ⟨w.heap.size, 0, none⟩)]] (w.alloc (.cells #[.map (some b)] 66)) fun e w' =>
      ∃ ao c, ∃ ks : List ByteArray, e = .returned (.slice ao ks.length c) ∧ (∀ f t, S5.keysOf f t ks = (inE f t l).map (·.key)) ∧ ks.length ≤ 1000000 ∧ S5.StrsAt w' ao ks ∧ Below w.heap.size w w' := by
  have hs := size_DL l
  have hl := h.len
  have hB : Below w.heap.size w (w.alloc (.cells #[.map (some b)] 66)) := (Below.refl _ _).alloc (Nat.le_refl _) _
  refine ((callsIn_wide (n := 4)).1 (AnyZ.collect_in (ρ := Tryz.sortedZ_ren) { Tryz.sortedZ with } Fence.wide 4 trivial trivial rfl (by omega) 94 _ trivial (enters_of Tryz.func94 (by kernel_rfl) rfl) _ _ (by rw [hs]; unfold maxLen; omega) (by rw [hs]; omega) _ (gives_any h))).mono ?_
  rintro e w' ⟨v, ss, rfl, hp, ho, _, hb⟩
  obtain ⟨ao, c, rfl, hst⟩ := strs_own ho
  have hlen : ss.length = l.length := by rw [hp.length_eq, strKeys_DL, List.length_map]
  exact ⟨ao, c, ss.map S5.ofL, by simp, fun f t => keysOf_DL h.rise hp f t, by rw [List.length_map, hlen]; exact hl, hst, hB.trans (hb.mono hB.size)⟩

theorem sortsIn (m : Nat) : AnyZ.SortsIn Tryz.prog Tryz.sortedZ_ren Fence.wide m :=
  ⟨fun blk off cap ss W hH hblk hsz => callsIn_wide.2 (Any.slices_Sort_string Tryz.lays190 blk off cap ss W hH hblk hsz),
   fun p cap W => callsIn_wide.2 (Any.slices_Sort_string_none Tryz.lays190 p cap W)⟩

theorem sorted_any (a b : Nat) (l : List Ent) (w : World) (h : Sto w a b l) :
    Calls Tryz.prog 61 #[.func (.func 94) #[] #[.pointer (some ⟨w.heap.size, 0, none⟩)]] (w.alloc (.cells #[.map (some b)] 66)) fun e w' =>
      ∃ ao c, e = .returned (.slice ao l.length c) ∧ S5.StrsAt w' ao (l.map (·.key)) ∧ Below w.heap.size w w' := by
  have hs := size_DL l
  have hl := h.len
  have hB : Below w.heap.size w (w.alloc (.cells #[.map (some b)] 66)) := (Below.refl _ _).alloc (Nat.le_refl _) _
  refine ((callsIn_wide (n := 5)).1 (AnyZ.sorted_in Tryz.sortedZ Fence.wide 5 trivial trivial trivial trivial rfl (by omega) (sortsIn _) (enters_of Tryz.func93 (by kernel_rfl) rfl) 94 _ trivial (enters_of Tryz.func94 (by kernel_rfl) rfl) _ _ (by rw [hs]; unfold maxLen; omega) (by rw [hs]; omega) _ (gives_any h))).mono ?_
  rintro e w' ⟨v, ss, rfl, hp, ho, _, hb⟩
  rw [sort_DL h.rise hp] at ho
  replace ho : w'.ownsRow (w.alloc (.cells #[.map (some b)] 66)).heap.size 9 1 v ss.length ((l.map fun e => e.key.data.toList).map encStr) := ho
  have hlen : ss.length = l.length := by rw [hp.length_eq, strKeys_DL, List.length_map]
  obtain ⟨ao, c, rfl, hst⟩ := strs_own (ks := l.map fun e => e.key.data.toList) (by simpa [hlen] using ho)
  refine ⟨ao, c, by simp, ?_, hB.trans (hb.mono hB.size)⟩
  have e1 : (l.map fun e => e.key.data.toList).map S5.ofL = l.map (·.key) := by simp [ofL_data, Function.comp_def]
  rw [← e1]
  exact hst

theorem keysm_any (a b : Nat) (l : List Ent) (w : World) (h : Sto w a b l) :
    Calls Tryz.prog 28 #[.pointer (some ⟨a, 0, none⟩)] w fun e w' => ∃ ao c, e = .returned (.slice ao l.length c) ∧ S5.StrsAt w' ao (l.map (·.key)) ∧ Below w.heap.size w w' := by
  have hc := h.cell
  have Hs := hide (sorted_any a b l w h)
  clear h
  go_enter Tryz.func28, Tryz.ntmps28
  go_wp2_with fail
  refine (mkeys_any b w).mono ?_
  rintro e w1 ⟨rfl, rfl⟩
  go_wp2_with fail
  refine (unhide Hs).mono ?_
  rintro e w2 ⟨ao, c, rfl, hst, hb⟩
  have HS := hide hst
  have HB := hide hb
  clear hst hb Hs
  go_wp2
  go_ret
  exact ⟨ao, c, rfl, unhide HS, unhide HB⟩

theorem keysm_nil (w : World) : Calls Tryz.prog 28 #[.pointer none] w fun e w' => e = .returned (.slice none 0 0) ∧ Below w.heap.size w w' := by
  go_enter Tryz.func28, Tryz.ntmps28
  go_wp2
  go_ret
  exact ⟨rfl, by go_grown⟩
end

end Go.Proofs.YtcdehnghggleoaaGreat
