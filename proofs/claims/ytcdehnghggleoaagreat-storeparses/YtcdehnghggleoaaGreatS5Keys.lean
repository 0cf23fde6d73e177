/-
  The contract of Keys. No law is proved here.
-/
import Derived.Test.YtcdehnghggleoaaGreatGz6
import Derived.Test.YtcdehnghggleoaaGreatShelf
namespace Go.Proofs.YtcdehnghggleoaaGreat.S5
open Go.RowKit Go.Sort
set_option linter.unusedVariables false

theorem below_putRow {α : Type} [Inhabited α] (enc : α → Value) {B g o : Nat} (w : World) (d : Array α) (hB : B ≤ g) : Below B w (putRow enc w g o d) :=
  ⟨rfl, rfl, rfl, by simp, fun k hk => by
    show (w.heap.modify g _)[k]? = _
    rw [Array.getElem?_modify]
    rw [if_neg (by omega)]⟩
theorem below_ahead (B : Nat) (w : World) (n : Nat) : Below B w (Sort.ahead w n) := ⟨rfl, rfl, rfl, Nat.le_refl _, fun _ _ => rfl⟩
theorem below_grow (w : World) (os : Array Obj) : Below w.heap.size w (grow w os) := ⟨rfl, rfl, rfl, by simp, fun k hk => heap_grow_old w os hk⟩

theorem app_get {a b : List (List UInt8)} {j : Nat} (h : j < a.length) : (a ++ b).toArray[j]! = a.toArray[j]! := by
  rw [getElem!_def, getElem!_def, List.getElem?_toArray, List.getElem?_toArray, List.getElem?_append_left h]

section
set_option maxRecDepth 100000
set_option maxHeartbeats 1000000

theorem index_none (ao : Option Addr) (c cap : Nat) (w : World) :
    Calls Tryz.prog 114 #[.slice ao 0 cap, .func (.func 99) #[] #[.pointer (some ⟨c, 0, none⟩)]] w fun e w' => e = .returned (.int .i64 (-1)) ∧ w' = w := by
  go_enter Tryz.func114, Tryz.ntmps114
  go_wp2
  go_loop [8] (fun i => i = .int .i64 0) (fun i => 0)
  case atStart => rfl
  case round =>
    subst hrel
    go_wp2
    go_ret
    exact ⟨rfl, rfl⟩

theorem delete_none (ao : Option Addr) (c cap : Nat) (w : World) :
    Calls Tryz.prog 101 #[.slice ao 0 cap, .func (.func 99) #[] #[.pointer (some ⟨c, 0, none⟩)]] w fun e w' => e = .returned (.slice ao 0 cap) ∧ w' = w := by
  go_enter Tryz.func101, Tryz.ntmps101
  go_wp2_with (go_at_call 114; refine (index_none _ _ _ _).mono ?_; rintro e w' ⟨rfl, rfl⟩)
  go_ret
  exact ⟨rfl, rfl⟩

theorem clone_any (ao : Option Addr) (c : Nat) (l : List ByteArray) (w : World) (h : StrsAt w ao l) (hn : l.length * 16 ≤ 140737488355328) :
    Calls Tryz.prog 102 #[.slice ao l.length c] w fun e w' => ∃ v', e = .returned v' ∧ Below w.heap.size w w' ∧
      ((l = [] ∧ ∃ ao' c', v' = .slice ao' 0 c') ∨ ∃ g cap, v' = .slice (some ⟨g, 0, none⟩) l.length cap ∧ w.heap.size ≤ g ∧ g < w'.heap.size ∧ l.length ≤ cap ∧ Holds Value.string w' g 0 l.toArray) := by
  by_cases h0 : l = []
  · subst h0
    cases ao with
    | none =>
      refine Calls.mono (Any.slices_Clone_string_nil Tryz.laysNm216 0 c w) ?_
      rintro e w' ⟨rfl, rfl⟩
      exact ⟨_, rfl, Below.refl _ _, .inl ⟨rfl, none, 0, rfl⟩⟩
    | some a =>
      refine Calls.mono (Any.slices_Clone_string_zero Tryz.laysNm216 a c w) ?_
      rintro e w' ⟨v', rfl, ho, _, hb⟩
      refine ⟨_, rfl, hb, .inl ⟨rfl, ?_⟩⟩
      rcases ho.2 with ⟨e, _⟩ | ⟨g, cap, cur, e, _⟩
      · exact ⟨none, 0, e⟩
      · exact ⟨_, cap, e⟩
  · have hp : 0 < l.length := List.length_pos_iff.2 h0
    obtain ⟨b, o, rfl, hc⟩ := h hp
    refine Calls.mono (Any.slices_Clone_string Tryz.laysNm216 b o l.length c l w (Nat.le_refl _) hn fun j hj => by rw [hc j hj, List.getD_eq_getElem?_getD, List.getElem?_eq_getElem hj]; rfl) ?_
    rintro e w' ⟨v', rfl, ho, _, hb⟩
    refine ⟨_, rfl, hb, .inr ?_⟩
    rcases ho.2 with ⟨_, e⟩ | ⟨g, cap, cur, e, hg, hcell, hcap, hmax, hsz, htk⟩
    · omega
    · have hlt : g < w'.heap.size := by
        rcases Nat.lt_or_ge g w'.heap.size with q | q
        · exact q
        · rw [Array.getElem?_eq_none q] at hcell; exact absurd hcell (by simp)
      refine ⟨g, cap, e, hg, hlt, hcap, fun j hj => ?_⟩
      have hj' : j < l.length := by simpa using hj
      rw [Nat.zero_add]
      have hv : cur[j]? = some (.string l[j]) := by
        have : (cur.toList.take (l.length * 1))[j]? = some (.string l[j]) := by rw [htk]; simp [hj']
        rw [List.getElem?_take] at this
        rw [if_pos (by omega)] at this
        simpa using this
      have e1 : l.toArray[j]! = l[j] := by simp [hj']
      rw [e1]
      refine ⟨?_, ?_⟩
      · simp only [World.cell?, hcell]; simpa using hv
      · simp [World.frozen?, hcell]

theorem sort_any (g cap B : Nat) (F : List ByteArray) (w : World) (hH : Holds Value.string w g 0 F.toArray) (hg : g < w.heap.size) (hB : B ≤ g) (hsz : F.length < 4611686018427387904) :
    Calls Tryz.prog 93 #[.slice (some ⟨g, 0, none⟩) F.length cap] w fun e w' =>
      e = .returned (.tuple #[]) ∧ Holds encStr w' g 0 ((F.map ByteArray.toList).mergeSort fun x y => decide (x ≤ y)).toArray ∧ Below B w w' ∧ g < w'.heap.size := by
  have hH' : Holds encStr w g 0 (F.map ByteArray.toList).toArray := fun j hj => by
    have hj' : j < F.length := by simpa using hj
    have := hH j (by simpa using hj')
    rw [show F.toArray[j]! = F[j] by simp [hj']] at this
    rw [show (F.map ByteArray.toList).toArray[j]! = F[j].toList by simp [hj']]
    rw [show encStr F[j].toList = .string F[j] from congrArg Value.string (ofL_of F[j])]
    exact this
  have := Any.slices_Sort_string Tryz.lays190 g 0 cap (F.map ByteArray.toList) w hH' hg (by simpa using hsz)
  rw [List.length_map] at this
  refine Calls.mono this ?_
  rintro e w' ⟨rfl, n, os, rfl⟩
  have h1 : Holds encStr (putRow encStr (Sort.ahead w n) g 0 ((F.map ByteArray.toList).mergeSort fun x y => decide (x ≤ y)).toArray) g 0 ((F.map ByteArray.toList).mergeSort fun x y => decide (x ≤ y)).toArray :=
    holds_putRow encStr (Sort.ahead w n) g 0 _ _ (holds_ahead encStr w n g 0 _ hH') (by simp)
  have hg' : g < (putRow encStr (Sort.ahead w n) g 0 ((F.map ByteArray.toList).mergeSort fun x y => decide (x ≤ y)).toArray).heap.size := by simpa using hg
  refine ⟨rfl, holds_grow encStr _ os g 0 _ hg' h1, ?_, by simp; omega⟩
  exact ((below_ahead B w n).trans (below_putRow encStr _ _ hB)).trans ((below_grow _ os).mono (by omega))

theorem compact_any (g cap B : Nat) (zs : List (List UInt8)) (w : World) (hH : Holds encStr w g 0 zs.toArray) (hg : g < w.heap.size) (hB : B ≤ g) (hsz : zs.length ≤ 9223372036854775807) (hcap : zs.length ≤ cap) :
    Calls Tryz.prog 103 #[.slice (some ⟨g, 0, none⟩) zs.length cap] w fun e w' =>
      e = .returned (.slice (some ⟨g, 0, none⟩) (Lib.compact zs).length cap) ∧ Holds encStr w' g 0 (Lib.compact zs).toArray ∧ Below B w w' := by
  refine Calls.mono (Any.slices_Compact_string Tryz.lays194 g 0 cap zs w hH hsz hcap) ?_
  rintro e w' ⟨rfl, q, rfl⟩
  have hle := Lib.compact_length_le zs
  have h1 := holds_putRow encStr (Sort.ahead w q) g 0 zs.toArray (Lib.compact zs ++ List.replicate (zs.length - (Lib.compact zs).length) []).toArray (holds_ahead encStr w q g 0 _ hH) (by simp; omega)
  refine ⟨rfl, fun j hj => ?_, (below_ahead B w q).trans (below_putRow encStr _ _ hB)⟩
  have hj' : j < (Lib.compact zs).length := by simpa using hj
  have := h1 j (by simp; omega)
  rw [app_get hj'] at this
  exact this

theorem keys_any (f t : ByteArray) (ao : Option Addr) (c : Nat) (l : List ByteArray) (w : World) (h : StrsAt w ao l) (hn : l.length * 16 ≤ 140737488355328) :
    Calls Tryz.prog 74 #[.agg #[.string f, .string t], .slice ao l.length c] w fun e w' =>
      ∃ ao' c', e = .returned (.slice ao' (keysOf f t l).length c') ∧ StrsAt w' ao' (keysOf f t l) ∧ (∀ g o, ao' = some ⟨g, o, none⟩ → 0 < (keysOf f t l).length → w.heap.size ≤ g) ∧ Below w.heap.size w w' := by
  have Hh := hide (h.later ((Below.refl _ w).alloc (Nat.le_refl _) (.cells #[.string f, .string t] 47)))
  have Hs := hide (Sp.new w f t 47)
  clear h
  go_enter Tryz.func74, Tryz.ntmps74
  go_wp2_with fail
  refine (clone_any ao c l _ (unhide Hh) hn).mono ?_
  rintro e w1 ⟨v', rfl, hb, hv⟩
  have Hs1 := hide ((unhide Hs).later hb)
  have Hb1 := hide (below_alloc _ hb)
  have hlt : w.heap.size < (w.alloc (.cells #[.string f, .string t] 47)).heap.size := by simp
  obtain ⟨B, hB⟩ : ∃ B, Hid ((w.alloc (.cells #[.string f, .string t] 47)).heap.size = B) := ⟨_, rfl⟩
  rw [unhide hB] at hlt hb hv
  have hB1 := hb.size
  clear hb Hh Hs
  rcases hv with ⟨rfl, ao', c', rfl⟩ | ⟨g, cap, rfl, hg, hgl, hcap, hH⟩
  · go_wp2_with fail
    refine (delete_none ao' _ c' w1).mono ?_
    rintro e w2 ⟨rfl, rfl⟩
    go_wp2_with fail
    refine Calls.mono (Any.slices_Sort_string_none Tryz.lays190 ao' c' w2) ?_
    rintro e w3 ⟨rfl, rfl⟩
    go_wp2_with fail
    refine Calls.mono (Any.slices_Compact_string_empty Tryz.lays194 ao' c' w3) ?_
    rintro e w4 ⟨rfl, rfl⟩
    go_wp2_with fail
    go_ret
    exact ⟨ao', c', rfl, fun h => absurd h (by simp [keysOf]), fun _ _ _ h => absurd h (by simp [keysOf]), unhide Hb1⟩
  · have HH := hide hH
    clear hH
    go_wp2_with fail
    refine Calls.mono (delete_any g w.heap.size cap B f t l.toArray w1 (unhide HH) (unhide Hs1) (by simp; omega) (by simpa using hcap) hgl hlt hg) ?_
    rintro e w2 ⟨rfl, hH2, hb2, hg2⟩
    have HF : Hid ((l.filter fun x => hasB f t x).length ≤ l.length) := List.length_filter_le _ _
    obtain ⟨F, hF⟩ : ∃ F, Hid ((l.filter fun x => hasB f t x) = F) := ⟨_, rfl⟩
    rw [show l.toArray.toList = l from rfl, unhide hF] at hH2 ⊢
    rw [unhide hF] at HF
    have HH2 := hide hH2
    have Hb2 := hide ((unhide Hb1).trans (hb2.mono (Nat.le_of_lt hlt)))
    clear hb2 hH2 hgl
    go_wp2_with fail
    refine (sort_any g cap B F w2 (unhide HH2) hg2 hg (by have := unhide HF; omega)).mono ?_
    rintro e w3 ⟨rfl, hH3, hb3, hg3⟩
    have HH3 := hide hH3
    have Hb3 := hide ((unhide Hb2).trans (hb3.mono (Nat.le_of_lt hlt)))
    clear hb3 hH3 hg2
    have hlen : Hid (F.length = ((F.map ByteArray.toList).mergeSort fun x y => decide (x ≤ y)).length) := by simp [Hid]
    have Hk : Hid ((Lib.compact ((F.map ByteArray.toList).mergeSort fun x y => decide (x ≤ y))).map ofL = keysOf f t l) := by rw [← unhide hF]; exact keys_eq f t l
    generalize ((F.map ByteArray.toList).mergeSort fun x y => decide (x ≤ y)) = zs at *
    rw [unhide hlen] at HF ⊢
    go_wp2_with fail
    refine (compact_any g cap B zs w3 (unhide HH3) hg3 hg (by have := unhide HF; omega) (by have := unhide HF; omega)).mono ?_
    rintro e w4 ⟨rfl, hH4, hb4⟩
    have HH4 := hide hH4
    have Hb4 := hide ((unhide Hb3).trans (hb4.mono (Nat.le_of_lt hlt)))
    clear hb4 hH4
    go_wp2_with fail
    go_ret
    refine ⟨some ⟨g, 0, none⟩, cap, by rw [← unhide Hk, List.length_map]; rfl, ?_, fun g' o e _ => (by cases e; omega), unhide Hb4⟩
    intro h0
    refine ⟨g, 0, rfl, fun j hj => ?_⟩
    have hj' : j < (Lib.compact zs).length := by rw [← unhide Hk, List.length_map] at hj; exact hj
    have hc := ((unhide HH4) j (by simpa using hj')).1
    rw [hc]
    have e1 : (Lib.compact zs).toArray[j]! = (Lib.compact zs)[j] := by simp [hj']
    have e2 : (keysOf f t l)[j] = ofL (Lib.compact zs)[j] := by simp only [← unhide Hk, List.getElem_map]
    rw [e1, e2]; rfl

end

end Go.Proofs.YtcdehnghggleoaaGreat.S5
