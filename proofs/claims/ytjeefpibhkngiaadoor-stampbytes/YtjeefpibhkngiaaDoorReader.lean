/-
  pack.Open and the reader's Number, Left: what they answer.
-/
import Derived.Test.YtjeefpibhkngiaaDoorRd
namespace Go.Proofs.YtjeefpibhkngiaaDoor
open Go.RowKit
set_option linter.unusedVariables false

/-- The reader at block R has the bytes l ahead of it. -/
def Rd (w : World) (R : Nat) (l : List UInt8) : Prop :=
  ∃ ao n c, w.cell? ⟨R, 0, none⟩ = some (.slice ao n c) ∧ w.frozen? ⟨R, 0, none⟩ = false ∧ Sl w (.slice ao n c) l

/-- At most the reader's own cell has turned. -/
def Stays (R : Nat) (w w' : World) : Prop := w' = w ∨ ∃ x, w' = w.setCell ⟨R, 0, none⟩ x

theorem Stays.sl {R : Nat} {w w' : World} (h : Stays R w w') {l m : List UInt8} {v : Value} (hr : Rd w R l) (hs : Sl w v m) : Sl w' v m := by
  obtain ⟨ao, n, c, h1, _, _⟩ := hr
  rcases h with rfl | ⟨x, rfl⟩
  · exact hs
  · exact hs.setCell h1 x

theorem Stays.below {R B : Nat} {w w' : World} (h : Stays R w w') (hB : B ≤ R) : Below B w w' := by
  rcases h with rfl | ⟨x, rfl⟩
  · exact Below.refl _ _
  · exact (Below.refl _ _).setCell hB x

theorem Stays.size {R : Nat} {w w' : World} (h : Stays R w w') : w'.heap.size = w.heap.size := by
  rcases h with rfl | ⟨x, rfl⟩
  · rfl
  · simp

theorem Rd.below {B : Nat} {w w' : World} {R : Nat} {l : List UInt8} (h : Rd w R l) (hb : Below B w w') (hB : w.heap.size ≤ B) : Rd w' R l := by
  obtain ⟨ao, n, c, h1, h2, h3⟩ := h
  have hR : R < B := Nat.lt_of_lt_of_le (World.block_lt_of_cell? w _ h1) hB
  exact ⟨ao, n, c, (hb.cell (p := ⟨R, 0, none⟩) hR).trans h1, (hb.frozen (p := ⟨R, 0, none⟩) hR).trans h2, h3.below hb hB⟩

theorem Rd.lt {w : World} {R : Nat} {l : List UInt8} (h : Rd w R l) : R < w.heap.size := by
  obtain ⟨ao, n, c, h1, _, _⟩ := h
  exact World.block_lt_of_cell? w _ h1

theorem Rd.set {w : World} {R : Nat} {ao bo : Option Addr} {n c m d : Nat} {l : List UInt8} (hc : w.cell? ⟨R, 0, none⟩ = some (.slice ao n c)) (hf : w.frozen? ⟨R, 0, none⟩ = false) (hs : Sl w (.slice bo m d) l) :
    Rd (w.setCell ⟨R, 0, none⟩ (.slice bo m d)) R l :=
  ⟨bo, m, d, World.cell?_setCell_same w _ _ hc, by simpa using hf, hs.setCell hc _⟩

set_option maxRecDepth 100000 in
set_option maxHeartbeats 400000 in
theorem open_any (v : Value) (l : List UInt8) (w : World) (hs : Sl w v l) (hl : l.length ≤ 1099511627776) :
    Calls Tryd.prog 23 #[v] w fun e w' => ∃ R, e = .returned (.pointer (some ⟨R, 0, none⟩)) ∧ w.heap.size ≤ R ∧ Rd w' R l ∧ Below w.heap.size w w' := by
  have hv : ∃ ao n c, v = .slice ao n c := by obtain ⟨ao, c, rfl, _⟩ := hs; exact ⟨_, _, _, rfl⟩
  obtain ⟨ao, n, c, rfl⟩ := hv
  go_enter Tryd.func23, Tryd.ntmps23
  go_wp2_with fail
  refine (clone_any _ l _ hs hl).mono ?_
  rintro e w' ⟨r, rfl, ho, hb⟩
  have hx := ho.sl
  obtain ⟨ao', c', rfl, h1, h2, h3, h4⟩ := hx
  have hsz := hb.size
  have hx : Sl w' (.slice ao' l.length c') l := ⟨ao', c', rfl, h1, h2, h3, h4⟩
  clear h3 h4 ho
  go_wp2
  go_ret
  have hbA : Below w'.heap.size w' (w'.alloc (.cells #[.slice ao' l.length c'] 58)) := (Below.refl _ _).alloc (Nat.le_refl _) _
  exact ⟨w'.heap.size, rfl, hsz, ⟨ao', l.length, c', by simp, by simp, hx.below hbA (Nat.le_refl _)⟩, hb.alloc hsz _⟩

/-- What the reader's Number answers: the number, the error, what is left. -/
def rdN (l : List UInt8) (most : Int) : Nat × Int × List UInt8 :=
  if (first l).2 = 0 ∨ most < ((first l).1 : Int) then (0, 11, l) else ((first l).1, 0, l.drop (first l).2)

theorem rdN_no {l : List UInt8} {most : Int} (h : (first l).2 = 0 ∨ most < ((first l).1 : Int)) : rdN l most = (0, 11, l) := if_pos h
theorem rdN_yes {l : List UInt8} {most : Int} (h : ¬ ((first l).2 = 0 ∨ most < ((first l).1 : Int))) : rdN l most = ((first l).1, 0, l.drop (first l).2) := if_neg h

theorem dec_le : ∀ (n i v : Nat) (l : List UInt8), (dec n i v l).2 ≤ i + l.length
  | 0, _, _, _ => by simp [dec]
  | _ + 1, _, _, [] => by simp [dec]
  | n + 1, i, v, c :: l => by
    rw [dec]
    split
    · have := dec_le n (i + 1) (v + c.toNat % 128 * 128 ^ i) l
      simp only [List.length_cons]
      omega
    · split <;> simp <;> omega

theorem first_le (l : List UInt8) : (first l).2 ≤ l.length := by have := dec_le 9 0 0 l; simpa [first] using this

theorem dec_lt : ∀ (n i v : Nat) (l : List UInt8), i + n ≤ 9 → v < 128 ^ i → (dec n i v l).1 < 128 ^ 9
  | 0, _, _, _, _, _ => by simp [dec]
  | _ + 1, _, _, [], _, _ => by simp [dec]
  | n + 1, i, v, c :: l, h, hv => by
    have hs := pow_step i v c.toNat hv
    rw [dec]
    split
    · exact dec_lt n (i + 1) _ l (by omega) hs
    · split
      · simp
      · exact Nat.lt_of_lt_of_le hs (Nat.pow_le_pow_right (by decide) (by omega))

theorem first_lt (l : List UInt8) : (first l).1 ≤ 9223372036854775807 := by
  have := dec_lt 9 0 0 l (by decide) (by decide)
  have e : (128 : Nat) ^ 9 = 9223372036854775808 := by decide
  rw [e] at this
  unfold first
  omega

set_option maxRecDepth 100000 in
set_option maxHeartbeats 400000 in
theorem rnumber_any (R : Nat) (l : List UInt8) (most : Int) (w : World) (hr : Rd w R l) (hl : l.length ≤ 1099511627776) :
    Calls Tryd.prog 37 #[.pointer (some ⟨R, 0, none⟩), .int .i64 most] w fun e w' =>
      e = .returned (.tuple #[.int .i64 (rdN l most).1, .int .i64 (rdN l most).2.1]) ∧ Rd w' R (rdN l most).2.2 ∧ Stays R w w' := by
  have Hr : Hid (Rd w R l) := hr
  obtain ⟨ao, n, c, hc, hf, hs⟩ := hr
  have hn : n = l.length ∧ l.length ≤ c ∧ c ≤ maxLen := by obtain ⟨_, _, e, h1, h2, _⟩ := hs; injection e with e1 e2 e3; subst e3; exact ⟨e2, h1, h2⟩
  obtain ⟨rfl, hlc, hm⟩ := hn
  unfold maxLen at hm
  have hle := first_le l
  have hlt := first_lt l
  have hF := first_any _ l w hs hl
  have hd := hs.drop (first l).2 (first_le l)
  have hno := @rdN_no l most
  have hyes := @rdN_yes l most
  generalize first l = xk at *
  obtain ⟨x, k⟩ := xk
  simp only at hle hlt hF hd hno hyes
  have Hd : Hid (Sl w (.slice (if c = k then ao else ao.map (·.add (k * 1))) (l.length - k) (c - k)) (l.drop k)) := hd
  have HF : Hid (Calls Tryd.prog 44 #[.slice ao l.length c] w fun e w' => e = .returned (.tuple #[.int .i64 x, .int .i64 k]) ∧ w' = w) := hF
  clear hd hF hs
  by_cases h0 : k = 0
  · rw [hno (.inl h0)]
    clear hno hyes
    subst h0
    go_enter Tryd.func37, Tryd.ntmps37
    go_wp2_with fail
    refine HF.out.mono ?_
    rintro e w' ⟨rfl, rfl⟩
    go_wp2
    go_ret2
    exact ⟨rfl, Hr, .inl rfl⟩
  · by_cases h1 : most < (x : Int)
    · rw [hno (.inr h1)]
      clear hno hyes
      have hk : ((k : Int) == 0) = false := by simp; omega
      go_enter Tryd.func37, Tryd.ntmps37
      go_wp2_with fail
      refine HF.out.mono ?_
      rintro e w' ⟨rfl, rfl⟩
      go_wp2
      go_ret2
      exact ⟨rfl, Hr, .inl rfl⟩
    · rw [hyes (by rintro (h | h) <;> contradiction)]
      clear hno hyes
      have hk : ((k : Int) == 0) = false := by simp; omega
      go_enter Tryd.func37, Tryd.ntmps37
      go_wp2_with fail
      refine HF.out.mono ?_
      rintro e w' ⟨rfl, rfl⟩
      go_wp2
      all_goals
        go_ret2
        refine ⟨rfl, Rd.set hc hf ?_, .inr ⟨_, rfl⟩⟩
        have hd := Hd.out
        simpa [*] using hd

/-- Bytes as a string: what the conversion answers. -/
theorem conv_sl (w : World) (v : Value) (l : List UInt8) (hs : Sl w v l) : (convert 35 9 v).run Tryd.prog w = .ok (.string ⟨l.toArray⟩) w := by
  have hs' := hs
  obtain ⟨ao, c, rfl, h1, h2, h3, h4⟩ := hs
  by_cases h0 : l = []
  · subst h0
    cases ao with
    | none => exact run_convert_bytes_nil (P := Tryd.prog) w 35 5 Tryd.underlying35 Tryd.underlying5 0 c 9 Tryd.underlying9
    | some a =>
      rw [run_convert_bytes_string w 35 9 5 _ _ c Tryd.underlying35 Tryd.underlying5 Tryd.underlying9]
      exact run_bytesToString w a 0 c [] (by simp [loadCells, loadCellsFrom])
  · have hp : 0 < l.length := by cases l <;> simp_all
    obtain ⟨b, o, rfl⟩ := hs'.addr hp
    have := run_convert_bytes_arg (P := Tryd.prog) w 35 5 Tryd.underlying35 Tryd.underlying5 b o l.length c (l.map fun b => (b.toNat : Int)) (by simp) (fun i hi => by
      rw [hs'.cell i hi]
      simp [List.getD, List.getElem?_map, List.getElem?_eq_getElem hi]) 9 Tryd.underlying9
    rw [this]
    congr 2
    apply ByteArray.ext
    apply Array.toList_inj.1
    rw [strOfNums_data, List.map_map]
    show List.map _ l = l
    conv => rhs; rw [← List.map_id l]
    apply List.map_congr_left
    intro x _
    simp

theorem Sl.take {w : World} {ao : Option Addr} {n c : Nat} {l : List UInt8} (h : Sl w (.slice ao n c) l) (k : Nat) (hk : k ≤ l.length) : Sl w (.slice ao k c) (l.take k) := by
  obtain ⟨bo, d, e, h1, h2, h3, h4⟩ := h
  injection e with e1 e2 e3
  subst e1; subst e2; subst e3
  refine ⟨ao, c, by rw [List.length_take, Nat.min_eq_left hk], by rw [List.length_take]; omega, h2, fun e => ?_, fun a ha j u hu => h4 a ha j u ?_⟩
  · obtain ⟨rfl, rfl⟩ := h3 e
    simp
  · rw [bc_get] at hu ⊢
    rw [← hu, List.getElem?_take]
    split
    · rfl
    · rename_i hj
      rw [List.getElem?_take, if_neg hj] at hu
      cases hu

set_option maxRecDepth 100000 in
set_option maxHeartbeats 400000 in
theorem left_any (R : Nat) (l : List UInt8) (w : World) (hr : Rd w R l) (hl : l.length ≤ 1099511627776) :
    Calls Tryd.prog 27 #[.pointer (some ⟨R, 0, none⟩)] w fun e w' => e = .returned (.int .i64 l.length) ∧ w' = w := by
  obtain ⟨ao, n, c, hc, hf, hs⟩ := hr
  have hn : n = l.length := by obtain ⟨_, _, e, _⟩ := hs; injection e
  subst hn
  clear hs
  go_enter Tryd.func27, Tryd.ntmps27
  go_wp2
  go_ret
  exact ⟨rfl, rfl⟩

section
set_option maxRecDepth 100000
theorem nil_number (n : Int) (w : World) : Calls Tryd.prog 37 #[.pointer none, .int .i64 n] w fun e w' => e = .returned (.tuple #[.int .i64 0, .int .i64 1]) ∧ w' = w := by
  go_enter Tryd.func37, Tryd.ntmps37
  go_wp2
  go_ret2
  exact ⟨rfl, rfl⟩
end

end Go.Proofs.YtjeefpibhkngiaaDoor
