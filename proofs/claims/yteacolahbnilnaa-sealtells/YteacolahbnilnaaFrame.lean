/-
  seal.Frame, bytes.Clone, seal.Whole: what they answer.
-/
import Derived.Test.YteacolahbnilnaaFirst
namespace Go.Proofs.Yteacolahbnilnaa
open Go.RowKit
set_option linter.unusedVariables false

/-- What Frame answers, and what becomes of memory. -/
def Framed (w : World) (l : List UInt8) (e : Ending) (w' : World) : Prop :=
  ∃ r, e = .returned (.tuple #[r, .int .i64 0]) ∧ Own w.heap.size w' r (fr l) ∧ Below w.heap.size w w'

theorem Sl.cells {w : World} {ao : Option Addr} {n c : Nat} {l : List UInt8} (h : Sl w (.slice ao n c) l) {a : Addr} (ha : ao = some a) : ∀ j u, (bc l)[j]? = some u → w.cell? (a.add j) = some u := by
  obtain ⟨bo, d, e, h1, h2, h3, h4⟩ := h
  injection e with e1 e2 e3
  subst e1
  exact h4 a ha

theorem Sl.len {w : World} {ao : Option Addr} {n c : Nat} {l : List UInt8} (h : Sl w (.slice ao n c) l) : n = l.length := by
  obtain ⟨bo, d, e, h1, h2, h3, h4⟩ := h
  injection e with e1 e2 e3

set_option maxRecDepth 100000 in
set_option maxHeartbeats 1000000 in
theorem frame_yes (v : Value) (l : List UInt8) (w : World) (hs : Sl w v l) (hf : Fits l) :
    Calls Try.prog 9 #[v] w fun e w' => Framed w l e w' := by
  obtain ⟨i0, hi, hz0, hz1, hz2⟩ := info_parts Try.infoByte
  obtain ⟨hf1, hf2⟩ := hf
  have hv : ∃ ao c, v = .slice ao l.length c ∧ l.length ≤ c ∧ c ≤ maxLen := by obtain ⟨ao, c, rfl, h1, h2, _⟩ := hs; exact ⟨_, _, rfl, h1, h2⟩
  obtain ⟨ao, c, rfl, h1, h2⟩ := hv
  unfold maxLen at h2
  obtain ⟨b, o, rfl⟩ := hs.addr (by omega)
  have Hs : Hid (Sl w (.slice (some ⟨b, o, none⟩) l.length c) l) := hs
  clear hs
  go_enter Try.func9, Try.ntmps9
  go_wp2_with (first | (go_at_call 18; refine (fits_yes _ _ (by omega) (by omega)).mono ?_; rintro e w' ⟨rfl, hw⟩; obtain rfl := hw.symm) | (at_make; refine wpList_make_own _ rfl _ _ 22 rfl _ 5 i0 (.int .u8 0) 1 Try.underlying22 hi hz0 hz1 .i64 .i64 _ (8 + l.length) rfl rfl (by omega) (by rw [hz2]; omega) (by unfold maxLen; omega) (Nat.le_refl _) ?_; intro w0 hown0 hgrow0))
  have hb0 : Below w.heap.size w w0 := (Below.refl _ w).grown hgrow0 (Nat.le_refl _) (fun k hk => by cases hk)
  have ho0 : Own w.heap.size w0 (.slice (some ⟨w.heap.size, 0, none⟩) 0 (8 + l.length)) [] := hown0
  clear hown0 hgrow0
  refine (put_any w.heap.size _ [] l.length _ hb0.size ho0 (by simp) (by omega)).mono ?_
  rintro e w1 ⟨r1, rfl, ho1, hb1⟩
  have hB1 := hb0.trans hb1
  have hs1 := Hs.out.below hB1 (Nat.le_refl _)
  clear ho0 hb0 hb1
  go_wp2_with fail
  refine (sum_any _ l _ hs1).mono ?_
  rintro e w' ⟨rfl, hw⟩
  obtain rfl := hw.symm
  clear hw
  go_wp2_with fail
  refine (put_any w.heap.size _ _ (crc l) _ hB1.size ho1 (by simp [four]) (crc_lt l)).mono ?_
  rintro e w2 ⟨r2, rfl, ho2, hb2⟩
  have hB2 := hB1.trans hb2
  have hs2 := (Hs.out.below hB2 (Nat.le_refl _)).cells rfl
  have hlen : (([] : List UInt8) ++ four l.length ++ four (crc l)).length = 8 := rfl
  clear ho1 hB1 hb2 hs1
  go_wp2_with (at_builtin; refine wpList_append_onb _ rfl (.tmp 22) (.tmp 23) rfl w.heap.size hB2.size _ _ rfl (.inr ho2) ⟨b, o, none⟩ c l l.length rfl rfl hs2 hf1 ?hl ?_)
  case hl => rw [hlen]; omega
  intro v' w3 ho3 hb3
  have R1 : Own w.heap.size w3 v' (fr l) := by
    have e : [] ++ four l.length ++ four (crc l) ++ l = fr l := by simp [fr]
    rw [← e]; exact ho3
  have R2 := hB2.trans hb3
  clear ho3 hb3 ho2 hB2 hs2
  go_wp2
  go_ret2
  exact ⟨_, rfl, R1, R2⟩

set_option maxRecDepth 100000 in
theorem frame_no (v : Value) (l : List UInt8) (w : World) (hs : Sl w v l) (hf : ¬ Fits l) :
    Calls Try.prog 9 #[v] w fun e w' => e = .returned (.tuple #[.slice none 0 0, .int .i64 21]) ∧ w' = w := by
  have hv : ∃ ao c, v = .slice ao l.length c ∧ l.length ≤ c ∧ c ≤ maxLen := by obtain ⟨ao, c, rfl, h1, h2, _⟩ := hs; exact ⟨_, _, rfl, h1, h2⟩
  obtain ⟨ao, c, rfl, h1, h2⟩ := hv
  unfold maxLen at h2
  unfold Fits at hf
  clear hs
  go_enter Try.func9, Try.ntmps9
  go_wp2_with (first | (go_at_call 18; refine (fits_no _ _ (by omega)).mono ?_; rintro e w' ⟨rfl, hw⟩; obtain rfl := hw.symm))
  go_ret2
  exact ⟨rfl, rfl⟩

theorem Own.lit0 (w : World) : Own w.heap.size (w.alloc (.cells #[] 5)) (.slice (some ⟨w.heap.size, 0, none⟩) 0 0) [] :=
  World.ownsRow_lit w #[] 0 (Nat.le_refl _) (Nat.zero_le _) rfl

set_option maxRecDepth 100000 in
set_option maxHeartbeats 400000 in
theorem clone_any (v : Value) (l : List UInt8) (w : World) (hs : Sl w v l) (hl : l.length ≤ 1099511627776) :
    Calls Try.prog 22 #[v] w fun e w' => ∃ r, e = .returned r ∧ Own w.heap.size w' r l ∧ Below w.heap.size w w' := by
  obtain ⟨ao, c, rfl, h1, h2, h3, h4⟩ := hs
  obtain ⟨i0, hi, hz0, hz1, hz2⟩ := info_parts Try.infoByte
  have hE := fun (a : Option Addr) (n c : Nat) (w : World) => Lib.run_eql_slice_nil (P := Try.prog) w 22 5 a n c 0 0 Try.underlying22
  cases ao with
  | none =>
    obtain ⟨rfl, rfl⟩ := h3 rfl
    clear h3 h4
    go_enter Try.func22, Try.ntmps22
    go_wp2
    go_ret
    exact ⟨_, rfl, World.ownsRow_nil _ _ _ _, Below.refl _ _⟩
  | some a =>
    have H4 : Hid (∀ j u, (bc l)[j]? = some u → w.cell? (a.add j) = some u) := h4 a rfl
    clear h3 h4
    have h0 := Own.lit0 w
    go_enter Try.func22, Try.ntmps22
    go_wp2_with (at_builtin; refine wpList_append_own _ rfl (.tmp 5) (.tmp 6) 22 rfl w.heap.size 5 i0 (.int .u8 0) 1 1 Try.underlying22 hi hz0 hz1 hz2 rfl (by decide) _ _ _ rfl h0 a l.length c (bc l) rfl ?h1 ?h2 (bc_one _) ?h3 ?h4 ?h5 ?_)
    case h1 => simp [bc_length]
    case h2 =>
      intro j u hu
      have hc := H4.out j u hu
      rw [World.cell?_of_block (w := w) (Below.heap_alloc w _ _ (World.block_lt_of_cell? w _ hc))]
      exact hc
    case h3 => unfold maxLen; simp; omega
    case h4 => simp; omega
    case h5 => simp
    intro v' w1 ho hg _
    have R : Own w.heap.size w1 v' l := by unfold Own; simpa [bc] using ho
    have R2 : Below w.heap.size w w1 := ((Below.refl _ w).alloc (Nat.le_refl _) _).grown hg (by simp) (fun k hk => (World.ownsRow.lt h0 k hk).1)
    clear ho hg h0
    go_wp2
    go_ret
    exact ⟨_, rfl, R, R2⟩

/-- The record that bytes are one frame of. -/
def whole (l : List UInt8) : Option (List UInt8) :=
  match fst l with
  | some x => if 8 + x.length = l.length then some x else none
  | none => none

/-- What Whole answers, and what becomes of memory. -/
def Wholed (w : World) (l : List UInt8) (e : Ending) (w' : World) : Prop :=
  ((whole l = none ∧ e = .returned (.tuple #[.slice none 0 0, .int .i64 21])) ∨ ∃ r x, whole l = some x ∧ e = .returned (.tuple #[r, .int .i64 0]) ∧ Own w.heap.size w' r x) ∧ Below w.heap.size w w'

theorem belowN {B : Nat} {w w' : World} (h : Below B w w') (n : Nat) : Below B w (w'.drewN n) := ⟨h.os, h.tape, h.output, h.size, h.block⟩

set_option maxRecDepth 100000 in
set_option maxHeartbeats 1000000 in
theorem whole_any (v : Value) (l : List UInt8) (w : World) (hs : Sl w v l) (hl : l.length ≤ 1099511627776) :
    Calls Try.prog 13 #[v] w fun e w' => Wholed w l e w' := by
  have hv : ∃ ao c, v = .slice ao l.length c ∧ l.length ≤ c ∧ c ≤ maxLen := by obtain ⟨ao, c, rfl, h1, h2, _⟩ := hs; exact ⟨_, _, rfl, h1, h2⟩
  obtain ⟨ao, c, rfl, h1, h2⟩ := hv
  unfold maxLen at h2
  have Hs : Hid (Sl w (.slice ao l.length c) l) := hs
  clear hs
  go_enter Try.func13, Try.ntmps13
  go_wp2_with fail
  refine (first_any _ l _ Hs.out hl).mono ?_
  rintro e w' ⟨⟨hn, rfl⟩ | ⟨rv, x, hx, rfl, hsx0⟩, q, rfl⟩
  · go_wp2
    go_ret2
    exact ⟨.inl ⟨by unfold whole; rw [hn], rfl⟩, belowN (Below.refl _ _) q⟩
  · have hsx := hsx0 _ Hs.out
    clear hsx0
    obtain ⟨xo, xc, rfl, hx1, hx2, _⟩ := id hsx
    have hfa := (fst_some hx).1
    have hfb := (fst_some hx).2.1
    have hfc := (fst_some hx).2.2.1
    have Hx := hide hx
    have Hsx := hide hsx
    clear hx hsx
    unfold maxLen at hx2
    by_cases hlt : 8 + x.length < l.length
    · go_wp2
      go_ret2
      exact ⟨.inl ⟨by unfold whole; rw [Hx.out]; simp; omega, rfl⟩, belowN (Below.refl _ _) q⟩
    · go_wp2_with fail
      refine (clone_any _ x _ (Hsx.out.drewN q) (by omega)).mono ?_
      rintro e w1 ⟨r, rfl, ho, hb⟩
      go_wp2
      go_ret2
      exact ⟨.inr ⟨_, _, by unfold whole; rw [Hx.out]; simp; omega, rfl, ho⟩, (belowN (Below.refl w.heap.size w) q).trans hb⟩

end Go.Proofs.Yteacolahbnilnaa
