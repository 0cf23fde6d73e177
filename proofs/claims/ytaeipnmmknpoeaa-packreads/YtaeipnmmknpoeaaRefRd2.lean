/-
  The document's own reader: Flag and Text.
-/
import Derived.Test.YtaeipnmmknpoeaaRefRd
namespace Go.Proofs.Ytaeipnmmknpoeaa
open Go.RowKit
set_option linter.unusedVariables false

theorem rdF_nil : rdF [] = (false, 11, []) := rfl

theorem rdF_yes (c : UInt8) (r : List UInt8) (h : c.toNat < 2) : rdF (c :: r) = (c.toNat == 1, 0, r) := by
  have : c = 0 ∨ c = 1 := by
    rcases (show c.toNat = 0 ∨ c.toNat = 1 by omega) with h | h
    · left; exact UInt8.toNat_inj.1 h
    · right; exact UInt8.toNat_inj.1 h
  rcases this with rfl | rfl
  · exact rdF_enc false r
  · exact rdF_enc true r

theorem rdF_no (c : UInt8) (r : List UInt8) (h : ¬ c.toNat < 2) : rdF (c :: r) = (false, 11, c :: r) := by
  unfold rdF
  rcases rdN_one (c :: r) 1 with ⟨h1, h2, h3⟩ | ⟨h1, h2, h3, _⟩
  · rw [h1, h2, h3]; rfl
  · exfalso
    generalize rdN (c :: r) 1 = y at *
    obtain ⟨x, e, q⟩ := y
    simp only at h2 h3
    rcases (show x = 0 ∨ x = 1 by omega) with rfl | rfl
    · rw [enc_zero] at h2
      injection h2 with h4 _
      subst h4
      exact h (by decide)
    · rw [enc_one] at h2
      injection h2 with h4 _
      subst h4
      exact h (by decide)

theorem Sl.ne {w : World} {b o n c M i : Nat} {u : Value} {bad : Bool} {l : List UInt8} (h : Sl w (.slice (some ⟨b, o, none⟩) n c) l) (hl : 0 < l.length) (hm : RefRd w M u i bad) (hu : ∃ ao n c, u = .slice ao n c) : b ≠ M := by
  intro e
  subst e
  have hc := h.cell 0 hl
  obtain ⟨ao', n', c', rfl⟩ := hu
  rw [cell_of_row w b (o + 0) _ _ _ hm] at hc
  match o, hc with
  | 0, hc => simp at hc
  | 1, hc => simp at hc
  | 2, hc => simp at hc
  | o + 3, hc => simp at hc

theorem refrd_bad {M i : Nat} {bad : Bool} {ao : Option Addr} {c : Nat} {l : List UInt8} {w : World} (n : Nat) (hm : RefRd w M (.slice ao l.length c) i bad) (hi : i ≤ l.length) (x y : Value) (r : List UInt8) (hr : r = l.drop i) :
    Left3 M i ao c l x y r w (.returned (.tuple #[x, y])) ((w.drewN n).setCell ⟨M, 2, none⟩ (.bool true)) :=
  ⟨0, true, rfl, hr, hi, RefRd.set2 (w := w.drewN n) hm true, ((Touch.refl M w).drewN n).setCell 2 _⟩

theorem refrd_go {M i : Nat} {bad : Bool} {ao : Option Addr} {c : Nat} {l : List UInt8} {w : World} {z : Int} (n m k : Nat) (hm : RefRd w M (.slice ao l.length c) i bad) (hi : i + k ≤ l.length) (x y : Value) (r : List UInt8) (hz : z = ((i + k : Nat) : Int)) (hr : r = l.drop (i + k)) :
    Left3 M i ao c l x y r w (.returned (.tuple #[x, y])) (((w.drewN n).setCell ⟨M, 1, none⟩ (.int .i64 z)).drewN m) := by
  subst hz
  exact ⟨k, bad, rfl, hr, hi, RefRd.set1 (w := w.drewN n) hm _, (((Touch.refl M w).drewN n).setCell 1 _).drewN m⟩

set_option maxRecDepth 100000 in
set_option maxHeartbeats 1000000 in
theorem refflag2_any (M i : Nat) (bad : Bool) (ao : Option Addr) (c : Nat) (l : List UInt8) (w : World) (hm : RefRd w M (.slice ao l.length c) i bad) (hs : Sl w (.slice ao l.length c) l) (hl : l.length ≤ 1099511627776) (hi : i ≤ l.length) :
    Calls Try.prog 18 #[.pointer (some ⟨M, 0, none⟩)] w (Left3 M i ao c l (.bool (rdF (l.drop i)).1) (.int .i64 (rdF (l.drop i)).2.1) (rdF (l.drop i)).2.2 w) := by
  obtain ⟨c0, c1, c2, hf⟩ := hm.cells
  have Hm := hide hm
  have Hs := hide hs
  clear hm hs
  by_cases hin : i < l.length
  · have hini : (i : Int) < (l.length : Int) := by omega
    obtain ⟨b, o, rfl⟩ := (unhide Hs).addr (by omega)
    have hc := (unhide Hs).cell i hin
    have hne := (unhide Hs).ne (by omega) (unhide Hm) ⟨_, _, _, rfl⟩
    have hcb : (l[i].toNat : Int) < 256 := by have := l[i].toNat_lt; omega
    have hdr : l.drop i = l[i] :: l.drop (i + 1) := List.drop_eq_getElem_cons hin
    by_cases h2 : l[i].toNat < 2
    · rw [hdr, rdF_yes _ _ h2]
      obtain ⟨cn, hcn⟩ : ∃ cn, Hid (l[i].toNat = cn) := ⟨l[i].toNat, Eq.refl _⟩
      rw [unhide hcn] at hc hcb h2 ⊢
      have h2i : (cn : Int) < 2 := by omega
      have hc' : ∀ n x, ((w.drewN n).setCell ⟨M, 1, none⟩ x).cell? ⟨b, o + i, none⟩ = some (.int .u8 (cn : Int)) := fun n x => by
        rw [World.cell?_setCell_other _ _ _ _ (by intro e; injection e with e1; exact hne e1.symm)]
        exact hc
      clear hdr
      go_enter Try.func18, Try.ntmps18
      go_wp2_with fail
      go_quiet (fail)
      go_wp2_with fail
      go_quiet (fail)
      go_wp2
      go_ret2
      have e1 : ((cn : Int) == 1) = (cn == 1) := by rw [Bool.eq_iff_iff]; simp; omega
      rw [← e1]
      exact refrd_go _ _ 1 (unhide Hm) (by omega) _ _ _ (by omega) rfl
    · rw [hdr, rdF_no _ _ h2, ← hdr]
      obtain ⟨cn, hcn⟩ : ∃ cn, Hid (l[i].toNat = cn) := ⟨l[i].toNat, Eq.refl _⟩
      rw [unhide hcn] at hc hcb h2
      have h2i : ¬ (cn : Int) < 2 := by omega
      clear hdr
      go_enter Try.func18, Try.ntmps18
      go_wp2_with fail
      go_quiet (fail)
      go_wp2
      go_ret2
      exact refrd_bad _ (unhide Hm) hi _ _ _ rfl
  · have hini : decide ((i : Int) < (l.length : Int)) = false := by simp; omega
    have hdr : l.drop i = [] := List.drop_eq_nil_of_le (by omega)
    rw [hdr, rdF_nil]
    clear hdr
    go_enter Try.func18, Try.ntmps18
    go_wp2_with fail
    go_quiet (fail)
    go_wp2
    go_ret2
    exact refrd_bad _ (unhide Hm) hi _ _ _ (List.drop_eq_nil_of_le (by omega)).symm

theorem Left3.after {M i k : Nat} {ao : Option Addr} {c : Nat} {l : List UInt8} {x y : Value} {r : List UInt8} {w w1 w' : World} {e : Ending} (h : Left3 M (i + k) ao c l x y r w1 e w') (ht : Touch M w w1) : Left3 M i ao c l x y r w e w' := by
  obtain ⟨q, b, h1, h2, h3, h4, h5⟩ := h
  exact ⟨k + q, b, h1, by rw [h2, Nat.add_assoc], by omega, by rw [← Nat.add_assoc]; exact h4, ht.trans h5⟩

theorem rdT_of {l : List UInt8} {most : Int} {x : Nat} {r : List UInt8} (h : rdN l most = (x, 0, r)) : rdT l most = if (r.length : Int) < x then ([], 11, l) else (r.take x, 0, r.drop x) := by
  by_cases hn : (first l).2 = 0 ∨ most < ((first l).1 : Int)
  · rw [rdN_no hn] at h; simp at h
  · rw [rdN_yes hn] at h
    simp only [Prod.mk.injEq] at h
    obtain ⟨h1, _, h3⟩ := h
    have hle := first_le l
    have hrl : (r.length : Int) = (l.length : Int) - (first l).2 := by rw [← h3, List.length_drop]; omega
    by_cases ht : (r.length : Int) < x
    · rw [if_pos ht, rdT_no (.inr (.inr (by rw [← hrl, h1]; exact ht)))]
    · rw [if_neg ht, rdT_yes (by rintro (h | h | h); exact hn (.inl h); exact hn (.inr h); rw [← hrl, h1] at h; exact ht h), h1, h3, ← List.drop_drop, h3]

theorem rdT_of_no {l : List UInt8} {most : Int} (h : (rdN l most).2.1 = 11) : rdT l most = ([], 11, l) := by
  by_cases hn : (first l).2 = 0 ∨ most < ((first l).1 : Int)
  · rcases hn with h | h
    · exact rdT_no (.inl h)
    · exact rdT_no (.inr (.inl h))
  · rw [rdN_yes hn] at h; simp at h

set_option maxRecDepth 100000 in
set_option maxHeartbeats 1000000 in
theorem reftext2_any (M i : Nat) (bad : Bool) (ao : Option Addr) (c : Nat) (l : List UInt8) (most : Int) (w : World) (hm : RefRd w M (.slice ao l.length c) i bad) (hs : Sl w (.slice ao l.length c) l) (hl : l.length ≤ 1099511627776) (hi : i ≤ l.length) :
    Calls Try.prog 20 #[.pointer (some ⟨M, 0, none⟩), .int .i64 most] w
      (Left3 M i ao c l (.string ⟨(rdT (l.drop i) most).1.toArray⟩) (.int .i64 (rdT (l.drop i) most).2.1) (rdT (l.drop i) most).2.2 w) := by
  obtain ⟨c0, c1, c2, hf⟩ := hm.cells
  have HN := hide (refnum_any M i bad ao c l most w hm hs hl hi)
  have hone := rdN_one (l.drop i) most
  have hof := @rdT_of (l.drop i) most
  have hno := @rdT_of_no (l.drop i) most
  have hlc : l.length ≤ c ∧ c ≤ maxLen := by obtain ⟨_, _, e, h1, h2, _⟩ := id hs; injection e with e1 e2 e3; subst e3; exact ⟨h1, h2⟩
  obtain ⟨hlc, hcm⟩ := hlc
  unfold maxLen at hcm
  have Hm := hide hm
  have Hs := hide hs
  clear hm hs
  generalize rdN (l.drop i) most = y at *
  obtain ⟨x, er, r⟩ := y
  simp only at HN hone hno
  rcases hone with ⟨rfl, rfl, rfl⟩ | ⟨rfl, hr, _, hx9⟩
  · rw [hno rfl]
    clear hof hno
    go_enter Try.func20, Try.ntmps20
    go_wp2_with fail
    refine (unhide HN).mono ?_
    rintro e w1 ⟨k, bad1, rfl, _, hk1, hm1, ht1⟩
    obtain ⟨d0, d1, d2, hf1⟩ := hm1.cells
    have Hm1 := hide hm1
    have Ht1 := hide ht1
    clear hm1 ht1 c0 c1 c2 hf
    go_wp2_with fail
    go_quiet (fail)
    go_wp2
    go_ret2
    refine ⟨0, true, rfl, rfl, hi, ?_, ?_⟩
    · exact RefRd.set2 (RefRd.set1 (w := w1.drewN _) (unhide Hm1) _) true
    · exact (((unhide Ht1).drewN _).setCell 1 _).setCell 2 _
  · have hof := hof rfl
    rw [hof]
    clear hno hof hr
    by_cases hlt : (r.length : Int) < x
    · rw [if_pos hlt]
      go_enter Try.func20, Try.ntmps20
      go_wp2_with fail
      refine (unhide HN).mono ?_
      rintro e w1 ⟨k, bad1, rfl, hrk, hk1, hm1, ht1⟩
      have hs1 := (unhide Hs).touch ht1 (unhide Hm) ⟨_, _, _, rfl⟩
      have hrl : r.length = l.length - (i + k) := by rw [hrk]; exact List.length_drop
      obtain ⟨j, hj⟩ : ∃ j, Hid (i + k = j) := ⟨_, Eq.refl _⟩
      rw [unhide hj] at hk1 hm1 hrl hrk
      obtain ⟨d0, d1, d2, hf1⟩ := hm1.cells
      have Hm1 := hide hm1
      have Ht1 := hide ht1
      have Hs1 := hide hs1
      have Hrk := hide hrk
      have hrl' : r.length + j = l.length := by omega
      clear hm1 ht1 c0 c1 c2 hf hs1 HN Hs hrk
      have hlti : (l.length : Int) - (j : Int) < (x : Int) := by omega
      clear hlt hrl'
      go_wp2_with fail
      go_quiet (fail)
      go_wp2
      go_ret2
      refine ⟨0, true, rfl, rfl, hi, ?_, ?_⟩
      · exact RefRd.set2 (RefRd.set1 (w := w1.drewN _) (unhide Hm1) _) true
      · exact (((unhide Ht1).drewN _).setCell 1 _).setCell 2 _
    · rw [if_neg hlt]
      go_enter Try.func20, Try.ntmps20
      go_wp2_with fail
      refine (unhide HN).mono ?_
      rintro e w1 ⟨k, bad1, rfl, hrk, hk1, hm1, ht1⟩
      have hs1 := (unhide Hs).touch ht1 (unhide Hm) ⟨_, _, _, rfl⟩
      have hrl : r.length = l.length - (i + k) := by rw [hrk]; exact List.length_drop
      obtain ⟨j, hj⟩ : ∃ j, Hid (i + k = j) := ⟨_, Eq.refl _⟩
      rw [unhide hj] at hk1 hm1 hrl hrk
      obtain ⟨d0, d1, d2, hf1⟩ := hm1.cells
      have Hm1 := hide hm1
      have Ht1 := hide ht1
      have Hs1 := hide hs1
      have Hrk := hide hrk
      have hrl' : r.length + j = l.length := by omega
      clear hm1 ht1 c0 c1 c2 hf hs1 HN Hs hrk
      have hlti : ¬ (l.length : Int) - (j : Int) < (x : Int) := by omega
      have hjx : (j : Int) + (x : Int) ≤ (c : Int) := by omega
      clear hlt hrl'
      go_wp2_with fail
      go_quiet (fail)
      go_wp2_with fail
      have hs2 := (unhide Hs1).touch (((Touch.refl M w1).drewN nq).setCell 1 (.int .i64 ((j : Int) + (x : Int)))) (unhide Hm1) ⟨_, _, _, rfl⟩
      have hdt := (hs2.drop j hk1).take x (by rw [List.length_drop]; omega)
      have hcv := fun m => conv_sl ((((w1.drewN nq).setCell ⟨M, 1, none⟩ (.int .i64 ((j : Int) + (x : Int))))).drewN m) _ _ hdt
      rw [← unhide Hrk] at hcv
      have hz1 : (j : Int) + (x : Int) - (x : Int) = (j : Int) := by omega
      have hz2 : ((j : Int) + (x : Int)).toNat = j + x := by omega
      have hz3 : IntKind.i64.wrap ((j : Int) + (x : Int) - (x : Int)) = (j : Int) := by rw [IntKind.wrap_i64]; omega
      have hz4 : (j : Int) ≤ (j : Int) + (x : Int) := by omega
      have hz5 : (0 : Int) ≤ (j : Int) + (x : Int) := by omega
      clear hdt hs2
      have hfin : ∀ m, Left3 M i ao c l (.string ⟨(r.take x).toArray⟩) (.int .i64 0) (r.drop x) w (.returned (.tuple #[.string ⟨(r.take x).toArray⟩, .int .i64 0])) (((w1.drewN nq).setCell ⟨M, 1, none⟩ (.int .i64 ((j : Int) + (x : Int)))).drewN m) := fun m => by
        have h := refrd_go (x := .string ⟨(r.take x).toArray⟩) (y := .int .i64 0) (r := r.drop x) (z := (j : Int) + (x : Int)) nq m x (unhide Hm1) (by omega) (by omega) (by rw [unhide Hrk, List.drop_drop])
        refine Left3.after (k := k) ?_ (unhide Ht1)
        rw [unhide hj]
        exact h
      have Hfin := hide hfin
      clear hfin
      by_cases hcj : c = j
      · have hx0 : x = 0 := by omega
        rw [if_pos hcj] at hcv
        subst hx0
        subst hcj
        simp only [Nat.sub_self] at hcv
        have hwc : IntKind.i64.wrap (c : Int) = (c : Int) := by rw [IntKind.wrap_i64]; omega
        simp at hcv
        go_quiet (fail)
        go_wp2
        go_ret2
        exact unhide Hfin _
      · rw [if_neg hcj, Nat.mul_one] at hcv
        go_quiet (fail)
        go_wp2
        go_ret2
        exact unhide Hfin _

end Go.Proofs.Ytaeipnmmknpoeaa
