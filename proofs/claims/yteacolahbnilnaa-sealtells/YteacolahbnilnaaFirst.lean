/-
  seal.first: what it answers.
-/
import Derived.Test.YteacolahbnilnaaGet
import Derived.Deep.QuietTactic
import Derived.BigQuiet
namespace Go.Proofs.Yteacolahbnilnaa
open Go.RowKit
set_option linter.unusedVariables false

/-- What bytes begin with, as the call answers it: a slice of the same memory, and true; or nothing, and false. -/
def Begins (a : Value) (l : List UInt8) (e : Ending) : Prop :=
  (fst l = none ∧ e = .returned (.tuple #[.slice none 0 0, .bool false])) ∨ ∃ v x, fst l = some x ∧ e = .returned (.tuple #[v, .bool true]) ∧ ∀ w, Sl w a l → Sl w v x

theorem Sl.mid {w : World} {b o n c : Nat} {l : List UInt8} (h : Sl w (.slice (some ⟨b, o, none⟩) n c) l) (i k : Nat) (hk : i + k ≤ l.length) (hp : 0 < k) (hi : 0 < i) : Sl w (.slice (some ⟨b, o + i, none⟩) k (c - i)) ((l.drop i).take k) := by
  have hn : n = l.length ∧ l.length ≤ c := by obtain ⟨_, _, e, h1, _⟩ := h; injection e with e1 e2 e3; subst e2; subst e3; exact ⟨rfl, h1⟩
  have h1 := h.drop i (by omega)
  rw [if_neg (by omega)] at h1
  have h2 := h1.take k (by rw [List.length_drop]; omega)
  have e : i ≠ 0 := by omega
  simpa [Addr.add, e] using h2

theorem Sl.drewN {w : World} {v : Value} {l : List UInt8} (h : Sl w v l) (n : Nat) : Sl (w.drewN n) v l := h

theorem fst_none_of {l : List UInt8} {n : Nat} (hn : of4 l = n) (h : n < 1 ∨ 65536 < n ∨ l.length - 8 < n) : fst l = none := by
  unfold fst
  rw [hn, if_neg (by omega)]

theorem fst_ne {l : List UInt8} {n : Nat} (hn : of4 l = n) (h : crc ((l.drop 8).take n) ≠ of4 (l.drop 4)) : fst l = none := by
  unfold fst
  rw [hn, if_neg (fun h' => h h'.2.2.2.2)]

theorem fst_yes {l : List UInt8} {n : Nat} (hn : of4 l = n) (h8 : 8 ≤ l.length) (h1 : 1 ≤ n) (h2 : n ≤ 65536) (h3 : n ≤ l.length - 8) (h : crc ((l.drop 8).take n) = of4 (l.drop 4)) : fst l = some ((l.drop 8).take n) := by
  unfold fst
  rw [hn, if_pos ⟨h8, h1, h2, h3, h⟩]

set_option maxRecDepth 100000 in
set_option maxHeartbeats 1000000 in
theorem first_any (v : Value) (l : List UInt8) (w : World) (hs : Sl w v l) (hl : l.length ≤ 1099511627776) :
    Calls Try.prog 24 #[v] w fun e w' => Begins v l e ∧ ∃ n, w' = w.drewN n := by
  have hv : ∃ ao c, v = .slice ao l.length c ∧ l.length ≤ c ∧ c ≤ maxLen := by obtain ⟨ao, c, rfl, h1, h2, _⟩ := hs; exact ⟨_, _, rfl, h1, h2⟩
  obtain ⟨ao, c, rfl, h1, h2⟩ := hv
  unfold maxLen at h2
  have Hs : Hid (Sl w (.slice ao l.length c) l) := hs
  clear hs
  by_cases h8 : 8 ≤ l.length
  · obtain ⟨b, o, rfl⟩ := Hs.out.addr (by omega)
    have hof := of4_lt l
    obtain ⟨n, hn⟩ : ∃ n, Hid (of4 l = n) := ⟨of4 l, Eq.refl (of4 l)⟩
    rw [hn.out] at hof
    have HG : Hid (Calls Try.prog 27 #[.slice (some ⟨b, o, none⟩) l.length c] w fun e w' => e = .returned (.int .u32 n) ∧ w' = w) := by
      have := get_any _ l _ Hs.out (by omega)
      rw [hn.out] at this
      exact this
    by_cases hfit : 1 ≤ n ∧ n ≤ 65536
    · obtain ⟨hf1, hf2⟩ := hfit
      by_cases hrest : n ≤ l.length - 8
      · have hr := Hs.out.mid 8 n (by omega) (by omega) (by omega)
        have h4 := Hs.out.mid 4 (l.length - 4) (by omega) (by omega) (by omega)
        rw [List.take_of_length_le (by simp)] at h4
        obtain ⟨s, Hs1⟩ : ∃ s, Hid (crc ((l.drop 8).take n) = s) := ⟨_, Eq.refl (crc ((l.drop 8).take n))⟩
        obtain ⟨t, Ht1⟩ : ∃ t, Hid (of4 (l.drop 4) = t) := ⟨_, Eq.refl (of4 (l.drop 4))⟩
        have HS : Hid (∀ q, Calls Try.prog 15 #[.slice (some ⟨b, o + 8, none⟩) n (c - 8)] (w.drewN q) fun e w' => e = .returned (.int .u32 s) ∧ w' = w.drewN q) := by
          intro q
          rw [← Hs1.out]
          exact sum_any _ _ _ (hr.drewN q)
        have HT : Hid (∀ q, Calls Try.prog 27 #[.slice (some ⟨b, o + 4, none⟩) (l.length - 4) (c - 4)] (w.drewN q) fun e w' => e = .returned (.int .u32 t) ∧ w' = w.drewN q) := by
          intro q
          rw [← Ht1.out]
          exact get_any _ _ _ (h4.drewN q) (by rw [List.length_drop]; omega)
        clear hr h4
        by_cases hst : s = t
        · subst hst
          go_enter Try.func24, Try.ntmps24
          go_wp2_with (first | (go_at_call 27; refine HG.out.mono ?_; rintro e w' ⟨rfl, rfl⟩) | (go_at_call 18; refine (fits_yes _ _ (by omega) (by omega)).mono ?_; rintro e w' ⟨rfl, rfl⟩))
          go_quiet (first | (go_at_call 15; exact Calls.quiet_of_same (HS.out _)) | (go_at_call 27; exact Calls.quiet_of_same (HT.out _)))
          go_wp2
          go_ret2
          refine ⟨.inr ⟨_, _, fst_yes hn.out h8 hf1 hf2 hrest (by rw [Hs1.out, Ht1.out]), rfl, ?_⟩, _, rfl⟩
          intro w2 h2'
          rw [show 8 + n - 8 = n by omega]
          exact h2'.mid 8 n (by omega) (by omega) (by omega)
        · have hst' : ((s : Int) == (t : Int)) = false := by simp; omega
          go_enter Try.func24, Try.ntmps24
          go_wp2_with (first | (go_at_call 27; refine HG.out.mono ?_; rintro e w' ⟨rfl, rfl⟩) | (go_at_call 18; refine (fits_yes _ _ (by omega) (by omega)).mono ?_; rintro e w' ⟨rfl, rfl⟩))
          go_quiet (first | (go_at_call 15; exact Calls.quiet_of_same (HS.out _)) | (go_at_call 27; exact Calls.quiet_of_same (HT.out _)))
          go_wp2
          go_ret2
          exact ⟨.inl ⟨fst_ne hn.out (by rw [Hs1.out, Ht1.out]; exact hst), rfl⟩, _, rfl⟩
      · go_enter Try.func24, Try.ntmps24
        go_wp2_with (first | (go_at_call 27; refine HG.out.mono ?_; rintro e w' ⟨rfl, rfl⟩) | (go_at_call 18; refine (fits_yes _ _ (by omega) (by omega)).mono ?_; rintro e w' ⟨rfl, rfl⟩))
        go_ret2
        exact ⟨.inl ⟨fst_none_of hn.out (by omega), rfl⟩, 0, rfl⟩
    · go_enter Try.func24, Try.ntmps24
      go_wp2_with (first | (go_at_call 27; refine HG.out.mono ?_; rintro e w' ⟨rfl, rfl⟩) | (go_at_call 18; refine (fits_no _ _ (by omega)).mono ?_; rintro e w' ⟨rfl, rfl⟩))
      go_ret2
      exact ⟨.inl ⟨fst_none_of hn.out (by omega), rfl⟩, 0, rfl⟩
  · go_enter Try.func24, Try.ntmps24
    go_wp2
    go_ret2
    exact ⟨.inl ⟨fst_short (by omega), rfl⟩, 0, rfl⟩

end Go.Proofs.Yteacolahbnilnaa
