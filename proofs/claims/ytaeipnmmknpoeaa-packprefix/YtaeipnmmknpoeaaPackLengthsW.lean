/-
  The law PackLengths: its walk.
-/
import Derived.Test.YtaeipnmmknpoeaaAlive
import Derived.OpenShut
namespace Go.Proofs.Ytaeipnmmknpoeaa
open Go.RowKit
set_option linter.unusedVariables false

theorem enc_mono (x y : Nat) (h : x ≤ y) : (enc x).length ≤ (enc y).length := by
  induction x using Nat.strongRecOn generalizing y with
  | _ x ih =>
    by_cases hx : x < 128
    · rw [enc_small hx]; exact enc_pos y
    · rw [enc_big (by omega), enc_big (v := y) (by omega), List.length_cons, List.length_cons]
      have := ih (x / 128) (by omega) (y / 128) (by omega)
      omega

theorem Own.form {B : Nat} {w : World} {r : Value} {l : List UInt8} (h : Own B w r l) : ∃ ao c, r = .slice ao l.length c ∧ l.length ≤ c ∧ c ≤ maxLen ∧ Sl w (.slice ao l.length c) l := by
  have hs := h.sl
  obtain ⟨ao, c, rfl, h1, h2, h3, h4⟩ := h.sl
  exact ⟨ao, c, rfl, h1, h2, hs⟩

theorem str_back (s : ByteArray) : (⟨s.data.toList.toArray⟩ : ByteArray) = s := by
  cases s; simp

theorem encF_len (b : Bool) : (encF b).length = 1 := by cases b <;> rfl

theorem encT_len (s : ByteArray) : (encT s).length = (enc s.size).length + s.size := by unfold encT; rw [List.length_append, str_len]

set_option maxRecDepth 100000 in
set_option maxHeartbeats 4000000 in
theorem walkPackLengths (a0 : Int) (w0 : (Lit.int .i64 a0).wf = true) (a1 : Int) (w1 : (Lit.int .i64 a1).wf = true) (a2 : ByteArray) (w2 : a2.size ≤ maxLen) (w : World) :
    Calls Try.prog 8 #[.int .i64 a0, .int .i64 a1, .string a2] w fun e w' => e = .returned (.bool true) ∧ Below w.heap.size w w' := by
  have b0 := (bounds_i64 w0).2
  have b1 := (bounds_i64 w1).2
  clear w0 w1
  unfold maxLen at w2
  have hord : max a1 0 < max a0 0 ∨ (max a0 0 ≤ max a1 0 ∧ (enc a0.toNat).length ≤ (enc a1.toNat).length) := by
    by_cases h : max a1 0 < max a0 0
    · exact .inl h
    · exact .inr ⟨by omega, enc_mono _ _ (by omega)⟩
  have Hord := hide hord
  clear hord
  by_cases hl : 400 < a2.size
  · go_enter Try.func8, Try.ntmps8
    go_wp2_with fail
    refine (alive_any _).mono ?_
    rintro e w' ⟨rfl, hb⟩
    go_wp2
    go_ret
    exact ⟨rfl, hb⟩
  · go_enter Try.func8, Try.ntmps8
    go_wp2_with fail
    all_goals
      go_loop [7, 8] (fun k v => ∃ m y : Nat, k = .int .i64 m ∧ v = .int .i64 y ∧ y ≤ 9223372036854775807 ∧ m ≤ 9 ∧ (enc a0.toNat).length + 1 = m + (enc y).length) (fun _ v => (intOf v).toNat)
      case atStart => exact ⟨1, a0.toNat, rfl, by first | (congr 1; omega) | (rw [Int.toNat_of_nonneg (by omega)]), by omega, by omega, by omega⟩
      case round =>
        obtain ⟨m, y, rfl, rfl, hy, hm, hlen⟩ := hrel
        have h9 := enc_len9 (v := a0.toNat) (by omega)
        have hp := enc_pos y
        by_cases hbig : 128 ≤ y
        · have h2 : (enc y).length = (enc (y / 128)).length + 1 := by rw [enc_big hbig, List.length_cons]
          have hp2 := enc_pos (y / 128)
          have H1 := hide hlen
          have H2 := hide h2
          clear hlen h2
          go_wp2
          go_round
          case rel => exact ⟨m + 1, y / 128, by go_num, by go_num, by omega, by have := unhide H1; have := unhide H2; omega, by have := unhide H1; have := unhide H2; omega⟩
          case measure => simp [intOf]; omega
        · have h1 : (enc y).length = 1 := by rw [enc_small (by omega)]; rfl
          have hm' : (enc a0.toNat).length = m := by omega
          rw [hm'] at Hord
          have Hm := hide hm'
          clear hm' h1 hlen hp
          go_wp2_with fail
          refine (number_any _ [] a0 _ (Sl.nil _) (by decide) b0).mono ?_
          rintro e w1 ⟨r1, rfl, ho1, hb1⟩
          rw [List.nil_append] at ho1
          obtain ⟨ao1, c1, rfl, hc1, hx1, _⟩ := ho1.form
          rw [unhide Hm] at hc1 ⊢
          clear ho1
          go_wp2_with fail
          refine (number_any _ [] a1 _ (Sl.nil _) (by decide) b1).mono ?_
          rintro e w2 ⟨r2, rfl, ho2, hb2⟩
          rw [List.nil_append] at ho2
          obtain ⟨ao2, c2, rfl, hc2, hx2, _⟩ := ho2.form
          generalize (enc a1.toNat).length = m1 at *
          clear ho2
          go_wp2_with fail
          refine (text_any _ [] a2 _ (Sl.nil _) (by decide) (by omega)).mono ?_
          rintro e w3 ⟨r3, rfl, ho3, hb3⟩
          rw [List.nil_append] at ho3
          obtain ⟨ao3, c3, rfl, hc3, hx3, hs3⟩ := ho3.form
          clear ho3
          go_wp2_with fail
          refine (number_any _ [] a2.size _ (Sl.nil _) (by decide) (by omega)).mono ?_
          rintro e w4 ⟨r4, rfl, ho4, hb4⟩
          rw [List.nil_append, Int.toNat_natCast] at ho4
          obtain ⟨ao4, c4, rfl, hc4, hx4, _⟩ := ho4.form
          clear ho4
          go_wp2_with fail
          refine (alive_any _).mono ?_
          rintro e w5 ⟨rfl, hb5⟩
          have z1 := hb1.size
          have z2 := hb2.size
          have z3 := hb3.size
          have z4 := hb4.size
          have hs5 := (hs3.below hb4 (Nat.le_refl _)).below hb5 (Nat.le_refl _)
          have HB := hide ((((hb1.trans (hb2.mono z1)).trans (hb3.mono (by omega))).trans (hb4.mono (by omega))).trans (hb5.mono (by omega)))
          have hd := hs5.drop (enc a2.size).length (by rw [encT_len]; omega)
          rw [show List.drop (enc a2.size).length (encT a2) = a2.data.toList from List.drop_left] at hd
          have hcv := conv_sl _ _ _ hd
          rw [str_back] at hcv
          have hlt := encT_len a2
          generalize (encT a2).length = m3 at *
          generalize (enc a2.size).length = m4 at *
          subst hlt
          rw [Nat.add_sub_cancel_left, Nat.mul_one] at hcv
          unfold maxLen at hx1 hx2 hx3 hx4
          clear hb1 hb2 hb3 hb4 hb5 hs3 hs5 hd
          have hsl : (c3 = m4 ∧ a2.size = 0) ∨ ¬ c3 = m4 := by omega
          rcases hsl with ⟨hck, hz⟩ | hck
          all_goals
            first | (rw [if_pos hck, hz, hck, Nat.sub_self] at hcv; subst hck) | rw [if_neg hck] at hcv
            rcases unhide Hord with hgt | ⟨hle, hln⟩
            all_goals
              by_cases hneg1 : a1 < 0
              all_goals
                first
                | omega
                | (go_wp2_with fail
                   all_goals
                     refine (flag_any _ [] _ _ (Sl.nil _) (by decide)).mono ?_
                     rintro e w6 ⟨r6, rfl, ho6, hb6⟩
                     obtain ⟨ao6, c6, rfl, hc6, hx6, _⟩ := ho6.form
                     rw [List.nil_append, encF_len] at *
                     have z5 := (unhide HB).size
                     have HB6 := hide ((unhide HB).trans (hb6.mono z5))
                     clear hb6 ho6
                     go_wp2
                     go_ret
                     exact ⟨rfl, unhide HB6⟩)

end Go.Proofs.Ytaeipnmmknpoeaa
