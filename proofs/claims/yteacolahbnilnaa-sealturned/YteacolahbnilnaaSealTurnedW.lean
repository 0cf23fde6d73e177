/-
  The law SealTurned: its walk.
-/
import Derived.Test.YteacolahbnilnaaTurn
namespace Go.Proofs.Yteacolahbnilnaa
open Go.RowKit
set_option linter.unusedVariables false

set_option maxRecDepth 100000 in
set_option maxHeartbeats 2000000 in
theorem turned_early (w : World) (v : Value) (l : List UInt8) (x0 x1 : Int) (d : Nat) (hs : Sl w v l) (hc : 500 < l.length ∨ l.length = 0) :
    Calls Try.prog 5 #[v, .agg #[.int .i64 x0, .int .i64 x1], .int .u32 d] w fun e w' => e = .returned (.bool true) ∧ Below w.heap.size w w' := by
  have hv : ∃ ao c, v = .slice ao l.length c ∧ l.length ≤ c ∧ c ≤ maxLen := by obtain ⟨ao, c, rfl, h1, h2, _⟩ := hs; exact ⟨_, _, rfl, h1, h2⟩
  obtain ⟨ao, c, rfl, hc1, hc2⟩ := hv
  unfold maxLen at hc2
  have hb0 : Below w.heap.size w (w.alloc (.cells #[.int .i64 x0, .int .i64 x1] 35)) := (Below.refl _ w).alloc (Nat.le_refl _) _
  have hs0 := hs.below hb0 (Nat.le_refl _)
  clear hs
  by_cases hfit : Fits l
  · have hbig : 500 < l.length := by have := hfit.1; omega
    go_enter Try.func5, Try.ntmps5
    go_wp2_with fail
    refine (frame_yes _ l _ hs0 hfit).mono ?_
    rintro e w1 ⟨r1, rfl, ho1, hb1⟩
    have HB := hide (hb0.trans (hb1.mono (by simp)))
    clear ho1 hb1 hb0
    go_wp2_with fail
    refine (alive_any _).mono ?_
    rintro e w2 ⟨rfl, hb2⟩
    go_wp2
    go_ret
    exact ⟨rfl, HB.out.trans (hb2.mono HB.out.size)⟩
  · by_cases hbig : 500 < l.length
    all_goals
      go_enter Try.func5, Try.ntmps5
      go_wp2_with fail
      refine (frame_no _ l _ hs0 hfit).mono ?_
      rintro e w1 ⟨rfl, hw⟩
      obtain rfl := hw.symm
      clear hw
      go_wp2_with fail
      refine (alive_any _).mono ?_
      rintro e w2 ⟨rfl, hb2⟩
      go_wp2
      go_ret
      exact ⟨rfl, hb0.trans (hb2.mono (by simp))⟩

set_option maxRecDepth 100000 in
set_option maxHeartbeats 4000000 in
theorem turned_late (w : World) (v : Value) (l : List UInt8) (x0 x1 : Int) (d : Nat) (hs : Sl w v l) (h1 : 1 ≤ l.length) (h2 : l.length ≤ 500) (hx1 : -9223372036854775808 ≤ x1 ∧ x1 ≤ 9223372036854775807) (hd : d < 4294967296) :
    Calls Try.prog 5 #[v, .agg #[.int .i64 x0, .int .i64 x1], .int .u32 d] w fun e w' => e = .returned (.bool true) ∧ Below w.heap.size w w' := by
  have hv : ∃ ao c, v = .slice ao l.length c ∧ l.length ≤ c ∧ c ≤ maxLen := by obtain ⟨ao, c, rfl, h1, h2, _⟩ := hs; exact ⟨_, _, rfl, h1, h2⟩
  obtain ⟨ao, c, rfl, hc1, hc2⟩ := hv
  unfold maxLen at hc2
  have hb0 : Below w.heap.size w (w.alloc (.cells #[.int .i64 x0, .int .i64 x1] 35)) := (Below.refl _ w).alloc (Nat.le_refl _) _
  have hs0 := hs.below hb0 (Nat.le_refl _)
  have hfit : Fits l := ⟨h1, by omega⟩
  have hn0 := fr_length l
  obtain ⟨n, hn⟩ : ∃ n, (fr l).length = n := ⟨_, rfl⟩
  rw [hn] at hn0
  have hn9 : 9 ≤ n := by omega
  have hn508 : n ≤ 508 := by omega
  obtain ⟨q, hqn, hq⟩ := tmod_cases x1 n (by omega)
  clear hs
  have A0 : (w.alloc (.cells #[.int .i64 x0, .int .i64 x1] 35)).cell? ⟨w.heap.size, 0, none⟩ = some (.int .i64 x0) := by simp
  have A1 : (w.alloc (.cells #[.int .i64 x0, .int .i64 x1] 35)).cell? ⟨w.heap.size, 1, none⟩ = some (.int .i64 x1) := by simp
  rcases hq with ⟨hq, hq0⟩ | ⟨hq, hq0⟩
  all_goals
    rw [hq] at hq0
    go_enter Try.func5, Try.ntmps5
    go_wp2_with fail
    refine (frame_yes _ l _ hs0 hfit).mono ?_
    rintro e w1 ⟨r1, rfl, ho1, hb1⟩
    obtain ⟨fo, fc, rfl⟩ := ho1.val
    have B0 := (hb1.cell (p := ⟨w.heap.size, 0, none⟩) (by simp)).trans A0
    have B1 := (hb1.cell (p := ⟨w.heap.size, 1, none⟩) (by simp)).trans A1
    have hsf := ho1.sl
    obtain ⟨fb, fof, rfl⟩ := hsf.addr (by omega)
    have hfc : (fr l).length ≤ fc ∧ fc ≤ maxLen := by obtain ⟨_, _, e, k1, k2, _⟩ := hsf; injection e with e1 e2 e3; subst e3; exact ⟨k1, k2⟩
    obtain ⟨hfc1, hfc2⟩ := hfc
    unfold maxLen at hfc2
    rw [hn] at hfc1 ⊢
    have HB := hide (hb0.trans (hb1.mono (by simp)))
    have hcut := hsf.take q (by omega)
    have Hf := hide ho1
    have Hcut := hide hcut
    clear ho1 hb1 hsf hcut hs0
    have hwc := whole_cut (x := l) (by omega) (n := q) (by omega)
    have hqI : (q : Int) ≤ (n : Int) := by omega
    have Hn0 := hide hn0
    have Hn := hide hn
    have Hwc := hide hwc
    clear A0 A1 hn0 hn hwc
    go_wp2_with fail
    refine (whole_any _ ((fr l).take q) _ Hcut.out (by rw [List.length_take]; omega)).mono ?_
    rintro e w2 ⟨⟨_, rfl⟩ | ⟨r, x', hx', _⟩, hb2⟩
    case inr => rw [Hwc.out] at hx'; cases hx'
    have hz1 := HB.out.size
    have hbx : w.heap.size < w1.heap.size := World.block_lt_of_cell? w1 _ B0
    have C0 := (hb2.cell (p := ⟨w.heap.size, 0, none⟩) hbx).trans B0
    have HB2 := hide (HB.out.trans (hb2.mono hz1))
    have Hf2 := hide (Hf.out.later hb2)
    clear B0 B1 HB Hf hb2 Hcut Hwc hq hq0 hqI
    by_cases hneg : x0 < 0
    · go_wp2_with fail
      refine (alive_any _).mono ?_
      rintro e w3 ⟨rfl, hb3⟩
      go_wp2
      go_ret
      exact ⟨rfl, HB2.out.trans (hb3.mono HB2.out.size)⟩
    by_cases hfar : 8 * (l.length : Int) - 32 < x0
    · go_wp2_with fail
      refine (alive_any _).mono ?_
      rintro e w3 ⟨rfl, hb3⟩
      go_wp2
      go_ret
      exact ⟨rfl, HB2.out.trans (hb3.mono HB2.out.size)⟩
    by_cases hd0 : d = 0
    · subst hd0
      go_wp2_with fail
      refine (alive_any _).mono ?_
      rintro e w3 ⟨rfl, hb3⟩
      go_wp2
      go_ret
      exact ⟨rfl, HB2.out.trans (hb3.mono HB2.out.size)⟩
    obtain ⟨a, rfl⟩ := Int.eq_ofNat_of_zero_le (show 0 ≤ x0 by omega)
    have hd0' : ((d : Int) == 0) = false := by simp; omega
    have hl0 := Own.lit0 w2
    have hsf2 : Sl (w2.alloc (.cells #[] 5)) (.slice (some ⟨fb, fof, none⟩) n fc) (fr l) := by
      have := (Own.later (W' := w2.alloc (.cells #[] 5)) Hf2.out ((Below.refl _ w2).alloc (Nat.le_refl _) _)).sl
      rw [Hn.out] at this
      exact this
    go_wp2_with (at_builtin; refine wpList_append_sl _ rfl (.tmp 76) (.tmp 77) rfl w2.heap.size (by simp) _ _ rfl hl0 _ _ rfl hsf2 (by rw [Hn.out]; simp; omega) ?_)
    intro v3 w3 ho3 hg3
    replace ho3 : Own w2.heap.size w3 v3 (fr l) := ho3
    have hB3 : Below w2.heap.size w2 w3 := ((Below.refl _ w2).alloc (Nat.le_refl _) _).grown hg3 (by simp) (fun k hk => (World.ownsRow.lt hl0 k hk).1)
    clear hg3 hsf2 hl0
    have hD0 := (hB3.cell (p := ⟨w.heap.size, 0, none⟩) (World.block_lt_of_cell? w2 _ C0)).trans C0
    obtain ⟨g, cap, rfl⟩ : ∃ g cap, v3 = .slice (some ⟨g, 0, none⟩) n cap := by
      rcases ho3.2 with ⟨_, h0⟩ | ⟨g, cap, _, rfl, _⟩
      · rw [Hn.out] at h0; omega
      · exact ⟨g, cap, by rw [Hn.out]⟩
    have Ho3 := hide ho3
    have hz2 := HB2.out.size
    clear ho3
    go_wp2
    go_loopw [13] (fun i wr => ∃ (k : Nat) (r : List UInt8), k ≤ 32 ∧ i = .int .i64 k ∧ Hid (Own w2.heap.size wr (.slice (some ⟨g, 0, none⟩) n cap) (tf l r) ∧ r.length = l.length ∧ num r = num l ^^^ (2 ^ a * (d % 2 ^ k))) ∧ Hid (Below w2.heap.size w2 wr)) (fun i _ => 32 - (intOf i).toNat)
    case atStart => exact ⟨0, l, by omega, rfl, ⟨Ho3.out, rfl, by rw [Nat.pow_zero, Nat.mod_one, Nat.mul_zero, Nat.xor_zero]⟩, hB3⟩
    case round =>
      obtain ⟨k, r, hk, rfl, Hr, Hb⟩ := hrel
      by_cases hk32 : k < 32
      · by_cases hbit : d / 2 ^ k % 2 = 1
        · have htest := bit_true d k hbit
          have hD := (Hb.out.cell (p := ⟨w.heap.size, 0, none⟩) (World.block_lt_of_cell? w2 _ C0)).trans (show w2.cell? ⟨w.heap.size, 0, none⟩ = some (.int .i64 (a : Int)) from C0)
          obtain ⟨hOw, hrl, hnum⟩ := Hr.out
          have hi : (a + k) / 8 < r.length := by rw [hrl]; omega
          have hjl : (64 + a + k) / 8 < (tf l r).length := by rw [tf_length]; omega
          obtain ⟨hcn, hfz, hgB, hOw'⟩ := turn_bit hOw ((64 + a + k) / 8) ((64 + a + k) % 8) hjl (by omega) (by rw [tf_length, hrl]; exact Hn0.out.symm)
          have hset : (tf l r).set ((64 + a + k) / 8) ((tf l r)[(64 + a + k) / 8] ^^^ UInt8.ofNat (2 ^ ((64 + a + k) % 8))) = tf l (r.set ((a + k) / 8) (r[(a + k) / 8] ^^^ UInt8.ofNat (2 ^ ((a + k) % 8)))) := by
            have e1 : (64 + a + k) / 8 = 8 + (a + k) / 8 := by omega
            have e2 : (64 + a + k) % 8 = (a + k) % 8 := by omega
            have e3 : (tf l r)[(64 + a + k) / 8] = r[(a + k) / 8] := by
              apply Option.some.inj
              rw [← List.getElem?_eq_getElem hjl, ← List.getElem?_eq_getElem hi, e1, tf_get]
            rw [e3, e2, e1, tf_set]
          have hnum' : num (r.set ((a + k) / 8) (r[(a + k) / 8] ^^^ UInt8.ofNat (2 ^ ((a + k) % 8)))) = num l ^^^ (2 ^ a * (d % 2 ^ (k + 1))) := by
            rw [num_set r ((a + k) / 8) ((a + k) % 8) hi (by omega), show 8 * ((a + k) / 8) + (a + k) % 8 = a + k by omega, hnum, turned_step _ _ _ _ hbit]
          rw [hset] at hOw'
          obtain ⟨cn, hcne⟩ : ∃ cn, Hid ((tf l r)[(64 + a + k) / 8].toNat = cn) := ⟨_, Eq.refl (tf l r)[(64 + a + k) / 8].toNat⟩
          have hcb : ((tf l r)[(64 + a + k) / 8].toNat : Int) < 256 := by have := (tf l r)[(64 + a + k) / 8].toNat_lt; omega
          rw [hcne.out] at hcn hcb hOw'
          have Hlen : Hid ((r.set ((a + k) / 8) (r[(a + k) / 8] ^^^ UInt8.ofNat (2 ^ ((a + k) % 8)))).length = l.length) := by
            show _ = _
            rw [List.length_set, hrl]
          have HOw' := hide hOw'
          have Hnum' := hide hnum'
          clear hOw' hnum' hset hOw hrl hnum
          have hjI : (64 + (a : Int) + (k : Int)) / 8 < (n : Int) := by have := Hn0.out; omega
          have hjI0 : 0 ≤ (64 + (a : Int) + (k : Int)) / 8 := by omega
          go_wp2
          go_roundw
          case rel => exact ⟨k + 1, _, by omega, by go_num, ⟨unhide HOw', unhide Hlen, unhide Hnum'⟩, (unhide Hb).setCell (p := ⟨g, (64 + a + k) / 8, none⟩) hgB _⟩
          case measure => simp [intOf]; omega
        · have htest := bit_false d k hbit
          go_wp2
          go_roundw
          case rel => exact ⟨k + 1, r, by omega, by go_num, ⟨Hr.out.1, Hr.out.2.1, by rw [turned_still d k (by omega)]; exact Hr.out.2.2⟩, unhide Hb⟩
          case measure => simp [intOf]; omega
      · obtain ⟨hOw, hrl, hnum⟩ := Hr.out
        have hcrc : crc r ≠ crc l := crc_turned hrl d a (by omega) (by omega) (by omega) (by
          rw [hnum, show k = 32 by omega, Nat.mod_eq_of_lt (by omega)])
        have hbad : fst (tf l r) = none := by
          have := fst_bad hrl hcrc (by omega) []
          rw [List.append_nil] at this
          exact this
        have hlen : (tf l r).length ≤ 508 := by rw [tf_length, hrl]; omega
        have hzr := Hb.out.size
        have HbW := hide (HB2.out.trans (Hb.out.mono hz2))
        have HOw := hide hOw
        have Hbad := hide hbad
        clear hnum hrl hOw hcrc hbad
        go_wp2_with fail
        refine (whole_any _ (tf l r) _ HOw.out.sl (by omega)).mono ?_
        rintro e w4 ⟨⟨_, rfl⟩ | ⟨r', x', hx', _⟩, hb4⟩
        case inr => unfold whole at hx'; rw [Hbad.out] at hx'; cases hx'
        have hz4 := hb4.size
        go_wp2_with fail
        refine (scan_any _ (tf l r) [] _ (HOw.out.later hb4).sl (by omega) Hbad.out).mono ?_
        rintro e w5 ⟨r5, rfl, hrec, hb5⟩
        obtain ⟨ra, rc, rfl⟩ := hrec.val
        have hz5 := hb5.size
        have HW5 := hide ((HbW.out.trans (hb4.mono HbW.out.size)).trans (hb5.mono (by have := HbW.out.size; omega)))
        clear hrec hb4 hb5
        rw [show total [] = 0 from rfl, List.length_nil]
        go_wp2_with fail
        refine (alive_any _).mono ?_
        rintro e w6 ⟨rfl, hb6⟩
        go_wp2
        go_ret
        exact ⟨rfl, HW5.out.trans (hb6.mono HW5.out.size)⟩

theorem walkSealTurned (w : World) (v : Value) (l : List UInt8) (hs : Sl w v l) (va : Value) (z : Int × Int) (hz : va = .agg #[.int .i64 z.1, .int .i64 z.2] ∧ -9223372036854775808 ≤ z.2 ∧ z.2 ≤ 9223372036854775807) (a : Int) (ha : (Lit.int .u32 a).wf = true) :
    Calls Try.prog 5 #[v, va, .int .u32 a] w fun e w' => e = .returned (.bool true) ∧ Below w.heap.size w w' := by
  obtain ⟨x0, x1⟩ := z
  obtain ⟨rfl, hx1⟩ := hz
  have hb := bounds_u32 ha
  obtain ⟨d, rfl⟩ := Int.eq_ofNat_of_zero_le hb.1
  by_cases hc : 500 < l.length ∨ l.length = 0
  · exact turned_early w v l x0 x1 d hs hc
  · exact turned_late w v l x0 x1 d hs (by omega) (by omega) hx1 (by omega)

end Go.Proofs.Yteacolahbnilnaa
