/-
  The law StampBack: its walk.
-/
import Derived.Test.YtjeefpibhkngiaaDoorField
import Derived.Test.YtjeefpibhkngiaaDoorView
import Derived.Test.YtjeefpibhkngiaaDoorConv
import Derived.Test.YtjeefpibhkngiaaDoorBackMath
namespace Go.Proofs.YtjeefpibhkngiaaDoor
open Go.RowKit
set_option linter.unusedVariables false

theorem back_eq (l : List UInt8) (x y : Int) (r : List UInt8) (h : l = encS x y ++ r) : l.take (encS x y).length = encS x y := by rw [h]; simp
theorem back_len (l : List UInt8) (x y : Int) (r : List UInt8) (h : l = encS x y ++ r) : l.length = (encS x y).length + r.length := by rw [h, List.length_append]

set_option maxRecDepth 100000 in
set_option maxHeartbeats 8000000 in
theorem walkStampBackC (w : World) (p q : Int) (hp : p ≤ 9223372036854775807) (hq : q ≤ 9223372036854775807) (v : Value) (l : List UInt8) (hs : Sl w v l) (ht : Tab w) :
    Calls Tryd.prog 6 #[.agg #[.int .i64 p, .int .i64 q], v] w fun e w' => e = .returned (.bool true) ∧ Below w.heap.size w w' := by
  have hv : ∃ ao c, v = .slice ao l.length c ∧ l.length ≤ c ∧ c ≤ maxLen := by obtain ⟨ao, c, rfl, h1, h2, _⟩ := hs; exact ⟨_, _, rfl, h1, h2⟩
  obtain ⟨ao, c, rfl, hlc, hcm⟩ := hv
  unfold maxLen at hcm
  have sa := At.new w p q 23
  have R : Below w.heap.size w (w.alloc (.cells #[.int .i64 p, .int .i64 q] 23)) := by go_grown
  have hs0 := hs.below R (Nat.le_refl _)
  by_cases h200 : 200 < l.length
  · go_enter Tryd.func6, Tryd.ntmps6
    go_wp2_with fail
    refine (alive_any _ (ht.below R)).mono ?_
    rintro e w1 ⟨rfl, hb⟩
    replace R := R.trans (hb.mono R.size)
    clear hb sa hs0
    go_wp2
    go_ret
    exact ⟨rfl, R⟩
  · have h18 := encS_len p q hp hq
    have hRs := fun w => right_any p q w
    have hz0 : w.heap.size ≤ (w.alloc (.cells #[.int .i64 p, .int .i64 q] 23)).heap.size := R.size
    have hll : (encS p q ++ l).length ≤ 1099511627776 := by rw [List.length_append]; omega
    obtain ⟨X, Y, E, L, hrd, hst⟩ : ∃ (X Y : Nat) (E : Int) (L : List UInt8), rdS (encS p q ++ l) = (X, Y, E, L) ∧ (rightB p q = true → (X : Int) = p ∧ (Y : Int) = q ∧ E = 0 ∧ l = L) := by
      refine ⟨(rdS (encS p q ++ l)).1, (rdS (encS p q ++ l)).2.1, (rdS (encS p q ++ l)).2.2.1, (rdS (encS p q ++ l)).2.2.2, rfl, fun h => ?_⟩
      rw [rdS_enc p q l h]
      have := (right_iff p q).1 h
      exact ⟨Int.toNat_of_nonneg (by omega), Int.toNat_of_nonneg (by omega), rfl, rfl⟩
    have Hst := hide hst
    clear hst
    go_enter Tryd.func6, Tryd.ntmps6
    go_wp2_with fail
    refine (put_stp _ [] p q _ (Sl.nil _) (by simp) hp hq).mono ?_
    rintro e w1 ⟨r1, rfl, ho1, hb1⟩
    rw [List.nil_append] at ho1
    have hs1 := hs0.below hb1 (Nat.le_refl _)
    go_wp2_with (at_builtin; refine wpList_append_sl _ rfl (.tmp 17) (.tmp 18) rfl (w.alloc (.cells #[.int .i64 p, .int .i64 q] 23)).heap.size hb1.size _ _ rfl ho1 _ _ rfl hs1 (by omega) ?_)
    intro v2 w2 ho2 hg2
    have hb2 := hb1.grown hg2 hb1.size (fun k hk => (World.ownsRow.lt ho1 k hk).1)
    replace sa := sa.below hb2 (Nat.le_refl _)
    have hs2 := hs0.below hb2 (Nat.le_refl _)
    replace R := R.trans (hb2.mono hz0)
    have hv2 := ho2.sl
    clear ho1 hb1 hs1 hg2 hb2 hs0 ho2 hz0
    go_wp2_with fail
    refine (open_any _ _ _ hv2 hll).mono ?_
    rintro e w3 ⟨N, rfl, hN, hr3, hb⟩
    have hne : w.heap.size < N := Nat.lt_of_lt_of_le sa.lt hN
    replace sa := sa.below hb (Nat.le_refl _)
    have hs3 := hs2.below hb (Nat.le_refl _)
    replace R := R.trans (hb.mono R.size)
    clear hb hs2 hv2
    go_wp2_with fail
    have hG := get_any N _ w3 hr3 hll
    rw [hrd] at hG
    refine hG.mono ?_
    rintro e w4 ⟨rfl, hr4, hm4⟩
    replace sa := sa.moved hm4 (by omega)
    have hs4 := hm4.sl hr3 hs3
    replace R := R.trans (hm4.below (by omega) R.size)
    clear hm4 hr3 hs3 hG hN hrd
    have hA : Below w4.heap.size w4 (w4.alloc (.cells #[.int .i64 X, .int .i64 Y] 23)) := (Below.refl _ _).alloc (Nat.le_refl _) _
    replace R := R.alloc R.size (.cells #[.int .i64 X, .int .i64 Y] 23)
    replace hr4 := hr4.below hA (Nat.le_refl _)
    replace hs4 := hs4.below hA (Nat.le_refl _)
    replace sa := sa.below hA (Nat.le_refl _)
    have sx := At.new w4 X Y 23
    have k0 := sa.c0
    have k1 := sa.c1
    clear hA
    go_wp2_with fail
    generalize rightB p q = rb at hRs Hst
    cases rb
    · refine (hRs _).mono ?_
      rintro e w5 ⟨rfl, hb⟩
      have hs5 := hs4.below hb (Nat.le_refl _)
      replace R := R.trans (hb.mono R.size)
      clear hb hs4 hr4 sa sx k0 k1 Hst
      go_wp2_with fail
      refine (open_any _ _ _ hs5 (by omega)).mono ?_
      rintro e w7 ⟨M, rfl, hM, hr7, hb⟩
      have hs7 := hs5.below hb (Nat.le_refl _)
      have hMl : w.heap.size ≤ M := Nat.le_trans R.size hM
      replace R := R.trans (hb.mono R.size)
      clear hb hM hs5
      go_wp2_with fail
      have hG2 := get_any M l w7 hr7 (by omega)
      rcases rdS_cases l with hc | ⟨x, y, r, hc, hl, hrt⟩
      · rw [hc] at hG2
        clear hc
        refine hG2.mono ?_
        rintro e w8 ⟨rfl, hr8, hm8⟩
        replace R := R.trans (hm8.below hMl R.size)
        clear hG2 hm8 hr7 hs7
        have R8 := R.alloc R.size (.cells #[.int .i64 0, .int .i64 0] 23)
        have hr9 := hr8.below ((Below.refl _ _).alloc (Nat.le_refl _) (.cells #[.int .i64 0, .int .i64 0] 23)) (Nat.le_refl _)
        go_wp2_with fail
        refine (alive_any _ (ht.below R8)).mono ?_
        rintro e w9 ⟨rfl, hb⟩
        replace hr9 := hr9.below hb (Nat.le_refl _)
        replace R8 := R8.trans (hb.mono R8.size)
        clear hb hr8 R
        go_wp2_with fail
        refine (left_any M _ _ hr9 (by omega)).mono ?_
        rintro e w10 ⟨rfl, rfl⟩
        go_wp2
        go_ret
        exact ⟨rfl, R8⟩
      · rw [hc] at hG2
        clear hc
        refine hG2.mono ?_
        rintro e w8 ⟨rfl, hr8, hm8⟩
        replace R := R.trans (hm8.below hMl R.size)
        have hs8 := hm8.sl hr7 hs7
        clear hG2 hm8 hr7 hs7
        have hA : Below w8.heap.size w8 (w8.alloc (.cells #[.int .i64 x, .int .i64 y] 23)) := (Below.refl _ _).alloc (Nat.le_refl _) _
        replace R := R.alloc R.size (.cells #[.int .i64 x, .int .i64 y] 23)
        replace hr8 := hr8.below hA (Nat.le_refl _)
        replace hs8 := hs8.below hA (Nat.le_refl _)
        have sy := At.new w8 x y 23
        clear hA
        have hxy := (right_iff _ _).1 hrt
        have hRy := fun w => right_any x y w
        rw [hrt] at hRy
        go_wp2_with fail
        refine (put_stp _ [] x y _ (Sl.nil _) (by simp) (by omega) (by omega)).mono ?_
        rintro e w9 ⟨r9, rfl, ho9, hb⟩
        rw [List.nil_append] at ho9
        replace R := R.trans (hb.mono R.size)
        replace hr8 := hr8.below hb (Nat.le_refl _)
        replace hs8 := hs8.below hb (Nat.le_refl _)
        replace sy := sy.below hb (Nat.le_refl _)
        have hc9 := ho9.sl
        clear hb ho9 hrt
        obtain ⟨ao9, c9, rfl, _⟩ := id hc9
        have hlen := back_len l x y r hl
        have hcv2 := hs8.take (encS x y).length (by omega)
        rw [back_eq l x y r hl] at hcv2
        clear hl
        generalize hbs : encS x y = bs at *
        clear hbs
        have g1 : (bs.length : Int) ≤ (c : Int) := by omega
        have g2 : (l.length : Int) - (r.length : Int) = (bs.length : Int) := by omega
        have hT := ht.below R
        have ky0 := fun i : Later w9 => (sy.below i.below (Nat.le_refl _)).c0
        have ky1 := fun i : Later w9 => (sy.below i.below (Nat.le_refl _)).c1
        have kt := hide (fun i : Later w9 => hT.below i.below)
        have kl := hide (fun i : Later w9 => (left_any M r i.val (hr8.below i.below (Nat.le_refl _)) (by omega)).mono (fun e w' h => (⟨h.1, h.2 ▸ Below.refl _ _⟩ : e = _ ∧ Below i.val.heap.size i.val w')))
        have kc := fun i : Later w9 => conv_sl i.val _ _ (hc9.below i.below (Nat.le_refl _))
        have kd := fun i : Later w9 => conv_sl i.val _ _ (hcv2.below i.below (Nat.le_refl _))
        have inst : Nonempty (Later w9) := ⟨⟨w9, Below.refl _ _⟩⟩
        have HR := hide R
        clear sy hT hr8 hs8 hc9 hcv2 R hlen
        go_wp2_with fail
        refine wp_region_later (by kernel_rfl) (by kernel_rfl) ?_
        repeat (first
          | go_big_quiet_step ((go_at_call 12; exact calls_later (alive_any _ (unhide kt _))))
          | go_big_quiet_step ((go_at_call 13; exact calls_later (hRy _)))
          | go_big_quiet_step ((go_at_call 27; exact calls_later (unhide kl _)))
          | quiet_step (fail))
        refine wpQuiet_nil ?_
        intro w' hw'
        obtain ⟨i, rfl⟩ := hw'
        go_wp2
        go_ret
        exact ⟨rfl, (unhide HR).trans (i.below.mono (unhide HR).size)⟩
    · obtain ⟨hX, hY, rfl, rfl⟩ := unhide Hst rfl
      subst hX
      subst hY
      refine (hRs _).mono ?_
      rintro e w5 ⟨rfl, hb⟩
      have hs5 := hs4.below hb (Nat.le_refl _)
      replace R := R.trans (hb.mono R.size)
      replace hr4 := hr4.below hb (Nat.le_refl _)
      replace sa := sa.below hb (Nat.le_refl _)
      replace sx := sx.below hb (Nat.le_refl _)
      clear hb hs4 k0 k1 Hst
      have k0 := sa.c0
      have k1 := sa.c1
      have k2 := sx.c0
      have k3 := sx.c1
      go_wp2_with fail
      refine (left_any N _ _ hr4 (by omega)).mono ?_
      rintro e w6 ⟨rfl, rfl⟩
      clear k0 k1 k2 k3 sa sx hr4
      go_wp2_with fail
      refine (open_any _ _ _ hs5 (by omega)).mono ?_
      rintro e w7 ⟨M, rfl, hM, hr7, hb⟩
      have hs7 := hs5.below hb (Nat.le_refl _)
      have hMl : w.heap.size ≤ M := Nat.le_trans R.size hM
      replace R := R.trans (hb.mono R.size)
      clear hb hM hs5
      go_wp2_with fail
      have hG2 := get_any M l w7 hr7 (by omega)
      rcases rdS_cases l with hc | ⟨x, y, r, hc, hl, hrt⟩
      · rw [hc] at hG2
        clear hc
        refine hG2.mono ?_
        rintro e w8 ⟨rfl, hr8, hm8⟩
        replace R := R.trans (hm8.below hMl R.size)
        clear hG2 hm8 hr7 hs7
        have R8 := R.alloc R.size (.cells #[.int .i64 0, .int .i64 0] 23)
        have hr9 := hr8.below ((Below.refl _ _).alloc (Nat.le_refl _) (.cells #[.int .i64 0, .int .i64 0] 23)) (Nat.le_refl _)
        go_wp2_with fail
        refine (alive_any _ (ht.below R8)).mono ?_
        rintro e w9 ⟨rfl, hb⟩
        replace hr9 := hr9.below hb (Nat.le_refl _)
        replace R8 := R8.trans (hb.mono R8.size)
        clear hb hr8 R
        go_wp2_with fail
        refine (left_any M _ _ hr9 (by omega)).mono ?_
        rintro e w10 ⟨rfl, rfl⟩
        go_wp2
        go_ret
        exact ⟨rfl, R8⟩
      · rw [hc] at hG2
        clear hc
        refine hG2.mono ?_
        rintro e w8 ⟨rfl, hr8, hm8⟩
        replace R := R.trans (hm8.below hMl R.size)
        have hs8 := hm8.sl hr7 hs7
        clear hG2 hm8 hr7 hs7
        have hA : Below w8.heap.size w8 (w8.alloc (.cells #[.int .i64 x, .int .i64 y] 23)) := (Below.refl _ _).alloc (Nat.le_refl _) _
        replace R := R.alloc R.size (.cells #[.int .i64 x, .int .i64 y] 23)
        replace hr8 := hr8.below hA (Nat.le_refl _)
        replace hs8 := hs8.below hA (Nat.le_refl _)
        have sy := At.new w8 x y 23
        clear hA
        have hxy := (right_iff _ _).1 hrt
        have hRy := fun w => right_any x y w
        rw [hrt] at hRy
        go_wp2_with fail
        refine (put_stp _ [] x y _ (Sl.nil _) (by simp) (by omega) (by omega)).mono ?_
        rintro e w9 ⟨r9, rfl, ho9, hb⟩
        rw [List.nil_append] at ho9
        replace R := R.trans (hb.mono R.size)
        replace hr8 := hr8.below hb (Nat.le_refl _)
        replace hs8 := hs8.below hb (Nat.le_refl _)
        replace sy := sy.below hb (Nat.le_refl _)
        have hc9 := ho9.sl
        clear hb ho9 hrt
        obtain ⟨ao9, c9, rfl, _⟩ := id hc9
        have hlen := back_len l x y r hl
        have hcv2 := hs8.take (encS x y).length (by omega)
        rw [back_eq l x y r hl] at hcv2
        clear hl
        generalize hbs : encS x y = bs at *
        clear hbs
        have g1 : (bs.length : Int) ≤ (c : Int) := by omega
        have g2 : (l.length : Int) - (r.length : Int) = (bs.length : Int) := by omega
        have hT := ht.below R
        have ky0 := fun i : Later w9 => (sy.below i.below (Nat.le_refl _)).c0
        have ky1 := fun i : Later w9 => (sy.below i.below (Nat.le_refl _)).c1
        have kt := hide (fun i : Later w9 => hT.below i.below)
        have kl := hide (fun i : Later w9 => (left_any M r i.val (hr8.below i.below (Nat.le_refl _)) (by omega)).mono (fun e w' h => (⟨h.1, h.2 ▸ Below.refl _ _⟩ : e = _ ∧ Below i.val.heap.size i.val w')))
        have kc := fun i : Later w9 => conv_sl i.val _ _ (hc9.below i.below (Nat.le_refl _))
        have kd := fun i : Later w9 => conv_sl i.val _ _ (hcv2.below i.below (Nat.le_refl _))
        have inst : Nonempty (Later w9) := ⟨⟨w9, Below.refl _ _⟩⟩
        have HR := hide R
        clear sy hT hr8 hs8 hc9 hcv2 R hlen
        go_wp2_with fail
        refine wp_region_later (by kernel_rfl) (by kernel_rfl) ?_
        repeat (first
          | go_big_quiet_step ((go_at_call 12; exact calls_later (alive_any _ (unhide kt _))))
          | go_big_quiet_step ((go_at_call 13; exact calls_later (hRy _)))
          | go_big_quiet_step ((go_at_call 27; exact calls_later (unhide kl _)))
          | quiet_step (fail))
        refine wpQuiet_nil ?_
        intro w' hw'
        obtain ⟨i, rfl⟩ := hw'
        go_wp2
        go_ret
        exact ⟨rfl, (unhide HR).trans (i.below.mono (unhide HR).size)⟩

theorem walkStampBack {w : World} (ht : Tab w) (v0 : Value) (z0 : Int × Int) (h0 : Stm v0 z0) (v1 : Value) (l : List UInt8) (hs : Sl w v1 l) :
    Calls Tryd.prog 6 #[v0, v1] w fun e w' => e = .returned (.bool true) ∧ Below w.heap.size w w' := by
  obtain ⟨rfl, a0, a1, b0, b1⟩ := h0
  exact walkStampBackC w z0.1 z0.2 a1 b1 v1 l hs ht

end Go.Proofs.YtjeefpibhkngiaaDoor
