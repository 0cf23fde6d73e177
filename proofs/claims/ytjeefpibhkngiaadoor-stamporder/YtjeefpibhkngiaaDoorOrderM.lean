/-
  The law StampOrder: its walk where the first stamp is less by its Logical.
-/
import Derived.Test.YtjeefpibhkngiaaDoorField
import Derived.Test.YtjeefpibhkngiaaDoorView
import Derived.Test.YtjeefpibhkngiaaDoorOrderMath
namespace Go.Proofs.YtjeefpibhkngiaaDoor
open Go.RowKit
set_option linter.unusedVariables false

set_option maxRecDepth 100000 in
set_option maxHeartbeats 4000000 in
theorem order_lt2 (w : World) (a1 a2 b2 c1 c2 : Int) (h : a2 < b2) (ht : Tab w) :
    Calls Tryd.prog 5 #[(.agg #[.int .i64 a1, .int .i64 a2]), (.agg #[.int .i64 a1, .int .i64 b2]), (.agg #[.int .i64 c1, .int .i64 c2])] w fun e w' => e = .returned (.bool true) ∧ Below w.heap.size w w' := by
  have hlab := (less_iff a1 a2 a1 b2).2 (by omega)
  have hL1 := fun w => less_any a1 a2 a1 b2 w
  rw [hlab] at hL1
  have hL2 := fun w => less_any a1 b2 a1 a2 w
  rw [(less_not a1 b2 a1 a2).2 (by omega)] at hL2
  have hMB := fun w => less_any a1 b2 a1 b2 w
  rw [(less_not a1 b2 a1 b2).2 (by omega)] at hMB
  have hC1 := fun w => compare_any a1 a2 a1 b2 w
  rw [cmpS_lt (by omega)] at hC1
  have hC2 := fun w => compare_any a1 b2 a1 a2 w
  rw [cmpS_gt (by omega)] at hC2
  have hM := fun w => max_any a1 a2 a1 b2 w
  rw [hlab, if_pos rfl] at hM
  have e1 : ¬ a2 = b2 := by omega
  have e2 : ¬ b2 = a2 := by omega
  have hBC := fun w => less_any a1 b2 c1 c2 w
  have hAC := fun w => less_any a1 a2 c1 c2 w
  have htr : lessB a1 b2 c1 c2 = true → lessB a1 a2 c1 c2 = true := fun h2 => (less_iff _ _ _ _).2 (by have := (less_iff _ _ _ _).1 h2; omega)
  generalize lessB a1 b2 c1 c2 = lbc at *
  generalize lessB a1 a2 c1 c2 = lac at *
  clear h
  have sa := ((At.new w a1 a2 23).alloc (.cells #[.int .i64 a1, .int .i64 b2] 23)).alloc (.cells #[.int .i64 c1, .int .i64 c2] 23)
  have sb : At (((w.alloc (.cells #[.int .i64 a1, .int .i64 a2] 23)).alloc (.cells #[.int .i64 a1, .int .i64 b2] 23)).alloc (.cells #[.int .i64 c1, .int .i64 c2] 23)) (w.heap.size + 1) a1 b2 := by simpa using (At.new (w.alloc (.cells #[.int .i64 a1, .int .i64 a2] 23)) a1 b2 23).alloc (.cells #[.int .i64 c1, .int .i64 c2] 23)
  have sc : At (((w.alloc (.cells #[.int .i64 a1, .int .i64 a2] 23)).alloc (.cells #[.int .i64 a1, .int .i64 b2] 23)).alloc (.cells #[.int .i64 c1, .int .i64 c2] 23)) (w.heap.size + 1 + 1) c1 c2 := by simpa using At.new ((w.alloc (.cells #[.int .i64 a1, .int .i64 a2] 23)).alloc (.cells #[.int .i64 a1, .int .i64 b2] 23)) c1 c2 23
  have R : Below w.heap.size w (((w.alloc (.cells #[.int .i64 a1, .int .i64 a2] 23)).alloc (.cells #[.int .i64 a1, .int .i64 b2] 23)).alloc (.cells #[.int .i64 c1, .int .i64 c2] 23)) := by go_grown
  go_enter Tryd.func5, Tryd.ntmps5
  go_wp2_with fail
  refine (hL1 _).mono ?_
  rintro e w1 ⟨rfl, hb⟩
  replace sa := sa.below hb (Nat.le_refl _)
  replace sb := sb.below hb (Nat.le_refl _)
  replace sc := sc.below hb (Nat.le_refl _)
  replace R := R.trans (hb.mono R.size)
  clear hb
  have kac0 := sa.c0
  have kac1 := sa.c1
  have kbc0 := sb.c0
  have kbc1 := sb.c1
  go_wp2_with fail
  refine (hL2 _).mono ?_
  rintro e w2 ⟨rfl, hb⟩
  clear kac0 kac1 kbc0 kbc1
  replace sa := sa.below hb (Nat.le_refl _)
  replace sb := sb.below hb (Nat.le_refl _)
  replace sc := sc.below hb (Nat.le_refl _)
  replace R := R.trans (hb.mono R.size)
  clear hb
  have kac0 := sa.c0
  have kac1 := sa.c1
  have kbc0 := sb.c0
  have kbc1 := sb.c1
  cases lbc
  all_goals
    have hBC2 := hBC
    try (rw [htr rfl] at hAC)
    clear htr hBC
    go_wp2_with fail
    clear kac0 kac1 kbc0 kbc1
    have kac0 := fun i : Later w2 => (sa.below i.below (Nat.le_refl _)).c0
    have kac1 := fun i : Later w2 => (sa.below i.below (Nat.le_refl _)).c1
    have kbc0 := fun i : Later w2 => (sb.below i.below (Nat.le_refl _)).c0
    have kbc1 := fun i : Later w2 => (sb.below i.below (Nat.le_refl _)).c1
    have kcc0 := fun i : Later w2 => (sc.below i.below (Nat.le_refl _)).c0
    have kcc1 := fun i : Later w2 => (sc.below i.below (Nat.le_refl _)).c1
    have inst : Nonempty (Later w2) := ⟨⟨w2, Below.refl _ _⟩⟩
    refine wp_region_later (by kernel_rfl) (by kernel_rfl) ?_
    repeat (first
      | go_big_quiet_step ((go_at_call 16; with_reducible exact calls_later (hL1 _)))
      | go_big_quiet_step ((go_at_call 16; with_reducible exact calls_later (hBC2 _)))
      | go_big_quiet_step ((go_at_call 16; with_reducible exact calls_later (hAC _)))
      | go_big_quiet_step ((go_at_call 15; with_reducible exact calls_later (hC1 _)))
      | go_big_quiet_step ((go_at_call 15; with_reducible exact calls_later (hC2 _)))
      | quiet_step (fail))
    refine wpQuiet_nil ?_
    intro w' hw'
    obtain ⟨i, rfl⟩ := hw'
    clear kac0 kac1 kbc0 kbc1 kcc0 kcc1 inst
    replace sa := sa.below i.below (Nat.le_refl _)
    replace sb := sb.below i.below (Nat.le_refl _)
    clear sc
    replace R := R.trans (i.below.mono R.size)
    generalize i.val = w3 at *
    clear i
    have kac0 := sa.c0
    have kac1 := sa.c1
    have kbc0 := sb.c0
    have kbc1 := sb.c1
    go_wp2_with fail
    refine (hM _).mono ?_
    rintro e w4 ⟨rfl, hb⟩
    clear kac0 kac1 kbc0 kbc1
    replace sa := sa.below hb (Nat.le_refl _)
    replace sb := sb.below hb (Nat.le_refl _)
    replace R := R.trans (hb.mono R.size)
    clear hb
    have kac0 := fun o => (sa.alloc o).c0
    have kac1 := fun o => (sa.alloc o).c1
    have kbc0 := fun o => (sb.alloc o).c0
    have kbc1 := fun o => (sb.alloc o).c1
    go_wp2_with fail
    refine (hL2 _).mono ?_
    rintro e w5 ⟨rfl, hb⟩
    clear kac0 kac1 kbc0 kbc1
    replace sa := (sa.alloc _).below hb (Nat.le_refl _)
    replace sb := (sb.alloc _).below hb (Nat.le_refl _)
    have sm := (At.new w4 a1 b2 23).below hb (Nat.le_refl _)
    replace R := (R.alloc R.size (.cells #[.int .i64 a1, .int .i64 b2] 23)).trans (hb.mono (by have := R.size; simp; omega))
    clear hb
    have kac0 := sa.c0
    have kac1 := sa.c1
    have kbc0 := sb.c0
    have kbc1 := sb.c1
    have kmc0 := sm.c0
    have kmc1 := sm.c1
    go_wp2_with fail
    refine (hMB _).mono ?_
    rintro e w6 ⟨rfl, hb⟩
    clear kac0 kac1 kbc0 kbc1 kmc0 kmc1
    replace sa := sa.below hb (Nat.le_refl _)
    replace sb := sb.below hb (Nat.le_refl _)
    replace sm := sm.below hb (Nat.le_refl _)
    replace R := R.trans (hb.mono R.size)
    clear hb
    have kac0 := sa.c0
    have kac1 := sa.c1
    have kbc0 := sb.c0
    have kbc1 := sb.c1
    go_wp2_with fail
    have HR := hide R
    rcases nxt_cases a1 a2 with ⟨hra, hnx⟩ | ⟨hra, haM, hnx⟩ | ⟨hra, x, y, hnx, hrx, hax, hnear⟩
    · clear HR
      have hN := fun w => next_any a1 a2 w
      rw [hnx] at hN
      have hRa := fun w => right_any a1 a2 w
      rw [hra] at hRa
      clear hnx hra
      refine (hN _).mono ?_
      rintro e w7 ⟨rfl, hb⟩
      clear kac0 kac1 kbc0 kbc1
      replace sa := sa.below hb (Nat.le_refl _)
      replace sb := sb.below hb (Nat.le_refl _)
      replace sm := sm.below hb (Nat.le_refl _)
      replace R := R.trans (hb.mono R.size)
      clear hb
      have kac0 := fun o => (sa.alloc o).c0
      have kac1 := fun o => (sa.alloc o).c1
      have kbc0 := fun o => (sb.alloc o).c0
      have kbc1 := fun o => (sb.alloc o).c1
      have ht2 := ht.below (R.alloc R.size (.cells #[.int .i64 0, .int .i64 0] 23))
      go_wp2_with fail
      refine (alive_any _ ht2).mono ?_
      rintro e w8 ⟨rfl, hb⟩
      clear kac0 kac1 kbc0 kbc1
      replace sa := (sa.alloc _).below hb (Nat.le_refl _)
      replace sb := (sb.alloc _).below hb (Nat.le_refl _)
      replace sm := (sm.alloc _).below hb (Nat.le_refl _)
      have sx := (At.new w7 0 0 23).below hb (Nat.le_refl _)
      replace R := (R.alloc R.size (.cells #[.int .i64 0, .int .i64 0] 23)).trans (hb.mono (by have := R.size; simp; omega))
      clear hb
      clear ht2
      have kac0 := sa.c0
      have kac1 := sa.c1
      have kbc0 := sb.c0
      have kbc1 := sb.c1
      have kxc0 := sx.c0
      have kxc1 := sx.c1
      go_wp2_with fail
      refine (hRa _).mono ?_
      rintro e w9 ⟨rfl, hb⟩
      clear kac0 kac1 kbc0 kbc1 kxc0 kxc1
      replace sa := sa.below hb (Nat.le_refl _)
      replace sb := sb.below hb (Nat.le_refl _)
      replace sm := sm.below hb (Nat.le_refl _)
      replace sx := sx.below hb (Nat.le_refl _)
      replace R := R.trans (hb.mono R.size)
      clear hb
      have kac0 := sa.c0
      have kac1 := sa.c1
      go_wp2
      go_ret
      exact ⟨rfl, R⟩
    · clear HR
      have hN := fun w => next_any a1 a2 w
      rw [hnx] at hN
      have hRa := fun w => right_any a1 a2 w
      rw [hra] at hRa
      have haM2 : (a1 == 1099511627776) = true := by simpa using haM
      clear haM
      clear hnx hra
      refine (hN _).mono ?_
      rintro e w7 ⟨rfl, hb⟩
      clear kac0 kac1 kbc0 kbc1
      replace sa := sa.below hb (Nat.le_refl _)
      replace sb := sb.below hb (Nat.le_refl _)
      replace sm := sm.below hb (Nat.le_refl _)
      replace R := R.trans (hb.mono R.size)
      clear hb
      have kac0 := fun o => (sa.alloc o).c0
      have kac1 := fun o => (sa.alloc o).c1
      have kbc0 := fun o => (sb.alloc o).c0
      have kbc1 := fun o => (sb.alloc o).c1
      have ht2 := ht.below (R.alloc R.size (.cells #[.int .i64 0, .int .i64 0] 23))
      go_wp2_with fail
      refine (alive_any _ ht2).mono ?_
      rintro e w8 ⟨rfl, hb⟩
      clear kac0 kac1 kbc0 kbc1
      replace sa := (sa.alloc _).below hb (Nat.le_refl _)
      replace sb := (sb.alloc _).below hb (Nat.le_refl _)
      replace sm := (sm.alloc _).below hb (Nat.le_refl _)
      have sx := (At.new w7 0 0 23).below hb (Nat.le_refl _)
      replace R := (R.alloc R.size (.cells #[.int .i64 0, .int .i64 0] 23)).trans (hb.mono (by have := R.size; simp; omega))
      clear hb
      clear ht2
      have kac0 := sa.c0
      have kac1 := sa.c1
      have kbc0 := sb.c0
      have kbc1 := sb.c1
      have kxc0 := sx.c0
      have kxc1 := sx.c1
      go_wp2_with fail
      refine (hRa _).mono ?_
      rintro e w9 ⟨rfl, hb⟩
      clear kac0 kac1 kbc0 kbc1 kxc0 kxc1
      replace sa := sa.below hb (Nat.le_refl _)
      replace sb := sb.below hb (Nat.le_refl _)
      replace sm := sm.below hb (Nat.le_refl _)
      replace sx := sx.below hb (Nat.le_refl _)
      replace R := R.trans (hb.mono R.size)
      clear hb
      have kac0 := sa.c0
      have kac1 := sa.c1
      go_wp2
      go_ret
      exact ⟨rfl, R⟩
    · clear HR
      have hN := fun w => next_any a1 a2 w
      rw [hnx] at hN
      have hRa := fun w => right_any a1 a2 w
      rw [hra] at hRa
      have hRx := fun w => right_any x y w
      rw [hrx] at hRx
      have hAx := fun w => less_any a1 a2 x y w
      rw [hax] at hAx
      clear hnx hra hrx hax
      refine (hN _).mono ?_
      rintro e w7 ⟨rfl, hb⟩
      clear kac0 kac1 kbc0 kbc1
      replace sa := sa.below hb (Nat.le_refl _)
      replace sb := sb.below hb (Nat.le_refl _)
      replace sm := sm.below hb (Nat.le_refl _)
      replace R := R.trans (hb.mono R.size)
      clear hb
      have kac0 := fun o => (sa.alloc o).c0
      have kac1 := fun o => (sa.alloc o).c1
      have kbc0 := fun o => (sb.alloc o).c0
      have kbc1 := fun o => (sb.alloc o).c1
      have ht2 := ht.below (R.alloc R.size (.cells #[.int .i64 x, .int .i64 y] 23))
      go_wp2_with fail
      refine (alive_any _ ht2).mono ?_
      rintro e w8 ⟨rfl, hb⟩
      clear kac0 kac1 kbc0 kbc1
      replace sa := (sa.alloc _).below hb (Nat.le_refl _)
      replace sb := (sb.alloc _).below hb (Nat.le_refl _)
      replace sm := (sm.alloc _).below hb (Nat.le_refl _)
      have sx := (At.new w7 x y 23).below hb (Nat.le_refl _)
      replace R := (R.alloc R.size (.cells #[.int .i64 x, .int .i64 y] 23)).trans (hb.mono (by have := R.size; simp; omega))
      clear hb
      clear ht2
      have kac0 := sa.c0
      have kac1 := sa.c1
      have kbc0 := sb.c0
      have kbc1 := sb.c1
      have kxc0 := sx.c0
      have kxc1 := sx.c1
      go_wp2_with fail
      refine (hRa _).mono ?_
      rintro e w9 ⟨rfl, hb⟩
      clear kac0 kac1 kbc0 kbc1 kxc0 kxc1
      replace sa := sa.below hb (Nat.le_refl _)
      replace sb := sb.below hb (Nat.le_refl _)
      replace sm := sm.below hb (Nat.le_refl _)
      replace sx := sx.below hb (Nat.le_refl _)
      replace R := R.trans (hb.mono R.size)
      clear hb
      have kac0 := sa.c0
      have kac1 := sa.c1
      have kbc0 := sb.c0
      have kbc1 := sb.c1
      have kxc0 := sx.c0
      have kxc1 := sx.c1
      go_wp2_with fail
      refine (hRx _).mono ?_
      rintro e w10 ⟨rfl, hb⟩
      clear kac0 kac1 kbc0 kbc1 kxc0 kxc1
      replace sa := sa.below hb (Nat.le_refl _)
      replace sb := sb.below hb (Nat.le_refl _)
      replace sm := sm.below hb (Nat.le_refl _)
      replace sx := sx.below hb (Nat.le_refl _)
      replace R := R.trans (hb.mono R.size)
      clear hb
      have kac0 := sa.c0
      have kac1 := sa.c1
      have kbc0 := sb.c0
      have kbc1 := sb.c1
      have kxc0 := sx.c0
      have kxc1 := sx.c1
      go_wp2_with fail
      refine (hAx _).mono ?_
      rintro e w11 ⟨rfl, hb⟩
      clear kac0 kac1 kbc0 kbc1 kxc0 kxc1
      replace sa := sa.below hb (Nat.le_refl _)
      replace sb := sb.below hb (Nat.le_refl _)
      replace sm := sm.below hb (Nat.le_refl _)
      replace sx := sx.below hb (Nat.le_refl _)
      replace R := R.trans (hb.mono R.size)
      clear hb
      have hRb := fun w => right_any a1 b2 w
      have hnb := hnear a1 b2
      clear hnear
      generalize rightB a1 b2 = rb at hRb hnb
      have kac0 := sa.c0
      have kac1 := sa.c1
      have kbc0 := sb.c0
      have kbc1 := sb.c1
      have kxc0 := sx.c0
      have kxc1 := sx.c1
      go_wp2_with fail
      cases rb
      · clear hnb
        refine (hRb _).mono ?_
        rintro e w12 ⟨rfl, hb⟩
        clear kac0 kac1 kbc0 kbc1 kxc0 kxc1
        replace sa := sa.below hb (Nat.le_refl _)
        replace sb := sb.below hb (Nat.le_refl _)
        replace sm := sm.below hb (Nat.le_refl _)
        replace sx := sx.below hb (Nat.le_refl _)
        replace R := R.trans (hb.mono R.size)
        clear hb
        go_wp2
        go_ret
        exact ⟨rfl, R⟩
      · have hBx := fun w => less_any a1 b2 x y w
        rw [hnb rfl hlab] at hBx
        clear hnb
        refine (hRb _).mono ?_
        rintro e w12 ⟨rfl, hb⟩
        clear kac0 kac1 kbc0 kbc1 kxc0 kxc1
        replace sa := sa.below hb (Nat.le_refl _)
        replace sb := sb.below hb (Nat.le_refl _)
        replace sm := sm.below hb (Nat.le_refl _)
        replace sx := sx.below hb (Nat.le_refl _)
        replace R := R.trans (hb.mono R.size)
        clear hb
        have kac0 := sa.c0
        have kac1 := sa.c1
        have kbc0 := sb.c0
        have kbc1 := sb.c1
        have kxc0 := sx.c0
        have kxc1 := sx.c1
        go_wp2_with fail
        refine (hL1 _).mono ?_
        rintro e w13 ⟨rfl, hb⟩
        clear kac0 kac1 kbc0 kbc1 kxc0 kxc1
        replace sa := sa.below hb (Nat.le_refl _)
        replace sb := sb.below hb (Nat.le_refl _)
        replace sm := sm.below hb (Nat.le_refl _)
        replace sx := sx.below hb (Nat.le_refl _)
        replace R := R.trans (hb.mono R.size)
        clear hb
        have kbc0 := sb.c0
        have kbc1 := sb.c1
        have kxc0 := sx.c0
        have kxc1 := sx.c1
        go_wp2_with fail
        refine (hBx _).mono ?_
        rintro e w14 ⟨rfl, hb⟩
        clear kbc0 kbc1 kxc0 kxc1
        replace sa := sa.below hb (Nat.le_refl _)
        replace sb := sb.below hb (Nat.le_refl _)
        replace sm := sm.below hb (Nat.le_refl _)
        replace sx := sx.below hb (Nat.le_refl _)
        replace R := R.trans (hb.mono R.size)
        clear hb
        go_wp2
        go_ret
        exact ⟨rfl, R⟩

end Go.Proofs.YtjeefpibhkngiaaDoor
