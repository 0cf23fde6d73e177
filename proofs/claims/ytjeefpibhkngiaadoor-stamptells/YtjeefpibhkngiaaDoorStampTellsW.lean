/-
  The law StampTells: its walk.
-/
import Derived.Test.YtjeefpibhkngiaaDoorField
import Derived.Test.YtjeefpibhkngiaaDoorView
import Derived.Test.YtjeefpibhkngiaaDoorRefS
import Derived.Test.YtjeefpibhkngiaaDoorRefT
namespace Go.Proofs.YtjeefpibhkngiaaDoor
open Go.RowKit
set_option linter.unusedVariables false

set_option maxRecDepth 100000 in
set_option maxHeartbeats 8000000 in
theorem tells_eq (w : World) (a1 a2 t : Int) (q0 : -9223372036854775808 ≤ a1) (q1 : a1 ≤ 9223372036854775807) (q2 : -9223372036854775808 ≤ a2) (q3 : a2 ≤ 9223372036854775807) (ht : Tab w) :
    Calls Tryd.prog 3 #[(.agg #[.int .i64 a1, .int .i64 a2]), (.agg #[.int .i64 a1, .int .i64 a2]), .int .i64 t] w fun e w' => e = .returned (.bool true) ∧ Below w.heap.size w w' := by
  have hQ1 := fun w => refless_any a1 a2 a1 a2 w
  rw [(less_not a1 a2 a1 a2).2 (by omega)] at hQ1
  have hL := fun w => less_any a1 a2 a1 a2 w
  rw [(less_not a1 a2 a1 a2).2 (by omega)] at hL
  have hC := fun w => compare_any a1 a2 a1 a2 w
  rw [cmpS_same] at hC
  have hM := fun w => max_any a1 a2 a1 a2 w
  rw [(less_not a1 a2 a1 a2).2 (by omega), if_neg (by decide)] at hM
  have hW := fun w => refmax_any a1 a2 a1 a2 w
  rw [(less_not a1 a2 a1 a2).2 (by omega), if_neg (by decide)] at hW
  have hN := fun w => next_any a1 a2 w
  have hO := fun w => refnext_any a1 a2 w
  generalize nxt a1 a2 = nn at *
  obtain ⟨x, y, z⟩ := nn
  have hR := fun w => right_any a1 a2 w
  have hS := fun w => refright_any a1 a2 w
  generalize rightB a1 a2 = rr at *
  have hP := fun w => plus_any a1 a2 t w
  have hU := fun w => refplus_any a1 a2 t w
  have ep : plusR a1 t = bnd (bnd a1 (-2199023255552) 2199023255552 + bnd t (-4398046511104) 4398046511104) 0 1099511627776 := rfl
  rw [← ep] at hP
  clear ep
  generalize plusR a1 t = pp at *
  have hT := fun w ht => text_any a1 a2 q0 q1 q2 q3 w ht
  have hV := fun w => reftext_any a1 a2 q0 q1 q2 q3 w
  generalize (⟨(txt a1 a2).toArray⟩ : ByteArray) = tt at *
  have sa := (At.new w a1 a2 23).alloc (.cells #[.int .i64 a1, .int .i64 a2] 23)
  have sb : At ((w.alloc (.cells #[.int .i64 a1, .int .i64 a2] 23)).alloc (.cells #[.int .i64 a1, .int .i64 a2] 23)) (w.heap.size + 1) a1 a2 := by simpa using At.new (w.alloc (.cells #[.int .i64 a1, .int .i64 a2] 23)) a1 a2 23
  have R : Below w.heap.size w ((w.alloc (.cells #[.int .i64 a1, .int .i64 a2] 23)).alloc (.cells #[.int .i64 a1, .int .i64 a2] 23)) := by go_grown
  go_enter Tryd.func3, Tryd.ntmps3
  go_wp2_with fail
  refine (hQ1 _).mono ?_
  rintro e w1 ⟨rfl, hb⟩
  replace sa := sa.below hb (Nat.le_refl _)
  replace sb := sb.below hb (Nat.le_refl _)
  replace R := R.trans (hb.mono R.size)
  clear hb
  have kac0 := sa.c0
  have kac1 := sa.c1
  have kbc0 := sb.c0
  have kbc1 := sb.c1
  go_wp2_with fail
  refine (hQ1 _).mono ?_
  rintro e w2 ⟨rfl, hb⟩
  clear kac0 kac1 kbc0 kbc1
  replace sa := sa.below hb (Nat.le_refl _)
  replace sb := sb.below hb (Nat.le_refl _)
  replace R := R.trans (hb.mono R.size)
  clear hb
  have kac0 := sa.c0
  have kac1 := sa.c1
  have kbc0 := sb.c0
  have kbc1 := sb.c1
  go_wp2_with fail
  refine (hN _).mono ?_
  rintro e w3 ⟨rfl, hb⟩
  clear kac0 kac1 kbc0 kbc1
  replace sa := sa.below hb (Nat.le_refl _)
  replace sb := sb.below hb (Nat.le_refl _)
  replace R := R.trans (hb.mono R.size)
  clear hb
  have kac0 := fun o => (sa.alloc o).c0
  have kac1 := fun o => (sa.alloc o).c1
  have kbc0 := fun o => (sb.alloc o).c0
  have kbc1 := fun o => (sb.alloc o).c1
  go_wp2_with fail
  refine (hO _).mono ?_
  rintro e w4 ⟨rfl, hb⟩
  clear kac0 kac1 kbc0 kbc1
  replace sa := (sa.alloc _).below hb (Nat.le_refl _)
  replace sb := (sb.alloc _).below hb (Nat.le_refl _)
  have sx := (At.new w3 x y 23).below hb (Nat.le_refl _)
  replace R := (R.alloc R.size (.cells #[.int .i64 x, .int .i64 y] 23)).trans (hb.mono (by have := R.size; simp; omega))
  clear hb
  have sy := At.new w4 x y 23
  replace sa := sa.alloc (.cells #[.int .i64 x, .int .i64 y] 23)
  replace sb := sb.alloc (.cells #[.int .i64 x, .int .i64 y] 23)
  replace sx := sx.alloc (.cells #[.int .i64 x, .int .i64 y] 23)
  replace R := R.alloc R.size (.cells #[.int .i64 x, .int .i64 y] 23)
  go_wp2_with fail
  generalize w4.heap.size = ny at *
  generalize w3.heap.size = nx at *
  generalize w4.alloc (.cells #[.int .i64 x, .int .i64 y] 23) = W at *
  have kac0 := fun i : Later W => (sa.below i.below (Nat.le_refl _)).c0
  have kac1 := fun i : Later W => (sa.below i.below (Nat.le_refl _)).c1
  have kbc0 := fun i : Later W => (sb.below i.below (Nat.le_refl _)).c0
  have kbc1 := fun i : Later W => (sb.below i.below (Nat.le_refl _)).c1
  have kxc0 := fun i : Later W => (sx.below i.below (Nat.le_refl _)).c0
  have kxc1 := fun i : Later W => (sx.below i.below (Nat.le_refl _)).c1
  have kyc0 := fun i : Later W => (sy.below i.below (Nat.le_refl _)).c0
  have kyc1 := fun i : Later W => (sy.below i.below (Nat.le_refl _)).c1
  have T5 := ht.below R
  have kt := hide (fun i : Later W => T5.below i.below)
  have inst : Nonempty (Later W) := ⟨⟨W, Below.refl _ _⟩⟩
  have HR := hide R
  clear sa sb sx sy T5 R
  refine wp_region_later (by kernel_rfl) (by kernel_rfl) ?_
  repeat (first
    | go_big_quiet_step ((go_at_call 12; exact calls_later (alive_any _ (unhide kt _))))
    | go_big_quiet_step ((go_at_call 13; exact calls_later (hR _)))
    | go_big_quiet_step ((go_at_call 14; exact calls_later (hS _)))
    | go_big_quiet_step ((go_at_call 15; exact calls_later (hC _)))
    | go_big_quiet_step ((go_at_call 16; exact calls_later (hL _)))
    | go_big_quiet_step ((go_at_call 17; exact calls_later (hM _)))
    | go_big_quiet_step ((go_at_call 18; exact calls_later (hW _)))
    | go_big_quiet_step ((go_at_call 19; exact calls_later (hP _)))
    | go_big_quiet_step ((go_at_call 20; exact calls_later (hU _)))
    | go_big_quiet_step ((go_at_call 21; exact calls_later (hT _ (unhide kt _))))
    | go_big_quiet_step ((go_at_call 22; exact calls_later (hV _)))
    | quiet_step (fail))
  refine wpQuiet_nil ?_
  intro w' hw'
  obtain ⟨i, rfl⟩ := hw'
  go_wp2
  go_ret
  exact ⟨rfl, (unhide HR).trans (i.below.mono (unhide HR).size)⟩

set_option maxRecDepth 100000 in
set_option maxHeartbeats 8000000 in
theorem tells_lt (w : World) (a1 a2 b1 b2 t : Int) (q0 : -9223372036854775808 ≤ a1) (q1 : a1 ≤ 9223372036854775807) (q2 : -9223372036854775808 ≤ a2) (q3 : a2 ≤ 9223372036854775807) (h : a1 < b1 ∨ a1 = b1 ∧ a2 < b2) (ht : Tab w) :
    Calls Tryd.prog 3 #[(.agg #[.int .i64 a1, .int .i64 a2]), (.agg #[.int .i64 b1, .int .i64 b2]), .int .i64 t] w fun e w' => e = .returned (.bool true) ∧ Below w.heap.size w w' := by
  have hQ1 := fun w => refless_any a1 a2 b1 b2 w
  rw [(less_iff a1 a2 b1 b2).2 (by omega)] at hQ1
  have hQ2 := fun w => refless_any b1 b2 a1 a2 w
  rw [(less_not b1 b2 a1 a2).2 (by omega)] at hQ2
  have hL := fun w => less_any a1 a2 b1 b2 w
  rw [(less_iff a1 a2 b1 b2).2 (by omega)] at hL
  have hC := fun w => compare_any a1 a2 b1 b2 w
  rw [cmpS_lt (by omega)] at hC
  have hM := fun w => max_any a1 a2 b1 b2 w
  rw [(less_iff a1 a2 b1 b2).2 (by omega), if_pos rfl] at hM
  have hW := fun w => refmax_any a1 a2 b1 b2 w
  rw [(less_iff a1 a2 b1 b2).2 (by omega), if_pos rfl] at hW
  have hN := fun w => next_any a1 a2 w
  have hO := fun w => refnext_any a1 a2 w
  generalize nxt a1 a2 = nn at *
  obtain ⟨x, y, z⟩ := nn
  have hR := fun w => right_any a1 a2 w
  have hS := fun w => refright_any a1 a2 w
  generalize rightB a1 a2 = rr at *
  have hP := fun w => plus_any a1 a2 t w
  have hU := fun w => refplus_any a1 a2 t w
  have ep : plusR a1 t = bnd (bnd a1 (-2199023255552) 2199023255552 + bnd t (-4398046511104) 4398046511104) 0 1099511627776 := rfl
  rw [← ep] at hP
  clear ep
  generalize plusR a1 t = pp at *
  have hT := fun w ht => text_any a1 a2 q0 q1 q2 q3 w ht
  have hV := fun w => reftext_any a1 a2 q0 q1 q2 q3 w
  generalize (⟨(txt a1 a2).toArray⟩ : ByteArray) = tt at *
  clear h
  have sa := (At.new w a1 a2 23).alloc (.cells #[.int .i64 b1, .int .i64 b2] 23)
  have sb : At ((w.alloc (.cells #[.int .i64 a1, .int .i64 a2] 23)).alloc (.cells #[.int .i64 b1, .int .i64 b2] 23)) (w.heap.size + 1) b1 b2 := by simpa using At.new (w.alloc (.cells #[.int .i64 a1, .int .i64 a2] 23)) b1 b2 23
  have R : Below w.heap.size w ((w.alloc (.cells #[.int .i64 a1, .int .i64 a2] 23)).alloc (.cells #[.int .i64 b1, .int .i64 b2] 23)) := by go_grown
  go_enter Tryd.func3, Tryd.ntmps3
  go_wp2_with fail
  refine (hQ1 _).mono ?_
  rintro e w1 ⟨rfl, hb⟩
  replace sa := sa.below hb (Nat.le_refl _)
  replace sb := sb.below hb (Nat.le_refl _)
  replace R := R.trans (hb.mono R.size)
  clear hb
  have kac0 := sa.c0
  have kac1 := sa.c1
  have kbc0 := sb.c0
  have kbc1 := sb.c1
  go_wp2_with fail
  refine (hQ2 _).mono ?_
  rintro e w2 ⟨rfl, hb⟩
  clear kac0 kac1 kbc0 kbc1
  replace sa := sa.below hb (Nat.le_refl _)
  replace sb := sb.below hb (Nat.le_refl _)
  replace R := R.trans (hb.mono R.size)
  clear hb
  have kac0 := sa.c0
  have kac1 := sa.c1
  have kbc0 := sb.c0
  have kbc1 := sb.c1
  go_wp2_with fail
  refine (hN _).mono ?_
  rintro e w3 ⟨rfl, hb⟩
  clear kac0 kac1 kbc0 kbc1
  replace sa := sa.below hb (Nat.le_refl _)
  replace sb := sb.below hb (Nat.le_refl _)
  replace R := R.trans (hb.mono R.size)
  clear hb
  have kac0 := fun o => (sa.alloc o).c0
  have kac1 := fun o => (sa.alloc o).c1
  have kbc0 := fun o => (sb.alloc o).c0
  have kbc1 := fun o => (sb.alloc o).c1
  go_wp2_with fail
  refine (hO _).mono ?_
  rintro e w4 ⟨rfl, hb⟩
  clear kac0 kac1 kbc0 kbc1
  replace sa := (sa.alloc _).below hb (Nat.le_refl _)
  replace sb := (sb.alloc _).below hb (Nat.le_refl _)
  have sx := (At.new w3 x y 23).below hb (Nat.le_refl _)
  replace R := (R.alloc R.size (.cells #[.int .i64 x, .int .i64 y] 23)).trans (hb.mono (by have := R.size; simp; omega))
  clear hb
  have sy := At.new w4 x y 23
  replace sa := sa.alloc (.cells #[.int .i64 x, .int .i64 y] 23)
  replace sb := sb.alloc (.cells #[.int .i64 x, .int .i64 y] 23)
  replace sx := sx.alloc (.cells #[.int .i64 x, .int .i64 y] 23)
  replace R := R.alloc R.size (.cells #[.int .i64 x, .int .i64 y] 23)
  go_wp2_with fail
  generalize w4.heap.size = ny at *
  generalize w3.heap.size = nx at *
  generalize w4.alloc (.cells #[.int .i64 x, .int .i64 y] 23) = W at *
  have kac0 := fun i : Later W => (sa.below i.below (Nat.le_refl _)).c0
  have kac1 := fun i : Later W => (sa.below i.below (Nat.le_refl _)).c1
  have kbc0 := fun i : Later W => (sb.below i.below (Nat.le_refl _)).c0
  have kbc1 := fun i : Later W => (sb.below i.below (Nat.le_refl _)).c1
  have kxc0 := fun i : Later W => (sx.below i.below (Nat.le_refl _)).c0
  have kxc1 := fun i : Later W => (sx.below i.below (Nat.le_refl _)).c1
  have kyc0 := fun i : Later W => (sy.below i.below (Nat.le_refl _)).c0
  have kyc1 := fun i : Later W => (sy.below i.below (Nat.le_refl _)).c1
  have T5 := ht.below R
  have kt := hide (fun i : Later W => T5.below i.below)
  have inst : Nonempty (Later W) := ⟨⟨W, Below.refl _ _⟩⟩
  have HR := hide R
  clear sa sb sx sy T5 R
  refine wp_region_later (by kernel_rfl) (by kernel_rfl) ?_
  repeat (first
    | go_big_quiet_step ((go_at_call 12; exact calls_later (alive_any _ (unhide kt _))))
    | go_big_quiet_step ((go_at_call 13; exact calls_later (hR _)))
    | go_big_quiet_step ((go_at_call 14; exact calls_later (hS _)))
    | go_big_quiet_step ((go_at_call 15; exact calls_later (hC _)))
    | go_big_quiet_step ((go_at_call 16; exact calls_later (hL _)))
    | go_big_quiet_step ((go_at_call 17; exact calls_later (hM _)))
    | go_big_quiet_step ((go_at_call 18; exact calls_later (hW _)))
    | go_big_quiet_step ((go_at_call 19; exact calls_later (hP _)))
    | go_big_quiet_step ((go_at_call 20; exact calls_later (hU _)))
    | go_big_quiet_step ((go_at_call 21; exact calls_later (hT _ (unhide kt _))))
    | go_big_quiet_step ((go_at_call 22; exact calls_later (hV _)))
    | quiet_step (fail))
  refine wpQuiet_nil ?_
  intro w' hw'
  obtain ⟨i, rfl⟩ := hw'
  go_wp2
  go_ret
  exact ⟨rfl, (unhide HR).trans (i.below.mono (unhide HR).size)⟩

set_option maxRecDepth 100000 in
set_option maxHeartbeats 8000000 in
theorem tells_gt (w : World) (a1 a2 b1 b2 t : Int) (q0 : -9223372036854775808 ≤ a1) (q1 : a1 ≤ 9223372036854775807) (q2 : -9223372036854775808 ≤ a2) (q3 : a2 ≤ 9223372036854775807) (h : b1 < a1 ∨ b1 = a1 ∧ b2 < a2) (ht : Tab w) :
    Calls Tryd.prog 3 #[(.agg #[.int .i64 a1, .int .i64 a2]), (.agg #[.int .i64 b1, .int .i64 b2]), .int .i64 t] w fun e w' => e = .returned (.bool true) ∧ Below w.heap.size w w' := by
  have hQ1 := fun w => refless_any a1 a2 b1 b2 w
  rw [(less_not a1 a2 b1 b2).2 (by omega)] at hQ1
  have hQ2 := fun w => refless_any b1 b2 a1 a2 w
  rw [(less_iff b1 b2 a1 a2).2 (by omega)] at hQ2
  have hL := fun w => less_any a1 a2 b1 b2 w
  rw [(less_not a1 a2 b1 b2).2 (by omega)] at hL
  have hC := fun w => compare_any a1 a2 b1 b2 w
  rw [cmpS_gt (by omega)] at hC
  have hM := fun w => max_any a1 a2 b1 b2 w
  rw [(less_not a1 a2 b1 b2).2 (by omega), if_neg (by decide)] at hM
  have hW := fun w => refmax_any a1 a2 b1 b2 w
  rw [(less_not a1 a2 b1 b2).2 (by omega), if_neg (by decide)] at hW
  have hN := fun w => next_any a1 a2 w
  have hO := fun w => refnext_any a1 a2 w
  generalize nxt a1 a2 = nn at *
  obtain ⟨x, y, z⟩ := nn
  have hR := fun w => right_any a1 a2 w
  have hS := fun w => refright_any a1 a2 w
  generalize rightB a1 a2 = rr at *
  have hP := fun w => plus_any a1 a2 t w
  have hU := fun w => refplus_any a1 a2 t w
  have ep : plusR a1 t = bnd (bnd a1 (-2199023255552) 2199023255552 + bnd t (-4398046511104) 4398046511104) 0 1099511627776 := rfl
  rw [← ep] at hP
  clear ep
  generalize plusR a1 t = pp at *
  have hT := fun w ht => text_any a1 a2 q0 q1 q2 q3 w ht
  have hV := fun w => reftext_any a1 a2 q0 q1 q2 q3 w
  generalize (⟨(txt a1 a2).toArray⟩ : ByteArray) = tt at *
  clear h
  have sa := (At.new w a1 a2 23).alloc (.cells #[.int .i64 b1, .int .i64 b2] 23)
  have sb : At ((w.alloc (.cells #[.int .i64 a1, .int .i64 a2] 23)).alloc (.cells #[.int .i64 b1, .int .i64 b2] 23)) (w.heap.size + 1) b1 b2 := by simpa using At.new (w.alloc (.cells #[.int .i64 a1, .int .i64 a2] 23)) b1 b2 23
  have R : Below w.heap.size w ((w.alloc (.cells #[.int .i64 a1, .int .i64 a2] 23)).alloc (.cells #[.int .i64 b1, .int .i64 b2] 23)) := by go_grown
  go_enter Tryd.func3, Tryd.ntmps3
  go_wp2_with fail
  refine (hQ1 _).mono ?_
  rintro e w1 ⟨rfl, hb⟩
  replace sa := sa.below hb (Nat.le_refl _)
  replace sb := sb.below hb (Nat.le_refl _)
  replace R := R.trans (hb.mono R.size)
  clear hb
  have kac0 := sa.c0
  have kac1 := sa.c1
  have kbc0 := sb.c0
  have kbc1 := sb.c1
  go_wp2_with fail
  refine (hQ2 _).mono ?_
  rintro e w2 ⟨rfl, hb⟩
  clear kac0 kac1 kbc0 kbc1
  replace sa := sa.below hb (Nat.le_refl _)
  replace sb := sb.below hb (Nat.le_refl _)
  replace R := R.trans (hb.mono R.size)
  clear hb
  have kac0 := sa.c0
  have kac1 := sa.c1
  have kbc0 := sb.c0
  have kbc1 := sb.c1
  go_wp2_with fail
  refine (hN _).mono ?_
  rintro e w3 ⟨rfl, hb⟩
  clear kac0 kac1 kbc0 kbc1
  replace sa := sa.below hb (Nat.le_refl _)
  replace sb := sb.below hb (Nat.le_refl _)
  replace R := R.trans (hb.mono R.size)
  clear hb
  have kac0 := fun o => (sa.alloc o).c0
  have kac1 := fun o => (sa.alloc o).c1
  have kbc0 := fun o => (sb.alloc o).c0
  have kbc1 := fun o => (sb.alloc o).c1
  go_wp2_with fail
  refine (hO _).mono ?_
  rintro e w4 ⟨rfl, hb⟩
  clear kac0 kac1 kbc0 kbc1
  replace sa := (sa.alloc _).below hb (Nat.le_refl _)
  replace sb := (sb.alloc _).below hb (Nat.le_refl _)
  have sx := (At.new w3 x y 23).below hb (Nat.le_refl _)
  replace R := (R.alloc R.size (.cells #[.int .i64 x, .int .i64 y] 23)).trans (hb.mono (by have := R.size; simp; omega))
  clear hb
  have sy := At.new w4 x y 23
  replace sa := sa.alloc (.cells #[.int .i64 x, .int .i64 y] 23)
  replace sb := sb.alloc (.cells #[.int .i64 x, .int .i64 y] 23)
  replace sx := sx.alloc (.cells #[.int .i64 x, .int .i64 y] 23)
  replace R := R.alloc R.size (.cells #[.int .i64 x, .int .i64 y] 23)
  go_wp2_with fail
  generalize w4.heap.size = ny at *
  generalize w3.heap.size = nx at *
  generalize w4.alloc (.cells #[.int .i64 x, .int .i64 y] 23) = W at *
  have kac0 := fun i : Later W => (sa.below i.below (Nat.le_refl _)).c0
  have kac1 := fun i : Later W => (sa.below i.below (Nat.le_refl _)).c1
  have kbc0 := fun i : Later W => (sb.below i.below (Nat.le_refl _)).c0
  have kbc1 := fun i : Later W => (sb.below i.below (Nat.le_refl _)).c1
  have kxc0 := fun i : Later W => (sx.below i.below (Nat.le_refl _)).c0
  have kxc1 := fun i : Later W => (sx.below i.below (Nat.le_refl _)).c1
  have kyc0 := fun i : Later W => (sy.below i.below (Nat.le_refl _)).c0
  have kyc1 := fun i : Later W => (sy.below i.below (Nat.le_refl _)).c1
  have T5 := ht.below R
  have kt := hide (fun i : Later W => T5.below i.below)
  have inst : Nonempty (Later W) := ⟨⟨W, Below.refl _ _⟩⟩
  have HR := hide R
  clear sa sb sx sy T5 R
  refine wp_region_later (by kernel_rfl) (by kernel_rfl) ?_
  repeat (first
    | go_big_quiet_step ((go_at_call 12; exact calls_later (alive_any _ (unhide kt _))))
    | go_big_quiet_step ((go_at_call 13; exact calls_later (hR _)))
    | go_big_quiet_step ((go_at_call 14; exact calls_later (hS _)))
    | go_big_quiet_step ((go_at_call 15; exact calls_later (hC _)))
    | go_big_quiet_step ((go_at_call 16; exact calls_later (hL _)))
    | go_big_quiet_step ((go_at_call 17; exact calls_later (hM _)))
    | go_big_quiet_step ((go_at_call 18; exact calls_later (hW _)))
    | go_big_quiet_step ((go_at_call 19; exact calls_later (hP _)))
    | go_big_quiet_step ((go_at_call 20; exact calls_later (hU _)))
    | go_big_quiet_step ((go_at_call 21; exact calls_later (hT _ (unhide kt _))))
    | go_big_quiet_step ((go_at_call 22; exact calls_later (hV _)))
    | quiet_step (fail))
  refine wpQuiet_nil ?_
  intro w' hw'
  obtain ⟨i, rfl⟩ := hw'
  go_wp2
  go_ret
  exact ⟨rfl, (unhide HR).trans (i.below.mono (unhide HR).size)⟩

theorem walkStampTells {w : World} (ht : Tab w) (v0 : Value) (z0 : Int × Int) (h0 : Stm v0 z0) (v1 : Value) (z1 : Int × Int) (h1 : Stm v1 z1) (t : Int) (wt : (Lit.int .i64 t).wf = true) :
    Calls Tryd.prog 3 #[v0, v1, .int .i64 t] w fun e w' => e = .returned (.bool true) ∧ Below w.heap.size w w' := by
  obtain ⟨a, b⟩ := z0
  obtain ⟨c, d⟩ := z1
  obtain ⟨rfl, a0, a1, b0, b1⟩ := h0
  obtain ⟨rfl, c0, c1, d0, d1⟩ := h1
  simp only at *
  by_cases h : a < c ∨ a = c ∧ b < d
  · exact tells_lt w a b c d t a0 a1 b0 b1 h ht
  · by_cases h2 : c < a ∨ c = a ∧ d < b
    · exact tells_gt w a b c d t a0 a1 b0 b1 h2 ht
    · obtain rfl : c = a := by omega
      obtain rfl : d = b := by omega
      exact tells_eq w c d t a0 a1 b0 b1 ht

end Go.Proofs.YtjeefpibhkngiaaDoor
