/-
  The law StampTexts: its walk.
-/
import Derived.Test.YtjeefpibhkngiaaDoorTxtMath
import Derived.Test.YtjeefpibhkngiaaDoorView
namespace Go.Proofs.YtjeefpibhkngiaaDoor
open Go.RowKit
set_option linter.unusedVariables false

theorem toList_data (X : ByteArray) : X.toList = X.data.toList := ByteArray.toList_eq X

set_option maxRecDepth 100000 in
set_option maxHeartbeats 4000000 in
theorem texts_E (w : World) (a b : Int) (a0 : -9223372036854775808 ≤ a) (a1 : a ≤ 9223372036854775807) (b0 : -9223372036854775808 ≤ b) (b1 : b ≤ 9223372036854775807) (ht : Tab w) :
    Calls Tryd.prog 8 #[(.agg #[.int .i64 a, .int .i64 b]), (.agg #[.int .i64 a, .int .i64 b])] w fun e w' => e = .returned (.bool true) ∧ Below w.heap.size w w' := by
  have hTx := fun w ht => text_any a b a0 a1 b0 b1 w ht
  obtain ⟨X, hXd, hX⟩ : ∃ X : ByteArray, (⟨(txt a b).toArray⟩ : ByteArray) = X ∧ Hid (X.data.toList = txt a b) := ⟨_, rfl, rfl⟩
  rw [hXd] at hTx
  clear hXd
  have hXs : X.size = (txt a b).length := by rw [← unhide hX]; simp
  have h3 := txt_len a b
  have h43 := txt_len_le a b a0 a1 b0 b1
  rw [← hXs] at h3 h43
  have HXs := hide hXs
  clear hXs
  have hget : ∀ (k : Nat) (hk : k < X.size) (hk2 : k < (txt a b).length), X[k] = (txt a b)[k] := fun k hk hk2 => by
    have e := unhide hX
    have : X.data.toList[k]'(by simpa using hk) = (txt a b)[k] := by simp only [e]
    rw [← this]
    simp [ByteArray.getElem_eq_getElem_data]
  have Hget := hide hget
  clear hget
  have hRa := fun w => right_any a b w
  have sa := (At.new w a b 23).alloc (.cells #[.int .i64 a, .int .i64 b] 23)
  have sb : At ((w.alloc (.cells #[.int .i64 a, .int .i64 b] 23)).alloc (.cells #[.int .i64 a, .int .i64 b] 23)) (w.heap.size + 1) a b := by simpa using At.new (w.alloc (.cells #[.int .i64 a, .int .i64 b] 23)) a b 23
  have R : Below w.heap.size w ((w.alloc (.cells #[.int .i64 a, .int .i64 b] 23)).alloc (.cells #[.int .i64 a, .int .i64 b] 23)) := by go_grown
  go_enter Tryd.func8, Tryd.ntmps8
  go_wp2_with fail
  refine (hTx _ (ht.below R)).mono ?_
  rintro e w1 ⟨rfl, hb⟩
  replace sa := sa.below hb (Nat.le_refl _)
  replace sb := sb.below hb (Nat.le_refl _)
  replace R := R.trans (hb.mono R.size)
  clear hb
  have kb0 := sb.c0
  have kb1 := sb.c1
  go_wp2_with fail
  refine (hTx _ (ht.below R)).mono ?_
  rintro e w2 ⟨rfl, hb⟩
  clear kb0 kb1
  replace sa := sa.below hb (Nat.le_refl _)
  replace sb := sb.below hb (Nat.le_refl _)
  replace R := R.trans (hb.mono R.size)
  clear hb
  go_wp2_with fail
  go_loopw [7, 8] (fun dt i wr => ∃ k m : Nat, i = .int .i64 k ∧ k ≤ X.size ∧ dt = .int .i64 m ∧ m ≤ k ∧ Hid (m = ((txt a b).take k).count 46) ∧ Below w2.heap.size w2 wr) (fun _ i _ => X.size - (intOf i).toNat)
  case atStart => exact ⟨0, 0, rfl, Nat.zero_le _, rfl, Nat.le_refl _, rfl, Below.refl _ _⟩
  case round =>
    obtain ⟨k, m, rfl, hk, rfl, hmk, hm, hbr⟩ := hrel
    have sa' := sa.below hbr (Nat.le_refl _)
    have sb' := sb.below hbr (Nat.le_refl _)
    have R' := R.trans (hbr.mono R.size)
    by_cases hlt : k < X.size
    · have hk2 : k < (txt a b).length := by rw [← unhide HXs]; exact hlt
      have hcell := unhide Hget k hlt hk2
      have hch := txt_chars a b _ (List.getElem_mem hk2)
      have hst := count_step (txt a b) k hk2 46
      have hne : (txt a b)[k].toNat ≠ 46 → ¬ (txt a b)[k] = 46 := fun h e => h (by rw [e]; rfl)
      have heq : (txt a b)[k].toNat = 46 → (txt a b)[k] = 46 := fun h => UInt8.toNat_inj.1 h
      rw [← unhide hm, ← hcell] at hst
      rw [← hcell] at hch hne heq
      obtain ⟨cn, hcn⟩ : ∃ cn, X[k].toNat = cn := ⟨_, rfl⟩
      rw [hcn] at hch hne heq
      have Hst := hide hst
      have Hne := hide hne
      have Heq := hide heq
      clear hst hne heq hcell hk2
      rcases hch with h46 | hdig | ⟨h45, hrf⟩
      · have e := unhide Heq h46
        have Hst2 : Hid (((txt a b).take (k + 1)).count 46 = m + 1) := by have := unhide Hst; rw [if_pos e] at this; exact this
        subst h46
        clear Hst Hne Heq e
        go_wp2
        go_roundw
        case rel => exact ⟨k + 1, m + 1, by go_num, by omega, by go_num, by omega, (unhide Hst2).symm, hbr⟩
        case measure => simp [intOf]; omega
      · have e := unhide Hne (by omega)
        have Hst2 : Hid (((txt a b).take (k + 1)).count 46 = m) := by have := unhide Hst; rw [if_neg e] at this; exact this
        clear Hst Hne Heq e
        obtain ⟨hd1, hd2⟩ := hdig
        have hd3 : ((cn : Int) == 46) = false := by rw [beq_eq_false_iff_ne]; omega
        go_wp2
        go_roundw
        case rel => exact ⟨k + 1, m, by go_num, by omega, rfl, by omega, (unhide Hst2).symm, hbr⟩
        case measure => simp [intOf]; omega
      · have e := unhide Hne (by omega)
        have Hst2 : Hid (((txt a b).take (k + 1)).count 46 = m) := by have := unhide Hst; rw [if_neg e] at this; exact this
        subst h45
        clear Hst Hne Heq e
        have hRa2 := hRa
        rw [hrf] at hRa2
        clear hrf
        have ka0 := sa'.c0
        have ka1 := sa'.c1
        go_wp2_with fail
        refine (hRa2 _).mono ?_
        rintro e w3 ⟨rfl, hb⟩
        have hbr2 := hbr.trans (hb.mono hbr.size)
        clear ka0 ka1 hb
        go_wp2
        go_roundw
        case rel => exact ⟨k + 1, m, by go_num, by omega, rfl, by omega, (unhide Hst2).symm, hbr2⟩
        case measure => simp [intOf]; omega
    · have hm1 : m = 1 := by
        rw [unhide hm, List.take_of_length_le (by rw [← unhide HXs]; omega), txt_count]
      subst hm1
      clear hm
      have h3' : (3 : Int) ≤ (X.size : Int) := by omega
      go_wp2_with fail
      refine (alive_any _ (ht.below R')).mono ?_
      rintro e w3 ⟨rfl, hb⟩
      replace sa' := sa'.below hb (Nat.le_refl _)
      replace sb' := sb'.below hb (Nat.le_refl _)
      replace R' := R'.trans (hb.mono R'.size)
      clear hb
      have ka0 := sa'.c0
      have ka1 := sa'.c1
      have kb0 := sb'.c0
      have kb1 := sb'.c1
      go_wp2
      go_ret
      exact ⟨rfl, R'⟩

set_option maxRecDepth 100000 in
set_option maxHeartbeats 4000000 in
theorem texts_N1 (w : World) (a b c d : Int) (a0 : -9223372036854775808 ≤ a) (a1 : a ≤ 9223372036854775807) (b0 : -9223372036854775808 ≤ b) (b1 : b ≤ 9223372036854775807) (c0 : -9223372036854775808 ≤ c) (c1 : c ≤ 9223372036854775807) (d0 : -9223372036854775808 ≤ d) (d1 : d ≤ 9223372036854775807) (hne : ¬ a = c) (ht : Tab w) :
    Calls Tryd.prog 8 #[(.agg #[.int .i64 a, .int .i64 b]), (.agg #[.int .i64 c, .int .i64 d])] w fun e w' => e = .returned (.bool true) ∧ Below w.heap.size w w' := by
  have hTx := fun w ht => text_any a b a0 a1 b0 b1 w ht
  obtain ⟨X, hXd, hX⟩ : ∃ X : ByteArray, (⟨(txt a b).toArray⟩ : ByteArray) = X ∧ Hid (X.data.toList = txt a b) := ⟨_, rfl, rfl⟩
  rw [hXd] at hTx
  have hTy := fun w ht => text_any c d c0 c1 d0 d1 w ht
  obtain ⟨Y, hYd, hY⟩ : ∃ Y : ByteArray, (⟨(txt c d).toArray⟩ : ByteArray) = Y ∧ Hid (Y.data.toList = txt c d) := ⟨_, rfl, rfl⟩
  rw [hYd] at hTy
  clear hYd
  have hxy : (X.toList == Y.toList) = false := by
    rw [toList_data, toList_data, unhide hX, unhide hY, beq_eq_false_iff_ne]
    intro e
    have := txt_inj e
    omega
  clear hXd
  have hXs : X.size = (txt a b).length := by rw [← unhide hX]; simp
  have h3 := txt_len a b
  have h43 := txt_len_le a b a0 a1 b0 b1
  rw [← hXs] at h3 h43
  have HXs := hide hXs
  clear hXs
  have hget : ∀ (k : Nat) (hk : k < X.size) (hk2 : k < (txt a b).length), X[k] = (txt a b)[k] := fun k hk hk2 => by
    have e := unhide hX
    have : X.data.toList[k]'(by simpa using hk) = (txt a b)[k] := by simp only [e]
    rw [← this]
    simp [ByteArray.getElem_eq_getElem_data]
  have Hget := hide hget
  clear hget
  have hRa := fun w => right_any a b w
  have sa := (At.new w a b 23).alloc (.cells #[.int .i64 c, .int .i64 d] 23)
  have sb : At ((w.alloc (.cells #[.int .i64 a, .int .i64 b] 23)).alloc (.cells #[.int .i64 c, .int .i64 d] 23)) (w.heap.size + 1) c d := by simpa using At.new (w.alloc (.cells #[.int .i64 a, .int .i64 b] 23)) c d 23
  have R : Below w.heap.size w ((w.alloc (.cells #[.int .i64 a, .int .i64 b] 23)).alloc (.cells #[.int .i64 c, .int .i64 d] 23)) := by go_grown
  go_enter Tryd.func8, Tryd.ntmps8
  go_wp2_with fail
  refine (hTx _ (ht.below R)).mono ?_
  rintro e w1 ⟨rfl, hb⟩
  replace sa := sa.below hb (Nat.le_refl _)
  replace sb := sb.below hb (Nat.le_refl _)
  replace R := R.trans (hb.mono R.size)
  clear hb
  have kb0 := sb.c0
  have kb1 := sb.c1
  go_wp2_with fail
  refine (hTy _ (ht.below R)).mono ?_
  rintro e w2 ⟨rfl, hb⟩
  clear kb0 kb1
  replace sa := sa.below hb (Nat.le_refl _)
  replace sb := sb.below hb (Nat.le_refl _)
  replace R := R.trans (hb.mono R.size)
  clear hb
  go_wp2_with fail
  go_loopw [7, 8] (fun dt i wr => ∃ k m : Nat, i = .int .i64 k ∧ k ≤ X.size ∧ dt = .int .i64 m ∧ m ≤ k ∧ Hid (m = ((txt a b).take k).count 46) ∧ Below w2.heap.size w2 wr) (fun _ i _ => X.size - (intOf i).toNat)
  case atStart => exact ⟨0, 0, rfl, Nat.zero_le _, rfl, Nat.le_refl _, rfl, Below.refl _ _⟩
  case round =>
    obtain ⟨k, m, rfl, hk, rfl, hmk, hm, hbr⟩ := hrel
    have sa' := sa.below hbr (Nat.le_refl _)
    have sb' := sb.below hbr (Nat.le_refl _)
    have R' := R.trans (hbr.mono R.size)
    by_cases hlt : k < X.size
    · have hk2 : k < (txt a b).length := by rw [← unhide HXs]; exact hlt
      have hcell := unhide Hget k hlt hk2
      have hch := txt_chars a b _ (List.getElem_mem hk2)
      have hst := count_step (txt a b) k hk2 46
      have hne : (txt a b)[k].toNat ≠ 46 → ¬ (txt a b)[k] = 46 := fun h e => h (by rw [e]; rfl)
      have heq : (txt a b)[k].toNat = 46 → (txt a b)[k] = 46 := fun h => UInt8.toNat_inj.1 h
      rw [← unhide hm, ← hcell] at hst
      rw [← hcell] at hch hne heq
      obtain ⟨cn, hcn⟩ : ∃ cn, X[k].toNat = cn := ⟨_, rfl⟩
      rw [hcn] at hch hne heq
      have Hst := hide hst
      have Hne := hide hne
      have Heq := hide heq
      clear hst hne heq hcell hk2
      rcases hch with h46 | hdig | ⟨h45, hrf⟩
      · have e := unhide Heq h46
        have Hst2 : Hid (((txt a b).take (k + 1)).count 46 = m + 1) := by have := unhide Hst; rw [if_pos e] at this; exact this
        subst h46
        clear Hst Hne Heq e
        go_wp2
        go_roundw
        case rel => exact ⟨k + 1, m + 1, by go_num, by omega, by go_num, by omega, (unhide Hst2).symm, hbr⟩
        case measure => simp [intOf]; omega
      · have e := unhide Hne (by omega)
        have Hst2 : Hid (((txt a b).take (k + 1)).count 46 = m) := by have := unhide Hst; rw [if_neg e] at this; exact this
        clear Hst Hne Heq e
        obtain ⟨hd1, hd2⟩ := hdig
        have hd3 : ((cn : Int) == 46) = false := by rw [beq_eq_false_iff_ne]; omega
        go_wp2
        go_roundw
        case rel => exact ⟨k + 1, m, by go_num, by omega, rfl, by omega, (unhide Hst2).symm, hbr⟩
        case measure => simp [intOf]; omega
      · have e := unhide Hne (by omega)
        have Hst2 : Hid (((txt a b).take (k + 1)).count 46 = m) := by have := unhide Hst; rw [if_neg e] at this; exact this
        subst h45
        clear Hst Hne Heq e
        have hRa2 := hRa
        rw [hrf] at hRa2
        clear hrf
        have ka0 := sa'.c0
        have ka1 := sa'.c1
        go_wp2_with fail
        refine (hRa2 _).mono ?_
        rintro e w3 ⟨rfl, hb⟩
        have hbr2 := hbr.trans (hb.mono hbr.size)
        clear ka0 ka1 hb
        go_wp2
        go_roundw
        case rel => exact ⟨k + 1, m, by go_num, by omega, rfl, by omega, (unhide Hst2).symm, hbr2⟩
        case measure => simp [intOf]; omega
    · have hm1 : m = 1 := by
        rw [unhide hm, List.take_of_length_le (by rw [← unhide HXs]; omega), txt_count]
      subst hm1
      clear hm
      have h3' : (3 : Int) ≤ (X.size : Int) := by omega
      go_wp2_with fail
      refine (alive_any _ (ht.below R')).mono ?_
      rintro e w3 ⟨rfl, hb⟩
      replace sa' := sa'.below hb (Nat.le_refl _)
      replace sb' := sb'.below hb (Nat.le_refl _)
      replace R' := R'.trans (hb.mono R'.size)
      clear hb
      have ka0 := sa'.c0
      have ka1 := sa'.c1
      have kb0 := sb'.c0
      have kb1 := sb'.c1
      go_wp2
      go_ret
      exact ⟨rfl, R'⟩

set_option maxRecDepth 100000 in
set_option maxHeartbeats 4000000 in
theorem texts_N2 (w : World) (a b d : Int) (a0 : -9223372036854775808 ≤ a) (a1 : a ≤ 9223372036854775807) (b0 : -9223372036854775808 ≤ b) (b1 : b ≤ 9223372036854775807) (d0 : -9223372036854775808 ≤ d) (d1 : d ≤ 9223372036854775807) (hne : ¬ b = d) (ht : Tab w) :
    Calls Tryd.prog 8 #[(.agg #[.int .i64 a, .int .i64 b]), (.agg #[.int .i64 a, .int .i64 d])] w fun e w' => e = .returned (.bool true) ∧ Below w.heap.size w w' := by
  have hTx := fun w ht => text_any a b a0 a1 b0 b1 w ht
  obtain ⟨X, hXd, hX⟩ : ∃ X : ByteArray, (⟨(txt a b).toArray⟩ : ByteArray) = X ∧ Hid (X.data.toList = txt a b) := ⟨_, rfl, rfl⟩
  rw [hXd] at hTx
  have hTy := fun w ht => text_any a d a0 a1 d0 d1 w ht
  obtain ⟨Y, hYd, hY⟩ : ∃ Y : ByteArray, (⟨(txt a d).toArray⟩ : ByteArray) = Y ∧ Hid (Y.data.toList = txt a d) := ⟨_, rfl, rfl⟩
  rw [hYd] at hTy
  clear hYd
  have hxy : (X.toList == Y.toList) = false := by
    rw [toList_data, toList_data, unhide hX, unhide hY, beq_eq_false_iff_ne]
    intro e
    have := txt_inj e
    omega
  clear hXd
  have hXs : X.size = (txt a b).length := by rw [← unhide hX]; simp
  have h3 := txt_len a b
  have h43 := txt_len_le a b a0 a1 b0 b1
  rw [← hXs] at h3 h43
  have HXs := hide hXs
  clear hXs
  have hget : ∀ (k : Nat) (hk : k < X.size) (hk2 : k < (txt a b).length), X[k] = (txt a b)[k] := fun k hk hk2 => by
    have e := unhide hX
    have : X.data.toList[k]'(by simpa using hk) = (txt a b)[k] := by simp only [e]
    rw [← this]
    simp [ByteArray.getElem_eq_getElem_data]
  have Hget := hide hget
  clear hget
  have hRa := fun w => right_any a b w
  have sa := (At.new w a b 23).alloc (.cells #[.int .i64 a, .int .i64 d] 23)
  have sb : At ((w.alloc (.cells #[.int .i64 a, .int .i64 b] 23)).alloc (.cells #[.int .i64 a, .int .i64 d] 23)) (w.heap.size + 1) a d := by simpa using At.new (w.alloc (.cells #[.int .i64 a, .int .i64 b] 23)) a d 23
  have R : Below w.heap.size w ((w.alloc (.cells #[.int .i64 a, .int .i64 b] 23)).alloc (.cells #[.int .i64 a, .int .i64 d] 23)) := by go_grown
  go_enter Tryd.func8, Tryd.ntmps8
  go_wp2_with fail
  refine (hTx _ (ht.below R)).mono ?_
  rintro e w1 ⟨rfl, hb⟩
  replace sa := sa.below hb (Nat.le_refl _)
  replace sb := sb.below hb (Nat.le_refl _)
  replace R := R.trans (hb.mono R.size)
  clear hb
  have kb0 := sb.c0
  have kb1 := sb.c1
  go_wp2_with fail
  refine (hTy _ (ht.below R)).mono ?_
  rintro e w2 ⟨rfl, hb⟩
  clear kb0 kb1
  replace sa := sa.below hb (Nat.le_refl _)
  replace sb := sb.below hb (Nat.le_refl _)
  replace R := R.trans (hb.mono R.size)
  clear hb
  go_wp2_with fail
  go_loopw [7, 8] (fun dt i wr => ∃ k m : Nat, i = .int .i64 k ∧ k ≤ X.size ∧ dt = .int .i64 m ∧ m ≤ k ∧ Hid (m = ((txt a b).take k).count 46) ∧ Below w2.heap.size w2 wr) (fun _ i _ => X.size - (intOf i).toNat)
  case atStart => exact ⟨0, 0, rfl, Nat.zero_le _, rfl, Nat.le_refl _, rfl, Below.refl _ _⟩
  case round =>
    obtain ⟨k, m, rfl, hk, rfl, hmk, hm, hbr⟩ := hrel
    have sa' := sa.below hbr (Nat.le_refl _)
    have sb' := sb.below hbr (Nat.le_refl _)
    have R' := R.trans (hbr.mono R.size)
    by_cases hlt : k < X.size
    · have hk2 : k < (txt a b).length := by rw [← unhide HXs]; exact hlt
      have hcell := unhide Hget k hlt hk2
      have hch := txt_chars a b _ (List.getElem_mem hk2)
      have hst := count_step (txt a b) k hk2 46
      have hne : (txt a b)[k].toNat ≠ 46 → ¬ (txt a b)[k] = 46 := fun h e => h (by rw [e]; rfl)
      have heq : (txt a b)[k].toNat = 46 → (txt a b)[k] = 46 := fun h => UInt8.toNat_inj.1 h
      rw [← unhide hm, ← hcell] at hst
      rw [← hcell] at hch hne heq
      obtain ⟨cn, hcn⟩ : ∃ cn, X[k].toNat = cn := ⟨_, rfl⟩
      rw [hcn] at hch hne heq
      have Hst := hide hst
      have Hne := hide hne
      have Heq := hide heq
      clear hst hne heq hcell hk2
      rcases hch with h46 | hdig | ⟨h45, hrf⟩
      · have e := unhide Heq h46
        have Hst2 : Hid (((txt a b).take (k + 1)).count 46 = m + 1) := by have := unhide Hst; rw [if_pos e] at this; exact this
        subst h46
        clear Hst Hne Heq e
        go_wp2
        go_roundw
        case rel => exact ⟨k + 1, m + 1, by go_num, by omega, by go_num, by omega, (unhide Hst2).symm, hbr⟩
        case measure => simp [intOf]; omega
      · have e := unhide Hne (by omega)
        have Hst2 : Hid (((txt a b).take (k + 1)).count 46 = m) := by have := unhide Hst; rw [if_neg e] at this; exact this
        clear Hst Hne Heq e
        obtain ⟨hd1, hd2⟩ := hdig
        have hd3 : ((cn : Int) == 46) = false := by rw [beq_eq_false_iff_ne]; omega
        go_wp2
        go_roundw
        case rel => exact ⟨k + 1, m, by go_num, by omega, rfl, by omega, (unhide Hst2).symm, hbr⟩
        case measure => simp [intOf]; omega
      · have e := unhide Hne (by omega)
        have Hst2 : Hid (((txt a b).take (k + 1)).count 46 = m) := by have := unhide Hst; rw [if_neg e] at this; exact this
        subst h45
        clear Hst Hne Heq e
        have hRa2 := hRa
        rw [hrf] at hRa2
        clear hrf
        have ka0 := sa'.c0
        have ka1 := sa'.c1
        go_wp2_with fail
        refine (hRa2 _).mono ?_
        rintro e w3 ⟨rfl, hb⟩
        have hbr2 := hbr.trans (hb.mono hbr.size)
        clear ka0 ka1 hb
        go_wp2
        go_roundw
        case rel => exact ⟨k + 1, m, by go_num, by omega, rfl, by omega, (unhide Hst2).symm, hbr2⟩
        case measure => simp [intOf]; omega
    · have hm1 : m = 1 := by
        rw [unhide hm, List.take_of_length_le (by rw [← unhide HXs]; omega), txt_count]
      subst hm1
      clear hm
      have h3' : (3 : Int) ≤ (X.size : Int) := by omega
      go_wp2_with fail
      refine (alive_any _ (ht.below R')).mono ?_
      rintro e w3 ⟨rfl, hb⟩
      replace sa' := sa'.below hb (Nat.le_refl _)
      replace sb' := sb'.below hb (Nat.le_refl _)
      replace R' := R'.trans (hb.mono R'.size)
      clear hb
      have ka0 := sa'.c0
      have ka1 := sa'.c1
      have kb0 := sb'.c0
      have kb1 := sb'.c1
      go_wp2
      go_ret
      exact ⟨rfl, R'⟩

theorem walkStampTexts {w : World} (ht : Tab w) (v0 : Value) (z0 : Int × Int) (h0 : Stm v0 z0) (v1 : Value) (z1 : Int × Int) (h1 : Stm v1 z1) :
    Calls Tryd.prog 8 #[v0, v1] w fun e w' => e = .returned (.bool true) ∧ Below w.heap.size w w' := by
  obtain ⟨a, b⟩ := z0
  obtain ⟨c, d⟩ := z1
  obtain ⟨rfl, a0, a1, b0, b1⟩ := h0
  obtain ⟨rfl, c0, c1, d0, d1⟩ := h1
  by_cases h : a = c
  · subst h
    by_cases h2 : b = d
    · subst h2
      exact texts_E w a b a0 a1 b0 b1 ht
    · exact texts_N2 w a b d a0 a1 b0 b1 d0 d1 h2 ht
  · exact texts_N1 w a b c d a0 a1 b0 b1 c0 c1 d0 d1 h ht

end Go.Proofs.YtjeefpibhkngiaaDoor
