/-
  The walk of the statement SpanListed.
-/
import Derived.Test.YtejceloahonelaaStrs
namespace Go.Proofs.Ytejceloahonelaa
open Go.RowKit
set_option linter.unusedVariables false

theorem any_step (p : ByteArray → Bool) (l : List ByteArray) (j : Nat) (h : j < l.length) : (l.take (j + 1)).any p = ((l.take j).any p || p l[j]) := by
  rw [List.take_succ_eq_append_getElem h, List.any_append]; simp
theorem any_all (p : ByteArray → Bool) (l : List ByteArray) (j : Nat) (h : l.length ≤ j) : (l.take j).any p = l.any p := by
  rw [List.take_of_length_le h]
theorem any_mem (l : List ByteArray) (x : ByteArray) (h : x ∈ l) : (l.any fun y => eqB y x) = true := List.any_eq_true.2 ⟨x, h, eqB_self x⟩
theorem any_keys (f t : ByteArray) (l : List ByteArray) (x : ByteArray) (h : x ∈ l) : ((keysOf f t l).any fun y => eqB x y) = hasB f t x := by
  apply bool_ext
  rw [List.any_eq_true]
  constructor
  · rintro ⟨y, hy, e⟩
    rw [eqB_iff] at e
    subst e
    exact ((keys_mem f t l x).1 hy).2
  · intro hh
    exact ⟨x, (keys_mem f t l x).2 ⟨h, hh⟩, eqB_self x⟩
theorem keys_again (f t : ByteArray) (l : List ByteArray) : keysOf f t (keysOf f t l) = keysOf f t l :=
  (keys_of (keys_rise f t l) fun z => by rw [keys_mem]; exact ⟨fun h => ⟨h, h.2⟩, fun h => h.1⟩).symm

section
set_option maxRecDepth 100000
set_option maxHeartbeats 4000000

theorem walkSpanListed0 (f t : ByteArray) (ao : Option Addr) (c : Nat) (l : List ByteArray) (w : World) (hl : StrsAt w ao l) (hmax : l.length ≤ maxLen) :
    Calls Try.prog 8 #[.agg #[.string f, .string t], .slice ao l.length c] w fun e w' => e = .returned (.bool true) ∧ Below w.heap.size w w' := by
  have hmax' : l.length ≤ 9223372036854775807 := by unfold maxLen at hmax; omega
  clear hmax
  have H0 := hide (Sp.new w f t 23)
  have HL0 := hide (hl.later ((Below.refl _ w).alloc (Nat.le_refl _) (.cells #[.string f, .string t] 23)))
  clear hl
  go_enter Try.func8, Try.ntmps8
  go_wp2_with fail
  refine (fits_any _ _ _).mono ?_
  rintro e w1 ⟨rfl, hb⟩
  have S2 := hide ((unhide H0).later hb)
  have HL := hide ((unhide HL0).later hb)
  have HB := hide (below_alloc _ hb)
  clear hb H0 HL0
  cases hf : fitsB f t
  · go_wp2_with fail
    refine (alive_any _).mono ?_
    rintro e wz ⟨rfl, hb⟩
    have HZ := hide (bstep (unhide HB) hb)
    clear hb
    go_wp2_with fail
    go_ret
    exact ⟨rfl, unhide HZ⟩
  · by_cases h40 : 40 < l.length
    · go_wp2_with fail
      refine (alive_any _).mono ?_
      rintro e wz ⟨rfl, hb⟩
      have HZ := hide (bstep (unhide HB) hb)
      clear hb
      go_wp2_with fail
      go_ret
      exact ⟨rfl, unhide HZ⟩
    · go_wp2_with fail
      go_loop [6] (fun i => ∃ k : Nat, i = .int .i64 k ∧ k ≤ l.length) (fun i => l.length - (intOf i).toNat)
      case atStart => exact ⟨0, rfl, by omega⟩
      case round =>
        obtain ⟨k, rfl, hk⟩ := hrel
        by_cases hlt : k < l.length
        · obtain ⟨b, o, rfl, hc⟩ := unhide HL (by omega)
          replace hc := hc k hlt
          obtain ⟨x, hx⟩ : ∃ x, Hid (l[k] = x) := ⟨l[k], Eq.refl l[k]⟩
          rw [unhide hx] at hc
          by_cases hs : 200 < x.size
          · go_wp2_with fail
            refine (alive_any _).mono ?_
            rintro e wz ⟨rfl, hb⟩
            have HZ := hide (bstep (unhide HB) hb)
            clear hb
            go_wp2_with fail
            go_ret
            exact ⟨rfl, unhide HZ⟩
          · go_wp2
            go_round
            case rel => exact ⟨k + 1, by go_num, by omega⟩
            case measure => simp [intOf]; omega
        · obtain ⟨a0, a1, af0, af1⟩ := unhide S2
          go_wp2_with fail
          refine (keys_any f t ao c l _ (unhide HL) (by omega)).mono ?_
          rintro e w2 ⟨ao', c', rfl, hK, hb⟩
          have HK := hide hK
          replace S2 := hide ((unhide S2).later hb)
          replace HL := hide ((unhide HL).later hb)
          replace HB := hide (bstep (unhide HB) hb)
          clear hb hK a0 a1 af0 af1
          have hlen := keys_len f t l
          have HR := hide (keys_rise f t l)
          have HM := hide (keys_mem f t l)
          have HA := hide (any_keys f t l)
          have HG := hide (keys_again f t l)
          generalize keysOf f t l = K at *
          go_wp2_with fail
          go_loopw [8] (fun i wr => ∃ k : Nat, i = .int .i64 k ∧ k ≤ K.length ∧ Hid (Below w2.heap.size w2 wr)) (fun i _ => K.length - (intOf i).toNat)
          case atStart => exact ⟨0, rfl, by omega, Below.refl _ _⟩
          case round =>
            obtain ⟨i, rfl, hi, Hb⟩ := hrel
            by_cases hilt : i < K.length
            · obtain ⟨b, o, rfl, hc⟩ := ((unhide HL).later (unhide Hb)) (by omega)
              obtain ⟨b7, o7, rfl, hc7⟩ := ((unhide HK).later (unhide Hb)) (by omega)
              have Hc := hide hc
              have Hc7 := hide hc7
              have hci := hc7 i hilt
              clear hc hc7
              have Hx1 : Hid (K[i] ∈ l ∧ hasB f t K[i] = true) := (unhide HM _).1 (List.getElem_mem hilt)
              have Hx2 : Hid (∀ h : 0 < i, L (K[i - 1]'(by omega)) K[i]) := fun h => List.pairwise_iff_getElem.1 (unhide HR) (i - 1) i (by omega) hilt (by omega)
              obtain ⟨x, hx⟩ : ∃ x, Hid (K[i] = x) := ⟨K[i], Eq.refl K[i]⟩
              rw [unhide hx] at hci Hx1 Hx2
              go_wp2_with fail
              go_loopw [9, 10] (fun fv jv wq => ∃ (j n : Nat) (bb : Bool), fv = .bool bb ∧ jv = .int .i64 j ∧ j ≤ l.length ∧ Hid (bb = (l.take j).any fun y => eqB y x) ∧ wq = wr.drewN n) (fun _ jv _ => l.length - (intOf jv).toNat)
              case atStart => exact ⟨0, 0, false, rfl, rfl, by omega, rfl, rfl⟩
              case round =>
                obtain ⟨j, n, bb, rfl, rfl, hj, Hbb, rfl⟩ := hrel
                by_cases hjlt : j < l.length
                · have hcj := unhide Hc j hjlt
                  have Hst := hide (any_step (fun y => eqB y x) l j hjlt)
                  obtain ⟨y, hy⟩ : ∃ y, Hid (l[j] = y) := ⟨l[j], Eq.refl l[j]⟩
                  rw [unhide hy] at hcj
                  have Hst' : Hid (((l.take (j + 1)).any fun y => eqB y x) = (bb || eqB y x)) := by rw [unhide Hbb, ← unhide hy]; exact unhide Hst
                  have eyx : (y.toList == x.toList) = eqB y x := rfl
                  generalize eqB y x = q at Hst' eyx
                  clear Hst
                  have hjI : (j : Int) < (l.length : Int) := by omega
                  have hiI : (i : Int) < (K.length : Int) := by omega
                  cases bb
                  · go_wp2_with fail
                    go_quiet (fail)
                    go_wp2
                    go_roundw
                    case rel => exact ⟨j + 1, _, q, rfl, by go_num, by omega, by rw [unhide Hst']; exact (Bool.false_or q).symm, rfl⟩
                    case measure => simp [intOf]; omega
                  · go_wp2_with fail
                    go_quiet (fail)
                    go_wp2
                    go_roundw
                    case rel => exact ⟨j + 1, _, true, rfl, by go_num, by omega, by rw [unhide Hst']; exact (Bool.true_or q).symm, rfl⟩
                    case measure => simp [intOf]; omega
                · obtain rfl : bb = true := by rw [unhide Hbb, any_all _ _ _ (by omega)]; exact any_mem _ _ (unhide Hx1).1
                  go_wp2_with fail
                  have HbW : Hid (Below w2.heap.size w2 (wr.drewN n)) := (unhide Hb).trans (below_drewN _ wr n)
                  have S2W := hide ((unhide S2).later (unhide HbW))
                  have hciW : (wr.drewN n).cell? ⟨b7, o7 + i, none⟩ = some (.string x) := hci
                  have HHas : Hid (∀ w, Calls Try.prog 17 #[.agg #[.string f, .string t], .string x] w fun e w' => e = .returned (.bool true) ∧ Below w.heap.size w w') := fun w => by
                    have := has_any f t x w
                    rw [(unhide Hx1).2] at this; exact this
                  have HcW : Hid (∀ j (h : j < K.length), (wr.drewN n).cell? ⟨b7, o7 + j, none⟩ = some (.string K[j])) := unhide Hc7
                  clear hci
                  generalize wr.drewN n = W at *
                  have HW := hide hciW
                  clear hciW
                  have q20 := fun i : Later W => ((unhide S2W).later i.below).c0
                  have q21 := fun i : Later W => ((unhide S2W).later i.below).c1
                  have qi := fun k : Later W => k.cell (unhide HW)
                  have inst : Nonempty (Later W) := ⟨⟨W, Below.refl _ _⟩⟩
                  have hiI : (i : Int) < (K.length : Int) := by omega
                  by_cases h0 : 0 < i
                  · have hcp := unhide HcW (i - 1) (by omega)
                    have hLp := unhide Hx2 h0
                    obtain ⟨y, hy⟩ : ∃ y, Hid (K[i - 1]'(by omega) = y) := ⟨K[i - 1]'(by omega), Eq.refl (K[i - 1]'(by omega))⟩
                    rw [unhide hy] at hcp hLp
                    have e1 : Op.bytesLess x.toList y.toList = false := lt_asymm hLp
                    have e2 : (x.toList == y.toList) = false := by
                      cases q : eqB x y with
                      | false => exact q
                      | true => rw [(eqB_iff _ _).1 q] at hLp; exact absurd hLp (L.irr _)
                    have qp := fun k : Later W => k.cell hcp
                    have hi1 : ((i : Int) - 1) = ((i - 1 : Nat) : Int) := by omega
                    have hi1b : ((i - 1 : Nat) : Int) < (K.length : Int) := by omega
                    have d0 : decide ((0 : Int) < (i : Int)) = true := decide_eq_true (by omega)
                    clear hLp hcp
                    refine wp_region_later (by kernel_rfl) (by kernel_rfl) ?_
                    repeat (first
                      | go_big_quiet_step ((go_at_call 17; exact calls_later (unhide HHas _)))
                      | quiet_step (fail))
                    refine wpQuiet_nil ?_
                    intro w' hw'
                    obtain ⟨iw, rfl⟩ := hw'
                    go_wp2
                    go_roundw
                    case rel => exact ⟨i + 1, by go_num, by omega, (unhide HbW).trans (iw.below.mono (unhide HbW).size)⟩
                    case measure => simp [intOf]; omega
                  · have d0 : decide ((0 : Int) < (i : Int)) = false := decide_eq_false (by omega)
                    refine wp_region_later (by kernel_rfl) (by kernel_rfl) ?_
                    repeat (first
                      | go_big_quiet_step ((go_at_call 17; exact calls_later (unhide HHas _)))
                      | quiet_step (fail))
                    refine wpQuiet_nil ?_
                    intro w' hw'
                    obtain ⟨iw, rfl⟩ := hw'
                    go_wp2
                    go_roundw
                    case rel => exact ⟨i + 1, by go_num, by omega, (unhide HbW).trans (iw.below.mono (unhide HbW).size)⟩
                    case measure => simp [intOf]; omega
            · replace S2 := hide ((unhide S2).later (unhide Hb))
              replace HL := hide ((unhide HL).later (unhide Hb))
              replace HK := hide ((unhide HK).later (unhide Hb))
              replace HB := hide (bstep (unhide HB) (unhide Hb))
              clear Hb
              generalize wr = w3 at *
              go_wp2_with fail
              go_loopw [11] (fun iv wr => ∃ k : Nat, iv = .int .i64 k ∧ k ≤ l.length ∧ Hid (Below w3.heap.size w3 wr)) (fun iv _ => l.length - (intOf iv).toNat)
              case atStart => exact ⟨0, rfl, by omega, Below.refl _ _⟩
              case round =>
                obtain ⟨j, rfl, hj, Hb⟩ := hrel
                by_cases hjlt : j < l.length
                · obtain ⟨b, o, rfl, hc⟩ := ((unhide HL).later (unhide Hb)) (by omega)
                  have HKr := hide ((unhide HK).later (unhide Hb))
                  have hcj := hc j hjlt
                  clear hc
                  have Hx1 : Hid ((K.any fun y => eqB l[j] y) = hasB f t l[j]) := unhide HA _ (List.getElem_mem hjlt)
                  obtain ⟨x, hx⟩ : ∃ x, Hid (l[j] = x) := ⟨l[j], Eq.refl l[j]⟩
                  rw [unhide hx] at hcj Hx1
                  go_wp2_with fail
                  go_loopw [12, 13] (fun fv iv wq => ∃ (i n : Nat) (bb : Bool), fv = .bool bb ∧ iv = .int .i64 i ∧ i ≤ K.length ∧ Hid (bb = (K.take i).any fun y => eqB x y) ∧ wq = wr.drewN n) (fun _ iv _ => K.length - (intOf iv).toNat)
                  case atStart => exact ⟨0, 0, false, rfl, rfl, by omega, rfl, rfl⟩
                  case round =>
                    obtain ⟨i, n, bb, rfl, rfl, hi, Hbb, rfl⟩ := hrel
                    have hjI : (j : Int) < (l.length : Int) := by omega
                    by_cases hilt : i < K.length
                    · obtain ⟨b7, o7, rfl, hc7⟩ := unhide HKr (by omega)
                      have hci := hc7 i hilt
                      clear hc7
                      have Hst := hide (any_step (fun y => eqB x y) K i hilt)
                      obtain ⟨y, hy⟩ : ∃ y, Hid (K[i] = y) := ⟨K[i], Eq.refl K[i]⟩
                      rw [unhide hy] at hci
                      have Hst' : Hid (((K.take (i + 1)).any fun y => eqB x y) = (bb || eqB x y)) := by rw [unhide Hbb, ← unhide hy]; exact unhide Hst
                      have eyx : (x.toList == y.toList) = eqB x y := rfl
                      generalize eqB x y = q at Hst' eyx
                      clear Hst
                      have hiI : (i : Int) < (K.length : Int) := by omega
                      cases bb
                      · go_wp2_with fail
                        go_quiet (fail)
                        go_wp2
                        go_roundw
                        case rel => exact ⟨i + 1, _, q, rfl, by go_num, by omega, by rw [unhide Hst']; exact (Bool.false_or q).symm, rfl⟩
                        case measure => simp [intOf]; omega
                      · go_wp2_with fail
                        go_quiet (fail)
                        go_wp2
                        go_roundw
                        case rel => exact ⟨i + 1, _, true, rfl, by go_num, by omega, by rw [unhide Hst']; exact (Bool.true_or q).symm, rfl⟩
                        case measure => simp [intOf]; omega
                    · have Hq : Hid (hasB f t x = bb) := by rw [← unhide Hx1, unhide Hbb, any_all _ _ _ (by omega)]; rfl
                      go_wp2_with fail
                      have HbW : Hid (Below w3.heap.size w3 (wr.drewN n)) := (unhide Hb).trans (below_drewN _ wr n)
                      have S2W := hide ((unhide S2).later (unhide HbW))
                      have hcjW : (wr.drewN n).cell? ⟨b, o + j, none⟩ = some (.string x) := hcj
                      have HHas : Hid (∀ w, Calls Try.prog 17 #[.agg #[.string f, .string t], .string x] w fun e w' => e = .returned (.bool bb) ∧ Below w.heap.size w w') := fun w => by
                        have := has_any f t x w
                        rw [unhide Hq] at this; exact this
                      clear hcj
                      generalize wr.drewN n = W at *
                      have HW := hide hcjW
                      clear hcjW
                      have q20 := fun i : Later W => ((unhide S2W).later i.below).c0
                      have q21 := fun i : Later W => ((unhide S2W).later i.below).c1
                      have qi := fun k : Later W => k.cell (unhide HW)
                      have inst : Nonempty (Later W) := ⟨⟨W, Below.refl _ _⟩⟩
                      refine wp_region_later (by kernel_rfl) (by kernel_rfl) ?_
                      repeat (first
                        | go_big_quiet_step ((go_at_call 17; exact calls_later (unhide HHas _)))
                        | quiet_step (fail))
                      refine wpQuiet_nil ?_
                      intro w' hw'
                      obtain ⟨iw, rfl⟩ := hw'
                      go_wp2
                      go_roundw
                      case rel => exact ⟨j + 1, by go_num, by omega, (unhide HbW).trans (iw.below.mono (unhide HbW).size)⟩
                      case measure => simp [intOf]; omega
                · replace S2 := hide ((unhide S2).later (unhide Hb))
                  replace HK := hide ((unhide HK).later (unhide Hb))
                  replace HB := hide (bstep (unhide HB) (unhide Hb))
                  clear Hb
                  go_wp2_with fail
                  refine (alive_any _).mono ?_
                  rintro e w4 ⟨rfl, hb⟩
                  replace S2 := hide ((unhide S2).later hb)
                  replace HK := hide ((unhide HK).later hb)
                  replace HB := hide (bstep (unhide HB) hb)
                  clear hb
                  obtain ⟨a0, a1, af0, af1⟩ := unhide S2
                  go_wp2_with fail
                  refine (keys_any f t ao' c' K _ (unhide HK) (by omega)).mono ?_
                  rintro e w5 ⟨ao2, c2, rfl, hK2, hb⟩
                  rw [unhide HG] at hK2 ⊢
                  have HK2 := hide hK2
                  replace HK := hide ((unhide HK).later hb)
                  replace HB := hide (bstep (unhide HB) hb)
                  clear hb hK2 a0 a1 af0 af1
                  go_wp2_with fail
                  refine (same_yes ao2 ao' c2 c' K _ (unhide HK2) (unhide HK) (by omega)).mono ?_
                  rintro e w6 ⟨rfl, hb⟩
                  replace HB := hide (bstep (unhide HB) hb)
                  clear hb
                  go_wp2_with fail
                  go_ret
                  exact ⟨rfl, unhide HB⟩

end

theorem walkSpanListed {w : World} (v : Value) (z : ByteArray × ByteArray) (h : Spn v z) (v' : Value) (l : List ByteArray) (h' : StrV w v' l) :
    Calls Try.prog 8 #[v, v'] w fun e w' => e = .returned (.bool true) ∧ Below w.heap.size w w' := by
  obtain ⟨ao, c, rfl, ha⟩ := h'.at'
  rw [h.eq]; exact walkSpanListed0 z.1 z.2 ao c l w ha h'.len

end Go.Proofs.Ytejceloahonelaa
