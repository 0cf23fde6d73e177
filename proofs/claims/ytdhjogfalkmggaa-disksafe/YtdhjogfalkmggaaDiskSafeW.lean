/-
  The law DiskSafe: its walk.
-/
import Derived.Test.YtdhjogfalkmggaaGs
namespace Go.Proofs.Ytdhjogfalkmggaa
open Go.RowKit
set_option linter.unusedVariables false

theorem flp_get (l : List UInt8) (h : 0 < l.length) : (flp l)[l.length - 1]? ≠ l[l.length - 1]? := by
  unfold flp
  rw [List.getElem?_set_self (by omega), List.getElem?_eq_getElem (by omega)]
  simp only [List.getD, List.getElem?_eq_getElem (show l.length - 1 < l.length by omega), Option.getD_some]
  generalize l[l.length - 1] = b
  intro e
  injection e with e
  have h : ∀ n : Fin 256, UInt8.ofNat n.1 ^^^ 1 ≠ UInt8.ofNat n.1 := by decide +kernel
  have := h ⟨b.toNat, b.toNat_lt⟩
  simp at this
  exact this e

theorem flp_take (l : List UInt8) (k : Nat) (h : k ≤ l.length - 1) : (flp l).take k = l.take k := by
  unfold flp
  rw [List.take_set_of_le h]

/-- What DiskSafe asks of the file that a crash leaves. -/
theorem safe_cases (s r A L : List UInt8) (torn : Bool) (hA : s ++ r = A) (hL : ∃ k, k ≤ r.length ∧ ((L = s ++ r.take k ∧ (torn = true → k = 0)) ∨ (torn = true ∧ 0 < k ∧ L = flp (s ++ r.take k)))) :
    s.length ≤ L.length ∧ L.length ≤ A.length ∧ L.take s.length = s ∧
      (((torn = false ∨ L.length = s.length) ∧ A.take L.length = L) ∨ (torn = true ∧ s.length < L.length ∧ L.take (L.length - 1) = A.take (L.length - 1) ∧ L[L.length - 1]? ≠ A[L.length - 1]?)) := by
  subst hA
  obtain ⟨k, hk, h | h⟩ := hL
  · obtain ⟨rfl, ht⟩ := h
    have hl : (s ++ r.take k).length = s.length + k := by rw [List.length_append, List.length_take]; omega
    refine ⟨by omega, by rw [hl, List.length_append]; omega, by simp, .inl ⟨?_, ?_⟩⟩
    · cases torn
      · exact .inl rfl
      · have := ht rfl; exact .inr (by omega)
    · rw [hl, List.take_append, List.take_of_length_le (by omega)]
      congr 2
      omega
  · obtain ⟨rfl, hk0, rfl⟩ := h
    have hl : (s ++ r.take k).length = s.length + k := by rw [List.length_append, List.length_take]; omega
    have hl2 : (flp (s ++ r.take k)).length = s.length + k := by rw [flp_length, hl]
    have hpre : ∀ j, j ≤ s.length + k → (s ++ r).take j = (s ++ r.take k).take j := by
      intro j hj
      rw [List.take_append, List.take_append, List.take_take]
      congr 2
      omega
    refine ⟨by omega, by rw [hl2, List.length_append]; omega, ?_, .inr ⟨rfl, by omega, ?_, ?_⟩⟩
    · rw [flp_take _ _ (by omega)]
      simp
    · rw [hl2, flp_take _ _ (by omega), hpre _ (by omega)]
    · have h1 := flp_get (s ++ r.take k) (by omega)
      rw [hl] at h1
      rw [hl2]
      intro e
      apply h1
      rw [e]
      have : ((s ++ r).take (s.length + k))[s.length + k - 1]? = ((s ++ r.take k).take (s.length + k))[s.length + k - 1]? := by rw [hpre (s.length + k) (by omega)]
      rw [List.getElem?_take_of_lt (by omega), List.getElem?_take_of_lt (by omega)] at this
      exact this

theorem idx_bs (l : List UInt8) (m : Nat) (h : m < l.length) (y : World) : (Instr.index 9 (.string (bs l)) (.int .i64 m)).run Try.prog y = .ok (.int .u8 (l[m].toNat : Int)) y := by
  have hs : (bs l).size = l.length := by simp [bs, ByteArray.size]
  rw [run_index_string y _ _ _ _ Try.underlying9, dif_pos ⟨by omega, by rw [hs]; omega⟩]
  have e : (bs l)[(m : Int).toNat]'(by rw [hs]; simpa using h) = l[m] := by
    show (bs l).data[(m : Int).toNat]'(by simpa [bs] using h) = l[m]
    simp [bs]
  rw [e]

theorem bs_extract (l : List UInt8) (m : Nat) : (bs l).extract 0 m = bs (l.take m) := by
  apply ByteArray.ext
  apply Array.toList_inj.1
  simp [bs, ByteArray.data_extract]

section
set_option maxRecDepth 100000

set_option maxHeartbeats 4000000 in
theorem walkDiskSafe {w : World} (v : Value) (s : List UInt8) (hs : Sl w v s) (lv : Value) (ls : List (List UInt8)) (hl : Bss w lv ls) (av : Value) (z : ActV) (hz : ActIs w av z) :
    Calls Try.prog 4 #[v, lv, av] w fun e w' => e = .returned (.bool true) ∧ Below w.heap.size w w' := by
  obtain ⟨rfl, hok⟩ := hz
  obtain ⟨kind, n, vv, ab, torn, cell⟩ := z
  obtain ⟨n0, n1, hsb⟩ := hok
  simp only at n0 n1 hsb ⊢
  have Hab := hide hsb
  obtain ⟨yo, yc, rfl, hy1, hy2, _⟩ := hsb
  have Hs := hide hs
  have Hl := hide hl
  obtain ⟨ao, c, rfl, hc1, hc2, _⟩ := hs
  obtain ⟨bo, d, rfl, hd1, hd2, _⟩ := hl
  unfold maxLen at hc2 hd2 hy2
  have hA := ActAt.new w ⟨kind, n, .slice yo ab.length yc, ab, torn, cell⟩ 30
  have hb := below_new w (.cells #[.int .i64 kind, .int .i64 n, .slice yo ab.length yc, .bool torn, .bool cell] 30)
  have hD := Dk.new (S := fun k => w.heap.size < k) (w.alloc (.cells #[.int .i64 kind, .int .i64 n, .slice yo ab.length yc, .bool torn, .bool cell] 30)) (by simp) 48
  have hO : One w _ _ _ _ _ _ _ := ⟨hD, hA.later (below_new _ _), hb.trans ((below_new _ _).mono (by simp))⟩
  have HO := hide hO
  clear hA hb hD hO
  by_cases hbig : 200 < s.length ∨ 200 < ab.length
  · by_cases hb1 : 200 < s.length
    all_goals
      go_enter Try.func4, Try.ntmps4
      go_wp2_with fail
      refine (alive_any _).mono ?_
      rintro e w1 ⟨rfl, hb1⟩
      have HB := hide ((below_new _ _).trans (hb1.mono (by simp)))
      clear hb1
      go_wp2
      go_ret
      exact ⟨rfl, unhide HB⟩
  have hs1 : s.length ≤ 200 := by omega
  have hs2 : ab.length ≤ 200 := by omega
  have hs1I : ¬ 200 < s.length := by omega
  have hs2I : ¬ 200 < ab.length := by omega
  clear hbig
  go_enter Try.func4, Try.ntmps4
  go_wp2_with fail
  refine (new_any _).mono ?_
  rintro e w1 ⟨rfl, hw1⟩
  rw [← hw1] at HO
  clear hw1
  generalize (w.alloc (.cells #[.int .i64 kind, .int .i64 n, .slice yo ab.length yc, .bool torn, .bool cell] 30)).heap.size = D at *
  go_wp2_with fail
  refine (append_ok (S := fun k => w.heap.size < k) D _ _ _ _ s _ _ (unhide HO).d (unhide HO).new ((unhide Hs).later (unhide HO).b) (by simp; omega)).mono ?_
  rintro e w2 ⟨rfl, hd2', hf2⟩
  rw [List.nil_append] at hd2'
  replace HO := hide ((unhide HO).step hd2' hf2)
  clear hd2' hf2
  go_wp2_with fail
  refine (set_ok (S := fun k => w.heap.size < k) D _ _ _ _ s _ _ (unhide HO).d (unhide HO).new ((unhide Hs).later (unhide HO).b) (by omega)).mono ?_
  rintro e w3 ⟨rfl, hd3, hf3⟩
  replace HO := hide ((unhide HO).step hd3 hf3)
  clear hd3 hf3
  go_wp2_with fail
  refine (sync_ok (S := fun k => w.heap.size < k) D _ _ _ _ _ (unhide HO).d).mono ?_
  rintro e w4 ⟨rfl, hd4, hf4⟩
  replace HO := hide ((unhide HO).step hd4 hf4)
  clear hd4 hf4
  go_wp2_with fail
  refine (dirty_ok (S := fun k => w.heap.size < k) D _ _ _ _ _ (unhide HO).d).mono ?_
  rintro e w5 ⟨rfl, hb5⟩
  rw [dirt_self]
  replace HO := hide ((unhide HO).later hb5)
  clear hb5
  have cv := conv_sl w5 _ _ ((unhide Hs).later (unhide HO).b)
  go_wp2_with fail
  go_loopw [8, 9] (fun x i wr => ∃ (k : Nat) (r : List UInt8), k ≤ ls.length ∧ k ≤ 60 ∧ x = .string (bs (s ++ r)) ∧ i = .int .i64 k ∧ r.length ≤ 200 * k ∧ Hid (One w wr D ⟨kind, n, .slice yo ab.length yc, ab, torn, cell⟩ (s ++ r) s s s)) (fun _ i _ => 60 - (intOf i).toNat)
  case atStart => exact ⟨0, [], by omega, by omega, by rw [List.append_nil], rfl, by simp, by rw [List.append_nil]; exact HO⟩
  case round =>
    clear HO cv
    obtain ⟨k, r, hk1, hk2, rfl, rfl, hf, HO⟩ := hrel
    by_cases hlt : k < ls.length ∧ k < 60
    · obtain ⟨hl1, hl2⟩ := hlt
      obtain ⟨b, o, rfl⟩ := (unhide Hl).addr (by omega)
      have hl := (unhide Hl).below (unhide HO).b (Nat.le_refl _)
      obtain ⟨xa, xc, hcx, hsx⟩ := hl.cell k hl1
      obtain ⟨x, hx⟩ : ∃ x, Hid (ls[k] = x) := ⟨ls[k], Eq.refl ls[k]⟩
      rw [hx.out] at hcx hsx
      have hkI : (k : Int) < (ls.length : Int) := by omega
      have Hsx := hide hsx
      have hxm : x.length ≤ 9223372036854775807 := by obtain ⟨_, _, e, q1, q2, _⟩ := hsx; unfold maxLen at q2; omega
      clear hl hsx
      by_cases hxl : 200 < x.length
      · have hxI : ¬ (x.length : Int) ≤ 200 := by omega
        go_wp2
        go_roundw
        case rel => exact ⟨k + 1, r, by omega, by omega, rfl, by go_num, by omega, HO⟩
        case measure => simp [intOf]; omega
      · have hxI : (x.length : Int) ≤ 200 := by omega
        go_wp2_with fail
        refine (append_ok (S := fun k => w.heap.size < k) D _ _ _ _ x _ _ (unhide HO).d (unhide HO).new (unhide Hsx) (by rw [List.length_append]; omega)).mono ?_
        rintro e w6 ⟨rfl, hd6, hf6⟩
        replace HO := hide ((unhide HO).step hd6 hf6)
        clear hd6 hf6
        obtain ⟨xa3, xc3, hcx3, hsx3⟩ := ((unhide Hl).below (unhide HO).b (Nat.le_refl _)).cell k hl1
        rw [hx.out] at hcx3 hsx3
        have cv := conv_sl w6 _ _ hsx3
        have hadd : (Op.stringOp .add (bs (s ++ r)) (bs x)).run Try.prog w6 = .ok (.string (bs (s ++ r ++ x))) w6 := run_string_add_lists w6 _ _ (by rw [List.length_append]; omega) (by omega)
        clear hsx3 hcx
        go_wp2
        go_roundw
        case rel => exact ⟨k + 1, r ++ x, by omega, by omega, rfl, by go_num, by rw [List.length_append]; omega, by rw [← List.append_assoc]; exact HO⟩
        case measure => simp [intOf]; omega
    · have hlt' : ls.length ≤ k ∨ (k < ls.length ∧ 60 ≤ k) := by omega
      clear hlt
      have a2 := (unhide HO).a.c2
      simp only at a2
      have hLs := hide (left_safe s r n torn)
      generalize hA0 : s ++ r = A at *
      have hA2 := hide hA0
      clear hA0
      rcases hlt' with hq | ⟨hq, hq2⟩
      all_goals
        go_wp2_with fail
        refine (set_ok (S := fun k => w.heap.size < k) D _ _ _ _ ab _ _ (unhide HO).d (unhide HO).new ((unhide Hab).later (unhide HO).b) (by omega)).mono ?_
        rintro e w6 ⟨rfl, hd6, hf6⟩
        replace HO := hide ((unhide HO).step hd6 hf6)
        clear hd6 hf6 a2
        have a1 := (unhide HO).a.c1
        have a3 := (unhide HO).a.c3
        have a4 := (unhide HO).a.c4
        simp only at a1 a3 a4
        go_wp2_with fail
        refine (crash_ok (S := fun k => w.heap.size < k) D _ _ _ _ n torn cell _ (unhide HO).d n1).mono ?_
        rintro e w7 ⟨X, rfl, hX, hb7⟩
        replace HO := hide ((unhide HO).later hb7)
        have HX := hide hX
        clear hX hb7 a1 a3 a4
        generalize left s A n torn = L at *
        generalize hC0 : cel ab s cell = C at *
        have hC := hide hC0
        clear hC0
        go_wp2_with fail
        refine (file_g (S := fun k => w.heap.size < k) D _ _ _ _ _ (unhide HO).d).mono ?_
        rintro e w8 ⟨g8, rfl, ho8, hb8⟩
        have cv := conv_sl w8 _ _ ho8.sl
        replace HO := hide ((unhide HO).later hb8)
        replace HX := hide ((unhide HX).later hb8)
        clear ho8 hb8
        go_wp2_with fail
        refine (file_g X _ _ _ _ _ (unhide HX)).mono ?_
        rintro e w9 ⟨g9, rfl, ho9, hb9⟩
        clear cv
        have cv := conv_sl w9 _ _ ho9.sl
        replace HO := hide ((unhide HO).later hb9)
        replace HX := hide ((unhide HX).later hb9)
        clear ho9 hb9
        have a3 := (unhide HO).a.c3
        simp only at a3
        have hFs : (bs L).size = L.length := by simp [bs, ByteArray.size]
        have hAs : (bs A).size = A.length := by simp [bs, ByteArray.size]
        obtain ⟨l1, l2, l3, hcase⟩ := safe_cases s r A L torn (unhide hA2) (unhide hLs)
        have HM : L.length ≤ 16777216 ∧ A.length ≤ 16777216 := by
          obtain ⟨_, _, _, _, q, _⟩ := (unhide HX)
          obtain ⟨_, _, _, _, q2, _⟩ := (unhide HO).d
          exact ⟨q.b0, q2.b0⟩
        obtain ⟨m1, m2⟩ := HM
        have L3 := hide l3
        clear l3 hLs hA2
        rcases hcase with ⟨ht, h4⟩ | ⟨rfl, h4, h5, h6⟩
        · have e1 : (bs L).extract 0 s.length = bs s := by rw [bs_extract, unhide L3]
          have e2 : (bs L).extract 0 L.length = bs L := by rw [bs_extract, List.take_length]
          have e3 : (bs A).extract 0 L.length = bs L := by rw [bs_extract, h4]
          have i1 : decide (L.length < s.length) = false := by simpa using l1
          have i2 : decide (A.length < L.length) = false := by simpa using l2
          have cs := fun i : Later w9 => conv_sl i.val _ _ (((unhide Hs).later (unhide HO).b).later i.below)
          have inst : Nonempty (Later w9) := ⟨⟨w9, Below.refl _ _⟩⟩
          clear h4
          cases torn
          · clear ht
            go_wp2_with fail
            generalize hF0 : bs L = F at *
            have hF := hide hF0
            clear hF0
            generalize bs A = G at *
            generalize hE0 : bs s = E at *
            have hE := hide hE0
            clear hE0
            refine wp_region_later (by kernel_rfl) (by kernel_rfl) ?_
            iterate 45 go_big_quiet_step (fail)
            refine wpQuiet_nil ?_
            intro w' hw'
            obtain ⟨i, rfl⟩ := hw'
            replace HO := hide ((unhide HO).later i.below)
            replace HX := hide ((unhide HX).later i.below)
            have cs' := cs i
            have a4 := (unhide HO).a.c4
            have a2 := (unhide HO).a.c2
            simp only at a4 a2
            have ca := conv_sl i.val _ _ ((unhide Hab).later (unhide HO).b)
            generalize i.val = W at *
            obtain rfl := unhide hE
            obtain rfl := unhide hF
            clear a3 cs inst hE hF e1 e2 e3 hAs
            cases cell
            · obtain rfl : C = s := (unhide hC).symm
              clear hC
              go_wp2_with fail
              refine (crash_ok X _ _ _ _ 0 true true _ (unhide HX) (by decide)).mono ?_
              rintro e w10 ⟨Y, rfl, hY, hb10⟩
              rw [left_self] at hY
              replace hY : Dk _ _ _ L C L C := hY
              replace HO := hide ((unhide HO).later hb10)
              replace HX := hide ((unhide HX).later hb10)
              have HY := hide hY
              clear hY hb10 cs' ca a2 a4
              go_wp2_with fail
              refine (alive_any _).mono ?_
              rintro e w11 ⟨rfl, hb11⟩
              replace HO := hide ((unhide HO).later hb11)
              replace HX := hide ((unhide HX).later hb11)
              replace HY := hide ((unhide HY).later hb11)
              clear hb11
              go_wp2_with fail
              refine (cell_g X _ _ _ _ _ (unhide HX)).mono ?_
              rintro e w12 ⟨g12, rfl, ho12, hb12⟩
              have cv12 := conv_sl w12 _ _ ho12.sl
              replace HO := hide ((unhide HO).later hb12)
              replace HX := hide ((unhide HX).later hb12)
              replace HY := hide ((unhide HY).later hb12)
              clear hb12 ho12
              go_wp2_with fail
              refine (dirty_ok X _ _ _ _ _ (unhide HX)).mono ?_
              rintro e w13 ⟨rfl, hb13⟩
              rw [dirt_self]
              replace HO := hide ((unhide HO).later hb13)
              replace HY := hide ((unhide HY).later hb13)
              clear hb13 HX cv12
              go_wp2_with fail
              refine (file_g Y _ _ _ _ _ (unhide HY)).mono ?_
              rintro e w14 ⟨g14, rfl, ho14, hb14⟩
              have cv14 := conv_sl w14 _ _ ho14.sl
              replace HO := hide ((unhide HO).later hb14)
              clear hb14 ho14 HY
              go_wp2
              go_ret
              exact ⟨rfl, (unhide HO).b⟩
            · obtain rfl : C = ab := (unhide hC).symm
              clear hC
              go_wp2_with fail
              refine (crash_ok X _ _ _ _ 0 true true _ (unhide HX) (by decide)).mono ?_
              rintro e w10 ⟨Y, rfl, hY, hb10⟩
              rw [left_self] at hY
              replace hY : Dk _ _ _ L C L C := hY
              replace HO := hide ((unhide HO).later hb10)
              replace HX := hide ((unhide HX).later hb10)
              have HY := hide hY
              clear hY hb10 cs' ca a2 a4
              go_wp2_with fail
              refine (alive_any _).mono ?_
              rintro e w11 ⟨rfl, hb11⟩
              replace HO := hide ((unhide HO).later hb11)
              replace HX := hide ((unhide HX).later hb11)
              replace HY := hide ((unhide HY).later hb11)
              clear hb11
              go_wp2_with fail
              refine (cell_g X _ _ _ _ _ (unhide HX)).mono ?_
              rintro e w12 ⟨g12, rfl, ho12, hb12⟩
              have cv12 := conv_sl w12 _ _ ho12.sl
              replace HO := hide ((unhide HO).later hb12)
              replace HX := hide ((unhide HX).later hb12)
              replace HY := hide ((unhide HY).later hb12)
              clear hb12 ho12
              go_wp2_with fail
              refine (dirty_ok X _ _ _ _ _ (unhide HX)).mono ?_
              rintro e w13 ⟨rfl, hb13⟩
              rw [dirt_self]
              replace HO := hide ((unhide HO).later hb13)
              replace HY := hide ((unhide HY).later hb13)
              clear hb13 HX cv12
              go_wp2_with fail
              refine (file_g Y _ _ _ _ _ (unhide HY)).mono ?_
              rintro e w14 ⟨g14, rfl, ho14, hb14⟩
              have cv14 := conv_sl w14 _ _ ho14.sl
              replace HO := hide ((unhide HO).later hb14)
              clear hb14 ho14 HY
              go_wp2
              go_ret
              exact ⟨rfl, (unhide HO).b⟩
          · have hle : decide (s.length < L.length) = false := by
              rcases ht with ht | ht
              · cases ht
              · simp; omega
            clear ht
            go_wp2_with fail
            generalize hF0 : bs L = F at *
            have hF := hide hF0
            clear hF0
            generalize bs A = G at *
            generalize hE0 : bs s = E at *
            have hE := hide hE0
            clear hE0
            refine wp_region_later (by kernel_rfl) (by kernel_rfl) ?_
            iterate 45 go_big_quiet_step (fail)
            refine wpQuiet_nil ?_
            intro w' hw'
            obtain ⟨i, rfl⟩ := hw'
            replace HO := hide ((unhide HO).later i.below)
            replace HX := hide ((unhide HX).later i.below)
            have cs' := cs i
            have a4 := (unhide HO).a.c4
            have a2 := (unhide HO).a.c2
            simp only at a4 a2
            have ca := conv_sl i.val _ _ ((unhide Hab).later (unhide HO).b)
            generalize i.val = W at *
            obtain rfl := unhide hE
            obtain rfl := unhide hF
            clear a3 cs inst hE hF e1 e2 e3 hAs
            cases cell
            · obtain rfl : C = s := (unhide hC).symm
              clear hC
              go_wp2_with fail
              refine (crash_ok X _ _ _ _ 0 true true _ (unhide HX) (by decide)).mono ?_
              rintro e w10 ⟨Y, rfl, hY, hb10⟩
              rw [left_self] at hY
              replace hY : Dk _ _ _ L C L C := hY
              replace HO := hide ((unhide HO).later hb10)
              replace HX := hide ((unhide HX).later hb10)
              have HY := hide hY
              clear hY hb10 cs' ca a2 a4
              go_wp2_with fail
              refine (alive_any _).mono ?_
              rintro e w11 ⟨rfl, hb11⟩
              replace HO := hide ((unhide HO).later hb11)
              replace HX := hide ((unhide HX).later hb11)
              replace HY := hide ((unhide HY).later hb11)
              clear hb11
              go_wp2_with fail
              refine (cell_g X _ _ _ _ _ (unhide HX)).mono ?_
              rintro e w12 ⟨g12, rfl, ho12, hb12⟩
              have cv12 := conv_sl w12 _ _ ho12.sl
              replace HO := hide ((unhide HO).later hb12)
              replace HX := hide ((unhide HX).later hb12)
              replace HY := hide ((unhide HY).later hb12)
              clear hb12 ho12
              go_wp2_with fail
              refine (dirty_ok X _ _ _ _ _ (unhide HX)).mono ?_
              rintro e w13 ⟨rfl, hb13⟩
              rw [dirt_self]
              replace HO := hide ((unhide HO).later hb13)
              replace HY := hide ((unhide HY).later hb13)
              clear hb13 HX cv12
              go_wp2_with fail
              refine (file_g Y _ _ _ _ _ (unhide HY)).mono ?_
              rintro e w14 ⟨g14, rfl, ho14, hb14⟩
              have cv14 := conv_sl w14 _ _ ho14.sl
              replace HO := hide ((unhide HO).later hb14)
              clear hb14 ho14 HY
              go_wp2
              go_ret
              exact ⟨rfl, (unhide HO).b⟩
            · obtain rfl : C = ab := (unhide hC).symm
              clear hC
              go_wp2_with fail
              refine (crash_ok X _ _ _ _ 0 true true _ (unhide HX) (by decide)).mono ?_
              rintro e w10 ⟨Y, rfl, hY, hb10⟩
              rw [left_self] at hY
              replace hY : Dk _ _ _ L C L C := hY
              replace HO := hide ((unhide HO).later hb10)
              replace HX := hide ((unhide HX).later hb10)
              have HY := hide hY
              clear hY hb10 cs' ca a2 a4
              go_wp2_with fail
              refine (alive_any _).mono ?_
              rintro e w11 ⟨rfl, hb11⟩
              replace HO := hide ((unhide HO).later hb11)
              replace HX := hide ((unhide HX).later hb11)
              replace HY := hide ((unhide HY).later hb11)
              clear hb11
              go_wp2_with fail
              refine (cell_g X _ _ _ _ _ (unhide HX)).mono ?_
              rintro e w12 ⟨g12, rfl, ho12, hb12⟩
              have cv12 := conv_sl w12 _ _ ho12.sl
              replace HO := hide ((unhide HO).later hb12)
              replace HX := hide ((unhide HX).later hb12)
              replace HY := hide ((unhide HY).later hb12)
              clear hb12 ho12
              go_wp2_with fail
              refine (dirty_ok X _ _ _ _ _ (unhide HX)).mono ?_
              rintro e w13 ⟨rfl, hb13⟩
              rw [dirt_self]
              replace HO := hide ((unhide HO).later hb13)
              replace HY := hide ((unhide HY).later hb13)
              clear hb13 HX cv12
              go_wp2_with fail
              refine (file_g Y _ _ _ _ _ (unhide HY)).mono ?_
              rintro e w14 ⟨g14, rfl, ho14, hb14⟩
              have cv14 := conv_sl w14 _ _ ho14.sl
              replace HO := hide ((unhide HO).later hb14)
              clear hb14 ho14 HY
              go_wp2
              go_ret
              exact ⟨rfl, (unhide HO).b⟩
        · have e1 : (bs L).extract 0 s.length = bs s := by rw [bs_extract, unhide L3]
          obtain ⟨m, hm⟩ : ∃ m, L.length = m + 1 := ⟨L.length - 1, by omega⟩
          have hm2 : (L.length : Int) - 1 = (m : Int) := by omega
          have e2 : (bs L).extract 0 m = bs (L.take m) := bs_extract _ _
          have e3 : (bs A).extract 0 m = bs (L.take m) := by
            rw [bs_extract]
            have : L.length - 1 = m := by omega
            rw [this] at h5
            rw [h5]
          have hml : decide (m < L.length) = true := by simp; omega
          have hma : m < A.length := by omega
          have i1 : decide (L.length < s.length) = false := by simpa using l1
          have i2 : decide (A.length < L.length) = false := by simpa using l2
          have cs := fun i : Later w9 => conv_sl i.val _ _ (((unhide Hs).later (unhide HO).b).later i.below)
          have inst : Nonempty (Later w9) := ⟨⟨w9, Below.refl _ _⟩⟩
          have hmL : m < L.length := by omega
          have x1 := idx_bs L m hmL
          have x2 := idx_bs A m hma
          have hne : ((L[m].toNat : Int) == (A[m].toNat : Int)) = false := by
            have e6 : L.length - 1 = m := by omega
            rw [e6, List.getElem?_eq_getElem hmL, List.getElem?_eq_getElem hma] at h6
            rw [beq_eq_false_iff_ne]
            intro e
            exact h6 (by rw [UInt8.toNat_inj.1 (by omega : L[m].toNat = A[m].toNat)])
          generalize L[m].toNat = fb at *
          generalize A[m].toNat = ga at *
          have Hm := hide hm
          clear hm h6 h5 hmL
          go_wp2_with fail
          generalize hF0 : bs L = F at *
          have hF := hide hF0
          clear hF0
          generalize bs A = G at *
          generalize hE0 : bs s = E at *
          have hE := hide hE0
          clear hE0
          generalize bs (L.take m) = M at *
          refine wp_region_later (by kernel_rfl) (by kernel_rfl) ?_
          iterate 45 go_big_quiet_step (fail)
          refine wpQuiet_nil ?_
          intro w' hw'
          obtain ⟨i, rfl⟩ := hw'
          replace HO := hide ((unhide HO).later i.below)
          replace HX := hide ((unhide HX).later i.below)
          have cs' := cs i
          have a4 := (unhide HO).a.c4
          have a2 := (unhide HO).a.c2
          simp only at a4 a2
          have ca := conv_sl i.val _ _ ((unhide Hab).later (unhide HO).b)
          generalize i.val = W at *
          obtain rfl := unhide hE
          obtain rfl := unhide hF
          clear a3 cs inst hE hF e1 e2 e3 hAs
          cases cell
          · obtain rfl : C = s := (unhide hC).symm
            clear hC
            go_wp2_with fail
            refine (crash_ok X _ _ _ _ 0 true true _ (unhide HX) (by decide)).mono ?_
            rintro e w10 ⟨Y, rfl, hY, hb10⟩
            rw [left_self] at hY
            replace hY : Dk _ _ _ L C L C := hY
            replace HO := hide ((unhide HO).later hb10)
            replace HX := hide ((unhide HX).later hb10)
            have HY := hide hY
            clear hY hb10 cs' ca a2 a4
            go_wp2_with fail
            refine (alive_any _).mono ?_
            rintro e w11 ⟨rfl, hb11⟩
            replace HO := hide ((unhide HO).later hb11)
            replace HX := hide ((unhide HX).later hb11)
            replace HY := hide ((unhide HY).later hb11)
            clear hb11
            go_wp2_with fail
            refine (cell_g X _ _ _ _ _ (unhide HX)).mono ?_
            rintro e w12 ⟨g12, rfl, ho12, hb12⟩
            have cv12 := conv_sl w12 _ _ ho12.sl
            replace HO := hide ((unhide HO).later hb12)
            replace HX := hide ((unhide HX).later hb12)
            replace HY := hide ((unhide HY).later hb12)
            clear hb12 ho12
            go_wp2_with fail
            refine (dirty_ok X _ _ _ _ _ (unhide HX)).mono ?_
            rintro e w13 ⟨rfl, hb13⟩
            rw [dirt_self]
            replace HO := hide ((unhide HO).later hb13)
            replace HY := hide ((unhide HY).later hb13)
            clear hb13 HX cv12
            go_wp2_with fail
            refine (file_g Y _ _ _ _ _ (unhide HY)).mono ?_
            rintro e w14 ⟨g14, rfl, ho14, hb14⟩
            have cv14 := conv_sl w14 _ _ ho14.sl
            replace HO := hide ((unhide HO).later hb14)
            clear hb14 ho14 HY
            go_wp2
            go_ret
            exact ⟨rfl, (unhide HO).b⟩
          · obtain rfl : C = ab := (unhide hC).symm
            clear hC
            go_wp2_with fail
            refine (crash_ok X _ _ _ _ 0 true true _ (unhide HX) (by decide)).mono ?_
            rintro e w10 ⟨Y, rfl, hY, hb10⟩
            rw [left_self] at hY
            replace hY : Dk _ _ _ L C L C := hY
            replace HO := hide ((unhide HO).later hb10)
            replace HX := hide ((unhide HX).later hb10)
            have HY := hide hY
            clear hY hb10 cs' ca a2 a4
            go_wp2_with fail
            refine (alive_any _).mono ?_
            rintro e w11 ⟨rfl, hb11⟩
            replace HO := hide ((unhide HO).later hb11)
            replace HX := hide ((unhide HX).later hb11)
            replace HY := hide ((unhide HY).later hb11)
            clear hb11
            go_wp2_with fail
            refine (cell_g X _ _ _ _ _ (unhide HX)).mono ?_
            rintro e w12 ⟨g12, rfl, ho12, hb12⟩
            have cv12 := conv_sl w12 _ _ ho12.sl
            replace HO := hide ((unhide HO).later hb12)
            replace HX := hide ((unhide HX).later hb12)
            replace HY := hide ((unhide HY).later hb12)
            clear hb12 ho12
            go_wp2_with fail
            refine (dirty_ok X _ _ _ _ _ (unhide HX)).mono ?_
            rintro e w13 ⟨rfl, hb13⟩
            rw [dirt_self]
            replace HO := hide ((unhide HO).later hb13)
            replace HY := hide ((unhide HY).later hb13)
            clear hb13 HX cv12
            go_wp2_with fail
            refine (file_g Y _ _ _ _ _ (unhide HY)).mono ?_
            rintro e w14 ⟨g14, rfl, ho14, hb14⟩
            have cv14 := conv_sl w14 _ _ ho14.sl
            replace HO := hide ((unhide HO).later hb14)
            clear hb14 ho14 HY
            go_wp2
            go_ret
            exact ⟨rfl, (unhide HO).b⟩
end

end Go.Proofs.Ytdhjogfalkmggaa
