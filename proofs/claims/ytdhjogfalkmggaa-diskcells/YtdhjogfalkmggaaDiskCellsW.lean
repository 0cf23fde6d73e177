/-
  The law DiskCells: its walk.
-/
import Derived.Test.YtdhjogfalkmggaaGs
namespace Go.Proofs.Ytdhjogfalkmggaa
open Go.RowKit
set_option linter.unusedVariables false

section
set_option maxRecDepth 100000

set_option maxHeartbeats 4000000 in
theorem walkDiskCells {w : World} (v : Value) (s : List UInt8) (hs : Sl w v s) (lv : Value) (ls : List (List UInt8)) (hl : Bss w lv ls) (av : Value) (z : ActV) (hz : ActIs w av z) :
    Calls Try.prog 8 #[v, lv, av] w fun e w' => e = .returned (.bool true) ∧ Below w.heap.size w w' := by
  obtain ⟨rfl, hok⟩ := hz
  obtain ⟨kind, n, vv, ab, torn, cell⟩ := z
  obtain ⟨n0, n1, hsb⟩ := hok
  simp only at n0 n1 hsb ⊢
  obtain ⟨yo, yc, rfl, hy1, hy2, _⟩ := hsb
  have Hs := hide hs
  have Hl := hide hl
  obtain ⟨ao, c, rfl, hc1, hc2, _⟩ := hs
  obtain ⟨bo, d, rfl, hd1, hd2, _⟩ := hl
  unfold maxLen at hc2 hd2 hy2
  have hA := ActAt.new w ⟨kind, n, .slice yo ab.length yc, ab, torn, cell⟩ 30
  have hb := below_new w (.cells #[.int .i64 kind, .int .i64 n, .slice yo ab.length yc, .bool torn, .bool cell] 30)
  have hD := Dk.new (S := fun k => w.heap.size < k) (w.alloc (.cells #[.int .i64 kind, .int .i64 n, .slice yo ab.length yc, .bool torn, .bool cell] 30)) (by simp) 48
  have hO : One w _ _ _ _ _ _ _ := ⟨hD, hA.later (below_new _ _), hb.trans ((below_new _ _).mono (by simp))⟩
  have HO := hide hO
  clear hA hb hD hO
  go_enter Try.func8, Try.ntmps8
  go_wp2_with fail
  refine (new_any _).mono ?_
  rintro e w1 ⟨rfl, hw1⟩
  rw [← hw1] at HO
  clear hw1
  generalize (w.alloc (.cells #[.int .i64 kind, .int .i64 n, .slice yo ab.length yc, .bool torn, .bool cell] 30)).heap.size = D at *
  go_wp2_with fail
  refine (alive_any _).mono ?_
  rintro e w2 ⟨rfl, hb2⟩
  replace HO := hide ((unhide HO).later hb2)
  clear hb2
  by_cases hbig : 200 < s.length
  · go_wp2
    go_ret
    exact ⟨rfl, (unhide HO).b⟩
  go_wp2_with fail
  refine (set_ok (S := fun k => w.heap.size < k) D _ _ _ _ s _ _ (unhide HO).d (unhide HO).new ((unhide Hs).later (unhide HO).b) (by omega)).mono ?_
  rintro e w3 ⟨rfl, hd3, hf3⟩
  replace HO := hide ((unhide HO).step hd3 hf3)
  clear hd3 hf3
  go_wp2_with fail
  refine (sync_ok (S := fun k => w.heap.size < k) D _ _ _ _ _ (unhide HO).d).mono ?_
  rintro e w4 ⟨rfl, hd4, hf4⟩
  replace HO := hide ((unhide HO).step hd4 hf4)
  clear hd4 hf4
  have cv := conv_sl w4 _ _ ((unhide Hs).later (unhide HO).b)
  go_wp2_with fail
  go_loopw [8, 9] (fun x i wr => ∃ (k : Nat) (la f : List UInt8), k ≤ ls.length ∧ k ≤ 60 ∧ x = .string (bs la) ∧ i = .int .i64 k ∧ f.length ≤ 200 * k ∧ Hid (One w wr D ⟨kind, n, .slice yo ab.length yc, ab, torn, cell⟩ f la [] s)) (fun _ i _ => 60 - (intOf i).toNat)
  case atStart => exact ⟨0, s, [], by omega, by omega, rfl, rfl, by simp, HO⟩
  case round =>
    clear HO cv
    obtain ⟨k, la, f, hk1, hk2, rfl, rfl, hf, HO⟩ := hrel
    by_cases hlt : k < ls.length ∧ k < 60
    · obtain ⟨hl1, hl2⟩ := hlt
      obtain ⟨b, o, rfl⟩ := (unhide Hl).addr (by omega)
      have hl := (unhide Hl).below (unhide HO).b (Nat.le_refl _)
      obtain ⟨xa, xc, hcx, hsx⟩ := hl.cell k hl1
      obtain ⟨x, hx⟩ : ∃ x, Hid (ls[k] = x) := ⟨ls[k], Eq.refl ls[k]⟩
      rw [hx.out] at hcx hsx
      have hkI : (k : Int) < (ls.length : Int) := by omega
      have Hsx := hide hsx
      have Hcx := hide ((unhide Hl).cell k hl1)
      have hxm : x.length ≤ 9223372036854775807 := by obtain ⟨_, _, e, q1, q2, _⟩ := hsx; unfold maxLen at q2; omega
      clear hl hsx
      by_cases hxl : 200 < x.length
      · have hxI : ¬ (x.length : Int) ≤ 200 := by omega
        go_wp2
        go_roundw
        case rel => exact ⟨k + 1, la, f, by omega, by omega, rfl, by go_num, by omega, HO⟩
        case measure => simp [intOf]; omega
      · have hxI : (x.length : Int) ≤ 200 := by omega
        go_wp2_with fail
        refine (set_ok (S := fun k => w.heap.size < k) D _ _ _ _ x _ _ (unhide HO).d (unhide HO).new (unhide Hsx) (by omega)).mono ?_
        rintro e w5 ⟨rfl, hd5, hf5⟩
        replace HO := hide ((unhide HO).step hd5 hf5)
        clear hd5 hf5
        obtain ⟨xa2, xc2, hcx2, hsx2⟩ := ((unhide Hl).below (unhide HO).b (Nat.le_refl _)).cell k hl1
        rw [hx.out] at hcx2 hsx2
        have Hsx2 := hide hsx2
        clear hsx2 hcx
        go_wp2_with fail
        refine (append_ok (S := fun k => w.heap.size < k) D _ _ _ _ x _ _ (unhide HO).d (unhide HO).new (unhide Hsx2) (by omega)).mono ?_
        rintro e w6 ⟨rfl, hd6, hf6⟩
        replace HO := hide ((unhide HO).step hd6 hf6)
        clear hd6 hf6
        obtain ⟨xa3, xc3, hcx3, hsx3⟩ := ((unhide Hl).below (unhide HO).b (Nat.le_refl _)).cell k hl1
        rw [hx.out] at hcx3 hsx3
        have cv := conv_sl w6 _ _ hsx3
        clear hsx3 hcx2
        go_wp2
        go_roundw
        case rel => exact ⟨k + 1, x, f ++ x, by omega, by omega, rfl, by go_num, by rw [List.length_append]; omega, HO⟩
        case measure => simp [intOf]; omega
    · have hlt' : ls.length ≤ k ∨ (k < ls.length ∧ 60 ≤ k) := by omega
      clear hlt
      have a1 := (unhide HO).a.c1
      have a3 := (unhide HO).a.c3
      simp only at a1 a3
      rcases hlt' with hq | ⟨hq, hq2⟩
      all_goals
        go_wp2_with fail
        refine (crash_ok (S := fun k => w.heap.size < k) D _ _ _ _ n torn false _ (unhide HO).d n1).mono ?_
        rintro e w5 ⟨X, rfl, hX, hb5⟩
        clear a1 a3
        replace HO := hide ((unhide HO).later hb5)
        have HX := hide hX
        have a1 := (unhide HO).a.c1
        have a3 := (unhide HO).a.c3
        simp only at a1 a3
        clear hX hb5
        go_wp2_with fail
        refine (crash_ok (S := fun k => w.heap.size < k) D _ _ _ _ n torn true _ (unhide HO).d n1).mono ?_
        rintro e w6 ⟨Y, rfl, hY, hb6⟩
        clear a1 a3
        replace HO := hide ((unhide HO).later hb6)
        have HX := hide ((unhide HX).later hb6)
        have HY := hide hY
        clear hY hb6
        go_wp2_with fail
        generalize left [] f n torn = L at *
        replace HX : Hid (Dk (fun k => wr.heap.size ≤ k) w6 X L s L s) := HX
        replace HY : Hid (Dk (fun k => w5.heap.size ≤ k) w6 Y L la L la) := HY
        have hDr : Below w6.heap.size w6 w6.drew := (Below.refl _ _).drew
        have HX := hide ((unhide HX).later hDr)
        have HY := hide ((unhide HY).later hDr)
        have HO := hide ((unhide HO).later hDr)
        have q7 := conv_sl w6.drew _ _ ((unhide Hs).later (unhide HO).b)
        clear hDr
        go_region_held (fun w' => (convert 26 9 (.slice ao s.length c)).run Try.prog w' = .ok (.string (bs s)) w') (first | assumption | go_keep)
          (first | (go_at_call_of 21 X; refine (cell_g X _ _ _ _ _ (unhide HX)).mono ?_; rintro e w7 ⟨g7, rfl, ho7, hb7⟩; have HX := hide ((unhide HX).later hb7); have HY := hide ((unhide HY).later hb7); have HO := hide ((unhide HO).later hb7); have q7 := conv_sl w7 _ _ ((unhide Hs).later (unhide HO).b); have r7 := conv_sl w7 _ _ ho7.sl; have HR := hide ho7; clear hb7 ho7) | (go_at_call_of 21 Y; refine (cell_g Y _ _ _ _ _ (unhide HY)).mono ?_; rintro e w7 ⟨g7, rfl, ho7, hb7⟩; have HX := hide ((unhide HX).later hb7); have HY := hide ((unhide HY).later hb7); have HO := hide ((unhide HO).later hb7); have q7 := conv_sl w7 _ _ ((unhide Hs).later (unhide HO).b); have r7 := conv_sl w7 _ _ ho7.sl; have HR := hide ho7; clear hb7 ho7) | (go_at_call_of 21 D; refine (cell_g D _ _ _ _ _ (unhide HO).d).mono ?_; rintro e w7 ⟨g7, rfl, ho7, hb7⟩; have HX := hide ((unhide HX).later hb7); have HY := hide ((unhide HY).later hb7); have HO := hide ((unhide HO).later hb7); have q7 := conv_sl w7 _ _ ((unhide Hs).later (unhide HO).b); have r7 := conv_sl w7 _ _ ho7.sl; have HR := hide ho7; clear hb7 ho7) | (go_at_call_of 20 X; refine (file_g X _ _ _ _ _ (unhide HX)).mono ?_; rintro e w7 ⟨g7, rfl, ho7, hb7⟩; have HX := hide ((unhide HX).later hb7); have HY := hide ((unhide HY).later hb7); have HO := hide ((unhide HO).later hb7); have q7 := conv_sl w7 _ _ ((unhide Hs).later (unhide HO).b); have r7 := conv_sl w7 _ _ ho7.sl; have HR := hide ho7; clear hb7 ho7) | (go_at_call_of 20 Y; refine (file_g Y _ _ _ _ _ (unhide HY)).mono ?_; rintro e w7 ⟨g7, rfl, ho7, hb7⟩; have HX := hide ((unhide HX).later hb7); have HY := hide ((unhide HY).later hb7); have HO := hide ((unhide HO).later hb7); have q7 := conv_sl w7 _ _ ((unhide Hs).later (unhide HO).b); have p7 := conv_sl w7 _ _ ((unhide HR).later hb7).sl; have r7 := conv_sl w7 _ _ ho7.sl; have HR := hide ho7; clear hb7 ho7))
        all_goals
          go_wp2
          go_ret
          exact ⟨rfl, (unhide HO).b⟩
end

end Go.Proofs.Ytdhjogfalkmggaa
