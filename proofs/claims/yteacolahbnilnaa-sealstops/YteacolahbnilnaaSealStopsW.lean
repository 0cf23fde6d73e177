/-
  The law SealStops: its walk.
-/
import Derived.Test.YteacolahbnilnaaStopsMath
namespace Go.Proofs.Yteacolahbnilnaa
open Go.RowKit
set_option linter.unusedVariables false

/-- What the loop has gathered. -/
def Gath2 (w : World) (wr : World) (bv dv ev : Value) (ds : List (List UInt8)) : Prop :=
  Gath w wr bv dv ds ∧ wr.ownsRow w.heap.size 3 1 ev ds.length (ends ds)

theorem Own.val8 {B : Nat} {w : World} {v : Value} {x : List UInt8} (h : Own B w v (fr x)) : ∃ ao c, v = .slice ao (x.length + 8) c := by
  obtain ⟨ao, c, rfl⟩ := h.val
  exact ⟨ao, c, by rw [fr_length, Nat.add_comm]⟩

set_option maxRecDepth 100000 in
set_option maxHeartbeats 4000000 in
theorem walkSealStops (w : World) (v0 : Value) (ls : List (List UInt8)) (h0 : Bss w v0 ls) (at0 : Int) (hat0 : (Lit.int .i64 at0).wf = true) (bit0 : Int) (hbit0 : (Lit.int .i64 bit0).wf = true) :
    Calls Try.prog 6 #[v0, .int .i64 at0, .int .i64 bit0] w fun e w' => e = .returned (.bool true) ∧ Below w.heap.size w w' := by
  have hv0 : ∃ ao c, v0 = .slice ao ls.length c ∧ ls.length ≤ c ∧ c ≤ maxLen := by obtain ⟨ao, c, rfl, h1, h2, _⟩ := h0; exact ⟨_, _, rfl, h1, h2⟩
  obtain ⟨ao, c, rfl, hc1, hc2⟩ := hv0
  unfold maxLen at hc2
  have H0 := hide h0
  clear h0
  have hbit1 := bounds_i64 hbit0
  have hat1 := bounds_i64 hat0
  clear hbit0 hat0
  obtain ⟨i0, hi, hz0, hz1, hz2⟩ := info_parts Try.infoBytes
  obtain ⟨j0, hj, hy0, hy1, hy2⟩ := info_parts Try.infoInt
  go_enter Try.func6, Try.ntmps6
  go_wp2
  go_loopw [7, 8, 9, 10] (fun bv dv ev i wr => ∃ (k : Nat) (ds : List (List UInt8)), k ≤ ls.length ∧ k ≤ 20 ∧ i = .int .i64 k ∧ ds.length ≤ k ∧ Gath2 w wr bv dv ev ds) (fun _ _ _ i _ => ls.length - (intOf i).toNat)
  case atStart => exact ⟨0, [], by omega, by omega, rfl, by simp, ⟨World.ownsRow_nil _ _ _ _, ⟨[], World.ownsRow_nil _ _ _ _, fun i u x hu => by simp at hu⟩, fun x hx => by simp at hx, Below.refl _ _⟩, World.ownsRow_nil _ _ _ _⟩
  case round =>
    obtain ⟨k, ds, hk, hk20, rfl, hdl, hG⟩ := hrel
    by_cases hlt : k < ls.length ∧ k < 20
    · obtain ⟨hlt1, hlt2⟩ := hlt
      obtain ⟨b, o, rfl⟩ := H0.out.addr (by omega)
      obtain ⟨xa, xc, hcw, hsw⟩ := H0.out.cell k hlt1
      obtain ⟨x, hx⟩ : ∃ x, Hid (ls[k] = x) := ⟨ls[k], Eq.refl ls[k]⟩
      rw [hx.out] at hcw hsw
      have hbw : b < w.heap.size := World.block_lt_of_cell? w _ hcw
      have Hcw := hide hcw
      have hcell := (hG.1.2.2.2.cell (p := ⟨b, o + k, none⟩) hbw).trans hcw
      have hsx := hsw.below hG.1.2.2.2 (Nat.le_refl _)
      clear hcw
      by_cases hbig : 500 < x.length
      · have HG := hide hG
        clear hG
        go_wp2
        go_roundw
        case rel => exact ⟨k + 1, ds, by omega, by omega, by go_num, by omega, unhide HG⟩
        case measure => simp [intOf]; omega
      by_cases hemp : x.length = 0
      · have hxe : x = [] := List.eq_nil_of_length_eq_zero hemp
        have HG := hide hG
        clear hG
        subst hxe
        simp only [List.length_nil] at hcell
        go_wp2
        go_roundw
        case rel => exact ⟨k + 1, ds, by omega, by omega, by go_num, by omega, unhide HG⟩
        case measure => simp [intOf]; omega
      · have hpos : 0 < x.length := by omega
        have hne0 : ((x.length : Int) == 0) = false := by rw [beq_eq_false_iff_ne]; omega
        have hfit : Fits x := ⟨by omega, by omega⟩
        obtain ⟨⟨hoB, hH, hF, hB⟩, hE⟩ := hG
        have hzB := hB.size
        have hfl := frs_small hF (by omega)
        go_wp2_with fail
        refine (frame_yes _ x _ hsx hfit).mono ?_
        rintro e w1 ⟨r1, rfl, ho1, hb1⟩
        obtain ⟨fo, fc, rfl⟩ := ho1.val8
        have hB1 := hB.trans (hb1.mono hzB)
        have hcell1 := (hB1.cell (p := ⟨b, o + k, none⟩) hbw).trans Hcw.out
        have hsz1 := hb1.size
        have HoB := hide (hoB.later hb1)
        have HH := hide (hH.later hb1)
        have HE := hide (row_below hE hb1)
        have Hf := hide ho1
        have HB := hide hB1
        have HF := hide hF
        have Hsw := hide hsw
        have hfl2 : (fr x).length ≤ 508 := by rw [fr_length]; omega
        clear hcell hsx ho1 hoB hH hF hB hsw hB1 hb1 hE
        go_wp2_with (at_builtin; refine wpList_append_sl _ rfl (.tmp 62) (.tmp 63) rfl w.heap.size ?hB _ _ rfl HoB.out _ _ rfl Hf.out.sl ?hl ?_)
        case hB => exact HB.out.size
        case hl => omega
        intro bv' w3 ho3 hg3
        have hB3 : Below w.heap.size w w3 := HB.out.grown hg3 HB.out.size (fun k hk => (World.ownsRow.lt HoB.out k hk).1)
        have hH3 : Held w w3 _ ds := HH.out.kept HoB.out hg3
        have hE3 := World.ownsRow.kept HE.out hg3 (rows_apart HE.out HoB.out (by decide))
        have hcell3 := (hB3.cell (p := ⟨b, o + k, none⟩) hbw).trans Hcw.out
        have hz3 := hB3.size
        obtain ⟨vs, hrow, hrec⟩ := hH3
        have Hrec := hide hrec
        clear hg3 hrec hcell1 HE HH HoB
        go_wp2_with (at_builtin; refine wpList_append_own _ rfl (.tmp 65) (.tmp 70) 27 rfl w.heap.size 22 i0 (.slice none 0 0) 1 24 Try.underlying27 hi hz0 hz1 hz2 rfl (by decide) _ _ _ rfl (hrow.alloc _) ⟨w3.heap.size, 0, none⟩ 1 1 [.slice xa x.length xc] rfl rfl (cell_one_new _ _ _) (by simp [Value.oneCell']) ?h3 ?h4 ?h5 ?_)
        case h3 => unfold maxLen; omega
        case h4 => omega
        case h5 => simp; omega
        intro dv' w4 ho4 hg4 _
        have R1 : Own w.heap.size w4 bv' (frs (ds ++ [x])) := by
          rw [frs_snoc]
          exact Own.keptRow (World.ownsRow.alloc ho3 _) (hrow.alloc _) hg4
        have R2 : Held w w4 dv' (ds ++ [x]) := held_snoc hrow (unhide Hrec) Hsw.out ho4
        have R3 : Below w.heap.size w w4 := (hB3.alloc hz3 _).grown hg4 (by simp; omega) (fun k hk => (World.ownsRow.lt hrow k hk).1)
        have R4 : ∀ y ∈ ds ++ [x], Fits y ∧ y.length ≤ 500 := fun y hy => by
          rcases List.mem_append.1 hy with h | h
          · exact HF.out y h
          · simp at h; subst h; exact ⟨hfit, by omega⟩
        have hE4 := kept_alloc hE3 hrow hg4 (by decide)
        obtain ⟨bx, bcp, rfl⟩ := R1.val
        have hz4 := R3.size
        have hlen : (frs (ds ++ [x])).length = total (ds ++ [x]) := frs_length _
        have htb := frs_small R4 (by simp; omega)
        have R := hide (show Gath w w4 (.slice bx (frs (ds ++ [x])).length bcp) dv' (ds ++ [x]) from ⟨R1, R2, R4, R3⟩)
        clear R1 R2 R3 R4 ho4 hg4 hrow ho3 hB3 hcell3 hE3
        obtain ⟨tn, htn⟩ : ∃ tn, Hid (total (ds ++ [x]) = tn) := ⟨_, Eq.refl (total (ds ++ [x]))⟩
        rw [hlen, htn.out] at htb R ⊢
        clear hlen
        go_wp2_with (at_builtin; refine wpList_append_own _ rfl (.tmp 72) (.tmp 75) 38 rfl w.heap.size 3 j0 (.int .i64 0) 1 8 Try.underlying38 hj hy0 hy1 hy2 rfl (by decide) _ _ _ rfl (hE4.alloc _) ⟨w4.heap.size, 0, none⟩ 1 1 [.int .i64 tn] rfl rfl (cell_one_new _ _ _) (by simp [Value.oneCell']) ?h6 ?h7 ?h8 ?_)
        case h6 => unfold maxLen; omega
        case h7 => omega
        case h8 => simp; omega
        intro ev' w5 ho5 hg5 _
        have Q5 : Gath2 w w5 (.slice bx tn bcp) dv' ev' (ds ++ [x]) := by
          obtain ⟨R1, ⟨us, R2, R2'⟩, R4, R3⟩ := R.out
          refine ⟨⟨kept_alloc R1 hE4 hg5 (by decide), ⟨us, kept_alloc R2 hE4 hg5 (by decide), R2'⟩, R4, ?_⟩, ?_⟩
          · exact (R3.alloc R3.size _).grown hg5 (by have := R3.size; simp; omega) (fun k hk => (World.ownsRow.lt hE4 k hk).1)
          · rw [ends_snoc, htn.out]
            simpa using ho5
        have HQ := hide Q5
        clear Q5 ho5 hg5 R hE4
        go_wp2
        go_roundw
        case rel => exact ⟨k + 1, ds ++ [x], by omega, by omega, by go_num, by simp; omega, unhide HQ⟩
        case measure => simp [intOf]; omega
    · have hend : ls.length ≤ k ∨ (k < ls.length ∧ 20 ≤ k) := by omega
      obtain ⟨⟨hoB, hH, hF, hB⟩, hE⟩ := hG
      have hzB := hB.size
      have hfl := frs_small hF (by omega)
      obtain ⟨dx, dc, rfl⟩ := hH.val
      obtain ⟨bx, bcp, rfl⟩ := hoB.val
      have HoB := hide hoB
      have HH := hide hH
      have HF := hide hF
      have HB := hide hB
      have HE := hide hE
      clear hoB hH hF hB hE
      by_cases hneg : at0 < 0
      · rcases hend with hend | ⟨hend, hend2⟩
        all_goals
          go_wp2_with fail
          refine (alive_any _).mono ?_
          rintro e w3 ⟨rfl, hb3⟩
          go_wp2
          go_ret
          exact ⟨rfl, HB.out.trans (hb3.mono hzB)⟩
      by_cases hfar : (ds.length : Int) ≤ at0
      · rcases hend with hend | ⟨hend, hend2⟩
        all_goals
          go_wp2_with fail
          refine (alive_any _).mono ?_
          rintro e w3 ⟨rfl, hb3⟩
          go_wp2
          go_ret
          exact ⟨rfl, HB.out.trans (hb3.mono hzB)⟩
      by_cases hbn : bit0 < 0
      · rcases hend with hend | ⟨hend, hend2⟩
        all_goals
          go_wp2_with fail
          refine (alive_any _).mono ?_
          rintro e w3 ⟨rfl, hb3⟩
          go_wp2
          go_ret
          exact ⟨rfl, HB.out.trans (hb3.mono hzB)⟩
      obtain ⟨t, rfl⟩ := Int.eq_ofNat_of_zero_le (show 0 ≤ at0 by omega)
      obtain ⟨bt, rfl⟩ := Int.eq_ofNat_of_zero_le (show 0 ≤ bit0 by omega)
      have ht : t < ds.length := by omega
      have hdne : ¬ ds = [] := by intro e; subst e; simp at ht
      have hdp : (0 : Int) < (ds.length : Int) := by omega
      have hbss := HH.out.bss HB.out
      obtain ⟨db, dof, rfl⟩ := hbss.addr (by omega)
      obtain ⟨xa, xc, hcx, _⟩ := hbss.cell t ht
      obtain ⟨x, hx⟩ : ∃ x, Hid (ds[t] = x) := ⟨ds[t], Eq.refl ds[t]⟩
      rw [hx.out] at hcx
      have hxm := HF.out x (by rw [← hx.out]; exact List.getElem_mem _)
      have hx1 := hxm.1.1
      have hx2 := hxm.2
      obtain ⟨p, hp⟩ : ∃ p, Hid (total (ds.take t) = p) := ⟨_, Eq.refl (total (ds.take t))⟩
      have hpl : p + 8 + x.length ≤ (frs ds).length := by
        have e := congrArg total (split_at ds t ht)
        rw [frs_length, e, total_append, total_cons, hp.out, hx.out]
        omega
      clear hbss hxm
      obtain ⟨g, rfl⟩ : ∃ g, bx = some ⟨g, 0, none⟩ := by
        rcases HoB.out.2 with ⟨_, e⟩ | ⟨g, cap, cur, e, _⟩
        · omega
        · injection e with e1; exact ⟨g, e1⟩
      obtain ⟨m, hme⟩ : ∃ m, Hid (bt % (8 * x.length) = m) := ⟨_, Eq.refl (bt % (8 * x.length))⟩
      have hm : m < 8 * x.length := by rw [← hme.out]; exact Nat.mod_lt _ (by omega)
      have hmI : (bt : Int) % (8 * (x.length : Int)) = (m : Int) := by
        rw [← hme.out]
        simp
      have hjl : (8 * (p + 8) + m) / 8 < (frs ds).length := by omega
      obtain ⟨hcn, hfz, hgB, hOw'⟩ := turn_bit HoB.out ((8 * (p + 8) + m) / 8) ((8 * (p + 8) + m) % 8) hjl (by omega) rfl
      have hsc : Scans _ (ds.take t) := stops_scan ds t m ht HF.out (by rw [hx.out]; exact hm) ((8 * (p + 8) + m) / 8) ((8 * (p + 8) + m) % 8) (by rw [hp.out]; omega) (by omega) hjl
      obtain ⟨L, hL⟩ : ∃ L, Hid ((frs ds).set ((8 * (p + 8) + m) / 8) ((frs ds)[(8 * (p + 8) + m) / 8] ^^^ UInt8.ofNat (2 ^ ((8 * (p + 8) + m) % 8))) = L) := ⟨_, hide rfl⟩
      have hLl : L.length = (frs ds).length := by rw [← hL.out, List.length_set]
      rw [hL.out] at hsc hOw'
      obtain ⟨cn, hcne⟩ : ∃ cn, Hid ((frs ds)[(8 * (p + 8) + m) / 8].toNat = cn) := ⟨_, Eq.refl (frs ds)[(8 * (p + 8) + m) / 8].toNat⟩
      have hcb : ((frs ds)[(8 * (p + 8) + m) / 8].toNat : Int) < 256 := by have := (frs ds)[(8 * (p + 8) + m) / 8].toNat_lt; omega
      rw [hcne.out] at hcn hcb hOw'
      have hLs : L.length ≤ 10160 := by omega
      have Hsc := hide hsc
      clear hsc hcne hL hLl
      have hm0 : 0 < 8 * x.length := by omega
      obtain ⟨eg, ecap, rfl⟩ := row_form HE.out (by omega)
      rcases hend with hend | ⟨hend, hend2⟩
      all_goals
        by_cases ht0 : t = 0
      all_goals
        first
        | (subst ht0
           obtain rfl : p = 0 := by have := hp.out; simpa [total] using this.symm
           rw [Nat.add_zero] at hcx
           simp only [Nat.zero_add, Nat.reduceMul] at hcn hfz hOw' hjl)
        | (have hce := World.ownsRow.cellAt HE.out (t - 1) (by omega)
           rw [ends_get ds t ht (by omega), hp.out] at hce
           rw [show (8 * (p + 8) + m) % 8 = m % 8 by omega] at hOw')
        have HOw' := hide hOw'
        clear hOw'
        go_wp2_with fail
        refine (scan_any _ L _ _ HOw'.out.sl (by omega) Hsc.out).mono ?_
        rintro e w4 ⟨r4, rfl, hrec, hb4⟩
        rw [hp.out]
        obtain ⟨ra, rc, hrv⟩ := hrec.val
        rw [List.length_take, Nat.min_eq_left (by omega)] at hrv
        subst hrv
        have hB4 := Below.trans (HB.out.setCell (p := ⟨g, _, none⟩) hgB _) (hb4.mono (Below.size (HB.out.setCell (p := ⟨g, _, none⟩) hgB _)))
        have hH4 := (HH.out.kept HoB.out (World.ownsRow.stored HoB.out _ _).2).later hb4
        have hz4 := hB4.size
        clear hb4
        go_wp2_with fail
        refine (alive_any _).mono ?_
        rintro e w5 ⟨rfl, hb5⟩
        have hB5 := hB4.trans (hb5.mono hz4)
        have hbs1 := hrec.bss.below hb5 (Nat.le_refl _)
        have hbs2 := ((hH4.later hb5).bss hB5).take _ (Nat.le_of_lt ht)
        have hdc : ds.length ≤ dc ∧ dc ≤ maxLen := by obtain ⟨_, _, e, k1, k2, _⟩ := (hH4.later hb5).bss hB5; injection e with e1 e2 e3; subst e3; exact ⟨k1, k2⟩
        obtain ⟨hdc1, hdc2⟩ := hdc
        unfold maxLen at hdc2
        have HB5 := hide hB5
        clear hB4 hB5 hb5 hrec hH4
        go_wp2_with fail
        refine (same_yes _ _ _ _ hbs1 hbs2).mono ?_
        rintro e w6 ⟨rfl, q, rfl⟩
        clear hbs1 hbs2
        go_wp2
        go_ret
        exact ⟨rfl, belowN (unhide HB5) q⟩

end Go.Proofs.Yteacolahbnilnaa
