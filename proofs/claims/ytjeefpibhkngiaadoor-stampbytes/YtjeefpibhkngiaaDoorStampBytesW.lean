/-
  The law StampBytes: its walk.
-/
import Derived.Test.YtjeefpibhkngiaaDoorField
import Derived.Test.YtjeefpibhkngiaaDoorView
import Derived.Test.YtjeefpibhkngiaaDoorRefB
import Derived.Test.YtjeefpibhkngiaaDoorRefG
import Derived.Deep.RegionHeld
namespace Go.Proofs.YtjeefpibhkngiaaDoor
open Go.RowKit
set_option linter.unusedVariables false

theorem Sl.turned {w w' : World} {M i : Nat} {u v : Value} {bad : Bool} {l : List UInt8} (h : Sl w v l) (ht : Turned M w w') (hm : RefRd w M u i bad) (hu : ∃ ao n c, u = .slice ao n c) : Sl w' v l := by
  have hw : Touch M w w := Touch.refl M w
  obtain ⟨ao, c, rfl, h1, h2, h3, h4⟩ := h
  refine ⟨ao, c, rfl, h1, h2, h3, fun a ha j x hx => ?_⟩
  have hc := h4 a ha j x hx
  have hne : (a.add j).block ≠ M := by
    intro e
    have hsp := World.cell?_spot hc
    obtain ⟨ao', n', c', rfl⟩ := hu
    have hx' : ∃ b : UInt8, x = .int .u8 (b.toNat : Int) := by
      rw [bc_get] at hx
      cases hl : l[j]? with
      | none => rw [hl] at hx; cases hx
      | some b => rw [hl] at hx; cases hx; exact ⟨b, rfl⟩
    obtain ⟨y, rfl⟩ := hx'
    generalize a.add j = q at *
    obtain ⟨b, o, sp⟩ := q
    simp only at e hsp
    subst e hsp
    rw [cell_of_row w b o _ _ _ hm] at hc
    match o, hc with
    | 0, hc => simp at hc
    | 1, hc => simp at hc
    | 2, hc => simp at hc
    | o + 3, hc => simp at hc
  rw [ht.cell (World.block_lt_of_cell? w _ hc) hne]
  exact hc

theorem Rd.turned {w w' : World} {M R i : Nat} {u : Value} {bad : Bool} {l : List UInt8} (h : Rd w R l) (ht : Turned M w w') (hm : RefRd w M u i bad) (hu : ∃ ao n c, u = .slice ao n c) (hne : R ≠ M) : Rd w' R l := by
  obtain ⟨ao, n, c, h1, h2, h3⟩ := h
  have hR := World.block_lt_of_cell? w _ h1
  refine ⟨ao, n, c, (ht.cell hR hne).trans h1, ?_, h3.turned ht hm hu⟩
  rw [← h2]
  simp only [World.frozen?, ht.block R hR hne]

theorem RefRd.moved {w w' : World} {M R i : Nat} {v : Value} {bad : Bool} (h : RefRd w M v i bad) (hm : Moved R w w') (hne : M ≠ R) : RefRd w' M v i bad := by
  unfold RefRd at *
  rw [hm.block M (Array.getElem?_eq_some_iff.1 h).1 hne]
  exact h

theorem At.turned {w w' : World} {B M : Nat} {a b : Int} (h : At w B a b) (ht : Turned M w w') (hne : B ≠ M) : At w' B a b :=
  ⟨(ht.cell (p := ⟨B, 0, none⟩) h.lt hne).trans h.c0, (ht.cell (p := ⟨B, 1, none⟩) h.lt hne).trans h.c1⟩

set_option maxRecDepth 100000 in
set_option maxHeartbeats 8000000 in
theorem walkStampBytesC (w : World) (p q : Int) (hp : p ≤ 9223372036854775807) (hq : q ≤ 9223372036854775807) (v : Value) (l : List UInt8) (hs : Sl w v l) (t : Int) (ht : Tab w) :
    Calls Tryd.prog 4 #[.agg #[.int .i64 p, .int .i64 q], v, .int .i64 t] w fun e w' => e = .returned (.bool true) ∧ Below w.heap.size w w' := by
  have hv : ∃ ao c, v = .slice ao l.length c ∧ l.length ≤ c ∧ c ≤ maxLen := by obtain ⟨ao, c, rfl, h1, h2, _⟩ := hs; exact ⟨_, _, rfl, h1, h2⟩
  obtain ⟨ao, c, rfl, hlc, hcm⟩ := hv
  unfold maxLen at hcm
  have sa := At.new w p q 23
  have R : Below w.heap.size w (w.alloc (.cells #[.int .i64 p, .int .i64 q] 23)) := by go_grown
  have hs0 := hs.below R (Nat.le_refl _)
  by_cases h200 : 200 < l.length
  · go_enter Tryd.func4, Tryd.ntmps4
    go_wp2_with fail
    refine (alive_any _ (ht.below R)).mono ?_
    rintro e w1 ⟨rfl, hb⟩
    replace R := R.trans (hb.mono R.size)
    clear hb sa hs0
    go_wp2
    go_ret
    exact ⟨rfl, R⟩
  · go_enter Tryd.func4, Tryd.ntmps4
    go_wp2_with fail
    refine (open_any _ _ _ hs0 (by omega)).mono ?_
    rintro e w1 ⟨N, rfl, hN, hr1, hb⟩
    have hnN : w.heap.size < N := Nat.lt_of_lt_of_le sa.lt hN
    replace sa := sa.below hb (Nat.le_refl _)
    have hs1 := hs0.below hb (Nat.le_refl _)
    replace R := R.trans (hb.mono R.size)
    clear hb hs0 hN
    go_wp2_with fail
    refine (refopen_any ao l.length c _).mono ?_
    rintro e w2 ⟨M, rfl, hM, hm2, hb⟩
    have hNM : N < M := Nat.lt_of_lt_of_le hr1.lt hM
    replace sa := sa.below hb (Nat.le_refl _)
    have hs2 := hs1.below hb (Nat.le_refl _)
    have hr2 := hr1.below hb (Nat.le_refl _)
    replace R := R.trans (hb.mono R.size)
    clear hb hs1 hr1 hM
    go_wp2_with fail
    go_loopw [9] (fun i wr => ∃ (k j : Nat) (bad : Bool), i = .int .i64 k ∧ k ≤ 10 ∧ j ≤ l.length ∧ Rd wr N (l.drop j) ∧ RefRd wr M (.slice ao l.length c) j bad ∧ Sl wr (.slice ao l.length c) l ∧ At wr w.heap.size p q ∧ Below w.heap.size w wr) (fun i _ => 10 - (intOf i).toNat)
    case atStart => exact ⟨0, 0, false, rfl, by decide, Nat.zero_le _, hr2, hm2, hs2, sa, R⟩
    case round =>
      clear sa R hs2 hr2 hm2
      obtain ⟨k, j, bad, rfl, hk, hj, hr, hm, hs', sa, R⟩ := hrel
      by_cases hlt : (k : Int) < t ∧ k < 10
      · obtain ⟨hkt, hk10⟩ := hlt
        obtain ⟨X, Y, E, L, hrd⟩ : ∃ (X Y : Nat) (E : Int) (L : List UInt8), rdS (l.drop j) = (X, Y, E, L) := ⟨(rdS (l.drop j)).1, (rdS (l.drop j)).2.1, (rdS (l.drop j)).2.2.1, (rdS (l.drop j)).2.2.2, rfl⟩
        have hG := get_any N (l.drop j) wr hr (by rw [List.length_drop]; omega)
        rw [hrd] at hG
        have Hrd := hide hrd
        clear hrd
        go_wp2_with fail
        refine hG.mono ?_
        rintro e w3 ⟨rfl, hr3, hv3⟩
        replace sa := sa.moved hv3 (by omega)
        replace hs' := hv3.sl hr hs'
        replace hm := hm.moved hv3 (by omega)
        replace R := R.trans (hv3.below (by omega) R.size)
        clear hG hv3 hr
        have hMl := hm.lt
        have hA : Below w3.heap.size w3 (w3.alloc (.cells #[.int .i64 X, .int .i64 Y] 23)) := (Below.refl _ _).alloc (Nat.le_refl _) _
        replace R := R.alloc R.size (.cells #[.int .i64 X, .int .i64 Y] 23)
        replace sa := sa.below hA (Nat.le_refl _)
        replace hs' := hs'.below hA (Nat.le_refl _)
        replace hm := hm.below hA (Nat.le_refl _)
        replace hr3 := hr3.below hA (Nat.le_refl _)
        have sx := At.new w3 X Y 23
        clear hA
        have hG := refget_any M j bad ao c l _ hm hs' (by omega) hj
        go_wp2_with fail
        refine hG.mono ?_
        rintro e w4 ⟨k', bad', he, hL, hkl, hm5, ht5⟩
        rw [unhide Hrd] at he hL
        subst he
        simp only at hL
        obtain ⟨m, hmj⟩ : ∃ m, j + k' = m := ⟨_, rfl⟩
        rw [hmj] at hL hkl hm5
        clear hmj
        replace sa := sa.turned ht5 (by omega)
        replace sx := sx.turned ht5 (by omega)
        replace hr3 := hr3.turned ht5 hm ⟨_, _, _, rfl⟩ (by omega)
        replace hs' := hs'.turned ht5 hm ⟨_, _, _, rfl⟩
        replace R := R.trans (ht5.below (by omega) R.size)
        clear hG ht5 hm Hrd
        have hA : Below w4.heap.size w4 (w4.alloc (.cells #[.int .i64 X, .int .i64 Y] 23)) := (Below.refl _ _).alloc (Nat.le_refl _) _
        replace R := R.alloc R.size (.cells #[.int .i64 X, .int .i64 Y] 23)
        replace sa := sa.below hA (Nat.le_refl _)
        replace sx := sx.below hA (Nat.le_refl _)
        replace hs' := hs'.below hA (Nat.le_refl _)
        replace hm5 := hm5.below hA (Nat.le_refl _)
        replace hr3 := hr3.below hA (Nat.le_refl _)
        have sy := At.new w4 X Y 23
        clear hA
        have g : (l.length : Int) - (m : Int) = (L.length : Int) := by rw [hL, List.length_drop]; omega
        have hLl : L.length ≤ 1099511627776 := by rw [hL, List.length_drop]; omega
        have HL := hide hL
        clear hL
        go_wp2_with fail
        generalize w4.alloc (.cells #[.int .i64 X, .int .i64 Y] 23) = W at *
        generalize w3.heap.size = n3 at *
        generalize w4.heap.size = n4 at *
        have kx0 := fun i : Later W => (sx.below i.below (Nat.le_refl _)).c0
        have kx1 := fun i : Later W => (sx.below i.below (Nat.le_refl _)).c1
        have ky0 := fun i : Later W => (sy.below i.below (Nat.le_refl _)).c0
        have ky1 := fun i : Later W => (sy.below i.below (Nat.le_refl _)).c1
        have kM := fun i : Later W => (hm5.below i.below (Nat.le_refl _)).cells.2.1
        have kl := hide (fun i : Later W => (left_any N L i.val (hr3.below i.below (Nat.le_refl _)) hLl).mono (fun e w' h => (⟨h.1, h.2 ▸ Below.refl _ _⟩ : e = _ ∧ Below i.val.heap.size i.val w')))
        have inst : Nonempty (Later W) := ⟨⟨W, Below.refl _ _⟩⟩
        have Hr3 := hide hr3
        have Hm5 := hide hm5
        have Hs' := hide hs'
        have Hsa := hide sa
        have HR := hide R
        clear hr3 hm5 hs' sa R sx sy
        refine wp_region_later (by kernel_rfl) (by kernel_rfl) ?_
        repeat (first
          | go_big_quiet_step ((go_at_call 27; exact calls_later (unhide kl _)))
          | quiet_step (fail))
        refine wpQuiet_nil ?_
        intro w' hw'
        obtain ⟨i, rfl⟩ := hw'
        go_wp2
        go_roundw
        case rel => exact ⟨k + 1, m, bad', by go_num, by omega, hkl, by rw [← unhide HL]; exact (unhide Hr3).below i.below (Nat.le_refl _), (unhide Hm5).below i.below (Nat.le_refl _), (unhide Hs').below i.below (Nat.le_refl _), (unhide Hsa).below i.below (Nat.le_refl _), (unhide HR).trans (i.below.mono (unhide HR).size)⟩
        case measure => simp [intOf]; omega
      · have hx : (¬ (k : Int) < t) ∨ ((k : Int) < t ∧ ¬ (k : Int) < 10) := by omega
        clear hlt
        have h18 := encS_len p q hp hq
        have hAdd : ∀ w, (Op.stringOp .add ⟨l.toArray⟩ ⟨(encS p q).toArray⟩).run Tryd.prog w = .ok (.string ⟨(l ++ encS p q).toArray⟩) w := fun w => run_string_add_lists w _ _ (by omega) (by omega)
        rcases hx with hx | ⟨hx1, hx⟩
        all_goals
          go_wp2_with fail
          refine (get_nil _).mono ?_
          rintro e w3 ⟨rfl, hb⟩
          replace sa := sa.below hb (Nat.le_refl _)
          replace hs' := hs'.below hb (Nat.le_refl _)
          replace R := R.trans (hb.mono R.size)
          clear hb hr hm
          have hA : Below w3.heap.size w3 (w3.alloc (.cells #[.int .i64 0, .int .i64 0] 23)).drew := ((Below.refl _ _).alloc (Nat.le_refl _) _).drew
          replace R := (R.alloc R.size (.cells #[.int .i64 0, .int .i64 0] 23)).drew
          replace sa := sa.below hA (Nat.le_refl _)
          replace hs' := hs'.below hA (Nat.le_refl _)
          have hT := ht.below R
          clear hA
          have k0 := sa.c0
          have k1 := sa.c1
          have cb := conv_sl _ _ _ hs'
          have z0 := R.size
          have Hs' := hide hs'
          have Hsa := hide sa
          have HT := hide hT
          clear hs' sa hT
          go_wp2_with fail
          go_region_held (fun w' => w'.cell? ⟨w.heap.size, 0, none⟩ = some (.int .i64 p) ∧ w'.cell? ⟨w.heap.size, 1, none⟩ = some (.int .i64 q) ∧ (convert 35 9 (.slice ao l.length c)).run Tryd.prog w' = .ok (.string ⟨l.toArray⟩) w') (go_keep)
            (first | (go_at_call 12; refine (alive_any _ (unhide HT)).mono ?_; rintro e wa ⟨rfl, hba⟩; have ka0 := ((unhide Hsa).below hba (Nat.le_refl _)).c0; have ka1 := ((unhide Hsa).below hba (Nat.le_refl _)).c1; have Hsl := hide ((unhide Hs').below hba (Nat.le_refl _)); have ca := conv_sl wa _ _ (unhide Hsl); have za := hba.size) | (go_at_call 28; refine (put_stp _ l p q _ (unhide Hsl) (by omega) hp hq).mono ?_; rintro e wp ⟨rp, rfl, hop, hbp⟩; have kp0 := (At.below ⟨ka0, ka1⟩ hbp (Nat.le_refl _)).c0; have kp1 := (At.below ⟨ka0, ka1⟩ hbp (Nat.le_refl _)).c1; have Hsp := hide ((unhide Hsl).below hbp (Nat.le_refl _)); have cp := conv_sl wp _ _ (unhide Hsp); have cpp := conv_sl wp _ _ hop.sl; have Hop := hide hop; clear hop; have zp := hbp.size) | (go_at_call 29; refine (refbytes_any p q _ hp hq).mono ?_; rintro e wb ⟨rb, rfl, hob, hbb⟩; have kb0 := (At.below ⟨kp0, kp1⟩ hbb (Nat.le_refl _)).c0; have kb1 := (At.below ⟨kp0, kp1⟩ hbb (Nat.le_refl _)).c1; have cb2 := conv_sl wb _ _ ((unhide Hsp).below hbb (Nat.le_refl _)); have cbp := conv_sl wb _ _ ((unhide Hop).sl.below hbb (Nat.le_refl _)); have cbb := conv_sl wb _ _ hob.sl; have Hob := hide hob; clear hob))
          all_goals
            go_wp2
            go_ret
            exact ⟨rfl, ((R.trans (hba.mono z0)).trans (hbp.mono (by omega))).trans (hbb.mono (by omega))⟩

theorem walkStampBytes {w : World} (ht : Tab w) (v0 : Value) (z0 : Int × Int) (h0 : Stm v0 z0) (v1 : Value) (l : List UInt8) (hs : Sl w v1 l) (t : Int) (wt : (Lit.int .i64 t).wf = true) :
    Calls Tryd.prog 4 #[v0, v1, .int .i64 t] w fun e w' => e = .returned (.bool true) ∧ Below w.heap.size w w' := by
  obtain ⟨rfl, a0, a1, b0, b1⟩ := h0
  exact walkStampBytesC w z0.1 z0.2 a1 b1 v1 l hs t ht

end Go.Proofs.YtjeefpibhkngiaaDoor
