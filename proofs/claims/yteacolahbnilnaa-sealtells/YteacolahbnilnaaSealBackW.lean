/-
  The law SealBack: its walk.
-/
import Derived.Test.YteacolahbnilnaaSame
namespace Go.Proofs.Yteacolahbnilnaa
open Go.RowKit
set_option linter.unusedVariables false

theorem whole_fr {x : List UInt8} (h : Fits x) : whole (fr x) = some x := by
  have := fst_fr h.1 h.2 []
  rw [List.append_nil] at this
  unfold whole
  rw [this]
  simp [fr_length]

/-- Slices of the caller's, in a row of the call's own. -/
def Held (w : World) (wr : World) (v : Value) (ds : List (List UInt8)) : Prop :=
  ∃ vs, wr.ownsRow w.heap.size 22 1 v ds.length vs ∧ ∀ (i : Nat) (u : Value) (x : List UInt8), vs[i]? = some u → ds[i]? = some x → Sl w u x

theorem Held.bss {w wr : World} {v : Value} {ds : List (List UInt8)} (h : Held w wr v ds) (hb : Below w.heap.size w wr) : Bss wr v ds := by
  obtain ⟨vs, h1, h2⟩ := h
  exact bss_row h1 fun i u x hu hx => (h2 i u x hu hx).below hb (Nat.le_refl _)

theorem Held.later {w wr w' : World} {v : Value} {ds : List (List UInt8)} (h : Held w wr v ds) (hb : Below wr.heap.size wr w') : Held w w' v ds := by
  obtain ⟨vs, h1, h2⟩ := h
  exact ⟨vs, row_below h1 hb, h2⟩

theorem Held.kept {w wr w' : World} {v bv : Value} {ds : List (List UInt8)} {l : List UInt8} (h : Held w wr v ds) (ho : Own w.heap.size wr bv l) (hg : wr.grownBy w' bv.ownBlock) : Held w w' v ds := by
  obtain ⟨vs, h1, h2⟩ := h
  exact ⟨vs, h1.kept hg (rows_apart h1 ho (by decide)), h2⟩

theorem Own.keptRow {B : Nat} {wr w' : World} {v bv : Value} {l : List UInt8} {k : Nat} {vs : List Value} {B' : Nat} (ho : Own B wr bv l) (h1 : wr.ownsRow B' 22 1 v k vs) (hg : wr.grownBy w' v.ownBlock) : Own B w' bv l :=
  World.ownsRow.kept ho hg (rows_apart ho h1 (by decide))

theorem Own.drewN {B : Nat} {w : World} {v : Value} {l : List UInt8} (h : Own B w v l) (n : Nat) : Own B (w.drewN n) v l := h
theorem Held.drewN {w wr : World} {v : Value} {ds : List (List UInt8)} (h : Held w wr v ds) (n : Nat) : Held w (wr.drewN n) v ds := h

theorem Own.val {B : Nat} {w : World} {v : Value} {l : List UInt8} (h : Own B w v l) : ∃ ao c, v = .slice ao l.length c := by
  obtain ⟨ao, c, rfl, _⟩ := h.sl; exact ⟨_, _, rfl⟩

theorem Held.val {w wr : World} {v : Value} {ds : List (List UInt8)} (h : Held w wr v ds) : ∃ ao c, v = .slice ao ds.length c := by
  obtain ⟨vs, h1, _⟩ := h
  rcases h1.2 with ⟨rfl, h0⟩ | ⟨g, cap, cur, rfl, _⟩
  · exact ⟨none, 0, by rw [h0]⟩
  · exact ⟨_, _, rfl⟩

theorem frs_small {ds : List (List UInt8)} (h : ∀ x ∈ ds, Fits x ∧ x.length ≤ 500) (hn : ds.length ≤ 20) : (frs ds).length ≤ 10160 := by
  rw [frs_length]
  have : ∀ (r : List (List UInt8)), (∀ x ∈ r, x.length ≤ 500) → total r ≤ 508 * r.length := by
    intro r
    induction r with
    | nil => intro _; simp [total]
    | cons x r ih =>
      intro h
      have h1 := h x (by simp)
      have h2 := ih (fun y hy => h y (by simp [hy]))
      rw [total_cons, List.length_cons]
      omega
  have := this ds (fun x hx => (h x hx).2)
  omega

theorem held_snoc {w w3 w4 : World} {ds : List (List UInt8)} {vs : List Value} {v v' u : Value} {x : List UInt8} (hrow : w3.ownsRow w.heap.size 22 1 v ds.length vs)
    (hrec : ∀ (i : Nat) (u : Value) (x : List UInt8), vs[i]? = some u → ds[i]? = some x → Sl w u x) (hs : Sl w u x) (ho : w4.ownsRow w.heap.size 22 1 v' (ds.length + 1) (vs ++ [u])) : Held w w4 v' (ds ++ [x]) := by
  refine ⟨vs ++ [u], by simpa using ho, fun i u' y hu hy => ?_⟩
  have hlen : vs.length = ds.length := by have := hrow.1; omega
  by_cases hi : i < ds.length
  · rw [List.getElem?_append_left (by omega)] at hu hy
    exact hrec i u' y hu hy
  · rw [List.getElem?_append_right (by omega)] at hu hy
    by_cases hi0 : i = ds.length
    · subst hi0
      rw [hlen] at hu
      simp at hu hy
      subst hu; subst hy
      exact hs
    · rw [List.getElem?_eq_none (by simp; omega)] at hy; cases hy

/-- What the loop has gathered. -/
def Gath (w : World) (wr : World) (bv dv : Value) (ds : List (List UInt8)) : Prop :=
  Own w.heap.size wr bv (frs ds) ∧ Held w wr dv ds ∧ (∀ x ∈ ds, Fits x ∧ x.length ≤ 500) ∧ Below w.heap.size w wr

set_option maxRecDepth 100000 in
set_option maxHeartbeats 4000000 in
theorem walkSealBack (w : World) (v0 : Value) (ls : List (List UInt8)) (h0 : Bss w v0 ls) (v1 : Value) (bh : List UInt8) (h1 : Sl w v1 bh) :
    Calls Try.prog 4 #[v0, v1] w fun e w' => e = .returned (.bool true) ∧ Below w.heap.size w w' := by
  have hv0 : ∃ ao c, v0 = .slice ao ls.length c ∧ ls.length ≤ c ∧ c ≤ maxLen := by obtain ⟨ao, c, rfl, h1, h2, _⟩ := h0; exact ⟨_, _, rfl, h1, h2⟩
  obtain ⟨ao, c, rfl, hc1, hc2⟩ := hv0
  have hv1 : ∃ ao c, v1 = .slice ao bh.length c ∧ bh.length ≤ c ∧ c ≤ maxLen := by obtain ⟨ao, c, rfl, h1, h2, _⟩ := h1; exact ⟨_, _, rfl, h1, h2⟩
  obtain ⟨bo, d, rfl, hd1, hd2⟩ := hv1
  unfold maxLen at hc2 hd2
  have H0 := hide h0
  have H1 := hide h1
  clear h0 h1
  obtain ⟨i0, hi, hz0, hz1, hz2⟩ := info_parts Try.infoBytes
  go_enter Try.func4, Try.ntmps4
  go_wp2
  go_loopw [5, 6, 7] (fun bv dv i wr => ∃ (k : Nat) (ds : List (List UInt8)), k ≤ ls.length ∧ k ≤ 20 ∧ i = .int .i64 k ∧ ds.length ≤ k ∧ Gath w wr bv dv ds) (fun _ _ i _ => ls.length - (intOf i).toNat)
  case atStart => exact ⟨0, [], by omega, by omega, rfl, by simp, World.ownsRow_nil _ _ _ _, ⟨[], World.ownsRow_nil _ _ _ _, fun i u x hu => by simp at hu⟩, fun x hx => by simp at hx, Below.refl _ _⟩
  case round =>
    obtain ⟨k, ds, hk, hk20, rfl, hdl, hG⟩ := hrel
    by_cases hlt : k < ls.length ∧ k < 20
    · obtain ⟨hlt1, hlt2⟩ := hlt
      obtain ⟨b, o, rfl⟩ := H0.out.addr (by omega)
      obtain ⟨xa, xc, hcw, hsw⟩ := H0.out.cell k hlt1
      obtain ⟨x, hx⟩ : ∃ x, Hid (ls[k] = x) := ⟨ls[k], Eq.refl ls[k]⟩
      rw [hx.out] at hcw hsw
      have hbw : b < w.heap.size := World.block_lt_of_cell? w _ hcw
      have Hcw := hide hcw
      have hcell := (hG.2.2.2.cell (p := ⟨b, o + k, none⟩) hbw).trans hcw
      have hsx := hsw.below hG.2.2.2 (Nat.le_refl _)
      clear hcw
      by_cases hbig : 500 < x.length
      · have HG := hide hG
        clear hG
        go_wp2
        go_roundw
        case rel => exact ⟨k + 1, ds, by omega, by omega, by go_num, by omega, unhide HG⟩
        case measure => simp [intOf]; omega
      · by_cases hemp : x.length = 0
        · have hxe : x = [] := List.eq_nil_of_length_eq_zero hemp
          have HG := hide hG
          clear hG
          subst hxe
          have hno := frame_no _ [] _ hsx (fun h => by have := h.1; simp at this)
          simp only [List.length_nil] at hcell hsx hno
          go_wp2_with (go_at_call 9; refine hno.mono ?_; rintro e w' ⟨rfl, hw⟩; obtain rfl := hw.symm; clear hw)
          go_roundw
          case rel => exact ⟨k + 1, ds, by omega, by omega, by go_num, by omega, unhide HG⟩
          case measure => simp [intOf]; omega
        · have hpos : 0 < x.length := by omega
          have hfit : Fits x := ⟨by omega, by omega⟩
          obtain ⟨hoB, hH, hF, hB⟩ := hG
          have hzB := hB.size
          go_wp2_with fail
          refine (frame_yes _ x _ hsx hfit).mono ?_
          rintro e w1 ⟨r1, rfl, ho1, hb1⟩
          obtain ⟨fo, fc, rfl⟩ := ho1.val
          have hB1 := hB.trans (hb1.mono hzB)
          have hcell1 := (hB1.cell (p := ⟨b, o + k, none⟩) hbw).trans Hcw.out
          have hsz1 := hb1.size
          go_wp2_with fail
          refine (whole_any _ (fr x) _ ho1.sl (by rw [fr_length]; omega)).mono ?_
          rintro e w2 ⟨⟨hno, _⟩ | ⟨r2, x', hx', rfl, ho2⟩, hb2⟩
          · rw [whole_fr hfit] at hno; cases hno
          rw [whole_fr hfit] at hx'
          obtain rfl : x = x' := by simpa using hx'
          obtain ⟨ra, rc, rfl⟩ := ho2.val
          have hsz2 := hb2.size
          have hB2 := hB1.trans (hb2.mono (by omega))
          have hcell2 := (hB2.cell (p := ⟨b, o + k, none⟩) hbw).trans Hcw.out
          have hb12 : Below wr.heap.size wr w2 := hb1.trans (hb2.mono hsz1)
          have hsx2 := hsw.below hB2 (Nat.le_refl _)
          have hcA := fun nq => conv_sl (w2.drewN nq) _ _ (ho2.sl.drewN nq)
          have hcB := fun nq => conv_sl (w2.drewN nq) _ _ (hsx2.drewN nq)
          have hkI : (k : Int) < (ls.length : Int) := by omega
          have HoB := hide (hoB.later hb12)
          have HH := hide (hH.later hb12)
          have Hf := hide (ho1.later hb2)
          have HB := hide hB2
          have HF := hide hF
          have Hsw := hide hsw
          clear hcell hcell1 hsx hsx2 ho2 ho1 hoB hH hF hB hx' hsw hB1 hB2 hb12 hb1 hb2
          go_wp2_with fail
          go_quiet (fail)
          have hfl := frs_small HF.out (by omega)
          have hfl2 : (fr x).length ≤ 508 := by rw [fr_length]; omega
          go_wp2_with (at_builtin; refine wpList_append_sl _ rfl (.tmp 67) (.tmp 68) rfl w.heap.size ?hB _ _ rfl (HoB.out.drewN nq) _ _ rfl (Hf.out.sl.drewN nq) ?hl ?_)
          case hB => exact HB.out.size
          case hl => omega
          intro bv' w3 ho3 hg3
          have hB3 : Below w.heap.size w w3 := (belowN HB.out nq).grown hg3 HB.out.size (fun k hk => (World.ownsRow.lt HoB.out k hk).1)
          have hH3 : Held w w3 _ ds := (HH.out.drewN nq).kept (HoB.out.drewN nq) hg3
          have hcell3 := (hB3.cell (p := ⟨b, o + k, none⟩) hbw).trans Hcw.out
          have hz3 := hB3.size
          obtain ⟨vs, hrow, hrec⟩ := hH3
          have Hrec := hide hrec
          clear hg3 hrec hcA hcB hcell2
          go_wp2_with (at_builtin; refine wpList_append_own _ rfl (.tmp 70) (.tmp 75) 27 rfl w.heap.size 22 i0 (.slice none 0 0) 1 24 Try.underlying27 hi hz0 hz1 hz2 rfl (by decide) _ _ _ rfl (hrow.alloc _) ⟨w3.heap.size, 0, none⟩ 1 1 [.slice xa x.length xc] rfl rfl (cell_one_new _ _ _) (by simp [Value.oneCell']) ?h3 ?h4 ?h5 ?_)
          case h3 => unfold maxLen; omega
          case h4 => omega
          case h5 => simp; omega
          intro dv' w4 ho4 hg4 _
          have R1 : Own w.heap.size w4 bv' (frs (ds ++ [x])) := by
            rw [frs_snoc]
            exact Own.keptRow (World.ownsRow.alloc ho3 _) (hrow.alloc _) hg4
          have R2 : Held w w4 dv' (ds ++ [x]) := held_snoc hrow (unhide Hrec) Hsw.out ho4
          have R3 : Below w.heap.size w w4 := (hB3.alloc hz3 _).grown hg4 (by simp; omega) (fun k hk => (World.ownsRow.lt hrow k hk).1)
          have R4 : ∀ y ∈ ds ++ [x], Fits y ∧ y.length ≤ 500 := fun y hy => by
            rcases List.mem_append.1 hy with h | h
            · exact HF.out y h
            · simp at h; subst h; exact ⟨hfit, by omega⟩
          have R := hide (show Gath w w4 bv' dv' (ds ++ [x]) from ⟨R1, R2, R4, R3⟩)
          clear R1 R2 R3 R4 ho4 hg4 hrow ho3 hB3 hcell3
          go_wp2
          go_roundw
          case rel => exact ⟨k + 1, ds ++ [x], by omega, by omega, by go_num, by simp; omega, unhide R⟩
          case measure => simp [intOf]; omega
    · obtain ⟨hoB, hH, hF, hB⟩ := hG
      have hfl := frs_small hF (by omega)
      have hsc : ∀ t : List UInt8, t.length ≤ 8 → Scans (frs ds ++ t) ds := fun t ht => Scans.frames t (fun x hx => (hF x hx).1) (fst_short ht)
      obtain ⟨bx, bc', rfl⟩ := hoB.val
      have hl0 := Own.lit0 wr
      have HoB := hide hoB
      have HH := hide hH
      have HB := hide hB
      have Hsc := hide hsc
      have hzB := hB.size
      have hsb : Sl (wr.alloc (.cells #[] 5)) (.slice bx (frs ds).length bc') (frs ds) := (hoB.later ((Below.refl _ wr).alloc (Nat.le_refl _) _)).sl
      have hs1 := H1.out.below hB (Nat.le_refl _)
      have Hs1 := hide hs1
      clear hoB hH hF hB hsc hs1
      have hend : ls.length ≤ k ∨ (k < ls.length ∧ 20 ≤ k) := by omega
      by_cases h8 : 8 < bh.length
      · obtain ⟨t, Hsh, ht⟩ : ∃ t, Hid (Sl wr (.slice bo 8 d) t) ∧ t.length ≤ 8 := ⟨bh.take 8, Hs1.out.take 8 (by omega), by rw [List.length_take]; omega⟩
        rcases hend with hend | ⟨hend, hend2⟩
        all_goals
          go_wp2_with (at_builtin; refine wpList_append_sl _ rfl (.tmp 84) (.tmp 85) rfl wr.heap.size (by simp) _ _ rfl hl0 _ _ rfl hsb (by simp; omega) ?_)
          intro v2 w2 ho2 hg2
          replace ho2 : Own wr.heap.size w2 v2 (frs ds) := ho2
          have hB2 : Below wr.heap.size wr w2 := ((Below.refl _ wr).alloc (Nat.le_refl _) _).grown hg2 (by simp) (fun k hk => (World.ownsRow.lt hl0 k hk).1)
          have hsh2 := Hsh.out.below hB2 (Nat.le_refl _)
          clear hg2
          go_wp2_with (at_builtin; refine wpList_append_sl _ rfl (.tmp 86) (.tmp 87) rfl wr.heap.size hB2.size _ _ rfl ho2 _ _ rfl hsh2 (by omega) ?_)
          intro v3 w3 ho3 hg3
          have hB3 : Below wr.heap.size wr w3 := hB2.grown hg3 hB2.size (fun k hk => (World.ownsRow.lt ho2 k hk).1)
          have hz3 := hB3.size
          clear hg3 hsh2 hB2 ho2
          go_wp2_with fail
          refine (scan_any _ _ ds _ ho3.sl (by rw [List.length_append]; omega) (Hsc.out t ht)).mono ?_
          rintro e w4 ⟨r4, rfl, hrec, hb4⟩
          have hB4 : Below wr.heap.size wr w4 := hB3.trans (hb4.mono hz3)
          obtain ⟨rx, rc, rfl⟩ := hrec.val
          have hz4 := hB4.size
          clear ho3 hb4 hB3
          go_wp2_with fail
          refine (alive_any _).mono ?_
          rintro e w5 ⟨rfl, hb5⟩
          have hB5 : Below wr.heap.size wr w5 := hB4.trans (hb5.mono hz4)
          have hbs1 := hrec.bss.below hb5 (Nat.le_refl _)
          have hbs2 := (HH.out.later hB5).bss (HB.out.trans (hB5.mono hzB))
          obtain ⟨hx, hc', rfl⟩ := HH.out.val
          have HB5 := hide (HB.out.trans (hB5.mono hzB))
          have hlenf := frs_length ds
          have HL := hide hlenf
          clear hB4 hB5 hb5 hrec hlenf
          go_wp2_with fail
          refine (same_yes _ _ ds _ hbs1 hbs2).mono ?_
          rintro e w6 ⟨rfl, q, rfl⟩
          clear hbs1 hbs2
          rw [← HL.out]
          go_wp2
          go_ret
          exact ⟨rfl, belowN (unhide HB5) q⟩
      · obtain ⟨t, Hsh, ht⟩ : ∃ t, Hid (Sl wr (.slice bo bh.length d) t) ∧ t.length ≤ 8 := ⟨bh, Hs1.out, by omega⟩
        rcases hend with hend | ⟨hend, hend2⟩
        all_goals
          go_wp2_with (at_builtin; refine wpList_append_sl _ rfl (.tmp 84) (.tmp 85) rfl wr.heap.size (by simp) _ _ rfl hl0 _ _ rfl hsb (by simp; omega) ?_)
          intro v2 w2 ho2 hg2
          replace ho2 : Own wr.heap.size w2 v2 (frs ds) := ho2
          have hB2 : Below wr.heap.size wr w2 := ((Below.refl _ wr).alloc (Nat.le_refl _) _).grown hg2 (by simp) (fun k hk => (World.ownsRow.lt hl0 k hk).1)
          have hsh2 := Hsh.out.below hB2 (Nat.le_refl _)
          clear hg2
          go_wp2_with (at_builtin; refine wpList_append_sl _ rfl (.tmp 86) (.tmp 87) rfl wr.heap.size hB2.size _ _ rfl ho2 _ _ rfl hsh2 (by omega) ?_)
          intro v3 w3 ho3 hg3
          have hB3 : Below wr.heap.size wr w3 := hB2.grown hg3 hB2.size (fun k hk => (World.ownsRow.lt ho2 k hk).1)
          have hz3 := hB3.size
          clear hg3 hsh2 hB2 ho2
          go_wp2_with fail
          refine (scan_any _ _ ds _ ho3.sl (by rw [List.length_append]; omega) (Hsc.out t ht)).mono ?_
          rintro e w4 ⟨r4, rfl, hrec, hb4⟩
          have hB4 : Below wr.heap.size wr w4 := hB3.trans (hb4.mono hz3)
          obtain ⟨rx, rc, rfl⟩ := hrec.val
          have hz4 := hB4.size
          clear ho3 hb4 hB3
          go_wp2_with fail
          refine (alive_any _).mono ?_
          rintro e w5 ⟨rfl, hb5⟩
          have hB5 : Below wr.heap.size wr w5 := hB4.trans (hb5.mono hz4)
          have hbs1 := hrec.bss.below hb5 (Nat.le_refl _)
          have hbs2 := (HH.out.later hB5).bss (HB.out.trans (hB5.mono hzB))
          obtain ⟨hx, hc', rfl⟩ := HH.out.val
          have HB5 := hide (HB.out.trans (hB5.mono hzB))
          have hlenf := frs_length ds
          have HL := hide hlenf
          clear hB4 hB5 hb5 hrec hlenf
          go_wp2_with fail
          refine (same_yes _ _ ds _ hbs1 hbs2).mono ?_
          rintro e w6 ⟨rfl, q, rfl⟩
          clear hbs1 hbs2
          rw [← HL.out]
          go_wp2
          go_ret
          exact ⟨rfl, belowN (unhide HB5) q⟩

end Go.Proofs.Yteacolahbnilnaa
