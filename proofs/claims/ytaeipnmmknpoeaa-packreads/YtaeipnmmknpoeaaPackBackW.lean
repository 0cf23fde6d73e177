/-
  The law PackBack: its walk.
-/
import Derived.Test.YtaeipnmmknpoeaaBack
namespace Go.Proofs.Ytaeipnmmknpoeaa
open Go.RowKit
set_option linter.unusedVariables false

theorem ownsRow_below {B C : Nat} {w w' : World} {e : TypeId} {size : Nat} {v : Value} {n : Nat} {xs : List Value} (h : w.ownsRow B e size v n xs) (hb : Below C w w') (hC : w.heap.size ≤ C) : w'.ownsRow B e size v n xs := by
  refine ⟨h.1, ?_⟩
  rcases h.2 with h0 | ⟨g, cap, cur, rfl, h1, hg, rest⟩
  · exact .inl h0
  · exact .inr ⟨g, cap, cur, rfl, h1, by rw [hb.block g (Nat.lt_of_lt_of_le (Array.getElem?_eq_some_iff.1 hg).1 hC)]; exact hg, rest⟩

theorem own_apart {B C : Nat} {w0 w1 w2 : World} {r u : Value} {l : List UInt8} {e : TypeId} {size n : Nat} {xs : List Value} (ho : Own C w1 r l) (hod : w0.ownsRow B e size u n xs) (hC : w0.heap.size ≤ C) (o : Obj)
    (hg : (w1.alloc o).grownBy w2 u.ownBlock) : Own C w2 r l := by
  refine World.ownsRow.kept (World.ownsRow.alloc ho o) hg ?_
  cases hr : r.ownBlock with
  | none => exact .inl rfl
  | some q =>
    refine .inr fun e => ?_
    have q1 := (World.ownsRow.lt ho q hr).1
    have q2 := (World.ownsRow.lt hod q e.symm).2
    omega

theorem Stays.cell {R : Nat} {w w' : World} (h : Stays R w w') {p : Addr} (hp : p.block ≠ R) : w'.cell? p = w.cell? p := by
  rcases h with rfl | ⟨x, rfl⟩
  · rfl
  · exact World.cell?_setCell_other w _ _ _ (fun e => hp (by rw [← e]))

theorem Acts.stays {R : Nat} {w w' : World} {v : Value} {xs : List ActV} {l : List UInt8} (h : Acts w v xs) (hy : Stays R w w') (hr : Rd w R l) : Acts w' v xs := by
  obtain ⟨ao, c, rfl, h1, h2, h3⟩ := h
  refine ⟨ao, c, rfl, h1, h2, fun i hi => ?_⟩
  obtain ⟨h4, h5, b, o, h6, c0, c1, c2, c3⟩ := h3 i hi
  refine ⟨h4, h5, b, o, h6, ?_⟩
  rcases hy with rfl | ⟨x, rfl⟩
  · exact ⟨c0, c1, c2, c3⟩
  · obtain ⟨ao', n', c', hc, _, _⟩ := hr
    have each : ∀ p u, w.cell? p = some u → (∀ ao n c, u ≠ .slice ao n c) → (w.setCell ⟨R, 0, none⟩ x).cell? p = some u := fun p u hp hu => by
      rw [World.cell?_setCell_other]
      · exact hp
      · intro e
        rw [e, hp] at hc
        injection hc with hc
        exact hu _ _ _ hc
    exact ⟨each _ _ c0 (by simp), each _ _ c1 (by simp), each _ _ c2 (by simp), each _ _ c3 (by simp)⟩

theorem str_back' (s : ByteArray) : (⟨s.data.toList.toArray⟩ : ByteArray) = s := by
  cases s; simp

theorem bytes_len (ds : List ActV) (h : ∀ a ∈ ds, 0 ≤ a.n ∧ a.n ≤ 9223372036854775807 ∧ a.s.size ≤ 400) : (ds.flatMap ActV.bytes).length ≤ ds.length * 409 := by
  induction ds with
  | nil => simp
  | cons a r ih =>
    have h1 := h a (by simp)
    have h2 := ih (fun b hb => h b (by simp [hb]))
    have h3 := a.bytes_len h1.2.1 h1.2.2
    rw [List.flatMap_cons, List.length_append, List.length_cons]
    omega

set_option maxRecDepth 100000 in
set_option maxHeartbeats 1000000 in
theorem walkPackBack (w : World) (v : Value) (xs : List ActV) (hx : Acts w v xs) :
    Calls Try.prog 5 #[v] w fun e w' => e = .returned (.bool true) ∧ Below w.heap.size w w' := by
  have Hx := hide hx
  obtain ⟨ao, c, rfl, hxc, hxm, hxe⟩ := hx
  unfold maxLen at hxm
  obtain ⟨i0, hi, hz0, hz1, hz2⟩ := info_parts Try.infoAct
  have He := hide hxe
  clear hxe
  go_enter Try.func5, Try.ntmps5
  go_wp2_with fail
  go_loopw [3, 4, 5] (fun vb vd i wr => ∃ (k : Nat) (ds : List ActV), i = .int .i64 k ∧ k ≤ xs.length ∧ k ≤ 60 ∧ ds.length ≤ k ∧ (∀ a ∈ ds, 0 ≤ a.n ∧ a.n ≤ 9223372036854775807 ∧ a.s.size ≤ 400) ∧
      Sl wr vb (ds.flatMap ActV.bytes) ∧ OwnActs w.heap.size wr vd ds ∧ Below w.heap.size w wr) (fun _ _ i _ => 60 - (intOf i).toNat)
  case atStart => exact ⟨0, [], rfl, Nat.zero_le _, by decide, Nat.le_refl _, fun a ha => (by cases ha), Sl.nil _, World.ownsRow_nil _ _ _ _, Below.refl _ _⟩
  case round =>
    obtain ⟨k, ds, rfl, hk1, hk2, hdk, hds, hsb, hod, hbel⟩ := hrel
    have Hds := hide hds
    clear hds
    by_cases hlt : k < xs.length ∧ k < 60
    · obtain ⟨hl1, hl2⟩ := hlt
      obtain ⟨a, ha⟩ : ∃ a, Hid (a = xs[k]) := ⟨xs[k], Eq.refl _⟩
      have hw := (unhide Hx).below hbel (Nat.le_refl _)
      obtain ⟨ao', c', e, _, _, hcell⟩ := hw
      injection e with e1 e2 e3
      subst e1 e3
      obtain ⟨hn, hss, b, o, rfl, c0, c1, c2, c3⟩ := hcell k hl1
      rw [← unhide ha] at hn hss c0 c1 c2 c3
      have hsz := hbel.size
      clear hcell e2 He
      unfold maxLen at hss
      by_cases hok : a.s.size ≤ 400
      · by_cases hpos : 0 ≤ a.n
        · have hlen := bytes_len ds (unhide Hds)
          go_wp2_with fail
          refine (put_any a _ _ _ hsb (by omega) hn hok).mono ?_
          rintro e w1 ⟨r1, rfl, ho1, hb1⟩
          have hod1 : OwnActs w.heap.size w1 _ ds := ownsRow_below hod hb1 (Nat.le_refl _)
          have hbl : b < wr.heap.size := World.block_lt_of_cell? wr _ c0
          have d0 := (hb1.cell (p := ⟨b, o + k * 4, none⟩) hbl).trans c0
          have d1 := (hb1.cell (p := ⟨b, o + k * 4 + 1, none⟩) hbl).trans c1
          have d2 := (hb1.cell (p := ⟨b, o + k * 4 + 2, none⟩) hbl).trans c2
          have d3 := (hb1.cell (p := ⟨b, o + k * 4 + 3, none⟩) hbl).trans c3
          have hbel1 : Below w.heap.size w w1 := hbel.trans (hb1.mono hsz)
          have hsz1 := hbel1.size
          clear c0 c1 c2 c3 hb1 hsb
          go_wp2_with (at_builtin; refine wpList_append_own _ rfl (.tmp 46) (.tmp 51) 22 rfl w.heap.size 25 i0 _ 4 40 Try.underlying22 hi hz0 hz1 hz2 rfl (by decide) _ _ _ rfl (World.ownsRow.alloc hod1 _) ⟨w1.heap.size, 0, none⟩ 1 1 (actCells [a]) rfl rfl ?h1 (actCells_one a) ?h2 ?h3 ?h4 ?_)
          case h1 => exact cell_act w1 a
          case h2 => unfold maxLen; omega
          case h3 => omega
          case h4 => simp; omega
          intro v' w2 ho2 hg2 _
          have R1 : OwnActs w.heap.size w2 v' (ds ++ [a]) := by
            unfold OwnActs actCells
            rw [List.flatMap_append, List.length_append]
            exact ho2
          have R2 : Below w.heap.size w w2 := (hbel1.alloc hsz1 _).grown hg2 (by simp; omega) (fun k hk => (World.ownsRow.lt hod1 k hk).1)
          have R3 : Sl w2 r1 ((ds ++ [a]).flatMap ActV.bytes) := by
            rw [List.flatMap_append]
            have h5 := own_apart ho1 hod (Nat.le_refl _) _ hg2
            simpa using h5.sl
          clear ho2 hg2 hod1 ho1 hod
          go_wp2
          go_roundw
          case rel => 
            refine ⟨k + 1, ds ++ [a], by go_num, by omega, by omega, by rw [List.length_append]; simp; omega, fun b hb => ?_, R3, R1, R2⟩
            rw [List.mem_append] at hb
            rcases hb with hb | hb
            · exact unhide Hds b hb
            · simp at hb; subst hb; exact ⟨hpos, hn, hok⟩
          case measure => simp [intOf]; omega
        · go_wp2
          go_roundw
          case rel => exact ⟨k + 1, ds, by go_num, by omega, by omega, by omega, unhide Hds, hsb, hod, hbel⟩
          case measure => simp [intOf]; omega
      · go_wp2
        go_roundw
        case rel => exact ⟨k + 1, ds, by go_num, by omega, by omega, by omega, unhide Hds, hsb, hod, hbel⟩
        case measure => simp [intOf]; omega
    · have hlen := bytes_len ds (unhide Hds)
      have hact := hod.acts (fun a ha => ⟨(unhide Hds a ha).2.1, by have := (unhide Hds a ha).2.2; unfold maxLen; omega⟩)
      obtain ⟨ao2, c2, rfl, h2c, h2m, _⟩ := id hact
      have Hact := hide hact
      clear hact He hxc
      unfold maxLen at h2m
      have hsz := hbel.size
      go_wp2_with fail
      all_goals
        refine (open_any _ _ _ hsb (by omega)).mono ?_
        rintro e w1 ⟨R, rfl, hR, hr1, hb1⟩
        have Hact1 := hide ((unhide Hact).below hb1 (Nat.le_refl _))
        have hbel1 : Below w.heap.size w w1 := hbel.trans (hb1.mono hsz)
        clear hb1 Hact hbel hsb hod
        go_wp2_with fail
        go_loopw [7] (fun i wq => ∃ k : Nat, i = .int .i64 k ∧ k ≤ ds.length ∧ Rd wq R ((ds.drop k).flatMap ActV.bytes) ∧ Acts wq (.slice ao2 ds.length c2) ds ∧ Below w.heap.size w wq) (fun i _ => ds.length - (intOf i).toNat)
        case atStart => exact ⟨0, rfl, Nat.zero_le _, hr1, unhide Hact1, hbel1⟩
        case round =>
          obtain ⟨q, rfl, hq, hrd, hac, hbq⟩ := hrel
          have hq60 : ds.length ≤ 60 := by omega
          by_cases hlt2 : q < ds.length
          · obtain ⟨a, ha⟩ : ∃ a, Hid (a = ds[q]) := ⟨ds[q], Eq.refl _⟩
            have hrest : (ds.drop q).flatMap ActV.bytes = a.bytes ++ (ds.drop (q + 1)).flatMap ActV.bytes := by rw [List.drop_eq_getElem_cons hlt2, List.flatMap_cons, ← unhide ha]
            have hda := unhide Hds a (by rw [unhide ha]; exact List.getElem_mem _)
            have hb0 : Below wr.heap.size wr (wr.alloc (.cells #[.int .i64 a.kind, .int .i64 a.n, .bool a.f, .string a.s] 25)) := (Below.refl _ _).alloc (Nat.le_refl _) _
            have hrd1 := hrd.below hb0 (Nat.le_refl _)
            have hac1 := hac.below hb0 (Nat.le_refl _)
            have hbq1 := hbq.trans (hb0.mono hbq.size)
            have hlen2 : (a.bytes ++ (ds.drop (q + 1)).flatMap ActV.bytes).length ≤ 1099511627776 := by
              rw [← hrest]
              have := bytes_len (ds.drop q) (fun b hb => unhide Hds b (List.mem_of_mem_drop hb))
              rw [List.length_drop] at this
              omega
            rw [hrest] at hrd1
            obtain ⟨ao', c', e, _, _, hcell⟩ := hac
            injection e with e1 e2 e3
            subst e1 e3
            obtain ⟨_, _, b, o, rfl, c0, c1, c2', c3⟩ := hcell q hlt2
            rw [← unhide ha] at c0 c1 c2' c3
            have hrl := hrd.lt
            obtain ⟨rest, Hrest⟩ : ∃ rest, Hid ((ds.drop (q + 1)).flatMap ActV.bytes = rest) := ⟨_, Eq.refl _⟩
            rw [unhide Hrest] at hrd1 hlen2
            have Hrd1 := hide hrd1
            have Hac1 := hide hac1
            have Hbq1 := hide hbq1
            clear hcell e2 hrest hrd hb0 hrd1 hac1 hbq1 hbq
            have hRl : R < wr.heap.size := by have := hrl; omega
            by_cases hk1 : a.kind = 1
            · have hby : a.bytes = enc a.n.toNat := if_pos hk1
              have hN := rnumber_any R _ 9223372036854775807 _ (unhide Hrd1) hlen2
              rw [hby, rdN_enc _ _ _ (by omega) (by omega)] at hN
              simp only [Int.toNat_of_nonneg hda.1] at hN
              have HN := hide hN
              have kb : (a.kind == 1) = true := by simpa using hk1
              clear hN hby hlen2 hk1
              go_wp2_with fail
              refine (unhide HN).mono ?_
              rintro e w2 ⟨rfl, hr2, hy2⟩
              have d1 := hy2.cell (p := ⟨wr.heap.size, 1, none⟩) (by simp; omega)
              have d2 := hy2.cell (p := ⟨wr.heap.size, 2, none⟩) (by simp; omega)
              have d3 := hy2.cell (p := ⟨wr.heap.size, 3, none⟩) (by simp; omega)
              simp only [World.cell?_alloc_new] at d1 d2 d3
              simp at d1 d2 d3
              have R1 := hide hr2
              have R2 := hide ((unhide Hac1).stays hy2 (unhide Hrd1))
              have R3 := hide ((unhide Hbq1).trans (hy2.below (by omega)))
              clear hr2 hy2 c0 c1 c2' c3
              go_wp2
              go_roundw
              case rel => exact ⟨q + 1, by go_num, by omega, by rw [unhide Hrest]; exact unhide R1, unhide R2, unhide R3⟩
              case measure => simp [intOf]; omega
            · have k1 : (a.kind == 1) = false := by simpa using hk1
              by_cases hk2 : a.kind = 2
              · have hby : a.bytes = encF a.f := by unfold ActV.bytes; rw [if_neg hk1, if_pos hk2]
                have hN := rflag_any R _ _ (unhide Hrd1) hlen2
                rw [hby, rdF_enc] at hN
                have HN := hide hN
                have kb : (a.kind == 2) = true := by simpa using hk2
                clear hN hby hlen2 hk2 hk1
                go_wp2_with fail
                refine (unhide HN).mono ?_
                rintro e w2 ⟨rfl, hr2, hy2⟩
                have d1 := hy2.cell (p := ⟨wr.heap.size, 1, none⟩) (by simp; omega)
                have d2 := hy2.cell (p := ⟨wr.heap.size, 2, none⟩) (by simp; omega)
                have d3 := hy2.cell (p := ⟨wr.heap.size, 3, none⟩) (by simp; omega)
                simp only [World.cell?_alloc_new] at d1 d2 d3
                simp at d1 d2 d3
                have R1 := hide hr2
                have R2 := hide ((unhide Hac1).stays hy2 (unhide Hrd1))
                have R3 := hide ((unhide Hbq1).trans (hy2.below (by omega)))
                clear hr2 hy2 c0 c1 c2' c3
                go_wp2
                go_roundw
                case rel => exact ⟨q + 1, by go_num, by omega, by rw [unhide Hrest]; exact unhide R1, unhide R2, unhide R3⟩
                case measure => simp [intOf]; omega
              · have k2 : (a.kind == 2) = false := by simpa using hk2
                have hby : a.bytes = encT a.s := by unfold ActV.bytes; rw [if_neg hk1, if_neg hk2]
                have hN := rtext_any R _ a.s.size _ (unhide Hrd1) hlen2
                rw [hby, rdT_enc _ _ _ (by omega) (by omega)] at hN
                simp only [str_back'] at hN
                have HN := hide hN
                clear hN hby hlen2 hk2 hk1
                go_wp2_with fail
                refine (unhide HN).mono ?_
                rintro e w2 ⟨rfl, hr2, hy2⟩
                have d1 := hy2.cell (p := ⟨wr.heap.size, 1, none⟩) (by simp; omega)
                have d2 := hy2.cell (p := ⟨wr.heap.size, 2, none⟩) (by simp; omega)
                have d3 := hy2.cell (p := ⟨wr.heap.size, 3, none⟩) (by simp; omega)
                simp only [World.cell?_alloc_new] at d1 d2 d3
                simp at d1 d2 d3
                have R1 := hide hr2
                have R2 := hide ((unhide Hac1).stays hy2 (unhide Hrd1))
                have R3 := hide ((unhide Hbq1).trans (hy2.below (by omega)))
                clear hr2 hy2 c0 c1 c2' c3
                go_wp2
                go_roundw
                case rel => exact ⟨q + 1, by go_num, by omega, by rw [unhide Hrest]; exact unhide R1, unhide R2, unhide R3⟩
                case measure => simp [intOf]; omega
          · have hz : ds.drop q = [] := List.drop_eq_nil_of_le (by omega)
            rw [hz, List.flatMap_nil] at hrd
            go_wp2_with fail
            refine (alive_any _).mono ?_
            rintro e w2 ⟨rfl, hb2⟩
            have hrd2 := hrd.below hb2 (Nat.le_refl _)
            have R3 := hide (hbq.trans (hb2.mono hbq.size))
            clear hb2 hac hbq hrd
            go_wp2_with fail
            refine (end_any R _ _ hrd2 (by decide)).mono ?_
            rintro e w3 ⟨rfl, rfl⟩
            go_wp2_with fail
            refine (left_any R _ _ hrd2 (by decide)).mono ?_
            rintro e w3 ⟨rfl, rfl⟩
            go_wp2
            go_ret
            exact ⟨rfl, unhide R3⟩

end Go.Proofs.Ytaeipnmmknpoeaa
