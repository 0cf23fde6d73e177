/-
  The law PackWrites: its walk.
-/
import Derived.Test.YtaeipnmmknpoeaaAppend
import Derived.Test.YtaeipnmmknpoeaaPackBackW
namespace Go.Proofs.Ytaeipnmmknpoeaa
open Go.RowKit
set_option linter.unusedVariables false

theorem own_kept2 {B C D : Nat} {w0 w3 w4 : World} {r u : Value} {l m : List UInt8} (ho : Own C w3 r l) (hod : Own B w0 u m) (hC : w0.heap.size ≤ C) (hg : w3.grownBy w4 u.ownBlock) : Own C w4 r l := by
  refine World.ownsRow.kept ho hg ?_
  cases hr : r.ownBlock with
  | none => exact .inl rfl
  | some q =>
    refine .inr fun e => ?_
    have q1 := (World.ownsRow.lt ho q hr).1
    have q2 := (World.ownsRow.lt hod q e.symm).2
    omega

theorem own_pos {B : Nat} {w : World} {r : Value} {l : List UInt8} (h : Own B w r l) (hl : 0 < l.length) : ∃ q, r.ownBlock = some q ∧ B ≤ q ∧ q < w.heap.size := by
  rcases h.2 with ⟨rfl, h0⟩ | ⟨g, cap, cur, rfl, hb, hg, _⟩
  · omega
  · exact ⟨g, rfl, hb, (Array.getElem?_eq_some_iff.1 hg).1⟩

theorem ActV.bytes_pos (a : ActV) : 0 < a.bytes.length := by
  unfold ActV.bytes
  split
  · exact enc_pos _
  · split
    · cases a.f <;> simp [encF]
    · unfold encT; rw [List.length_append]; have := enc_pos a.s.size; omega

set_option maxRecDepth 100000 in
set_option maxHeartbeats 1000000 in
theorem walkPackWrites (w : World) (v : Value) (xs : List ActV) (hx : Acts w v xs) :
    Calls Try.prog 3 #[v] w fun e w' => e = .returned (.bool true) ∧ Below w.heap.size w w' := by
  have Hx := hide hx
  obtain ⟨ao, c, rfl, hxc, hxm, _⟩ := hx
  unfold maxLen at hxm
  go_enter Try.func3, Try.ntmps3
  go_wp2_with fail
  go_loopw [3, 4, 5] (fun vb vc i wr => ∃ (k : Nat) (l : List UInt8), i = .int .i64 k ∧ k ≤ xs.length ∧ k ≤ 60 ∧ l.length ≤ k * 409 ∧ Own w.heap.size wr vb l ∧ Own w.heap.size wr vc l ∧
      (vb.ownBlock = none ∨ vb.ownBlock ≠ vc.ownBlock) ∧ Below w.heap.size w wr) (fun _ _ i _ => 60 - (intOf i).toNat)
  case atStart => exact ⟨0, [], rfl, Nat.zero_le _, by decide, Nat.zero_le _, World.ownsRow_nil _ _ _ _, World.ownsRow_nil _ _ _ _, .inl rfl, Below.refl _ _⟩
  case round =>
    obtain ⟨k, l, rfl, hk1, hk2, hlk, hob, hoc, hdis, hbel⟩ := hrel
    have Hdis := hide hdis
    clear hdis
    by_cases hlt : k < xs.length ∧ k < 60
    · obtain ⟨hl1, hl2⟩ := hlt
      obtain ⟨a, ha⟩ : ∃ a, Hid (a = xs[k]) := ⟨xs[k], Eq.refl _⟩
      have hw := (unhide Hx).below hbel (Nat.le_refl _)
      obtain ⟨ao', c', e, _, _, hcell⟩ := hw
      injection e with e1 e2 e3
      subst e1 e3
      obtain ⟨hn, hss, b, o, rfl, c0, c1, c2, c3⟩ := hcell k hl1
      rw [← unhide ha] at hn hss c0 c1 c2 c3
      have hsz := hbel.size
      clear hcell e2
      unfold maxLen at hss
      by_cases hok : a.s.size ≤ 400
      · have hbl : b < wr.heap.size := World.block_lt_of_cell? wr _ c0
        have hby := a.bytes_len hn hok
        have hbp := a.bytes_pos
        have hcv := conv_sl _ _ _ hob.sl
        go_wp2_with fail
        refine (put_any a _ _ _ hob.sl (by omega) hn hok).mono ?_
        rintro e w1 ⟨r1, rfl, ho1, hb1⟩
        have z1 := hb1.size
        have d0 := (hb1.cell (p := ⟨b, o + k * 4, none⟩) hbl).trans c0
        have d1 := (hb1.cell (p := ⟨b, o + k * 4 + 1, none⟩) hbl).trans c1
        have d2 := (hb1.cell (p := ⟨b, o + k * 4 + 2, none⟩) hbl).trans c2
        have d3 := (hb1.cell (p := ⟨b, o + k * 4 + 3, none⟩) hbl).trans c3
        clear c0 c1 c2 c3 hcv
        go_wp2_with fail
        refine (put_any a _ _ _ (hob.sl.below hb1 (Nat.le_refl _)) (by omega) hn hok).mono ?_
        rintro e w2 ⟨r2, rfl, ho2, hb2⟩
        have z2 := hb2.size
        have c0 := (hb2.cell (p := ⟨b, o + k * 4, none⟩) (by simp; omega)).trans d0
        have c1 := (hb2.cell (p := ⟨b, o + k * 4 + 1, none⟩) (by simp; omega)).trans d1
        have c2 := (hb2.cell (p := ⟨b, o + k * 4 + 2, none⟩) (by simp; omega)).trans d2
        have c3 := (hb2.cell (p := ⟨b, o + k * 4 + 3, none⟩) (by simp; omega)).trans d3
        clear d0 d1 d2 d3
        go_wp2_with fail
        refine (actbytes_any a _ hn hok).mono ?_
        rintro e w3 ⟨r3, rfl, ho3, hb3⟩
        have z3 := hb3.size
        obtain ⟨ao3, cp3, rfl, hc3, hm3, h3, h4⟩ := ho3.sl
        have Hs3 : Hid (Sl w3 (.slice ao3 a.bytes.length cp3) a.bytes) := ⟨ao3, cp3, rfl, hc3, hm3, h3, h4⟩
        obtain ⟨b3, o3, rfl⟩ := (unhide Hs3).addr hbp
        have H4 := hide (h4 _ rfl)
        have B13 : Below wr.heap.size wr w3 := (hb1.trans (hb2.mono z1)).trans (hb3.mono (by omega))
        have p1 := ownsRow_below (ownsRow_below ho1 hb2 (Nat.le_refl _)) hb3 (Nat.le_refl _)
        have p2 := ownsRow_below ho2 hb3 (Nat.le_refl _)
        have pb : Own w.heap.size w3 _ l := ownsRow_below hob B13 (Nat.le_refl _)
        have pc : Own w.heap.size w3 _ l := ownsRow_below hoc B13 (Nat.le_refl _)
        have q1 := own_pos ho1 (by rw [List.length_append]; omega)
        have P1 := hide (show Own wr.heap.size w3 r1 (l ++ a.bytes) from p1)
        have P2 := hide (show Own w1.heap.size w3 r2 (l ++ a.bytes) from p2)
        have PB := hide pb
        have PC := hide pc
        have HC := hide hoc
        have Q1 := hide q1
        have HB13 := hide B13
        clear h3 h4 c0 c1 c2 c3 hb1 hb2 hb3 ho1 ho2 ho3 hob hoc p1 p2 pb pc q1 B13 hc3 hm3
        go_wp2_with (at_builtin; refine wpList_append_ownb _ rfl (.tmp 40) (.tmp 45) rfl w.heap.size ?hB _ l rfl (unhide PC) ⟨b3, o3, none⟩ cp3 a.bytes.length a.bytes rfl rfl (unhide H4) ?hl ?_)
        case hB => omega
        case hl => omega
        intro v' w4 ho4 hg4 hblk
        have t1 := conv_sl _ _ _ (own_kept2 (D := 0) (unhide P1) (unhide HC) (Nat.le_refl _) hg4).sl
        have t2 := conv_sl _ _ _ (own_kept2 (D := 0) (unhide P2) (unhide HC) z1 hg4).sl
        have t3 := conv_sl _ _ _ ho4.sl
        have t4 := conv_sl _ _ _ (Own.sl (l := l) (World.ownsRow.kept (unhide PB) hg4 (unhide Hdis)))
        have R1 : Hid (Own w.heap.size w4 r1 (l ++ a.bytes)) := (own_kept2 (D := 0) (unhide P1) (unhide HC) (Nat.le_refl _) hg4).mono hsz
        have R2 := hide ho4
        have R3 : Hid (r1.ownBlock = none ∨ r1.ownBlock ≠ v'.ownBlock) := by
          obtain ⟨q, hq, hq1, hq2⟩ := unhide Q1
          refine .inr fun e => ?_
          rw [hq] at e
          rcases hblk with h | h
          · rw [h] at e
            have := (World.ownsRow.lt (unhide HC) q e.symm).2
            omega
          · have := h q e.symm
            omega
        have R4 : Hid (Below w.heap.size w w4) := (hbel.trans ((unhide HB13).mono hsz)).grown hg4 (by omega) (fun k hk => (World.ownsRow.lt (unhide HC) k hk).1)
        clear ho4 hg4 hblk PC PB P1 P2 Q1 HC HB13 Hdis H4 Hs3
        go_wp2
        go_roundw
        case rel => exact ⟨k + 1, l ++ a.bytes, by go_num, by omega, by omega, by rw [List.length_append]; omega, unhide R1, unhide R2, unhide R3, unhide R4⟩
        case measure => simp [intOf]; omega
      · go_wp2
        go_roundw
        case rel => exact ⟨k + 1, l, by go_num, by omega, by omega, by omega, hob, hoc, unhide Hdis, hbel⟩
        case measure => simp [intOf]; omega
    · go_wp2_with fail
      all_goals
        refine (alive_any _).mono ?_
        rintro e w1 ⟨rfl, hb1⟩
        have R4 := hbel.trans (hb1.mono hbel.size)
        clear hb1
        go_wp2
        go_ret
        exact ⟨rfl, R4⟩

end Go.Proofs.Ytaeipnmmknpoeaa
