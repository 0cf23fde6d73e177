/-
  The law DiskOwn: its walk.
-/
import Derived.Test.YtdhjogfalkmggaaOwn2
namespace Go.Proofs.Ytdhjogfalkmggaa
open Go.RowKit
set_option linter.unusedVariables false

abbrev tMore : List UInt8 := [109, 111, 114, 101]

/-- The disk and the one that a crash left, side by side. -/
structure Pair (w : World) (S T : Nat → Prop) (W : World) (D X : Nat) (f c f' c' : List UInt8) : Prop where
  d : Dk S W D f c f' c'
  x : Dk T W X f' c' f' c'
  b : Below w.heap.size w W

theorem Pair.other {w : World} {S T U : Nat → Prop} {W W' : World} {D X : Nat} {f c f' c' : List UInt8} (h : Pair w S T W D X f c f' c') (hf : Fr U W W') (h1 : ∀ k, k < W.heap.size → S k → ¬ U k) (h2 : ∀ k, k < W.heap.size → T k → ¬ U k) (h3 : ∀ k, U k → w.heap.size ≤ k) : Pair w S T W' D X f c f' c' :=
  ⟨h.d.other hf h1, h.x.other hf h2, h.b.trans (hf.below h3 h.b.size)⟩

/-- The disk goes on, the one that a crash left does not. -/
structure Pair2 (w : World) (S T : Nat → Prop) (W : World) (D X : Nat) (f c f' c' : List UInt8) : Prop where
  d : Dk S W D f c f' c'
  x : Dk T W X f' c' f' c'
  b : Below w.heap.size w W

theorem Pair2.later {w : World} {S T : Nat → Prop} {W W' : World} {D X : Nat} {f c f' c' : List UInt8} (h : Pair2 w S T W D X f c f' c') (hb : Below W.heap.size W W') : Pair2 w S T W' D X f c f' c' :=
  ⟨h.d.later hb, h.x.later hb, h.b.trans (hb.mono h.b.size)⟩

theorem Pair.later {w : World} {S T : Nat → Prop} {W W' : World} {D X : Nat} {f c f' c' : List UInt8} (h : Pair w S T W D X f c f' c') (hb : Below W.heap.size W W') : Pair w S T W' D X f c f' c' :=
  ⟨h.d.later hb, h.x.later hb, h.b.trans (hb.mono h.b.size)⟩

section
set_option maxRecDepth 100000

set_option maxHeartbeats 1000000 in
theorem own_early {w : World} (v : Value) (b : List UInt8) (hs : Sl w v b) (u : Value) (c : List UInt8) (hu : Sl w u c) (hbig : 200 < b.length ∨ 200 < c.length) :
    Calls Try.prog 5 #[v, u] w fun e w' => e = .returned (.bool true) ∧ Below w.heap.size w w' := by
  obtain ⟨ao, cp, rfl, hc1, hc2, _⟩ := hs
  obtain ⟨bo, d, rfl, hd1, hd2, _⟩ := hu
  unfold maxLen at hc2 hd2
  by_cases hb1 : 200 < b.length
  all_goals
    go_enter Try.func5, Try.ntmps5
    go_wp2_with fail
    refine (alive_any _).mono ?_
    rintro e w1 ⟨rfl, hb1⟩
    have HB := hide hb1
    clear hb1
    go_wp2
    go_ret
    exact ⟨rfl, unhide HB⟩

set_option maxHeartbeats 4000000 in
theorem own_late {w : World} (v : Value) (b : List UInt8) (hs : Sl w v b) (u : Value) (c : List UInt8) (hu : Sl w u c) (hb2 : b.length ≤ 200) (hc2 : c.length ≤ 200) :
    Calls Try.prog 5 #[v, u] w fun e w' => e = .returned (.bool true) ∧ Below w.heap.size w w' := by
  have Hs := hide hs
  have Hu := hide hu
  obtain ⟨ao, cp, rfl, hc1, hcm, _⟩ := hs
  obtain ⟨bo, d, rfl, hd1, hdm, _⟩ := hu
  unfold maxLen at hcm hdm
  have hbI : ¬ 200 < b.length := by omega
  have hcI : ¬ 200 < c.length := by omega
  go_enter Try.func5, Try.ntmps5
  go_wp2_with fail
  refine (new_any _).mono ?_
  rintro e w1 ⟨rfl, hw1⟩
  have hD := Dk.new (S := fun k => k = w.heap.size) w rfl 48
  rw [← hw1] at hD
  have hbel : Below w.heap.size w w1 := by rw [hw1]; exact below_new _ _
  have hz1 : w.heap.size < w1.heap.size := by rw [hw1]; simp
  clear hw1
  have hl0 := Own.lit0 w1
  have hs1 := (((unhide Hs).later hbel).later (below_new w1 (.cells #[] 5)))
  go_wp2_with (at_builtin; refine wpList_append_ob _ rfl (.tmp 25) (.tmp 26) rfl w1.heap.size _ _ [] b (by simp) hl0 rfl rfl hs1 (by simp; omega) ?_)
  intro v2 w2 ho2 hbb2
  replace hbb2 := (below_new w1 (.cells #[] 5)).trans hbb2
  obtain ⟨oo, oc, rfl⟩ := ho2.val
  have L2 := hide (fun k hk => World.ownsRow.lt ho2 k hk)
  replace hD := hD.later hbb2
  replace hbel := hbel.trans (hbb2.mono hbel.size)
  have hz2 := hbb2.size
  clear hl0 hs1 hbb2
  have hl0 := Own.lit0 w2
  have hs1 := (((unhide Hu).later hbel).later (below_new w2 (.cells #[] 5)))
  go_wp2_with (at_builtin; refine wpList_append_ob _ rfl (.tmp 28) (.tmp 29) rfl w2.heap.size _ _ [] c (by simp) hl0 rfl rfl hs1 (by simp; omega) ?_)
  intro v3 w3 ho3 hbb3
  replace hbb3 := (below_new w2 (.cells #[] 5)).trans hbb3
  obtain ⟨eo, ec, rfl⟩ := ho3.val
  replace hD := hD.later hbb3
  replace hbel := hbel.trans (hbb3.mono hbel.size)
  have hz3 := hbb3.size
  replace ho2 := ho2.later hbb3
  clear hl0 hs1 hbb3
  have L3 := hide (fun k hk => World.ownsRow.lt ho3 k hk)
  have hDs := hD.mono (T := fun k => k = w.heap.size ∨ w3.heap.size ≤ k) (fun k _ h => .inl h)
  have HD := hide hDs
  have HE := hide hbel
  have HO2 := hide ho2
  have HO3 := hide ho3
  clear hD hDs hbel ho2 ho3
  go_wp2_with fail
  refine (append_ok (S := fun k => k = w.heap.size ∨ w3.heap.size ≤ k) w.heap.size _ _ _ _ b _ _ (unhide HD) (fun k hk => .inr hk) (unhide HO2).sl (by simp; omega)).mono ?_
  rintro e w4 ⟨rfl, hd4, hf4⟩
  rw [List.nil_append] at hd4
  replace HD := hide hd4
  replace HE := hide ((unhide HE).trans (hf4.below (fun k hk => by have := (unhide HE).size; omega) (unhide HE).size))
  have HF := hide hf4
  clear hd4 hf4
  go_wp2_with fail
  refine (set_ok (S := fun k => k = w.heap.size ∨ w3.heap.size ≤ k) w.heap.size _ _ _ _ c _ _ (unhide HD) (fun k hk => .inr (by have := (unhide HF).size; omega)) ((unhide HO3).other (unhide HF) (fun k hk h => by have := unhide L3 k hk; omega)).sl (by omega)).mono ?_
  rintro e w5 ⟨rfl, hd5, hf5⟩
  replace HD := hide hd5
  replace HE := hide ((unhide HE).trans (hf5.below (fun k hk => by have := (unhide HE).size; have := (unhide HF).size; omega) (unhide HE).size))
  replace HF := hide ((unhide HF).trans hf5)
  clear hd5 hf5
  go_wp2_with fail
  refine (sync_ok (S := fun k => k = w.heap.size ∨ w3.heap.size ≤ k) w.heap.size _ _ _ _ _ (unhide HD)).mono ?_
  rintro e w6 ⟨rfl, hd6, hf6⟩
  replace HD := hide hd6
  have hz36 : w3.heap.size ≤ w6.heap.size := Nat.le_trans (unhide HF).size hf6.size
  replace HE := hide ((unhide HE).trans (hf6.below (fun k hk => by have := (unhide HE).size; have := (unhide HF).size; omega) (unhide HE).size))
  replace HF := hide ((unhide HF).trans hf6)
  clear hd6 hf6
  go_wp2_with fail
  refine (crash_ok (S := fun k => k = w.heap.size ∨ w3.heap.size ≤ k) w.heap.size _ _ _ _ 0 false false _ (unhide HD) (by decide)).mono ?_
  rintro e w7 ⟨X, rfl, hX, hb7⟩
  rw [left_self] at hX
  replace hX : Dk (fun k => w6.heap.size ≤ k) w7 X b c b c := hX
  have hd7 := ((unhide HD).mono (T := fun k => (k = w.heap.size ∨ w3.heap.size ≤ k) ∧ k < w6.heap.size) (fun k hk h => ⟨h, hk⟩)).later hb7
  have HP : Hid (Pair w (fun k => (k = w.heap.size ∨ w3.heap.size ≤ k) ∧ k < w6.heap.size) (fun k => w6.heap.size ≤ k ∧ k < w7.heap.size) w7 w.heap.size X b c b c) := ⟨hd7, hX.mono (fun k hk h => ⟨h, hk⟩), (unhide HE).trans (hb7.mono (unhide HE).size)⟩
  replace HF := hide ((unhide HF).trans (Fr.of hb7))
  replace HO2 := hide ((unhide HO2).other (unhide HF) (fun k hk h => by have := unhide L2 k hk; omega))
  replace HO3 := hide ((unhide HO3).other (unhide HF) (fun k hk h => by have := unhide L3 k hk; omega))
  have hz7 := hb7.size
  have hz6 := hz36
  clear hX hd7 hb7 HD HE HF
  have A2 := hide (fun k (hk : (Value.slice oo b.length oc).ownBlock = some k) => show w1.heap.size ≤ k ∧ k < w2.heap.size from unhide L2 k hk)
  have A3 := hide (fun k (hk : (Value.slice eo c.length ec).ownBlock = some k) => show w2.heap.size ≤ k ∧ k < w3.heap.size from unhide L3 k hk)
  clear L2 L3
  go_wp2_with fail
  go_loopw [9] (fun i wr => ∃ (k : Nat) (cur : List UInt8), k ≤ b.length ∧ i = .int .i64 k ∧ Hid (cur.length = b.length ∧ Own 0 wr (.slice oo b.length oc) cur ∧ Fr (fun k => (Value.slice oo b.length oc).ownBlock = some k) w7 wr)) (fun i _ => b.length - (intOf i).toNat)
  case atStart => exact ⟨0, b, by omega, rfl, ⟨rfl, (unhide HO2).mono (Nat.zero_le _), Fr.refl _ _⟩⟩
  case round =>
    obtain ⟨k, cur, hk, rfl, Hr⟩ := hrel
    by_cases hlt : k < b.length
    · obtain ⟨hcur, hOw, hFr⟩ := Hr.out
      obtain ⟨gr, cap', hra⟩ := row_form hOw (by omega)
      injection hra with hra1 hra2 hra3
      subst hra1
      clear hra2 hra3
      have hkI : (k : Int) < (b.length : Int) := by omega
      obtain ⟨x, hx⟩ : ∃ x, cur[k]? = some x := ⟨cur[k]'(by omega), List.getElem?_eq_getElem _⟩
      obtain ⟨hcb, hfz, hOw', hgr⟩ := put_row hOw k (by omega) hcur x (x + 1) hx
      have HK := hide (show (cur.set k (x + 1)).length = b.length ∧ Own 0 _ _ (cur.set k (x + 1)) ∧ _ from ⟨by rw [List.length_set]; exact hcur, hOw', hFr.trans (hgr.mono (fun j _ hj => by rw [hj]; rfl))⟩)
      clear hOw' hgr hx hOw hFr hcur
      rw [← add1] at HK
      have hcn8 : (x.toNat : Int) < 256 := by have := x.toNat_lt; omega
      generalize x.toNat = cn at *
      go_wp2
      go_roundw
      case rel => exact ⟨k + 1, _, by omega, by go_num, unhide HK⟩
      case measure => simp [intOf]; omega
    · obtain ⟨_, hOwn9, hFr9⟩ := Hr.out
      have HF9 := hide hFr9
      clear hFr9 hOwn9 Hr
      replace HP := hide ((unhide HP).other (unhide HF9) (fun k _ h hk => by have := unhide A2 k hk; omega) (fun k _ h hk => by have := unhide A2 k hk; omega) (fun k hk => by have := unhide A2 k hk; omega))
      replace HO3 := hide ((unhide HO3).other (unhide HF9) (fun k hk h => by have := unhide A2 k h; have := unhide A3 k hk; omega))
      have y1 := (unhide HF9).size
      clear HF9 HO2
      generalize wr = V1 at *
      go_wp2_with fail
      go_loopw [10] (fun i wr => ∃ (k : Nat) (cur : List UInt8), k ≤ c.length ∧ i = .int .i64 k ∧ Hid (cur.length = c.length ∧ Own 0 wr (.slice eo c.length ec) cur ∧ Fr (fun k => (Value.slice eo c.length ec).ownBlock = some k) V1 wr)) (fun i _ => c.length - (intOf i).toNat)
      case atStart => exact ⟨0, c, by omega, rfl, ⟨rfl, (unhide HO3).mono (Nat.zero_le _), Fr.refl _ _⟩⟩
      case round =>
        obtain ⟨k, cur, hk, rfl, Hr⟩ := hrel
        by_cases hlt : k < c.length
        · obtain ⟨hcur, hOw, hFr⟩ := Hr.out
          obtain ⟨gr, cap', hra⟩ := row_form hOw (by omega)
          injection hra with hra1 hra2 hra3
          subst hra1
          clear hra2 hra3
          have hkI : (k : Int) < (c.length : Int) := by omega
          obtain ⟨x, hx⟩ : ∃ x, cur[k]? = some x := ⟨cur[k]'(by omega), List.getElem?_eq_getElem _⟩
          obtain ⟨hcb, hfz, hOw', hgr⟩ := put_row hOw k (by omega) hcur x (x + 1) hx
          have HK := hide (show (cur.set k (x + 1)).length = c.length ∧ Own 0 _ _ (cur.set k (x + 1)) ∧ _ from ⟨by rw [List.length_set]; exact hcur, hOw', hFr.trans (hgr.mono (fun j _ hj => by rw [hj]; rfl))⟩)
          clear hOw' hgr hx hOw hFr hcur
          rw [← add1] at HK
          have hcn8 : (x.toNat : Int) < 256 := by have := x.toNat_lt; omega
          generalize x.toNat = cn at *
          go_wp2
          go_roundw
          case rel => exact ⟨k + 1, _, by omega, by go_num, unhide HK⟩
          case measure => simp [intOf]; omega
        · obtain ⟨_, hOwn10, hFr10⟩ := Hr.out
          have HF10 := hide hFr10
          clear hFr10 hOwn10 Hr
          replace HP := hide ((unhide HP).other (unhide HF10) (fun k _ h hk => by have := unhide A3 k hk; omega) (fun k _ h hk => by have := unhide A3 k hk; omega) (fun k hk => by have := unhide A3 k hk; omega))
          have y2 := (unhide HF10).size
          clear HF10 HO3
          generalize wr = V2 at *
          go_wp2_with fail
          refine (file_g _ _ _ _ _ _ (unhide HP).d).mono ?_
          rintro e V3 ⟨g3, rfl, ho, hb⟩
          replace HP := hide ((unhide HP).later hb)
          have y3 := hb.size
          have p3 := World.ownsRow.lt ho g3 rfl
          have P3 := hide ho
          clear ho hb
          go_wp2_with fail
          refine (cell_g _ _ _ _ _ _ (unhide HP).d).mono ?_
          rintro e V4 ⟨g4, rfl, ho, hb⟩
          replace HP := hide ((unhide HP).later hb)
          replace P3 := hide ((unhide P3).later hb)
          have y4 := hb.size
          have p4 := World.ownsRow.lt ho g4 rfl
          have P4 := hide ho
          clear ho hb
          have B3 := hide (fun k (hk : (Value.slice (some ⟨g3, 0, none⟩) b.length b.length).ownBlock = some k) => show k = g3 by injection hk with hk; exact hk.symm)
          have B4 := hide (fun k (hk : (Value.slice (some ⟨g4, 0, none⟩) c.length c.length).ownBlock = some k) => show k = g4 by injection hk with hk; exact hk.symm)
          generalize (some (⟨g3, 0, none⟩ : Addr)) = fo at *
          generalize (some (⟨g4, 0, none⟩ : Addr)) = go at *
          go_wp2_with fail
          go_loopw [13] (fun i wr => ∃ (k : Nat) (cur : List UInt8), k ≤ b.length ∧ i = .int .i64 k ∧ Hid (cur.length = b.length ∧ Own 0 wr (.slice fo b.length b.length) cur ∧ Fr (fun k => (Value.slice fo b.length b.length).ownBlock = some k) V4 wr)) (fun i _ => b.length - (intOf i).toNat)
          case atStart => exact ⟨0, b, by omega, rfl, ⟨rfl, (unhide P3).mono (Nat.zero_le _), Fr.refl _ _⟩⟩
          case round =>
            obtain ⟨k, cur, hk, rfl, Hr⟩ := hrel
            by_cases hlt : k < b.length
            · obtain ⟨hcur, hOw, hFr⟩ := Hr.out
              obtain ⟨gr, cap', hra⟩ := row_form hOw (by omega)
              injection hra with hra1 hra2 hra3
              subst hra1
              clear hra2 hra3
              have hkI : (k : Int) < (b.length : Int) := by omega
              obtain ⟨x, hx⟩ : ∃ x, cur[k]? = some x := ⟨cur[k]'(by omega), List.getElem?_eq_getElem _⟩
              obtain ⟨hcb, hfz, hOw', hgr⟩ := put_row hOw k (by omega) hcur x 0 hx
              have HK := hide (show (cur.set k 0).length = b.length ∧ Own 0 _ _ (cur.set k 0) ∧ _ from ⟨by rw [List.length_set]; exact hcur, hOw', hFr.trans (hgr.mono (fun j _ hj => by rw [hj]; rfl))⟩)
              clear hOw' hgr hx hOw hFr hcur
              generalize x.toNat = cn at *
              go_wp2
              go_roundw
              case rel => exact ⟨k + 1, _, by omega, by go_num, unhide HK⟩
              case measure => simp [intOf]; omega
            · obtain ⟨_, hOwn13, hFr13⟩ := Hr.out
              have HF13 := hide hFr13
              clear hFr13 hOwn13 Hr
              replace HP := hide ((unhide HP).other (unhide HF13) (fun k _ h hk => by have := unhide B3 k hk; omega) (fun k _ h hk => by have := unhide B3 k hk; omega) (fun k hk => by have := unhide B3 k hk; omega))
              replace P4 := hide ((unhide P4).other (unhide HF13) (fun k hk h => by have := unhide B3 k h; have := unhide B4 k hk; omega))
              have y5 := (unhide HF13).size
              clear HF13 P3
              generalize wr = V5 at *
              go_wp2_with fail
              go_loopw [14] (fun i wr => ∃ (k : Nat) (cur : List UInt8), k ≤ c.length ∧ i = .int .i64 k ∧ Hid (cur.length = c.length ∧ Own 0 wr (.slice go c.length c.length) cur ∧ Fr (fun k => (Value.slice go c.length c.length).ownBlock = some k) V5 wr)) (fun i _ => c.length - (intOf i).toNat)
              case atStart => exact ⟨0, c, by omega, rfl, ⟨rfl, (unhide P4).mono (Nat.zero_le _), Fr.refl _ _⟩⟩
              case round =>
                obtain ⟨k, cur, hk, rfl, Hr⟩ := hrel
                by_cases hlt : k < c.length
                · obtain ⟨hcur, hOw, hFr⟩ := Hr.out
                  obtain ⟨gr, cap', hra⟩ := row_form hOw (by omega)
                  injection hra with hra1 hra2 hra3
                  subst hra1
                  clear hra2 hra3
                  have hkI : (k : Int) < (c.length : Int) := by omega
                  obtain ⟨x, hx⟩ : ∃ x, cur[k]? = some x := ⟨cur[k]'(by omega), List.getElem?_eq_getElem _⟩
                  obtain ⟨hcb, hfz, hOw', hgr⟩ := put_row hOw k (by omega) hcur x 0 hx
                  have HK := hide (show (cur.set k 0).length = c.length ∧ Own 0 _ _ (cur.set k 0) ∧ _ from ⟨by rw [List.length_set]; exact hcur, hOw', hFr.trans (hgr.mono (fun j _ hj => by rw [hj]; rfl))⟩)
                  clear hOw' hgr hx hOw hFr hcur
                  generalize x.toNat = cn at *
                  go_wp2
                  go_roundw
                  case rel => exact ⟨k + 1, _, by omega, by go_num, unhide HK⟩
                  case measure => simp [intOf]; omega
                · obtain ⟨_, hOwn14, hFr14⟩ := Hr.out
                  have HF14 := hide hFr14
                  clear hFr14 hOwn14 Hr
                  replace HP := hide ((unhide HP).other (unhide HF14) (fun k _ h hk => by have := unhide B4 k hk; omega) (fun k _ h hk => by have := unhide B4 k hk; omega) (fun k hk => by have := unhide B4 k hk; omega))
                  have y6 := (unhide HF14).size
                  clear HF14 P4
                  generalize wr = V6 at *
                  have L1 := hide (sl_mark V6 #[.int .u8 109, .int .u8 111, .int .u8 114, .int .u8 101] tMore rfl (by decide) (4, 5))
                  have q1 := Lib.run_convert_bytes_const (P := Try.prog) V6 26 5 #[.int .u8 109, .int .u8 111, .int .u8 114, .int .u8 101] 4 4 Try.underlying26 Try.underlying5
                  have hbn := below_new V6 (.cells #[.int .u8 109, .int .u8 111, .int .u8 114, .int .u8 101] 5 (4, 5))
                  replace HP := hide ((unhide HP).later hbn)
                  clear hbn
                  go_wp2_with fail
                  refine (append_ok (S := fun k => ((k = w.heap.size ∨ w3.heap.size ≤ k) ∧ k < w6.heap.size) ∨ V6.heap.size < k) w.heap.size _ _ _ _ tMore _ _ ((unhide HP).d.mono (fun k _ h => .inl h)) (fun k hk => .inr (by simp at hk; omega)) (unhide L1) (by simp; omega)).mono ?_
                  rintro e V7 ⟨rfl, hd, hf⟩
                  have hX := (unhide HP).x.other hf (fun k hk h hn => by simp at hk; omega)
                  have hbe := (unhide HP).b.trans (hf.below (B := w.heap.size) (fun k hk => by have := (unhide HP).b.size; simp at this; omega) (unhide HP).b.size)
                  clear HP
                  have HP : Hid (Pair2 w _ _ V7 w.heap.size X (b ++ tMore) c b c) := ⟨hd, hX, hbe⟩
                  clear hd hX hbe hf L1 q1 A2 A3 B3 B4
                  go_wp2_with fail
                  have hDr : Below V7.heap.size V7 V7.drew := (Below.refl _ _).drew
                  have HP := hide ((unhide HP).later hDr)
                  have q9 := conv_sl V7.drew _ _ ((unhide Hs).later (unhide HP).b)
                  have r9 := conv_sl V7.drew _ _ ((unhide Hu).later (unhide HP).b)
                  have hadd : ∀ y, (Op.stringOp .add (bs b) ⟨#[109, 111, 114, 101]⟩).run Try.prog y = .ok (.string (bs (b ++ tMore))) y := fun y => run_string_add_lists y b tMore (by omega) (by decide)
                  generalize b ++ tMore = bm at *
                  clear hDr
                  go_region_held (fun w' => (convert 26 9 (.slice ao b.length cp)).run Try.prog w' = .ok (.string (bs b)) w' ∧ (convert 26 9 (.slice bo c.length d)).run Try.prog w' = .ok (.string (bs c)) w') (first | (refine ⟨?_, ?_⟩ <;> assumption) | go_keep)
                    (first | (go_at_call 24; refine (alive_any _).mono ?_; rintro e w9 ⟨rfl, hb9⟩; have HP := hide ((unhide HP).later hb9); have q9 := conv_sl w9 _ _ ((unhide Hs).later (unhide HP).b); have r9 := conv_sl w9 _ _ ((unhide Hu).later (unhide HP).b); clear hb9) | (go_at_call_of 20 (w.heap.size); refine (file_g w.heap.size _ _ _ _ _ (unhide HP).d).mono ?_; rintro e w9 ⟨g9, rfl, ho9, hb9⟩; have HP := hide ((unhide HP).later hb9); have q9 := conv_sl w9 _ _ ((unhide Hs).later (unhide HP).b); have r9 := conv_sl w9 _ _ ((unhide Hu).later (unhide HP).b); have z9 := conv_sl w9 _ _ ho9.sl; clear hb9 ho9) | (go_at_call_of 21 (w.heap.size); refine (cell_g w.heap.size _ _ _ _ _ (unhide HP).d).mono ?_; rintro e w9 ⟨g9, rfl, ho9, hb9⟩; have HP := hide ((unhide HP).later hb9); have q9 := conv_sl w9 _ _ ((unhide Hs).later (unhide HP).b); have r9 := conv_sl w9 _ _ ((unhide Hu).later (unhide HP).b); have z9 := conv_sl w9 _ _ ho9.sl; clear hb9 ho9) | (go_at_call_of 20 X; refine (file_g X _ _ _ _ _ (unhide HP).x).mono ?_; rintro e w9 ⟨g9, rfl, ho9, hb9⟩; have HP := hide ((unhide HP).later hb9); have q9 := conv_sl w9 _ _ ((unhide Hs).later (unhide HP).b); have r9 := conv_sl w9 _ _ ((unhide Hu).later (unhide HP).b); have z9 := conv_sl w9 _ _ ho9.sl; clear hb9 ho9) | (go_at_call_of 21 X; refine (cell_g X _ _ _ _ _ (unhide HP).x).mono ?_; rintro e w9 ⟨g9, rfl, ho9, hb9⟩; have HP := hide ((unhide HP).later hb9); have q9 := conv_sl w9 _ _ ((unhide Hs).later (unhide HP).b); have r9 := conv_sl w9 _ _ ((unhide Hu).later (unhide HP).b); have z9 := conv_sl w9 _ _ ho9.sl; clear hb9 ho9))
                  all_goals
                    go_wp2
                    go_ret
                    exact ⟨rfl, (unhide HP).b⟩

theorem walkDiskOwn {w : World} (v : Value) (b : List UInt8) (hs : Sl w v b) (u : Value) (c : List UInt8) (hu : Sl w u c) :
    Calls Try.prog 5 #[v, u] w fun e w' => e = .returned (.bool true) ∧ Below w.heap.size w w' := by
  by_cases h : 200 < b.length ∨ 200 < c.length
  · exact own_early v b hs u c hu h
  · exact own_late v b hs u c hu (by omega) (by omega)
end

end Go.Proofs.Ytdhjogfalkmggaa
