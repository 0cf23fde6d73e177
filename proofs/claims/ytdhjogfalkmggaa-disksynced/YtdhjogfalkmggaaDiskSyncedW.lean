/-
  The law DiskSynced: its walk.
-/
import Derived.Test.YtdhjogfalkmggaaGs
import Derived.Test.YtdhjogfalkmggaaHeld
namespace Go.Proofs.Ytdhjogfalkmggaa
open Go.RowKit
set_option linter.unusedVariables false

/-- Four disks side by side. -/
structure Quad (w : World) (S1 S2 S3 S4 : Nat → Prop) (W : World) (D X Y Z : Nat) (f c l e : List UInt8) : Prop where
  d : Dk S1 W D f c f c
  x : Dk S2 W X l e l e
  y : Dk S3 W Y l e l e
  z : Dk S4 W Z f c f c
  b : Below w.heap.size w W

theorem Quad.later {w : World} {S1 S2 S3 S4 : Nat → Prop} {W W' : World} {D X Y Z : Nat} {f c l e : List UInt8} (h : Quad w S1 S2 S3 S4 W D X Y Z f c l e) (hb : Below W.heap.size W W') : Quad w S1 S2 S3 S4 W' D X Y Z f c l e :=
  ⟨h.d.later hb, h.x.later hb, h.y.later hb, h.z.later hb, h.b.trans (hb.mono h.b.size)⟩

section
set_option maxRecDepth 100000

set_option maxHeartbeats 4000000 in
theorem walkDiskSynced {w : World} (v : Value) (xs : List ActV) (hx : Acts w v xs) (av : Value) (z : ActV) (hz : ActIs w av z) :
    Calls Try.prog 7 #[v, av] w fun e w' => e = .returned (.bool true) ∧ Below w.heap.size w w' := by
  obtain ⟨rfl, hok⟩ := hz
  obtain ⟨kind, n, vv, ab, torn, cell⟩ := z
  obtain ⟨n0, n1, hsb⟩ := hok
  simp only at n0 n1 hsb ⊢
  obtain ⟨yo, yc, rfl, hy1, hy2, _⟩ := hsb
  have Hx := hide hx
  obtain ⟨ao, c, rfl, hc1, hc2, _⟩ := hx
  unfold maxLen at hc2 hy2
  have hA := ActAt.new w ⟨kind, n, .slice yo ab.length yc, ab, torn, cell⟩ 30
  have hb := below_new w (.cells #[.int .i64 kind, .int .i64 n, .slice yo ab.length yc, .bool torn, .bool cell] 30)
  have hD := Dk.new (S := fun k => w.heap.size < k) (w.alloc (.cells #[.int .i64 kind, .int .i64 n, .slice yo ab.length yc, .bool torn, .bool cell] 30)) (by simp) 48
  have hO : One w _ _ _ _ _ _ _ := ⟨hD, hA.later (below_new _ _), hb.trans ((below_new _ _).mono (by simp))⟩
  have HO := hide hO
  clear hA hb hD hO
  go_enter Try.func7, Try.ntmps7
  go_wp2_with fail
  refine (new_any _).mono ?_
  rintro e w1 ⟨rfl, hw1⟩
  rw [← hw1] at HO
  clear hw1
  generalize (w.alloc (.cells #[.int .i64 kind, .int .i64 n, .slice yo ab.length yc, .bool torn, .bool cell] 30)).heap.size = D at *
  go_wp2_with fail
  refine (alive_any _).mono ?_
  rintro e w2 ⟨rfl, hb2⟩
  replace HO := hide ((unhide HO).later hb2)
  clear hb2
  go_wp2_with fail
  go_loopw [6] (fun i wr => ∃ (k : Nat) (f lc : List UInt8), k ≤ xs.length ∧ k ≤ 60 ∧ i = .int .i64 k ∧ f.length ≤ 200 * k ∧ Hid (One w wr D ⟨kind, n, .slice yo ab.length yc, ab, torn, cell⟩ f lc [] [])) (fun i _ => 60 - (intOf i).toNat)
  case atStart => exact ⟨0, [], [], by omega, by omega, rfl, by simp, HO⟩
  case round =>
    clear HO
    obtain ⟨k, f, lc, hk1, hk2, rfl, hf, HO⟩ := hrel
    by_cases hlt : k < xs.length ∧ k < 60
    · obtain ⟨hl1, hl2⟩ := hlt
      obtain ⟨q, hq⟩ : ∃ q, Hid (q = xs[k]) := ⟨xs[k], Eq.refl _⟩
      obtain ⟨ao', c', e, _, _, hcell⟩ := (unhide Hx).below (unhide HO).b
      injection e with e1 e2 e3
      subst e1 e3
      obtain ⟨hok, bb, of, rfl, c0, c1, c2, c3, c4⟩ := hcell k hl1
      rw [← unhide hq] at c0 c1 c2 c3 c4 hok
      obtain ⟨qk, qn, qv, qb, qt, qc⟩ := q
      obtain ⟨q0, q1, qs⟩ := hok
      simp only at q0 q1 qs c0 c1 c2 c3 c4
      have Hqs := hide qs
      obtain ⟨po, pc, rfl, hp1, hp2, _⟩ := qs
      unfold maxLen at hp2
      have hkI : (k : Int) < (xs.length : Int) := by omega
      have hbN := below_new wr (.cells #[.int .i64 qk, .int .i64 qn, .slice po qb.length pc, .bool qt, .bool qc] 30)
      replace HO := hide ((unhide HO).later hbN)
      replace Hqs := hide ((unhide Hqs).later hbN)
      clear hcell e2 hq hbN
      by_cases hlong : 200 < qb.length
      · go_wp2
        go_roundw
        case rel => exact ⟨k + 1, f, lc, by omega, by omega, by go_num, by omega, HO⟩
        case measure => simp [intOf]; omega
      by_cases h1 : qk = 1
      · have k1 : (qk == 1) = true := by simpa using h1
        clear h1
        go_wp2_with fail
        refine (append_ok (S := fun k => w.heap.size < k) D _ _ _ _ qb _ _ (unhide HO).d (unhide HO).new (unhide Hqs) (by omega)).mono ?_
        rintro e w6 ⟨rfl, hd6, hf6⟩
        replace HO := hide ((unhide HO).step hd6 hf6)
        clear hd6 hf6
        go_wp2
        go_roundw
        case rel => exact ⟨k + 1, f ++ qb, lc, by omega, by omega, by go_num, by rw [List.length_append]; omega, HO⟩
        case measure => simp [intOf]; omega
      have k1 : (qk == 1) = false := by simpa using h1
      by_cases h2 : qk = 2
      · have k2 : (qk == 2) = true := by simpa using h2
        clear h1 h2
        by_cases hn : 0 ≤ qn ∧ qn ≤ f.length
        · obtain ⟨j, rfl⟩ : ∃ j : Nat, qn = j := ⟨qn.toNat, by omega⟩
          go_wp2_with fail
          refine (cut_ok (S := fun k => w.heap.size < k) D _ _ _ _ j _ (unhide HO).d (by omega)).mono ?_
          rintro e w6 ⟨rfl, hd6, hf6⟩
          replace HO := hide ((unhide HO).step hd6 hf6)
          clear hd6 hf6 hn
          go_wp2
          go_roundw
          case rel => exact ⟨k + 1, f.take j, lc, by omega, by omega, by go_num, by rw [List.length_take]; omega, HO⟩
          case measure => simp [intOf]; omega
        · go_wp2_with fail
          refine (cut_no (S := fun k => w.heap.size < k) D _ _ _ _ qn _ (unhide HO).d (by omega)).mono ?_
          rintro e w6 ⟨rfl, hw6⟩
          rw [← hw6] at HO
          clear hw6 hn
          go_wp2
          go_roundw
          case rel => exact ⟨k + 1, f, lc, by omega, by omega, by go_num, by omega, HO⟩
          case measure => simp [intOf]; omega
      have k2 : (qk == 2) = false := by simpa using h2
      by_cases h3 : qk = 3
      · have k3 : (qk == 3) = true := by simpa using h3
        clear h1 h2 h3
        go_wp2_with fail
        refine (set_ok (S := fun k => w.heap.size < k) D _ _ _ _ qb _ _ (unhide HO).d (unhide HO).new (unhide Hqs) (by omega)).mono ?_
        rintro e w6 ⟨rfl, hd6, hf6⟩
        replace HO := hide ((unhide HO).step hd6 hf6)
        clear hd6 hf6
        go_wp2
        go_roundw
        case rel => exact ⟨k + 1, f, qb, by omega, by omega, by go_num, by omega, HO⟩
        case measure => simp [intOf]; omega
      have k3 : (qk == 3) = false := by simpa using h3
      clear h1 h2 h3
      go_wp2
      go_roundw
      case rel => exact ⟨k + 1, f, lc, by omega, by omega, by go_num, by omega, HO⟩
      case measure => simp [intOf]; omega
    · have hlt' : xs.length ≤ k ∨ (k < xs.length ∧ 60 ≤ k) := by omega
      clear hlt
      have a1 := (unhide HO).a.c1
      have a3 := (unhide HO).a.c3
      have a4 := (unhide HO).a.c4
      simp only at a1 a3 a4
      have HD := hide ((unhide HO).d.mono (T := fun k => w.heap.size < k ∧ k < wr.heap.size) (fun k hk h => ⟨h, hk⟩))
      rcases hlt' with hq | ⟨hq, hq2⟩
      all_goals
        go_wp2_with fail
        refine (crash_ok (S := fun k => w.heap.size < k) D _ _ _ _ n torn cell _ (unhide HO).d n1).mono ?_
        rintro e w5 ⟨X, rfl, hX, hb5⟩
        clear a1 a3 a4
        replace HO := hide ((unhide HO).later hb5)
        replace HD := hide ((unhide HD).later hb5)
        have HX := hide hX
        have hz5 := hb5.size
        generalize left [] f n torn = L at *
        generalize cel lc [] cell = C at *
        clear hX hb5
        have a1 := (unhide HO).a.c1
        have a3 := (unhide HO).a.c3
        have a4 := (unhide HO).a.c4
        simp only at a1 a3 a4
        go_wp2_with fail
        refine (crash_ok X _ _ _ _ (wrap64 (n + 1)) (!torn) (!cell) _ (unhide HX) (by unfold wrap64; omega)).mono ?_
        rintro e w6 ⟨Y, rfl, hY, hb6⟩
        rw [left_self] at hY
        have hY : Dk (fun k => w5.heap.size ≤ k) w6 Y L C L C := by
          have e : cel C C (!cell) = C := by unfold cel; split <;> rfl
          rw [e] at hY
          exact hY
        clear a1 a3 a4
        replace HO := hide ((unhide HO).later hb6)
        replace HD := hide ((unhide HD).later hb6)
        replace HX := hide ((unhide HX).later hb6)
        have HY := hide hY
        have hz6 := hb6.size
        clear hY hb6
        go_wp2_with fail
        refine (sync_ok (S := fun k => w.heap.size < k ∧ k < wr.heap.size) D _ _ _ _ _ (unhide HD)).mono ?_
        rintro e w7 ⟨rfl, hd7, hf7⟩
        replace HX := hide ((unhide HX).other hf7 (fun k _ h hn => by omega))
        replace HY := hide ((unhide HY).other hf7 (fun k _ h hn => by omega))
        have HA := hide ((unhide HO).a.other hf7 (by omega))
        have HB := hide ((unhide HO).b.trans (hf7.below (fun k hk => by omega) (unhide HO).b.size))
        replace HD := hide hd7
        clear HO hd7 hf7
        have a1 := (unhide HA).c1
        have a3 := (unhide HA).c3
        have a4 := (unhide HA).c4
        simp only at a1 a3 a4
        go_wp2_with fail
        refine (crash_ok (S := fun k => w.heap.size < k ∧ k < wr.heap.size) D _ _ _ _ n torn cell _ (unhide HD) n1).mono ?_
        rintro e w8 ⟨Z, rfl, hZ, hb8⟩
        rw [left_self] at hZ
        have hZ : Dk (fun k => w7.heap.size ≤ k) w8 Z f lc f lc := by
          have e : cel lc lc cell = lc := by unfold cel; split <;> rfl
          rw [e] at hZ
          exact hZ
        have HQ : Hid (Quad w (fun k => w.heap.size < k ∧ k < wr.heap.size) (fun k => wr.heap.size ≤ k) (fun k => w5.heap.size ≤ k) (fun k => w7.heap.size ≤ k) w8 D X Y Z f lc L C) := ⟨(unhide HD).later hb8, (unhide HX).later hb8, (unhide HY).later hb8, hZ, (unhide HB).trans (hb8.mono (unhide HB).size)⟩
        clear hZ hb8 HD HX HY HB HA a1 a3 a4
        go_wp2_with fail
        replace HQ := hide ((unhide HQ).later (Below.refl w8.heap.size w8).drew)
        refine wp_region_held_drew (S := fun y => Below w8.drew.heap.size w8.drew y) (by kernel_rfl) (Below.refl _ _) (fun hS => ?_)
        generalize w8.drew = V0 at *
        refine held_take 0 93 rfl rfl (by kernel_rfl) (by kernel_rfl) (by kernel_rfl) (fun _ _ _ h => h) (by rfl) hS (v := ?_) ?_ ?_
        rotate_left
        · intro y hSy
          clear hSy
          go_simp
          with_reducible rfl
        simp only [Act.put, List.setIfInBounds_toArray, List.set_cons_zero, List.set_cons_succ]
        refine held_take 3 96 rfl rfl (by kernel_rfl) (by kernel_rfl) (by kernel_rfl) (fun _ _ _ h => h) (by rfl) hS (v := ?_) ?_ ?_
        rotate_left
        · intro y hSy
          clear hSy
          go_simp
          with_reducible rfl
        simp only [Act.put, List.setIfInBounds_toArray, List.set_cons_zero, List.set_cons_succ]
        refine wpAnyH_ready (rs := [1]) (by kernel_rfl) (by simp) ?_
        refine AllReadyH.cons rfl (fun K hK => ?_) AllReadyH.nil
        go_simp
        refine (file_g Y _ _ _ _ _ (unhide HQ).y).mono ?_
        rintro e V1 ⟨g1, rfl, ho, hb⟩
        refine hK.out _ _ hb (fun _ => ?_)
        clear hK K
        refine held_mono (S' := fun y => Below V1.heap.size V1 y) (fun y hy => hb.trans (hy.mono hb.size)) _ _ _ _ ?_
        replace hS : Below V1.heap.size V1 V1 := Below.refl _ _
        replace HQ := hide ((unhide HQ).later hb)
        have HR := hide ho
        clear ho hb
        refine held_take 2 95 rfl rfl (by kernel_rfl) (by kernel_rfl) (by kernel_rfl) (fun _ _ _ h => h) (by rfl) hS (v := ?_) ?_ ?_
        rotate_left
        · intro y hSy
          have cv := conv_sl y _ _ ((unhide HR).later hSy).sl
          clear hSy
          go_simp
          with_reducible rfl
        simp only [Act.put, List.setIfInBounds_toArray, List.set_cons_zero, List.set_cons_succ]
        clear HR
        refine wpAnyH_ready (rs := [4]) (by kernel_rfl) (by simp) ?_
        refine AllReadyH.cons rfl (fun K hK => ?_) AllReadyH.nil
        go_simp
        refine (file_g X _ _ _ _ _ (unhide HQ).x).mono ?_
        rintro e V2 ⟨g2, rfl, ho, hb⟩
        refine hK.out _ _ hb (fun _ => ?_)
        clear hK K
        refine held_mono (S' := fun y => Below V2.heap.size V2 y) (fun y hy => hb.trans (hy.mono hb.size)) _ _ _ _ ?_
        replace hS : Below V2.heap.size V2 V2 := Below.refl _ _
        replace HQ := hide ((unhide HQ).later hb)
        have HR := hide ho
        clear ho hb
        refine held_take 5 98 rfl rfl (by kernel_rfl) (by kernel_rfl) (by kernel_rfl) (fun _ _ _ h => h) (by rfl) hS (v := ?_) ?_ ?_
        rotate_left
        · intro y hSy
          have cv := conv_sl y _ _ ((unhide HR).later hSy).sl
          clear hSy
          go_simp
          with_reducible rfl
        simp only [Act.put, List.setIfInBounds_toArray, List.set_cons_zero, List.set_cons_succ]
        clear HR
        refine held_take 6 99 rfl rfl (by kernel_rfl) (by kernel_rfl) (by kernel_rfl) (fun _ _ _ h => h) (by rfl) hS (v := ?_) ?_ ?_
        rotate_left
        · intro y hSy
          clear hSy
          go_simp
          with_reducible rfl
        simp only [Act.put, List.setIfInBounds_toArray, List.set_cons_zero, List.set_cons_succ]
        refine held_take 7 100 rfl rfl (by kernel_rfl) (by kernel_rfl) (by kernel_rfl) (fun _ _ _ h => h) (by rfl) hS (v := ?_) ?_ ?_
        rotate_left
        · intro y hSy
          clear hSy
          go_simp
          with_reducible rfl
        simp only [Act.put, List.setIfInBounds_toArray, List.set_cons_zero, List.set_cons_succ]
        refine held_take 8 101 rfl rfl (by kernel_rfl) (by kernel_rfl) (by kernel_rfl) (fun _ _ _ h => h) (by rfl) hS (v := ?_) ?_ ?_
        rotate_left
        · intro y hSy
          clear hSy
          go_simp
          with_reducible rfl
        simp only [Act.put, List.setIfInBounds_toArray, List.set_cons_zero, List.set_cons_succ]
        refine held_take 11 104 rfl rfl (by kernel_rfl) (by kernel_rfl) (by kernel_rfl) (fun _ _ _ h => h) (by rfl) hS (v := ?_) ?_ ?_
        rotate_left
        · intro y hSy
          clear hSy
          go_simp
          with_reducible rfl
        simp only [Act.put, List.setIfInBounds_toArray, List.set_cons_zero, List.set_cons_succ]
        refine wpAnyH_ready (rs := [9]) (by kernel_rfl) (by simp) ?_
        refine AllReadyH.cons rfl (fun K hK => ?_) AllReadyH.nil
        go_simp
        refine (cell_g Y _ _ _ _ _ (unhide HQ).y).mono ?_
        rintro e V3 ⟨g3, rfl, ho, hb⟩
        refine hK.out _ _ hb (fun _ => ?_)
        clear hK K
        refine held_mono (S' := fun y => Below V3.heap.size V3 y) (fun y hy => hb.trans (hy.mono hb.size)) _ _ _ _ ?_
        replace hS : Below V3.heap.size V3 V3 := Below.refl _ _
        replace HQ := hide ((unhide HQ).later hb)
        have HR := hide ho
        clear ho hb
        refine held_take 10 103 rfl rfl (by kernel_rfl) (by kernel_rfl) (by kernel_rfl) (fun _ _ _ h => h) (by rfl) hS (v := ?_) ?_ ?_
        rotate_left
        · intro y hSy
          have cv := conv_sl y _ _ ((unhide HR).later hSy).sl
          clear hSy
          go_simp
          with_reducible rfl
        simp only [Act.put, List.setIfInBounds_toArray, List.set_cons_zero, List.set_cons_succ]
        clear HR
        refine wpAnyH_ready (rs := [12]) (by kernel_rfl) (by simp) ?_
        refine AllReadyH.cons rfl (fun K hK => ?_) AllReadyH.nil
        go_simp
        refine (cell_g X _ _ _ _ _ (unhide HQ).x).mono ?_
        rintro e V4 ⟨g4, rfl, ho, hb⟩
        refine hK.out _ _ hb (fun _ => ?_)
        clear hK K
        refine held_mono (S' := fun y => Below V4.heap.size V4 y) (fun y hy => hb.trans (hy.mono hb.size)) _ _ _ _ ?_
        replace hS : Below V4.heap.size V4 V4 := Below.refl _ _
        replace HQ := hide ((unhide HQ).later hb)
        have HR := hide ho
        clear ho hb
        refine held_take 13 106 rfl rfl (by kernel_rfl) (by kernel_rfl) (by kernel_rfl) (fun _ _ _ h => h) (by rfl) hS (v := ?_) ?_ ?_
        rotate_left
        · intro y hSy
          have cv := conv_sl y _ _ ((unhide HR).later hSy).sl
          clear hSy
          go_simp
          with_reducible rfl
        simp only [Act.put, List.setIfInBounds_toArray, List.set_cons_zero, List.set_cons_succ]
        clear HR
        refine held_take 14 107 rfl rfl (by kernel_rfl) (by kernel_rfl) (by kernel_rfl) (fun _ _ _ h => h) (by rfl) hS (v := ?_) ?_ ?_
        rotate_left
        · intro y hSy
          clear hSy
          go_simp
          with_reducible rfl
        simp only [Act.put, List.setIfInBounds_toArray, List.set_cons_zero, List.set_cons_succ]
        refine held_take 15 108 rfl rfl (by kernel_rfl) (by kernel_rfl) (by kernel_rfl) (fun _ _ _ h => h) (by rfl) hS (v := ?_) ?_ ?_
        rotate_left
        · intro y hSy
          clear hSy
          go_simp
          with_reducible rfl
        simp only [Act.put, List.setIfInBounds_toArray, List.set_cons_zero, List.set_cons_succ]
        refine held_take 16 109 rfl rfl (by kernel_rfl) (by kernel_rfl) (by kernel_rfl) (fun _ _ _ h => h) (by rfl) hS (v := ?_) ?_ ?_
        rotate_left
        · intro y hSy
          clear hSy
          go_simp
          with_reducible rfl
        simp only [Act.put, List.setIfInBounds_toArray, List.set_cons_zero, List.set_cons_succ]
        refine held_take 17 110 rfl rfl (by kernel_rfl) (by kernel_rfl) (by kernel_rfl) (fun _ _ _ h => h) (by rfl) hS (v := ?_) ?_ ?_
        rotate_left
        · intro y hSy
          clear hSy
          go_simp
          with_reducible rfl
        simp only [Act.put, List.setIfInBounds_toArray, List.set_cons_zero, List.set_cons_succ]
        refine held_take 20 113 rfl rfl (by kernel_rfl) (by kernel_rfl) (by kernel_rfl) (fun _ _ _ h => h) (by rfl) hS (v := ?_) ?_ ?_
        rotate_left
        · intro y hSy
          clear hSy
          go_simp
          with_reducible rfl
        simp only [Act.put, List.setIfInBounds_toArray, List.set_cons_zero, List.set_cons_succ]
        refine wpAnyH_ready (rs := [18]) (by kernel_rfl) (by simp) ?_
        refine AllReadyH.cons rfl (fun K hK => ?_) AllReadyH.nil
        go_simp
        refine (file_g Z _ _ _ _ _ (unhide HQ).z).mono ?_
        rintro e V5 ⟨g5, rfl, ho, hb⟩
        refine hK.out _ _ hb (fun _ => ?_)
        clear hK K
        refine held_mono (S' := fun y => Below V5.heap.size V5 y) (fun y hy => hb.trans (hy.mono hb.size)) _ _ _ _ ?_
        replace hS : Below V5.heap.size V5 V5 := Below.refl _ _
        replace HQ := hide ((unhide HQ).later hb)
        have HR := hide ho
        clear ho hb
        refine held_take 19 112 rfl rfl (by kernel_rfl) (by kernel_rfl) (by kernel_rfl) (fun _ _ _ h => h) (by rfl) hS (v := ?_) ?_ ?_
        rotate_left
        · intro y hSy
          have cv := conv_sl y _ _ ((unhide HR).later hSy).sl
          clear hSy
          go_simp
          with_reducible rfl
        simp only [Act.put, List.setIfInBounds_toArray, List.set_cons_zero, List.set_cons_succ]
        clear HR
        refine wpAnyH_ready (rs := [21]) (by kernel_rfl) (by simp) ?_
        refine AllReadyH.cons rfl (fun K hK => ?_) AllReadyH.nil
        go_simp
        refine (file_g D _ _ _ _ _ (unhide HQ).d).mono ?_
        rintro e V6 ⟨g6, rfl, ho, hb⟩
        refine hK.out _ _ hb (fun _ => ?_)
        clear hK K
        refine held_mono (S' := fun y => Below V6.heap.size V6 y) (fun y hy => hb.trans (hy.mono hb.size)) _ _ _ _ ?_
        replace hS : Below V6.heap.size V6 V6 := Below.refl _ _
        replace HQ := hide ((unhide HQ).later hb)
        have HR := hide ho
        clear ho hb
        refine held_take 22 115 rfl rfl (by kernel_rfl) (by kernel_rfl) (by kernel_rfl) (fun _ _ _ h => h) (by rfl) hS (v := ?_) ?_ ?_
        rotate_left
        · intro y hSy
          have cv := conv_sl y _ _ ((unhide HR).later hSy).sl
          clear hSy
          go_simp
          with_reducible rfl
        simp only [Act.put, List.setIfInBounds_toArray, List.set_cons_zero, List.set_cons_succ]
        clear HR
        refine held_take 23 116 rfl rfl (by kernel_rfl) (by kernel_rfl) (by kernel_rfl) (fun _ _ _ h => h) (by rfl) hS (v := ?_) ?_ ?_
        rotate_left
        · intro y hSy
          clear hSy
          go_simp
          with_reducible rfl
        simp only [Act.put, List.setIfInBounds_toArray, List.set_cons_zero, List.set_cons_succ]
        refine held_take 24 117 rfl rfl (by kernel_rfl) (by kernel_rfl) (by kernel_rfl) (fun _ _ _ h => h) (by rfl) hS (v := ?_) ?_ ?_
        rotate_left
        · intro y hSy
          clear hSy
          go_simp
          with_reducible rfl
        simp only [Act.put, List.setIfInBounds_toArray, List.set_cons_zero, List.set_cons_succ]
        refine held_take 25 118 rfl rfl (by kernel_rfl) (by kernel_rfl) (by kernel_rfl) (fun _ _ _ h => h) (by rfl) hS (v := ?_) ?_ ?_
        rotate_left
        · intro y hSy
          clear hSy
          go_simp
          with_reducible rfl
        simp only [Act.put, List.setIfInBounds_toArray, List.set_cons_zero, List.set_cons_succ]
        refine held_take 26 119 rfl rfl (by kernel_rfl) (by kernel_rfl) (by kernel_rfl) (fun _ _ _ h => h) (by rfl) hS (v := ?_) ?_ ?_
        rotate_left
        · intro y hSy
          clear hSy
          go_simp
          with_reducible rfl
        simp only [Act.put, List.setIfInBounds_toArray, List.set_cons_zero, List.set_cons_succ]
        refine held_take 29 122 rfl rfl (by kernel_rfl) (by kernel_rfl) (by kernel_rfl) (fun _ _ _ h => h) (by rfl) hS (v := ?_) ?_ ?_
        rotate_left
        · intro y hSy
          clear hSy
          go_simp
          with_reducible rfl
        simp only [Act.put, List.setIfInBounds_toArray, List.set_cons_zero, List.set_cons_succ]
        refine wpAnyH_ready (rs := [27]) (by kernel_rfl) (by simp) ?_
        refine AllReadyH.cons rfl (fun K hK => ?_) AllReadyH.nil
        go_simp
        refine (cell_g Z _ _ _ _ _ (unhide HQ).z).mono ?_
        rintro e V7 ⟨g7, rfl, ho, hb⟩
        refine hK.out _ _ hb (fun _ => ?_)
        clear hK K
        refine held_mono (S' := fun y => Below V7.heap.size V7 y) (fun y hy => hb.trans (hy.mono hb.size)) _ _ _ _ ?_
        replace hS : Below V7.heap.size V7 V7 := Below.refl _ _
        replace HQ := hide ((unhide HQ).later hb)
        have HR := hide ho
        clear ho hb
        refine held_take 28 121 rfl rfl (by kernel_rfl) (by kernel_rfl) (by kernel_rfl) (fun _ _ _ h => h) (by rfl) hS (v := ?_) ?_ ?_
        rotate_left
        · intro y hSy
          have cv := conv_sl y _ _ ((unhide HR).later hSy).sl
          clear hSy
          go_simp
          with_reducible rfl
        simp only [Act.put, List.setIfInBounds_toArray, List.set_cons_zero, List.set_cons_succ]
        clear HR
        refine wpAnyH_ready (rs := [30]) (by kernel_rfl) (by simp) ?_
        refine AllReadyH.cons rfl (fun K hK => ?_) AllReadyH.nil
        go_simp
        refine (cell_g D _ _ _ _ _ (unhide HQ).d).mono ?_
        rintro e V8 ⟨g8, rfl, ho, hb⟩
        refine hK.out _ _ hb (fun _ => ?_)
        clear hK K
        refine held_mono (S' := fun y => Below V8.heap.size V8 y) (fun y hy => hb.trans (hy.mono hb.size)) _ _ _ _ ?_
        replace hS : Below V8.heap.size V8 V8 := Below.refl _ _
        replace HQ := hide ((unhide HQ).later hb)
        have HR := hide ho
        clear ho hb
        refine held_take 31 124 rfl rfl (by kernel_rfl) (by kernel_rfl) (by kernel_rfl) (fun _ _ _ h => h) (by rfl) hS (v := ?_) ?_ ?_
        rotate_left
        · intro y hSy
          have cv := conv_sl y _ _ ((unhide HR).later hSy).sl
          clear hSy
          go_simp
          with_reducible rfl
        simp only [Act.put, List.setIfInBounds_toArray, List.set_cons_zero, List.set_cons_succ]
        clear HR
        refine held_take 32 125 rfl rfl (by kernel_rfl) (by kernel_rfl) (by kernel_rfl) (fun _ _ _ h => h) (by rfl) hS (v := ?_) ?_ ?_
        rotate_left
        · intro y hSy
          clear hSy
          go_simp
          with_reducible rfl
        simp only [Act.put, List.setIfInBounds_toArray, List.set_cons_zero, List.set_cons_succ]
        refine held_take 33 126 rfl rfl (by kernel_rfl) (by kernel_rfl) (by kernel_rfl) (fun _ _ _ h => h) (by rfl) hS (v := ?_) ?_ ?_
        rotate_left
        · intro y hSy
          clear hSy
          go_simp
          with_reducible rfl
        simp only [Act.put, List.setIfInBounds_toArray, List.set_cons_zero, List.set_cons_succ]
        refine held_take 34 127 rfl rfl (by kernel_rfl) (by kernel_rfl) (by kernel_rfl) (fun _ _ _ h => h) (by rfl) hS (v := ?_) ?_ ?_
        rotate_left
        · intro y hSy
          clear hSy
          go_simp
          with_reducible rfl
        simp only [Act.put, List.setIfInBounds_toArray, List.set_cons_zero, List.set_cons_succ]
        refine held_take 35 128 rfl rfl (by kernel_rfl) (by kernel_rfl) (by kernel_rfl) (fun _ _ _ h => h) (by rfl) hS (v := ?_) ?_ ?_
        rotate_left
        · intro y hSy
          clear hSy
          go_simp
          with_reducible rfl
        simp only [Act.put, List.setIfInBounds_toArray, List.set_cons_zero, List.set_cons_succ]
        refine wpAnyH_ready (rs := [36]) (by kernel_rfl) (by simp) ?_
        refine AllReadyH.cons rfl (fun K hK => ?_) AllReadyH.nil
        go_simp
        refine (dirty_ok D _ _ _ _ _ (unhide HQ).d).mono ?_
        rintro e V9 ⟨rfl, hb⟩
        rw [dirt_self]
        refine hK.out _ _ hb (fun hS => ?_)
        clear hK K
        replace HQ := hide ((unhide HQ).later hb)
        clear hb
        refine held_take 37 130 rfl rfl (by kernel_rfl) (by kernel_rfl) (by kernel_rfl) (fun _ _ _ h => h) (by rfl) hS (v := ?_) ?_ ?_
        rotate_left
        · intro y hSy
          clear hSy
          go_simp
          with_reducible rfl
        simp only [Act.put, List.setIfInBounds_toArray, List.set_cons_zero, List.set_cons_succ]
        refine held_take 38 131 rfl rfl (by kernel_rfl) (by kernel_rfl) (by kernel_rfl) (fun _ _ _ h => h) (by rfl) hS (v := ?_) ?_ ?_
        rotate_left
        · intro y hSy
          clear hSy
          go_simp
          with_reducible rfl
        simp only [Act.put, List.setIfInBounds_toArray, List.set_cons_zero, List.set_cons_succ]
        refine held_take 39 4 rfl rfl (by kernel_rfl) (by kernel_rfl) (by kernel_rfl) (fun _ _ _ h => h) (by rfl) hS (v := ?_) ?_ ?_
        rotate_left
        · intro y hSy
          clear hSy
          go_simp
          with_reducible rfl
        simp only [Act.put, List.setIfInBounds_toArray, List.set_cons_zero, List.set_cons_succ]
        refine wpAnyH_done (by kernel_rfl) ?_ _
        go_wp2
        go_ret
        exact ⟨rfl, (unhide HQ).b⟩
end

end Go.Proofs.Ytdhjogfalkmggaa
