/-
  The walk of the law JournalOpens.
-/
import Derived.Test.YteanjnkfoddfmaaJSamej
namespace Go.Proofs.Yteanjnkfoddfmaa
open Go.RowKit
set_option linter.unusedVariables false

set_option maxRecDepth 100000 in
set_option maxHeartbeats 2000000 in
theorem opens_long {w : World} (v : Value) (l : List UInt8) (hv : Sl w v l) (v2 : Value) (m : List UInt8) (hv2 : Sl w v2 m) (hlong : 200 < l.length ∨ 200 < m.length) :
    Calls Try.prog 4 #[v, v2] w fun e w' => e = .returned (.bool true) ∧ Below w.heap.size w w' := by
  obtain ⟨ao, c, rfl, hc1, hc2, _⟩ := id hv
  obtain ⟨bo, dc, rfl, hd1, hd2, _⟩ := id hv2
  unfold maxLen at hc2 hd2
  clear hv hv2
  by_cases h1 : 200 < l.length
  · have hI : decide ((200 : Int) < (l.length : Int)) = true := by simp; omega
    go_enter Try.func4, Try.ntmps4
    go_wp2_with fail
    refine (alive_any _).mono ?_
    rintro e w1 ⟨rfl, hb⟩
    go_wp2
    go_ret
    exact ⟨rfl, hb⟩
  · have hI : decide ((200 : Int) < (l.length : Int)) = false := by simp; omega
    have hI2 : decide ((200 : Int) < (m.length : Int)) = true := by simp; omega
    go_enter Try.func4, Try.ntmps4
    go_wp2_with fail
    refine (alive_any _).mono ?_
    rintro e w1 ⟨rfl, hb⟩
    go_wp2
    go_ret
    exact ⟨rfl, hb⟩

theorem rk_new (w : World) : Rk (fun k => w.heap.size ≤ k) (w.alloc (.cells #[.slice none 0 0, .slice none 0 0, .slice none 0 0, .slice none 0 0] 28)) w.heap.size [] [] [] [] :=
  ⟨.slice none 0 0, .slice none 0 0, .slice none 0 0, .slice none 0 0, by simp, by simp, by simp, by simp, by simp, by simp, by simp, by simp, Sl.nil _, Sl.nil _, Sl.nil _, Sl.nil _, fun g hg => (by cases hg), fun g hg => (by cases hg), fun g hg => (by cases hg), fun g hg => (by cases hg), by simp, by simp, by simp, by simp, Nat.le_refl _⟩

set_option maxRecDepth 100000 in
set_option maxHeartbeats 4000000 in
theorem walkJournalOpens {w : World} (v : Value) (l : List UInt8) (hv : Sl w v l) (v2 : Value) (m : List UInt8) (hv2 : Sl w v2 m) :
    Calls Try.prog 4 #[v, v2] w fun e w' => e = .returned (.bool true) ∧ Below w.heap.size w w' := by
  by_cases hlong : 200 < l.length ∨ 200 < m.length
  · exact opens_long v l hv v2 m hv2 hlong
  obtain ⟨ao, c, rfl, hc1, hc2, _⟩ := id hv
  obtain ⟨bo, dc, rfl, hd1, hd2, _⟩ := id hv2
  unfold maxLen at hc2 hd2
  have hI : decide ((200 : Int) < (l.length : Int)) = false := by simp; omega
  have hI2 : decide ((200 : Int) < (m.length : Int)) = false := by simp; omega
  have hl2 : l.length ≤ 200 := by omega
  have hm2 : m.length ≤ 200 := by omega
  obtain ⟨st, n, hop⟩ := Opens.ex l
  have hop2 := hop.again
  have hnle := hop.le
  have hsh := hop.shrt
  have Hv := hide hv
  have Hv2 := hide hv2
  have Hop := hide hop
  have Hop2 := hide hop2
  have Hsh := hide hsh
  clear hv hv2 hop hop2 hsh hlong
  go_enter Try.func4, Try.ntmps4
  go_wp2_with fail
  refine (new_any w).mono ?_
  rintro e w1 ⟨rfl, rfl⟩
  have hb1 : Below w.heap.size w (w.alloc (.cells #[.slice none 0 0, .slice none 0 0, .slice none 0 0, .slice none 0 0] 72)) := below_new w _
  have hd1' : Dk (fun k => w.heap.size ≤ k) (w.alloc (.cells #[.slice none 0 0, .slice none 0 0, .slice none 0 0, .slice none 0 0] 72)) w.heap.size [] [] [] [] := (Dk.new (S := fun k => k = w.heap.size) w rfl _).mono (fun k _ h => by subst h; exact Nat.le_refl _)
  generalize (w.alloc (.cells #[.slice none 0 0, .slice none 0 0, .slice none 0 0, .slice none 0 0] 72)) = w1 at *
  obtain ⟨D, hD⟩ : ∃ D, w.heap.size = D := ⟨_, rfl⟩
  have hd1'' : Dk (fun k => w.heap.size ≤ k) w1 D [] [] [] [] := by rw [← hD]; exact hd1'
  rw [hD]
  have Hd1 := hide hd1''
  have HB1 := hide hb1
  have Hv1 := hide ((unhide Hv).later hb1)
  clear hd1' hd1'' hb1 hD
  go_wp2_with fail
  refine (append_ok D [] [] [] [] l _ w1 (unhide Hd1) (fun k hk => Nat.le_trans (unhide HB1).size hk) (unhide Hv1) (by simp; omega)).mono ?_
  rintro e w2 ⟨rfl, hd2k, hf2⟩
  rw [List.nil_append] at hd2k
  have hb2 : Below w.heap.size w w2 := Fr.bl (unhide HB1) hf2 (fun k h => h)
  have Hd2 := hide hd2k
  have HB2 := hide hb2
  have Hv2' := hide ((unhide Hv2).later hb2)
  clear hd2k hf2 hb2 Hd1 HB1 Hv1
  go_wp2_with fail
  refine (set_ok D l [] [] [] m _ w2 (unhide Hd2) (fun k hk => Nat.le_trans (unhide HB2).size hk) (unhide Hv2') (by omega)).mono ?_
  rintro e w3 ⟨rfl, hd3, hf3⟩
  have hb3 : Below w.heap.size w w3 := Fr.bl (unhide HB2) hf3 (fun k h => h)
  have hd3' : Dk (fun k => w.heap.size ≤ k ∧ k < w3.heap.size) w3 D l m [] [] := hd3.mono (fun k hk h => ⟨h, hk⟩)
  have Hd3 := hide hd3'
  have HB3 := hide hb3
  clear hd3 hd3' hf3 hb3 Hd2 HB2 Hv2'
  go_wp2_with fail
  have hr4 := rk_new w3
  have hb4 := below_new w3 (.cells #[.slice none 0 0, .slice none 0 0, .slice none 0 0, .slice none 0 0] 28)
  generalize (w3.alloc (.cells #[.slice none 0 0, .slice none 0 0, .slice none 0 0, .slice none 0 0] 28)) = w4 at *
  obtain ⟨M, hM⟩ : ∃ M, w3.heap.size = M := ⟨_, rfl⟩
  have hr4' : Rk (fun k => w3.heap.size ≤ k) w4 M [] [] [] [] := by rw [← hM]; exact hr4
  rw [hM]
  have HB4 := hide ((unhide HB3).trans (hb4.mono (unhide HB3).size))
  have Hd4 := hide ((unhide Hd3).later hb4)
  have Hz4 := hide hb4.size
  have Hr4 := hide hr4'
  have Hv4 := hide ((unhide Hv).later (unhide HB4))
  clear hr4 hr4' hb4 hM Hd3
  refine (refappend_ok M [] [] [] [] l _ w4 (unhide Hr4) (fun k hk => Nat.le_trans (unhide Hz4) hk) (unhide Hv4) (by simp; omega)).mono ?_
  rintro e w5 ⟨rfl, hr5, hf5⟩
  rw [List.nil_append] at hr5
  have hS5 : ∀ k, w3.heap.size ≤ k → w.heap.size ≤ k := fun k h => Nat.le_trans (unhide HB3).size h
  have hb5 : Below w.heap.size w w5 := Fr.bl (unhide HB4) hf5 hS5
  have HB5 := hide hb5
  have Hd5 := hide ((unhide Hd4).other hf5 (fun k _ h1 h2 => by have := h1.2; omega))
  have Hz5 := hide (Nat.le_trans (unhide Hz4) hf5.size)
  have Hr5 := hide hr5
  have Hv5 := hide ((unhide Hv2).later hb5)
  clear hr5 hf5 hb5 Hd4 Hr4 Hz4 HB4 Hv4
  go_wp2_with fail
  refine (refset_ok M l [] [] [] m _ w5 (unhide Hr5) (fun k hk => Nat.le_trans (unhide Hz5) hk) (unhide Hv5) (by omega)).mono ?_
  rintro e w6 ⟨rfl, hr6, hf6⟩
  have hb6 : Below w.heap.size w w6 := Fr.bl (unhide HB5) hf6 hS5
  have HB6 := hide hb6
  have Hd6 := hide ((unhide Hd5).other hf6 (fun k _ h1 h2 => by have := h1.2; omega))
  have Hz6 := hide (Nat.le_trans (unhide Hz5) hf6.size)
  have hr6' : Rk (fun k => w3.heap.size ≤ k ∧ k < w6.heap.size) w6 M l m [] [] := hr6.mono (fun k hk h => ⟨h, hk⟩)
  have Hr6 := hide hr6'
  clear hr6 hr6' hf6 hb6 Hd5 Hr5 Hz5 HB5 Hv5 Hv Hv2
  cases hdm : hdOf m with
  | none =>
    have Hdm := hide hdm
    clear hdm
    go_wp2_with fail
    refine (open_no D l m [] [] w6 (unhide Hd6) (by omega) (unhide Hdm)).mono ?_
    rintro e w7 ⟨rfl, hb7⟩
    have Hr7 := hide ((unhide Hr6).later hb7)
    have HB7 := hide ((unhide HB6).trans (hb7.mono (unhide HB6).size))
    clear hb7 Hr6 HB6 Hd6
    go_wp2_with fail
    refine (refjopen_any (S := fun _ => True) M l m [] [] st n w7 (unhide Hr7) (fun _ _ _ => trivial) (fun _ _ => trivial) (unhide Hop)).mono ?_
    rintro e w8 (⟨t, v, o, h, _⟩ | ⟨_, rfl, hb8⟩)
    · rw [unhide Hdm] at h; cases h
    have HB8 := hide ((unhide HB7).trans (hb8.mono (unhide HB7).size))
    clear hb8 HB7 Hr7
    go_wp2_with fail
    refine (alive_any _).mono ?_
    rintro e w9 ⟨rfl, hb9⟩
    have HB9 := hide ((unhide HB8).trans (hb9.mono (unhide HB8).size))
    clear hb9 HB8
    go_wp2
    go_ret
    exact ⟨rfl, unhide HB9⟩
  | some tvo =>
    obtain ⟨t, v, o⟩ := tvo
    have Hdm := hide hdm
    clear hdm
    go_wp2_with fail
    refine (open_jd (S := fun k => (w.heap.size ≤ k ∧ k < w3.heap.size) ∨ w6.heap.size ≤ k) D l m [] [] t v o st n w6 (unhide Hd6) (fun k _ h => .inl h) (fun k h => .inr h) (by omega) (by omega) (unhide Hdm) (unhide Hop)).mono ?_
    rintro e w7 ⟨B, sf', sc', rfl, hB, hj7, hf7, _⟩
    have hz7 := hf7.size
    have hS7 : ∀ k, ((w.heap.size ≤ k ∧ k < w3.heap.size) ∨ w6.heap.size ≤ k) → w.heap.size ≤ k := fun k h => by have := (unhide HB6).size; rcases h with h | h <;> omega
    have hr7 := (unhide Hr6).other hf7 (fun k _ h1 h2 => by rcases h2 with h2 | h2 <;> omega)
    have Hr7 := hide hr7
    have Hj7 := hide hj7.shrink
    have HB7 := hide (Fr.bl (unhide HB6) hf7 hS7)
    clear hr7 hj7 hf7 Hr6 HB6 Hd6
    go_wp2_with fail
    refine (refjopen_any (S := fun k => (w3.heap.size ≤ k ∧ k < w6.heap.size) ∨ w7.heap.size ≤ k) M l m [] [] st n w7 (unhide Hr7) (fun k _ h => .inl h) (fun k h => .inr h) (unhide Hop)).mono ?_
    rintro e w8 (⟨t', v', o', h, J, sg', sh', rfl, hJ, hj8, hf8, _⟩ | ⟨h, _, _⟩)
    rotate_left
    · rw [unhide Hdm] at h; cases h
    obtain ⟨rfl, rfl, rfl⟩ : t = t' ∧ v = v' ∧ o = o' := by
      have := (unhide Hdm).symm.trans h
      simp only [Option.some.injEq, Prod.mk.injEq] at this
      exact this
    have hS8 : ∀ k, ((w3.heap.size ≤ k ∧ k < w6.heap.size) ∨ w7.heap.size ≤ k) → w.heap.size ≤ k := fun k h => by have := (unhide HB3).size; have := (unhide HB7).size; rcases h with h | h <;> omega
    have Hjd8 := hide ((unhide Hj7).other hf8 (fun k _ h1 h2 => by
      have := h1.2
      rcases h1.1 with h1 | h1 <;> rcases h2 with h2 | h2 <;> omega))
    have HB8 := hide (Fr.bl (unhide HB7) hf8 hS8)
    have Hjr8 := hide hj8
    clear h hj8 hf8 Hj7 HB7 Hr7
    have hln : (l.take n).length = n := by rw [List.length_take]; omega
    go_wp2_with fail
    refine (open_yes D (l.take n) m sf' sc' t v o st n w8 (unhide Hjd8).dk (by omega) (by omega) (unhide Hdm) (unhide Hop2)).mono ?_
    rintro e w9 ⟨B2, rv2, rfl, hB2, _, hj9, hx9⟩
    have hb9 : Below w8.heap.size w8 w9 := by
      rcases hx9 with h | h
      · exact h.2
      · have := h.1; omega
    obtain ⟨rv1, hjp1⟩ := ((unhide Hjd8).later hb9).jp
    obtain ⟨P9, hrj9⟩ := ((unhide Hjr8).later hb9).rj
    obtain ⟨b, d, L⟩ := st
    have hd16 : d.length ≤ 65536 := (unhide Hsh).1
    have hL16 : ∀ x ∈ L, x.length ≤ 1099511627776 := fun x hx => by have := (unhide Hsh).2 x hx; omega
    have Hjp1 := hide hjp1
    have Hjp2 := hide hj9
    have Hrj9 := hide hrj9
    have HL16 := hide hL16
    have Hjd9 := hide ((unhide Hjd8).later hb9)
    have Hjr9 := hide ((unhide Hjr8).later hb9)
    have HB9 := hide ((unhide HB8).trans (hb9.mono (unhide HB8).size))
    clear hjp1 hj9 hrj9 hx9 hb9 hL16 Hjd8 Hjr8 HB8
    go_wp2_with fail
    refine (samej_any B D J M t v o b d L rv1 w9 (unhide Hjp1) (unhide Hrj9) (by omega) (unhide HL16)).mono ?_
    rintro e w10 ⟨rfl, hb10⟩
    have Hjp2' := hide ((unhide Hjp2).later hb10)
    have Hrj10 := hide ((unhide Hrj9).later hb10)
    have Hjd10 := hide ((unhide Hjd9).later hb10)
    have Hjr10 := hide ((unhide Hjr9).later hb10)
    have HB10 := hide ((unhide HB9).trans (hb10.mono (unhide HB9).size))
    clear hb10 Hjp1 Hjp2 Hrj9 Hjd9 Hjr9 HB9
    go_wp2_with fail
    refine (samej_any B2 D J M t v o b d L rv2 w10 (unhide Hjp2') (unhide Hrj10) (by omega) (unhide HL16)).mono ?_
    rintro e w11 ⟨rfl, hb11⟩
    have hdk := ((unhide Hjd10).later hb11).dk
    have hrk := ((unhide Hjr10).later hb11).rk
    obtain ⟨v1, v3, k1, k3, s1, _⟩ := hrk.now
    have HB11 := hide ((unhide HB10).trans (hb11.mono (unhide HB10).size))
    have Hdk := hide hdk
    obtain ⟨no, ncp, rfl, _⟩ := id s1
    have hMl := World.block_lt_of_cell? w11 _ k1
    have Hs1 := hide s1
    rw [hln] at k1
    have hcv0 : ∀ y, Below w11.heap.size w11 y → (convert 26 9 (.slice no n ncp)).run Try.prog y = .ok (.string (bs (l.take n))) y := fun y hy => by
      have := conv_sl y _ _ ((unhide Hs1).later hy)
      rwa [hln] at this
    generalize hX : bs (l.take n) = X at *
    have HX := hide hX
    have Hcv0 := hide hcv0
    clear hX hdk hrk s1 hb11 Hjp2' Hrj10 Hjd10 Hjr10 HB10 hcv0
    have kd : w11.drew.cell? ⟨M, 1, none⟩ = some (.slice no n ncp) := k1
    have cvd := (unhide Hcv0) w11.drew (Below.refl _ _).drew
    go_wp2_with fail
    go_region_held (fun y => y.cell? ⟨M, 1, none⟩ = some (.slice no n ncp) ∧ (convert 26 9 (.slice no n ncp)).run Try.prog y = .ok (.string X) y) (first | (refine ⟨?_, ?_⟩ <;> assumption) | go_keep) (first | (go_at_call 29; (refine (alive_any _).mono ?_); rintro e w12 ⟨rfl, hb12⟩; have hbb := (Below.refl w11.heap.size w11).drew.trans hb12; have y1 := (hbb.cell (p := ⟨M, 1, none⟩) hMl).trans k1; have y2 := (unhide Hcv0) w12 hbb; have HB12 := hide hbb; clear hb12 hbb) | (go_at_call 27; have hF := file_g D (l.take n) m sf' sc' w12 ((unhide Hdk).later (unhide HB12)); rw [hln] at hF; (refine hF.mono ?_); rintro e w13 ⟨g13, rfl, ho13, hb13⟩; have hbb := (unhide HB12).trans (hb13.mono (unhide HB12).size); have z1 := (hbb.cell (p := ⟨M, 1, none⟩) hMl).trans k1; have z2 := (unhide Hcv0) w13 hbb; have z3 : (convert 26 9 (.slice (some ⟨g13, 0, none⟩) n n)).run Try.prog w13 = .ok (.string X) w13 := (by have := conv_sl w13 _ _ ho13.sl; rw [unhide HX] at this; exact this); have HB13 := hide hbb; clear hb13 hbb ho13 hF))
    have HZ := hide ((unhide HB11).trans ((unhide HB13).mono (unhide HB11).size))
    go_wp2
    go_ret
    exact ⟨rfl, unhide HZ⟩

end Go.Proofs.Yteanjnkfoddfmaa
