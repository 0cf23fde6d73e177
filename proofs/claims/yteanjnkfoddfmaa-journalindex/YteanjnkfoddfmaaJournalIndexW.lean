/-
  The walk of the law JournalIndex.
-/
import Derived.Test.YteanjnkfoddfmaaJ6
namespace Go.Proofs.Yteanjnkfoddfmaa
open Go.RowKit
set_option linter.unusedVariables false

/-- The journal of the law, behind so many records. -/
def Ix (w : World) (B D : Nat) (n i : Nat) (wr : World) : Prop :=
  ∃ nf L sf sc, Jd (fun k => w.heap.size ≤ k) wr B D nf [] sf sc 0 0 0 (0, [], L) ∧ L.length = n ∧ nf.length ≤ 218 * i ∧ (∀ x ∈ L, x.length ≤ 200) ∧ Below w.heap.size w wr

set_option maxRecDepth 100000 in
set_option maxHeartbeats 20000000 in
theorem walkJournalIndex {w : World} (v : Value) (ls : List (List UInt8)) (hv : Bss w v ls) (cut : Int) (wcut : (Lit.int .i64 cut).wf = true) (base : Int) (wbase : (Lit.int .i64 base).wf = true) :
    Calls Try.prog 7 #[v, .int .i64 cut, .int .i64 base] w fun e w' => e = .returned (.bool true) ∧ Below w.heap.size w w' := by
  have hcb := bounds_i64 wcut
  have hbb := bounds_i64 wbase
  have hS : ∀ {W : World}, Below w.heap.size w W → ∀ k, W.heap.size ≤ k → (fun k => w.heap.size ≤ k) k := fun hb k hk => Nat.le_trans hb.size hk
  obtain ⟨ao, c, rfl, hc1, hc2, _⟩ := id hv
  unfold maxLen at hc2
  have HV := hide hv
  have lb := fun y : World => sl_mark y #[.int .u8 98] [98] rfl (by decide) (1, 2)
  have qb := fun y : World => Lib.run_convert_bytes_const (P := Try.prog) y 26 5 #[.int .u8 98] 1 1 Try.underlying26 Try.underlying5
  have LB := hide lb
  clear hv wcut wbase lb
  go_enter Try.func7, Try.ntmps7
  go_wp2_with fail
  refine (new_any w).mono ?_
  rintro e w1 ⟨rfl, rfl⟩
  have hb1 : Below w.heap.size w (w.alloc (.cells #[.slice none 0 0, .slice none 0 0, .slice none 0 0, .slice none 0 0] 72)) := below_new w _
  have hd1 : Dk (fun k => w.heap.size ≤ k) (w.alloc (.cells #[.slice none 0 0, .slice none 0 0, .slice none 0 0, .slice none 0 0] 72)) w.heap.size [] [] [] [] := Dk.new w (Nat.le_refl _) _
  generalize (w.alloc (.cells #[.slice none 0 0, .slice none 0 0, .slice none 0 0, .slice none 0 0] 72)) = w1 at *
  obtain ⟨D, hD⟩ : ∃ D, w.heap.size = D := ⟨_, rfl⟩
  have hd2 : Dk (fun k => w.heap.size ≤ k) w1 D [] [] [] [] := by rw [← hD]; exact hd1
  rw [hD]
  have HDe := hide hD
  clear hd1 hD
  go_wp2_with fail
  refine (open_jd (S := fun k => w.heap.size ≤ k) D [] [] [] [] 0 0 0 (0, [], []) 0 w1 hd2 (fun k _ h => h) (hS hb1) (by simp) (by simp) hdOf_nil opens_nil).mono ?_
  rintro e w2 ⟨B, sf, sc, rfl, hB, hj2, hf2, _⟩
  have HB2 := hide (Fr.bl hb1 hf2 (fun k h => h))
  have Hj2 := hide hj2
  clear hd2 hj2 hf2
  go_wp2_with fail
  refine (alive_any _).mono ?_
  rintro e w3 ⟨rfl, hb3⟩
  have HB3 := hide ((unhide HB2).trans (hb3.mono (unhide HB2).size))
  have Hj3 := hide ((unhide Hj2).later hb3)
  clear hb3 Hj2
  go_wp2
  go_loopw [9, 10] (fun nv iv wr => ∃ n i : Nat, nv = .int .i64 n ∧ iv = .int .i64 i ∧ i ≤ 60 ∧ n ≤ i ∧ Hid (Ix w B D n i wr)) (fun _ iv _ => 60 - (intOf iv).toNat)
  case atStart => exact ⟨0, 0, rfl, rfl, by decide, by decide, ⟨_, _, _, _, unhide Hj3, rfl, by simp, fun x hx => by simp at hx, unhide HB3⟩⟩
  case round =>
    obtain ⟨n, i, rfl, rfl, hi, hni, Hh⟩ := hrel
    obtain ⟨nf, L, sf', sc', hj, hLn, hnf, hL, hb⟩ := unhide Hh
    by_cases hcond : i < ls.length ∧ i < 60
    · have hi1 : decide ((i : Int) < (ls.length : Int)) = true := by simp; omega
      have hi2 : decide ((i : Int) < 60) = true := by simp; omega
      obtain ⟨lb, lo, rfl⟩ := HV.out.addr (by omega)
      obtain ⟨xo, xd, hcell0, hsx0⟩ := HV.out.cell i hcond.1
      generalize hX : ls[i] = x at *
      have hcell := (hb.cell (p := ⟨lb, lo + i, none⟩) (World.block_lt_of_cell? _ _ hcell0)).trans hcell0
      have hsx := hsx0.later hb
      have hxm : x.length ≤ 9223372036854775807 := by obtain ⟨_, _, e, h1, h2, _⟩ := id hsx; injection e with e1 e2 e3; unfold maxLen at h2; omega
      clear hX hcell0 hsx0
      by_cases hlong : 200 < x.length
      · have hI : decide ((200 : Int) < x.length) = true := by simp; omega
        have HH : Hid (Ix w B D n (i + 1) wr) := ⟨nf, L, sf', sc', hj, hLn, by omega, hL, hb⟩
        clear hj hb hsx hL Hh
        go_wp2
        exact ⟨⟨n, i + 1, rfl, by simp, by omega, by omega, HH⟩, by simp only [intOf]; omega⟩
      · have hI : decide ((200 : Int) < x.length) = false := by simp; omega
        have hsm := (Ch.add x).small ⟨Nat.zero_le _, by show x.length ≤ 65516; omega⟩ (by show x.length ≤ 200; omega)
        have Hj := hide hj
        have Hsx := hide hsx
        have HB := hide hb
        clear hj hsx hb Hh
        go_wp2_with fail
        refine (append_j B D nf [] sf' sc' 0 0 0 0 [] x L _ wr (unhide Hj) (hS (unhide HB)) (unhide Hsx) (by omega) (by omega) (by omega)).mono ?_
        rintro e w5 ⟨rfl, hj5, hf5⟩
        have HB5 := hide (Fr.bl (unhide HB) hf5 (fun k h => h))
        obtain ⟨rv5, hjp5⟩ := hj5.jp
        have Hj5 := hide hj5
        have Hjp5 := hide hjp5
        clear hj5 hf5 hjp5
        go_wp2_with fail
        refine (last_any B D 0 0 0 0 [] (L ++ [x]) rv5 w5 (unhide Hjp5)).mono ?_
        rintro e w6 ⟨rfl, q, rfl⟩
        have hlen : ((0 + (L ++ [x]).length : Nat) : Int) = (n : Int) + 1 := by rw [List.length_append, hLn]; simp
        rw [hlen]
        have HH : Hid (Ix w B D (n + 1) (i + 1) (w5.drewN q)) := ⟨_, _, _, _, (unhide Hj5).drewN q, by rw [List.length_append, hLn]; rfl, by rw [List.length_append, fr_length]; omega, fun y hy => by
          rcases List.mem_append.1 hy with e | e
          · exact hL y e
          · simp at e; subst e; omega, belowN (unhide HB5) q⟩
        clear hlen
        go_wp2
        exact ⟨⟨n + 1, i + 1, by simp, by simp, by omega, by omega, HH⟩, by simp only [intOf]; omega⟩
    · by_cases hil : i < ls.length
      · have hi1 : decide ((i : Int) < (ls.length : Int)) = true := by simp; omega
        have hi2 : decide ((i : Int) < 60) = false := by simp; omega
        obtain ⟨rv, hjp⟩ := hj.jp
        have Hjp := hide hjp
        have HL := hide hL
        have hsd := Side.of hj (fun k h => h) hb
        have Hsd := hide hsd
        clear hj hjp hb Hh hL hsd
        go_wp2_with fail
        refine (records_any B D 0 0 0 0 [] L rv wr (unhide Hjp) (fun x hx => by have := unhide HL x hx; omega)).mono ?_
        rintro e w5 ⟨g, rfl, hr5, hb5⟩
        have hq5 := hr5.bsq
        rw [hLn] at hq5 ⊢
        have hs5 := ((unhide Hsd).grow hb5).mono (Q := fun k => wr.heap.size ≤ k ∧ k < w5.heap.size) (fun k hk => .inr hk)
        generalize (fun k => wr.heap.size ≤ k ∧ k < w5.heap.size) = P at hq5 hs5
        have Hs5 := hide hs5
        have HQ5 := hide hq5
        clear hr5 hb5 Hjp Hsd hs5 hq5
        by_cases hc : 0 ≤ cut ∧ cut ≤ n
        · obtain ⟨k, rfl⟩ : ∃ k : Nat, cut = k := ⟨cut.toNat, by omega⟩
          have hkn : k ≤ n := by omega
          have hsm := (Ch.first (k - 0)).small ⟨by show k - 0 ≤ 1099511627776; omega, Nat.zero_le _⟩ (Nat.zero_le _)
          go_wp2_with fail
          refine ((unhide Hs5).op (fun S hj hS => cut_j B D nf [] sf' sc' 0 0 0 0 [] L k w5 hj hS (Nat.zero_le _) (by omega) (by omega))).mono ?_
          rintro e w6 ⟨rfl, hs6, hk6⟩
          rw [Nat.sub_zero] at hs6
          have hdc1 : decide (0 ≤ (k : Int)) = true := by simp
          have hdc2 : decide ((k : Int) ≤ (n : Int)) = true := by simp; omega
          have hnf6 : (nf ++ fr (Ch.first k).enc).length ≤ 218 * 61 := by rw [List.length_append, fr_length]; rw [Nat.sub_zero] at hsm; omega
          have hHk : k ≤ L.length := by omega
          obtain ⟨rv6, hjp6⟩ := hs6.jp
          have HQ6 := hide ((unhide HQ5).frame hk6)
          have Hs6 := hide hs6
          have Hjp6 := hide hjp6
          clear hs6 hjp6 hk6 Hs5 HQ5
          have hlk : (L.take k).length = k := by rw [List.length_take]; omega
          go_wp2_with fail
          go_region_held (fun _ => True) (first | trivial | go_keep) (first | (go_at_call 36; refine (records_any B D 0 0 0 0 [] (L.take k) rv6 _ ((unhide Hjp6).drew) (fun x hx => by have := unhide HL x (List.mem_of_mem_take hx); omega)).mono ?_; rintro e w7 ⟨g7, rfl, hr7, hb7⟩; have HS7 : Hid (Bss w7 (.slice (some ⟨g7, 0, none⟩) k k) (L.take k)) := (by have := hr7.bss; rw [hlk] at this; exact this); have hbb7 := (Below.refl _ _).drew.trans hb7; have HQ7 := hide ((unhide HQ6).frame (Kept.of hbb7 (unhide Hs6).plt)); have Hs7 := hide ((unhide Hs6).later hbb7); clear hr7 hb7 hbb7) | (go_at_call 38; refine (same_yes _ _ (L.take k) _ (unhide HS7) ((unhide HQ7).take (k) hHk).bss).mono ?_; rintro e w8 ⟨rfl, q8, rfl⟩))
          have Hs8 := hide ((unhide Hs7).drewN q8)
          have HQ8 : Hid (Bsq P (w7.drewN q8) (.slice (some ⟨g, 0, none⟩) n n) L) := unhide HQ7
          clear Hs7 HQ7 HS7 HQ6 Hs6 Hjp6
          generalize w7.drewN q8 = W8 at *
          have HB9 : Hid (Side w P (W8.alloc (.cells #[.int .u8 98] 5 (1, 2))) B D _ _ _ _ _ _ _ _) := (unhide Hs8).later (below_new W8 _)
          have HQ9 := hide ((unhide HQ8).frame (Kept.of (below_new W8 (.cells #[.int .u8 98] 5 (1, 2))) (unhide Hs8).plt))
          have Hl9 := hide (unhide LB W8)
          go_wp2_with fail
          generalize W8.alloc (.cells #[.int .u8 98] 5 (1, 2)) = w9 at *
          by_cases hbs : 0 ≤ base ∧ base ≤ 1099511627776
          · obtain ⟨bb, rfl⟩ : ∃ b : Nat, base = b := ⟨base.toNat, by omega⟩
            have hsm9 := (Ch.lay bb [98]).small ⟨by show bb ≤ 1099511627776; omega, by show 1 ≤ 65516; decide⟩ (by show 1 ≤ 200; decide)
            refine ((unhide HB9).op (fun S hj hS => rebase_j B D _ [] sf' sc' 0 0 0 0 [] [98] (L.take k) bb _ w9 hj hS (unhide Hl9) (by decide) (by omega) (by omega))).mono ?_
            rintro e w10 ⟨rfl, hs10, hk10⟩
            rw [hlk] at hs10
            obtain ⟨rv10, hjp10⟩ := hs10.jp
            have HQ10 := hide ((unhide HQ9).frame hk10)
            have Hs10 := hide hs10
            have Hjp10 := hide hjp10
            clear hs10 hk10 hjp10 HB9 HQ9 Hl9 Hs8 HQ8
            go_wp2_with fail
            refine (base_any B D 0 0 0 bb [98] _ rv10 w10 (unhide Hjp10) (by decide)).mono ?_
            rintro e w11 ⟨g11, c11, rfl, hs11, hb11⟩
            have HQ11 := hide ((unhide HQ10).frame (Kept.of hb11 (unhide Hs10).plt))
            have Hjp11 := hide ((unhide Hjp10).later hb11)
            have HB11 := hide ((unhide Hs10).below.trans (hb11.mono (unhide Hs10).below.size))
            have hcv : (convert 26 9 (.slice (some ⟨g11, 0, none⟩) 1 c11)).run Try.prog w11 = .ok (.string ⟨#[98]⟩) w11 := conv_sl w11 _ _ hs11
            clear hs11 hb11 HQ10 Hs10 Hjp10
            by_cases hbm : k < bb
            · have hst : (L.take k).drop (goneN 0 bb k) = [] := by rw [show goneN 0 bb k = k from if_neg (by omega)]; exact List.drop_eq_nil_of_le (by omega)
              rw [hst] at Hjp11
              have hdb : decide ((k : Int) < (bb : Int)) = true := by simp; omega
              clear hst
              go_wp2_with fail
              refine (records_any B D 0 0 0 bb [98] [] rv10 w11 (unhide Hjp11) (fun x hx => by simp at hx)).mono ?_
              rintro e w12 ⟨g12, rfl, hr12, hb12⟩
              have Hjp12 := hide ((unhide Hjp11).later hb12)
              have HB12 := hide ((unhide HB11).trans (hb12.mono (unhide HB11).size))
              clear hr12 hb12
              go_wp2_with fail
              refine (last_any B D 0 0 0 bb [98] [] rv10 w12 (unhide Hjp12)).mono ?_
              rintro e w13 ⟨rfl, q, rfl⟩
              rw [show ((bb + ([] : List (List UInt8)).length : Nat) : Int) = bb from rfl]
              go_wp2
              go_ret
              exact ⟨rfl, belowN (unhide HB12) q⟩
            · have hst : goneN 0 bb k = bb := by rw [show goneN 0 bb k = bb - 0 from if_pos (by omega)]; omega
              rw [hst] at Hjp11
              have hdb : decide ((k : Int) < (bb : Int)) = false := by simp; omega
              have hbm' : bb ≤ k := by omega
              have hlen : ((L.take k).drop bb).length = k - bb := by rw [List.length_drop, hlk]
              have hlast : ((bb + ((L.take k).drop bb).length : Nat) : Int) = (k : Int) := by rw [hlen]; omega
              have hHb : bb ≤ (L.take k).length := by omega
              clear hst
              by_cases hnb : n = bb
              · subst hnb
                have hen : k = n := by omega
                try subst hen
                have HT : Hid (Bss w11 (.slice (some ⟨g, 0, none⟩) 0 0) ((L.take k).drop k)) := by
                  show Bss _ _ _
                  have := (((unhide HQ11).take (k) hHk).drop k hHb).bss
                  rw [if_pos rfl, Nat.sub_self] at this
                  exact this
                clear hlen
                have hlen : ((L.take k).drop k).length = 0 := by rw [List.length_drop, hlk]; omega
                clear hbm hbm'
                go_wp2_with fail
                go_region_held (fun _ => True) (first | trivial | go_keep) (first | (go_at_call 37; (refine (last_b B D 0 0 0 k [98] _ rv10 _ ((unhide Hjp11).drew) _ hlast).mono ?_); rintro e w12 ⟨rfl, hb12⟩; have hbb12 := (Below.refl _ _).drew.trans hb12; have Hjp12 := hide ((unhide Hjp11).later hbb12); have HB12 := hide ((unhide HB11).trans (hbb12.mono (unhide HB11).size)); have HT12 := hide ((unhide HT).below hbb12 (Nat.le_refl _)); clear hbb12 hb12) | (go_at_call 36; (refine (records_b B D 0 0 0 k [98] _ rv10 _ (unhide Hjp12) (fun x hx => by have := unhide HL x (List.mem_of_mem_take (List.mem_of_mem_drop hx)); omega) _ hlen).mono ?_); rintro e w13 ⟨g13, rfl, hr13, hb13⟩; have HS13 := hide hr13.bss; have HB13 := hide ((unhide HB12).trans (hb13.mono (unhide HB12).size)); have HT13 := hide ((unhide HT12).below hb13 (Nat.le_refl _)); clear hr13 hb13) | (go_at_call 38; (refine (same_yes _ _ ((L.take k).drop k) _ (unhide HS13) (unhide HT13)).mono ?_); rintro e w14 ⟨rfl, q14, rfl⟩))
                go_wp2
                go_ret
                exact ⟨rfl, belowN (unhide HB13) _⟩
              · have HT : Hid (Bss w11 (.slice (some ⟨g, bb, none⟩) (k - bb) (n - bb)) ((L.take k).drop bb)) := by
                  show Bss _ _ _
                  have := (((unhide HQ11).take (k) hHk).drop bb hHb).bss
                  rw [if_neg hnb] at this
                  simpa [Addr.add_lit] using this
                go_wp2_with fail
                go_region_held (fun _ => True) (first | trivial | go_keep) (first | (go_at_call 37; (refine (last_b B D 0 0 0 bb [98] _ rv10 _ ((unhide Hjp11).drew) _ hlast).mono ?_); rintro e w12 ⟨rfl, hb12⟩; have hbb12 := (Below.refl _ _).drew.trans hb12; have Hjp12 := hide ((unhide Hjp11).later hbb12); have HB12 := hide ((unhide HB11).trans (hbb12.mono (unhide HB11).size)); have HT12 := hide ((unhide HT).below hbb12 (Nat.le_refl _)); clear hbb12 hb12) | (go_at_call 36; (refine (records_b B D 0 0 0 bb [98] _ rv10 _ (unhide Hjp12) (fun x hx => by have := unhide HL x (List.mem_of_mem_take (List.mem_of_mem_drop hx)); omega) _ hlen).mono ?_); rintro e w13 ⟨g13, rfl, hr13, hb13⟩; have HS13 := hide hr13.bss; have HB13 := hide ((unhide HB12).trans (hb13.mono (unhide HB12).size)); have HT13 := hide ((unhide HT12).below hb13 (Nat.le_refl _)); clear hr13 hb13) | (go_at_call 38; (refine (same_yes _ _ ((L.take k).drop bb) _ (unhide HS13) (unhide HT13)).mono ?_); rintro e w14 ⟨rfl, q14, rfl⟩))
                go_wp2
                go_ret
                exact ⟨rfl, belowN (unhide HB13) _⟩
          · refine (rebase_j_no B base _ w9 (by omega)).mono ?_
            rintro e w10 ⟨rfl, rfl⟩
            have HB10 := hide (unhide HB9).below
            clear HB9 HQ9 Hl9 Hs8 HQ8
            by_cases hb0 : base < 0
            · have hdb0 : decide (base < 0) = true := by simpa using hb0
              go_wp2
              go_ret
              exact ⟨rfl, unhide HB10⟩
            · have hdb0 : decide (base < 0) = false := by simpa using hb0
              have hdb1 : decide ((1099511627776 : Int) < base) = true := by simp; omega
              go_wp2
              go_ret
              exact ⟨rfl, unhide HB10⟩
        · have hc' : cut < (0 : Nat) ∨ (0 : Nat) + L.length < cut := by simp; omega
          obtain ⟨rvx, hjx⟩ := (unhide Hs5).jp
          have Hjx := hide hjx
          clear hjx
          go_wp2_with fail
          refine (cut_j_no B D 0 0 0 0 [] L cut rvx w5 (unhide Hjx) hc').mono ?_
          rintro e w6 ⟨rfl, hb6⟩
          have hs6 := (unhide Hs5).later hb6
          have hk6 := Kept.of hb6 (unhide Hs5).plt
          have hnf6 : nf.length ≤ 218 * 61 := by omega
          have hHk : n ≤ L.length := by omega
          have hLt : L.take n = L := by rw [← hLn]; exact List.take_length
          rw [← hLt] at hs6
          clear hb6 hLt
          by_cases hc0 : 0 ≤ cut
          · have hdc1 : decide (0 ≤ cut) = true := by simpa using hc0
            have hdc2 : decide (cut ≤ (n : Int)) = false := by simp; omega
            obtain ⟨rv6, hjp6⟩ := hs6.jp
            have HQ6 := hide ((unhide HQ5).frame hk6)
            have Hs6 := hide hs6
            have Hjp6 := hide hjp6
            clear hs6 hjp6 hk6 Hs5 HQ5
            have hlk : (L.take n).length = n := by rw [List.length_take]; omega
            go_wp2_with fail
            go_region_held (fun _ => True) (first | trivial | go_keep) (first | (go_at_call 36; refine (records_any B D 0 0 0 0 [] (L.take n) rv6 _ ((unhide Hjp6).drew) (fun x hx => by have := unhide HL x (List.mem_of_mem_take hx); omega)).mono ?_; rintro e w7 ⟨g7, rfl, hr7, hb7⟩; have HS7 : Hid (Bss w7 (.slice (some ⟨g7, 0, none⟩) n n) (L.take n)) := (by have := hr7.bss; rw [hlk] at this; exact this); have hbb7 := (Below.refl _ _).drew.trans hb7; have HQ7 := hide ((unhide HQ6).frame (Kept.of hbb7 (unhide Hs6).plt)); have Hs7 := hide ((unhide Hs6).later hbb7); clear hr7 hb7 hbb7) | (go_at_call 38; refine (same_yes _ _ (L.take n) _ (unhide HS7) ((unhide HQ7).take (n) hHk).bss).mono ?_; rintro e w8 ⟨rfl, q8, rfl⟩))
            have Hs8 := hide ((unhide Hs7).drewN q8)
            have HQ8 : Hid (Bsq P (w7.drewN q8) (.slice (some ⟨g, 0, none⟩) n n) L) := unhide HQ7
            clear Hs7 HQ7 HS7 HQ6 Hs6 Hjp6
            generalize w7.drewN q8 = W8 at *
            have HB9 : Hid (Side w P (W8.alloc (.cells #[.int .u8 98] 5 (1, 2))) B D _ _ _ _ _ _ _ _) := (unhide Hs8).later (below_new W8 _)
            have HQ9 := hide ((unhide HQ8).frame (Kept.of (below_new W8 (.cells #[.int .u8 98] 5 (1, 2))) (unhide Hs8).plt))
            have Hl9 := hide (unhide LB W8)
            go_wp2_with fail
            generalize W8.alloc (.cells #[.int .u8 98] 5 (1, 2)) = w9 at *
            by_cases hbs : 0 ≤ base ∧ base ≤ 1099511627776
            · obtain ⟨bb, rfl⟩ : ∃ b : Nat, base = b := ⟨base.toNat, by omega⟩
              have hsm9 := (Ch.lay bb [98]).small ⟨by show bb ≤ 1099511627776; omega, by show 1 ≤ 65516; decide⟩ (by show 1 ≤ 200; decide)
              refine ((unhide HB9).op (fun S hj hS => rebase_j B D _ [] sf' sc' 0 0 0 0 [] [98] (L.take n) bb _ w9 hj hS (unhide Hl9) (by decide) (by omega) (by omega))).mono ?_
              rintro e w10 ⟨rfl, hs10, hk10⟩
              rw [hlk] at hs10
              obtain ⟨rv10, hjp10⟩ := hs10.jp
              have HQ10 := hide ((unhide HQ9).frame hk10)
              have Hs10 := hide hs10
              have Hjp10 := hide hjp10
              clear hs10 hk10 hjp10 HB9 HQ9 Hl9 Hs8 HQ8
              go_wp2_with fail
              refine (base_any B D 0 0 0 bb [98] _ rv10 w10 (unhide Hjp10) (by decide)).mono ?_
              rintro e w11 ⟨g11, c11, rfl, hs11, hb11⟩
              have HQ11 := hide ((unhide HQ10).frame (Kept.of hb11 (unhide Hs10).plt))
              have Hjp11 := hide ((unhide Hjp10).later hb11)
              have HB11 := hide ((unhide Hs10).below.trans (hb11.mono (unhide Hs10).below.size))
              have hcv : (convert 26 9 (.slice (some ⟨g11, 0, none⟩) 1 c11)).run Try.prog w11 = .ok (.string ⟨#[98]⟩) w11 := conv_sl w11 _ _ hs11
              clear hs11 hb11 HQ10 Hs10 Hjp10
              by_cases hbm : n < bb
              · have hst : (L.take n).drop (goneN 0 bb n) = [] := by rw [show goneN 0 bb n = n from if_neg (by omega)]; exact List.drop_eq_nil_of_le (by omega)
                rw [hst] at Hjp11
                have hdb : decide ((n : Int) < (bb : Int)) = true := by simp; omega
                clear hst
                go_wp2_with fail
                refine (records_any B D 0 0 0 bb [98] [] rv10 w11 (unhide Hjp11) (fun x hx => by simp at hx)).mono ?_
                rintro e w12 ⟨g12, rfl, hr12, hb12⟩
                have Hjp12 := hide ((unhide Hjp11).later hb12)
                have HB12 := hide ((unhide HB11).trans (hb12.mono (unhide HB11).size))
                clear hr12 hb12
                go_wp2_with fail
                refine (last_any B D 0 0 0 bb [98] [] rv10 w12 (unhide Hjp12)).mono ?_
                rintro e w13 ⟨rfl, q, rfl⟩
                rw [show ((bb + ([] : List (List UInt8)).length : Nat) : Int) = bb from rfl]
                go_wp2
                go_ret
                exact ⟨rfl, belowN (unhide HB12) q⟩
              · have hst : goneN 0 bb n = bb := by rw [show goneN 0 bb n = bb - 0 from if_pos (by omega)]; omega
                rw [hst] at Hjp11
                have hdb : decide ((n : Int) < (bb : Int)) = false := by simp; omega
                have hbm' : bb ≤ n := by omega
                have hlen : ((L.take n).drop bb).length = n - bb := by rw [List.length_drop, hlk]
                have hlast : ((bb + ((L.take n).drop bb).length : Nat) : Int) = (n : Int) := by rw [hlen]; omega
                have hHb : bb ≤ (L.take n).length := by omega
                clear hst
                by_cases hnb : n = bb
                · subst hnb
                  have hen : n = n := by omega
                  try subst hen
                  have HT : Hid (Bss w11 (.slice (some ⟨g, 0, none⟩) 0 0) ((L.take n).drop n)) := by
                    show Bss _ _ _
                    have := (((unhide HQ11).take (n) hHk).drop n hHb).bss
                    rw [if_pos rfl, Nat.sub_self] at this
                    exact this
                  clear hlen
                  have hlen : ((L.take n).drop n).length = 0 := by rw [List.length_drop, hlk]; omega
                  clear hbm hbm'
                  go_wp2_with fail
                  go_region_held (fun _ => True) (first | trivial | go_keep) (first | (go_at_call 37; (refine (last_b B D 0 0 0 n [98] _ rv10 _ ((unhide Hjp11).drew) _ hlast).mono ?_); rintro e w12 ⟨rfl, hb12⟩; have hbb12 := (Below.refl _ _).drew.trans hb12; have Hjp12 := hide ((unhide Hjp11).later hbb12); have HB12 := hide ((unhide HB11).trans (hbb12.mono (unhide HB11).size)); have HT12 := hide ((unhide HT).below hbb12 (Nat.le_refl _)); clear hbb12 hb12) | (go_at_call 36; (refine (records_b B D 0 0 0 n [98] _ rv10 _ (unhide Hjp12) (fun x hx => by have := unhide HL x (List.mem_of_mem_take (List.mem_of_mem_drop hx)); omega) _ hlen).mono ?_); rintro e w13 ⟨g13, rfl, hr13, hb13⟩; have HS13 := hide hr13.bss; have HB13 := hide ((unhide HB12).trans (hb13.mono (unhide HB12).size)); have HT13 := hide ((unhide HT12).below hb13 (Nat.le_refl _)); clear hr13 hb13) | (go_at_call 38; (refine (same_yes _ _ ((L.take n).drop n) _ (unhide HS13) (unhide HT13)).mono ?_); rintro e w14 ⟨rfl, q14, rfl⟩))
                  go_wp2
                  go_ret
                  exact ⟨rfl, belowN (unhide HB13) _⟩
                · have HT : Hid (Bss w11 (.slice (some ⟨g, bb, none⟩) (n - bb) (n - bb)) ((L.take n).drop bb)) := by
                    show Bss _ _ _
                    have := (((unhide HQ11).take (n) hHk).drop bb hHb).bss
                    rw [if_neg hnb] at this
                    simpa [Addr.add_lit] using this
                  go_wp2_with fail
                  go_region_held (fun _ => True) (first | trivial | go_keep) (first | (go_at_call 37; (refine (last_b B D 0 0 0 bb [98] _ rv10 _ ((unhide Hjp11).drew) _ hlast).mono ?_); rintro e w12 ⟨rfl, hb12⟩; have hbb12 := (Below.refl _ _).drew.trans hb12; have Hjp12 := hide ((unhide Hjp11).later hbb12); have HB12 := hide ((unhide HB11).trans (hbb12.mono (unhide HB11).size)); have HT12 := hide ((unhide HT).below hbb12 (Nat.le_refl _)); clear hbb12 hb12) | (go_at_call 36; (refine (records_b B D 0 0 0 bb [98] _ rv10 _ (unhide Hjp12) (fun x hx => by have := unhide HL x (List.mem_of_mem_take (List.mem_of_mem_drop hx)); omega) _ hlen).mono ?_); rintro e w13 ⟨g13, rfl, hr13, hb13⟩; have HS13 := hide hr13.bss; have HB13 := hide ((unhide HB12).trans (hb13.mono (unhide HB12).size)); have HT13 := hide ((unhide HT12).below hb13 (Nat.le_refl _)); clear hr13 hb13) | (go_at_call 38; (refine (same_yes _ _ ((L.take n).drop bb) _ (unhide HS13) (unhide HT13)).mono ?_); rintro e w14 ⟨rfl, q14, rfl⟩))
                  go_wp2
                  go_ret
                  exact ⟨rfl, belowN (unhide HB13) _⟩
            · refine (rebase_j_no B base _ w9 (by omega)).mono ?_
              rintro e w10 ⟨rfl, rfl⟩
              have HB10 := hide (unhide HB9).below
              clear HB9 HQ9 Hl9 Hs8 HQ8
              by_cases hb0 : base < 0
              · have hdb0 : decide (base < 0) = true := by simpa using hb0
                go_wp2
                go_ret
                exact ⟨rfl, unhide HB10⟩
              · have hdb0 : decide (base < 0) = false := by simpa using hb0
                have hdb1 : decide ((1099511627776 : Int) < base) = true := by simp; omega
                go_wp2
                go_ret
                exact ⟨rfl, unhide HB10⟩
          · have hdc1 : decide (0 ≤ cut) = false := by simpa using hc0
            obtain ⟨rv6, hjp6⟩ := hs6.jp
            have HQ6 := hide ((unhide HQ5).frame hk6)
            have Hs6 := hide hs6
            have Hjp6 := hide hjp6
            clear hs6 hjp6 hk6 Hs5 HQ5
            have hlk : (L.take n).length = n := by rw [List.length_take]; omega
            go_wp2_with fail
            go_region_held (fun _ => True) (first | trivial | go_keep) (first | (go_at_call 36; refine (records_any B D 0 0 0 0 [] (L.take n) rv6 _ ((unhide Hjp6).drew) (fun x hx => by have := unhide HL x (List.mem_of_mem_take hx); omega)).mono ?_; rintro e w7 ⟨g7, rfl, hr7, hb7⟩; have HS7 : Hid (Bss w7 (.slice (some ⟨g7, 0, none⟩) n n) (L.take n)) := (by have := hr7.bss; rw [hlk] at this; exact this); have hbb7 := (Below.refl _ _).drew.trans hb7; have HQ7 := hide ((unhide HQ6).frame (Kept.of hbb7 (unhide Hs6).plt)); have Hs7 := hide ((unhide Hs6).later hbb7); clear hr7 hb7 hbb7) | (go_at_call 38; refine (same_yes _ _ (L.take n) _ (unhide HS7) ((unhide HQ7).take (n) hHk).bss).mono ?_; rintro e w8 ⟨rfl, q8, rfl⟩))
            have Hs8 := hide ((unhide Hs7).drewN q8)
            have HQ8 : Hid (Bsq P (w7.drewN q8) (.slice (some ⟨g, 0, none⟩) n n) L) := unhide HQ7
            clear Hs7 HQ7 HS7 HQ6 Hs6 Hjp6
            generalize w7.drewN q8 = W8 at *
            have HB9 : Hid (Side w P (W8.alloc (.cells #[.int .u8 98] 5 (1, 2))) B D _ _ _ _ _ _ _ _) := (unhide Hs8).later (below_new W8 _)
            have HQ9 := hide ((unhide HQ8).frame (Kept.of (below_new W8 (.cells #[.int .u8 98] 5 (1, 2))) (unhide Hs8).plt))
            have Hl9 := hide (unhide LB W8)
            go_wp2_with fail
            generalize W8.alloc (.cells #[.int .u8 98] 5 (1, 2)) = w9 at *
            by_cases hbs : 0 ≤ base ∧ base ≤ 1099511627776
            · obtain ⟨bb, rfl⟩ : ∃ b : Nat, base = b := ⟨base.toNat, by omega⟩
              have hsm9 := (Ch.lay bb [98]).small ⟨by show bb ≤ 1099511627776; omega, by show 1 ≤ 65516; decide⟩ (by show 1 ≤ 200; decide)
              refine ((unhide HB9).op (fun S hj hS => rebase_j B D _ [] sf' sc' 0 0 0 0 [] [98] (L.take n) bb _ w9 hj hS (unhide Hl9) (by decide) (by omega) (by omega))).mono ?_
              rintro e w10 ⟨rfl, hs10, hk10⟩
              rw [hlk] at hs10
              obtain ⟨rv10, hjp10⟩ := hs10.jp
              have HQ10 := hide ((unhide HQ9).frame hk10)
              have Hs10 := hide hs10
              have Hjp10 := hide hjp10
              clear hs10 hk10 hjp10 HB9 HQ9 Hl9 Hs8 HQ8
              go_wp2_with fail
              refine (base_any B D 0 0 0 bb [98] _ rv10 w10 (unhide Hjp10) (by decide)).mono ?_
              rintro e w11 ⟨g11, c11, rfl, hs11, hb11⟩
              have HQ11 := hide ((unhide HQ10).frame (Kept.of hb11 (unhide Hs10).plt))
              have Hjp11 := hide ((unhide Hjp10).later hb11)
              have HB11 := hide ((unhide Hs10).below.trans (hb11.mono (unhide Hs10).below.size))
              have hcv : (convert 26 9 (.slice (some ⟨g11, 0, none⟩) 1 c11)).run Try.prog w11 = .ok (.string ⟨#[98]⟩) w11 := conv_sl w11 _ _ hs11
              clear hs11 hb11 HQ10 Hs10 Hjp10
              by_cases hbm : n < bb
              · have hst : (L.take n).drop (goneN 0 bb n) = [] := by rw [show goneN 0 bb n = n from if_neg (by omega)]; exact List.drop_eq_nil_of_le (by omega)
                rw [hst] at Hjp11
                have hdb : decide ((n : Int) < (bb : Int)) = true := by simp; omega
                clear hst
                go_wp2_with fail
                refine (records_any B D 0 0 0 bb [98] [] rv10 w11 (unhide Hjp11) (fun x hx => by simp at hx)).mono ?_
                rintro e w12 ⟨g12, rfl, hr12, hb12⟩
                have Hjp12 := hide ((unhide Hjp11).later hb12)
                have HB12 := hide ((unhide HB11).trans (hb12.mono (unhide HB11).size))
                clear hr12 hb12
                go_wp2_with fail
                refine (last_any B D 0 0 0 bb [98] [] rv10 w12 (unhide Hjp12)).mono ?_
                rintro e w13 ⟨rfl, q, rfl⟩
                rw [show ((bb + ([] : List (List UInt8)).length : Nat) : Int) = bb from rfl]
                go_wp2
                go_ret
                exact ⟨rfl, belowN (unhide HB12) q⟩
              · have hst : goneN 0 bb n = bb := by rw [show goneN 0 bb n = bb - 0 from if_pos (by omega)]; omega
                rw [hst] at Hjp11
                have hdb : decide ((n : Int) < (bb : Int)) = false := by simp; omega
                have hbm' : bb ≤ n := by omega
                have hlen : ((L.take n).drop bb).length = n - bb := by rw [List.length_drop, hlk]
                have hlast : ((bb + ((L.take n).drop bb).length : Nat) : Int) = (n : Int) := by rw [hlen]; omega
                have hHb : bb ≤ (L.take n).length := by omega
                clear hst
                by_cases hnb : n = bb
                · subst hnb
                  have hen : n = n := by omega
                  try subst hen
                  have HT : Hid (Bss w11 (.slice (some ⟨g, 0, none⟩) 0 0) ((L.take n).drop n)) := by
                    show Bss _ _ _
                    have := (((unhide HQ11).take (n) hHk).drop n hHb).bss
                    rw [if_pos rfl, Nat.sub_self] at this
                    exact this
                  clear hlen
                  have hlen : ((L.take n).drop n).length = 0 := by rw [List.length_drop, hlk]; omega
                  clear hbm hbm'
                  go_wp2_with fail
                  go_region_held (fun _ => True) (first | trivial | go_keep) (first | (go_at_call 37; (refine (last_b B D 0 0 0 n [98] _ rv10 _ ((unhide Hjp11).drew) _ hlast).mono ?_); rintro e w12 ⟨rfl, hb12⟩; have hbb12 := (Below.refl _ _).drew.trans hb12; have Hjp12 := hide ((unhide Hjp11).later hbb12); have HB12 := hide ((unhide HB11).trans (hbb12.mono (unhide HB11).size)); have HT12 := hide ((unhide HT).below hbb12 (Nat.le_refl _)); clear hbb12 hb12) | (go_at_call 36; (refine (records_b B D 0 0 0 n [98] _ rv10 _ (unhide Hjp12) (fun x hx => by have := unhide HL x (List.mem_of_mem_take (List.mem_of_mem_drop hx)); omega) _ hlen).mono ?_); rintro e w13 ⟨g13, rfl, hr13, hb13⟩; have HS13 := hide hr13.bss; have HB13 := hide ((unhide HB12).trans (hb13.mono (unhide HB12).size)); have HT13 := hide ((unhide HT12).below hb13 (Nat.le_refl _)); clear hr13 hb13) | (go_at_call 38; (refine (same_yes _ _ ((L.take n).drop n) _ (unhide HS13) (unhide HT13)).mono ?_); rintro e w14 ⟨rfl, q14, rfl⟩))
                  go_wp2
                  go_ret
                  exact ⟨rfl, belowN (unhide HB13) _⟩
                · have HT : Hid (Bss w11 (.slice (some ⟨g, bb, none⟩) (n - bb) (n - bb)) ((L.take n).drop bb)) := by
                    show Bss _ _ _
                    have := (((unhide HQ11).take (n) hHk).drop bb hHb).bss
                    rw [if_neg hnb] at this
                    simpa [Addr.add_lit] using this
                  go_wp2_with fail
                  go_region_held (fun _ => True) (first | trivial | go_keep) (first | (go_at_call 37; (refine (last_b B D 0 0 0 bb [98] _ rv10 _ ((unhide Hjp11).drew) _ hlast).mono ?_); rintro e w12 ⟨rfl, hb12⟩; have hbb12 := (Below.refl _ _).drew.trans hb12; have Hjp12 := hide ((unhide Hjp11).later hbb12); have HB12 := hide ((unhide HB11).trans (hbb12.mono (unhide HB11).size)); have HT12 := hide ((unhide HT).below hbb12 (Nat.le_refl _)); clear hbb12 hb12) | (go_at_call 36; (refine (records_b B D 0 0 0 bb [98] _ rv10 _ (unhide Hjp12) (fun x hx => by have := unhide HL x (List.mem_of_mem_take (List.mem_of_mem_drop hx)); omega) _ hlen).mono ?_); rintro e w13 ⟨g13, rfl, hr13, hb13⟩; have HS13 := hide hr13.bss; have HB13 := hide ((unhide HB12).trans (hb13.mono (unhide HB12).size)); have HT13 := hide ((unhide HT12).below hb13 (Nat.le_refl _)); clear hr13 hb13) | (go_at_call 38; (refine (same_yes _ _ ((L.take n).drop bb) _ (unhide HS13) (unhide HT13)).mono ?_); rintro e w14 ⟨rfl, q14, rfl⟩))
                  go_wp2
                  go_ret
                  exact ⟨rfl, belowN (unhide HB13) _⟩
            · refine (rebase_j_no B base _ w9 (by omega)).mono ?_
              rintro e w10 ⟨rfl, rfl⟩
              have HB10 := hide (unhide HB9).below
              clear HB9 HQ9 Hl9 Hs8 HQ8
              by_cases hb0 : base < 0
              · have hdb0 : decide (base < 0) = true := by simpa using hb0
                go_wp2
                go_ret
                exact ⟨rfl, unhide HB10⟩
              · have hdb0 : decide (base < 0) = false := by simpa using hb0
                have hdb1 : decide ((1099511627776 : Int) < base) = true := by simp; omega
                go_wp2
                go_ret
                exact ⟨rfl, unhide HB10⟩
      · have hi1 : decide ((i : Int) < (ls.length : Int)) = false := by simp; omega
        obtain ⟨rv, hjp⟩ := hj.jp
        have Hjp := hide hjp
        have HL := hide hL
        have hsd := Side.of hj (fun k h => h) hb
        have Hsd := hide hsd
        clear hj hjp hb Hh hL hsd
        go_wp2_with fail
        refine (records_any B D 0 0 0 0 [] L rv wr (unhide Hjp) (fun x hx => by have := unhide HL x hx; omega)).mono ?_
        rintro e w5 ⟨g, rfl, hr5, hb5⟩
        have hq5 := hr5.bsq
        rw [hLn] at hq5 ⊢
        have hs5 := ((unhide Hsd).grow hb5).mono (Q := fun k => wr.heap.size ≤ k ∧ k < w5.heap.size) (fun k hk => .inr hk)
        generalize (fun k => wr.heap.size ≤ k ∧ k < w5.heap.size) = P at hq5 hs5
        have Hs5 := hide hs5
        have HQ5 := hide hq5
        clear hr5 hb5 Hjp Hsd hs5 hq5
        by_cases hc : 0 ≤ cut ∧ cut ≤ n
        · obtain ⟨k, rfl⟩ : ∃ k : Nat, cut = k := ⟨cut.toNat, by omega⟩
          have hkn : k ≤ n := by omega
          have hsm := (Ch.first (k - 0)).small ⟨by show k - 0 ≤ 1099511627776; omega, Nat.zero_le _⟩ (Nat.zero_le _)
          go_wp2_with fail
          refine ((unhide Hs5).op (fun S hj hS => cut_j B D nf [] sf' sc' 0 0 0 0 [] L k w5 hj hS (Nat.zero_le _) (by omega) (by omega))).mono ?_
          rintro e w6 ⟨rfl, hs6, hk6⟩
          rw [Nat.sub_zero] at hs6
          have hdc1 : decide (0 ≤ (k : Int)) = true := by simp
          have hdc2 : decide ((k : Int) ≤ (n : Int)) = true := by simp; omega
          have hnf6 : (nf ++ fr (Ch.first k).enc).length ≤ 218 * 61 := by rw [List.length_append, fr_length]; rw [Nat.sub_zero] at hsm; omega
          have hHk : k ≤ L.length := by omega
          obtain ⟨rv6, hjp6⟩ := hs6.jp
          have HQ6 := hide ((unhide HQ5).frame hk6)
          have Hs6 := hide hs6
          have Hjp6 := hide hjp6
          clear hs6 hjp6 hk6 Hs5 HQ5
          have hlk : (L.take k).length = k := by rw [List.length_take]; omega
          go_wp2_with fail
          go_region_held (fun _ => True) (first | trivial | go_keep) (first | (go_at_call 36; refine (records_any B D 0 0 0 0 [] (L.take k) rv6 _ ((unhide Hjp6).drew) (fun x hx => by have := unhide HL x (List.mem_of_mem_take hx); omega)).mono ?_; rintro e w7 ⟨g7, rfl, hr7, hb7⟩; have HS7 : Hid (Bss w7 (.slice (some ⟨g7, 0, none⟩) k k) (L.take k)) := (by have := hr7.bss; rw [hlk] at this; exact this); have hbb7 := (Below.refl _ _).drew.trans hb7; have HQ7 := hide ((unhide HQ6).frame (Kept.of hbb7 (unhide Hs6).plt)); have Hs7 := hide ((unhide Hs6).later hbb7); clear hr7 hb7 hbb7) | (go_at_call 38; refine (same_yes _ _ (L.take k) _ (unhide HS7) ((unhide HQ7).take (k) hHk).bss).mono ?_; rintro e w8 ⟨rfl, q8, rfl⟩))
          have Hs8 := hide ((unhide Hs7).drewN q8)
          have HQ8 : Hid (Bsq P (w7.drewN q8) (.slice (some ⟨g, 0, none⟩) n n) L) := unhide HQ7
          clear Hs7 HQ7 HS7 HQ6 Hs6 Hjp6
          generalize w7.drewN q8 = W8 at *
          have HB9 : Hid (Side w P (W8.alloc (.cells #[.int .u8 98] 5 (1, 2))) B D _ _ _ _ _ _ _ _) := (unhide Hs8).later (below_new W8 _)
          have HQ9 := hide ((unhide HQ8).frame (Kept.of (below_new W8 (.cells #[.int .u8 98] 5 (1, 2))) (unhide Hs8).plt))
          have Hl9 := hide (unhide LB W8)
          go_wp2_with fail
          generalize W8.alloc (.cells #[.int .u8 98] 5 (1, 2)) = w9 at *
          by_cases hbs : 0 ≤ base ∧ base ≤ 1099511627776
          · obtain ⟨bb, rfl⟩ : ∃ b : Nat, base = b := ⟨base.toNat, by omega⟩
            have hsm9 := (Ch.lay bb [98]).small ⟨by show bb ≤ 1099511627776; omega, by show 1 ≤ 65516; decide⟩ (by show 1 ≤ 200; decide)
            refine ((unhide HB9).op (fun S hj hS => rebase_j B D _ [] sf' sc' 0 0 0 0 [] [98] (L.take k) bb _ w9 hj hS (unhide Hl9) (by decide) (by omega) (by omega))).mono ?_
            rintro e w10 ⟨rfl, hs10, hk10⟩
            rw [hlk] at hs10
            obtain ⟨rv10, hjp10⟩ := hs10.jp
            have HQ10 := hide ((unhide HQ9).frame hk10)
            have Hs10 := hide hs10
            have Hjp10 := hide hjp10
            clear hs10 hk10 hjp10 HB9 HQ9 Hl9 Hs8 HQ8
            go_wp2_with fail
            refine (base_any B D 0 0 0 bb [98] _ rv10 w10 (unhide Hjp10) (by decide)).mono ?_
            rintro e w11 ⟨g11, c11, rfl, hs11, hb11⟩
            have HQ11 := hide ((unhide HQ10).frame (Kept.of hb11 (unhide Hs10).plt))
            have Hjp11 := hide ((unhide Hjp10).later hb11)
            have HB11 := hide ((unhide Hs10).below.trans (hb11.mono (unhide Hs10).below.size))
            have hcv : (convert 26 9 (.slice (some ⟨g11, 0, none⟩) 1 c11)).run Try.prog w11 = .ok (.string ⟨#[98]⟩) w11 := conv_sl w11 _ _ hs11
            clear hs11 hb11 HQ10 Hs10 Hjp10
            by_cases hbm : k < bb
            · have hst : (L.take k).drop (goneN 0 bb k) = [] := by rw [show goneN 0 bb k = k from if_neg (by omega)]; exact List.drop_eq_nil_of_le (by omega)
              rw [hst] at Hjp11
              have hdb : decide ((k : Int) < (bb : Int)) = true := by simp; omega
              clear hst
              go_wp2_with fail
              refine (records_any B D 0 0 0 bb [98] [] rv10 w11 (unhide Hjp11) (fun x hx => by simp at hx)).mono ?_
              rintro e w12 ⟨g12, rfl, hr12, hb12⟩
              have Hjp12 := hide ((unhide Hjp11).later hb12)
              have HB12 := hide ((unhide HB11).trans (hb12.mono (unhide HB11).size))
              clear hr12 hb12
              go_wp2_with fail
              refine (last_any B D 0 0 0 bb [98] [] rv10 w12 (unhide Hjp12)).mono ?_
              rintro e w13 ⟨rfl, q, rfl⟩
              rw [show ((bb + ([] : List (List UInt8)).length : Nat) : Int) = bb from rfl]
              go_wp2
              go_ret
              exact ⟨rfl, belowN (unhide HB12) q⟩
            · have hst : goneN 0 bb k = bb := by rw [show goneN 0 bb k = bb - 0 from if_pos (by omega)]; omega
              rw [hst] at Hjp11
              have hdb : decide ((k : Int) < (bb : Int)) = false := by simp; omega
              have hbm' : bb ≤ k := by omega
              have hlen : ((L.take k).drop bb).length = k - bb := by rw [List.length_drop, hlk]
              have hlast : ((bb + ((L.take k).drop bb).length : Nat) : Int) = (k : Int) := by rw [hlen]; omega
              have hHb : bb ≤ (L.take k).length := by omega
              clear hst
              by_cases hnb : n = bb
              · subst hnb
                have hen : k = n := by omega
                try subst hen
                have HT : Hid (Bss w11 (.slice (some ⟨g, 0, none⟩) 0 0) ((L.take k).drop k)) := by
                  show Bss _ _ _
                  have := (((unhide HQ11).take (k) hHk).drop k hHb).bss
                  rw [if_pos rfl, Nat.sub_self] at this
                  exact this
                clear hlen
                have hlen : ((L.take k).drop k).length = 0 := by rw [List.length_drop, hlk]; omega
                clear hbm hbm'
                go_wp2_with fail
                go_region_held (fun _ => True) (first | trivial | go_keep) (first | (go_at_call 37; (refine (last_b B D 0 0 0 k [98] _ rv10 _ ((unhide Hjp11).drew) _ hlast).mono ?_); rintro e w12 ⟨rfl, hb12⟩; have hbb12 := (Below.refl _ _).drew.trans hb12; have Hjp12 := hide ((unhide Hjp11).later hbb12); have HB12 := hide ((unhide HB11).trans (hbb12.mono (unhide HB11).size)); have HT12 := hide ((unhide HT).below hbb12 (Nat.le_refl _)); clear hbb12 hb12) | (go_at_call 36; (refine (records_b B D 0 0 0 k [98] _ rv10 _ (unhide Hjp12) (fun x hx => by have := unhide HL x (List.mem_of_mem_take (List.mem_of_mem_drop hx)); omega) _ hlen).mono ?_); rintro e w13 ⟨g13, rfl, hr13, hb13⟩; have HS13 := hide hr13.bss; have HB13 := hide ((unhide HB12).trans (hb13.mono (unhide HB12).size)); have HT13 := hide ((unhide HT12).below hb13 (Nat.le_refl _)); clear hr13 hb13) | (go_at_call 38; (refine (same_yes _ _ ((L.take k).drop k) _ (unhide HS13) (unhide HT13)).mono ?_); rintro e w14 ⟨rfl, q14, rfl⟩))
                go_wp2
                go_ret
                exact ⟨rfl, belowN (unhide HB13) _⟩
              · have HT : Hid (Bss w11 (.slice (some ⟨g, bb, none⟩) (k - bb) (n - bb)) ((L.take k).drop bb)) := by
                  show Bss _ _ _
                  have := (((unhide HQ11).take (k) hHk).drop bb hHb).bss
                  rw [if_neg hnb] at this
                  simpa [Addr.add_lit] using this
                go_wp2_with fail
                go_region_held (fun _ => True) (first | trivial | go_keep) (first | (go_at_call 37; (refine (last_b B D 0 0 0 bb [98] _ rv10 _ ((unhide Hjp11).drew) _ hlast).mono ?_); rintro e w12 ⟨rfl, hb12⟩; have hbb12 := (Below.refl _ _).drew.trans hb12; have Hjp12 := hide ((unhide Hjp11).later hbb12); have HB12 := hide ((unhide HB11).trans (hbb12.mono (unhide HB11).size)); have HT12 := hide ((unhide HT).below hbb12 (Nat.le_refl _)); clear hbb12 hb12) | (go_at_call 36; (refine (records_b B D 0 0 0 bb [98] _ rv10 _ (unhide Hjp12) (fun x hx => by have := unhide HL x (List.mem_of_mem_take (List.mem_of_mem_drop hx)); omega) _ hlen).mono ?_); rintro e w13 ⟨g13, rfl, hr13, hb13⟩; have HS13 := hide hr13.bss; have HB13 := hide ((unhide HB12).trans (hb13.mono (unhide HB12).size)); have HT13 := hide ((unhide HT12).below hb13 (Nat.le_refl _)); clear hr13 hb13) | (go_at_call 38; (refine (same_yes _ _ ((L.take k).drop bb) _ (unhide HS13) (unhide HT13)).mono ?_); rintro e w14 ⟨rfl, q14, rfl⟩))
                go_wp2
                go_ret
                exact ⟨rfl, belowN (unhide HB13) _⟩
          · refine (rebase_j_no B base _ w9 (by omega)).mono ?_
            rintro e w10 ⟨rfl, rfl⟩
            have HB10 := hide (unhide HB9).below
            clear HB9 HQ9 Hl9 Hs8 HQ8
            by_cases hb0 : base < 0
            · have hdb0 : decide (base < 0) = true := by simpa using hb0
              go_wp2
              go_ret
              exact ⟨rfl, unhide HB10⟩
            · have hdb0 : decide (base < 0) = false := by simpa using hb0
              have hdb1 : decide ((1099511627776 : Int) < base) = true := by simp; omega
              go_wp2
              go_ret
              exact ⟨rfl, unhide HB10⟩
        · have hc' : cut < (0 : Nat) ∨ (0 : Nat) + L.length < cut := by simp; omega
          obtain ⟨rvx, hjx⟩ := (unhide Hs5).jp
          have Hjx := hide hjx
          clear hjx
          go_wp2_with fail
          refine (cut_j_no B D 0 0 0 0 [] L cut rvx w5 (unhide Hjx) hc').mono ?_
          rintro e w6 ⟨rfl, hb6⟩
          have hs6 := (unhide Hs5).later hb6
          have hk6 := Kept.of hb6 (unhide Hs5).plt
          have hnf6 : nf.length ≤ 218 * 61 := by omega
          have hHk : n ≤ L.length := by omega
          have hLt : L.take n = L := by rw [← hLn]; exact List.take_length
          rw [← hLt] at hs6
          clear hb6 hLt
          by_cases hc0 : 0 ≤ cut
          · have hdc1 : decide (0 ≤ cut) = true := by simpa using hc0
            have hdc2 : decide (cut ≤ (n : Int)) = false := by simp; omega
            obtain ⟨rv6, hjp6⟩ := hs6.jp
            have HQ6 := hide ((unhide HQ5).frame hk6)
            have Hs6 := hide hs6
            have Hjp6 := hide hjp6
            clear hs6 hjp6 hk6 Hs5 HQ5
            have hlk : (L.take n).length = n := by rw [List.length_take]; omega
            go_wp2_with fail
            go_region_held (fun _ => True) (first | trivial | go_keep) (first | (go_at_call 36; refine (records_any B D 0 0 0 0 [] (L.take n) rv6 _ ((unhide Hjp6).drew) (fun x hx => by have := unhide HL x (List.mem_of_mem_take hx); omega)).mono ?_; rintro e w7 ⟨g7, rfl, hr7, hb7⟩; have HS7 : Hid (Bss w7 (.slice (some ⟨g7, 0, none⟩) n n) (L.take n)) := (by have := hr7.bss; rw [hlk] at this; exact this); have hbb7 := (Below.refl _ _).drew.trans hb7; have HQ7 := hide ((unhide HQ6).frame (Kept.of hbb7 (unhide Hs6).plt)); have Hs7 := hide ((unhide Hs6).later hbb7); clear hr7 hb7 hbb7) | (go_at_call 38; refine (same_yes _ _ (L.take n) _ (unhide HS7) ((unhide HQ7).take (n) hHk).bss).mono ?_; rintro e w8 ⟨rfl, q8, rfl⟩))
            have Hs8 := hide ((unhide Hs7).drewN q8)
            have HQ8 : Hid (Bsq P (w7.drewN q8) (.slice (some ⟨g, 0, none⟩) n n) L) := unhide HQ7
            clear Hs7 HQ7 HS7 HQ6 Hs6 Hjp6
            generalize w7.drewN q8 = W8 at *
            have HB9 : Hid (Side w P (W8.alloc (.cells #[.int .u8 98] 5 (1, 2))) B D _ _ _ _ _ _ _ _) := (unhide Hs8).later (below_new W8 _)
            have HQ9 := hide ((unhide HQ8).frame (Kept.of (below_new W8 (.cells #[.int .u8 98] 5 (1, 2))) (unhide Hs8).plt))
            have Hl9 := hide (unhide LB W8)
            go_wp2_with fail
            generalize W8.alloc (.cells #[.int .u8 98] 5 (1, 2)) = w9 at *
            by_cases hbs : 0 ≤ base ∧ base ≤ 1099511627776
            · obtain ⟨bb, rfl⟩ : ∃ b : Nat, base = b := ⟨base.toNat, by omega⟩
              have hsm9 := (Ch.lay bb [98]).small ⟨by show bb ≤ 1099511627776; omega, by show 1 ≤ 65516; decide⟩ (by show 1 ≤ 200; decide)
              refine ((unhide HB9).op (fun S hj hS => rebase_j B D _ [] sf' sc' 0 0 0 0 [] [98] (L.take n) bb _ w9 hj hS (unhide Hl9) (by decide) (by omega) (by omega))).mono ?_
              rintro e w10 ⟨rfl, hs10, hk10⟩
              rw [hlk] at hs10
              obtain ⟨rv10, hjp10⟩ := hs10.jp
              have HQ10 := hide ((unhide HQ9).frame hk10)
              have Hs10 := hide hs10
              have Hjp10 := hide hjp10
              clear hs10 hk10 hjp10 HB9 HQ9 Hl9 Hs8 HQ8
              go_wp2_with fail
              refine (base_any B D 0 0 0 bb [98] _ rv10 w10 (unhide Hjp10) (by decide)).mono ?_
              rintro e w11 ⟨g11, c11, rfl, hs11, hb11⟩
              have HQ11 := hide ((unhide HQ10).frame (Kept.of hb11 (unhide Hs10).plt))
              have Hjp11 := hide ((unhide Hjp10).later hb11)
              have HB11 := hide ((unhide Hs10).below.trans (hb11.mono (unhide Hs10).below.size))
              have hcv : (convert 26 9 (.slice (some ⟨g11, 0, none⟩) 1 c11)).run Try.prog w11 = .ok (.string ⟨#[98]⟩) w11 := conv_sl w11 _ _ hs11
              clear hs11 hb11 HQ10 Hs10 Hjp10
              by_cases hbm : n < bb
              · have hst : (L.take n).drop (goneN 0 bb n) = [] := by rw [show goneN 0 bb n = n from if_neg (by omega)]; exact List.drop_eq_nil_of_le (by omega)
                rw [hst] at Hjp11
                have hdb : decide ((n : Int) < (bb : Int)) = true := by simp; omega
                clear hst
                go_wp2_with fail
                refine (records_any B D 0 0 0 bb [98] [] rv10 w11 (unhide Hjp11) (fun x hx => by simp at hx)).mono ?_
                rintro e w12 ⟨g12, rfl, hr12, hb12⟩
                have Hjp12 := hide ((unhide Hjp11).later hb12)
                have HB12 := hide ((unhide HB11).trans (hb12.mono (unhide HB11).size))
                clear hr12 hb12
                go_wp2_with fail
                refine (last_any B D 0 0 0 bb [98] [] rv10 w12 (unhide Hjp12)).mono ?_
                rintro e w13 ⟨rfl, q, rfl⟩
                rw [show ((bb + ([] : List (List UInt8)).length : Nat) : Int) = bb from rfl]
                go_wp2
                go_ret
                exact ⟨rfl, belowN (unhide HB12) q⟩
              · have hst : goneN 0 bb n = bb := by rw [show goneN 0 bb n = bb - 0 from if_pos (by omega)]; omega
                rw [hst] at Hjp11
                have hdb : decide ((n : Int) < (bb : Int)) = false := by simp; omega
                have hbm' : bb ≤ n := by omega
                have hlen : ((L.take n).drop bb).length = n - bb := by rw [List.length_drop, hlk]
                have hlast : ((bb + ((L.take n).drop bb).length : Nat) : Int) = (n : Int) := by rw [hlen]; omega
                have hHb : bb ≤ (L.take n).length := by omega
                clear hst
                by_cases hnb : n = bb
                · subst hnb
                  have hen : n = n := by omega
                  try subst hen
                  have HT : Hid (Bss w11 (.slice (some ⟨g, 0, none⟩) 0 0) ((L.take n).drop n)) := by
                    show Bss _ _ _
                    have := (((unhide HQ11).take (n) hHk).drop n hHb).bss
                    rw [if_pos rfl, Nat.sub_self] at this
                    exact this
                  clear hlen
                  have hlen : ((L.take n).drop n).length = 0 := by rw [List.length_drop, hlk]; omega
                  clear hbm hbm'
                  go_wp2_with fail
                  go_region_held (fun _ => True) (first | trivial | go_keep) (first | (go_at_call 37; (refine (last_b B D 0 0 0 n [98] _ rv10 _ ((unhide Hjp11).drew) _ hlast).mono ?_); rintro e w12 ⟨rfl, hb12⟩; have hbb12 := (Below.refl _ _).drew.trans hb12; have Hjp12 := hide ((unhide Hjp11).later hbb12); have HB12 := hide ((unhide HB11).trans (hbb12.mono (unhide HB11).size)); have HT12 := hide ((unhide HT).below hbb12 (Nat.le_refl _)); clear hbb12 hb12) | (go_at_call 36; (refine (records_b B D 0 0 0 n [98] _ rv10 _ (unhide Hjp12) (fun x hx => by have := unhide HL x (List.mem_of_mem_take (List.mem_of_mem_drop hx)); omega) _ hlen).mono ?_); rintro e w13 ⟨g13, rfl, hr13, hb13⟩; have HS13 := hide hr13.bss; have HB13 := hide ((unhide HB12).trans (hb13.mono (unhide HB12).size)); have HT13 := hide ((unhide HT12).below hb13 (Nat.le_refl _)); clear hr13 hb13) | (go_at_call 38; (refine (same_yes _ _ ((L.take n).drop n) _ (unhide HS13) (unhide HT13)).mono ?_); rintro e w14 ⟨rfl, q14, rfl⟩))
                  go_wp2
                  go_ret
                  exact ⟨rfl, belowN (unhide HB13) _⟩
                · have HT : Hid (Bss w11 (.slice (some ⟨g, bb, none⟩) (n - bb) (n - bb)) ((L.take n).drop bb)) := by
                    show Bss _ _ _
                    have := (((unhide HQ11).take (n) hHk).drop bb hHb).bss
                    rw [if_neg hnb] at this
                    simpa [Addr.add_lit] using this
                  go_wp2_with fail
                  go_region_held (fun _ => True) (first | trivial | go_keep) (first | (go_at_call 37; (refine (last_b B D 0 0 0 bb [98] _ rv10 _ ((unhide Hjp11).drew) _ hlast).mono ?_); rintro e w12 ⟨rfl, hb12⟩; have hbb12 := (Below.refl _ _).drew.trans hb12; have Hjp12 := hide ((unhide Hjp11).later hbb12); have HB12 := hide ((unhide HB11).trans (hbb12.mono (unhide HB11).size)); have HT12 := hide ((unhide HT).below hbb12 (Nat.le_refl _)); clear hbb12 hb12) | (go_at_call 36; (refine (records_b B D 0 0 0 bb [98] _ rv10 _ (unhide Hjp12) (fun x hx => by have := unhide HL x (List.mem_of_mem_take (List.mem_of_mem_drop hx)); omega) _ hlen).mono ?_); rintro e w13 ⟨g13, rfl, hr13, hb13⟩; have HS13 := hide hr13.bss; have HB13 := hide ((unhide HB12).trans (hb13.mono (unhide HB12).size)); have HT13 := hide ((unhide HT12).below hb13 (Nat.le_refl _)); clear hr13 hb13) | (go_at_call 38; (refine (same_yes _ _ ((L.take n).drop bb) _ (unhide HS13) (unhide HT13)).mono ?_); rintro e w14 ⟨rfl, q14, rfl⟩))
                  go_wp2
                  go_ret
                  exact ⟨rfl, belowN (unhide HB13) _⟩
            · refine (rebase_j_no B base _ w9 (by omega)).mono ?_
              rintro e w10 ⟨rfl, rfl⟩
              have HB10 := hide (unhide HB9).below
              clear HB9 HQ9 Hl9 Hs8 HQ8
              by_cases hb0 : base < 0
              · have hdb0 : decide (base < 0) = true := by simpa using hb0
                go_wp2
                go_ret
                exact ⟨rfl, unhide HB10⟩
              · have hdb0 : decide (base < 0) = false := by simpa using hb0
                have hdb1 : decide ((1099511627776 : Int) < base) = true := by simp; omega
                go_wp2
                go_ret
                exact ⟨rfl, unhide HB10⟩
          · have hdc1 : decide (0 ≤ cut) = false := by simpa using hc0
            obtain ⟨rv6, hjp6⟩ := hs6.jp
            have HQ6 := hide ((unhide HQ5).frame hk6)
            have Hs6 := hide hs6
            have Hjp6 := hide hjp6
            clear hs6 hjp6 hk6 Hs5 HQ5
            have hlk : (L.take n).length = n := by rw [List.length_take]; omega
            go_wp2_with fail
            go_region_held (fun _ => True) (first | trivial | go_keep) (first | (go_at_call 36; refine (records_any B D 0 0 0 0 [] (L.take n) rv6 _ ((unhide Hjp6).drew) (fun x hx => by have := unhide HL x (List.mem_of_mem_take hx); omega)).mono ?_; rintro e w7 ⟨g7, rfl, hr7, hb7⟩; have HS7 : Hid (Bss w7 (.slice (some ⟨g7, 0, none⟩) n n) (L.take n)) := (by have := hr7.bss; rw [hlk] at this; exact this); have hbb7 := (Below.refl _ _).drew.trans hb7; have HQ7 := hide ((unhide HQ6).frame (Kept.of hbb7 (unhide Hs6).plt)); have Hs7 := hide ((unhide Hs6).later hbb7); clear hr7 hb7 hbb7) | (go_at_call 38; refine (same_yes _ _ (L.take n) _ (unhide HS7) ((unhide HQ7).take (n) hHk).bss).mono ?_; rintro e w8 ⟨rfl, q8, rfl⟩))
            have Hs8 := hide ((unhide Hs7).drewN q8)
            have HQ8 : Hid (Bsq P (w7.drewN q8) (.slice (some ⟨g, 0, none⟩) n n) L) := unhide HQ7
            clear Hs7 HQ7 HS7 HQ6 Hs6 Hjp6
            generalize w7.drewN q8 = W8 at *
            have HB9 : Hid (Side w P (W8.alloc (.cells #[.int .u8 98] 5 (1, 2))) B D _ _ _ _ _ _ _ _) := (unhide Hs8).later (below_new W8 _)
            have HQ9 := hide ((unhide HQ8).frame (Kept.of (below_new W8 (.cells #[.int .u8 98] 5 (1, 2))) (unhide Hs8).plt))
            have Hl9 := hide (unhide LB W8)
            go_wp2_with fail
            generalize W8.alloc (.cells #[.int .u8 98] 5 (1, 2)) = w9 at *
            by_cases hbs : 0 ≤ base ∧ base ≤ 1099511627776
            · obtain ⟨bb, rfl⟩ : ∃ b : Nat, base = b := ⟨base.toNat, by omega⟩
              have hsm9 := (Ch.lay bb [98]).small ⟨by show bb ≤ 1099511627776; omega, by show 1 ≤ 65516; decide⟩ (by show 1 ≤ 200; decide)
              refine ((unhide HB9).op (fun S hj hS => rebase_j B D _ [] sf' sc' 0 0 0 0 [] [98] (L.take n) bb _ w9 hj hS (unhide Hl9) (by decide) (by omega) (by omega))).mono ?_
              rintro e w10 ⟨rfl, hs10, hk10⟩
              rw [hlk] at hs10
              obtain ⟨rv10, hjp10⟩ := hs10.jp
              have HQ10 := hide ((unhide HQ9).frame hk10)
              have Hs10 := hide hs10
              have Hjp10 := hide hjp10
              clear hs10 hk10 hjp10 HB9 HQ9 Hl9 Hs8 HQ8
              go_wp2_with fail
              refine (base_any B D 0 0 0 bb [98] _ rv10 w10 (unhide Hjp10) (by decide)).mono ?_
              rintro e w11 ⟨g11, c11, rfl, hs11, hb11⟩
              have HQ11 := hide ((unhide HQ10).frame (Kept.of hb11 (unhide Hs10).plt))
              have Hjp11 := hide ((unhide Hjp10).later hb11)
              have HB11 := hide ((unhide Hs10).below.trans (hb11.mono (unhide Hs10).below.size))
              have hcv : (convert 26 9 (.slice (some ⟨g11, 0, none⟩) 1 c11)).run Try.prog w11 = .ok (.string ⟨#[98]⟩) w11 := conv_sl w11 _ _ hs11
              clear hs11 hb11 HQ10 Hs10 Hjp10
              by_cases hbm : n < bb
              · have hst : (L.take n).drop (goneN 0 bb n) = [] := by rw [show goneN 0 bb n = n from if_neg (by omega)]; exact List.drop_eq_nil_of_le (by omega)
                rw [hst] at Hjp11
                have hdb : decide ((n : Int) < (bb : Int)) = true := by simp; omega
                clear hst
                go_wp2_with fail
                refine (records_any B D 0 0 0 bb [98] [] rv10 w11 (unhide Hjp11) (fun x hx => by simp at hx)).mono ?_
                rintro e w12 ⟨g12, rfl, hr12, hb12⟩
                have Hjp12 := hide ((unhide Hjp11).later hb12)
                have HB12 := hide ((unhide HB11).trans (hb12.mono (unhide HB11).size))
                clear hr12 hb12
                go_wp2_with fail
                refine (last_any B D 0 0 0 bb [98] [] rv10 w12 (unhide Hjp12)).mono ?_
                rintro e w13 ⟨rfl, q, rfl⟩
                rw [show ((bb + ([] : List (List UInt8)).length : Nat) : Int) = bb from rfl]
                go_wp2
                go_ret
                exact ⟨rfl, belowN (unhide HB12) q⟩
              · have hst : goneN 0 bb n = bb := by rw [show goneN 0 bb n = bb - 0 from if_pos (by omega)]; omega
                rw [hst] at Hjp11
                have hdb : decide ((n : Int) < (bb : Int)) = false := by simp; omega
                have hbm' : bb ≤ n := by omega
                have hlen : ((L.take n).drop bb).length = n - bb := by rw [List.length_drop, hlk]
                have hlast : ((bb + ((L.take n).drop bb).length : Nat) : Int) = (n : Int) := by rw [hlen]; omega
                have hHb : bb ≤ (L.take n).length := by omega
                clear hst
                by_cases hnb : n = bb
                · subst hnb
                  have hen : n = n := by omega
                  try subst hen
                  have HT : Hid (Bss w11 (.slice (some ⟨g, 0, none⟩) 0 0) ((L.take n).drop n)) := by
                    show Bss _ _ _
                    have := (((unhide HQ11).take (n) hHk).drop n hHb).bss
                    rw [if_pos rfl, Nat.sub_self] at this
                    exact this
                  clear hlen
                  have hlen : ((L.take n).drop n).length = 0 := by rw [List.length_drop, hlk]; omega
                  clear hbm hbm'
                  go_wp2_with fail
                  go_region_held (fun _ => True) (first | trivial | go_keep) (first | (go_at_call 37; (refine (last_b B D 0 0 0 n [98] _ rv10 _ ((unhide Hjp11).drew) _ hlast).mono ?_); rintro e w12 ⟨rfl, hb12⟩; have hbb12 := (Below.refl _ _).drew.trans hb12; have Hjp12 := hide ((unhide Hjp11).later hbb12); have HB12 := hide ((unhide HB11).trans (hbb12.mono (unhide HB11).size)); have HT12 := hide ((unhide HT).below hbb12 (Nat.le_refl _)); clear hbb12 hb12) | (go_at_call 36; (refine (records_b B D 0 0 0 n [98] _ rv10 _ (unhide Hjp12) (fun x hx => by have := unhide HL x (List.mem_of_mem_take (List.mem_of_mem_drop hx)); omega) _ hlen).mono ?_); rintro e w13 ⟨g13, rfl, hr13, hb13⟩; have HS13 := hide hr13.bss; have HB13 := hide ((unhide HB12).trans (hb13.mono (unhide HB12).size)); have HT13 := hide ((unhide HT12).below hb13 (Nat.le_refl _)); clear hr13 hb13) | (go_at_call 38; (refine (same_yes _ _ ((L.take n).drop n) _ (unhide HS13) (unhide HT13)).mono ?_); rintro e w14 ⟨rfl, q14, rfl⟩))
                  go_wp2
                  go_ret
                  exact ⟨rfl, belowN (unhide HB13) _⟩
                · have HT : Hid (Bss w11 (.slice (some ⟨g, bb, none⟩) (n - bb) (n - bb)) ((L.take n).drop bb)) := by
                    show Bss _ _ _
                    have := (((unhide HQ11).take (n) hHk).drop bb hHb).bss
                    rw [if_neg hnb] at this
                    simpa [Addr.add_lit] using this
                  go_wp2_with fail
                  go_region_held (fun _ => True) (first | trivial | go_keep) (first | (go_at_call 37; (refine (last_b B D 0 0 0 bb [98] _ rv10 _ ((unhide Hjp11).drew) _ hlast).mono ?_); rintro e w12 ⟨rfl, hb12⟩; have hbb12 := (Below.refl _ _).drew.trans hb12; have Hjp12 := hide ((unhide Hjp11).later hbb12); have HB12 := hide ((unhide HB11).trans (hbb12.mono (unhide HB11).size)); have HT12 := hide ((unhide HT).below hbb12 (Nat.le_refl _)); clear hbb12 hb12) | (go_at_call 36; (refine (records_b B D 0 0 0 bb [98] _ rv10 _ (unhide Hjp12) (fun x hx => by have := unhide HL x (List.mem_of_mem_take (List.mem_of_mem_drop hx)); omega) _ hlen).mono ?_); rintro e w13 ⟨g13, rfl, hr13, hb13⟩; have HS13 := hide hr13.bss; have HB13 := hide ((unhide HB12).trans (hb13.mono (unhide HB12).size)); have HT13 := hide ((unhide HT12).below hb13 (Nat.le_refl _)); clear hr13 hb13) | (go_at_call 38; (refine (same_yes _ _ ((L.take n).drop bb) _ (unhide HS13) (unhide HT13)).mono ?_); rintro e w14 ⟨rfl, q14, rfl⟩))
                  go_wp2
                  go_ret
                  exact ⟨rfl, belowN (unhide HB13) _⟩
            · refine (rebase_j_no B base _ w9 (by omega)).mono ?_
              rintro e w10 ⟨rfl, rfl⟩
              have HB10 := hide (unhide HB9).below
              clear HB9 HQ9 Hl9 Hs8 HQ8
              by_cases hb0 : base < 0
              · have hdb0 : decide (base < 0) = true := by simpa using hb0
                go_wp2
                go_ret
                exact ⟨rfl, unhide HB10⟩
              · have hdb0 : decide (base < 0) = false := by simpa using hb0
                have hdb1 : decide ((1099511627776 : Int) < base) = true := by simp; omega
                go_wp2
                go_ret
                exact ⟨rfl, unhide HB10⟩

end Go.Proofs.Yteanjnkfoddfmaa
