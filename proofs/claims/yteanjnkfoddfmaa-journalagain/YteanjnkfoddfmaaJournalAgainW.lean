/-
  The walk of the law JournalAgain.
-/
import Derived.Test.YteanjnkfoddfmaaJ7
import Derived.Deep.DeepCutAuto
import Derived.Deep.CutBlock
namespace Go.Proofs.Yteanjnkfoddfmaa
open Go.RowKit
set_option linter.unusedVariables false

/-- The two journals of the law, behind i acts: they are alike, but for what is safe. -/
def Ag (w : World) (B1 D1 B2 D2 : Nat) (i : Nat) (wr : World) : Prop :=
  ∃ x y P, Duo w P wr B1 D1 B2 D2 x y ∧ y.nf = x.nf ∧ y.nc = x.nc ∧ y.t = x.t ∧ y.v = x.v ∧ y.o = x.o ∧ y.st = x.st ∧ Made x.nf x.st ∧ hdOf x.nc = some (x.t, x.v, x.o) ∧ x.nf.length ≤ 218 * i ∧ x.nc.length ≤ 26 ∧ (∀ z ∈ x.st.2.2, z.length ≤ 200) ∧ x.st.2.1.length ≤ 200 ∧ x.st.2.2.length ≤ i

theorem rebase_b (B : Nat) (n : Int) (x : Value) (w : World) (hn : n < 0 ∨ 1099511627776 < n) :
    Calls Try.prog 16 #[.pointer (some ⟨B, 0, none⟩), .int .i64 n, x] w fun e w' => e = .returned (.int .i64 71) ∧ Below w.heap.size w w' := by
  refine (rebase_j_no B n x w hn).mono ?_
  rintro e w' ⟨rfl, rfl⟩
  exact ⟨rfl, Below.refl _ _⟩

/-- Behind an act. -/
def AgMid (w : World) (A : Nat) (B1 D1 B2 D2 : Nat) (i : Nat) (wr : World) : Prop :=
  ∃ x y, Duo w (fun k => k = A) wr B1 D1 B2 D2 x y ∧ y.nf = x.nf ∧ y.nc = x.nc ∧ y.t = x.t ∧ y.v = x.v ∧ y.o = x.o ∧ y.st = x.st ∧ Made x.nf x.st ∧ hdOf x.nc = some (x.t, x.v, x.o) ∧ x.nf.length ≤ 218 * (i + 1) ∧ x.nc.length ≤ 26 ∧ (∀ z ∈ x.st.2.2, z.length ≤ 200) ∧ x.st.2.1.length ≤ 200 ∧ x.st.2.2.length ≤ i + 1

/-- Behind an act: the two journals, and a third that is opened anew on the first disk. -/
structure Aft (w : World) (A : Nat) (W : World) (B1 D1 B2 D2 B3 : Nat) (nf nc sf sc sf' sc' : List UInt8) (t v o : Nat) (st : St) (rv3 : Value) (S1 S2 : Nat → Prop) : Prop where
  duo : Duo w (fun k => k = A) W B1 D1 B2 D2 ⟨nf, nc, sf, sc, t, v, o, st⟩ ⟨nf, nc, sf', sc', t, v, o, st⟩
  j : Jp W B3 D1 t v o st rv3
  d1 : Dk S1 W D1 nf nc sf sc
  d2 : Dk S2 W D2 nf nc sf' sc'

theorem Aft.later {w : World} {A : Nat} {W W' : World} {B1 D1 B2 D2 B3 : Nat} {nf nc sf sc sf' sc' : List UInt8} {t v o : Nat} {st : St} {rv3 : Value} {S1 S2 : Nat → Prop} (h : Aft w A W B1 D1 B2 D2 B3 nf nc sf sc sf' sc' t v o st rv3 S1 S2) (hb : Below W.heap.size W W') : Aft w A W' B1 D1 B2 D2 B3 nf nc sf sc sf' sc' t v o st rv3 S1 S2 :=
  ⟨h.duo.later hb, h.j.later hb, h.d1.later hb, h.d2.later hb⟩

theorem Script.at {w : World} {ao : Option Addr} {n c : Nat} {xs : List ActV} (h : Script w (.slice ao n c) xs) (i : Nat) (hi : i < xs.length) : ∃ b o, ao = some ⟨b, o, none⟩ ∧ ActOk w xs[i] ∧ w.cell? ⟨b, o + i * 6, none⟩ = some (.int .i64 xs[i].kind) ∧
      w.cell? ⟨b, o + i * 6 + 1, none⟩ = some (.int .i64 xs[i].n) ∧ w.cell? ⟨b, o + i * 6 + 2, none⟩ = some (.int .i64 xs[i].m) ∧ w.cell? ⟨b, o + i * 6 + 3, none⟩ = some xs[i].v ∧ w.cell? ⟨b, o + i * 6 + 4, none⟩ = some (.bool xs[i].torn) ∧ w.cell? ⟨b, o + i * 6 + 5, none⟩ = some (.bool xs[i].cell) := by
  obtain ⟨bo, d, e, h1, h2, h3⟩ := h
  injection e with e1 e2 e3
  subst e1
  obtain ⟨hok, b, o, h6, r⟩ := h3 i hi
  exact ⟨b, o, h6, hok, r⟩

set_option maxRecDepth 100000 in
set_option maxHeartbeats 2000000 in
theorem walkJournalAgain {w : World} (v : Value) (xs : List ActV) (hx : Script w v xs) :
    Calls Try.prog 8 #[v] w fun e w' => e = .returned (.bool true) ∧ Below w.heap.size w w' := by
  have hS : ∀ {W : World}, Below w.heap.size w W → ∀ k, W.heap.size ≤ k → (fun k => w.heap.size ≤ k) k := fun hb k hk => Nat.le_trans hb.size hk
  obtain ⟨ao, c, rfl, hc1, hc2, _⟩ := id hx
  unfold maxLen at hc2
  have HX := hide hx
  clear hx
  go_enter Try.func8, Try.ntmps8
  go_wp2_with fail
  refine (new_any w).mono ?_
  rintro e w1 ⟨rfl, rfl⟩
  have hb1 : Below w.heap.size w (w.alloc (.cells #[.slice none 0 0, .slice none 0 0, .slice none 0 0, .slice none 0 0] 72)) := below_new w _
  have hd1 : Dk (fun k => k = w.heap.size) (w.alloc (.cells #[.slice none 0 0, .slice none 0 0, .slice none 0 0, .slice none 0 0] 72)) w.heap.size [] [] [] [] := Dk.new (S := fun k => k = w.heap.size) w rfl _
  generalize (w.alloc (.cells #[.slice none 0 0, .slice none 0 0, .slice none 0 0, .slice none 0 0] 72)) = w1 at *
  go_wp2_with fail
  refine (new_any w1).mono ?_
  rintro e w2 ⟨rfl, rfl⟩
  have hb2 : Below w1.heap.size w1 (w1.alloc (.cells #[.slice none 0 0, .slice none 0 0, .slice none 0 0, .slice none 0 0] 72)) := below_new w1 _
  have hd2 : Dk (fun k => k = w1.heap.size) (w1.alloc (.cells #[.slice none 0 0, .slice none 0 0, .slice none 0 0, .slice none 0 0] 72)) w1.heap.size [] [] [] [] := Dk.new (S := fun k => k = w1.heap.size) w1 rfl _
  generalize (w1.alloc (.cells #[.slice none 0 0, .slice none 0 0, .slice none 0 0, .slice none 0 0] 72)) = w2 at *
  have hlt1 := hd1.lt
  have hd1' := hd1.later hb2
  have hb2' := hb1.trans (hb2.mono hb1.size)
  obtain ⟨D1, hD1⟩ : ∃ D, w.heap.size = D := ⟨_, rfl⟩
  obtain ⟨D2, hD2⟩ : ∃ D, w1.heap.size = D := ⟨_, rfl⟩
  have hda : Dk (fun k => k = D1) w2 D1 [] [] [] [] := by rw [← hD1]; exact hd1'
  have hdb : Dk (fun k => k = D2) w2 D2 [] [] [] [] := by rw [← hD2]; exact hd2
  have hD12 : D1 < D2 ∧ D2 < w2.heap.size ∧ w.heap.size ≤ D1 := by have := hdb.lt; omega
  rw [hD1, hD2]
  have Hda := hide hda
  have Hdb := hide hdb
  have HB2 := hide hb2'
  clear hd1 hd2 hd1' hda hdb hb2 hb2' hb1 hlt1 hD1 hD2
  go_wp2_with fail
  refine (open_jd (S := fun k => k = D1 ∨ w2.heap.size ≤ k) D1 [] [] [] [] 0 0 0 (0, [], []) 0 w2 (unhide Hda) (fun k _ h => .inl h) (fun k h => .inr h) (by simp) (by simp) hdOf_nil opens_nil).mono ?_
  rintro e w3 ⟨B1, sf1, sc1, rfl, hB1, hj1, hf1, _⟩
  have hb3 : Below w.heap.size w w3 := Fr.bl (unhide HB2) hf1 (fun k h => by have := (unhide HB2).size; rcases h with h | h <;> omega)
  have hdb3 : Dk (fun k => k = D2) w3 D2 [] [] [] [] := (unhide Hdb).other hf1 (fun k _ h1 h2 => by rcases h2 with h2 | h2 <;> omega)
  have hz3 := hf1.size
  have Hj1 := hide hj1.shrink
  have Hdb3 := hide hdb3
  have HB3 := hide hb3
  clear hj1 hf1 hdb3 hb3 Hda Hdb
  go_wp2_with fail
  refine (open_jd (S := fun k => k = D2 ∨ w3.heap.size ≤ k) D2 [] [] [] [] 0 0 0 (0, [], []) 0 w3 (unhide Hdb3) (fun k _ h => .inl h) (fun k h => .inr h) (by simp) (by simp) hdOf_nil opens_nil).mono ?_
  rintro e w4 ⟨B2, sf2, sc2, rfl, hB2, hj2, hf2, _⟩
  have hb4 : Below w.heap.size w w4 := Fr.bl (unhide HB3) hf2 (fun k h => by have := (unhide HB3).size; rcases h with h | h <;> omega)
  have hj1' := (unhide Hj1).other hf2 (fun k _ h1 h2 => by
    have := h1.2
    rcases h1.1 with h | h <;> rcases h2 with h2 | h2 <;> omega)
  have hduo : Duo w (fun _ => False) w4 B1 D1 B2 D2 ⟨[], [], sf1, sc1, 0, 0, 0, (0, [], [])⟩ ⟨[], [], sf2, sc2, 0, 0, 0, (0, [], [])⟩ := by
    refine ⟨_, _, hj1', hj2, fun k hk => ?_, fun k hk => ?_, fun k h1 h2 => ?_, fun k hk => hk.elim, fun k hk => hk.elim, hb4⟩
    · have := (unhide HB2).size; rcases hk.1 with h | h <;> omega
    · have := (unhide HB3).size; rcases hk with h | h <;> omega
    · have := h1.2
      rcases h1.1 with h | h <;> rcases h2 with h2 | h2 <;> omega
  have Hduo := hide hduo
  clear hj2 hf2 hb4 hj1' hduo Hj1 Hdb3
  go_wp2_with fail
  refine (alive_any _).mono ?_
  rintro e w5 ⟨rfl, hb5⟩
  have Hd5 := hide ((unhide Hduo).later hb5)
  clear hb5 Hduo
  go_wp2
  go_loopw [9] (fun iv wr => ∃ i : Nat, iv = .int .i64 i ∧ i ≤ 60 ∧ Hid (Ag w B1 D1 B2 D2 i wr)) (fun iv _ => 60 - (intOf iv).toNat)
  case atStart => exact ⟨0, rfl, by decide, ⟨_, _, _, unhide Hd5, rfl, rfl, rfl, rfl, rfl, rfl, Made.nil, hdOf_nil, by simp, by simp, fun z hz => by simp at hz, by simp, by simp⟩⟩
  case round =>
    obtain ⟨i, rfl, hi, Hh⟩ := hrel
    by_cases hcond : i < xs.length ∧ i < 60
    · have hi1 : decide ((i : Int) < (xs.length : Int)) = true := by simp; omega
      have hi2 : decide ((i : Int) < 60) = true := by simp; omega
      obtain ⟨x, y, P, hduo, ey1, ey2, ey3, ey4, ey5, ey6, hmade, hhd, hnl, hcl, hzl, hdl, hll⟩ := unhide Hh
      have hbr := hduo.below
      obtain ⟨b, o, rfl, hok, k0, k1, k2, k3, k4, k5⟩ := (unhide HX).at i hcond.1
      generalize hZ : xs[i] = z at *
      have hlt := World.block_lt_of_cell? w _ k0
      have c0 := (hbr.cell (p := ⟨b, o + i * 6, none⟩) hlt).trans k0
      have c1 := (hbr.cell (p := ⟨b, o + i * 6 + 1, none⟩) hlt).trans k1
      have c2 := (hbr.cell (p := ⟨b, o + i * 6 + 2, none⟩) hlt).trans k2
      have c3 := (hbr.cell (p := ⟨b, o + i * 6 + 3, none⟩) hlt).trans k3
      have c4 := (hbr.cell (p := ⟨b, o + i * 6 + 4, none⟩) hlt).trans k4
      have c5 := (hbr.cell (p := ⟨b, o + i * 6 + 5, none⟩) hlt).trans k5
      obtain ⟨kind, zn, zm, zv, zb, torn, cell⟩ := z
      obtain ⟨n0, n1, m0, m1, hs⟩ := hok
      simp only at n0 n1 m0 m1 hs c0 c1 c2 c3 c4 c5
      obtain ⟨ba, bc', rfl, hbc1, hbc2, _⟩ := id hs
      unfold maxLen at hbc2
      have hba := below_new wr (.cells #[.int .i64 kind, .int .i64 zn, .int .i64 zm, .slice ba zb.length bc', .bool torn, .bool cell] 37)
      have hact := ActAt.new wr ⟨kind, zn, zm, .slice ba zb.length bc', zb, torn, cell⟩ 37
      have hduo2 := hduo.grow hba (fun k => k = wr.heap.size) (fun k hk => by subst hk; exact ⟨Nat.le_refl _, by simp⟩)
      have Hs := hide hs
      have Hact := hide hact
      have Hduo := hide hduo
      have Hduo2 := hide hduo2
      have Hmade := hide hmade
      have Hhd := hide hhd
      clear k0 k1 k2 k3 k4 k5 hs hact hduo hduo2 hba hZ hmade hhd
      by_cases hlong : 200 < zb.length
      · have hI : decide ((200 : Int) < zb.length) = true := by simp; omega
        have HH : Hid (Ag w B1 D1 B2 D2 (i + 1) _) := ⟨x, y, _, unhide Hduo2, ey1, ey2, ey3, ey4, ey5, ey6, unhide Hmade, unhide Hhd, by omega, hcl, hzl, hdl, by omega⟩
        clear Hh
        go_wp2
        exact ⟨⟨i + 1, by simp, by omega, HH⟩, by simp only [intOf]; omega⟩
      · have hI : decide ((200 : Int) < zb.length) = false := by simp; omega
        have hslW := (unhide Hs).later (Below.trans hbr ((below_new wr _).mono hbr.size)) |> fun (h : Sl (wr.alloc (.cells #[.int .i64 kind, .int .i64 zn, .int .i64 zm, .slice ba zb.length bc', .bool torn, .bool cell] 37)) (.slice ba zb.length bc') zb) => h
        have hact : ActAt (wr.alloc (.cells #[.int .i64 kind, .int .i64 zn, .int .i64 zm, .slice ba zb.length bc', .bool torn, .bool cell] 37)) wr.heap.size ⟨kind, zn, zm, .slice ba zb.length bc', zb, torn, cell⟩ := unhide Hact
        have HslW := hide hslW
        obtain ⟨nfx, ncx, sf, sc, tx, vx, ox, sb, sd, sL⟩ := x
        obtain ⟨nf, nc, sf', sc', t, vv, oo, st'⟩ := y
        simp only at ey1 ey2 ey3 ey4 ey5 ey6 hnl hcl hzl hdl hll Hmade Hhd
        subst ey1 ey2 ey3 ey4 ey5 ey6
        have Hzl := hide hzl
        have HA := hide hact
        obtain ⟨e0, e1, e2, e3, e4, e5⟩ := hact
        simp only at e0 e1 e2 e3 e4 e5
        clear hzl hslW Hh Hact Hduo
        go_upto_block 2 with fail
        clear c0 c1 c2 c3 c4 c5
        generalize (wr.alloc (.cells #[.int .i64 kind, .int .i64 zn, .int .i64 zm, .slice ba zb.length bc', .bool torn, .bool cell] 37)) = W at *
        generalize wr.heap.size = A at *
        go_cut [9] (fun iv wc => iv = .int .i64 i ∧ Hid (AgMid w A B1 D1 B2 D2 i wc))
        case first =>
          obtain ⟨rv1, hjp1⟩ := (unhide Hduo2).jp1
          have hsb : sb ≤ 1099511627776 := hjp1.hb
          clear hjp1
          by_cases q1 : kind = 1
          · subst q1
            have hsm := (Ch.add zb).small ⟨Nat.zero_le _, by show zb.length ≤ 65516; omega⟩ (by show zb.length ≤ 200; omega)
            go_wp2_with fail
            refine ((unhide Hduo2).op1 (x' := ⟨nf ++ fr (Ch.add zb).enc, nc, sf, sc, t, vv, oo, (sb, sd, sL ++ [zb])⟩) (fun S hj hS => append_j B1 D1 nf nc sf sc t vv oo sb sd zb sL _ W hj hS (unhide HslW) (by omega) (by omega) (by omega))).mono ?_
            rintro e w7 ⟨rfl, hd7, hk7⟩
            have Hd7 := hide hd7
            have hA7 : ActAt w7 A _ := (unhide HA).frame (hk7 A rfl)
            obtain ⟨e0, e1, e2, e3, e4, e5⟩ := id hA7
            simp only at e0 e1 e2 e3 e4 e5
            have HA7 := hide hA7
            have Hsl7 : Hid (Sl w7 (.slice ba zb.length bc') zb) := (unhide Hs).later (hd7).below
            clear hd7 hk7 hA7
            go_wp2_with fail
            refine ((unhide Hd7).op2 (y' := ⟨nf ++ fr (Ch.add zb).enc, nc, sf', sc', t, vv, oo, (sb, sd, sL ++ [zb])⟩) (fun S hj hS => append_j B2 D2 nf nc sf' sc' t vv oo sb sd zb sL _ w7 hj hS (unhide Hsl7) (by omega) (by omega) (by omega))).mono ?_
            rintro e w8 ⟨rfl, hd8, hk8⟩
            have HM : Hid (AgMid w A B1 D1 B2 D2 i w8) := ⟨_, _, hd8, rfl, rfl, rfl, rfl, rfl, rfl, (unhide Hmade).snoc ⟨Nat.zero_le _, by show zb.length ≤ 65516; omega⟩ rfl, unhide Hhd, by rw [List.length_append, fr_length]; omega, hcl, fun q hq => by
              rcases List.mem_append.1 hq with e | e
              · exact unhide Hzl q e
              · simp at e; subst e; omega, hdl, by rw [List.length_append]; show sL.length + 1 ≤ _; omega⟩
            clear hd8 hk8
            go_wp2_with fail
            go_meet
            case rel => exact ⟨rfl, HM⟩
          by_cases q2 : kind = 2
          · subst q2
            by_cases hc : (sb : Int) ≤ zn ∧ zn ≤ sb + sL.length
            · obtain ⟨n2, rfl⟩ : ∃ n : Nat, zn = n := ⟨zn.toNat, by omega⟩
              have hgd : (Ch.first (n2 - sb)).Good := ⟨by show n2 - sb ≤ 1099511627776; omega, Nat.zero_le _⟩
              have hsm := (Ch.first (n2 - sb)).small hgd (Nat.zero_le _)
              go_wp2_with fail
              refine ((unhide Hduo2).op1 (x' := ⟨nf ++ fr (Ch.first (n2 - sb)).enc, nc, sf, sc, t, vv, oo, (sb, sd, sL.take (n2 - sb))⟩) (fun S hj hS => cut_j B1 D1 nf nc sf sc t vv oo sb sd sL n2 W hj hS (by omega) (by omega) (by omega))).mono ?_
              rintro e w7 ⟨rfl, hd7, hk7⟩
              have Hd7 := hide hd7
              have hA7 : ActAt w7 A _ := (unhide HA).frame (hk7 A rfl)
              obtain ⟨e0, e1, e2, e3, e4, e5⟩ := id hA7
              simp only at e0 e1 e2 e3 e4 e5
              have HA7 := hide hA7
              have Hsl7 : Hid (Sl w7 (.slice ba zb.length bc') zb) := (unhide Hs).later (hd7).below
              clear hd7 hk7 hA7
              go_wp2_with fail
              refine ((unhide Hd7).op2 (y' := ⟨nf ++ fr (Ch.first (n2 - sb)).enc, nc, sf', sc', t, vv, oo, (sb, sd, sL.take (n2 - sb))⟩) (fun S hj hS => cut_j B2 D2 nf nc sf' sc' t vv oo sb sd sL n2 w7 hj hS (by omega) (by omega) (by omega))).mono ?_
              rintro e w8 ⟨rfl, hd8, hk8⟩
              have HM : Hid (AgMid w A B1 D1 B2 D2 i w8) := ⟨_, _, hd8, rfl, rfl, rfl, rfl, rfl, rfl, (unhide Hmade).snoc hgd (if_pos (by omega)), unhide Hhd, by rw [List.length_append, fr_length]; omega, hcl, fun q hq => unhide Hzl q (List.mem_of_mem_take hq), hdl, by show (sL.take _).length ≤ _; rw [List.length_take]; omega⟩
              clear hd8 hk8
              go_wp2_with fail
              go_meet
              case rel => exact ⟨rfl, HM⟩
            · skip
              obtain ⟨rva, hja⟩ := (unhide Hduo2).jp1
              have Hja := hide hja
              clear hja
              go_wp2_with fail
              refine (cut_j_no B1 D1 t vv oo sb sd sL zn rva W (unhide Hja) (by omega)).mono ?_
              rintro e w7 ⟨rfl, hb7⟩
              have hd7 := (unhide Hduo2).later hb7
              have hk7 := Kept.of hb7 (unhide Hduo2).plt
              clear hb7
              have Hd7 := hide hd7
              have hA7 : ActAt w7 A _ := (unhide HA).frame (hk7 A rfl)
              obtain ⟨e0, e1, e2, e3, e4, e5⟩ := id hA7
              simp only at e0 e1 e2 e3 e4 e5
              have HA7 := hide hA7
              have Hsl7 : Hid (Sl w7 (.slice ba zb.length bc') zb) := (unhide Hs).later (hd7).below
              clear hd7 hk7 hA7
              obtain ⟨rvb, hjb⟩ := (unhide Hd7).jp2
              have Hjb := hide hjb
              clear hjb
              go_wp2_with fail
              refine (cut_j_no B2 D2 t vv oo sb sd sL zn rvb w7 (unhide Hjb) (by omega)).mono ?_
              rintro e w8 ⟨rfl, hb8⟩
              have hd8 := (unhide Hd7).later hb8
              have HM : Hid (AgMid w A B1 D1 B2 D2 i w8) := ⟨_, _, hd8, rfl, rfl, rfl, rfl, rfl, rfl, unhide Hmade, unhide Hhd, by show nf.length ≤ _; omega, hcl, unhide Hzl, hdl, by show sL.length ≤ _; omega⟩
              clear hd8 hb8
              go_wp2_with fail
              go_meet
              case rel => exact ⟨rfl, HM⟩
          by_cases q3 : kind = 3
          · subst q3
            by_cases hc : 0 ≤ zn ∧ zn ≤ 1099511627776
            · obtain ⟨n2, rfl⟩ : ∃ n : Nat, zn = n := ⟨zn.toNat, by omega⟩
              have hgd : (Ch.lay n2 zb).Good := ⟨by show n2 ≤ 1099511627776; omega, by show zb.length ≤ 65516; omega⟩
              have hsm := (Ch.lay n2 zb).small hgd (by show zb.length ≤ 200; omega)
              go_wp2_with fail
              refine ((unhide Hduo2).op1 (x' := ⟨nf ++ fr (Ch.lay n2 zb).enc, nc, sf, sc, t, vv, oo, (n2, zb, sL.drop (goneN sb n2 sL.length))⟩) (fun S hj hS => rebase_j B1 D1 nf nc sf sc t vv oo sb sd zb sL n2 _ W hj hS (unhide HslW) (by omega) (by omega) (by omega))).mono ?_
              rintro e w7 ⟨rfl, hd7, hk7⟩
              have Hd7 := hide hd7
              have hA7 : ActAt w7 A _ := (unhide HA).frame (hk7 A rfl)
              obtain ⟨e0, e1, e2, e3, e4, e5⟩ := id hA7
              simp only at e0 e1 e2 e3 e4 e5
              have HA7 := hide hA7
              have Hsl7 : Hid (Sl w7 (.slice ba zb.length bc') zb) := (unhide Hs).later (hd7).below
              clear hd7 hk7 hA7
              go_wp2_with fail
              refine ((unhide Hd7).op2 (y' := ⟨nf ++ fr (Ch.lay n2 zb).enc, nc, sf', sc', t, vv, oo, (n2, zb, sL.drop (goneN sb n2 sL.length))⟩) (fun S hj hS => rebase_j B2 D2 nf nc sf' sc' t vv oo sb sd zb sL n2 _ w7 hj hS (unhide Hsl7) (by omega) (by omega) (by omega))).mono ?_
              rintro e w8 ⟨rfl, hd8, hk8⟩
              have HM : Hid (AgMid w A B1 D1 B2 D2 i w8) := ⟨_, _, hd8, rfl, rfl, rfl, rfl, rfl, rfl, (unhide Hmade).snoc hgd (by show some (n2, zb, _) = some (n2, zb, _); rw [goneN_drop]), unhide Hhd, by rw [List.length_append, fr_length]; omega, hcl, fun q hq => unhide Hzl q (List.mem_of_mem_drop hq), by show zb.length ≤ 200; omega, by show (sL.drop _).length ≤ _; rw [List.length_drop]; omega⟩
              clear hd8 hk8
              go_wp2_with fail
              go_meet
              case rel => exact ⟨rfl, HM⟩
            · skip
              obtain ⟨rva, hja⟩ := (unhide Hduo2).jp1
              have Hja := hide hja
              clear hja
              go_wp2_with fail
              refine (rebase_b B1 zn _ W (by omega)).mono ?_
              rintro e w7 ⟨rfl, hb7⟩
              have hd7 := (unhide Hduo2).later hb7
              have hk7 := Kept.of hb7 (unhide Hduo2).plt
              clear hb7
              have Hd7 := hide hd7
              have hA7 : ActAt w7 A _ := (unhide HA).frame (hk7 A rfl)
              obtain ⟨e0, e1, e2, e3, e4, e5⟩ := id hA7
              simp only at e0 e1 e2 e3 e4 e5
              have HA7 := hide hA7
              have Hsl7 : Hid (Sl w7 (.slice ba zb.length bc') zb) := (unhide Hs).later (hd7).below
              clear hd7 hk7 hA7
              obtain ⟨rvb, hjb⟩ := (unhide Hd7).jp2
              have Hjb := hide hjb
              clear hjb
              go_wp2_with fail
              refine (rebase_b B2 zn _ w7 (by omega)).mono ?_
              rintro e w8 ⟨rfl, hb8⟩
              have hd8 := (unhide Hd7).later hb8
              have HM : Hid (AgMid w A B1 D1 B2 D2 i w8) := ⟨_, _, hd8, rfl, rfl, rfl, rfl, rfl, rfl, unhide Hmade, unhide Hhd, by show nf.length ≤ _; omega, hcl, unhide Hzl, hdl, by show sL.length ≤ _; omega⟩
              clear hd8 hb8
              go_wp2_with fail
              go_meet
              case rel => exact ⟨rfl, HM⟩
          by_cases q4 : kind = 4
          · subst q4
            by_cases hc : (0 ≤ zn ∧ zn ≤ 1099511627776) ∧ (0 ≤ zm ∧ zm ≤ 1099511627776)
            · obtain ⟨n2, rfl⟩ : ∃ n : Nat, zn = n := ⟨zn.toNat, by omega⟩
              obtain ⟨m2, rfl⟩ : ∃ n : Nat, zm = n := ⟨zm.toNat, by omega⟩
              have hh := encH_fits (t := n2) (v := m2) (o := 0) (by omega) (by omega) (by decide)
              go_wp2_with fail
              refine ((unhide Hduo2).op1 (x' := ⟨nf, fr (encH n2 m2 0), sf, sc, n2, m2, 0, (sb, sd, sL)⟩) (fun S hj hS => set_j B1 D1 nf nc sf sc t vv oo n2 m2 0 (sb, sd, sL) W hj hS (by omega) (by omega) (by decide))).mono ?_
              rintro e w7 ⟨rfl, hd7, hk7⟩
              have Hd7 := hide hd7
              have hA7 : ActAt w7 A _ := (unhide HA).frame (hk7 A rfl)
              obtain ⟨e0, e1, e2, e3, e4, e5⟩ := id hA7
              simp only at e0 e1 e2 e3 e4 e5
              have HA7 := hide hA7
              have Hsl7 : Hid (Sl w7 (.slice ba zb.length bc') zb) := (unhide Hs).later (hd7).below
              clear hd7 hk7 hA7
              go_wp2_with fail
              refine ((unhide Hd7).op2 (y' := ⟨nf, fr (encH n2 m2 0), sf', sc', n2, m2, 0, (sb, sd, sL)⟩) (fun S hj hS => set_j B2 D2 nf nc sf' sc' t vv oo n2 m2 0 (sb, sd, sL) w7 hj hS (by omega) (by omega) (by decide))).mono ?_
              rintro e w8 ⟨rfl, hd8, hk8⟩
              have HM : Hid (AgMid w A B1 D1 B2 D2 i w8) := ⟨_, _, hd8, rfl, rfl, rfl, rfl, rfl, rfl, unhide Hmade, hdOf_enc (by omega) (by omega) (by decide), by show nf.length ≤ _; omega, by show (fr (encH n2 m2 0)).length ≤ 26; rw [fr_length]; omega, unhide Hzl, hdl, by show sL.length ≤ _; omega⟩
              clear hd8 hk8
              go_wp2_with fail
              go_meet
              case rel => exact ⟨rfl, HM⟩
            · skip
              obtain ⟨rva, hja⟩ := (unhide Hduo2).jp1
              have Hja := hide hja
              clear hja
              go_wp2_with fail
              refine (set_j_no B1 zn zm 0 W (by omega)).mono ?_
              rintro e w7 ⟨rfl, hb7⟩
              have hd7 := (unhide Hduo2).later hb7
              have hk7 := Kept.of hb7 (unhide Hduo2).plt
              clear hb7
              have Hd7 := hide hd7
              have hA7 : ActAt w7 A _ := (unhide HA).frame (hk7 A rfl)
              obtain ⟨e0, e1, e2, e3, e4, e5⟩ := id hA7
              simp only at e0 e1 e2 e3 e4 e5
              have HA7 := hide hA7
              have Hsl7 : Hid (Sl w7 (.slice ba zb.length bc') zb) := (unhide Hs).later (hd7).below
              clear hd7 hk7 hA7
              obtain ⟨rvb, hjb⟩ := (unhide Hd7).jp2
              have Hjb := hide hjb
              clear hjb
              go_wp2_with fail
              refine (set_j_no B2 zn zm 0 w7 (by omega)).mono ?_
              rintro e w8 ⟨rfl, hb8⟩
              have hd8 := (unhide Hd7).later hb8
              have HM : Hid (AgMid w A B1 D1 B2 D2 i w8) := ⟨_, _, hd8, rfl, rfl, rfl, rfl, rfl, rfl, unhide Hmade, unhide Hhd, by show nf.length ≤ _; omega, hcl, unhide Hzl, hdl, by show sL.length ≤ _; omega⟩
              clear hd8 hb8
              go_wp2_with fail
              go_meet
              case rel => exact ⟨rfl, HM⟩
          by_cases q5 : kind = 5
          · subst q5
            go_wp2_with fail
            refine ((unhide Hduo2).op1 (x' := ⟨nf, nc, nf, nc, t, vv, oo, (sb, sd, sL)⟩) (fun S hj hS => sync_j B1 D1 nf nc sf sc t vv oo (sb, sd, sL) W hj)).mono ?_
            rintro e w8 ⟨rfl, hd8, hk8⟩
            have HM : Hid (AgMid w A B1 D1 B2 D2 i w8) := ⟨_, _, hd8, rfl, rfl, rfl, rfl, rfl, rfl, unhide Hmade, unhide Hhd, by show nf.length ≤ _; omega, hcl, unhide Hzl, hdl, by show sL.length ≤ _; omega⟩
            clear hd8 hk8
            go_wp2_with fail
            go_meet
            case rel => exact ⟨rfl, HM⟩
          have HM : Hid (AgMid w A B1 D1 B2 D2 i W) := ⟨_, _, unhide Hduo2, rfl, rfl, rfl, rfl, rfl, rfl, unhide Hmade, unhide Hhd, by show nf.length ≤ _; omega, hcl, unhide Hzl, hdl, by show sL.length ≤ _; omega⟩
          have p1 : (kind == 1) = false := by simpa using q1
          have p2 : (kind == 2) = false := by simpa using q2
          have p3 : (kind == 3) = false := by simpa using q3
          have p4 : (kind == 4) = false := by simpa using q4
          have p5 : (kind == 5) = false := by simpa using q5
          go_wp2_with fail
          go_meet
          case rel => exact ⟨rfl, HM⟩
        case rest =>
          obtain ⟨rfl, Hmid⟩ := hcut
          obtain ⟨x, y, hduo, ey1, ey2, ey3, ey4, ey5, ey6, hmade, hhd, hnl3, hcl3, hzl, hdl3, hll3⟩ := unhide Hmid
          clear Hduo2 Hmade Hhd HslW Hs HA Hzl hnl hcl hdl hll e0 e1 e2 e3 e4 e5
          obtain ⟨nfx, ncx, sf, sc, tx, vx, ox, sb, sd, sL⟩ := x
          obtain ⟨nf, nc, sf', sc', t, vv, oo, st'⟩ := y
          simp only at ey1 ey2 ey3 ey4 ey5 ey6 hnl3 hcl3 hzl hdl3 hll3 hmade hhd
          subst ey1 ey2 ey3 ey4 ey5 ey6
          have Hduo := hide hduo
          have Hmade := hide hmade
          have Hhd := hide hhd
          have Hzl := hide hzl
          obtain ⟨S1, hdk1⟩ := hduo.dk1
          have Hdk1 := hide hdk1
          clear hduo hmade hhd hzl Hmid hdk1
          go_wp2_with fail
          refine (file_g D1 nf nc sf sc wc (unhide Hdk1)).mono ?_
          rintro e w6 ⟨g6, rfl, ho6, hb6⟩
          have hcv := conv_sl w6 _ _ ho6.sl
          have Hduo6 := hide ((unhide Hduo).later hb6)
          have Hdk6 := hide ((unhide Hdk1).later hb6)
          clear ho6 hb6 Hduo Hdk1
          generalize hF : bs nf = F at *
          have HF := hide hF
          clear hF
          go_wp2_with fail
          refine (open_yes D1 nf nc sf sc t vv oo (sb, sd, sL) nf.length w6 (unhide Hdk6) (by omega) (by omega) (unhide Hhd) (unhide Hmade).opens).mono ?_
          rintro e w7 ⟨B3, rv3, rfl, hB3, hrv3, hj3, hx3⟩
          have hb7 : Below w6.heap.size w6 w7 := by
            rcases hx3 with h | h
            · exact h.2
            · have := h.1; omega
          have Hduo7 := hide ((unhide Hduo6).later hb7)
          have Hj3 := hide hj3
          clear hj3 hx3 hb7 hrv3 Hduo6 Hdk6 hcv
          go_wp2_with fail
          cases unhide HF
          obtain ⟨S1', hk1⟩ := (unhide Hduo7).dk1
          obtain ⟨S2', hk2⟩ := (unhide Hduo7).dk2
          have HQ : Hid (Aft w A w7 B1 D1 B2 D2 B3 nf nc sf sc sf' sc' t vv oo (sb, sd, sL) rv3 S1' S2') := ⟨unhide Hduo7, unhide Hj3, hk1, hk2⟩
          clear Hduo7 Hj3 hk1 hk2 HF
          replace HQ := hide ((unhide HQ).later (Below.refl w7.heap.size w7).drew)
          refine wp_region_held_drew (S := fun y => Below w7.drew.heap.size w7.drew y) (by kernel_rfl) (Below.refl _ _) (fun hS => ?_)
          generalize w7.drew = V0 at *
          refine held_take 0 128 rfl rfl (by kernel_rfl) (by kernel_rfl) (by kernel_rfl) (fun _ _ _ h => h) (by rfl) hS (v := ?_) ?_ ?_
          rotate_left
          · intro y hSy
            clear hSy
            go_simp
            with_reducible rfl
          simp only [Act.put, List.setIfInBounds_toArray, List.set_cons_zero, List.set_cons_succ]
          refine held_take 1 129 rfl rfl (by kernel_rfl) (by kernel_rfl) (by kernel_rfl) (fun _ _ _ h => h) (by rfl) hS (v := ?_) ?_ ?_
          rotate_left
          · intro y hSy
            clear hSy
            go_simp
            with_reducible rfl
          simp only [Act.put, List.setIfInBounds_toArray, List.set_cons_zero, List.set_cons_succ]
          refine held_take 2 130 rfl rfl (by kernel_rfl) (by kernel_rfl) (by kernel_rfl) (fun _ _ _ h => h) (by rfl) hS (v := ?_) ?_ ?_
          rotate_left
          · intro y hSy
            clear hSy
            go_simp
            with_reducible rfl
          simp only [Act.put, List.setIfInBounds_toArray, List.set_cons_zero, List.set_cons_succ]
          refine held_take 3 131 rfl rfl (by kernel_rfl) (by kernel_rfl) (by kernel_rfl) (fun _ _ _ h => h) (by rfl) hS (v := ?_) ?_ ?_
          rotate_left
          · intro y hSy
            clear hSy
            go_simp
            with_reducible rfl
          simp only [Act.put, List.setIfInBounds_toArray, List.set_cons_zero, List.set_cons_succ]
          refine held_take 4 132 rfl rfl (by kernel_rfl) (by kernel_rfl) (by kernel_rfl) (fun _ _ _ h => h) (by rfl) hS (v := ?_) ?_ ?_
          rotate_left
          · intro y hSy
            clear hSy
            go_simp
            with_reducible rfl
          simp only [Act.put, List.setIfInBounds_toArray, List.set_cons_zero, List.set_cons_succ]
          refine held_take 5 133 rfl rfl (by kernel_rfl) (by kernel_rfl) (by kernel_rfl) (fun _ _ _ h => h) (by rfl) hS (v := ?_) ?_ ?_
          rotate_left
          · intro y hSy
            clear hSy
            go_simp
            with_reducible rfl
          simp only [Act.put, List.setIfInBounds_toArray, List.set_cons_zero, List.set_cons_succ]
          refine held_take 6 134 rfl rfl (by kernel_rfl) (by kernel_rfl) (by kernel_rfl) (fun _ _ _ h => h) (by rfl) hS (v := ?_) ?_ ?_
          rotate_left
          · intro y hSy
            clear hSy
            go_simp
            with_reducible rfl
          simp only [Act.put, List.setIfInBounds_toArray, List.set_cons_zero, List.set_cons_succ]
          refine held_take 7 135 rfl rfl (by kernel_rfl) (by kernel_rfl) (by kernel_rfl) (fun _ _ _ h => h) (by rfl) hS (v := ?_) ?_ ?_
          rotate_left
          · intro y hSy
            clear hSy
            go_simp
            with_reducible rfl
          simp only [Act.put, List.setIfInBounds_toArray, List.set_cons_zero, List.set_cons_succ]
          refine held_take 10 138 rfl rfl (by kernel_rfl) (by kernel_rfl) (by kernel_rfl) (fun _ _ _ h => h) (by rfl) hS (v := ?_) ?_ ?_
          rotate_left
          · intro y hSy
            clear hSy
            go_simp
            with_reducible rfl
          simp only [Act.put, List.setIfInBounds_toArray, List.set_cons_zero, List.set_cons_succ]
          refine wpAnyH_ready (rs := [8]) (by kernel_rfl) (by simp) ?_
          refine AllReadyH.cons rfl (fun K hK => ?_) AllReadyH.nil
          go_simp
          refine (file_g D1 _ _ _ _ _ (unhide HQ).d1).mono ?_
          rintro e V1 ⟨g1, rfl, ho, hb⟩
          refine hK.out _ _ hb (fun _ => ?_)
          clear hK K
          refine held_mono (S' := fun y => Below V1.heap.size V1 y) (fun y hy => hb.trans (hy.mono hb.size)) _ _ _ _ ?_
          replace hS : Below V1.heap.size V1 V1 := Below.refl _ _
          replace HQ := hide ((unhide HQ).later hb)
          have HR := hide ho
          clear ho hb
          refine held_take 9 137 rfl rfl (by kernel_rfl) (by kernel_rfl) (by kernel_rfl) (fun _ _ _ h => h) (by rfl) hS (v := ?_) ?_ ?_
          rotate_left
          · intro y hSy
            have cv := conv_sl y _ _ ((unhide HR).later hSy).sl
            clear hSy
            go_simp
            with_reducible rfl
          simp only [Act.put, List.setIfInBounds_toArray, List.set_cons_zero, List.set_cons_succ]
          clear HR
          refine held_take 11 139 rfl rfl (by kernel_rfl) (by kernel_rfl) (by kernel_rfl) (fun _ _ _ h => h) (by rfl) hS (v := ?_) ?_ ?_
          rotate_left
          · intro y hSy
            clear hSy
            go_simp
            with_reducible rfl
          simp only [Act.put, List.setIfInBounds_toArray, List.set_cons_zero, List.set_cons_succ]
          refine held_take 12 140 rfl rfl (by kernel_rfl) (by kernel_rfl) (by kernel_rfl) (fun _ _ _ h => h) (by rfl) hS (v := ?_) ?_ ?_
          rotate_left
          · intro y hSy
            clear hSy
            go_simp
            with_reducible rfl
          simp only [Act.put, List.setIfInBounds_toArray, List.set_cons_zero, List.set_cons_succ]
          refine held_take 13 141 rfl rfl (by kernel_rfl) (by kernel_rfl) (by kernel_rfl) (fun _ _ _ h => h) (by rfl) hS (v := ?_) ?_ ?_
          rotate_left
          · intro y hSy
            clear hSy
            go_simp
            with_reducible rfl
          simp only [Act.put, List.setIfInBounds_toArray, List.set_cons_zero, List.set_cons_succ]
          refine held_take 14 142 rfl rfl (by kernel_rfl) (by kernel_rfl) (by kernel_rfl) (fun _ _ _ h => h) (by rfl) hS (v := ?_) ?_ ?_
          rotate_left
          · intro y hSy
            clear hSy
            go_simp
            with_reducible rfl
          simp only [Act.put, List.setIfInBounds_toArray, List.set_cons_zero, List.set_cons_succ]
          refine held_take 17 145 rfl rfl (by kernel_rfl) (by kernel_rfl) (by kernel_rfl) (fun _ _ _ h => h) (by rfl) hS (v := ?_) ?_ ?_
          rotate_left
          · intro y hSy
            clear hSy
            go_simp
            with_reducible rfl
          simp only [Act.put, List.setIfInBounds_toArray, List.set_cons_zero, List.set_cons_succ]
          refine wpAnyH_ready (rs := [15]) (by kernel_rfl) (by simp) ?_
          refine AllReadyH.cons rfl (fun K hK => ?_) AllReadyH.nil
          go_simp
          refine (file_g D2 _ _ _ _ _ (unhide HQ).d2).mono ?_
          rintro e V2 ⟨g2, rfl, ho, hb⟩
          refine hK.out _ _ hb (fun _ => ?_)
          clear hK K
          refine held_mono (S' := fun y => Below V2.heap.size V2 y) (fun y hy => hb.trans (hy.mono hb.size)) _ _ _ _ ?_
          replace hS : Below V2.heap.size V2 V2 := Below.refl _ _
          replace HQ := hide ((unhide HQ).later hb)
          have HR := hide ho
          clear ho hb
          refine held_take 16 144 rfl rfl (by kernel_rfl) (by kernel_rfl) (by kernel_rfl) (fun _ _ _ h => h) (by rfl) hS (v := ?_) ?_ ?_
          rotate_left
          · intro y hSy
            have cv := conv_sl y _ _ ((unhide HR).later hSy).sl
            clear hSy
            go_simp
            with_reducible rfl
          simp only [Act.put, List.setIfInBounds_toArray, List.set_cons_zero, List.set_cons_succ]
          clear HR
          refine held_take 18 146 rfl rfl (by kernel_rfl) (by kernel_rfl) (by kernel_rfl) (fun _ _ _ h => h) (by rfl) hS (v := ?_) ?_ ?_
          rotate_left
          · intro y hSy
            clear hSy
            go_simp
            with_reducible rfl
          simp only [Act.put, List.setIfInBounds_toArray, List.set_cons_zero, List.set_cons_succ]
          refine held_take 19 147 rfl rfl (by kernel_rfl) (by kernel_rfl) (by kernel_rfl) (fun _ _ _ h => h) (by rfl) hS (v := ?_) ?_ ?_
          rotate_left
          · intro y hSy
            clear hSy
            go_simp
            with_reducible rfl
          simp only [Act.put, List.setIfInBounds_toArray, List.set_cons_zero, List.set_cons_succ]
          refine held_take 20 148 rfl rfl (by kernel_rfl) (by kernel_rfl) (by kernel_rfl) (fun _ _ _ h => h) (by rfl) hS (v := ?_) ?_ ?_
          rotate_left
          · intro y hSy
            clear hSy
            go_simp
            with_reducible rfl
          simp only [Act.put, List.setIfInBounds_toArray, List.set_cons_zero, List.set_cons_succ]
          refine held_take 21 149 rfl rfl (by kernel_rfl) (by kernel_rfl) (by kernel_rfl) (fun _ _ _ h => h) (by rfl) hS (v := ?_) ?_ ?_
          rotate_left
          · intro y hSy
            clear hSy
            go_simp
            with_reducible rfl
          simp only [Act.put, List.setIfInBounds_toArray, List.set_cons_zero, List.set_cons_succ]
          refine held_take 24 152 rfl rfl (by kernel_rfl) (by kernel_rfl) (by kernel_rfl) (fun _ _ _ h => h) (by rfl) hS (v := ?_) ?_ ?_
          rotate_left
          · intro y hSy
            clear hSy
            go_simp
            with_reducible rfl
          simp only [Act.put, List.setIfInBounds_toArray, List.set_cons_zero, List.set_cons_succ]
          refine wpAnyH_ready (rs := [22]) (by kernel_rfl) (by simp) ?_
          refine AllReadyH.cons rfl (fun K hK => ?_) AllReadyH.nil
          go_simp
          refine (cell_g D2 _ _ _ _ _ (unhide HQ).d2).mono ?_
          rintro e V3 ⟨g3, rfl, ho, hb⟩
          refine hK.out _ _ hb (fun _ => ?_)
          clear hK K
          refine held_mono (S' := fun y => Below V3.heap.size V3 y) (fun y hy => hb.trans (hy.mono hb.size)) _ _ _ _ ?_
          replace hS : Below V3.heap.size V3 V3 := Below.refl _ _
          replace HQ := hide ((unhide HQ).later hb)
          have HR := hide ho
          clear ho hb
          refine held_take 23 151 rfl rfl (by kernel_rfl) (by kernel_rfl) (by kernel_rfl) (fun _ _ _ h => h) (by rfl) hS (v := ?_) ?_ ?_
          rotate_left
          · intro y hSy
            have cv := conv_sl y _ _ ((unhide HR).later hSy).sl
            clear hSy
            go_simp
            with_reducible rfl
          simp only [Act.put, List.setIfInBounds_toArray, List.set_cons_zero, List.set_cons_succ]
          clear HR
          refine wpAnyH_ready (rs := [25]) (by kernel_rfl) (by simp) ?_
          refine AllReadyH.cons rfl (fun K hK => ?_) AllReadyH.nil
          go_simp
          refine (cell_g D1 _ _ _ _ _ (unhide HQ).d1).mono ?_
          rintro e V4 ⟨g4, rfl, ho, hb⟩
          refine hK.out _ _ hb (fun _ => ?_)
          clear hK K
          refine held_mono (S' := fun y => Below V4.heap.size V4 y) (fun y hy => hb.trans (hy.mono hb.size)) _ _ _ _ ?_
          replace hS : Below V4.heap.size V4 V4 := Below.refl _ _
          replace HQ := hide ((unhide HQ).later hb)
          have HR := hide ho
          clear ho hb
          refine held_take 26 154 rfl rfl (by kernel_rfl) (by kernel_rfl) (by kernel_rfl) (fun _ _ _ h => h) (by rfl) hS (v := ?_) ?_ ?_
          rotate_left
          · intro y hSy
            have cv := conv_sl y _ _ ((unhide HR).later hSy).sl
            clear hSy
            go_simp
            with_reducible rfl
          simp only [Act.put, List.setIfInBounds_toArray, List.set_cons_zero, List.set_cons_succ]
          clear HR
          refine held_take 27 155 rfl rfl (by kernel_rfl) (by kernel_rfl) (by kernel_rfl) (fun _ _ _ h => h) (by rfl) hS (v := ?_) ?_ ?_
          rotate_left
          · intro y hSy
            clear hSy
            go_simp
            with_reducible rfl
          simp only [Act.put, List.setIfInBounds_toArray, List.set_cons_zero, List.set_cons_succ]
          refine held_take 28 156 rfl rfl (by kernel_rfl) (by kernel_rfl) (by kernel_rfl) (fun _ _ _ h => h) (by rfl) hS (v := ?_) ?_ ?_
          rotate_left
          · intro y hSy
            clear hSy
            go_simp
            with_reducible rfl
          simp only [Act.put, List.setIfInBounds_toArray, List.set_cons_zero, List.set_cons_succ]
          refine wpAnyH_done (by kernel_rfl) ?_ _
          obtain ⟨rv1, hj1⟩ : ∃ rv, Jp V4 B1 D1 t vv oo (sb, sd, sL) rv := (unhide HQ).duo.jp1
          have Hj1 := hide hj1
          clear hj1
          go_wp2_with fail
          refine (seen_any B1 D1 t vv oo sb sd sL rv1 _ (unhide Hj1) (by omega) (fun x hx => by have := unhide Hzl x hx; omega)).mono ?_
          rintro e w8 ⟨g8, rfl, hq8, hb8⟩
          replace HQ := hide ((unhide HQ).later hb8)
          have HA8 := hide hq8.bss
          clear hq8 hb8 Hj1
          go_wp2_with fail
          have hbN := below_new w8 (.cells #[.int .i64 (sb : Int), .string (bs sd), .slice (some ⟨g8, 0, none⟩) sL.length sL.length] 56)
          have n0 : (w8.alloc (.cells #[.int .i64 (sb : Int), .string (bs sd), .slice (some ⟨g8, 0, none⟩) sL.length sL.length] 56)).cell? ⟨w8.heap.size, 0, none⟩ = some (.int .i64 sb) := by simp
          have n1 : (w8.alloc (.cells #[.int .i64 (sb : Int), .string (bs sd), .slice (some ⟨g8, 0, none⟩) sL.length sL.length] 56)).cell? ⟨w8.heap.size, 1, none⟩ = some (.string (bs sd)) := by simp
          have n2 : (w8.alloc (.cells #[.int .i64 (sb : Int), .string (bs sd), .slice (some ⟨g8, 0, none⟩) sL.length sL.length] 56)).cell? ⟨w8.heap.size, 2, none⟩ = some (.slice (some ⟨g8, 0, none⟩) sL.length sL.length) := by simp
          replace HQ := hide ((unhide HQ).later hbN)
          replace HA8 := hide ((unhide HA8).below hbN (Nat.le_refl _))
          clear hbN
          generalize w8.alloc (.cells #[.int .i64 (sb : Int), .string (bs sd), .slice (some ⟨g8, 0, none⟩) sL.length sL.length] 56) = w9 at *
          generalize w8.heap.size = N at *
          have hltN := World.block_lt_of_cell? w9 _ n0
          have hdr : Below w9.heap.size w9 w9.drew := (Below.refl w9.heap.size w9).drew
          have m0 := (hdr.cell (p := ⟨N, 0, none⟩) hltN).trans n0
          have m1 := (hdr.cell (p := ⟨N, 1, none⟩) hltN).trans n1
          have m2 := (hdr.cell (p := ⟨N, 2, none⟩) hltN).trans n2
          have hlt5 := World.block_lt_of_cell? w9.drew _ m0
          replace HQ := hide ((unhide HQ).later hdr)
          replace HA8 := hide ((unhide HA8).below hdr (Nat.le_refl _))
          refine wp_region_held_drew (S := fun y => Below w9.drew.heap.size w9.drew y) (by kernel_rfl) (Below.refl _ _) (fun hS => ?_)
          clear n0 n1 n2 hltN hdr
          generalize w9.drew = V5 at *
          refine held_take 0 159 rfl rfl (by kernel_rfl) (by kernel_rfl) (by kernel_rfl) (fun _ _ _ h => h) (by rfl) hS (v := .agg #[.int .i64 (sb : Int), .string (bs sd), .slice (some ⟨g8, 0, none⟩) sL.length sL.length]) ?_ ?_
          · intro y hSy
            have l0 := (hSy.cell (p := ⟨N, 0, none⟩) hlt5).trans m0
            have l1 := (hSy.cell (p := ⟨N, 1, none⟩) hlt5).trans m1
            have l2 := (hSy.cell (p := ⟨N, 2, none⟩) hlt5).trans m2
            clear hSy m0 m1 m2
            go_simp
          simp only [Act.put, List.setIfInBounds_toArray, List.set_cons_zero, List.set_cons_succ]
          refine held_take 1 160 rfl rfl (by kernel_rfl) (by kernel_rfl) (by kernel_rfl) (fun _ _ _ h => h) (by rfl) hS (v := ?_) ?_ ?_
          rotate_left
          · intro y hSy
            clear hSy
            go_simp
            with_reducible rfl
          simp only [Act.put, List.setIfInBounds_toArray, List.set_cons_zero, List.set_cons_succ]
          refine wpAnyH_ready (rs := [2]) (by kernel_rfl) (by simp) ?_
          refine AllReadyH.cons rfl (fun K hK => ?_) AllReadyH.nil
          go_simp
          refine (seen_any B3 D1 t vv oo sb sd sL rv3 _ (unhide HQ).j (by omega) (fun x hx => by have := unhide Hzl x hx; omega)).mono ?_
          rintro e V6 ⟨g9, rfl, hq9, hb9⟩
          refine hK.out _ _ hb9 (fun _ => ?_)
          clear hK K
          refine held_mono (S' := fun y => Below V6.heap.size V6 y) (fun y hy => hb9.trans (hy.mono hb9.size)) _ _ _ _ ?_
          replace hS : Below V6.heap.size V6 V6 := Below.refl _ _
          replace HQ := hide ((unhide HQ).later hb9)
          replace HA8 := hide ((unhide HA8).below hb9 (Nat.le_refl _))
          have HA9 := hide hq9.bss
          clear hq9 hb9 m0 m1 m2 hlt5
          refine wpAnyH_ready (rs := [3]) (by kernel_rfl) (by simp) ?_
          refine AllReadyH.cons rfl (fun K hK => ?_) AllReadyH.nil
          go_simp
          refine (was_any sb sb sd sd sL sL _ _ _ (unhide HA8) (unhide HA9)).mono ?_
          rintro e V7 ⟨r, rfl, hr, hb9⟩
          obtain rfl : r = true := hr rfl rfl rfl
          refine hK.out _ _ hb9 (fun _ => ?_)
          clear hK K hr
          refine held_mono (S' := fun y => Below V7.heap.size V7 y) (fun y hy => hb9.trans (hy.mono hb9.size)) _ _ _ _ ?_
          replace hS : Below V7.heap.size V7 V7 := Below.refl _ _
          replace HQ := hide ((unhide HQ).later hb9)
          clear hb9 HA8 HA9
          refine held_take 4 15 rfl rfl (by kernel_rfl) (by kernel_rfl) (by kernel_rfl) (fun _ _ _ h => h) (by rfl) hS (v := ?_) ?_ ?_
          rotate_left
          · intro y hSy
            clear hSy
            go_simp
            with_reducible rfl
          simp only [Act.put, List.setIfInBounds_toArray, List.set_cons_zero, List.set_cons_succ]
          refine wpAnyH_done (by kernel_rfl) ?_ _
          clear hS
          obtain ⟨mm, hmm⟩ : ∃ m : Int, ((sb + sL.length : Nat) : Int) = m := ⟨_, rfl⟩
          have Hmm := hide hmm
          clear hmm
          go_wp2_with fail
          refine (hard_any B3 D1 t vv oo (sb, sd, sL) rv3 _ (unhide HQ).j).mono ?_
          rintro e V8 ⟨rfl, hb9⟩
          replace HQ := hide ((unhide HQ).later hb9)
          clear hb9
          obtain ⟨rv4, hj4⟩ : ∃ rv, Jp V8 B1 D1 t vv oo (sb, sd, sL) rv := (unhide HQ).duo.jp1
          have Hj4 := hide hj4
          clear hj4
          go_wp2_with fail
          refine (hard_any B1 D1 t vv oo (sb, sd, sL) rv4 _ (unhide Hj4)).mono ?_
          rintro e V9 ⟨rfl, hb9⟩
          replace HQ := hide ((unhide HQ).later hb9)
          replace Hj4 := hide ((unhide Hj4).later hb9)
          clear hb9
          go_wp2_with fail
          refine (last_b B3 D1 t vv oo sb sd sL rv3 _ (unhide HQ).j mm (unhide Hmm)).mono ?_
          rintro e V10 ⟨rfl, hb9⟩
          replace HQ := hide ((unhide HQ).later hb9)
          replace Hj4 := hide ((unhide Hj4).later hb9)
          clear hb9
          go_wp2_with fail
          refine (last_b B1 D1 t vv oo sb sd sL rv4 _ (unhide Hj4) mm (unhide Hmm)).mono ?_
          rintro e V11 ⟨rfl, hb9⟩
          replace HQ := hide ((unhide HQ).later hb9)
          clear hb9 Hj4
          have HE : Hid (Ag w B1 D1 B2 D2 (i + 1) V11) := ⟨_, _, _, (unhide HQ).duo, rfl, rfl, rfl, rfl, rfl, rfl, unhide Hmade, unhide Hhd, hnl3, hcl3, unhide Hzl, hdl3, hll3⟩
          clear HQ Hmade Hhd Hzl
          go_wp2
          go_roundw
          case rel => exact ⟨i + 1, by go_num, by omega, HE⟩
          case measure => simp [intOf]; omega
    · by_cases hil : i < xs.length
      · have hi1 : decide ((i : Int) < (xs.length : Int)) = true := by simp; omega
        have hi2 : decide ((i : Int) < 60) = false := by simp; omega
        obtain ⟨x, y, P, hduo, _⟩ := unhide Hh
        have HB := hide hduo.below
        clear hduo Hh
        go_wp2
        go_ret
        exact ⟨rfl, unhide HB⟩
      · have hi1 : decide ((i : Int) < (xs.length : Int)) = false := by simp; omega
        obtain ⟨x, y, P, hduo, _⟩ := unhide Hh
        have HB := hide hduo.below
        clear hduo Hh
        go_wp2
        go_ret
        exact ⟨rfl, unhide HB⟩

end Go.Proofs.Yteanjnkfoddfmaa
