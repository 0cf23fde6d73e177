/-
  The walk of the law JournalPlays.
-/
import Derived.Test.YteanjnkfoddfmaaJTwo
import Derived.Deep.DeepCutAuto
import Derived.Deep.CutBlock
namespace Go.Proofs.Yteanjnkfoddfmaa
open Go.RowKit
set_option linter.unusedVariables false

/-- What holds of the journal behind i acts. -/
structure PlI (i : Nat) (x : Jst) : Prop where
  nf : x.nf.length ≤ 218 * i
  sf : x.sf.length ≤ 218 * i
  nc : x.nc.length ≤ 26
  sc : x.sc.length ≤ 26
  hd : hdOf x.nc = some (x.t, x.v, x.o)
  hs : ∃ q, hdOf x.sc = some q
  sh : Shrt x.st
  ln : x.st.2.2.length ≤ 219 * i

theorem Two.noP {w W : World} {P : Nat → Prop} {A C : Thing} (h : Two w P W A C) : Two w (fun _ => False) W A C := by
  obtain ⟨S1, S2, h1, h2, h3, h4, h5, h6, h7, h8⟩ := h
  exact ⟨S1, S2, h1, h2, h3, h4, h5, fun k hk => hk.elim, fun k hk => hk.elim, h8⟩

theorem pl_mk {w W : World} {P : Nat → Prop} {B D J M i : Nat} {x : Jst} (ht : Two w P W (JdP B D x) (RdP J M x)) (hp : PlI i x) : Hid (PlI i x ∧ Two w (fun _ => False) W (JdP B D x) (RdP J M x)) := ⟨hp, ht.noP⟩

theorem same_fits {S : Nat → Prop} {A : Thing} (fa : Fra A) {W : World} {F : Nat} {args : Array Value} {r : Ending} (h : A S W) (hc : Calls Try.prog F args W fun e w' => e = r ∧ Below W.heap.size W w') :
    Calls Try.prog F args W fun e w' => ∃ Z, (e = r ∧ Z = A) ∧ Z S w' ∧ Fr S W w' := by
  refine hc.mono ?_
  rintro e w' ⟨h1, h2⟩
  exact ⟨A, ⟨h1, rfl⟩, fa.frame _ _ _ h h2.size (fun k hk _ => h2.block k hk), Fr.of h2⟩

theorem rebase_b7 (B : Nat) (n : Int) (x : Value) (w : World) (hn : n < 0 ∨ 1099511627776 < n) :
    Calls Try.prog 16 #[.pointer (some ⟨B, 0, none⟩), .int .i64 n, x] w fun e w' => e = .returned (.int .i64 71) ∧ Below w.heap.size w w' := by
  refine (rebase_j_no B n x w hn).mono ?_
  rintro e w' ⟨rfl, rfl⟩
  exact ⟨rfl, Below.refl _ _⟩

theorem rk_new7 (w : World) : Rk (fun k => k = w.heap.size) (w.alloc (.cells #[.slice none 0 0, .slice none 0 0, .slice none 0 0, .slice none 0 0] 28)) w.heap.size [] [] [] [] :=
  ⟨.slice none 0 0, .slice none 0 0, .slice none 0 0, .slice none 0 0, by simp, by simp, by simp, by simp, by simp, by simp, by simp, by simp, Sl.nil _, Sl.nil _, Sl.nil _, Sl.nil _, fun g hg => (by cases hg), fun g hg => (by cases hg), fun g hg => (by cases hg), fun g hg => (by cases hg), by simp, by simp, by simp, by simp, rfl⟩

theorem Script.at7 {w : World} {ao : Option Addr} {n c : Nat} {xs : List ActV} (h : Script w (.slice ao n c) xs) (i : Nat) (hi : i < xs.length) : ∃ b o, ao = some ⟨b, o, none⟩ ∧ ActOk w xs[i] ∧ w.cell? ⟨b, o + i * 6, none⟩ = some (.int .i64 xs[i].kind) ∧
      w.cell? ⟨b, o + i * 6 + 1, none⟩ = some (.int .i64 xs[i].n) ∧ w.cell? ⟨b, o + i * 6 + 2, none⟩ = some (.int .i64 xs[i].m) ∧ w.cell? ⟨b, o + i * 6 + 3, none⟩ = some xs[i].v ∧ w.cell? ⟨b, o + i * 6 + 4, none⟩ = some (.bool xs[i].torn) ∧ w.cell? ⟨b, o + i * 6 + 5, none⟩ = some (.bool xs[i].cell) := by
  obtain ⟨bo, d, e, h1, h2, h3⟩ := h
  injection e with e1 e2 e3
  subst e1
  obtain ⟨hok, b, o, h6, r⟩ := h3 i hi
  exact ⟨b, o, h6, hok, r⟩

set_option maxRecDepth 100000 in
set_option maxHeartbeats 4000000 in
theorem walkJournalPlays {w : World} (v : Value) (xs : List ActV) (hx : Script w v xs) :
    Calls Try.prog 3 #[v] w fun e w' => e = .returned (.bool true) ∧ Below w.heap.size w w' := by
  obtain ⟨ao, c, rfl, hc1, hc2, _⟩ := id hx
  unfold maxLen at hc2
  have HX := hide hx
  clear hx
  go_enter Try.func3, Try.ntmps3
  go_wp2_with fail
  refine (new_any w).mono ?_
  rintro e w1 ⟨rfl, rfl⟩
  have hb1 : Below w.heap.size w (w.alloc (.cells #[.slice none 0 0, .slice none 0 0, .slice none 0 0, .slice none 0 0] 72)) := below_new w _
  have hd1 : Dk (fun k => k = w.heap.size) (w.alloc (.cells #[.slice none 0 0, .slice none 0 0, .slice none 0 0, .slice none 0 0] 72)) w.heap.size [] [] [] [] := Dk.new (S := fun k => k = w.heap.size) w rfl _
  generalize (w.alloc (.cells #[.slice none 0 0, .slice none 0 0, .slice none 0 0, .slice none 0 0] 72)) = w1 at *
  have hlt1 := hd1.lt
  obtain ⟨D, hD⟩ : ∃ D, w.heap.size = D := ⟨_, rfl⟩
  have hd1' : Dk (fun k => k = D) w1 D [] [] [] [] := by rw [← hD]; exact hd1
  rw [hD]
  have hb2 := below_new w1 (.cells #[.slice none 0 0, .slice none 0 0, .slice none 0 0, .slice none 0 0] 28)
  have hr2 := rk_new7 w1
  have HT0 : Hid (Two w (fun _ => False) (w1.alloc (.cells #[.slice none 0 0, .slice none 0 0, .slice none 0 0, .slice none 0 0] 28)) (DkP D [] [] [] []) (RkP w1.heap.size [] [] [] [])) :=
    ⟨_, _, hd1'.later hb2, hr2, fun k hk => by omega, fun k hk => by have := hb1.size; omega, fun k h1 h2 => by omega, fun k hk => hk.elim, fun k hk => hk.elim, hb1.trans (hb2.mono hb1.size)⟩
  clear hd1 hd1' hb1 hb2 hr2 hlt1 hD
  go_wp2_with fail
  generalize (w1.alloc (.cells #[.slice none 0 0, .slice none 0 0, .slice none 0 0, .slice none 0 0] 28)) = w2 at *
  generalize w1.heap.size = M at *
  refine ((unhide HT0).op1 (fraD _ _ _ _ _) (fraK _ _ _ _ _) (fun S hj hS => open_fits D [] [] [] [] 0 0 0 (0, [], []) 0 _ hj hS (by simp) (by simp) hdOf_nil opens_nil)).mono ?_
  rintro e w3 ⟨Z, ⟨B, rfl, rfl⟩, ht3, _⟩
  have HT3 := hide ht3
  clear ht3 HT0
  go_wp2_with fail
  refine ((unhide HT3).op2 (fraJ _ _ _) (fraK _ _ _ _ _) (fun S hj hS => refopen_fits M [] [] [] [] 0 0 0 (0, [], []) 0 _ hj hS hdOf_nil opens_nil)).mono ?_
  rintro e w4 ⟨Z, ⟨J, rfl, rfl⟩, ht4, _⟩
  have ht4' : Two w (fun _ => False) w4 (JdP B D ⟨[], [], [], [], 0, 0, 0, (0, [], [])⟩) (RdP J M ⟨[], [], [], [], 0, 0, 0, (0, [], [])⟩) := ht4
  have HS4 : Hid (PlI 0 ⟨[], [], [], [], 0, 0, 0, (0, [], [])⟩ ∧ Two w (fun _ => False) w4 (JdP B D ⟨[], [], [], [], 0, 0, 0, (0, [], [])⟩) (RdP J M ⟨[], [], [], [], 0, 0, 0, (0, [], [])⟩)) := ⟨⟨Nat.zero_le _, Nat.zero_le _, Nat.zero_le _, Nat.zero_le _, hdOf_nil, ⟨_, hdOf_nil⟩, ⟨Nat.zero_le _, fun x hx => by simp at hx⟩, Nat.zero_le _⟩, ht4'⟩
  clear ht4'
  clear ht4 HT3
  go_wp2
  go_loopw [3, 4, 5, 7, 9] (fun dv mv jv kv iv wr => ∃ (i D M B J : Nat) (x : Jst), dv = .pointer (some ⟨D, 0, none⟩) ∧ mv = .pointer (some ⟨M, 0, none⟩) ∧ jv = .pointer (some ⟨B, 0, none⟩) ∧ kv = .pointer (some ⟨J, 0, none⟩) ∧ iv = .int .i64 i ∧ i ≤ 60 ∧ Hid (PlI i x ∧ Two w (fun _ => False) wr (JdP B D x) (RdP J M x))) (fun _ _ _ _ iv _ => 60 - (intOf iv).toNat)
  case atStart => exact ⟨0, _, _, _, _, _, rfl, rfl, rfl, rfl, rfl, by decide, HS4⟩
  case round =>
    clear HS4
    obtain ⟨i, D, M, B, J, x, rfl, rfl, rfl, rfl, rfl, hi, HH⟩ := hrel
    by_cases hcond : i < xs.length ∧ i < 60
    · have hi1 : decide ((i : Int) < (xs.length : Int)) = true := by simp; omega
      have hi2 : decide ((i : Int) < 60) = true := by simp; omega
      obtain ⟨hpl, htwo⟩ := unhide HH
      have hbr := htwo.below
      obtain ⟨b, o, rfl, hok, k0, k1, k2, k3, k4, k5⟩ := (unhide HX).at7 i hcond.1
      generalize hZ : xs[i] = z at *
      have hlt := World.block_lt_of_cell? w _ k0
      have c0 := (hbr.cell (p := ⟨b, o + i * 6, none⟩) hlt).trans k0
      have c1 := (hbr.cell (p := ⟨b, o + i * 6 + 1, none⟩) hlt).trans k1
      have c2 := (hbr.cell (p := ⟨b, o + i * 6 + 2, none⟩) hlt).trans k2
      have c3 := (hbr.cell (p := ⟨b, o + i * 6 + 3, none⟩) hlt).trans k3
      have c4 := (hbr.cell (p := ⟨b, o + i * 6 + 4, none⟩) hlt).trans k4
      have c5 := (hbr.cell (p := ⟨b, o + i * 6 + 5, none⟩) hlt).trans k5
      obtain ⟨kind, zn, zm, zv, zb, torn, cell⟩ := z
      obtain ⟨n0, n1, m0, m1, hs⟩ := hok
      simp only at n0 n1 m0 m1 hs c0 c1 c2 c3 c4 c5
      obtain ⟨ba, bc', rfl, hbc1, hbc2, _⟩ := id hs
      unfold maxLen at hbc2
      have hba := below_new wr (.cells #[.int .i64 kind, .int .i64 zn, .int .i64 zm, .slice ba zb.length bc', .bool torn, .bool cell] 37)
      have hact := ActAt.new wr ⟨kind, zn, zm, .slice ba zb.length bc', zb, torn, cell⟩ 37
      have htwo2 := htwo.grow (fraJ _ _ _) (fraR _ _ _) hba (fun k => k = wr.heap.size) (fun k hk => by subst hk; exact ⟨Nat.le_refl _, by simp⟩)
      have Hs := hide hs
      have HA := hide hact
      have HT2 := hide htwo2
      have Hpl := hide hpl
      clear k0 k1 k2 k3 k4 k5 hs hact htwo htwo2 hba hZ hpl hbr
      by_cases hlong : 200 < zb.length
      · have hI : decide ((200 : Int) < zb.length) = true := by simp; omega
        have HE : Hid (PlI (i + 1) x ∧ Two w (fun _ => False) _ (JdP B D x) (RdP J M x)) := ⟨⟨Nat.le_trans (unhide Hpl).nf (by omega), Nat.le_trans (unhide Hpl).sf (by omega), (unhide Hpl).nc, (unhide Hpl).sc, (unhide Hpl).hd, (unhide Hpl).hs, (unhide Hpl).sh, Nat.le_trans (unhide Hpl).ln (by omega)⟩, (unhide HT2).noP⟩
        clear HH
        go_wp2
        exact ⟨⟨i + 1, D, M, B, J, x, rfl, rfl, rfl, rfl, by simp, by omega, HE⟩, by simp only [intOf]; omega⟩
      · have hI : decide ((200 : Int) < zb.length) = false := by simp; omega
        obtain ⟨nf, nc, sf, sc, t, vv, oo, sb, sd, sL⟩ := x
        obtain ⟨hnl, hsl, hcl, hscl, hhd, hhs, hsh, hll⟩ := unhide Hpl
        simp only at hnl hsl hcl hscl hhd hhs hsh hll
        have Hhd := hide hhd
        have Hhs := hide hhs
        have Hsh := hide hsh
        obtain ⟨e0, e1, e2, e3, e4, e5⟩ := id (unhide HA)
        simp only at e0 e1 e2 e3 e4 e5
        clear HH Hpl hhd hhs hsh
        go_upto_block 2 with fail
        clear c0 c1 c2 c3 c4 c5
        generalize (wr.alloc (.cells #[.int .i64 kind, .int .i64 zn, .int .i64 zm, .slice ba zb.length bc', .bool torn, .bool cell] 37)) = W at *
        generalize wr.heap.size = A at *
        go_cut [3, 4, 5, 7, 9, 11] (fun dv mv jv kv iv gv wc => ∃ (D M B J : Nat) (x : Jst), dv = .pointer (some ⟨D, 0, none⟩) ∧ mv = .pointer (some ⟨M, 0, none⟩) ∧ jv = .pointer (some ⟨B, 0, none⟩) ∧ kv = .pointer (some ⟨J, 0, none⟩) ∧ iv = .int .i64 i ∧ gv = .bool true ∧ Hid (PlI (i + 1) x ∧ Two w (fun _ => False) wc (JdP B D x) (RdP J M x)))
        case first =>
          have hsb : sb ≤ 1099511627776 := by
            obtain ⟨S, hj⟩ := (unhide HT2).one
            obtain ⟨rv, hjp⟩ := Jd.jp hj
            exact hjp.hb
          by_cases q1 : kind = 1
          · as_aux_lemma =>
            subst q1
            have hsm := (Ch.add zb).small ⟨Nat.zero_le _, by show zb.length ≤ 65516; omega⟩ (by show zb.length ≤ 200; omega)
            have HTd := hide ((unhide HT2).later (fraJ _ _ _) (fraR _ _ _) (show Below W.heap.size W W.drew from (Below.refl _ _).drew))
            have HAd := hide ((unhide HA).later (show Below W.heap.size W W.drew from (Below.refl _ _).drew))
            obtain ⟨_, a1, a2, a3, _, _⟩ := id (unhide HAd)
            simp only at a1 a2 a3
            go_wp2_with fail
            go_region_held (fun w' => w'.cell? ⟨A, 1, none⟩ = some (.int .i64 zn) ∧ w'.cell? ⟨A, 2, none⟩ = some (.int .i64 zm) ∧ w'.cell? ⟨A, 3, none⟩ = some (.slice ba zb.length bc')) (first | (refine ⟨?_, ?_, ?_⟩ <;> assumption) | go_keep) (first | (go_at_call 12; (refine ((unhide HTd).op1 (fraJ _ _ _) (fraR _ _ _) (Fits := fun e Z => e = .returned (.int .i64 0) ∧ Z = JdP B D ⟨nf ++ fr (Ch.add zb).enc, nc, sf, sc, t, vv, oo, (sb, sd, sL ++ [zb])⟩) (fun S hj hS => fits1 (append_j B D nf nc sf sc t vv oo sb sd zb sL _ _ hj hS ((unhide Hs).later (unhide HTd).below) (by omega) (by omega) (by omega)))).mono ?_); rintro e w7 ⟨Z, ⟨rfl, rfl⟩, ht7, hk7⟩; have HA7 := hide ((unhide HAd).frame (hk7 A rfl)); obtain ⟨_, b1, b2, b3, _, _⟩ := id (unhide HA7); simp only at b1 b2 b3; have HT7 := hide ht7; clear ht7 hk7) | (go_at_call 13; (refine ((unhide HT7).op2 (fraJ _ _ _) (fraR _ _ _) (Fits := fun e Z => e = .returned (.int .i64 0) ∧ Z = RdP J M ⟨nf ++ fr (Ch.add zb).enc, nc, sf, sc, t, vv, oo, (sb, sd, sL ++ [zb])⟩) (fun S hj hS => fits1 (refappend_j J M nf nc sf sc t vv oo sb sd zb sL _ _ hj hS ((unhide Hs).later (unhide HT7).below) (by omega) (by omega) hsb (by omega)))).mono ?_); rintro e w8 ⟨Z, ⟨rfl, rfl⟩, ht8, hk8⟩; have HA8 := hide ((unhide HA7).frame (hk8 A rfl)); obtain ⟨_, c1', c2', c3', _, _⟩ := id (unhide HA8); simp only at c1' c2' c3'; have HT8 := hide ht8; clear ht8 hk8))
            clear a1 a2 a3 b1 b2 b3 c1' c2' c3' HA7 HA8 HAd HTd HT7
            have HM := pl_mk (i := i + 1) (unhide HT8) ⟨by show (nf ++ fr (Ch.add zb).enc).length ≤ _; rw [List.length_append, fr_length]; omega, by show sf.length ≤ _; omega, hcl, hscl, unhide Hhd, unhide Hhs, ⟨(unhide Hsh).1, fun q hq => by
              rcases List.mem_append.1 hq with e | e
              · exact (unhide Hsh).2 q e
              · simp at e; subst e; omega⟩, by show (sL ++ [zb]).length ≤ _; rw [List.length_append]; simp; omega⟩
            clear HT8
            go_wp2_with fail
            go_meet
            case rel => exact ⟨_, _, _, _, _, rfl, rfl, rfl, rfl, rfl, rfl, HM⟩
          by_cases q2 : kind = 2
          · subst q2
            by_cases hc : (sb : Int) ≤ zn ∧ zn ≤ sb + sL.length
            · as_aux_lemma =>
              obtain ⟨n2, rfl⟩ : ∃ n : Nat, zn = n := ⟨zn.toNat, by omega⟩
              have hgd : (Ch.first (n2 - sb)).Good := ⟨by show n2 - sb ≤ 1099511627776; omega, Nat.zero_le _⟩
              have hsm := (Ch.first (n2 - sb)).small hgd (Nat.zero_le _)
              have HTd := hide ((unhide HT2).later (fraJ _ _ _) (fraR _ _ _) (show Below W.heap.size W W.drew from (Below.refl _ _).drew))
              have HAd := hide ((unhide HA).later (show Below W.heap.size W W.drew from (Below.refl _ _).drew))
              obtain ⟨_, a1, a2, a3, _, _⟩ := id (unhide HAd)
              simp only at a1 a2 a3
              go_wp2_with fail
              go_region_held (fun w' => w'.cell? ⟨A, 1, none⟩ = some (.int .i64 (n2 : Int)) ∧ w'.cell? ⟨A, 2, none⟩ = some (.int .i64 zm) ∧ w'.cell? ⟨A, 3, none⟩ = some (.slice ba zb.length bc')) (first | (refine ⟨?_, ?_, ?_⟩ <;> assumption) | go_keep) (first | (go_at_call 14; (refine ((unhide HTd).op1 (fraJ _ _ _) (fraR _ _ _) (Fits := fun e Z => e = .returned (.int .i64 0) ∧ Z = JdP B D ⟨nf ++ fr (Ch.first (n2 - sb)).enc, nc, sf, sc, t, vv, oo, (sb, sd, sL.take (n2 - sb))⟩) (fun S hj hS => fits1 (cut_j B D nf nc sf sc t vv oo sb sd sL n2 _ hj hS (by omega) (by omega) (by omega)))).mono ?_); rintro e w7 ⟨Z, ⟨rfl, rfl⟩, ht7, hk7⟩; have HA7 := hide ((unhide HAd).frame (hk7 A rfl)); obtain ⟨_, b1, b2, b3, _, _⟩ := id (unhide HA7); simp only at b1 b2 b3; have HT7 := hide ht7; clear ht7 hk7) | (go_at_call 15; (refine ((unhide HT7).op2 (fraJ _ _ _) (fraR _ _ _) (Fits := fun e Z => e = .returned (.int .i64 0) ∧ Z = RdP J M ⟨nf ++ fr (Ch.first (n2 - sb)).enc, nc, sf, sc, t, vv, oo, (sb, sd, sL.take (n2 - sb))⟩) (fun S hj hS => fits1 (refcut_j J M nf nc sf sc t vv oo sb sd sL n2 _ hj hS (by omega) (by omega) (by omega) hsb (by omega)))).mono ?_); rintro e w8 ⟨Z, ⟨rfl, rfl⟩, ht8, hk8⟩; have HA8 := hide ((unhide HA7).frame (hk8 A rfl)); obtain ⟨_, c1', c2', c3', _, _⟩ := id (unhide HA8); simp only at c1' c2' c3'; have HT8 := hide ht8; clear ht8 hk8))
              clear a1 a2 a3 b1 b2 b3 c1' c2' c3' HA7 HA8 HAd HTd HT7
              have HM := pl_mk (i := i + 1) (unhide HT8) ⟨by show (nf ++ fr (Ch.first (n2 - sb)).enc).length ≤ _; rw [List.length_append, fr_length]; omega, by show sf.length ≤ _; omega, hcl, hscl, unhide Hhd, unhide Hhs, ⟨(unhide Hsh).1, fun q hq => (unhide Hsh).2 q (List.mem_of_mem_take hq)⟩, by show (sL.take _).length ≤ _; rw [List.length_take]; omega⟩
              clear HT8
              go_wp2_with fail
              go_meet
              case rel => exact ⟨_, _, _, _, _, rfl, rfl, rfl, rfl, rfl, rfl, HM⟩
            · as_aux_lemma =>
              have HTd := hide ((unhide HT2).later (fraJ _ _ _) (fraR _ _ _) (show Below W.heap.size W W.drew from (Below.refl _ _).drew))
              have HAd := hide ((unhide HA).later (show Below W.heap.size W W.drew from (Below.refl _ _).drew))
              obtain ⟨_, a1, a2, a3, _, _⟩ := id (unhide HAd)
              simp only at a1 a2 a3
              go_wp2_with fail
              go_region_held (fun w' => w'.cell? ⟨A, 1, none⟩ = some (.int .i64 zn) ∧ w'.cell? ⟨A, 2, none⟩ = some (.int .i64 zm) ∧ w'.cell? ⟨A, 3, none⟩ = some (.slice ba zb.length bc')) (first | (refine ⟨?_, ?_, ?_⟩ <;> assumption) | go_keep) (first | (go_at_call 14; (refine ((unhide HTd).op1 (fraJ _ _ _) (fraR _ _ _) (Fits := fun e Z => e = .returned (.int .i64 71) ∧ Z = JdP B D ⟨nf, nc, sf, sc, t, vv, oo, (sb, sd, sL)⟩) (fun S hj hS => (by obtain ⟨rvx, hjx⟩ := Jd.jp hj; exact same_fits (fraJ B D ⟨nf, nc, sf, sc, t, vv, oo, (sb, sd, sL)⟩) hj (cut_j_no B D t vv oo sb sd sL zn rvx _ hjx (by omega))))).mono ?_); rintro e w7 ⟨Z, ⟨rfl, rfl⟩, ht7, hk7⟩; have HA7 := hide ((unhide HAd).frame (hk7 A rfl)); obtain ⟨_, b1, b2, b3, _, _⟩ := id (unhide HA7); simp only at b1 b2 b3; have HT7 := hide ht7; clear ht7 hk7) | (go_at_call 15; (refine ((unhide HT7).op2 (fraJ _ _ _) (fraR _ _ _) (Fits := fun e Z => e = .returned (.int .i64 71) ∧ Z = RdP J M ⟨nf, nc, sf, sc, t, vv, oo, (sb, sd, sL)⟩) (fun S hj hS => (by obtain ⟨Px, hrx⟩ := Rjd.rj hj; exact same_fits (fraR J M ⟨nf, nc, sf, sc, t, vv, oo, (sb, sd, sL)⟩) hj (refcut_j_no J M t vv oo sb sd sL zn Px _ hrx (by omega) (by omega) hsb)))).mono ?_); rintro e w8 ⟨Z, ⟨rfl, rfl⟩, ht8, hk8⟩; have HA8 := hide ((unhide HA7).frame (hk8 A rfl)); obtain ⟨_, c1', c2', c3', _, _⟩ := id (unhide HA8); simp only at c1' c2' c3'; have HT8 := hide ht8; clear ht8 hk8))
              clear a1 a2 a3 b1 b2 b3 c1' c2' c3' HA7 HA8 HAd HTd HT7
              have HM := pl_mk (i := i + 1) (unhide HT8) ⟨by show nf.length ≤ _; omega, by show sf.length ≤ _; omega, hcl, hscl, unhide Hhd, unhide Hhs, unhide Hsh, by show sL.length ≤ _; omega⟩
              clear HT8
              go_wp2_with fail
              go_meet
              case rel => exact ⟨_, _, _, _, _, rfl, rfl, rfl, rfl, rfl, rfl, HM⟩
          by_cases q3 : kind = 3
          · subst q3
            by_cases hc : 0 ≤ zn ∧ zn ≤ 1099511627776
            · as_aux_lemma =>
              obtain ⟨n2, rfl⟩ : ∃ n : Nat, zn = n := ⟨zn.toNat, by omega⟩
              have hgd : (Ch.lay n2 zb).Good := ⟨by show n2 ≤ 1099511627776; omega, by show zb.length ≤ 65516; omega⟩
              have hsm := (Ch.lay n2 zb).small hgd (by show zb.length ≤ 200; omega)
              have HTd := hide ((unhide HT2).later (fraJ _ _ _) (fraR _ _ _) (show Below W.heap.size W W.drew from (Below.refl _ _).drew))
              have HAd := hide ((unhide HA).later (show Below W.heap.size W W.drew from (Below.refl _ _).drew))
              obtain ⟨_, a1, a2, a3, _, _⟩ := id (unhide HAd)
              simp only at a1 a2 a3
              go_wp2_with fail
              go_region_held (fun w' => w'.cell? ⟨A, 1, none⟩ = some (.int .i64 (n2 : Int)) ∧ w'.cell? ⟨A, 2, none⟩ = some (.int .i64 zm) ∧ w'.cell? ⟨A, 3, none⟩ = some (.slice ba zb.length bc')) (first | (refine ⟨?_, ?_, ?_⟩ <;> assumption) | go_keep) (first | (go_at_call 16; (refine ((unhide HTd).op1 (fraJ _ _ _) (fraR _ _ _) (Fits := fun e Z => e = .returned (.int .i64 0) ∧ Z = JdP B D ⟨nf ++ fr (Ch.lay n2 zb).enc, nc, sf, sc, t, vv, oo, (n2, zb, sL.drop (goneN sb n2 sL.length))⟩) (fun S hj hS => fits1 (rebase_j B D nf nc sf sc t vv oo sb sd zb sL n2 _ _ hj hS ((unhide Hs).later (unhide HTd).below) (by omega) (by omega) (by omega)))).mono ?_); rintro e w7 ⟨Z, ⟨rfl, rfl⟩, ht7, hk7⟩; have HA7 := hide ((unhide HAd).frame (hk7 A rfl)); obtain ⟨_, b1, b2, b3, _, _⟩ := id (unhide HA7); simp only at b1 b2 b3; have HT7 := hide ht7; clear ht7 hk7) | (go_at_call 17; (refine ((unhide HT7).op2 (fraJ _ _ _) (fraR _ _ _) (Fits := fun e Z => e = .returned (.int .i64 0) ∧ Z = RdP J M ⟨nf ++ fr (Ch.lay n2 zb).enc, nc, sf, sc, t, vv, oo, (n2, zb, sL.drop (goneN sb n2 sL.length))⟩) (fun S hj hS => fits1 (refrebase_j J M nf nc sf sc t vv oo sb sd zb sL n2 _ _ hj hS ((unhide Hs).later (unhide HT7).below) (by omega) (by omega) (by omega) hsb (by omega)))).mono ?_); rintro e w8 ⟨Z, ⟨rfl, rfl⟩, ht8, hk8⟩; have HA8 := hide ((unhide HA7).frame (hk8 A rfl)); obtain ⟨_, c1', c2', c3', _, _⟩ := id (unhide HA8); simp only at c1' c2' c3'; have HT8 := hide ht8; clear ht8 hk8))
              clear a1 a2 a3 b1 b2 b3 c1' c2' c3' HA7 HA8 HAd HTd HT7
              have HM := pl_mk (i := i + 1) (unhide HT8) ⟨by show (nf ++ fr (Ch.lay n2 zb).enc).length ≤ _; rw [List.length_append, fr_length]; omega, by show sf.length ≤ _; omega, hcl, hscl, unhide Hhd, unhide Hhs, ⟨by show zb.length ≤ _; omega, fun q hq => (unhide Hsh).2 q (List.mem_of_mem_drop hq)⟩, by show (sL.drop _).length ≤ _; rw [List.length_drop]; omega⟩
              clear HT8
              go_wp2_with fail
              go_meet
              case rel => exact ⟨_, _, _, _, _, rfl, rfl, rfl, rfl, rfl, rfl, HM⟩
            · as_aux_lemma =>
              have HTd := hide ((unhide HT2).later (fraJ _ _ _) (fraR _ _ _) (show Below W.heap.size W W.drew from (Below.refl _ _).drew))
              have HAd := hide ((unhide HA).later (show Below W.heap.size W W.drew from (Below.refl _ _).drew))
              obtain ⟨_, a1, a2, a3, _, _⟩ := id (unhide HAd)
              simp only at a1 a2 a3
              go_wp2_with fail
              go_region_held (fun w' => w'.cell? ⟨A, 1, none⟩ = some (.int .i64 zn) ∧ w'.cell? ⟨A, 2, none⟩ = some (.int .i64 zm) ∧ w'.cell? ⟨A, 3, none⟩ = some (.slice ba zb.length bc')) (first | (refine ⟨?_, ?_, ?_⟩ <;> assumption) | go_keep) (first | (go_at_call 16; (refine ((unhide HTd).op1 (fraJ _ _ _) (fraR _ _ _) (Fits := fun e Z => e = .returned (.int .i64 71) ∧ Z = JdP B D ⟨nf, nc, sf, sc, t, vv, oo, (sb, sd, sL)⟩) (fun S hj hS => (by obtain ⟨rvx, hjx⟩ := Jd.jp hj; exact same_fits (fraJ B D ⟨nf, nc, sf, sc, t, vv, oo, (sb, sd, sL)⟩) hj (rebase_b7 B zn _ _ (by omega))))).mono ?_); rintro e w7 ⟨Z, ⟨rfl, rfl⟩, ht7, hk7⟩; have HA7 := hide ((unhide HAd).frame (hk7 A rfl)); obtain ⟨_, b1, b2, b3, _, _⟩ := id (unhide HA7); simp only at b1 b2 b3; have HT7 := hide ht7; clear ht7 hk7) | (go_at_call 17; (refine ((unhide HT7).op2 (fraJ _ _ _) (fraR _ _ _) (Fits := fun e Z => e = .returned (.int .i64 71) ∧ Z = RdP J M ⟨nf, nc, sf, sc, t, vv, oo, (sb, sd, sL)⟩) (fun S hj hS => (by obtain ⟨Px, hrx⟩ := Rjd.rj hj; exact same_fits (fraR J M ⟨nf, nc, sf, sc, t, vv, oo, (sb, sd, sL)⟩) hj (refrebase_no J zn _ _ _ _ (by omega))))).mono ?_); rintro e w8 ⟨Z, ⟨rfl, rfl⟩, ht8, hk8⟩; have HA8 := hide ((unhide HA7).frame (hk8 A rfl)); obtain ⟨_, c1', c2', c3', _, _⟩ := id (unhide HA8); simp only at c1' c2' c3'; have HT8 := hide ht8; clear ht8 hk8))
              clear a1 a2 a3 b1 b2 b3 c1' c2' c3' HA7 HA8 HAd HTd HT7
              have HM := pl_mk (i := i + 1) (unhide HT8) ⟨by show nf.length ≤ _; omega, by show sf.length ≤ _; omega, hcl, hscl, unhide Hhd, unhide Hhs, unhide Hsh, by show sL.length ≤ _; omega⟩
              clear HT8
              go_wp2_with fail
              go_meet
              case rel => exact ⟨_, _, _, _, _, rfl, rfl, rfl, rfl, rfl, rfl, HM⟩
          by_cases q4 : kind = 4
          · subst q4
            by_cases hc : (0 ≤ zn ∧ zn ≤ 1099511627776) ∧ (0 ≤ zm ∧ zm ≤ 1099511627776)
            · as_aux_lemma =>
              obtain ⟨n2, rfl⟩ : ∃ n : Nat, zn = n := ⟨zn.toNat, by omega⟩
              obtain ⟨m2, rfl⟩ : ∃ n : Nat, zm = n := ⟨zm.toNat, by omega⟩
              have hh := encH_fits (t := n2) (v := m2) (o := 1) (by omega) (by omega) (by decide)
              have HTd := hide ((unhide HT2).later (fraJ _ _ _) (fraR _ _ _) (show Below W.heap.size W W.drew from (Below.refl _ _).drew))
              have HAd := hide ((unhide HA).later (show Below W.heap.size W W.drew from (Below.refl _ _).drew))
              obtain ⟨_, a1, a2, a3, _, _⟩ := id (unhide HAd)
              simp only at a1 a2 a3
              go_wp2_with fail
              go_region_held (fun w' => w'.cell? ⟨A, 1, none⟩ = some (.int .i64 (n2 : Int)) ∧ w'.cell? ⟨A, 2, none⟩ = some (.int .i64 (m2 : Int)) ∧ w'.cell? ⟨A, 3, none⟩ = some (.slice ba zb.length bc')) (first | (refine ⟨?_, ?_, ?_⟩ <;> assumption) | go_keep) (first | (go_at_call 18; (refine ((unhide HTd).op1 (fraJ _ _ _) (fraR _ _ _) (Fits := fun e Z => e = .returned (.int .i64 0) ∧ Z = JdP B D ⟨nf, fr (encH n2 m2 1), sf, sc, n2, m2, 1, (sb, sd, sL)⟩) (fun S hj hS => fits1 (set_j B D nf nc sf sc t vv oo n2 m2 1 (sb, sd, sL) _ hj hS (by omega) (by omega) (by decide)))).mono ?_); rintro e w7 ⟨Z, ⟨rfl, rfl⟩, ht7, hk7⟩; have HA7 := hide ((unhide HAd).frame (hk7 A rfl)); obtain ⟨_, b1, b2, b3, _, _⟩ := id (unhide HA7); simp only at b1 b2 b3; have HT7 := hide ht7; clear ht7 hk7) | (go_at_call 19; (refine ((unhide HT7).op2 (fraJ _ _ _) (fraR _ _ _) (Fits := fun e Z => e = .returned (.int .i64 0) ∧ Z = RdP J M ⟨nf, fr (encH n2 m2 1), sf, sc, n2, m2, 1, (sb, sd, sL)⟩) (fun S hj hS => fits1 (refset_j J M nf nc sf sc t vv oo (sb, sd, sL) n2 m2 1 _ hj hS (by omega) (by omega) (by decide)))).mono ?_); rintro e w8 ⟨Z, ⟨rfl, rfl⟩, ht8, hk8⟩; have HA8 := hide ((unhide HA7).frame (hk8 A rfl)); obtain ⟨_, c1', c2', c3', _, _⟩ := id (unhide HA8); simp only at c1' c2' c3'; have HT8 := hide ht8; clear ht8 hk8))
              clear a1 a2 a3 b1 b2 b3 c1' c2' c3' HA7 HA8 HAd HTd HT7
              have HM := pl_mk (i := i + 1) (unhide HT8) ⟨by show nf.length ≤ _; omega, by show sf.length ≤ _; omega, by show (fr (encH n2 m2 1)).length ≤ 26; rw [fr_length]; omega, hscl, hdOf_enc (by omega) (by omega) (by decide), unhide Hhs, unhide Hsh, by show sL.length ≤ _; omega⟩
              clear HT8
              go_wp2_with fail
              go_meet
              case rel => exact ⟨_, _, _, _, _, rfl, rfl, rfl, rfl, rfl, rfl, HM⟩
            · as_aux_lemma =>
              have HTd := hide ((unhide HT2).later (fraJ _ _ _) (fraR _ _ _) (show Below W.heap.size W W.drew from (Below.refl _ _).drew))
              have HAd := hide ((unhide HA).later (show Below W.heap.size W W.drew from (Below.refl _ _).drew))
              obtain ⟨_, a1, a2, a3, _, _⟩ := id (unhide HAd)
              simp only at a1 a2 a3
              go_wp2_with fail
              go_region_held (fun w' => w'.cell? ⟨A, 1, none⟩ = some (.int .i64 zn) ∧ w'.cell? ⟨A, 2, none⟩ = some (.int .i64 zm) ∧ w'.cell? ⟨A, 3, none⟩ = some (.slice ba zb.length bc')) (first | (refine ⟨?_, ?_, ?_⟩ <;> assumption) | go_keep) (first | (go_at_call 18; (refine ((unhide HTd).op1 (fraJ _ _ _) (fraR _ _ _) (Fits := fun e Z => e = .returned (.int .i64 71) ∧ Z = JdP B D ⟨nf, nc, sf, sc, t, vv, oo, (sb, sd, sL)⟩) (fun S hj hS => (by obtain ⟨rvx, hjx⟩ := Jd.jp hj; exact same_fits (fraJ B D ⟨nf, nc, sf, sc, t, vv, oo, (sb, sd, sL)⟩) hj (set_j_no B zn zm 1 _ (by omega))))).mono ?_); rintro e w7 ⟨Z, ⟨rfl, rfl⟩, ht7, hk7⟩; have HA7 := hide ((unhide HAd).frame (hk7 A rfl)); obtain ⟨_, b1, b2, b3, _, _⟩ := id (unhide HA7); simp only at b1 b2 b3; have HT7 := hide ht7; clear ht7 hk7) | (go_at_call 19; (refine ((unhide HT7).op2 (fraJ _ _ _) (fraR _ _ _) (Fits := fun e Z => e = .returned (.int .i64 71) ∧ Z = RdP J M ⟨nf, nc, sf, sc, t, vv, oo, (sb, sd, sL)⟩) (fun S hj hS => (by obtain ⟨Px, hrx⟩ := Rjd.rj hj; exact same_fits (fraR J M ⟨nf, nc, sf, sc, t, vv, oo, (sb, sd, sL)⟩) hj (refset_j_no J M nf nc sf sc t vv oo (sb, sd, sL) zn zm 1 _ hj hS (fun h => hc ⟨⟨h.1.1, h.1.2⟩, ⟨h.2.1.1, h.2.1.2⟩⟩))))).mono ?_); rintro e w8 ⟨Z, ⟨rfl, rfl⟩, ht8, hk8⟩; have HA8 := hide ((unhide HA7).frame (hk8 A rfl)); obtain ⟨_, c1', c2', c3', _, _⟩ := id (unhide HA8); simp only at c1' c2' c3'; have HT8 := hide ht8; clear ht8 hk8))
              clear a1 a2 a3 b1 b2 b3 c1' c2' c3' HA7 HA8 HAd HTd HT7
              have HM := pl_mk (i := i + 1) (unhide HT8) ⟨by show nf.length ≤ _; omega, by show sf.length ≤ _; omega, hcl, hscl, unhide Hhd, unhide Hhs, unhide Hsh, by show sL.length ≤ _; omega⟩
              clear HT8
              go_wp2_with fail
              go_meet
              case rel => exact ⟨_, _, _, _, _, rfl, rfl, rfl, rfl, rfl, rfl, HM⟩
          by_cases q5 : kind = 5
          · as_aux_lemma =>
            subst q5
            go_wp2_with fail
            refine ((unhide HT2).op2 (fraJ _ _ _) (fraR _ _ _) (Fits := fun e Z => e = .returned (.tuple #[]) ∧ Z = RdP J M ⟨nf, nc, nf, nc, t, vv, oo, (sb, sd, sL)⟩) (fun S hj hS => fits1 (refsync_r J M nf nc sf sc t vv oo (sb, sd, sL) _ hj))).mono ?_
            rintro e w7 ⟨Z, ⟨rfl, rfl⟩, ht7, _⟩
            have HT7 := hide ht7
            clear ht7
            go_wp2_with fail
            refine ((unhide HT7).op1 (fraJ _ _ _) (fraR _ _ _) (Fits := fun e Z => e = .returned (.int .i64 0) ∧ Z = JdP B D ⟨nf, nc, nf, nc, t, vv, oo, (sb, sd, sL)⟩) (fun S hj hS => fits1 (sync_j B D nf nc sf sc t vv oo (sb, sd, sL) _ hj))).mono ?_
            rintro e w8 ⟨Z, ⟨rfl, rfl⟩, ht8, _⟩
            have HM := pl_mk (i := i + 1) ht8 ⟨by show nf.length ≤ _; omega, by show nf.length ≤ _; omega, hcl, hcl, unhide Hhd, ⟨_, unhide Hhd⟩, unhide Hsh, by show sL.length ≤ _; omega⟩
            clear ht8 HT7
            go_wp2_with fail
            go_meet
            case rel => exact ⟨_, _, _, _, _, rfl, rfl, rfl, rfl, rfl, rfl, HM⟩
          by_cases q6 : kind = 6
          · as_aux_lemma =>
            subst q6
            have htw : Two w (fun k => k = A) W (DkP D nf nc sf sc) (RkP M nf nc sf sc) := (unhide HT2).weak (fun S W h => Jd.dk h) (fun S W h => Rjd.rk h)
            have HTW := hide htw
            obtain ⟨t3, v3, o3, hcd⟩ : ∃ t3 v3 o3, hdOf (cel nc sc cell) = some (t3, v3, o3) := by
              obtain ⟨⟨qa, qb, qc⟩, hq⟩ := unhide Hhs
              cases cell
              · exact ⟨qa, qb, qc, hq⟩
              · exact ⟨_, _, _, unhide Hhd⟩
            have Hd3 := hide hcd
            have hcb : (cel nc sc cell).length ≤ 26 := by unfold cel; split <;> omega
            have hlb := left_length sf nf zm torn (218 * i) hsl hnl
            clear htw hcd
            go_wp2_with fail
            refine ((unhide HTW).op1 (fraD _ _ _ _ _) (fraK _ _ _ _ _) (fun S hj hS => crash_fits D nf nc sf sc zm torn cell _ hj hS m1)).mono ?_
            rintro e w7 ⟨Z, ⟨D', rfl, rfl⟩, ht7, hk7⟩
            have HT7 := hide ht7
            have HA7 := hide ((unhide HA).frame (hk7 A rfl))
            obtain ⟨f0, f1, f2, f3, f4, f5⟩ := id (unhide HA7)
            simp only at f0 f1 f2 f3 f4 f5
            clear ht7 hk7 HTW
            go_wp2_with fail
            refine ((unhide HT7).op2 (fraD _ _ _ _ _) (fraK _ _ _ _ _) (fun S hj hS => refcrash_fits M nf nc sf sc zm torn cell _ hj hS m0 m1)).mono ?_
            rintro e w8 ⟨Z, ⟨M', rfl, rfl⟩, ht8, hk8⟩
            have HT8 := hide ht8
            have Hs3 : Hid (∃ q, hdOf (cel nc sc cell) = some q) := ⟨_, unhide Hd3⟩
            clear ht8 hk8 HT7
            generalize left sf nf zm torn = LF at *
            generalize cel nc sc cell = LC at *
            obtain ⟨st', n, hop⟩ := Opens.ex LF
            have hnle := hop.le
            have hsm := hop.small
            have HSH := hide hop.shrt
            have Hop := hide hop
            clear hop
            go_wp2_with fail
            refine ((unhide HT8).op1 (fraD _ _ _ _ _) (fraK _ _ _ _ _) (fun S hj hS => open_fits D' LF LC LF LC t3 v3 o3 st' n _ hj hS (by omega) (by omega) (unhide Hd3) (unhide Hop))).mono ?_
            rintro e w9 ⟨Z, ⟨B', rfl, rfl⟩, ht9, _⟩
            have HT9 := hide ht9
            clear ht9
            go_wp2_with fail
            refine ((unhide HT9).op2 (fraJ _ _ _) (fraK _ _ _ _ _) (fun S hj hS => refopen_fits M' LF LC LF LC t3 v3 o3 st' n _ hj hS (unhide Hd3) (unhide Hop))).mono ?_
            rintro e w10 ⟨Z, ⟨J', rfl, rfl⟩, ht10, _⟩
            have HM := pl_mk (i := i + 1) ht10 ⟨by show ((LF).take n).length ≤ _; rw [List.length_take]; omega, by show (if n < (LF).length then (LF).take n else LF).length ≤ _; split; (rw [List.length_take]; omega); omega, by show (LC).length ≤ _; omega, by show (if n < (LF).length then LC else LC).length ≤ _; split <;> omega, unhide Hd3, by show ∃ q, hdOf (if n < (LF).length then LC else LC) = some q; split; exact ⟨_, unhide Hd3⟩; exact unhide Hs3, unhide HSH, by show st'.2.2.length ≤ _; omega⟩
            clear ht10 HT9
            go_wp2_with fail
            go_meet
            case rel => exact ⟨_, _, _, _, _, rfl, rfl, rfl, rfl, rfl, rfl, HM⟩
          by_cases q7 : kind = 7
          · as_aux_lemma =>
            subst q7
            have htw : Two w (fun k => k = A) W (DkP D nf nc sf sc) (RkP M nf nc sf sc) := (unhide HT2).weak (fun S W h => Jd.dk h) (fun S W h => Rjd.rk h)
            have HTW := hide htw
            have Hd3 := Hhd
            have Hs3 := Hhs
            clear htw
            go_wp2_with fail
            refine ((unhide HTW).op1 (fraD _ _ _ _ _) (fraK _ _ _ _ _) (Fits := fun e Z => e = .returned (.int .i64 0) ∧ Z = DkP D (nf ++ zb) nc sf sc) (fun S hj hS => fits1 (append_ok D nf nc sf sc zb _ _ hj hS ((unhide Hs).later (unhide HTW).below) (by omega)))).mono ?_
            rintro e w7 ⟨Z, ⟨rfl, rfl⟩, ht7, hk7⟩
            have HT7 := hide ht7
            have HA7 := hide ((unhide HA).frame (hk7 A rfl))
            obtain ⟨f0, f1, f2, f3, f4, f5⟩ := id (unhide HA7)
            simp only at f0 f1 f2 f3 f4 f5
            clear ht7 hk7 HTW
            go_wp2_with fail
            refine ((unhide HT7).op2 (fraD _ _ _ _ _) (fraK _ _ _ _ _) (Fits := fun e Z => e = .returned (.int .i64 0) ∧ Z = RkP M (nf ++ zb) nc sf sc) (fun S hj hS => fits1 (refappend_ok M nf nc sf sc zb _ _ hj hS ((unhide Hs).later (unhide HT7).below) (by omega)))).mono ?_
            rintro e w8 ⟨Z, ⟨rfl, rfl⟩, ht8, hk8⟩
            have HT8 := hide ht8
            clear ht8 hk8 HT7
            have hlb : (nf ++ zb).length ≤ 218 * i + 200 := by rw [List.length_append]; omega
            generalize nf ++ zb = LF at *
            generalize hT3 : t = t3 at *
            generalize hV3 : vv = v3 at *
            generalize hO3 : oo = o3 at *
            clear hT3 hV3 hO3
            obtain ⟨st', n, hop⟩ := Opens.ex LF
            have hnle := hop.le
            have hsm := hop.small
            have HSH := hide hop.shrt
            have Hop := hide hop
            clear hop
            go_wp2_with fail
            refine ((unhide HT8).op1 (fraD _ _ _ _ _) (fraK _ _ _ _ _) (fun S hj hS => open_fits D LF nc sf sc t3 v3 o3 st' n _ hj hS (by omega) (by omega) (unhide Hd3) (unhide Hop))).mono ?_
            rintro e w9 ⟨Z, ⟨B', rfl, rfl⟩, ht9, _⟩
            have HT9 := hide ht9
            clear ht9
            go_wp2_with fail
            refine ((unhide HT9).op2 (fraJ _ _ _) (fraK _ _ _ _ _) (fun S hj hS => refopen_fits M LF nc sf sc t3 v3 o3 st' n _ hj hS (unhide Hd3) (unhide Hop))).mono ?_
            rintro e w10 ⟨Z, ⟨J', rfl, rfl⟩, ht10, _⟩
            have HM := pl_mk (i := i + 1) ht10 ⟨by show ((LF).take n).length ≤ _; rw [List.length_take]; omega, by show (if n < (LF).length then (LF).take n else sf).length ≤ _; split; (rw [List.length_take]; omega); omega, by show (nc).length ≤ _; omega, by show (if n < (LF).length then nc else sc).length ≤ _; split <;> omega, unhide Hd3, by show ∃ q, hdOf (if n < (LF).length then nc else sc) = some q; split; exact ⟨_, unhide Hd3⟩; exact unhide Hs3, unhide HSH, by show st'.2.2.length ≤ _; omega⟩
            clear ht10 HT9
            go_wp2_with fail
            go_meet
            case rel => exact ⟨_, _, _, _, _, rfl, rfl, rfl, rfl, rfl, rfl, HM⟩
          have p1 : (kind == 1) = false := by simpa using q1
          have p2 : (kind == 2) = false := by simpa using q2
          have p3 : (kind == 3) = false := by simpa using q3
          have p4 : (kind == 4) = false := by simpa using q4
          have p5 : (kind == 5) = false := by simpa using q5
          have p6 : (kind == 6) = false := by simpa using q6
          have p7 : (kind == 7) = false := by simpa using q7
          have HM : Hid (PlI (i + 1) ⟨nf, nc, sf, sc, t, vv, oo, (sb, sd, sL)⟩ ∧ Two w (fun _ => False) W (JdP B D ⟨nf, nc, sf, sc, t, vv, oo, (sb, sd, sL)⟩) (RdP J M ⟨nf, nc, sf, sc, t, vv, oo, (sb, sd, sL)⟩)) := ⟨⟨by show nf.length ≤ _; omega, by show sf.length ≤ _; omega, hcl, hscl, unhide Hhd, unhide Hhs, unhide Hsh, by show sL.length ≤ _; omega⟩, (unhide HT2).noP⟩
          go_wp2_with fail
          go_meet
          case rel => exact ⟨_, _, _, _, _, rfl, rfl, rfl, rfl, rfl, rfl, HM⟩
        case rest =>
          as_aux_lemma =>
            obtain ⟨D', M', B', J', x, rfl, rfl, rfl, rfl, rfl, rfl, HH'⟩ := hcut
            clear Hhd Hhs Hsh HT2 HA Hs e0 e1 e2 e3 e4 e5 hnl hsl hcl hscl hll
            obtain ⟨nf, nc, sf, sc, t, vv, oo, sb, sd, sL⟩ := x
            have hplx := (unhide HH').1
            have htx := (unhide HH').2
            obtain ⟨S1, hj1⟩ := htx.one
            obtain ⟨S2, hj2⟩ := htx.two
            obtain ⟨rv1, hjp⟩ := Jd.jp hj1
            obtain ⟨P2, hrj⟩ := Rjd.rj hj2
            have hshx := hplx.sh
            have hsd : sd.length ≤ 65536 := hshx.1
            have hsL : ∀ q ∈ sL, q.length ≤ 1099511627776 := fun q hq => by have := hshx.2 q hq; omega
            have Hjp := hide hjp
            have Hrj := hide hrj
            have HsL := hide hsL
            clear hplx htx hj1 hj2 hjp hrj hshx hsL
            go_wp2_with fail
            refine (samej_any B' D' J' M' t vv oo sb sd sL rv1 wc (unhide Hjp) (unhide Hrj) (by omega) (unhide HsL)).mono ?_
            rintro e w9 ⟨rfl, hb9⟩
            have ht9 := (unhide HH').2.later (fraJ _ _ _) (fraR _ _ _) hb9
            obtain ⟨S1, hj1⟩ := ht9.one
            obtain ⟨S2, hj2⟩ := ht9.two
            have hdk : Dk S1 w9 D' nf nc sf sc := Jd.dk hj1
            have hrk : Rk S2 w9 M' nf nc sf sc := Rjd.rk hj2
            obtain ⟨v1, v3, x1, x3, s1, s3, hf24, hc24, hMl⟩ := hrk.now
            obtain ⟨no, ncp, rfl, _⟩ := id s1
            obtain ⟨co, ccp, rfl, _⟩ := id s3
            have HT9 := hide ht9
            have Hdk := hide hdk
            have Hs1 := hide s1
            have Hs3 := hide s3
            have hcv1 : ∀ y, Below w9.heap.size w9 y → (convert 26 9 (.slice no nf.length ncp)).run Try.prog y = .ok (.string (bs nf)) y := fun y hy => conv_sl y _ _ ((unhide Hs1).later hy)
            have hcv3 : ∀ y, Below w9.heap.size w9 y → (convert 26 9 (.slice co nc.length ccp)).run Try.prog y = .ok (.string (bs nc)) y := fun y hy => conv_sl y _ _ ((unhide Hs3).later hy)
            generalize hX : bs nf = X at *
            generalize hY : bs nc = Y at *
            have HX' := hide hX
            have HY := hide hY
            have Hcv1 := hide hcv1
            have Hcv3 := hide hcv3
            have HPL := hide (unhide HH').1
            clear hX hY hcv1 hcv3 ht9 hj1 hj2 hdk hrk s1 s3 hb9 Hjp Hrj HsL HH'
            have kd1 : w9.drew.cell? ⟨M', 1, none⟩ = some (.slice no nf.length ncp) := x1
            have kd3 : w9.drew.cell? ⟨M', 3, none⟩ = some (.slice co nc.length ccp) := x3
            have kc1 := (unhide Hcv1) w9.drew (Below.refl _ _).drew
            have kc3 := (unhide Hcv3) w9.drew (Below.refl _ _).drew
            go_wp2_with fail
            go_region_held (fun y => y.cell? ⟨M', 1, none⟩ = some (.slice no nf.length ncp) ∧ y.cell? ⟨M', 3, none⟩ = some (.slice co nc.length ccp) ∧ (convert 26 9 (.slice no nf.length ncp)).run Try.prog y = .ok (.string X) y ∧ (convert 26 9 (.slice co nc.length ccp)).run Try.prog y = .ok (.string Y) y) (first | (refine ⟨?_, ?_, ?_, ?_⟩ <;> assumption) | go_keep) (first | (go_at_call 27; (refine (file_g D' nf nc sf sc _ ((unhide Hdk).later (Below.refl _ _).drew)).mono ?_); rintro e w10 ⟨g10, rfl, ho10, hb10⟩; have hbb := (Below.refl w9.heap.size w9).drew.trans hb10; have y1 := (hbb.cell (p := ⟨M', 1, none⟩) hMl).trans x1; have y3 := (hbb.cell (p := ⟨M', 3, none⟩) hMl).trans x3; have yc1 := (unhide Hcv1) w10 hbb; have yc3 := (unhide Hcv3) w10 hbb; have yf : (convert 26 9 (.slice (some ⟨g10, 0, none⟩) nf.length nf.length)).run Try.prog w10 = .ok (.string X) w10 := (by have := conv_sl w10 _ _ ho10.sl; rw [unhide HX'] at this; exact this); have HB10 := hide hbb; clear hbb hb10 ho10) | (go_at_call 28; (refine (cell_g D' nf nc sf sc _ ((unhide Hdk).later (unhide HB10))).mono ?_); rintro e w11 ⟨g11, rfl, ho11, hb11⟩; have hbb := (unhide HB10).trans (hb11.mono (unhide HB10).size); have z1 := (hbb.cell (p := ⟨M', 1, none⟩) hMl).trans x1; have z3 := (hbb.cell (p := ⟨M', 3, none⟩) hMl).trans x3; have zc1 := (unhide Hcv1) w11 hbb; have zc3 := (unhide Hcv3) w11 hbb; have zf : (convert 26 9 (.slice (some ⟨g11, 0, none⟩) nc.length nc.length)).run Try.prog w11 = .ok (.string Y) w11 := (by have := conv_sl w11 _ _ ho11.sl; rw [unhide HY] at this; exact this); have HB11 := hide hbb; clear hbb hb11 ho11))
            have HE : Hid (PlI (i + 1) ⟨nf, nc, sf, sc, t, vv, oo, (sb, sd, sL)⟩ ∧ Two w (fun _ => False) w11 (JdP B' D' ⟨nf, nc, sf, sc, t, vv, oo, (sb, sd, sL)⟩) (RdP J' M' ⟨nf, nc, sf, sc, t, vv, oo, (sb, sd, sL)⟩)) := ⟨unhide HPL, (unhide HT9).later (fraJ _ _ _) (fraR _ _ _) (unhide HB11)⟩
            clear HT9 HPL Hdk Hs1 Hs3
            go_wp2
            go_roundw
            case rel => exact ⟨i + 1, D', M', B', J', _, rfl, rfl, rfl, rfl, by go_num, by omega, HE⟩
            case measure => simp [intOf]; omega
    · by_cases hil : i < xs.length
      · have hi1 : decide ((i : Int) < (xs.length : Int)) = true := by simp; omega
        have hi2 : decide ((i : Int) < 60) = false := by simp; omega
        have HB := hide (unhide HH).2.below
        clear HH
        go_wp2_with fail
        refine (alive_any _).mono ?_
        rintro e w9 ⟨rfl, hb9⟩
        have HB9 := hide ((unhide HB).trans (hb9.mono (unhide HB).size))
        clear hb9
        go_wp2
        go_ret
        exact ⟨rfl, unhide HB9⟩
      · have hi1 : decide ((i : Int) < (xs.length : Int)) = false := by simp; omega
        have HB := hide (unhide HH).2.below
        clear HH
        go_wp2_with fail
        refine (alive_any _).mono ?_
        rintro e w9 ⟨rfl, hb9⟩
        have HB9 := hide ((unhide HB).trans (hb9.mono (unhide HB).size))
        clear hb9
        go_wp2
        go_ret
        exact ⟨rfl, unhide HB9⟩

end Go.Proofs.Yteanjnkfoddfmaa
