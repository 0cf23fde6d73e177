/-
  The walk of the law JournalOutlives.
-/
import Derived.Test.YteanjnkfoddfmaaJ8
import Derived.Deep.DeepCutAuto
import Derived.Deep.CutBlock
namespace Go.Proofs.Yteanjnkfoddfmaa
open Go.RowKit
set_option linter.unusedVariables false

/-- The journal of the law, and what the law keeps, behind i acts. -/
def OuR (w : World) (H B D : Nat) (i : Nat) (wr : World) (wv : Value) : Prop :=
  ∃ Q x rs a b c, Ou w H B D wr Q x wv rs a b c ∧ Past x.sf x.nf (rs.map Prod.fst) x.st ∧ hdOf x.nc = some (x.t, x.v, x.o) ∧ hdOf x.sc = some (a, b, c) ∧ x.nf.length ≤ 218 * i ∧ x.nc.length ≤ 26 ∧ x.sc.length ≤ 26 ∧ (∀ z ∈ x.st.2.2, z.length ≤ 200) ∧ x.st.2.1.length ≤ 200 ∧ x.st.2.2.length ≤ i ∧ rs.length ≤ i + 1 ∧
    (∀ r ∈ rs, r.1.2.1.length ≤ 200 ∧ ∀ z ∈ r.1.2.2, z.length ≤ 200)

/-- Behind an act. -/
def OuMid (w : World) (H B D : Nat) (i : Nat) (wr : World) (wv : Value) : Prop :=
  ∃ Q x rs a b c, Ou w H B D wr Q x wv rs a b c ∧ Past x.sf x.nf (rs.map Prod.fst ++ [x.st]) x.st ∧ hdOf x.nc = some (x.t, x.v, x.o) ∧ hdOf x.sc = some (a, b, c) ∧ x.nf.length ≤ 218 * (i + 1) ∧ x.nc.length ≤ 26 ∧ x.sc.length ≤ 26 ∧ (∀ z ∈ x.st.2.2, z.length ≤ 200) ∧ x.st.2.1.length ≤ 200 ∧ x.st.2.2.length ≤ i + 1 ∧ rs.length ≤ i + 1 ∧
    (∀ r ∈ rs, r.1.2.1.length ≤ 200 ∧ ∀ z ∈ r.1.2.2, z.length ≤ 200)

theorem rebase_b2 (B : Nat) (n : Int) (x : Value) (w : World) (hn : n < 0 ∨ 1099511627776 < n) :
    Calls Try.prog 16 #[.pointer (some ⟨B, 0, none⟩), .int .i64 n, x] w fun e w' => e = .returned (.int .i64 71) ∧ Below w.heap.size w w' := by
  refine (rebase_j_no B n x w hn).mono ?_
  rintro e w' ⟨rfl, rfl⟩
  exact ⟨rfl, Below.refl _ _⟩

theorem Script.at9 {w : World} {ao : Option Addr} {n c : Nat} {xs : List ActV} (h : Script w (.slice ao n c) xs) (i : Nat) (hi : i < xs.length) : ∃ b o, ao = some ⟨b, o, none⟩ ∧ ActOk w xs[i] ∧ w.cell? ⟨b, o + i * 6, none⟩ = some (.int .i64 xs[i].kind) ∧
      w.cell? ⟨b, o + i * 6 + 1, none⟩ = some (.int .i64 xs[i].n) ∧ w.cell? ⟨b, o + i * 6 + 2, none⟩ = some (.int .i64 xs[i].m) ∧ w.cell? ⟨b, o + i * 6 + 3, none⟩ = some xs[i].v ∧ w.cell? ⟨b, o + i * 6 + 4, none⟩ = some (.bool xs[i].torn) ∧ w.cell? ⟨b, o + i * 6 + 5, none⟩ = some (.bool xs[i].cell) := by
  obtain ⟨bo, d, e, h1, h2, h3⟩ := h
  injection e with e1 e2 e3
  subst e1
  obtain ⟨hok, b, o, h6, r⟩ := h3 i hi
  exact ⟨b, o, h6, hok, r⟩

/-- The journal that is opened behind the crash, and what it has. -/
structure Fn (w : World) (H B D : Nat) (W : World) (Q : Nat → Prop) (x : Jst) (wv : Value) (rs : List WasR) (a b c : Nat) (N3 g3 B3 D3 t3 v3 o3 : Nat) (s : St) (rv3 : Value) : Prop where
  ou : Ou w H B D W Q x wv rs a b c
  jp : Jp W B3 D3 t3 v3 o3 s rv3
  n0 : W.cell? ⟨N3, 0, none⟩ = some (.int .i64 (s.1 : Int))
  n1 : W.cell? ⟨N3, 1, none⟩ = some (.string (bs s.2.1))
  n2 : W.cell? ⟨N3, 2, none⟩ = some (.slice (some ⟨g3, 0, none⟩) s.2.2.length s.2.2.length)
  q : Bss W (.slice (some ⟨g3, 0, none⟩) s.2.2.length s.2.2.length) s.2.2

theorem Fn.later {w W W' : World} {H B D : Nat} {Q : Nat → Prop} {x : Jst} {wv : Value} {rs : List WasR} {a b c N3 g3 B3 D3 t3 v3 o3 : Nat} {s : St} {rv3 : Value} (h : Fn w H B D W Q x wv rs a b c N3 g3 B3 D3 t3 v3 o3 s rv3) (hb : Below W.heap.size W W') : Fn w H B D W' Q x wv rs a b c N3 g3 B3 D3 t3 v3 o3 s rv3 :=
  ⟨h.ou.later hb, h.jp.later hb, (hb.cell (World.block_lt_of_cell? W _ h.n0)).trans h.n0, (hb.cell (World.block_lt_of_cell? W _ h.n1)).trans h.n1, (hb.cell (World.block_lt_of_cell? W _ h.n2)).trans h.n2, h.q.below hb (Nat.le_refl _)⟩

set_option maxRecDepth 100000 in
set_option maxHeartbeats 2000000 in
theorem walkJournalOutlives {w : World} (v : Value) (xs : List ActV) (hx : Script w v xs) (keep : Int) (hkeep : (Lit.int .i64 keep).wf = true) (v2 : Value) (z2 : Bool × Bool) (hv2 : v2 = .agg #[.bool z2.1, .bool z2.2]) :
    Calls Try.prog 5 #[v, .int .i64 keep, v2] w fun e w' => e = .returned (.bool true) ∧ Below w.heap.size w w' := by
  obtain ⟨f0, f1⟩ := z2
  subst hv2
  have hk9 := (bounds_i64 hkeep).2
  obtain ⟨ao, c, rfl, hc1, hc2, _⟩ := id hx
  unfold maxLen at hc2
  have hb0 : Below w.heap.size w (w.alloc (.cells #[.bool f0, .bool f1] 53)) := below_new w _
  have A0 : (w.alloc (.cells #[.bool f0, .bool f1] 53)).cell? ⟨w.heap.size, 0, none⟩ = some (.bool f0) := by simp
  have A1 : (w.alloc (.cells #[.bool f0, .bool f1] 53)).cell? ⟨w.heap.size, 1, none⟩ = some (.bool f1) := by simp
  have HX := hide (hx.below hb0)
  have HB0 := hide hb0
  clear hx
  go_enter Try.func5, Try.ntmps5
  go_wp2_with fail
  clear hb0
  generalize w.alloc (.cells #[.bool f0, .bool f1] 53) = w0 at *
  generalize hOF : w.heap.size = OF at *
  have HOF := hide hOF
  clear hOF
  refine (new_any w0).mono ?_
  rintro e w1 ⟨rfl, rfl⟩
  have hb1 : Below w0.heap.size w0 (w0.alloc (.cells #[.slice none 0 0, .slice none 0 0, .slice none 0 0, .slice none 0 0] 72)) := below_new w0 _
  have hd1 : Dk (fun k => k = w0.heap.size) (w0.alloc (.cells #[.slice none 0 0, .slice none 0 0, .slice none 0 0, .slice none 0 0] 72)) w0.heap.size [] [] [] [] := Dk.new (S := fun k => k = w0.heap.size) w0 rfl _
  generalize (w0.alloc (.cells #[.slice none 0 0, .slice none 0 0, .slice none 0 0, .slice none 0 0] 72)) = w1 at *
  obtain ⟨D, hD⟩ : ∃ D, w0.heap.size = D := ⟨_, rfl⟩
  have hda : Dk (fun k => k = D) w1 D [] [] [] [] := by rw [← hD]; exact hd1
  have hD0 : w0.heap.size ≤ D := by omega
  rw [hD]
  have Hda := hide hda
  have HB1 := hide hb1
  clear hd1 hda hb1 hD
  go_wp2_with fail
  refine (open_jd (S := fun k => k = D ∨ w1.heap.size ≤ k) D [] [] [] [] 0 0 0 (0, [], []) 0 w1 (unhide Hda) (fun k _ h => .inl h) (fun k h => .inr h) (by simp) (by simp) hdOf_nil opens_nil).mono ?_
  rintro e w3 ⟨B, sf1, sc1, rfl, hB, hj1, hf1, hcase⟩
  obtain ⟨rfl, rfl⟩ : sf1 = [] ∧ sc1 = [] := by
    rcases hcase with h | h
    · exact ⟨h.2.1, h.2.2.1⟩
    · have := h.1; simp at this
  have hS3 : ∀ k, (k = D ∨ w1.heap.size ≤ k) → w0.heap.size ≤ k := fun k h => by have := (unhide HB1).size; rcases h with h | h <;> omega
  have hs3 : Side w0 (fun _ => False) w3 B D [] [] [] [] 0 0 0 (0, [], []) := Side.of (by simpa using hj1) hS3 (Fr.bl (unhide HB1) hf1 hS3)
  have Hs3 := hide hs3
  clear hj1 hf1 hcase hs3 Hda HB1
  go_wp2_with fail
  refine (alive_any _).mono ?_
  rintro e w4 ⟨rfl, hb4⟩
  have hs4 := (unhide Hs3).later hb4
  obtain ⟨rv4, hj4⟩ := hs4.jp
  have Hs4 := hide hs4
  have Hj4 := hide hj4
  clear hb4 hs4 hj4 Hs3
  go_wp2_with fail
  refine (seen_any B D 0 0 0 0 [] [] rv4 _ (unhide Hj4) (by simp) (fun x hx => by simp at hx)).mono ?_
  rintro e w5 ⟨g5, rfl, hq5, hb5⟩
  have hs5 := (unhide Hs4).grow hb5
  have Hs5 := hide hs5
  have hq5' := hq5.mono (Q := fun k => w4.heap.size ≤ k ∧ k < w5.heap.size) (fun k h => h)
  have HQ5 := hide hq5'
  clear hs5 hq5 hq5' hb5 Hj4 Hs4
  go_wp2_with fail
  have hbN := below_new w5 (.cells #[.int .i64 0, .string (bs []), .slice (some ⟨g5, 0, none⟩) 0 0] 56)
  have hrow : (w5.alloc (.cells #[.int .i64 0, .string (bs []), .slice (some ⟨g5, 0, none⟩) 0 0] 56)).ownsRow w0.heap.size 56 3 (.slice (some ⟨w5.heap.size, 0, none⟩) 1 1) 1 (wasRow [(((0, [], []) : St), g5)]) := World.ownsRow_lit w5 _ 1 (unhide Hs5).below.size (by decide) rfl
  have hz6 : w5.heap.size < (w5.alloc (.cells #[.int .i64 0, .string (bs []), .slice (some ⟨g5, 0, none⟩) 0 0] 56)).heap.size := by simp
  have hs6 := (unhide Hs5).grow hbN
  have hq6 := (unhide HQ5).frame (fun k hk => hbN.block k hk.2)
  generalize (w5.alloc (.cells #[.int .i64 0, .string (bs []), .slice (some ⟨g5, 0, none⟩) 0 0] 56)) = w6 at *
  obtain ⟨rv6, hj6⟩ := hs6.jp
  have Hs6 := hide hs6
  have Hj6 := hide hj6
  have HQ6 := hide hq6
  have Hrow := hide hrow
  clear hs6 hj6 hq6 hrow hbN Hs5 HQ5
  refine (hard_any B D 0 0 0 (0, [], []) rv6 w6 (unhide Hj6)).mono ?_
  rintro e w7 ⟨rfl, hb7⟩
  have hbH := below_new w7 (.cells #[.int .i64 0, .int .i64 0, .int .i64 0] 43)
  have hz8 : w7.heap.size < (w7.alloc (.cells #[.int .i64 0, .int .i64 0, .int .i64 0] 43)).heap.size := by simp
  have hz7 := hb7.size
  have hs7 := (unhide Hs6).later hb7
  have hq7 := (unhide HQ6).frame (w' := w7) (fun k hk => hb7.block k (by have := hk.2; omega))
  have hr7 := row_kept (unhide Hrow) hb7.size (fun g hg => hb7.block g (World.ownsRow.lt (unhide Hrow) g hg).2)
  have hou : Ou w0 w7.heap.size B D (w7.alloc (.cells #[.int .i64 0, .int .i64 0, .int .i64 0] 43)) (fun k => w4.heap.size ≤ k ∧ k < w5.heap.size) ⟨[], [], [], [], 0, 0, 0, (0, [], [])⟩ (.slice (some ⟨w5.heap.size, 0, none⟩) 1 1) [(((0, [], []) : St), g5)] 0 0 0 := by
    refine ⟨(hs7.grow hbH).mono (fun k hk => ?_), row_kept hr7 hbH.size (fun g hg => hbH.block g (World.ownsRow.lt hr7 g hg).2), fun r hr => ?_, ⟨by simp, by simp, by simp, fun j => by simp⟩, fun h => ?_, fun h => ?_, fun g hg h => ?_, hs7.below.size⟩
    · rcases hk with hk | hk | hk
      · exact .inl (.inl (.inr hk))
      · exact .inr ⟨by omega, by omega⟩
      · simp only [Value.ownBlock, Option.some.injEq] at hk
        exact .inl (.inr ⟨by omega, by omega⟩)
    · simp only [List.mem_singleton] at hr
      subst hr
      exact hq7.frame (fun k hk => hbH.block k (by have := hk.2; omega))
    · have := h.2; omega
    · simp only [Value.ownBlock, Option.some.injEq] at h
      omega
    · simp only [Value.ownBlock, Option.some.injEq] at hg
      have := h.2; omega
  have Hst : Hid (OuR w0 w7.heap.size B D 0 (w7.alloc (.cells #[.int .i64 0, .int .i64 0, .int .i64 0] 43)) (.slice (some ⟨w5.heap.size, 0, none⟩) 1 1)) :=
    ⟨_, _, _, _, _, _, hou, Past.nil, hdOf_nil, hdOf_nil, by simp, by simp, by simp, fun z hz => by simp at hz, by simp, by simp, by simp, fun r hr => by simp only [List.mem_singleton] at hr; subst hr; exact ⟨by simp, fun z hz => by simp at hz⟩⟩
  clear hou hr7 hq7 hs7 hbH hb7 Hs6 Hj6 HQ6 Hrow
  go_wp2_with fail
  generalize (w7.alloc (.cells #[.int .i64 0, .int .i64 0, .int .i64 0] 43)) = w8 at *
  generalize w7.heap.size = H at *
  go_loopw [10, 12] (fun pv iv wr => ∃ (i : Nat) (wv : Value), iv = .int .i64 i ∧ wv = pv ∧ i ≤ 60 ∧ Hid (OuR w0 H B D i wr wv)) (fun _ iv _ => 60 - (intOf iv).toNat)
  case atStart => exact ⟨0, _, rfl, rfl, by decide, Hst⟩
  case round =>
    clear Hst hz6 hz8 hz7
    obtain ⟨i, wv, rfl, rfl, hi, Hh⟩ := hrel
    by_cases hcond : i < xs.length ∧ i < 60
    · have hi1 : decide ((i : Int) < (xs.length : Int)) = true := by simp; omega
      have hi2 : decide ((i : Int) < 60) = true := by simp; omega
      obtain ⟨Q, x, rs, a, b', c', hou, hpast, hhd, hhs, hnl, hcl, hscl, hzl, hdl, hll, hrl, hrz⟩ := unhide Hh
      have hbr := hou.side.below
      obtain ⟨b, o, rfl, hok, k0, k1, k2, k3, k4, k5⟩ := (unhide HX).at9 i hcond.1
      generalize hZ : xs[i] = z at *
      have hlt := World.block_lt_of_cell? w0 _ k0
      have c0 := (hbr.cell (p := ⟨b, o + i * 6, none⟩) hlt).trans k0
      have c1 := (hbr.cell (p := ⟨b, o + i * 6 + 1, none⟩) hlt).trans k1
      have c2 := (hbr.cell (p := ⟨b, o + i * 6 + 2, none⟩) hlt).trans k2
      have c3 := (hbr.cell (p := ⟨b, o + i * 6 + 3, none⟩) hlt).trans k3
      have c4 := (hbr.cell (p := ⟨b, o + i * 6 + 4, none⟩) hlt).trans k4
      have c5 := (hbr.cell (p := ⟨b, o + i * 6 + 5, none⟩) hlt).trans k5
      obtain ⟨kind, zn, zm, zv, zb, torn, cell⟩ := z
      obtain ⟨n0, n1, m0, m1, hs⟩ := hok
      simp only at n0 n1 m0 m1 hs c0 c1 c2 c3 c4 c5
      obtain ⟨ba, bc', rfl, hbc1, hbc2, _⟩ := id hs
      unfold maxLen at hbc2
      have hba := below_new wr (.cells #[.int .i64 kind, .int .i64 zn, .int .i64 zm, .slice ba zb.length bc', .bool torn, .bool cell] 37)
      have hact := ActAt.new wr ⟨kind, zn, zm, .slice ba zb.length bc', zb, torn, cell⟩ 37
      have hou2 := hou.later hba
      have Hs := hide hs
      have Hact := hide hact
      have Hou2 := hide hou2
      have Hpast := hide hpast
      have Hhd := hide hhd
      have Hhs := hide hhs
      have Hrz := hide hrz
      clear k0 k1 k2 k3 k4 k5 hs hact hou hou2 hba hZ hpast hhd hhs hrz
      by_cases hlong : 200 < zb.length
      · have hI : decide ((200 : Int) < zb.length) = true := by simp; omega
        have HH : Hid (OuR w0 H B D (i + 1) _ wv) := ⟨_, x, _, _, _, _, unhide Hou2, unhide Hpast, unhide Hhd, unhide Hhs, by omega, hcl, hscl, hzl, hdl, by omega, by omega, unhide Hrz⟩
        clear Hh
        go_wp2
        exact ⟨⟨i + 1, wv, by simp, rfl, by omega, HH⟩, by simp only [intOf]; omega⟩
      · have hI : decide ((200 : Int) < zb.length) = false := by simp; omega
        have hslW := (unhide Hs).later (Below.trans hbr ((below_new wr _).mono hbr.size)) |> fun (h : Sl (wr.alloc (.cells #[.int .i64 kind, .int .i64 zn, .int .i64 zm, .slice ba zb.length bc', .bool torn, .bool cell] 37)) (.slice ba zb.length bc') zb) => h
        have hact : ActAt (wr.alloc (.cells #[.int .i64 kind, .int .i64 zn, .int .i64 zm, .slice ba zb.length bc', .bool torn, .bool cell] 37)) wr.heap.size ⟨kind, zn, zm, .slice ba zb.length bc', zb, torn, cell⟩ := unhide Hact
        have HslW := hide hslW
        obtain ⟨nf, nc, sf, sc, t, vv, oo, sb, sd, sL⟩ := x
        simp only at hnl hcl hscl hzl hdl hll Hpast Hhd Hhs
        have Hzl := hide hzl
        obtain ⟨e0, e1, e2, e3, e4, e5⟩ := hact
        simp only at e0 e1 e2 e3 e4 e5
        clear hzl hslW Hh Hact Hs hbr
        go_upto_block 2 with fail
        clear c0 c1 c2 c3 c4 c5
        generalize (wr.alloc (.cells #[.int .i64 kind, .int .i64 zn, .int .i64 zm, .slice ba zb.length bc', .bool torn, .bool cell] 37)) = W at *
        generalize wr.heap.size = A at *
        go_cut [10, 12] (fun pv iv wc => iv = .int .i64 i ∧ ∃ u, u = pv ∧ Hid (OuMid w0 H B D i wc u))
        case first =>
          obtain ⟨rv1, hjp1⟩ := (unhide Hou2).side.jp
          have hsb : sb ≤ 1099511627776 := hjp1.hb
          clear hjp1
          by_cases q1 : kind = 1
          · subst q1
            have hsm := (Ch.add zb).small ⟨Nat.zero_le _, by show zb.length ≤ 65516; omega⟩ (by show zb.length ≤ 200; omega)
            go_wp2_with fail
            refine ((unhide Hou2).op (x' := ⟨nf ++ fr (Ch.add zb).enc, nc, sf, sc, t, vv, oo, (sb, sd, sL ++ [zb])⟩) (fun S hj hS => append_j B D nf nc sf sc t vv oo sb sd zb sL _ W hj hS (unhide HslW) (by omega) (by omega) (by omega))).mono ?_
            rintro e w7 ⟨rfl, ho7, hk7⟩
            clear hk7
            have HM : Hid (OuMid w0 H B D i w7 wv) := ⟨_, _, _, _, _, _, ho7, (unhide Hpast).snoc ⟨Nat.zero_le _, by show zb.length ≤ 65516; omega⟩ rfl, unhide Hhd, unhide Hhs, by rw [List.length_append, fr_length]; omega, hcl, hscl, fun q hq => by
              rcases List.mem_append.1 hq with e | e
              · exact unhide Hzl q e
              · simp at e; subst e; omega, hdl, by rw [List.length_append]; show sL.length + 1 ≤ _; omega, hrl, unhide Hrz⟩
            clear ho7
            go_wp2_with fail
            go_meet
            case rel => exact ⟨rfl, _, rfl, HM⟩
          by_cases q2 : kind = 2
          · subst q2
            by_cases hc : (sb : Int) ≤ zn ∧ zn ≤ sb + sL.length
            · obtain ⟨n2, rfl⟩ : ∃ n : Nat, zn = n := ⟨zn.toNat, by omega⟩
              have hgd : (Ch.first (n2 - sb)).Good := ⟨by show n2 - sb ≤ 1099511627776; omega, Nat.zero_le _⟩
              have hsm := (Ch.first (n2 - sb)).small hgd (Nat.zero_le _)
              go_wp2_with fail
              refine ((unhide Hou2).op (x' := ⟨nf ++ fr (Ch.first (n2 - sb)).enc, nc, sf, sc, t, vv, oo, (sb, sd, sL.take (n2 - sb))⟩) (fun S hj hS => cut_j B D nf nc sf sc t vv oo sb sd sL n2 W hj hS (by omega) (by omega) (by omega))).mono ?_
              rintro e w7 ⟨rfl, ho7, hk7⟩
              clear hk7
              have HM : Hid (OuMid w0 H B D i w7 wv) := ⟨_, _, _, _, _, _, ho7, (unhide Hpast).snoc hgd (if_pos (by omega)), unhide Hhd, unhide Hhs, by rw [List.length_append, fr_length]; omega, hcl, hscl, fun q hq => unhide Hzl q (List.mem_of_mem_take hq), hdl, by show (sL.take _).length ≤ _; rw [List.length_take]; omega, hrl, unhide Hrz⟩
              clear ho7
              go_wp2_with fail
              go_meet
              case rel => exact ⟨rfl, _, rfl, HM⟩
            · obtain ⟨rva, hja⟩ := (unhide Hou2).side.jp
              have Hja := hide hja
              clear hja
              go_wp2_with fail
              refine (cut_j_no B D t vv oo sb sd sL zn rva W (unhide Hja) (by omega)).mono ?_
              rintro e w7 ⟨rfl, hb7⟩
              have HM : Hid (OuMid w0 H B D i w7 wv) := ⟨_, _, _, _, _, _, (unhide Hou2).later hb7, (unhide Hpast).stay, unhide Hhd, unhide Hhs, by show nf.length ≤ _; omega, hcl, hscl, unhide Hzl, hdl, by show sL.length ≤ _; omega, hrl, unhide Hrz⟩
              clear hb7 Hja
              go_wp2_with fail
              go_meet
              case rel => exact ⟨rfl, _, rfl, HM⟩
          by_cases q3 : kind = 3
          · subst q3
            by_cases hc : 0 ≤ zn ∧ zn ≤ 1099511627776
            · obtain ⟨n2, rfl⟩ : ∃ n : Nat, zn = n := ⟨zn.toNat, by omega⟩
              have hgd : (Ch.lay n2 zb).Good := ⟨by show n2 ≤ 1099511627776; omega, by show zb.length ≤ 65516; omega⟩
              have hsm := (Ch.lay n2 zb).small hgd (by show zb.length ≤ 200; omega)
              go_wp2_with fail
              refine ((unhide Hou2).op (x' := ⟨nf ++ fr (Ch.lay n2 zb).enc, nc, sf, sc, t, vv, oo, (n2, zb, sL.drop (goneN sb n2 sL.length))⟩) (fun S hj hS => rebase_j B D nf nc sf sc t vv oo sb sd zb sL n2 _ W hj hS (unhide HslW) (by omega) (by omega) (by omega))).mono ?_
              rintro e w7 ⟨rfl, ho7, hk7⟩
              clear hk7
              have HM : Hid (OuMid w0 H B D i w7 wv) := ⟨_, _, _, _, _, _, ho7, (unhide Hpast).snoc hgd (by show some (n2, zb, _) = some (n2, zb, _); rw [goneN_drop]), unhide Hhd, unhide Hhs, by rw [List.length_append, fr_length]; omega, hcl, hscl, fun q hq => unhide Hzl q (List.mem_of_mem_drop hq), by show zb.length ≤ 200; omega, by show (sL.drop _).length ≤ _; rw [List.length_drop]; omega, hrl, unhide Hrz⟩
              clear ho7
              go_wp2_with fail
              go_meet
              case rel => exact ⟨rfl, _, rfl, HM⟩
            · obtain ⟨rva, hja⟩ := (unhide Hou2).side.jp
              have Hja := hide hja
              clear hja
              go_wp2_with fail
              refine (rebase_b2 B zn _ W (by omega)).mono ?_
              rintro e w7 ⟨rfl, hb7⟩
              have HM : Hid (OuMid w0 H B D i w7 wv) := ⟨_, _, _, _, _, _, (unhide Hou2).later hb7, (unhide Hpast).stay, unhide Hhd, unhide Hhs, by show nf.length ≤ _; omega, hcl, hscl, unhide Hzl, hdl, by show sL.length ≤ _; omega, hrl, unhide Hrz⟩
              clear hb7 Hja
              go_wp2_with fail
              go_meet
              case rel => exact ⟨rfl, _, rfl, HM⟩
          by_cases q4 : kind = 4
          · subst q4
            by_cases hc : (0 ≤ zn ∧ zn ≤ 1099511627776) ∧ (0 ≤ zm ∧ zm ≤ 1099511627776)
            · obtain ⟨n2, rfl⟩ : ∃ n : Nat, zn = n := ⟨zn.toNat, by omega⟩
              obtain ⟨m2, rfl⟩ : ∃ n : Nat, zm = n := ⟨zm.toNat, by omega⟩
              have hh := encH_fits (t := n2) (v := m2) (o := 0) (by omega) (by omega) (by decide)
              go_wp2_with fail
              refine ((unhide Hou2).op (x' := ⟨nf, fr (encH n2 m2 0), sf, sc, n2, m2, 0, (sb, sd, sL)⟩) (fun S hj hS => set_j B D nf nc sf sc t vv oo n2 m2 0 (sb, sd, sL) W hj hS (by omega) (by omega) (by decide))).mono ?_
              rintro e w7 ⟨rfl, ho7, hk7⟩
              clear hk7
              have HM : Hid (OuMid w0 H B D i w7 wv) := ⟨_, _, _, _, _, _, ho7, (unhide Hpast).stay, hdOf_enc (by omega) (by omega) (by decide), unhide Hhs, by show nf.length ≤ _; omega, by show (fr (encH n2 m2 0)).length ≤ 26; rw [fr_length]; omega, hscl, unhide Hzl, hdl, by show sL.length ≤ _; omega, hrl, unhide Hrz⟩
              clear ho7
              go_wp2_with fail
              go_meet
              case rel => exact ⟨rfl, _, rfl, HM⟩
            · obtain ⟨rva, hja⟩ := (unhide Hou2).side.jp
              have Hja := hide hja
              clear hja
              go_wp2_with fail
              refine (set_j_no B zn zm 0 W (by omega)).mono ?_
              rintro e w7 ⟨rfl, hb7⟩
              have HM : Hid (OuMid w0 H B D i w7 wv) := ⟨_, _, _, _, _, _, (unhide Hou2).later hb7, (unhide Hpast).stay, unhide Hhd, unhide Hhs, by show nf.length ≤ _; omega, hcl, hscl, unhide Hzl, hdl, by show sL.length ≤ _; omega, hrl, unhide Hrz⟩
              clear hb7 Hja
              go_wp2_with fail
              go_meet
              case rel => exact ⟨rfl, _, rfl, HM⟩
          by_cases q5 : kind = 5
          · subst q5
            go_wp2_with fail
            refine ((unhide Hou2).op (x' := ⟨nf, nc, nf, nc, t, vv, oo, (sb, sd, sL)⟩) (fun S hj hS => sync_j B D nf nc sf sc t vv oo (sb, sd, sL) W hj)).mono ?_
            rintro e w7 ⟨rfl, ho7, hk7⟩
            obtain ⟨rv7, hj7⟩ := ho7.side.jp
            have Ho7 := hide ho7.empty
            have Hj7 := hide hj7
            clear ho7 hj7 hk7
            go_wp2_with fail
            refine (hard_any B D t vv oo (sb, sd, sL) rv7 _ (unhide Hj7)).mono ?_
            rintro e w8 ⟨rfl, hb8⟩
            have ho8 := (unhide Ho7).later hb8
            obtain ⟨g0, g1, g2, gf⟩ := ho8.hd
            have HM : Hid (OuMid w0 H B D i _ (.slice none 0 0)) := ⟨_, _, _, _, _, _, ho8.put t vv oo, (unhide Hpast).sync, unhide Hhd, unhide Hhd, by show nf.length ≤ _; omega, hcl, hcl, unhide Hzl, hdl, by show sL.length ≤ _; omega, Nat.zero_le _, fun r hr => by simp at hr⟩
            clear ho8 hb8 Ho7 Hj7
            go_wp2_with fail
            go_meet
            case rel => exact ⟨rfl, _, rfl, HM⟩
          have HM : Hid (OuMid w0 H B D i W wv) := ⟨_, _, _, _, _, _, unhide Hou2, (unhide Hpast).stay, unhide Hhd, unhide Hhs, by show nf.length ≤ _; omega, hcl, hscl, unhide Hzl, hdl, by show sL.length ≤ _; omega, hrl, unhide Hrz⟩
          have p1 : (kind == 1) = false := by simpa using q1
          have p2 : (kind == 2) = false := by simpa using q2
          have p3 : (kind == 3) = false := by simpa using q3
          have p4 : (kind == 4) = false := by simpa using q4
          have p5 : (kind == 5) = false := by simpa using q5
          go_wp2_with fail
          go_meet
          case rel => exact ⟨rfl, _, rfl, HM⟩
        case rest =>
          obtain ⟨rfl, wu, rfl, Hmid⟩ := hcut
          obtain ⟨Q, x, rs, a, b', c', hou, hpast, hhd, hhs, hnl3, hcl3, hscl3, hzl, hdl3, hll3, hrl3, hrz⟩ := unhide Hmid
          clear Hou2 Hpast Hhd Hhs Hrz HslW Hzl hnl hcl hscl hdl hll hrl e0 e1 e2 e3 e4 e5
          obtain ⟨nf, nc, sf, sc, t, vv, oo, sb, sd, sL⟩ := x
          simp only at hnl3 hcl3 hscl3 hzl hdl3 hll3 hpast hhd hhs
          obtain ⟨rv1, hj1⟩ := hou.side.jp
          have Hou := hide hou
          have Hj1 := hide hj1
          have Hpast := hide hpast
          have Hhd := hide hhd
          have Hhs := hide hhs
          have Hzl := hide hzl
          have Hrz := hide hrz
          clear hou hj1 hpast hhd hhs hzl hrz Hmid
          go_wp2_with fail
          refine (seen_any B D t vv oo sb sd sL rv1 _ (unhide Hj1) (by omega) (fun x hx => by have := unhide Hzl x hx; omega)).mono ?_
          rintro e w8 ⟨g8, rfl, hq8, hb8⟩
          have ho8 := (unhide Hou).grow hb8
          have hq8' := hq8.mono (Q := fun k => Q k ∨ (wc.heap.size ≤ k ∧ k < w8.heap.size)) (fun k hk => .inr hk)
          have hbN := below_new w8 (.cells #[.int .i64 (sb : Int), .string (bs sd), .slice (some ⟨g8, 0, none⟩) sL.length sL.length] 56)
          have ho9 := ho8.later hbN
          have hq9 := hq8'.frame (fun k hk => hbN.block k (ho8.plt (.inl hk)))
          have hN : ∀ j u, (wasRow [(((sb, sd, sL) : St), g8)])[j]? = some u → (w8.alloc (.cells #[.int .i64 (sb : Int), .string (bs sd), .slice (some ⟨g8, 0, none⟩) sL.length sL.length] 56)).cell? ((⟨w8.heap.size, 0, none⟩ : Addr).add j) = some u := by
            intro j u hu
            rw [Addr.add_lit, Nat.zero_add, World.cell?_alloc_new]
            rw [← hu]
            simp [wasRow, WasR.cells, WasR.v]
          have Ho9 := hide ho9
          have Hq9 := hide hq9
          have HN := hide hN
          clear ho8 ho9 hq8 hq8' hq9 hN hbN hb8 Hou Hj1
          go_wp2_with (at_builtin; refine wpList_push rfl (.tmp 96) (.tmp 99) rfl (unhide Ho9) (((sb, sd, sL) : St), g8) (unhide Hq9) (by omega) w8.heap.size rfl rfl (unhide HN) ?_)
          intro v' w9 ho10
          have HE : Hid (OuR w0 H B D (i + 1) w9 v') := ⟨_, _, _, _, _, _, ho10, by rw [List.map_append]; exact unhide Hpast, unhide Hhd, unhide Hhs, hnl3, hcl3, hscl3, unhide Hzl, hdl3, hll3, by rw [List.length_append]; simp; omega, fun r hr => by
            rcases List.mem_append.1 hr with e | e
            · exact unhide Hrz r e
            · simp only [List.mem_singleton] at e; subst e; exact ⟨hdl3, unhide Hzl⟩⟩
          clear ho10 Ho9 Hq9 HN Hpast Hhd Hhs Hzl Hrz
          go_wp2
          go_roundw
          case rel => exact ⟨i + 1, _, by go_num, rfl, by omega, HE⟩
          case measure => simp [intOf]; omega
    · have hway : ((decide ((i : Int) < (xs.length : Int)) = true ∧ decide ((i : Int) < 60) = false) ∧ i < xs.length ∧ 60 ≤ i) ∨ (decide ((i : Int) < (xs.length : Int)) = false ∧ xs.length ≤ i) := by
        by_cases hil : i < xs.length
        · exact .inl ⟨⟨by simp; omega, by simp; omega⟩, hil, by omega⟩
        · exact .inr ⟨by simp; omega, by omega⟩
      clear hcond
      obtain ⟨Q, x, rs, a, b', c', hou, hpast, hhd, hhs, hnl, hcl, hscl, hzl, hdl, hll, hrl, hrz⟩ := unhide Hh
      obtain ⟨nf, nc, sf, sc, t, vv, oo, st⟩ := x
      simp only at hnl hcl hscl hzl hdl hll hpast hhd hhs
      obtain ⟨S1, hdk⟩ := hou.side.dk
      have hbr := hou.side.below
      have B0 := (hbr.cell (p := ⟨OF, 0, none⟩) (World.block_lt_of_cell? w0 _ A0)).trans A0
      have B1 := (hbr.cell (p := ⟨OF, 1, none⟩) (World.block_lt_of_cell? w0 _ A1)).trans A1
      obtain ⟨s, n, hs, hop⟩ := hpast.opens keep f0
      obtain ⟨j, hj, hjs⟩ : ∃ j, ∃ h : j < rs.length, rs[j].1 = s := by
        obtain ⟨r, hr, rfl⟩ := List.mem_map.1 hs
        obtain ⟨j, hj, rfl⟩ := List.getElem_of_mem hr
        exact ⟨j, hj, rfl⟩
      have hrs := hrz rs[j] (List.getElem_mem hj)
      rw [hjs] at hrs
      have hlb : (left sf nf keep f0).length ≤ 16777216 := by obtain ⟨_, _, _, _, hq, _⟩ := id hdk; exact left_length sf nf keep f0 _ hq.b2 hq.b0
      obtain ⟨t3, v3, o3, hcd, hcase⟩ : ∃ t3 v3 o3, hdOf (cel nc sc f1) = some (t3, v3, o3) ∧ ((f1 = true ∧ t3 = t ∧ v3 = vv ∧ o3 = oo) ∨ (f1 = false ∧ t3 = a ∧ v3 = b' ∧ o3 = c')) := by
        cases f1
        · exact ⟨a, b', c', hhs, .inr ⟨rfl, rfl, rfl, rfl⟩⟩
        · exact ⟨t, vv, oo, hhd, .inl ⟨rfl, rfl, rfl, rfl⟩⟩
      have hcb : (cel nc sc f1).length ≤ 16777216 := by unfold cel; split <;> omega
      obtain ⟨gw, cw, rfl, hrc1, hrc2⟩ : ∃ gw cw, wv = .slice (some ⟨gw, 0, none⟩) rs.length cw ∧ rs.length ≤ cw ∧ cw ≤ maxLen := by
        rcases hou.row.2 with ⟨_, h0⟩ | ⟨g', cap, cur, e, _, _, k1, k2, _⟩
        · omega
        · exact ⟨g', cap, e, k1, k2⟩
      unfold maxLen at hrc2
      obtain ⟨s1, sd, sL⟩ := s
      have Hou := hide hou
      have Hdk := hide hdk
      have Hop := hide hop
      have Hcd := hide hcd
      have Hcase := hide hcase
      have Hjs := hide hjs
      have Hrs := hide hrs
      clear hou hdk hop hcd hcase hpast hhd hhs hs hrz Hh hzl hdl hll hnl hcl hscl hbr hjs hrs
      rcases hway with ⟨⟨hi1, hi2⟩, hi3, hi4⟩ | ⟨hi1, hi3⟩
      all_goals
        go_wp2_with fail
        refine (crash_ok D nf nc sf sc keep f0 f1 wr (unhide Hdk) hk9).mono ?_
        rintro e w9 ⟨D3, rfl, hd3, hb9⟩
        have Hd3 := hide hd3
        have Hb9 := hide hb9
        clear hd3 hb9 Hdk
        go_wp2_with fail
        refine (open_jd (S := fun k => wr.heap.size ≤ k) D3 _ _ _ _ t3 v3 o3 (s1, sd, sL) n w9 (unhide Hd3) (fun k _ h => h) (fun k h => Nat.le_trans (unhide Hb9).size h) hlb hcb (unhide Hcd) (unhide Hop)).mono ?_
        rintro e w10 ⟨B3, sf3, sc3, rfl, hB3, hj3, hf3, _⟩
        have hb10 : Below wr.heap.size wr w10 := Fr.bl (unhide Hb9) hf3 (fun k h => h)
        obtain ⟨rv3, hjp3⟩ := hj3.jp
        have Hou10 := hide ((unhide Hou).later hb10)
        have Hjp3 := hide hjp3
        clear hj3 hf3 hb10 hjp3 Hd3 Hb9 Hop Hcd
        have E0 := ((unhide Hou10).side.below.cell (p := ⟨OF, 0, none⟩) (World.block_lt_of_cell? w0 _ A0)).trans A0
        go_wp2_with fail
        refine (seen_any B3 D3 t3 v3 o3 s1 sd sL rv3 w10 (unhide Hjp3) (by have := (unhide Hrs).1; show sd.length ≤ _; change sd.length ≤ 200 at this; omega) (fun x hx => by have := (unhide Hrs).2 x hx; omega)).mono ?_
        rintro e w11 ⟨g3, rfl, hq11, hb11⟩
        have hbN := below_new w11 (.cells #[.int .i64 (s1 : Int), .string (bs sd), .slice (some ⟨g3, 0, none⟩) sL.length sL.length] 56)
        have hfn : Fn w0 H B D (w11.alloc (.cells #[.int .i64 (s1 : Int), .string (bs sd), .slice (some ⟨g3, 0, none⟩) sL.length sL.length] 56)) Q ⟨nf, nc, sf, sc, t, vv, oo, st⟩ (.slice (some ⟨gw, 0, none⟩) rs.length cw) rs a b' c' w11.heap.size g3 B3 D3 t3 v3 o3 (s1, sd, sL) rv3 :=
          ⟨((unhide Hou10).later hb11).later hbN, ((unhide Hjp3).later hb11).later hbN, by simp, by simp, by simp, hq11.bss.below hbN (Nat.le_refl _)⟩
        have Hfn := hide hfn
        clear hfn hbN hq11 hb11 Hou10 Hjp3 E0
        go_wp2_with fail
        generalize (w11.alloc (.cells #[.int .i64 (s1 : Int), .string (bs sd), .slice (some ⟨g3, 0, none⟩) sL.length sL.length] 56)) = w12 at *
        generalize w11.heap.size = N3 at *
        go_loopw [17, 18] (fun fv iv wr' => ∃ (k : Nat) (fb : Bool), iv = .int .i64 k ∧ fv = .bool fb ∧ k ≤ rs.length ∧ (j < k → fb = true) ∧ Hid (Fn w0 H B D wr' Q ⟨nf, nc, sf, sc, t, vv, oo, st⟩ (.slice (some ⟨gw, 0, none⟩) rs.length cw) rs a b' c' N3 g3 B3 D3 t3 v3 o3 (s1, sd, sL) rv3)) (fun _ iv _ => rs.length - (intOf iv).toNat)
        case atStart => exact ⟨0, false, rfl, rfl, Nat.zero_le _, fun h => by omega, Hfn⟩
        case round =>
          clear Hfn
          obtain ⟨k, fb, rfl, rfl, hk, hfb, Hfn⟩ := hrel
          by_cases hk2 : k < rs.length
          · have hI : decide ((k : Int) < (rs.length : Int)) = true := by simp; omega
            have hrow := (unhide Hfn).ou.row
            have hq := (unhide Hfn).ou.each rs[k] (List.getElem_mem hk2)
            have hget := wasRow_get rs k hk2
            have hjk : j = k → rs[k].1 = (s1, sd, sL) := fun e => by subst e; exact unhide Hjs
            have hfn := unhide Hfn
            obtain ⟨x0, x1, x2, xq⟩ : _ ∧ _ ∧ _ ∧ _ := ⟨hfn.n0, hfn.n1, hfn.n2, hfn.q⟩
            simp only at x0 x1 x2 xq
            generalize rs[k] = rk at *
            obtain ⟨⟨b1, d1, L1⟩, g1⟩ := rk
            have d0 : wr.cell? ⟨gw, k * 3, none⟩ = some (.int .i64 (b1 : Int)) := by
              have := World.ownsRow.cells hrow (g := gw) rfl (k * 3 + 0) _ (hget 0 (by decide))
              rw [Addr.add_lit] at this
              simpa using this
            have d1' : wr.cell? ⟨gw, k * 3 + 1, none⟩ = some (.string (bs d1)) := by
              have := World.ownsRow.cells hrow (g := gw) rfl (k * 3 + 1) _ (hget 1 (by decide))
              rw [Addr.add_lit] at this
              simpa using this
            have d2 : wr.cell? ⟨gw, k * 3 + 2, none⟩ = some (.slice (some ⟨g1, 0, none⟩) L1.length L1.length) := by
              have := World.ownsRow.cells hrow (g := gw) rfl (k * 3 + 2) (.slice (some ⟨g1, 0, none⟩) L1.length L1.length) (hget 2 (by decide))
              rw [Addr.add_lit] at this
              simpa using this
            have HA : Hid (Bss wr (.slice (some ⟨g1, 0, none⟩) L1.length L1.length) L1) := hq.bss
            have HC := hide xq
            have HJK := hide hjk
            have hlg := World.block_lt_of_cell? wr _ d0
            have hln := World.block_lt_of_cell? wr _ x0
            clear hrow hq hget hfn xq hjk
            cases fb
            · have HF : Hid (¬ j < k) := fun h => by have := hfb h; simp at this
              clear hfb
              go_wp2_with fail
              go_region_held (fun w' => w'.cell? ⟨gw, k * 3, none⟩ = some (.int .i64 (b1 : Int)) ∧ w'.cell? ⟨gw, k * 3 + 1, none⟩ = some (.string (bs d1)) ∧ w'.cell? ⟨gw, k * 3 + 2, none⟩ = some (.slice (some ⟨g1, 0, none⟩) L1.length L1.length) ∧ w'.cell? ⟨N3, 0, none⟩ = some (.int .i64 (s1 : Int)) ∧ w'.cell? ⟨N3, 1, none⟩ = some (.string (bs sd)) ∧ w'.cell? ⟨N3, 2, none⟩ = some (.slice (some ⟨g3, 0, none⟩) sL.length sL.length)) (first | (refine ⟨?_, ?_, ?_, ?_, ?_, ?_⟩ <;> assumption) | go_keep) (first | (go_at_call 34; (refine (was_any b1 s1 d1 sd L1 sL _ _ _ ((unhide HA).below (Below.refl _ _).drew (Nat.le_refl _)) ((unhide HC).below (Below.refl _ _).drew (Nat.le_refl _))).mono ?_); rintro e V ⟨r, rfl, hr, hb⟩; have hbV := (Below.refl wr.heap.size wr).drew.trans hb; have z0 := (hbV.cell (p := ⟨gw, k * 3, none⟩) hlg).trans d0; have z1 := (hbV.cell (p := ⟨gw, k * 3 + 1, none⟩) hlg).trans d1'; have z2 := (hbV.cell (p := ⟨gw, k * 3 + 2, none⟩) hlg).trans d2; have z3 := (hbV.cell (p := ⟨N3, 0, none⟩) hln).trans x0; have z4 := (hbV.cell (p := ⟨N3, 1, none⟩) hln).trans x1; have z5 := (hbV.cell (p := ⟨N3, 2, none⟩) hln).trans x2; have HV := hide hbV; have HR := hide hr; clear hb hr hbV))
              have HE := hide ((unhide Hfn).later (unhide HV))
              have hrn : j < k + 1 → r = true := fun h => by
                have e : j = k := by have := unhide HF; omega
                have e2 := unhide HJK e
                injection e2 with e3 e4
                injection e4 with e5 e6
                exact unhide HR e3 e5 e6
              have HRN := hide hrn
              clear z0 z1 z2 z3 z4 z5 d0 d1' d2 x0 x1 x2 HR HF HJK Hfn HV HA HC hlg hln hrn
              go_wp2
              go_roundw
              case rel => exact ⟨k + 1, r, by go_num, rfl, by omega, unhide HRN, HE⟩
              case measure => simp [intOf]; omega
            · clear d0 d1' d2 x0 x1 x2 HA HC HJK hlg hln
              go_wp2_with fail
              go_quiet (fail)
              have HE := hide ((unhide Hfn).later (belowN (Below.refl _ _) nq))
              go_wp2
              go_roundw
              case rel => exact ⟨k + 1, true, by go_num, rfl, by omega, fun _ => rfl, HE⟩
              case measure => simp [intOf]; omega
          · have hI : decide ((k : Int) < (rs.length : Int)) = false := by simp; omega
            obtain rfl : fb = true := hfb (by omega)
            clear hfb
            have h3 := (unhide Hfn).jp
            have H3 := hide h3
            clear h3
            go_wp2_with fail
            refine (hard_any B3 D3 t3 v3 o3 (s1, sd, sL) rv3 wr (unhide H3)).mono ?_
            rintro e w13 ⟨rfl, hb13⟩
            have hbN := below_new w13 (.cells #[.int .i64 (t3 : Int), .int .i64 (v3 : Int), .int .i64 (o3 : Int)] 43)
            have ho14 := ((unhide Hfn).ou.later hb13).later hbN
            have hbW := ho14.side.below
            obtain ⟨rv1, hj1⟩ := ho14.side.jp
            obtain ⟨g0, g1, g2, gf⟩ := ho14.hd
            have y0 := (hbW.cell (p := ⟨OF, 0, none⟩) (World.block_lt_of_cell? w0 _ A0)).trans A0
            have y1 := (hbW.cell (p := ⟨OF, 1, none⟩) (World.block_lt_of_cell? w0 _ A1)).trans A1
            have m0 : (w13.alloc (.cells #[.int .i64 (t3 : Int), .int .i64 (v3 : Int), .int .i64 (o3 : Int)] 43)).cell? ⟨w13.heap.size, 0, none⟩ = some (.int .i64 t3) := by simp
            have m1 : (w13.alloc (.cells #[.int .i64 (t3 : Int), .int .i64 (v3 : Int), .int .i64 (o3 : Int)] 43)).cell? ⟨w13.heap.size, 1, none⟩ = some (.int .i64 v3) := by simp
            have m2 : (w13.alloc (.cells #[.int .i64 (t3 : Int), .int .i64 (v3 : Int), .int .i64 (o3 : Int)] 43)).cell? ⟨w13.heap.size, 2, none⟩ = some (.int .i64 o3) := by simp
            have Ho14 := hide ho14
            have Hj1 := hide hj1
            have HBW := hide hbW
            clear ho14 hj1 hbW hbN hb13 Hfn H3
            go_wp2_with fail
            generalize (w13.alloc (.cells #[.int .i64 (t3 : Int), .int .i64 (v3 : Int), .int .i64 (o3 : Int)] 43)) = w14 at *
            generalize w13.heap.size = N at *
            have lH := World.block_lt_of_cell? w14 _ g0
            have lN := World.block_lt_of_cell? w14 _ m0
            have lO := World.block_lt_of_cell? w14 _ y1
            have HBz : Hid (OF ≤ w0.heap.size) := by show _ ≤ _; rw [← unhide HOF]; exact (unhide HB0).size
            rcases unhide Hcase with ⟨rfl, rfl, rfl, rfl⟩ | ⟨rfl, rfl, rfl, rfl⟩
            · clear Hcase Hou Hjs Hrs
              by_cases q0 : t3 = a
              · subst q0
                by_cases q1 : v3 = b'
                · subst q1
                  by_cases q2 : o3 = c'
                  · subst q2
                    have e1 := hide (fun i : Later w14 => hard_any B D t3 v3 o3 st rv1 i.val ((unhide Hj1).later i.below))
                    have M0 := fun i : Later w14 => i.cell m0
                    have M1 := fun i : Later w14 => i.cell m1
                    have M2 := fun i : Later w14 => i.cell m2
                    have G0 := fun i : Later w14 => i.cell g0
                    have G1 := fun i : Later w14 => i.cell g1
                    have G2 := fun i : Later w14 => i.cell g2
                    have Y1 := fun i : Later w14 => i.cell y1
                    have inst : Nonempty (Later w14) := ⟨⟨w14, Below.refl _ _⟩⟩
                    clear m0 m1 m2 g0 g1 g2 y1 y0 gf Hj1
                    refine wp_region_later (by kernel_rfl) (by kernel_rfl) ?_
                    repeat (first
                      | go_big_quiet_step ((go_at_call 33; with_reducible exact calls_later (unhide e1 _)))
                      | quiet_step (fail))
                    refine wpQuiet_nil ?_
                    intro w' hw'
                    obtain ⟨i', rfl⟩ := hw'
                    have HZ := hide ((unhide HB0).trans (((unhide HBW).trans (i'.below.mono (unhide HBW).size)).mono (unhide HBz)))
                    go_wp2
                    go_ret
                    exact ⟨rfl, by rw [unhide HOF]; exact unhide HZ⟩
                  · have r2 : ¬ (o3 : Int) = (c' : Int) := by omega
                    have r2' : ((o3 : Int) == (c' : Int)) = false := by rw [beq_eq_false_iff_ne]; exact r2
                    have e1 := hide (fun i : Later w14 => hard_any B D t3 v3 o3 st rv1 i.val ((unhide Hj1).later i.below))
                    have M0 := fun i : Later w14 => i.cell m0
                    have M1 := fun i : Later w14 => i.cell m1
                    have M2 := fun i : Later w14 => i.cell m2
                    have G0 := fun i : Later w14 => i.cell g0
                    have G1 := fun i : Later w14 => i.cell g1
                    have G2 := fun i : Later w14 => i.cell g2
                    have Y1 := fun i : Later w14 => i.cell y1
                    have inst : Nonempty (Later w14) := ⟨⟨w14, Below.refl _ _⟩⟩
                    clear m0 m1 m2 g0 g1 g2 y1 y0 gf Hj1
                    refine wp_region_later (by kernel_rfl) (by kernel_rfl) ?_
                    repeat (first
                      | go_big_quiet_step ((go_at_call 33; with_reducible exact calls_later (unhide e1 _)))
                      | quiet_step (fail))
                    refine wpQuiet_nil ?_
                    intro w' hw'
                    obtain ⟨i', rfl⟩ := hw'
                    have HZ := hide ((unhide HB0).trans (((unhide HBW).trans (i'.below.mono (unhide HBW).size)).mono (unhide HBz)))
                    go_wp2
                    go_ret
                    exact ⟨rfl, by rw [unhide HOF]; exact unhide HZ⟩
                · have r2 : ¬ (v3 : Int) = (b' : Int) := by omega
                  have r2' : ((v3 : Int) == (b' : Int)) = false := by rw [beq_eq_false_iff_ne]; exact r2
                  have e1 := hide (fun i : Later w14 => hard_any B D t3 v3 o3 st rv1 i.val ((unhide Hj1).later i.below))
                  have M0 := fun i : Later w14 => i.cell m0
                  have M1 := fun i : Later w14 => i.cell m1
                  have M2 := fun i : Later w14 => i.cell m2
                  have G0 := fun i : Later w14 => i.cell g0
                  have G1 := fun i : Later w14 => i.cell g1
                  have G2 := fun i : Later w14 => i.cell g2
                  have Y1 := fun i : Later w14 => i.cell y1
                  have inst : Nonempty (Later w14) := ⟨⟨w14, Below.refl _ _⟩⟩
                  clear m0 m1 m2 g0 g1 g2 y1 y0 gf Hj1
                  refine wp_region_later (by kernel_rfl) (by kernel_rfl) ?_
                  repeat (first
                    | go_big_quiet_step ((go_at_call 33; with_reducible exact calls_later (unhide e1 _)))
                    | quiet_step (fail))
                  refine wpQuiet_nil ?_
                  intro w' hw'
                  obtain ⟨i', rfl⟩ := hw'
                  have HZ := hide ((unhide HB0).trans (((unhide HBW).trans (i'.below.mono (unhide HBW).size)).mono (unhide HBz)))
                  go_wp2
                  go_ret
                  exact ⟨rfl, by rw [unhide HOF]; exact unhide HZ⟩
              · have r2 : ¬ (t3 : Int) = (a : Int) := by omega
                have r2' : ((t3 : Int) == (a : Int)) = false := by rw [beq_eq_false_iff_ne]; exact r2
                have e1 := hide (fun i : Later w14 => hard_any B D t3 v3 o3 st rv1 i.val ((unhide Hj1).later i.below))
                have M0 := fun i : Later w14 => i.cell m0
                have M1 := fun i : Later w14 => i.cell m1
                have M2 := fun i : Later w14 => i.cell m2
                have G0 := fun i : Later w14 => i.cell g0
                have G1 := fun i : Later w14 => i.cell g1
                have G2 := fun i : Later w14 => i.cell g2
                have Y1 := fun i : Later w14 => i.cell y1
                have inst : Nonempty (Later w14) := ⟨⟨w14, Below.refl _ _⟩⟩
                clear m0 m1 m2 g0 g1 g2 y1 y0 gf Hj1
                refine wp_region_later (by kernel_rfl) (by kernel_rfl) ?_
                repeat (first
                  | go_big_quiet_step ((go_at_call 33; with_reducible exact calls_later (unhide e1 _)))
                  | quiet_step (fail))
                refine wpQuiet_nil ?_
                intro w' hw'
                obtain ⟨i', rfl⟩ := hw'
                have HZ := hide ((unhide HB0).trans (((unhide HBW).trans (i'.below.mono (unhide HBW).size)).mono (unhide HBz)))
                go_wp2
                go_ret
                exact ⟨rfl, by rw [unhide HOF]; exact unhide HZ⟩
            · clear Hcase Hou Hjs Hrs Hj1
              go_quiet (fail)
              have HZ := (unhide HB0).trans ((belowN (unhide HBW) nq).mono (unhide HBz))
              have HZ := hide HZ
              go_wp2
              go_ret
              exact ⟨rfl, by rw [unhide HOF]; exact unhide HZ⟩

end Go.Proofs.Yteanjnkfoddfmaa
