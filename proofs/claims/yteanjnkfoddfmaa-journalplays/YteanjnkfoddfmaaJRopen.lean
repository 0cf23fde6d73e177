/-
  The document's journal: Open. No law is proved here.
-/
import Derived.Test.YteanjnkfoddfmaaJRd
namespace Go.Proofs.Yteanjnkfoddfmaa
open Go.RowKit
set_option linter.unusedVariables false

/-- The loop of the document's Open, behind i changes. -/
def Rol (w : World) (J M t v o : Nat) (rs : List (List UInt8)) (i : Nat) (st : St) (P : Nat → Prop) (w4 wr : World) : Prop :=
  Rj P wr J M t v o st ∧ (∀ k, P k → w.heap.size ≤ k) ∧ Fr (fun k => k = J) w4 wr ∧ st.1 ≤ 1099511627776 ∧ st.2.2.length ≤ i ∧ plays rs (0, [], []) = ((plays (rs.drop i) st).1, total (rs.take i) + (plays (rs.drop i) st).2)

theorem total_take_le : ∀ (rs : List (List UInt8)) (i : Nat), total (rs.take i) ≤ total rs
  | [], i => by simp [total]
  | x :: rs, 0 => by simp [total]
  | x :: rs, i + 1 => by
    have := total_take_le rs i
    rw [List.take_succ_cons, total_cons, total_cons]
    omega
theorem total_mem : ∀ (rs : List (List UInt8)) (i : Nat) (h : i < rs.length), 8 + rs[i].length ≤ total rs
  | x :: rs, 0, _ => by rw [total_cons]; simp
  | x :: rs, i + 1, h => by
    have := total_mem rs i (by simpa using h)
    rw [total_cons]
    simp only [List.getElem_cons_succ]
    omega

/-- What Open answers. -/
def Rod (S : Nat → Prop) (M : Nat) (nf nc sf sc : List UInt8) (t v o : Nat) (st : St) (n : Nat) (w : World) (e : Ending) (w' : World) : Prop :=
  ∃ J sf' sc', e = .returned (.tuple #[.pointer (some ⟨J, 0, none⟩), .int .i64 0]) ∧ w.heap.size ≤ J ∧ Rjd S w' J M (nf.take n) nc sf' sc' t v o st ∧ Fr S w w' ∧
    ((n = nf.length ∧ sf' = sf ∧ sc' = sc ∧ Below w.heap.size w w') ∨ (n < nf.length ∧ sf' = nf.take n ∧ sc' = nc))

section
variable {S T P : Nat → Prop} {w w5 w7 : World} {J M : Nat} {nf nc sf sc : List UInt8} {t v o : Nat} {st : St} {n : Nat}

theorem rd_whole (hTS : ∀ k, k < w.heap.size → T k → S k) (hS : ∀ k, w.heap.size ≤ k → S k) (hj : Rj P w5 J M t v o st) (hP : ∀ k, P k → w.heap.size ≤ k) (hJ : w.heap.size ≤ J) (hb : Below w.heap.size w w5) (hr : Rk (fun k => T k ∧ k < w.heap.size) w5 M nf nc sf sc) (hn : n = nf.length) :
    Rod S M nf nc sf sc t v o st n w (.returned (.tuple #[.pointer (some ⟨J, 0, none⟩), .int .i64 0])) w5 := by
  refine ⟨J, sf, sc, rfl, hJ, ⟨fun k => T k ∧ k < w.heap.size, P, hj, by rw [hn, List.take_length]; exact hr, fun k hk ht => ⟨hTS k ht.2 ht.1, by have := ht.2; omega, fun hp => by have := hP k hp; have := ht.2; omega⟩, hS J hJ, fun k hk => hS k (hP k hk)⟩, Fr.of hb, .inl ⟨hn, rfl, rfl, hb⟩⟩

theorem rd_after (hTS : ∀ k, k < w.heap.size → T k → S k) (hS : ∀ k, w.heap.size ≤ k → S k) (hj : Rj P w5 J M t v o st) (hP : ∀ k, P k → w.heap.size ≤ k) (hJ : w.heap.size ≤ J) (hb : Below w.heap.size w w5)
    (hr : Rk (fun k => (T k ∧ k < w.heap.size) ∨ w5.heap.size ≤ k) w7 M (nf.take n) nc (nf.take n) nc) (hf : Fr (fun k => (T k ∧ k < w.heap.size) ∨ w5.heap.size ≤ k) w5 w7) (hn : n < nf.length) :
    Rod S M nf nc sf sc t v o st n w (.returned (.tuple #[.pointer (some ⟨J, 0, none⟩), .int .i64 0])) w7 := by
  have hz := hb.size
  have hS' : ∀ k, ((T k ∧ k < w.heap.size) ∨ w5.heap.size ≤ k) → S k := fun k hk => hk.elim (fun h => hTS k h.2 h.1) (fun h => hS k (by omega))
  have hJ5 := hj.lt
  have hj7 : Rj P w7 J M t v o st := hj.frame hf.size (fun k hk hx => hf.block k hk (fun ht => by
    have h1 : w.heap.size ≤ k := hx.elim (fun h => hP k h) (fun h => by omega)
    rcases ht with h | h
    · have := h.2; omega
    · omega))
  refine ⟨J, nf.take n, nc, rfl, hJ, ⟨_, P, hj7, hr, fun k hk ht => ⟨hS' k ht, ?_, fun hp => ?_⟩, hS J hJ, fun k hk => hS k (hP k hk)⟩, (Fr.of hb).trans (hf.mono fun k _ ht => hS' k ht), .inr ⟨hn, rfl, rfl⟩⟩
  · rcases ht with h | h
    · have := h.2; omega
    · omega
  · have h1 := hP k hp
    have h2 := hj.pl k hp
    rcases ht with h | h
    · have := h.2; omega
    · omega
end

set_option maxRecDepth 100000 in
set_option maxHeartbeats 4000000 in
theorem refopen_none {S T : Nat → Prop} (M : Nat) (nf sf sc : List UInt8) (st : St) (n : Nat) (w : World) (h : Rk T w M nf [] sf sc) (hTS : ∀ k, k < w.heap.size → T k → S k) (hS : ∀ k, w.heap.size ≤ k → S k) (hop : Opens nf st n) :
    Calls Try.prog 11 #[.pointer (some ⟨M, 0, none⟩)] w fun e w' => (∃ t v o, hdOf [] = some (t, v, o) ∧ Rod S M nf [] sf sc t v o st n w e w') ∨ (hdOf [] = none ∧ e = .returned (.tuple #[.pointer none, .int .i64 71]) ∧ Below w.heap.size w w') := by
  have Hd' : Hid (hdOf [] = some (0, 0, 0)) := hdOf_nil
  obtain ⟨rs, hsc, hpl⟩ := id hop
  have hnle := hop.le
  have htl := hsc.total_le
  have hcnt0 := hsc.count_le
  obtain ⟨v1, v3, d1, d3, s1, s3, hf24, hc24, hM⟩ := h.now
  have H := hide h
  have Hsc := hide hsc
  have Hpl := hide hpl
  have HTL := hide (Nat.le_trans htl hf24)
  have hcnt : rs.length ≤ 16777216 := by omega
  clear hcnt0
  have hb0 := below_new w (.cells #[.pointer (some ⟨M, 0, none⟩), .int .i64 0, .slice none 0 0, .slice none 0 0, .int .i64 0, .int .i64 0, .int .i64 0] 81)
  have D1 := (hb0.cell (p := ⟨M, 1, none⟩) hM).trans d1
  have D3 := (hb0.cell (p := ⟨M, 3, none⟩) hM).trans d3
  obtain ⟨co, cc, rfl, _⟩ := id s3
  obtain ⟨no, ncp, rfl, _⟩ := id s1
  have HRW : Hid (Rj (fun _ => False) (w.alloc (.cells #[.pointer (some ⟨M, 0, none⟩), .int .i64 0, .slice none 0 0, .slice none 0 0, .int .i64 0, .int .i64 0, .int .i64 0] 81)) w.heap.size M 0 0 0 (0, [], [])) :=
    ⟨by simp, by simp, ⟨.slice none 0 0, by simp, Sl.nil _, fun g hg => by cases hg⟩, ⟨.slice none 0 0, by simp, none, 0, rfl, Nat.le_refl _, Nat.zero_le _, fun _ => ⟨rfl, rfl⟩, fun a ha => by cases ha⟩, by simp, by simp, by simp, fun j => by simp, fun h => h, fun k hk => hk.elim⟩
  have HBW := hide hb0
  have HNB : Hid (NB (w.alloc (.cells #[.pointer (some ⟨M, 0, none⟩), .int .i64 0, .slice none 0 0, .slice none 0 0, .int .i64 0, .int .i64 0, .int .i64 0] 81)) w.heap.size) := by
    intro j y hy k
    rw [World.cell?_alloc_new] at hy
    match j, hy with
    | 0, hy => simp at hy; subst hy; simp
    | 1, hy => simp at hy; subst hy; simp
    | 2, hy => simp at hy; subst hy; simp
    | 3, hy => simp at hy; subst hy; simp
    | 4, hy => simp at hy; subst hy; simp
    | 5, hy => simp at hy; subst hy; simp
    | 6, hy => simp at hy; subst hy; simp
    | j + 7, hy => simp at hy
  have HS0 := hide s1
  clear h hsc hpl hop s1 s3 d1 d3 hb0 htl
  go_enter Try.func11, Try.ntmps11
  go_wp2_with fail
  have HS1 := hide ((unhide HS0).later (unhide HBW))
  have HR1 := hide (((unhide H).mono (U := fun k => T k ∧ k < w.heap.size) (fun k hk ht => ⟨ht, hk⟩)).later (unhide HBW))
  obtain ⟨J, hJe⟩ : ∃ J, w.heap.size = J := ⟨_, rfl⟩
  rw [hJe] at HRW HNB ⊢
  have HJ0 : Hid (w.heap.size ≤ J) := by show _ ≤ _; omega
  clear hJe D1 D3
  generalize (w.alloc (.cells #[.pointer (some ⟨M, 0, none⟩), .int .i64 0, .slice none 0 0, .slice none 0 0, .int .i64 0, .int .i64 0, .int .i64 0] 81)) = W at *
  go_wp2_with fail
  refine (refscan_any _ nf rs W (unhide HS1) (by omega) (unhide Hsc)).mono ?_
  rintro e w4 ⟨rv, rfl, hheld, hb4⟩
  have hrj4 := (unhide HRW).later hb4
  have hnb4 := (unhide HNB).later (unhide HRW).lt hb4
  have hbw4 := (unhide HBW).trans (hb4.mono (unhide HBW).size)
  obtain ⟨vs, hrow, hels⟩ := hheld
  have hrlt := World.ownsRow.lt hrow
  have hJ0 : w.heap.size ≤ J := unhide HJ0
  have hJr : ∀ g, rv.ownBlock = some g → g ≠ J := fun g hg e => by have := (hrlt g hg).1; have := (unhide HRW).lt; omega
  have hvl : vs.length = rs.length := by have := hrow.1; simpa using this
  have HEL : Hid (∀ (i : Nat) (u : Value) (x : List UInt8), vs[i]? = some u → rs[i]? = some x → Sl w4 u x) := fun i u x hu hx => (hels i u x hu hx).later hb4
  have HROW := hide hrow
  have HRJ4 := hide hrj4
  have HNB4 := hide hnb4
  have HB4 := hide hbw4
  obtain ⟨ro, rc, rfl, hrc1, hrc2⟩ : ∃ ro rc, rv = .slice ro rs.length rc ∧ rs.length ≤ rc ∧ rc ≤ maxLen := by
    rcases hrow.2 with ⟨rfl, h0⟩ | ⟨g, cap, cur, rfl, _, _, q1, q2, _⟩
    · exact ⟨none, 0, by rw [h0], by omega, Nat.zero_le _⟩
    · exact ⟨_, cap, rfl, q1, q2⟩
  unfold maxLen at hrc2
  clear hrow hels hrj4 hnb4 hbw4 hb4 hrlt HBW HRW HNB HJ0
  go_wp2
  go_loopw [10, 11] (fun nv iv wr => ∃ (i : Nat) (st' : St) (P' : Nat → Prop), iv = .int .i64 i ∧ nv = .int .i64 (total (rs.take i)) ∧ i ≤ rs.length ∧ Hid (Rol w J M 0 0 0 rs i st' P' w4 wr)) (fun _ iv _ => rs.length - (intOf iv).toNat)
  case atStart => exact ⟨0, (0, [], []), fun _ => False, rfl, by simp [total], Nat.zero_le _, ⟨unhide HRJ4, fun k hk => hk.elim, Fr.refl _ _, by simp, by simp, by simp [total]⟩⟩
  case round =>
    obtain ⟨i, st', P', rfl, rfl, hi, hR⟩ := hrel
    have htot : total (rs.take i) ≤ 16777216 := by have := total_take_le rs i; have := unhide HTL; omega
    obtain ⟨hrj, hP', hfr, hbs, hls, hpl⟩ := unhide hR
    have hbr : Below w.heap.size w wr := (unhide HB4).trans (hfr.below (fun k hk => by subst hk; exact hJ0) (unhide HB4).size)
    by_cases hil : i < rs.length
    · have hI : decide ((i : Int) < (rs.length : Int)) = true := by simpa using hil
      have hel := (unhide HEL) i vs[i] rs[i] (List.getElem?_eq_getElem (by omega)) (List.getElem?_eq_getElem hil)
      have hslk := hel.jframe (unhide HNB4) hfr
      obtain ⟨g, rfl⟩ : ∃ g, ro = some ⟨g, 0, none⟩ := by
        rcases (unhide HROW).2 with ⟨e, h0⟩ | ⟨g, cap, cur, e, _⟩
        · omega
        · injection e with e1; exact ⟨g, e1⟩
      have hcell := World.ownsRow.cells (row_kept (unhide HROW) hfr.size (fun q hq => hfr.block q (World.ownsRow.lt (unhide HROW) q hq).2 (hJr q hq))) (g := g) rfl i vs[i] (List.getElem?_eq_getElem (by omega))
      rw [Addr.add_lit, Nat.zero_add] at hcell
      generalize vs[i] = u at *
      obtain ⟨uo, uc, rfl, hu1, hu2, _⟩ := id hslk
      have hxl : rs[i].length ≤ 16777216 := by have := total_mem rs i hil; have := unhide HTL; omega
      have hdrop : rs.drop i = rs[i] :: rs.drop (i + 1) := List.drop_eq_getElem_cons hil
      have htk : total (rs.take (i + 1)) = total (rs.take i) + (8 + rs[i].length) := by rw [List.take_succ_eq_append_getElem hil, total_snoc]
      have htot2 : total (rs.take (i + 1)) ≤ 16777216 := by have := total_take_le rs (i + 1); have := unhide HTL; omega
      rw [hdrop] at hpl
      have HPL := hide hpl
      have HTK := hide htk
      have HRJ := hide hrj
      have HBR := hide hbr
      have HFR := hide hfr
      have HSL := hide hslk
      rw [htk] at htot2
      clear hpl htk hrj hbr hfr hslk hel hdrop hR
      generalize rs[i] = x at *
      unfold maxLen at hu2
      go_wp2_with fail
      refine (change_any J M 0 0 0 st' _ x wr (unhide HRJ) (unhide HSL) (by omega) (by omega) hbs).mono ?_
      rintro e w5 (⟨st2, P2, ho, rfl, hrj2, hP2, hf2⟩ | ⟨ho, rfl, hb5⟩)
      · have hsm := one_small ho hbs
        have hcell5 : w5.cell? ⟨g, i, none⟩ = some (.slice uo x.length uc) := by
          have hg := hJr g rfl
          have hlt := World.block_lt_of_cell? wr _ hcell
          rw [World.cell?_of_block (w := wr) (hf2.block g hlt hg)]
          exact hcell
        have hN : Hid (Rol w J M 0 0 0 rs (i + 1) st2 P2 w4 w5) := by
          refine ⟨hrj2, fun k hk => ?_, (unhide HFR).trans hf2, hsm.1, by omega, ?_⟩
          · rcases hP2 k hk with e | e
            · exact hP' k e
            · have := (unhide HBR).size; omega
          · have hp := unhide HPL
            rw [plays_some ho] at hp
            rw [hp, unhide HTK]
            simp only [Prod.mk.injEq, true_and]
            omega
        clear hrj2 hP2 hf2 ho hsm HPL HRJ HBR HFR HSL
        go_wp2
        go_roundw
        case rel => exact ⟨i + 1, st2, P2, by go_num, by rw [unhide HTK]; go_num, by omega, hN⟩
        case measure => simp [intOf]; omega
      · have hp := unhide HPL
        rw [plays_none ho] at hp
        have hpe : plays rs (0, [], []) = (st', total (rs.take i)) := by simpa using hp
        obtain ⟨hst, hgn⟩ : st' = st ∧ total (rs.take i) = n := by
          have := (unhide Hpl).symm.trans hpe
          simp only [Prod.mk.injEq] at this
          exact ⟨this.1.symm, this.2.symm⟩
        subst hst
        rw [hgn] at htot
        rw [hgn]
        have hrj5 := (unhide HRJ).later hb5
        have hbr5 := (unhide HBR).trans (hb5.mono (unhide HBR).size)
        clear ho hp hpe hb5 HPL HTK HRJ HBR HFR HSL hcell hgn htot2
        have Hj5 := hide hrj5
        have HP5 : Hid (∀ k, P' k → w.heap.size ≤ k) := hP'
        have HB5 := hide hbr5
        by_cases hlt : n < nf.length
        · have hI : decide ((n : Int) < (nf.length : Int)) = true := by simpa using hlt
          have hr5 : Rk (fun k => (T k ∧ k < w.heap.size) ∨ (w5).heap.size ≤ k) (w5) M nf ([]) sf sc := (((unhide H).mono (U := fun k => T k ∧ k < w.heap.size) (fun k hk ht => ⟨ht, hk⟩)).later (unhide HB5)).mono (fun k _ ht => .inl ht)
          obtain ⟨v1, v3, d1, d3, s1, _⟩ := hr5.now
          obtain ⟨no, ncp, rfl, _⟩ := id s1
          have Hr5 := hide hr5
          clear hr5 s1
          go_wp2_with fail
          refine (refcut_ok M nf ([]) sf sc n (w5) (unhide Hr5) (fun k hk => .inr hk) (by omega)).mono ?_
          rintro e w6 ⟨rfl, hr6, hf6⟩
          have Hr6 := hide hr6
          have Hf6 := hide hf6
          clear hr6 hf6
          go_wp2_with fail
          refine (refsync_ok M (nf.take n) ([]) sf sc w6 (unhide Hr6)).mono ?_
          rintro e w7 ⟨rfl, hr7, hf7⟩
          have Hr7 := hide hr7
          have Hf7 := hide ((unhide Hf6).trans hf7)
          clear hr7 hf7
          go_wp2
          go_ret2
          exact .inl ⟨_, _, _, unhide Hd', rd_after hTS hS (unhide Hj5) (unhide HP5) hJ0 (unhide HB5) (unhide Hr7) (unhide Hf7) hlt⟩
        · have hI : decide ((n : Int) < (nf.length : Int)) = false := by simpa using hlt
          have hr5 := ((unhide H).mono (U := fun k => T k ∧ k < w.heap.size) (fun k hk ht => ⟨ht, hk⟩)).later (unhide HB5)
          obtain ⟨v1, v3, d1, d3, s1, _⟩ := hr5.now
          obtain ⟨no, ncp, rfl, _⟩ := id s1
          have Hr5 := hide hr5
          clear hr5 s1
          go_wp2
          go_ret2
          exact .inl ⟨_, _, _, unhide Hd', rd_whole hTS hS (unhide Hj5) (unhide HP5) hJ0 (unhide HB5) (unhide Hr5) (by omega)⟩
    · have hI : decide ((i : Int) < (rs.length : Int)) = false := by simpa using hil
      have hie : i = rs.length := by omega
      have hpe : plays rs (0, [], []) = (st', total (rs.take i)) := by
        rw [hpl, hie, List.drop_length]
        simp [plays]
      obtain ⟨hst, hgn⟩ : st' = st ∧ total (rs.take i) = n := by
        have := (unhide Hpl).symm.trans hpe
        simp only [Prod.mk.injEq] at this
        exact ⟨this.1.symm, this.2.symm⟩
      subst hst
      rw [hgn] at htot
      rw [hgn]
      clear hpe hgn hpl hfr hR
      have Hj5 := hide hrj
      have HP5 : Hid (∀ k, P' k → w.heap.size ≤ k) := hP'
      have HB5 := hide hbr
      by_cases hlt : n < nf.length
      · have hI : decide ((n : Int) < (nf.length : Int)) = true := by simpa using hlt
        have hr5 : Rk (fun k => (T k ∧ k < w.heap.size) ∨ (wr).heap.size ≤ k) (wr) M nf ([]) sf sc := (((unhide H).mono (U := fun k => T k ∧ k < w.heap.size) (fun k hk ht => ⟨ht, hk⟩)).later (unhide HB5)).mono (fun k _ ht => .inl ht)
        obtain ⟨v1, v3, d1, d3, s1, _⟩ := hr5.now
        obtain ⟨no, ncp, rfl, _⟩ := id s1
        have Hr5 := hide hr5
        clear hr5 s1
        go_wp2_with fail
        refine (refcut_ok M nf ([]) sf sc n (wr) (unhide Hr5) (fun k hk => .inr hk) (by omega)).mono ?_
        rintro e w6 ⟨rfl, hr6, hf6⟩
        have Hr6 := hide hr6
        have Hf6 := hide hf6
        clear hr6 hf6
        go_wp2_with fail
        refine (refsync_ok M (nf.take n) ([]) sf sc w6 (unhide Hr6)).mono ?_
        rintro e w7 ⟨rfl, hr7, hf7⟩
        have Hr7 := hide hr7
        have Hf7 := hide ((unhide Hf6).trans hf7)
        clear hr7 hf7
        go_wp2
        go_ret2
        exact .inl ⟨_, _, _, unhide Hd', rd_after hTS hS (unhide Hj5) (unhide HP5) hJ0 (unhide HB5) (unhide Hr7) (unhide Hf7) hlt⟩
      · have hI : decide ((n : Int) < (nf.length : Int)) = false := by simpa using hlt
        have hr5 := ((unhide H).mono (U := fun k => T k ∧ k < w.heap.size) (fun k hk ht => ⟨ht, hk⟩)).later (unhide HB5)
        obtain ⟨v1, v3, d1, d3, s1, _⟩ := hr5.now
        obtain ⟨no, ncp, rfl, _⟩ := id s1
        have Hr5 := hide hr5
        clear hr5 s1
        go_wp2
        go_ret2
        exact .inl ⟨_, _, _, unhide Hd', rd_whole hTS hS (unhide Hj5) (unhide HP5) hJ0 (unhide HB5) (unhide Hr5) (by omega)⟩

theorem Fr.touch {S : Nat → Prop} {W w1 w2 : World} {R : Nat} (h : Fr S W w1) (ht : Touch R w1 w2) (hR : W.heap.size ≤ R) : Fr S W w2 :=
  ⟨ht.os.trans h.os, ht.tape.trans h.tape, ht.output.trans h.output, by rw [ht.size]; exact h.size, fun k hk hn => (ht.block k (by omega)).trans (h.block k hk hn)⟩
theorem NB.frame {w w' : World} {J : Nat} (h : NB w J) (hk : w'.heap[J]? = w.heap[J]?) : NB w' J := fun j y hy => h j y ((World.cell?_of_block (w := w) (a := ⟨J, j, none⟩) hk).symm.trans hy)

section
variable {P : Nat → Prop} {w : World} {J M t v o : Nat} {st : St}
theorem Rj.setT (h : Rj P w J M t v o st) (t' : Nat) : Rj P (w.setCell ⟨J, 4, none⟩ (.int .i64 t')) J M t' v o st := by
  obtain ⟨dv, d1, d2, d3⟩ := h.c2
  obtain ⟨lv, l1, l2⟩ := h.c3
  have hP := setP h 4 (.int .i64 t')
  exact ⟨jcell w J 4 0 _ _ (by decide) h.c0, jcell w J 4 1 _ _ (by decide) h.c1, ⟨dv, jcell w J 4 2 _ _ (by decide) d1, d2.frame fun g hg _ => hP g (d3 g hg), d3⟩, ⟨lv, jcell w J 4 3 _ _ (by decide) l1, l2.frame hP⟩,
    World.cell?_setCell_same w _ _ h.c4, jcell w J 4 5 _ _ (by decide) h.c5, jcell w J 4 6 _ _ (by decide) h.c6, fun j => by simpa using h.fz j, h.pj, fun k hk => by simpa [World.setCell] using h.pl k hk⟩
theorem Rj.setV (h : Rj P w J M t v o st) (t' : Nat) : Rj P (w.setCell ⟨J, 5, none⟩ (.int .i64 t')) J M t t' o st := by
  obtain ⟨dv, d1, d2, d3⟩ := h.c2
  obtain ⟨lv, l1, l2⟩ := h.c3
  have hP := setP h 5 (.int .i64 t')
  exact ⟨jcell w J 5 0 _ _ (by decide) h.c0, jcell w J 5 1 _ _ (by decide) h.c1, ⟨dv, jcell w J 5 2 _ _ (by decide) d1, d2.frame fun g hg _ => hP g (d3 g hg), d3⟩, ⟨lv, jcell w J 5 3 _ _ (by decide) l1, l2.frame hP⟩,
    jcell w J 5 4 _ _ (by decide) h.c4, World.cell?_setCell_same w _ _ h.c5, jcell w J 5 6 _ _ (by decide) h.c6, fun j => by simpa using h.fz j, h.pj, fun k hk => by simpa [World.setCell] using h.pl k hk⟩
theorem Rj.setO (h : Rj P w J M t v o st) (t' : Nat) : Rj P (w.setCell ⟨J, 6, none⟩ (.int .i64 t')) J M t v t' st := by
  obtain ⟨dv, d1, d2, d3⟩ := h.c2
  obtain ⟨lv, l1, l2⟩ := h.c3
  have hP := setP h 6 (.int .i64 t')
  exact ⟨jcell w J 6 0 _ _ (by decide) h.c0, jcell w J 6 1 _ _ (by decide) h.c1, ⟨dv, jcell w J 6 2 _ _ (by decide) d1, d2.frame fun g hg _ => hP g (d3 g hg), d3⟩, ⟨lv, jcell w J 6 3 _ _ (by decide) l1, l2.frame hP⟩,
    jcell w J 6 4 _ _ (by decide) h.c4, jcell w J 6 5 _ _ (by decide) h.c5, World.cell?_setCell_same w _ _ h.c6, fun j => by simpa using h.fz j, h.pj, fun k hk => by simpa [World.setCell] using h.pl k hk⟩
end

theorem rdn_le (l : List UInt8) : (rdN l 1099511627776).1 ≤ 1099511627776 := by
  rcases rdN_one l 1099511627776 with ⟨_, _, h⟩ | ⟨_, _, h, _⟩
  · rw [h]; simp
  · omega

theorem rj_new (w : World) (M : Nat) : Rj (fun _ => False) (w.alloc (.cells #[.pointer (some ⟨M, 0, none⟩), .int .i64 0, .slice none 0 0, .slice none 0 0, .int .i64 0, .int .i64 0, .int .i64 0] 81)) w.heap.size M 0 0 0 (0, [], []) :=
  ⟨by simp, by simp, ⟨.slice none 0 0, by simp, Sl.nil _, fun g hg => by cases hg⟩, ⟨.slice none 0 0, by simp, none, 0, rfl, Nat.le_refl _, Nat.zero_le _, fun _ => ⟨rfl, rfl⟩, fun a ha => by cases ha⟩, by simp, by simp, by simp, fun j => by simp, fun h => h, fun k hk => hk.elim⟩

theorem nb_new (w : World) (M : Nat) : NB (w.alloc (.cells #[.pointer (some ⟨M, 0, none⟩), .int .i64 0, .slice none 0 0, .slice none 0 0, .int .i64 0, .int .i64 0, .int .i64 0] 81)) w.heap.size := by
  intro j y hy k
  rw [World.cell?_alloc_new] at hy
  match j, hy with
  | 0, hy => simp at hy; subst hy; simp
  | 1, hy => simp at hy; subst hy; simp
  | 2, hy => simp at hy; subst hy; simp
  | 3, hy => simp at hy; subst hy; simp
  | 4, hy => simp at hy; subst hy; simp
  | 5, hy => simp at hy; subst hy; simp
  | 6, hy => simp at hy; subst hy; simp
  | j + 7, hy => simp at hy

theorem hdOf_full {nc x : List UInt8} (h0 : nc ≠ []) (hx : whole nc = some x) : hdOf nc =
    if (rdN x 1099511627776).2.1 = 0 ∧ (rdN (rdN x 1099511627776).2.2 1099511627776).2.1 = 0 ∧ (rdN (rdN (rdN x 1099511627776).2.2 1099511627776).2.2 1099511627776).2.1 = 0 ∧ (rdN (rdN (rdN x 1099511627776).2.2 1099511627776).2.2 1099511627776).2.2 = [] then
      some ((rdN x 1099511627776).1, (rdN (rdN x 1099511627776).2.2 1099511627776).1, (rdN (rdN (rdN x 1099511627776).2.2 1099511627776).2.2 1099511627776).1) else none := by
  unfold hdOf
  rw [if_neg h0, hx]

theorem four_ok {e1 e2 e3 : Int} {x3 : List UInt8} : (!(((false || e1 != 0) || e2 != 0) || e3 != 0) && decide (x3 = [])) = decide (e1 = 0 ∧ e2 = 0 ∧ e3 = 0 ∧ x3 = []) := by
  by_cases h1 : e1 = 0 <;> by_cases h2 : e2 = 0 <;> by_cases h3 : e3 = 0 <;> by_cases h4 : x3 = [] <;> simp [h1, h2, h3, h4]

set_option maxRecDepth 100000 in
set_option maxHeartbeats 4000000 in
theorem refopen_some {S T : Nat → Prop} (M : Nat) (nf nc sf sc x : List UInt8) (w : World) (h : Rk T w M nf nc sf sc) (hTS : ∀ k, k < w.heap.size → T k → S k) (hS : ∀ k, w.heap.size ≤ k → S k) (h0 : nc ≠ []) (hx : whole nc = some x) (st : St) (n : Nat) (hop : Opens nf st n) :
    Calls Try.prog 11 #[.pointer (some ⟨M, 0, none⟩)] w fun e w' => (∃ t v o, hdOf nc = some (t, v, o) ∧ Rod S M nf nc sf sc t v o st n w e w') ∨ (hdOf nc = none ∧ e = .returned (.tuple #[.pointer none, .int .i64 71]) ∧ Below w.heap.size w w') := by
  obtain ⟨rs, hsc, hpl⟩ := id hop
  have hnle := hop.le
  have htl := hsc.total_le
  have hcnt0 := hsc.count_le
  obtain ⟨v1, v3, d1, d3, s1, s3, hf24, hc24, hM⟩ := h.now
  have hcp : 0 < nc.length := by cases nc <;> simp_all
  have hcpi : decide ((0 : Int) < (nc.length : Int)) = true := by simp; omega
  have hxl : x.length ≤ 1099511627776 := by have := whole_len hx; omega
  have hd0 := hdOf_full h0 hx
  have Hd := hide hd0
  have H := hide h
  have Hsc := hide hsc
  have Hpl := hide hpl
  have HTL := hide (Nat.le_trans htl hf24)
  have hcnt : rs.length ≤ 16777216 := by omega
  have hb0 := below_new w (.cells #[.pointer (some ⟨M, 0, none⟩), .int .i64 0, .slice none 0 0, .slice none 0 0, .int .i64 0, .int .i64 0, .int .i64 0] 81)
  have D1 := (hb0.cell (p := ⟨M, 1, none⟩) hM).trans d1
  have D3 := (hb0.cell (p := ⟨M, 3, none⟩) hM).trans d3
  obtain ⟨co, cc, rfl, hcc1, hcc2, _⟩ := id s3
  unfold maxLen at hcc2
  have HSC := hide (s3.later hb0)
  have HJ := hide (rj_new w M)
  have HNB := hide (nb_new w M)
  have HB0 := hide hb0
  have HX := hide hx
  clear h hsc hpl hop s1 s3 d1 d3 hb0 htl hcnt0 hd0 hx h0
  go_enter Try.func11, Try.ntmps11
  go_wp2_with fail
  obtain ⟨J, hJe⟩ : ∃ J, w.heap.size = J := ⟨_, rfl⟩
  have hJW : J < (w.alloc (.cells #[.pointer (some ⟨M, 0, none⟩), .int .i64 0, .slice none 0 0, .slice none 0 0, .int .i64 0, .int .i64 0, .int .i64 0] 81)).heap.size := by simp; omega
  rw [hJe] at HJ HNB ⊢
  have HJ0 : Hid (w.heap.size ≤ J) := by show _ ≤ _; omega
  clear hJe D1 D3
  generalize (w.alloc (.cells #[.pointer (some ⟨M, 0, none⟩), .int .i64 0, .slice none 0 0, .slice none 0 0, .int .i64 0, .int .i64 0, .int .i64 0] 81)) = W at *
  refine (refwhole_any _ nc W (unhide HSC) (by omega)).mono ?_
  rintro e w1 ⟨hwh, q, hw1⟩
  have hbq : Below W.heap.size W w1 := by rw [hw1]; exact belowN (Below.refl _ _) q
  clear hw1
  rcases hwh with ⟨hwn, rfl⟩ | ⟨rv, x', hx', rfl, hsx⟩
  · rw [unhide HX] at hwn; cases hwn
  obtain rfl : x = x' := by have := (unhide HX).symm.trans hx'; injection this
  obtain ⟨xo, xc, rfl, _⟩ := id hsx
  have HSX := hide hsx
  clear hx' hsx
  go_wp2_with fail
  refine (rr_open xo xc x w1).mono ?_
  rintro e w2 ⟨R, rfl, hR, hr2, hb2⟩
  have hb2' := hbq.trans (hb2.mono hbq.size)
  have HF : Hid (Fr (fun k => k = J) W w2) := Fr.of hb2'
  have HRW0 : Hid (W.heap.size ≤ R) := by show _ ≤ _; have := hbq.size; omega
  have HRJ : Hid (R ≠ J) := by show _ ≠ _; have := unhide HRW0; omega
  have HR := hide hr2
  have HNBk := hide ((unhide HNB).later hJW hb2')
  replace HJ := hide ((unhide HJ).later hb2')
  clear hbq hb2 hb2' hR hr2
  have hn0 := rdn_le x
  have hc := rr_n (unhide HR) ((unhide HSX).jframe (unhide HNB) (unhide HF)) hxl 1099511627776
  have HCN := hide hc
  clear hc
  generalize rdN x 1099511627776 = y at *
  obtain ⟨n1, e1, x1⟩ := y
  simp only at hn0 HCN Hd
  go_wp2_with fail
  refine (unhide HCN).mono ?_
  rintro e w3 ⟨rfl, hr, ht⟩
  have hj := (unhide HJ).frame (w' := w3) (by rw [ht.size]; exact Nat.le_refl _) (fun k _ hk => ht.block k (by
    rcases hk with hk | hk
    · exact hk.elim
    · subst hk; exact fun e => (unhide HRJ) e.symm))
  have hf := (unhide HF).touch ht (unhide HRW0)
  have hnb := (unhide HNBk).frame (ht.block J (fun e => (unhide HRJ) e.symm))
  have fzJ4 := hj.fz 4
  have cJ4 := hj.c4
  have hn' := hn0
  replace HJ := hide (hj.setT n1)
  replace HF := hide (hf.set (p := ⟨J, 4, none⟩) rfl (.int .i64 (n1 : Int)))
  replace HNBk := hide (hnb.set 4 cJ4 (.int .i64 (n1 : Int)) (fun k => by simp))
  replace HR := hide (hr.frame (w' := w3.setCell ⟨J, 4, none⟩ (.int .i64 (n1 : Int))) (Below.heap_setCell _ _ _ _ (unhide HRJ)))
  clear HCN hr ht hj hf hnb
  have hn0 := rdn_le x1
  have hc := rr_n (unhide HR) ((unhide HSX).jframe (unhide HNB) (unhide HF)) hxl 1099511627776
  have HCN := hide hc
  clear hc
  generalize rdN x1 1099511627776 = y at *
  obtain ⟨n2, e2, x2⟩ := y
  simp only at hn0 HCN Hd
  go_wp2_with fail
  refine (unhide HCN).mono ?_
  rintro e w4 ⟨rfl, hr, ht⟩
  have hj := (unhide HJ).frame (w' := w4) (by rw [ht.size]; exact Nat.le_refl _) (fun k _ hk => ht.block k (by
    rcases hk with hk | hk
    · exact hk.elim
    · subst hk; exact fun e => (unhide HRJ) e.symm))
  have hf := (unhide HF).touch ht (unhide HRW0)
  have hnb := (unhide HNBk).frame (ht.block J (fun e => (unhide HRJ) e.symm))
  have fzJ5 := hj.fz 5
  have cJ5 := hj.c5
  have hn' := hn0
  replace HJ := hide (hj.setV n2)
  replace HF := hide (hf.set (p := ⟨J, 5, none⟩) rfl (.int .i64 (n2 : Int)))
  replace HNBk := hide (hnb.set 5 cJ5 (.int .i64 (n2 : Int)) (fun k => by simp))
  replace HR := hide (hr.frame (w' := w4.setCell ⟨J, 5, none⟩ (.int .i64 (n2 : Int))) (Below.heap_setCell _ _ _ _ (unhide HRJ)))
  clear HCN hr ht hj hf hnb
  have hn0 := rdn_le x2
  have hc := rr_n (unhide HR) ((unhide HSX).jframe (unhide HNB) (unhide HF)) hxl 1099511627776
  have HCN := hide hc
  clear hc
  generalize rdN x2 1099511627776 = y at *
  obtain ⟨n3, e3, x3⟩ := y
  simp only at hn0 HCN Hd
  go_wp2_with fail
  refine (unhide HCN).mono ?_
  rintro e w5 ⟨rfl, hr, ht⟩
  have hj := (unhide HJ).frame (w' := w5) (by rw [ht.size]; exact Nat.le_refl _) (fun k _ hk => ht.block k (by
    rcases hk with hk | hk
    · exact hk.elim
    · subst hk; exact fun e => (unhide HRJ) e.symm))
  have hf := (unhide HF).touch ht (unhide HRW0)
  have hnb := (unhide HNBk).frame (ht.block J (fun e => (unhide HRJ) e.symm))
  have fzJ6 := hj.fz 6
  have cJ6 := hj.c6
  have hn' := hn0
  replace HJ := hide (hj.setO n3)
  replace HF := hide (hf.set (p := ⟨J, 6, none⟩) rfl (.int .i64 (n3 : Int)))
  replace HNBk := hide (hnb.set 6 cJ6 (.int .i64 (n3 : Int)) (fun k => by simp))
  replace HR := hide (hr.frame (w' := w5.setCell ⟨J, 6, none⟩ (.int .i64 (n3 : Int))) (Below.heap_setCell _ _ _ _ (unhide HRJ)))
  clear HCN hr ht hj hf hnb
  by_cases hok : e1 = 0 ∧ e2 = 0 ∧ e3 = 0 ∧ x3 = []
  · have Hd' : Hid (hdOf nc = some (n1, n2, n3)) := (unhide Hd).trans (if_pos hok)
    have hbb := (four_ok (e1 := e1) (e2 := e2) (e3 := e3) (x3 := x3)).trans (decide_eq_true hok)
    have Hbb := hide hbb
    clear hok hbb Hd
    go_wp2_with fail
    refine (rr_end_b (unhide HR) hxl true (unhide Hbb)).mono ?_
    rintro e w6 ⟨rfl, hb6⟩
    have hJl := (unhide HJ).lt
    have HBW := hide (((unhide HB0).trans ((unhide HF).below (fun k hk => by subst hk; exact unhide HJ0) (unhide HB0).size)).trans (hb6.mono (Nat.le_trans (unhide HB0).size (unhide HF).size)))
    have HRW := hide ((unhide HJ).later hb6)
    have HNB6 := hide ((unhide HNBk).later hJl hb6)
    have hrk := ((unhide H).mono (U := fun k => T k ∧ k < w.heap.size) (fun k hk ht => ⟨ht, hk⟩)).later (unhide HBW)
    obtain ⟨v1', v3', d1', d3', s1', _⟩ := hrk.now
    obtain ⟨no, ncp, rfl, _⟩ := id s1'
    have HS1 := hide s1'
    clear HR HF HJ HNB HNBk HSX HRW0 HRJ hb6 hrk s1' HB0 hJl
    have HNB := HNB6
    clear HNB6
    go_wp2_with fail
    refine (refscan_any _ nf rs w6 (unhide HS1) (by omega) (unhide Hsc)).mono ?_
    rintro e w4 ⟨rv, rfl, hheld, hb4⟩
    have hrj4 := (unhide HRW).later hb4
    have hnb4 := (unhide HNB).later (unhide HRW).lt hb4
    have hbw4 := (unhide HBW).trans (hb4.mono (unhide HBW).size)
    obtain ⟨vs, hrow, hels⟩ := hheld
    have hrlt := World.ownsRow.lt hrow
    have hJ0 : w.heap.size ≤ J := unhide HJ0
    have hJr : ∀ g, rv.ownBlock = some g → g ≠ J := fun g hg e => by have := (hrlt g hg).1; have := (unhide HRW).lt; omega
    have hvl : vs.length = rs.length := by have := hrow.1; simpa using this
    have HEL : Hid (∀ (i : Nat) (u : Value) (x : List UInt8), vs[i]? = some u → rs[i]? = some x → Sl w4 u x) := fun i u x hu hx => (hels i u x hu hx).later hb4
    have HROW := hide hrow
    have HRJ4 := hide hrj4
    have HNB4 := hide hnb4
    have HB4 := hide hbw4
    obtain ⟨ro, rc, rfl, hrc1, hrc2⟩ : ∃ ro rc, rv = .slice ro rs.length rc ∧ rs.length ≤ rc ∧ rc ≤ maxLen := by
      rcases hrow.2 with ⟨rfl, h0⟩ | ⟨g, cap, cur, rfl, _, _, q1, q2, _⟩
      · exact ⟨none, 0, by rw [h0], by omega, Nat.zero_le _⟩
      · exact ⟨_, cap, rfl, q1, q2⟩
    unfold maxLen at hrc2
    clear hrow hels hrj4 hnb4 hbw4 hb4 hrlt HBW HRW HNB HJ0
    go_wp2
    go_loopw [10, 11] (fun nv iv wr => ∃ (i : Nat) (st' : St) (P' : Nat → Prop), iv = .int .i64 i ∧ nv = .int .i64 (total (rs.take i)) ∧ i ≤ rs.length ∧ Hid (Rol w J M n1 n2 n3 rs i st' P' w4 wr)) (fun _ iv _ => rs.length - (intOf iv).toNat)
    case atStart => exact ⟨0, (0, [], []), fun _ => False, rfl, by simp [total], Nat.zero_le _, ⟨unhide HRJ4, fun k hk => hk.elim, Fr.refl _ _, by simp, by simp, by simp [total]⟩⟩
    case round =>
      obtain ⟨i, st', P', rfl, rfl, hi, hR⟩ := hrel
      have htot : total (rs.take i) ≤ 16777216 := by have := total_take_le rs i; have := unhide HTL; omega
      obtain ⟨hrj, hP', hfr, hbs, hls, hpl⟩ := unhide hR
      have hbr : Below w.heap.size w wr := (unhide HB4).trans (hfr.below (fun k hk => by subst hk; exact hJ0) (unhide HB4).size)
      by_cases hil : i < rs.length
      · have hI : decide ((i : Int) < (rs.length : Int)) = true := by simpa using hil
        have hel := (unhide HEL) i vs[i] rs[i] (List.getElem?_eq_getElem (by omega)) (List.getElem?_eq_getElem hil)
        have hslk := hel.jframe (unhide HNB4) hfr
        obtain ⟨g, rfl⟩ : ∃ g, ro = some ⟨g, 0, none⟩ := by
          rcases (unhide HROW).2 with ⟨e, h0⟩ | ⟨g, cap, cur, e, _⟩
          · omega
          · injection e with e1; exact ⟨g, e1⟩
        have hcell := World.ownsRow.cells (row_kept (unhide HROW) hfr.size (fun q hq => hfr.block q (World.ownsRow.lt (unhide HROW) q hq).2 (hJr q hq))) (g := g) rfl i vs[i] (List.getElem?_eq_getElem (by omega))
        rw [Addr.add_lit, Nat.zero_add] at hcell
        generalize vs[i] = u at *
        obtain ⟨uo, uc, rfl, hu1, hu2, _⟩ := id hslk
        have hxl : rs[i].length ≤ 16777216 := by have := total_mem rs i hil; have := unhide HTL; omega
        have hdrop : rs.drop i = rs[i] :: rs.drop (i + 1) := List.drop_eq_getElem_cons hil
        have htk : total (rs.take (i + 1)) = total (rs.take i) + (8 + rs[i].length) := by rw [List.take_succ_eq_append_getElem hil, total_snoc]
        have htot2 : total (rs.take (i + 1)) ≤ 16777216 := by have := total_take_le rs (i + 1); have := unhide HTL; omega
        rw [hdrop] at hpl
        have HPL := hide hpl
        have HTK := hide htk
        have HRJ := hide hrj
        have HBR := hide hbr
        have HFR := hide hfr
        have HSL := hide hslk
        rw [htk] at htot2
        clear hpl htk hrj hbr hfr hslk hel hdrop hR
        generalize rs[i] = x at *
        unfold maxLen at hu2
        go_wp2_with fail
        refine (change_any J M n1 n2 n3 st' _ x wr (unhide HRJ) (unhide HSL) (by omega) (by omega) hbs).mono ?_
        rintro e w5 (⟨st2, P2, ho, rfl, hrj2, hP2, hf2⟩ | ⟨ho, rfl, hb5⟩)
        · have hsm := one_small ho hbs
          have hcell5 : w5.cell? ⟨g, i, none⟩ = some (.slice uo x.length uc) := by
            have hg := hJr g rfl
            have hlt := World.block_lt_of_cell? wr _ hcell
            rw [World.cell?_of_block (w := wr) (hf2.block g hlt hg)]
            exact hcell
          have hN : Hid (Rol w J M n1 n2 n3 rs (i + 1) st2 P2 w4 w5) := by
            refine ⟨hrj2, fun k hk => ?_, (unhide HFR).trans hf2, hsm.1, by omega, ?_⟩
            · rcases hP2 k hk with e | e
              · exact hP' k e
              · have := (unhide HBR).size; omega
            · have hp := unhide HPL
              rw [plays_some ho] at hp
              rw [hp, unhide HTK]
              simp only [Prod.mk.injEq, true_and]
              omega
          clear hrj2 hP2 hf2 ho hsm HPL HRJ HBR HFR HSL
          go_wp2
          go_roundw
          case rel => exact ⟨i + 1, st2, P2, by go_num, by rw [unhide HTK]; go_num, by omega, hN⟩
          case measure => simp [intOf]; omega
        · have hp := unhide HPL
          rw [plays_none ho] at hp
          have hpe : plays rs (0, [], []) = (st', total (rs.take i)) := by simpa using hp
          obtain ⟨hst, hgn⟩ : st' = st ∧ total (rs.take i) = n := by
            have := (unhide Hpl).symm.trans hpe
            simp only [Prod.mk.injEq] at this
            exact ⟨this.1.symm, this.2.symm⟩
          subst hst
          rw [hgn] at htot
          rw [hgn]
          have hrj5 := (unhide HRJ).later hb5
          have hbr5 := (unhide HBR).trans (hb5.mono (unhide HBR).size)
          clear ho hp hpe hb5 HPL HTK HRJ HBR HFR HSL hcell hgn htot2
          have Hj5 := hide hrj5
          have HP5 : Hid (∀ k, P' k → w.heap.size ≤ k) := hP'
          have HB5 := hide hbr5
          by_cases hlt : n < nf.length
          · have hI : decide ((n : Int) < (nf.length : Int)) = true := by simpa using hlt
            have hr5 : Rk (fun k => (T k ∧ k < w.heap.size) ∨ (w5).heap.size ≤ k) (w5) M nf (nc) sf sc := (((unhide H).mono (U := fun k => T k ∧ k < w.heap.size) (fun k hk ht => ⟨ht, hk⟩)).later (unhide HB5)).mono (fun k _ ht => .inl ht)
            obtain ⟨v1, v3, d1, d3, s1, _⟩ := hr5.now
            obtain ⟨no, ncp, rfl, _⟩ := id s1
            have Hr5 := hide hr5
            clear hr5 s1
            go_wp2_with fail
            refine (refcut_ok M nf (nc) sf sc n (w5) (unhide Hr5) (fun k hk => .inr hk) (by omega)).mono ?_
            rintro e w6 ⟨rfl, hr6, hf6⟩
            have Hr6 := hide hr6
            have Hf6 := hide hf6
            clear hr6 hf6
            go_wp2_with fail
            refine (refsync_ok M (nf.take n) (nc) sf sc w6 (unhide Hr6)).mono ?_
            rintro e w7 ⟨rfl, hr7, hf7⟩
            have Hr7 := hide hr7
            have Hf7 := hide ((unhide Hf6).trans hf7)
            clear hr7 hf7
            go_wp2
            go_ret2
            exact .inl ⟨_, _, _, unhide Hd', rd_after hTS hS (unhide Hj5) (unhide HP5) hJ0 (unhide HB5) (unhide Hr7) (unhide Hf7) hlt⟩
          · have hI : decide ((n : Int) < (nf.length : Int)) = false := by simpa using hlt
            have hr5 := ((unhide H).mono (U := fun k => T k ∧ k < w.heap.size) (fun k hk ht => ⟨ht, hk⟩)).later (unhide HB5)
            obtain ⟨v1, v3, d1, d3, s1, _⟩ := hr5.now
            obtain ⟨no, ncp, rfl, _⟩ := id s1
            have Hr5 := hide hr5
            clear hr5 s1
            go_wp2
            go_ret2
            exact .inl ⟨_, _, _, unhide Hd', rd_whole hTS hS (unhide Hj5) (unhide HP5) hJ0 (unhide HB5) (unhide Hr5) (by omega)⟩
      · have hI : decide ((i : Int) < (rs.length : Int)) = false := by simpa using hil
        have hie : i = rs.length := by omega
        have hpe : plays rs (0, [], []) = (st', total (rs.take i)) := by
          rw [hpl, hie, List.drop_length]
          simp [plays]
        obtain ⟨hst, hgn⟩ : st' = st ∧ total (rs.take i) = n := by
          have := (unhide Hpl).symm.trans hpe
          simp only [Prod.mk.injEq] at this
          exact ⟨this.1.symm, this.2.symm⟩
        subst hst
        rw [hgn] at htot
        rw [hgn]
        clear hpe hgn hpl hfr hR
        have Hj5 := hide hrj
        have HP5 : Hid (∀ k, P' k → w.heap.size ≤ k) := hP'
        have HB5 := hide hbr
        by_cases hlt : n < nf.length
        · have hI : decide ((n : Int) < (nf.length : Int)) = true := by simpa using hlt
          have hr5 : Rk (fun k => (T k ∧ k < w.heap.size) ∨ (wr).heap.size ≤ k) (wr) M nf (nc) sf sc := (((unhide H).mono (U := fun k => T k ∧ k < w.heap.size) (fun k hk ht => ⟨ht, hk⟩)).later (unhide HB5)).mono (fun k _ ht => .inl ht)
          obtain ⟨v1, v3, d1, d3, s1, _⟩ := hr5.now
          obtain ⟨no, ncp, rfl, _⟩ := id s1
          have Hr5 := hide hr5
          clear hr5 s1
          go_wp2_with fail
          refine (refcut_ok M nf (nc) sf sc n (wr) (unhide Hr5) (fun k hk => .inr hk) (by omega)).mono ?_
          rintro e w6 ⟨rfl, hr6, hf6⟩
          have Hr6 := hide hr6
          have Hf6 := hide hf6
          clear hr6 hf6
          go_wp2_with fail
          refine (refsync_ok M (nf.take n) (nc) sf sc w6 (unhide Hr6)).mono ?_
          rintro e w7 ⟨rfl, hr7, hf7⟩
          have Hr7 := hide hr7
          have Hf7 := hide ((unhide Hf6).trans hf7)
          clear hr7 hf7
          go_wp2
          go_ret2
          exact .inl ⟨_, _, _, unhide Hd', rd_after hTS hS (unhide Hj5) (unhide HP5) hJ0 (unhide HB5) (unhide Hr7) (unhide Hf7) hlt⟩
        · have hI : decide ((n : Int) < (nf.length : Int)) = false := by simpa using hlt
          have hr5 := ((unhide H).mono (U := fun k => T k ∧ k < w.heap.size) (fun k hk ht => ⟨ht, hk⟩)).later (unhide HB5)
          obtain ⟨v1, v3, d1, d3, s1, _⟩ := hr5.now
          obtain ⟨no, ncp, rfl, _⟩ := id s1
          have Hr5 := hide hr5
          clear hr5 s1
          go_wp2
          go_ret2
          exact .inl ⟨_, _, _, unhide Hd', rd_whole hTS hS (unhide Hj5) (unhide HP5) hJ0 (unhide HB5) (unhide Hr5) (by omega)⟩
  · have Hd' : Hid (hdOf nc = none) := (unhide Hd).trans (if_neg hok)
    have hbb := (four_ok (e1 := e1) (e2 := e2) (e3 := e3) (x3 := x3)).trans (decide_eq_false hok)
    have Hbb := hide hbb
    clear hok hbb Hd
    go_wp2_with fail
    refine (rr_end_b (unhide HR) hxl false (unhide Hbb)).mono ?_
    rintro e w6 ⟨rfl, hb6⟩
    have hfin : Below w.heap.size w w6 := ((unhide HB0).trans ((unhide HF).below (fun k hk => by subst hk; exact unhide HJ0) (unhide HB0).size)).trans (hb6.mono (Nat.le_trans (unhide HB0).size (unhide HF).size))
    have HFIN := hide hfin
    clear hfin hb6 HR HF HJ
    go_wp2
    go_ret2
    exact .inr ⟨unhide Hd', rfl, unhide HFIN⟩

set_option maxRecDepth 100000 in
set_option maxHeartbeats 4000000 in
theorem refopen_bad {T : Nat → Prop} (M : Nat) (nf nc sf sc : List UInt8) (w : World) (h : Rk T w M nf nc sf sc) (h0 : nc ≠ []) (hx : whole nc = none) :
    Calls Try.prog 11 #[.pointer (some ⟨M, 0, none⟩)] w fun e w' => hdOf nc = none ∧ e = .returned (.tuple #[.pointer none, .int .i64 71]) ∧ Below w.heap.size w w' := by
  obtain ⟨v1, v3, d1, d3, s1, s3, hf24, hc24, hM⟩ := h.now
  have hcp : 0 < nc.length := by cases nc <;> simp_all
  have hcpi : decide ((0 : Int) < (nc.length : Int)) = true := by simp; omega
  have Hd : Hid (hdOf nc = none) := by show _ = _; unfold hdOf; rw [if_neg h0, hx]
  have hb0 := below_new w (.cells #[.pointer (some ⟨M, 0, none⟩), .int .i64 0, .slice none 0 0, .slice none 0 0, .int .i64 0, .int .i64 0, .int .i64 0] 81)
  have D1 := (hb0.cell (p := ⟨M, 1, none⟩) hM).trans d1
  have D3 := (hb0.cell (p := ⟨M, 3, none⟩) hM).trans d3
  obtain ⟨co, cc, rfl, hcc1, hcc2, _⟩ := id s3
  unfold maxLen at hcc2
  have HSC := hide (s3.later hb0)
  have HJ := hide (rj_new w M)
  have HNB := hide (nb_new w M)
  have HB0 := hide hb0
  have HX := hide hx
  clear h s1 s3 d1 d3 hb0 hx h0
  go_enter Try.func11, Try.ntmps11
  go_wp2_with fail
  obtain ⟨J, hJe⟩ : ∃ J, w.heap.size = J := ⟨_, rfl⟩
  have hJW : J < (w.alloc (.cells #[.pointer (some ⟨M, 0, none⟩), .int .i64 0, .slice none 0 0, .slice none 0 0, .int .i64 0, .int .i64 0, .int .i64 0] 81)).heap.size := by simp; omega
  rw [hJe] at HJ HNB ⊢
  have HJ0 : Hid (w.heap.size ≤ J) := by show _ ≤ _; omega
  clear hJe D1 D3
  generalize (w.alloc (.cells #[.pointer (some ⟨M, 0, none⟩), .int .i64 0, .slice none 0 0, .slice none 0 0, .int .i64 0, .int .i64 0, .int .i64 0] 81)) = W at *
  refine (refwhole_any _ nc W (unhide HSC) (by omega)).mono ?_
  rintro e w1 ⟨hwh, q, hw1⟩
  have hbq : Below W.heap.size W w1 := by rw [hw1]; exact belowN (Below.refl _ _) q
  clear hw1
  rcases hwh with ⟨hwn, rfl⟩ | ⟨rv, x', hx', rfl, hsx⟩
  case inr => have := (unhide HX).symm.trans hx'; cases this
  have HSX : Hid (Sl W (.slice none ([] : List UInt8).length 0) []) := Sl.nil W
  have hxl : ([] : List UInt8).length ≤ 1099511627776 := by simp
  go_wp2_with fail
  refine (rr_open none 0 ([] : List UInt8) w1).mono ?_
  rintro e w2 ⟨R, rfl, hR, hr2, hb2⟩
  have hb2' := hbq.trans (hb2.mono hbq.size)
  have HF : Hid (Fr (fun k => k = J) W w2) := Fr.of hb2'
  have HRW0 : Hid (W.heap.size ≤ R) := by show _ ≤ _; have := hbq.size; omega
  have HRJ : Hid (R ≠ J) := by show _ ≠ _; have := unhide HRW0; omega
  have HR := hide hr2
  have HNBk := hide ((unhide HNB).later hJW hb2')
  replace HJ := hide ((unhide HJ).later hb2')
  clear hbq hb2 hb2' hR hr2
  have hn0 := rdn_le ([] : List UInt8)
  have hc := rr_n (unhide HR) ((unhide HSX).jframe (unhide HNB) (unhide HF)) hxl 1099511627776
  have HCN := hide hc
  clear hc
  generalize rdN ([] : List UInt8) 1099511627776 = y at *
  obtain ⟨n1, e1, x1⟩ := y
  simp only at hn0 HCN Hd
  go_wp2_with fail
  refine (unhide HCN).mono ?_
  rintro e w3 ⟨rfl, hr, ht⟩
  have hj := (unhide HJ).frame (w' := w3) (by rw [ht.size]; exact Nat.le_refl _) (fun k _ hk => ht.block k (by
    rcases hk with hk | hk
    · exact hk.elim
    · subst hk; exact fun e => (unhide HRJ) e.symm))
  have hf := (unhide HF).touch ht (unhide HRW0)
  have hnb := (unhide HNBk).frame (ht.block J (fun e => (unhide HRJ) e.symm))
  have fzJ4 := hj.fz 4
  have cJ4 := hj.c4
  have hn' := hn0
  replace HJ := hide (hj.setT n1)
  replace HF := hide (hf.set (p := ⟨J, 4, none⟩) rfl (.int .i64 (n1 : Int)))
  replace HNBk := hide (hnb.set 4 cJ4 (.int .i64 (n1 : Int)) (fun k => by simp))
  replace HR := hide (hr.frame (w' := w3.setCell ⟨J, 4, none⟩ (.int .i64 (n1 : Int))) (Below.heap_setCell _ _ _ _ (unhide HRJ)))
  clear HCN hr ht hj hf hnb
  have hn0 := rdn_le x1
  have hc := rr_n (unhide HR) ((unhide HSX).jframe (unhide HNB) (unhide HF)) hxl 1099511627776
  have HCN := hide hc
  clear hc
  generalize rdN x1 1099511627776 = y at *
  obtain ⟨n2, e2, x2⟩ := y
  simp only at hn0 HCN Hd
  go_wp2_with fail
  refine (unhide HCN).mono ?_
  rintro e w4 ⟨rfl, hr, ht⟩
  have hj := (unhide HJ).frame (w' := w4) (by rw [ht.size]; exact Nat.le_refl _) (fun k _ hk => ht.block k (by
    rcases hk with hk | hk
    · exact hk.elim
    · subst hk; exact fun e => (unhide HRJ) e.symm))
  have hf := (unhide HF).touch ht (unhide HRW0)
  have hnb := (unhide HNBk).frame (ht.block J (fun e => (unhide HRJ) e.symm))
  have fzJ5 := hj.fz 5
  have cJ5 := hj.c5
  have hn' := hn0
  replace HJ := hide (hj.setV n2)
  replace HF := hide (hf.set (p := ⟨J, 5, none⟩) rfl (.int .i64 (n2 : Int)))
  replace HNBk := hide (hnb.set 5 cJ5 (.int .i64 (n2 : Int)) (fun k => by simp))
  replace HR := hide (hr.frame (w' := w4.setCell ⟨J, 5, none⟩ (.int .i64 (n2 : Int))) (Below.heap_setCell _ _ _ _ (unhide HRJ)))
  clear HCN hr ht hj hf hnb
  have hn0 := rdn_le x2
  have hc := rr_n (unhide HR) ((unhide HSX).jframe (unhide HNB) (unhide HF)) hxl 1099511627776
  have HCN := hide hc
  clear hc
  generalize rdN x2 1099511627776 = y at *
  obtain ⟨n3, e3, x3⟩ := y
  simp only at hn0 HCN Hd
  go_wp2_with fail
  refine (unhide HCN).mono ?_
  rintro e w5 ⟨rfl, hr, ht⟩
  have hj := (unhide HJ).frame (w' := w5) (by rw [ht.size]; exact Nat.le_refl _) (fun k _ hk => ht.block k (by
    rcases hk with hk | hk
    · exact hk.elim
    · subst hk; exact fun e => (unhide HRJ) e.symm))
  have hf := (unhide HF).touch ht (unhide HRW0)
  have hnb := (unhide HNBk).frame (ht.block J (fun e => (unhide HRJ) e.symm))
  have fzJ6 := hj.fz 6
  have cJ6 := hj.c6
  have hn' := hn0
  replace HJ := hide (hj.setO n3)
  replace HF := hide (hf.set (p := ⟨J, 6, none⟩) rfl (.int .i64 (n3 : Int)))
  replace HNBk := hide (hnb.set 6 cJ6 (.int .i64 (n3 : Int)) (fun k => by simp))
  replace HR := hide (hr.frame (w' := w5.setCell ⟨J, 6, none⟩ (.int .i64 (n3 : Int))) (Below.heap_setCell _ _ _ _ (unhide HRJ)))
  clear HCN hr ht hj hf hnb
  have hfin : Below w.heap.size w _ := (unhide HB0).trans ((unhide HF).below (fun k hk => by subst hk; exact unhide HJ0) (unhide HB0).size)
  have HFIN := hide hfin
  clear hfin HR HF HJ
  go_wp2
  go_ret2
  exact ⟨unhide Hd, rfl, unhide HFIN⟩

theorem refjopen_any {S T : Nat → Prop} (M : Nat) (nf nc sf sc : List UInt8) (st : St) (n : Nat) (w : World) (h : Rk T w M nf nc sf sc) (hTS : ∀ k, k < w.heap.size → T k → S k) (hS : ∀ k, w.heap.size ≤ k → S k) (hop : Opens nf st n) :
    Calls Try.prog 11 #[.pointer (some ⟨M, 0, none⟩)] w fun e w' => (∃ t v o, hdOf nc = some (t, v, o) ∧ Rod S M nf nc sf sc t v o st n w e w') ∨ (hdOf nc = none ∧ e = .returned (.tuple #[.pointer none, .int .i64 71]) ∧ Below w.heap.size w w') := by
  by_cases h0 : nc = []
  · subst h0
    exact refopen_none M nf sf sc st n w h hTS hS hop
  · cases hx : whole nc with
    | some x => exact refopen_some M nf nc sf sc x w h hTS hS h0 hx st n hop
    | none => exact (refopen_bad M nf nc sf sc w h h0 hx).mono fun e w' h => .inr h

end Go.Proofs.Yteanjnkfoddfmaa
