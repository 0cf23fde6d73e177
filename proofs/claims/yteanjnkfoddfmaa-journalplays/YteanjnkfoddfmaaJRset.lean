/-
  The document's journal: Set. No law is proved here.
-/
import Derived.Test.YteanjnkfoddfmaaJRops
namespace Go.Proofs.Yteanjnkfoddfmaa
open Go.RowKit
set_option linter.unusedVariables false

theorem cells3i (w : World) (a b c : Int) (t : TypeId) : ∀ j (hj : j < [a, b, c].length), (w.alloc (.cells #[.int .i64 a, .int .i64 b, .int .i64 c] t)).cell? ⟨w.heap.size, j, none⟩ = some (.int .i64 [a, b, c][j]) := by
  intro j hj
  match j, hj with
  | 0, _ => simp
  | 1, _ => simp
  | 2, _ => simp

def okN (z : Int) : Prop := 0 ≤ z ∧ z ≤ 1099511627776

def encs (xs : List Int) (i : Nat) : List UInt8 := (xs.take i).flatMap fun z => enc z.toNat

theorem encs_len (xs : List Int) (hx : xs.length = 3) (i : Nat) (hi : i ≤ 3) (h : ∀ j (hj : j < i), okN (xs[j]'(by omega))) : (encs xs i).length ≤ 6 * i := by
  induction i with
  | zero => simp [encs]
  | succ i ih =>
    have hlt : i < xs.length := by omega
    have h1 := ih (by omega) (fun j hj => h j (by omega))
    have h2 := h i (by omega)
    unfold encs at *
    rw [List.take_succ_eq_append_getElem hlt, List.flatMap_append, List.length_append]
    have h3 := enc_len6 (n := xs[i].toNat) (by have := h2.2; have := h2.1; omega)
    have h4 : ([xs[i]].flatMap fun z => enc z.toNat) = enc xs[i].toNat := by simp
    rw [h4]
    omega

/-- One of three numbers may not be. -/
def badH (a b c : Int) : Prop := ¬ (okN a ∧ okN b ∧ okN c)

section
set_option maxRecDepth 100000
variable {S : Nat → Prop}

set_option maxHeartbeats 2000000 in
theorem refset_any (J M : Nat) (nf nc sf sc : List UInt8) (t v o : Nat) (st : St) (a b c : Int) (w : World) (h : Rjd S w J M nf nc sf sc t v o st) (hS : ∀ k, w.heap.size ≤ k → S k) :
    Calls Try.prog 19 #[.pointer (some ⟨J, 0, none⟩), .int .i64 a, .int .i64 b, .int .i64 c] w fun e w' =>
      (∃ t' v' o' : Nat, a = t' ∧ b = v' ∧ c = o' ∧ t' ≤ 1099511627776 ∧ v' ≤ 1099511627776 ∧ o' ≤ 1099511627776 ∧ e = .returned (.int .i64 0) ∧ Rjd S w' J M nf (fr (encH t' v' o')) sf sc t' v' o' st ∧ Fr S w w') ∨
      (badH a b c ∧ e = .returned (.int .i64 71) ∧ Below w.heap.size w w') := by
  have hcs := cells3i w a b c 3
  have hb0 := below_new w (.cells #[.int .i64 a, .int .i64 b, .int .i64 c] 3)
  have hz0 : w.heap.size < (w.alloc (.cells #[.int .i64 a, .int .i64 b, .int .i64 c] 3)).heap.size := by simp
  have Hcs := hide hcs
  have HB0 := hide hb0
  have H := hide h
  clear hcs hb0 h
  go_enter Try.func19, Try.ntmps19
  go_wp2_with fail
  generalize w.alloc (.cells #[.int .i64 a, .int .i64 b, .int .i64 c] 3) = w1 at *
  obtain ⟨N, hN⟩ : ∃ N, w.heap.size = N := ⟨_, rfl⟩
  have hz1 : N < w1.heap.size := by omega
  rw [hN] at Hcs ⊢
  have HN := hide hN
  clear hN hz0
  go_loopw [10, 11] (fun pv iv wr => ∃ (i : Nat) (bv : Value), iv = .int .i64 i ∧ bv = pv ∧ i ≤ 3 ∧ Hid (Own w1.heap.size wr bv (encs [a, b, c] i) ∧ Below w1.heap.size w1 wr ∧ ∀ j (hj : j < i) (h3 : j < [a, b, c].length), okN [a, b, c][j])) (fun _ iv _ => 3 - (intOf iv).toNat)
  case atStart => exact ⟨0, _, rfl, rfl, by decide, World.ownsRow_nil _ _ _ _, Below.refl _ _, fun j hj => by omega⟩
  case round =>
    obtain ⟨i, bv, rfl, rfl, hi, HR⟩ := hrel
    by_cases hlt : i < 3
    · have hI : decide ((i : Int) < 3) = true := by simp; omega
      have hI2 : (i : Int) < 3 := by omega
      have hcell := ((unhide HR).2.1.cell (p := ⟨N, i, none⟩) hz1).trans (unhide Hcs i (by simpa using hlt))
      obtain ⟨z, hz⟩ : ∃ z, Hid ([a, b, c][i]'(by simpa using hlt) = z) := ⟨_, hide rfl⟩
      have hzz := unhide hz
      rw [hzz] at hcell
      clear hzz
      by_cases hok : 0 ≤ z ∧ z ≤ 1099511627776
      · obtain ⟨q, rfl⟩ : ∃ q : Nat, z = q := ⟨z.toNat, by omega⟩
        have hq : q ≤ 1099511627776 := by omega
        have hq9 := enc_len6 hq
        have t0 : ¬ (q : Int) < 0 := by omega
        have t1 : ¬ (1099511627776 : Int) < (q : Int) := by omega
        have hel := encs_len [a, b, c] rfl i (by omega) (fun j hj => (unhide HR).2.2 j hj (by simp; omega))
        clear hok
        go_wp2_with fail
        refine (refnumber_any (q : Int) _ (by omega)).mono ?_
        rintro e w2 ⟨r2, rfl, ho2, hb2⟩
        rw [Int.toNat_natCast] at ho2
        have hbB := (unhide HR).2.1
        have HO1 := hide ((unhide HR).1.later hb2)
        have HB2 := hide (hbB.trans (hb2.mono hbB.size))
        have HO2 := hide ho2
        clear ho2 hb2 hbB hcell
        go_wp2_with (at_builtin; refine wpList_append_sl _ rfl (.tmp 34) (.tmp 39) rfl w1.heap.size (unhide HB2).size _ _ rfl (unhide HO1) _ _ rfl (unhide HO2).sl (by omega) ?_)
        intro v3 w3 ho3 hg3
        have hb3 := (unhide HB2).grown hg3 (unhide HB2).size (fun k hk => (World.ownsRow.lt (unhide HO1) k hk).1)
        have HR3 : Hid (Own w1.heap.size w3 v3 (encs [a, b, c] (i + 1)) ∧ Below w1.heap.size w1 w3 ∧ ∀ j (hj : j < i + 1) (h3 : j < [a, b, c].length), okN [a, b, c][j]) := by
          refine ⟨?_, hb3, fun j hj h3 => ?_⟩
          · unfold encs at ho3 ⊢
            rw [List.take_succ_eq_append_getElem (by simpa using hlt), List.flatMap_append, unhide hz]
            simpa using ho3
          · by_cases e : j = i
            · subst e
              rw [unhide hz]
              exact ⟨by omega, by omega⟩
            · exact (unhide HR).2.2 j (by omega) h3
        clear ho3 hg3 hb3 HO1 HO2 HB2 HR hz
        go_wp2
        go_roundw
        case rel => exact ⟨i + 1, _, by go_num, rfl, by omega, HR3⟩
        case measure => simp [intOf]; omega
      · have HNO : Hid (badH a b c) := fun h => by
          apply hok
          have hzz := unhide hz
          match i, hlt, hzz with
          | 0, _, hzz => rw [← hzz]; exact h.1
          | 1, _, hzz => rw [← hzz]; exact h.2.1
          | 2, _, hzz => rw [← hzz]; exact h.2.2
        have HBB : Hid (Below w.heap.size w wr) := (unhide HB0).trans ((unhide HR).2.1.mono (by have := unhide HN; omega))
        by_cases h0 : z < 0
        · have hd0 : decide (z < 0) = true := by simpa using h0
          clear hz
          go_wp2
          go_ret
          exact .inr ⟨unhide HNO, rfl, unhide HBB⟩
        · have h1 : (1099511627776 : Int) < z := by omega
          have hd0 : decide (z < 0) = false := by simpa using h0
          have hd1 : decide ((1099511627776 : Int) < z) = true := by simpa using h1
          clear hz
          go_wp2
          go_ret
          exact .inr ⟨unhide HNO, rfl, unhide HBB⟩
    · have hI : decide ((i : Int) < 3) = false := by simp; omega
      obtain rfl : i = 3 := by omega
      obtain ⟨ho, hbw, hall⟩ := unhide HR
      have ka := hall 0 (by decide) (by simp)
      have kb := hall 1 (by decide) (by simp)
      have kc := hall 2 (by decide) (by simp)
      simp only [List.getElem_cons_zero, List.getElem_cons_succ] at ka kb kc
      obtain ⟨t', rfl⟩ : ∃ n : Nat, a = n := ⟨a.toNat, by have := ka.1; omega⟩
      obtain ⟨v', rfl⟩ : ∃ n : Nat, b = n := ⟨b.toNat, by have := kb.1; omega⟩
      obtain ⟨o', rfl⟩ : ∃ n : Nat, c = n := ⟨c.toNat, by have := kc.1; omega⟩
      have ht' : t' ≤ 1099511627776 := by have := ka.2; omega
      have hv' : v' ≤ 1099511627776 := by have := kb.2; omega
      have ho' : o' ≤ 1099511627776 := by have := kc.2; omega
      have hee : encs [(t' : Int), (v' : Int), (o' : Int)] 3 = encH t' v' o' := by simp [encs, encH]
      rw [hee] at ho
      have hfit := encH_fits ht' hv' ho'
      have hbW : Below w.heap.size w wr := (unhide HB0).trans (hbw.mono (by have := unhide HN; omega))
      have HO := hide ho
      have HBW := hide hbW
      have Hfit := hide hfit.1
      have hfl := hfit.2
      obtain ⟨bo, bc', rfl⟩ := ho.val
      clear ho hbw hall ka kb kc hfit hbW HR Hcs HB0 hee
      go_wp2_with fail
      refine (refframe_yes _ (encH t' v' o') wr (unhide HO).sl (unhide Hfit)).mono ?_
      rintro e w4 hfr4
      obtain ⟨r4, rfl, ho4, hb4⟩ := hfr4
      obtain ⟨T, P, hj, hr, hT, hSJ, hPS⟩ := unhide H
      have hB4 := (unhide HBW).trans (hb4.mono (unhide HBW).size)
      have hj4 := hj.later hB4
      have c0 := hj4.c0
      have hr4 : Rk (fun k => (T k ∧ k < w.heap.size) ∨ w4.heap.size ≤ k) w4 M nf nc sf sc := ((hr.mono (U := fun k => T k ∧ k < w.heap.size) (fun k hk ht => ⟨ht, hk⟩)).later hB4).mono (fun k _ ht => .inl ht)
      have hPl := hj.pl
      have hJl := hj.lt
      have hz4 := hB4.size
      have Hj4 := hide hj4
      have Hr4 := hide hr4
      have HO4 := hide ho4
      have HB4 := hide hB4
      clear hj4 hr4 ho4 hb4 hB4 hj hr HO HBW H
      go_wp2_with fail
      refine (refset_ok M nf nc sf sc (fr (encH t' v' o')) r4 w4 (unhide Hr4) (fun k hk => .inr hk) (unhide HO4).sl (by rw [fr_length]; omega)).mono ?_
      rintro e w5 ⟨rfl, hr5, hf5⟩
      have hTS : ∀ k, ((T k ∧ k < w.heap.size) ∨ w4.heap.size ≤ k) → S k := fun k hk => hk.elim (fun h => (hT k h.2 h.1).1) (fun h => hS k (by omega))
      have hj5 := (unhide Hj4).frame hf5.size (fun k hk hp => hf5.block k hk (fun ht => by
        rcases ht with ht | ht
        · have h3 := hT k ht.2 ht.1
          rcases hp with hp | hp
          · exact h3.2.2 hp
          · exact h3.2.1 hp
        · omega))
      have q4 := hj5.c4
      have q5 := hj5.c5
      have q6 := hj5.c6
      have qf := hj5.fz
      have hj6 := hj5.setH t' v' o'
      have hf6 : Fr (fun k => k = J) w5 (((w5.setCell ⟨J, 4, none⟩ (.int .i64 (t' : Int))).setCell ⟨J, 5, none⟩ (.int .i64 (v' : Int))).setCell ⟨J, 6, none⟩ (.int .i64 (o' : Int))) :=
        (((Fr.refl (fun k => k = J) w5).set (p := ⟨J, 4, none⟩) rfl _).set (p := ⟨J, 5, none⟩) rfl _).set (p := ⟨J, 6, none⟩) rfl _
      have hz5 := hf5.size
      have hr6 : Rk (fun k => ((T k ∧ k < w.heap.size) ∨ w4.heap.size ≤ k) ∧ k < w5.heap.size) _ M nf (fr (encH t' v' o')) sf sc := (hr5.mono (U := fun k => ((T k ∧ k < w.heap.size) ∨ w4.heap.size ≤ k) ∧ k < w5.heap.size) (fun k hk ht => ⟨ht, hk⟩)).other hf6 (fun k _ ht hk => by
        subst hk
        rcases ht.1 with h | h
        · exact (hT _ h.2 h.1).2.1 rfl
        · omega)
      have HRD : Hid (Rjd S _ J M nf (fr (encH t' v' o')) sf sc t' v' o' st) := ⟨_, P, hj6, hr6, fun k hk ht => ⟨hTS k ht.1, fun e => by
        subst e
        rcases ht.1 with h | h
        · exact (hT _ h.2 h.1).2.1 rfl
        · omega, fun hp => by
        rcases ht.1 with h' | h'
        · exact (hT k h'.2 h'.1).2.2 hp
        · have := hPl k hp; omega⟩, hSJ, hPS⟩
      have HF : Hid (Fr S w _) := ((Fr.of (unhide HB4)).trans (hf5.mono (fun k _ ht => hTS k ht))).trans (hf6.mono (fun k _ hk => by subst hk; exact hSJ))
      clear hj5 hj6 hr5 hr6 hf5 hf6 Hj4 Hr4 HO4 HB4
      go_wp2
      go_ret
      exact .inl ⟨t', v', o', rfl, rfl, rfl, ht', hv', ho', rfl, unhide HRD, unhide HF⟩
end

end Go.Proofs.Yteanjnkfoddfmaa
