/-
  The document's journal: does, Append, Cut, Rebase, Set. No law is proved here.
-/
import Derived.Test.YteanjnkfoddfmaaJSamej
import Derived.Deep.RegionHeldLaw
namespace Go.Proofs.Yteanjnkfoddfmaa
open Go.RowKit
set_option linter.unusedVariables false

section
set_option maxRecDepth 100000
variable {S : Nat → Prop}

theorem refdoes_any (J M : Nat) (nf nc sf sc : List UInt8) (t v o : Nat) (st st' : St) (c : Ch) (x : Value) (w : World) (h : Rjd S w J M nf nc sf sc t v o st) (hS : ∀ k, w.heap.size ≤ k → S k) (hs : Sl w x c.enc) (hx : ∀ g, x.ownBlock = some g → ¬ S g) (hc : c.Good) (hg : c.go st = some st') (hb : nf.length + (8 + c.enc.length) ≤ 16777216) (hL : st.2.2.length ≤ 1099511627776) (hbase : st.1 ≤ 1099511627776) :
    Calls Try.prog 52 #[.pointer (some ⟨J, 0, none⟩), x] w fun e w' => e = .returned (.int .i64 0) ∧ Rjd S w' J M (nf ++ fr c.enc) nc sf sc t v o st' ∧ Fr S w w' := by
  obtain ⟨T, P, hj, hr, hT, hSJ, hPS⟩ := h
  have hone : one c.enc st = some st' := (one_some (chOf_enc c hc)).trans hg
  obtain ⟨ao, xc, rfl, _⟩ := id hs
  have Hj := hide hj
  have Hr := hide hr
  have Hs := hide hs
  have Hone := hide hone
  clear hj hr hs hone
  go_enter Try.func52, Try.ntmps52
  go_wp2_with fail
  refine (refframe_yes _ c.enc w (unhide Hs) (c.fits hc)).mono ?_
  rintro e w1 hfr1
  obtain ⟨r1, rfl, ho1, hb1⟩ := hfr1
  have hj1 := (unhide Hj).later hb1
  have c0 := hj1.c0
  have hr1 : Rk (fun k => (T k ∧ k < w.heap.size) ∨ w1.heap.size ≤ k) w1 M nf nc sf sc := (((unhide Hr).mono (U := fun k => T k ∧ k < w.heap.size) (fun k hk ht => ⟨ht, hk⟩)).later hb1).mono (fun k _ ht => .inl ht)
  have hz1 := hb1.size
  have Hj1 := hide hj1
  have Hr1 := hide hr1
  have HO1 := hide ho1
  have Hs1 := hide ((unhide Hs).later hb1)
  have HB1 := hide hb1
  clear hj1 hr1 ho1 hb1 Hs
  go_wp2_with fail
  refine (refappend_ok M nf nc sf sc (fr c.enc) r1 w1 (unhide Hr1) (fun k hk => .inr hk) (unhide HO1).sl (by rw [fr_length]; omega)).mono ?_
  rintro e w2 ⟨rfl, hr2, hf2⟩
  have hTS : ∀ k, ((T k ∧ k < w.heap.size) ∨ w1.heap.size ≤ k) → S k := fun k hk => hk.elim (fun h => (hT k h.2 h.1).1) (fun h => hS k (by omega))
  have hPl : ∀ k, P k → k < w.heap.size := (unhide Hj).pl
  have hJl := (unhide Hj).lt
  have hj2 := (unhide Hj1).frame hf2.size (fun k hk hp => hf2.block k hk (fun ht => by
    rcases ht with ht | ht
    · have h3 := hT k ht.2 ht.1
      rcases hp with hp | hp
      · exact h3.2.2 hp
      · exact h3.2.1 hp
    · omega))
  have hs2 := (unhide Hs1).frame (fun g hgx hgl => hf2.block g hgl (fun ht => hx g hgx (hTS g ht)))
  have Hj2 := hide hj2
  have Hs2 := hide hs2
  have Hr2 := hide hr2
  have Hf2 := hide hf2
  clear hj2 hs2 hr2 hf2 Hj1 Hr1 HO1 Hs1
  have hel := c.enc_len hc
  have hct := hc.2
  go_wp2_with fail
  refine (change_any J M t v o st _ c.enc w2 (unhide Hj2) (unhide Hs2) (by omega) hL hbase).mono ?_
  rintro e w3 (⟨st2, P2, ho, rfl, hj3, hP3, hf3⟩ | ⟨ho, _⟩)
  rotate_left
  · rw [unhide Hone] at ho; cases ho
  obtain rfl : st' = st2 := by have := (unhide Hone).symm.trans ho; injection this
  have hz2 := (unhide Hf2).size
  have hr3 : Rk (fun k => ((T k ∧ k < w.heap.size) ∨ w1.heap.size ≤ k) ∧ k < w2.heap.size) w3 M (nf ++ fr c.enc) nc sf sc := ((unhide Hr2).mono (U := fun k => ((T k ∧ k < w.heap.size) ∨ w1.heap.size ≤ k) ∧ k < w2.heap.size) (fun k hk ht => ⟨ht, hk⟩)).other hf3 (fun k _ ht hk => by
    subst hk
    rcases ht.1 with h | h
    · exact (hT _ h.2 h.1).2.1 rfl
    · omega)
  have HR : Hid (Rjd S w3 J M (nf ++ fr c.enc) nc sf sc t v o st') := by
    refine ⟨_, P2, hj3, hr3, fun k hk ht => ⟨hTS k ht.1, fun e => ?_, fun hp => ?_⟩, hSJ, fun k hk => ?_⟩
    · subst e
      rcases ht.1 with h | h
      · exact (hT _ h.2 h.1).2.1 rfl
      · omega
    · rcases hP3 k hp with h | h
      · rcases ht.1 with h' | h'
        · exact (hT k h'.2 h'.1).2.2 h
        · have := hPl k h; omega
      · have := ht.2; omega
    · rcases hP3 k hk with h | h
      · exact hPS k h
      · exact hS k (by omega)
  have HF : Hid (Fr S w w3) := ((Fr.of (unhide HB1)).trans ((unhide Hf2).mono (fun k _ ht => hTS k ht))).trans (hf3.mono (fun k _ hk => by subst hk; exact hSJ))
  clear hj3 hr3 hf3 hP3 Hj2 Hs2 Hr2 Hf2 Hj Hr
  go_wp2
  go_ret
  exact ⟨rfl, unhide HR, unhide HF⟩

theorem step_append_sl {ops : Array Oper} {o : Oper} {a : Act} {w : World} {K : Act → World → Prop} {Q : Exit → Act → World → Prop} {E : Prop} (hgd : o.guard = none) (s x : Operand)
    (ho : o.op = .call { callee := .builtin .append, args := #[s, x], argTypes := #[26, 26] })
    (B : Nat) (hB : B ≤ w.heap.size) (v : Value) (l : List UInt8) (hv : a.eval s = v) (h : Own B w v l) (xv : Value) (news : List UInt8) (hxv : a.eval x = xv) (hx : Sl w xv news)
    (hlen : l.length + news.length ≤ 70368744177664)
    (hK : ∀ v' w', Own B w' v' (l ++ news) → w.grownBy w' v.ownBlock → K (a.put o.dst v') w') : if Region.wanted o (yielded ops a.tmps) = true then Oper.wp Try.prog o a w K Q else E := by
  have hw : Region.wanted o (yielded ops a.tmps) = true := by simp [Region.wanted, hgd]
  rw [if_pos hw]
  obtain ⟨v', w', hr, h2, h3⟩ := run_append_sl w B hB v xv l news h hx hlen o.type
  unfold Oper.wp execOp
  simp only [ho, resolve, invoke, builtin, Sem.run_bind, Sem.run_pure, Result.andThen_ok, List.map_toArray, List.map_cons, List.map_nil, hv, hxv, hr]
  exact hK v' w' h2 h3

/-- What a change that is kept leaves. -/
theorem does_in {w w4 : World} {J M : Nat} {nf nc sf sc : List UInt8} {t v o : Nat} {st st' : St} (c : Ch) (x : Value) (h : Rjd S w J M nf nc sf sc t v o st) (hS : ∀ k, w.heap.size ≤ k → S k) (hb4 : Below w.heap.size w w4) (ho : Own w.heap.size w4 x c.enc) (hc : c.Good) (hg : c.go st = some st') (hb : nf.length + (8 + c.enc.length) ≤ 16777216) (hL : st.2.2.length ≤ 1099511627776) (hbase : st.1 ≤ 1099511627776) :
    Calls Try.prog 52 #[.pointer (some ⟨J, 0, none⟩), x] w4 fun e w' => e = .returned (.int .i64 0) ∧ Rjd S w' J M (nf ++ fr c.enc) nc sf sc t v o st' ∧ Fr S w w' := by
  have hz := hb4.size
  refine (refdoes_any (S := fun k => (S k ∧ k < w.heap.size) ∨ w4.heap.size ≤ k) J M nf nc sf sc t v o st st' c x w4 (h.ready hb4) (fun k hk => .inr hk) ho.sl (fun g hgx hk => ?_) hc hg hb hL hbase).mono ?_
  · have hlt := World.ownsRow.lt ho g hgx
    rcases hk with hk | hk
    · have := hk.2; omega
    · omega
  · rintro e w' ⟨rfl, h1, h2⟩
    have hSS : ∀ k, ((S k ∧ k < w.heap.size) ∨ w4.heap.size ≤ k) → S k := fun k hk => hk.elim (fun h => h.1) (fun h => hS k (by omega))
    exact ⟨rfl, h1.mono (fun k _ hk => hSS k hk), (Fr.of hb4).trans (h2.mono (fun k _ hk => hSS k hk))⟩

set_option maxHeartbeats 1000000 in
theorem refappend_j (J M : Nat) (nf nc sf sc : List UInt8) (t v o b : Nat) (d l : List UInt8) (L : List (List UInt8)) (x : Value) (w : World) (h : Rjd S w J M nf nc sf sc t v o (b, d, L)) (hS : ∀ k, w.heap.size ≤ k → S k) (hx : Sl w x l) (hl : l.length ≤ 65516) (hL : L.length ≤ 1099511627776) (hb40 : b ≤ 1099511627776) (hb : nf.length + (8 + (Ch.add l).enc.length) ≤ 16777216) :
    Calls Try.prog 13 #[.pointer (some ⟨J, 0, none⟩), x] w fun e w' => e = .returned (.int .i64 0) ∧ Rjd S w' J M (nf ++ fr (Ch.add l).enc) nc sf sc t v o (b, d, L ++ [l]) ∧ Fr S w w' := by
  have hcv0 := conv_sl w.drew x l (hx.later (Below.refl _ _).drew)
  obtain ⟨ao, c, rfl, hc1, hc2, _⟩ := id hx
  unfold maxLen at hc2
  have hd1 := fun w4 x (hb4 : Below w.heap.size w w4) ho => does_in (S := S) (w4 := w4) (Ch.add l) x h hS hb4 ho ⟨Nat.zero_le _, by show l.length ≤ 65516; omega⟩ rfl hb hL hb40
  have HD := hide hd1
  have Hx := hide hx
  have he9 : (encT (bs l)).length ≤ 3 + l.length := encT_len l (by omega)
  have hbs : (bs l).size ≤ 1099511627776 := by rw [bs_size]; omega
  clear h hx hd1 hb hS
  generalize hX : bs l = X at *
  have HX := hide hX
  clear hX
  go_enter Try.func13, Try.ntmps13
  go_wp2_with fail
  go_region_held_law (fun _ => True) (first | trivial | go_keep) (first | (go_at_call 53; (refine (refnumber_any 1 _ (by decide)).mono ?_); rintro e w1 ⟨r1, rfl, ho1, hb1⟩; have hbb1 := (Below.refl w.heap.size w).drew.trans hb1; have hcv1 := conv_sl w1 _ _ ((unhide Hx).later hbb1); rw [unhide HX] at hcv1; have HB1 := hide hbb1; have HO1 := hide ho1; clear hbb1 ho1 hb1) | (go_at_call 54; (refine (reftext_any X _ hbs).mono ?_); rintro e w2 ⟨r2, rfl, ho2, hb2⟩; have HB2 := hide ((unhide HB1).trans (hb2.mono (unhide HB1).size)); have HO12 := hide ((unhide HO1).later hb2); have HO2 := hide ho2; clear hb2 ho2) | (refine step_append_sl rfl (.tmp 9) (.tmp 12) rfl w.heap.size (unhide HB2).size r1 _ rfl (unhide HO12) r2 _ rfl (unhide HO2).sl (by rw [show (1 : Int).toNat = 1 from rfl, enc_k1]; simp; omega) ?_; intro v4 w4 ho4 hg4; have HB4 := hide ((unhide HB2).grown hg4 (unhide HB2).size (fun k hk => (World.ownsRow.lt (unhide HO12) k hk).1)); have HO4 : Hid (Own w.heap.size w4 v4 (Ch.add l).enc) := (by show Own _ _ _ (enc 1 ++ encT (bs l)); rw [unhide HX]; exact ho4); clear ho4 hg4) | (go_at_call 52; (refine (unhide HD w4 v4 (unhide HB4) (unhide HO4)).mono ?_); rintro e w5 ⟨rfl, hr5, hf5⟩; have HR5 := hide hr5; have HF5 := hide hf5; clear hr5 hf5))
  all_goals go_wp2
  all_goals go_ret
  all_goals exact ⟨rfl, unhide HR5, unhide HF5⟩

set_option maxHeartbeats 1000000 in
theorem refcut_j (J M : Nat) (nf nc sf sc : List UInt8) (t v o b : Nat) (d : List UInt8) (L : List (List UInt8)) (n : Nat) (w : World) (h : Rjd S w J M nf nc sf sc t v o (b, d, L)) (hS : ∀ k, w.heap.size ≤ k → S k) (h1 : b ≤ n) (h2 : n ≤ b + L.length) (hL : L.length ≤ 1099511627776) (hb40 : b ≤ 1099511627776) (hb : nf.length + (8 + (Ch.first (n - b)).enc.length) ≤ 16777216) :
    Calls Try.prog 15 #[.pointer (some ⟨J, 0, none⟩), .int .i64 n] w fun e w' => e = .returned (.int .i64 0) ∧ Rjd S w' J M (nf ++ fr (Ch.first (n - b)).enc) nc sf sc t v o (b, d, L.take (n - b)) ∧ Fr S w w' := by
  obtain ⟨P, hrj⟩ := h.rj
  have c1 : w.cell? ⟨J, 1, none⟩ = some (.int .i64 (b : Int)) := hrj.c1
  obtain ⟨lv, l1, l2⟩ := hrj.c3
  obtain ⟨lo, lc, rfl, _⟩ := id l2
  replace l1 : w.cell? ⟨J, 3, none⟩ = some (.slice lo L.length lc) := l1
  have hJl := hrj.lt
  obtain ⟨k, hk⟩ : ∃ k, n - b = k := ⟨_, rfl⟩
  rw [hk] at hb ⊢
  have hkL : k ≤ L.length := by omega
  have hd1 := fun w4 x (hb4 : Below w.heap.size w w4) ho => does_in (S := S) (w4 := w4) (Ch.first k) x h hS hb4 ho ⟨by show k ≤ 1099511627776; omega, Nat.zero_le _⟩ (if_pos hkL) hb hL hb40
  have HD := hide hd1
  have hk9 := enc_len6 (n := k) (by omega)
  have t1 : ¬ (n : Int) < (b : Int) := by omega
  have t2 : ¬ (b : Int) + (L.length : Int) < (n : Int) := by omega
  have hnk : (n : Int) - (b : Int) = (k : Int) := by omega
  have hkw : IntKind.i64.wrap (k : Int) = (k : Int) := by rw [IntKind.wrap_i64]; omega
  have tn1 : ¬ n < b := by omega
  have tn2 : ¬ b + L.length < n := by omega
  have hw0 : IntKind.i64.wrap ((b : Int) + (L.length : Int)) = (b : Int) + (L.length : Int) := by rw [IntKind.wrap_i64]; omega
  clear h hrj l2 hd1 hb hS hk
  go_enter Try.func15, Try.ntmps15
  go_wp2_with fail
  go_quiet (fail)
  have c1' : (w.drewN nq).cell? ⟨J, 1, none⟩ = some (.int .i64 (b : Int)) := c1
  have hbq : Below w.heap.size w (w.drewN nq).drew := (belowN (Below.refl _ _) nq).drew
  have HBQ := hide hbq
  have hzq : (w.drewN nq).drew.heap.size = w.heap.size := rfl
  have Hzq := hide hzq
  clear hbq hzq
  go_wp2_with fail
  go_region_held_law (fun y => y.cell? ⟨J, 1, none⟩ = some (.int .i64 (b : Int))) (first | assumption | go_keep) (first | (go_at_call_of 53 (Value.int IntKind.i64 2); (refine (refnumber_any 2 _ (by decide)).mono ?_); rintro e w1 ⟨r1, rfl, ho1, hb1⟩; have hbb1 := (unhide HBQ).trans (hb1.mono (Nat.le_of_eq (unhide Hzq).symm)); have q1 := (hbb1.cell (p := ⟨J, 1, none⟩) hJl).trans c1; have HB1 := hide hbb1; have HO1 := hide (ho1.mono (Nat.le_of_eq (unhide Hzq).symm)); clear hbb1 ho1 hb1) | (go_at_call_of 53 (Value.int IntKind.i64 (k : Int)); (refine (refnumber_any (k : Int) _ (by omega)).mono ?_); rintro e w2 ⟨r2, rfl, ho2, hb2⟩; have hbb2 := (unhide HB1).trans (hb2.mono (unhide HB1).size); have q2 := (hbb2.cell (p := ⟨J, 1, none⟩) hJl).trans c1; have HB2 := hide hbb2; have HO12 := hide ((unhide HO1).later hb2); have HO2 := hide ho2; clear hb2 ho2 hbb2) | (refine step_append_sl rfl (.tmp 26) (.tmp 33) rfl w.heap.size (unhide HB2).size r1 _ rfl (unhide HO12) r2 _ rfl (unhide HO2).sl (by rw [show (2 : Int).toNat = 2 from rfl, enc_k2, Int.toNat_natCast]; simp; omega) ?_; intro v4 w4 ho4 hg4; have hbb4 := (unhide HB2).grown hg4 (unhide HB2).size (fun k hk => (World.ownsRow.lt (unhide HO12) k hk).1); have q4 := (hbb4.cell (p := ⟨J, 1, none⟩) hJl).trans c1; have HB4 := hide hbb4; have HO4 : Hid (Own w.heap.size w4 v4 (Ch.first k).enc) := ho4; clear ho4 hg4 hbb4) | (go_at_call 52; (refine (unhide HD w4 v4 (unhide HB4) (unhide HO4)).mono ?_); rintro e w5 ⟨rfl, hr5, hf5⟩; obtain ⟨P5, hrj5⟩ := hr5.rj; have q5 : w5.cell? ⟨J, 1, none⟩ = some (.int .i64 (b : Int)) := hrj5.c1; have HR5 := hide hr5; have HF5 := hide hf5; clear hr5 hf5 hrj5))
  all_goals go_wp2
  all_goals go_ret
  all_goals exact ⟨rfl, unhide HR5, unhide HF5⟩

theorem refcut_j_no (J M t v o b : Nat) (d : List UInt8) (L : List (List UInt8)) (n : Int) (P : Nat → Prop) (w : World) (hrj : Rj P w J M t v o (b, d, L)) (h1 : n < b ∨ b + L.length < n) (hL : L.length ≤ 1099511627776) (hb40 : b ≤ 1099511627776) :
    Calls Try.prog 15 #[.pointer (some ⟨J, 0, none⟩), .int .i64 n] w fun e w' => e = .returned (.int .i64 71) ∧ Below w.heap.size w w' := by
  have c1 : w.cell? ⟨J, 1, none⟩ = some (.int .i64 (b : Int)) := hrj.c1
  obtain ⟨lv, l1, l2⟩ := hrj.c3
  obtain ⟨lo, lc, rfl, _⟩ := id l2
  replace l1 : w.cell? ⟨J, 3, none⟩ = some (.slice lo L.length lc) := l1
  clear hrj l2
  have hw0 : IntKind.i64.wrap ((b : Int) + (L.length : Int)) = (b : Int) + (L.length : Int) := by rw [IntKind.wrap_i64]; omega
  by_cases h0 : n < b
  · clear h1
    have hd0 : decide (n < (b : Int)) = true := by simpa using h0
    go_enter Try.func15, Try.ntmps15
    go_wp2_with fail
    go_quiet (fail)
    go_wp2
    go_ret
    exact ⟨rfl, belowN (Below.refl _ _) _⟩
  · have h2 : (b : Int) + (L.length : Int) < n := by omega
    have hd0 : decide (n < (b : Int)) = false := by simpa using h0
    have hd2 : decide ((b : Int) + (L.length : Int) < n) = true := by simpa using h2
    clear h1
    go_enter Try.func15, Try.ntmps15
    go_wp2_with fail
    go_quiet (fail)
    go_wp2
    go_ret
    exact ⟨rfl, belowN (Below.refl _ _) _⟩

theorem refrebase_no (J : Nat) (n : Int) (ao : Option Addr) (m c : Nat) (w : World) (hn : n < 0 ∨ 1099511627776 < n) :
    Calls Try.prog 17 #[.pointer (some ⟨J, 0, none⟩), .int .i64 n, .slice ao m c] w fun e w' => e = .returned (.int .i64 71) ∧ Below w.heap.size w w' := by
  by_cases h0 : n < 0
  · clear hn
    go_enter Try.func17, Try.ntmps17
    go_wp2
    go_ret
    exact ⟨rfl, Below.refl _ _⟩
  · have h1 : (1099511627776 : Int) < n := by omega
    clear hn
    go_enter Try.func17, Try.ntmps17
    go_wp2
    go_ret
    exact ⟨rfl, Below.refl _ _⟩

set_option maxHeartbeats 1000000 in
theorem refrebase_j (J M : Nat) (nf nc sf sc : List UInt8) (t v o b : Nat) (d l : List UInt8) (L : List (List UInt8)) (n : Nat) (x : Value) (w : World) (h : Rjd S w J M nf nc sf sc t v o (b, d, L)) (hS : ∀ k, w.heap.size ≤ k → S k) (hx : Sl w x l) (hl : l.length ≤ 65516) (hn : n ≤ 1099511627776) (hL : L.length ≤ 1099511627776) (hb40 : b ≤ 1099511627776) (hb : nf.length + (8 + (Ch.lay n l).enc.length) ≤ 16777216) :
    Calls Try.prog 17 #[.pointer (some ⟨J, 0, none⟩), .int .i64 n, x] w fun e w' => e = .returned (.int .i64 0) ∧ Rjd S w' J M (nf ++ fr (Ch.lay n l).enc) nc sf sc t v o (n, l, L.drop (goneN b n L.length)) ∧ Fr S w w' := by
  obtain ⟨ao, c, rfl, hc1, hc2, _⟩ := id hx
  unfold maxLen at hc2
  have hd1 := fun w4 x (hb4 : Below w.heap.size w w4) ho => does_in (S := S) (w4 := w4) (st' := (n, l, L.drop (goneN b n L.length))) (Ch.lay n l) x h hS hb4 ho ⟨hn, by show l.length ≤ 65516; omega⟩ (by show some (n, l, _) = some (n, l, _); rw [goneN_drop]) hb hL hb40
  have HD := hide hd1
  have Hx := hide hx
  have he9 : (encT (bs l)).length ≤ 3 + l.length := encT_len l (by omega)
  have hbs : (bs l).size ≤ 1099511627776 := by rw [bs_size]; omega
  have hn9 := enc_len6 hn
  have t0 : ¬ (n : Int) < 0 := by omega
  have t1 : ¬ (1099511627776 : Int) < (n : Int) := by omega
  have t2 : ¬ (65516 : Int) < (l.length : Int) := by omega
  clear h hx hd1 hb hS
  generalize hX : bs l = X at *
  have HX := hide hX
  clear hX
  go_enter Try.func17, Try.ntmps17
  go_wp2_with fail
  refine (refnumber_any 3 _ (by decide)).mono ?_
  rintro e w1 ⟨r1, rfl, ho1, hb1⟩
  have HO1 := hide ho1
  have HB1 := hide hb1
  clear ho1 hb1
  go_wp2_with fail
  refine (refnumber_any (n : Int) _ (by omega)).mono ?_
  rintro e w2 ⟨r2, rfl, ho2, hb2⟩
  rw [Int.toNat_natCast] at ho2
  have HO12 := hide ((unhide HO1).later hb2)
  have HO2 := hide ho2
  have HB2 := hide ((unhide HB1).trans (hb2.mono (unhide HB1).size))
  clear ho2 hb2 HO1 HB1
  go_wp2_with (at_builtin; refine wpList_append_sl _ rfl (.tmp 19) (.tmp 21) rfl w.heap.size (unhide HB2).size _ _ rfl (unhide HO12) _ _ rfl (unhide HO2).sl (by rw [show (3 : Int).toNat = 3 from rfl, enc_k3]; simp; omega) ?_)
  intro v3 w3 ho3 hg3
  have hb3 := (unhide HB2).grown hg3 (unhide HB2).size (fun k hk => (World.ownsRow.lt (unhide HO12) k hk).1)
  have HO3 : Hid (Own w.heap.size w3 v3 (enc 3 ++ enc n)) := ho3
  have HB3 := hide hb3
  have hcv3 := conv_sl w3 _ _ ((unhide Hx).later hb3)
  rw [unhide HX] at hcv3
  clear ho3 hg3 hb3 HO12 HO2 HB2
  go_wp2_with fail
  refine (reftext_any X _ hbs).mono ?_
  rintro e w4 ⟨r4, rfl, ho4, hb4⟩
  have HO34 := hide ((unhide HO3).later hb4)
  have HO4 := hide ho4
  have HB4 := hide ((unhide HB3).trans (hb4.mono (unhide HB3).size))
  clear ho4 hb4 HO3 HB3 hcv3
  go_wp2_with (at_builtin; refine wpList_append_sl _ rfl (.tmp 23) (.tmp 26) rfl w.heap.size (unhide HB4).size _ _ rfl (unhide HO34) _ _ rfl (unhide HO4).sl (by rw [enc_k3]; simp; omega) ?_)
  intro v5 w5 ho5 hg5
  have hb5 := (unhide HB4).grown hg5 (unhide HB4).size (fun k hk => (World.ownsRow.lt (unhide HO34) k hk).1)
  have HO5 : Hid (Own w.heap.size w5 v5 (Ch.lay n l).enc) := by
    show Own _ _ _ ((enc 3 ++ enc n) ++ encT (bs l))
    rw [unhide HX, List.append_assoc]
    exact ho5
  have HB5 := hide hb5
  clear ho5 hg5 hb5 HO34 HO4 HB4
  go_wp2_with fail
  refine (unhide HD w5 v5 (unhide HB5) (unhide HO5)).mono ?_
  rintro e w6 ⟨rfl, hr6, hf6⟩
  have HR6 := hide hr6
  have HF6 := hide hf6
  clear hr6 hf6
  go_wp2
  go_ret
  exact ⟨rfl, unhide HR6, unhide HF6⟩

end

end Go.Proofs.Yteanjnkfoddfmaa
