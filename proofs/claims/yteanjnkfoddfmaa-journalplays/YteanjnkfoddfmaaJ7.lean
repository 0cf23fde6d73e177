/-
  Contracts of what a journal has, told by value, and of whether two such are one. No law is proved here.
  Two journals on two disks beside other memory. No law is proved here.
-/
import Derived.Test.YteanjnkfoddfmaaJ6
namespace Go.Proofs.Yteanjnkfoddfmaa
open Go.RowKit
set_option linter.unusedVariables false

theorem results_w1 {fn : Func} {k : Nat} (hf : fn.results = #[.cell k 56]) {tmps : Array Value} {w : World} {B : Nat} {a b c : Value} (hk : tmps[k]? = some (.pointer (some ⟨B, 0, none⟩)))
    (h0 : w.cell? ⟨B, 0, none⟩ = some a) (h1 : w.cell? ⟨B, 1, none⟩ = some b) (h2 : w.cell? ⟨B, 2, none⟩ = some c) : (results fn tmps).run Try.prog w = .ok (.agg #[a, b, c]) w := by
  simp [results, hf, go_sem, h0, h1, h2, hk]

theorem Sl.keep {w : World} {v : Value} {l : List UInt8} (h : Sl w v l) {p : Addr} {y : Value} (hy : w.cell? p = some y) (hn : ∀ k, y ≠ .int .u8 k) (x : Value) : Sl (w.setCell p x) v l := by
  obtain ⟨bo, d, e, a1, a2, a3, a4⟩ := h
  refine ⟨bo, d, e, a1, a2, a3, fun a ha i u hu => ?_⟩
  have hc := a4 a ha i u hu
  rw [World.cell?_setCell_other w _ _ _ (fun e => ?_)]
  · exact hc
  · rw [← e, hy] at hc
    injection hc with hc
    rw [bc_get] at hu
    cases hl : l[i]? with
    | none => rw [hl] at hu; cases hu
    | some z => rw [hl] at hu; cases hu; exact hn _ hc

theorem sl_three {w : World} {v : Value} {l : List UInt8} (h : Sl w v l) {N : Nat} {a : Int} {s : ByteArray} {ao : Option Addr} {n c : Nat} (k0 : w.cell? ⟨N, 0, none⟩ = some (.int .i64 a)) (k1 : w.cell? ⟨N, 1, none⟩ = some (.string s)) (k2 : w.cell? ⟨N, 2, none⟩ = some (.slice ao n c)) (x y z : Value) :
    Sl (((w.setCell ⟨N, 0, none⟩ x).setCell ⟨N, 1, none⟩ y).setCell ⟨N, 2, none⟩ z) v l := by
  have e1 : (w.setCell ⟨N, 0, none⟩ x).cell? ⟨N, 1, none⟩ = some (.string s) := (World.cell?_setCell_other w _ _ _ (by simp)).trans k1
  have e2 : ((w.setCell ⟨N, 0, none⟩ x).setCell ⟨N, 1, none⟩ y).cell? ⟨N, 2, none⟩ = some (.slice ao n c) := (World.cell?_setCell_other _ _ _ _ (by simp)).trans ((World.cell?_setCell_other w _ _ _ (by simp)).trans k2)
  exact ((h.keep k0 (fun k => by simp) x).keep e1 (fun k => by simp) y).keep e2 (fun k => by simp) z

set_option maxRecDepth 100000 in
set_option maxHeartbeats 1000000 in
theorem seen_any (B D t v o b : Nat) (d : List UInt8) (L : List (List UInt8)) (rv : Value) (w : World) (h : Jp w B D t v o (b, d, L) rv) (hd : d.length ≤ 1099511627776) (hL : ∀ x ∈ L, x.length ≤ 1099511627776) :
    Calls Try.prog 32 #[.pointer (some ⟨B, 0, none⟩)] w fun e w' => ∃ g, e = .returned (.agg #[.int .i64 b, .string (bs d), .slice (some ⟨g, 0, none⟩) L.length L.length]) ∧ Bsq (fun k => w.heap.size ≤ k ∧ k < w'.heap.size) w' (.slice (some ⟨g, 0, none⟩) L.length L.length) L ∧ Below w.heap.size w w' := by
  have hb0 : Below w.heap.size w (w.alloc (.cells #[.int .i64 0, .string ⟨#[]⟩, .slice none 0 0] 56)) := below_new w _
  have hlt : w.heap.size < (w.alloc (.cells #[.int .i64 0, .string ⟨#[]⟩, .slice none 0 0] 56)).heap.size := by simp
  have n0 : (w.alloc (.cells #[.int .i64 0, .string ⟨#[]⟩, .slice none 0 0] 56)).cell? ⟨w.heap.size, 0, none⟩ = some (.int .i64 0) := by simp
  have n1 : (w.alloc (.cells #[.int .i64 0, .string ⟨#[]⟩, .slice none 0 0] 56)).cell? ⟨w.heap.size, 1, none⟩ = some (.string ⟨#[]⟩) := by simp
  have n2 : (w.alloc (.cells #[.int .i64 0, .string ⟨#[]⟩, .slice none 0 0] 56)).cell? ⟨w.heap.size, 2, none⟩ = some (.slice none 0 0) := by simp
  have fz : ∀ j, (w.alloc (.cells #[.int .i64 0, .string ⟨#[]⟩, .slice none 0 0] 56)).frozen? ⟨w.heap.size, j, none⟩ = false := fun j => by simp
  have Hj := hide (h.later hb0)
  have HB0 := hide hb0
  clear h hb0
  go_enter Try.func32, Try.ntmps32
  go_wp2_with fail
  generalize w.alloc (.cells #[.int .i64 0, .string ⟨#[]⟩, .slice none 0 0] 56) = W at *
  refine (base_any B D t v o b d L rv W (unhide Hj) hd).mono ?_
  rintro e w2 ⟨g2, c2, rfl, hs2, hb2⟩
  have hcv := conv_sl w2.drew _ _ (hs2.later (Below.refl _ _).drew)
  have Hs2 := hide hs2
  have HB2 := hide hb2
  have Hj2 := hide ((unhide Hj).later hb2)
  clear hs2 hb2 Hj
  generalize hX : bs d = X at *
  have HX := hide hX
  clear hX
  go_wp2_with fail
  go_region_held (fun w' => (convert 26 9 (.slice (some ⟨g2, 0, none⟩) d.length c2)).run Try.prog w' = .ok (.string X) w') (first | assumption | (apply hcv4) | go_keep) (first | (go_at_call 36; refine (records_b B D t v o b d L rv _ ((unhide Hj2).drew) hL L.length rfl).mono ?_; rintro e w3 ⟨g3, rfl, hq3, hb3⟩; have hbb3 := (Below.refl _ _).drew.trans hb3; have hcv3 : (convert 26 9 (.slice (some ⟨g2, 0, none⟩) d.length c2)).run Try.prog w3 = .ok (.string X) w3 := (by have := conv_sl w3 _ _ ((unhide Hs2).later hbb3); rw [unhide HX] at this; exact this); have hB3 := (unhide HB2).trans (hbb3.mono (unhide HB2).size); have k0 := (hB3.cell (p := ⟨w.heap.size, 0, none⟩) hlt).trans n0; have k1 := (hB3.cell (p := ⟨w.heap.size, 1, none⟩) hlt).trans n1; have k2 := (hB3.cell (p := ⟨w.heap.size, 2, none⟩) hlt).trans n2; have f0 := (hB3.frozen (p := ⟨w.heap.size, 0, none⟩) hlt).trans (fz 0); have f1 := (hB3.frozen (p := ⟨w.heap.size, 1, none⟩) hlt).trans (fz 1); have f2 := (hB3.frozen (p := ⟨w.heap.size, 2, none⟩) hlt).trans (fz 2); have hcv4 : ∀ x y z, (convert 26 9 (.slice (some ⟨g2, 0, none⟩) d.length c2)).run Try.prog (((w3.setCell ⟨w.heap.size, 0, none⟩ x).setCell ⟨w.heap.size, 1, none⟩ y).setCell ⟨w.heap.size, 2, none⟩ z) = .ok (.string X) (((w3.setCell ⟨w.heap.size, 0, none⟩ x).setCell ⟨w.heap.size, 1, none⟩ y).setCell ⟨w.heap.size, 2, none⟩ z) := (fun x y z => by have := conv_sl _ _ _ (sl_three ((unhide Hs2).later hbb3) k0 k1 k2 x y z); rw [unhide HX] at this; exact this); have HQ3 := hide hq3; have HB3 := hide hB3; have HZ := hide (unhide HB2).size; clear hq3 hb3 hbb3 hB3))
  go_wp2
  obtain ⟨d0, d1, d2⟩ := set3 w3 w.heap.size _ _ _ (.int .i64 (b : Int)) (.string X) (.slice (some ⟨g3, 0, none⟩) L.length L.length) k0 k1 k2
  refine bodyPost_ret (results_w1 Try.results32 rfl d0 d1 d2) rfl ?_
  rw [unhide HX]
  refine ⟨g3, rfl, ((unhide HQ3).frame (fun k hk => ?_)).mono (fun k hk => ?_), ((((unhide HB0).trans ((unhide HB3).mono (Nat.le_of_lt hlt))).setCell (Nat.le_refl _) _).setCell (Nat.le_refl _) _).setCell (Nat.le_refl _) _⟩
  · have h1 : w2.heap.size ≤ k := hk.1
    have h2 := unhide HZ
    rw [Below.heap_setCell _ _ _ _ (by show k ≠ w.heap.size; omega), Below.heap_setCell _ _ _ _ (by show k ≠ w.heap.size; omega), Below.heap_setCell _ _ _ _ (by show k ≠ w.heap.size; omega)]
  · have h1 : w2.heap.size ≤ k := hk.1
    have h2 := unhide HZ
    exact ⟨by omega, by simpa [World.setCell] using hk.2⟩

/-- What a journal had, by value. -/
def WasV (b : Nat) (d : List UInt8) (v : Value) : Value := .agg #[.int .i64 b, .string (bs d), v]

set_option maxRecDepth 100000 in
set_option maxHeartbeats 1000000 in
theorem was_any (b b' : Nat) (d d' : List UInt8) (L L' : List (List UInt8)) (v v' : Value) (w : World) (h : Bss w v L) (h' : Bss w v' L') :
    Calls Try.prog 34 #[.agg #[.int .i64 b, .string (bs d), v], .agg #[.int .i64 b', .string (bs d'), v']] w fun e w' => ∃ r, e = .returned (.bool r) ∧ (b = b' → d = d' → L = L' → r = true) ∧ Below w.heap.size w w' := by
  have hb0 : Below w.heap.size w ((w.alloc (.cells #[.int .i64 b, .string (bs d), v] 56)).alloc (.cells #[.int .i64 b', .string (bs d'), v'] 56)) := (below_new w _).alloc (by simp) _
  obtain ⟨ao, c, rfl, _⟩ := id h
  obtain ⟨bo, c', rfl, _⟩ := id h'
  have H := hide (h.below hb0 (Nat.le_refl _))
  have H' := hide (h'.below hb0 (Nat.le_refl _))
  have HB0 := hide hb0
  have a0 : ((w.alloc (.cells #[.int .i64 b, .string (bs d), .slice ao L.length c] 56)).alloc (.cells #[.int .i64 b', .string (bs d'), .slice bo L'.length c'] 56)).cell? ⟨w.heap.size, 0, none⟩ = some (.int .i64 b) := Lib.cell?_alloc_some _ (by simp)
  have a1 : ((w.alloc (.cells #[.int .i64 b, .string (bs d), .slice ao L.length c] 56)).alloc (.cells #[.int .i64 b', .string (bs d'), .slice bo L'.length c'] 56)).cell? ⟨w.heap.size, 1, none⟩ = some (.string (bs d)) := Lib.cell?_alloc_some _ (by simp)
  have a2 : ((w.alloc (.cells #[.int .i64 b, .string (bs d), .slice ao L.length c] 56)).alloc (.cells #[.int .i64 b', .string (bs d'), .slice bo L'.length c'] 56)).cell? ⟨w.heap.size, 2, none⟩ = some (.slice ao L.length c) := Lib.cell?_alloc_some _ (by simp)
  have hsz : (w.alloc (.cells #[.int .i64 b, .string (bs d), .slice ao L.length c] 56)).heap.size = w.heap.size + 1 := by simp
  have b0 : ((w.alloc (.cells #[.int .i64 b, .string (bs d), .slice ao L.length c] 56)).alloc (.cells #[.int .i64 b', .string (bs d'), .slice bo L'.length c'] 56)).cell? ⟨w.heap.size + 1, 0, none⟩ = some (.int .i64 b') := by rw [← hsz]; exact World.cell?_alloc_new _ _ _ 0
  have b1 : ((w.alloc (.cells #[.int .i64 b, .string (bs d), .slice ao L.length c] 56)).alloc (.cells #[.int .i64 b', .string (bs d'), .slice bo L'.length c'] 56)).cell? ⟨w.heap.size + 1, 1, none⟩ = some (.string (bs d')) := by rw [← hsz]; exact World.cell?_alloc_new _ _ _ 1
  have b2 : ((w.alloc (.cells #[.int .i64 b, .string (bs d), .slice ao L.length c] 56)).alloc (.cells #[.int .i64 b', .string (bs d'), .slice bo L'.length c'] 56)).cell? ⟨w.heap.size + 1, 2, none⟩ = some (.slice bo L'.length c') := by rw [← hsz]; exact World.cell?_alloc_new _ _ _ 2
  have hX : (bs d = bs d') ↔ d = d' := ⟨bs_inj, fun e => by rw [e]⟩
  have HX := hide hX
  clear h h' hb0 hsz hX
  go_enter Try.func34, Try.ntmps34
  go_wp2_with fail
  generalize ((w.alloc (.cells #[.int .i64 b, .string (bs d), .slice ao L.length c] 56)).alloc (.cells #[.int .i64 b', .string (bs d'), .slice bo L'.length c'] 56)) = W at *
  refine (same_any _ _ L L' W (unhide H) (unhide H')).mono ?_
  rintro e w2 ⟨r, rfl, hr, q, rfl⟩
  have Hr := hide hr
  clear hr
  have hXY : ((bs d).toList == (bs d').toList) = decide (d = d') := by
    rw [bs_list, bs_list, Bool.eq_iff_iff]
    simp
  have hXn : d ≠ d' → ¬ bs d = bs d' := fun h e => h (bs_inj e)
  have hXe : d = d' → bs d = bs d' := fun e => by rw [e]
  generalize bs d = X at *
  generalize bs d' = Y at *
  cases r with
  | false =>
    clear hXY hXn hXe
    go_wp2
    go_ret
    exact ⟨false, by simp, fun _ _ e => absurd (unhide Hr e) (by simp), belowN (unhide HB0) q⟩
  | true =>
    by_cases hb : b = b'
    · have e1 : ((b : Int) == (b' : Int)) = true := by simp [hb]
      by_cases hd : d = d'
      · have e3 := hXe hd
        subst e3
        clear hXY hXn hXe
        go_wp2
        go_ret
        exact ⟨true, by simp_all, fun _ _ _ => rfl, belowN (unhide HB0) q⟩
      · have e2 : (X.toList == Y.toList) = false := by rw [hXY]; simpa using hd
        have e3 := hXn hd
        clear hXY hXn hXe
        go_wp2
        go_ret
        exact ⟨false, by simp_all, fun _ e => absurd e hd, belowN (unhide HB0) q⟩
    · have e1 : ((b : Int) == (b' : Int)) = false := by rw [beq_eq_false_iff_ne]; omega
      go_wp2
      go_ret
      exact ⟨false, by simp, fun e => absurd e hb, belowN (unhide HB0) q⟩

end Go.Proofs.Yteanjnkfoddfmaa

namespace Go.Proofs.Yteanjnkfoddfmaa
open Go.RowKit
set_option linter.unusedVariables false

/-- A journal's disk, hard numbers, and state. -/
structure Jst where
  nf : List UInt8
  nc : List UInt8
  sf : List UInt8
  sc : List UInt8
  t : Nat
  v : Nat
  o : Nat
  st : St

abbrev JdX (S : Nat → Prop) (W : World) (B D : Nat) (x : Jst) : Prop := Jd S W B D x.nf x.nc x.sf x.sc x.t x.v x.o x.st

/-- Two journals, all in memory that is new since w, apart from one another and from P; what is in P is there. -/
def Duo (w : World) (P : Nat → Prop) (W : World) (B1 D1 B2 D2 : Nat) (x y : Jst) : Prop :=
  ∃ S1 S2, JdX S1 W B1 D1 x ∧ JdX S2 W B2 D2 y ∧ (∀ k, S1 k → w.heap.size ≤ k) ∧ (∀ k, S2 k → w.heap.size ≤ k) ∧ (∀ k, S1 k → ¬ S2 k) ∧ (∀ k, P k → ¬ S1 k ∧ ¬ S2 k) ∧ (∀ k, P k → k < W.heap.size) ∧ Below w.heap.size w W

section
variable {w W W' : World} {P : Nat → Prop} {B1 D1 B2 D2 : Nat} {x y : Jst}

theorem Duo.below (h : Duo w P W B1 D1 B2 D2 x y) : Below w.heap.size w W := by obtain ⟨_, _, _, _, _, _, _, _, _, h⟩ := h; exact h
theorem Duo.plt (h : Duo w P W B1 D1 B2 D2 x y) : ∀ k, P k → k < W.heap.size := by obtain ⟨_, _, _, _, _, _, _, _, h, _⟩ := h; exact h
theorem Duo.jp1 (h : Duo w P W B1 D1 B2 D2 x y) : ∃ rv, Jp W B1 D1 x.t x.v x.o x.st rv := by obtain ⟨_, _, h, _⟩ := h; exact h.jp
theorem Duo.jp2 (h : Duo w P W B1 D1 B2 D2 x y) : ∃ rv, Jp W B2 D2 y.t y.v y.o y.st rv := by obtain ⟨_, _, _, h, _⟩ := h; exact h.jp
theorem Duo.dk1 (h : Duo w P W B1 D1 B2 D2 x y) : ∃ S, Dk S W D1 x.nf x.nc x.sf x.sc := by obtain ⟨_, _, h, _⟩ := h; exact ⟨_, h.dk⟩
theorem Duo.dk2 (h : Duo w P W B1 D1 B2 D2 x y) : ∃ S, Dk S W D2 y.nf y.nc y.sf y.sc := by obtain ⟨_, _, _, h, _⟩ := h; exact ⟨_, h.dk⟩

theorem Duo.later (h : Duo w P W B1 D1 B2 D2 x y) (hb : Below W.heap.size W W') : Duo w P W' B1 D1 B2 D2 x y := by
  obtain ⟨S1, S2, h1, h2, h3, h4, h5, h6, h7, h8⟩ := h
  exact ⟨S1, S2, h1.later hb, h2.later hb, h3, h4, h5, h6, fun k hk => Nat.lt_of_lt_of_le (h7 k hk) hb.size, h8.trans (hb.mono h8.size)⟩

/-- What was laid since stays, too. -/
theorem Duo.grow (h : Duo w P W B1 D1 B2 D2 x y) (hb : Below W.heap.size W W') (Q : Nat → Prop) (hQ : ∀ k, Q k → W.heap.size ≤ k ∧ k < W'.heap.size) : Duo w Q W' B1 D1 B2 D2 x y := by
  obtain ⟨S1, S2, h1, h2, h3, h4, h5, h6, h7, h8⟩ := h
  refine ⟨fun k => S1 k ∧ k < W.heap.size, fun k => S2 k ∧ k < W.heap.size, h1.shrink.later hb, h2.shrink.later hb, fun k hk => h3 k hk.1, fun k hk => h4 k hk.1, fun k hk hs => h5 k hk.1 hs.1, fun k hk => ⟨fun hs => ?_, fun hs => ?_⟩, fun k hk => (hQ k hk).2, h8.trans (hb.mono h8.size)⟩
  · have := (hQ k hk).1; have := hs.2; omega
  · have := (hQ k hk).1; have := hs.2; omega

theorem Duo.op1 {F : Nat} {args : Array Value} {r : Ending} {x' : Jst} (h : Duo w P W B1 D1 B2 D2 x y)
    (hc : ∀ S, JdX S W B1 D1 x → (∀ k, W.heap.size ≤ k → S k) → Calls Try.prog F args W fun e w' => e = r ∧ JdX S w' B1 D1 x' ∧ Fr S W w') :
    Calls Try.prog F args W fun e w' => e = r ∧ Duo w P w' B1 D1 B2 D2 x' y ∧ Kept P W w' := by
  obtain ⟨S1, S2, h1, h2, h3, h4, h5, h6, h7, h8⟩ := h
  have hj := Jd.ready h1 (Below.refl _ W)
  have hS : ∀ k, (S1 k ∧ k < W.heap.size) ∨ W.heap.size ≤ k → w.heap.size ≤ k := fun k hk => hk.elim (fun h => h3 k h.1) (fun h => Nat.le_trans h8.size h)
  have hP : ∀ k, P k → ¬ ((S1 k ∧ k < W.heap.size) ∨ W.heap.size ≤ k) := fun k hk hs => hs.elim (fun h => (h6 k hk).1 h.1) (fun h => by have := h7 k hk; omega)
  have hd : ∀ k, ((S1 k ∧ k < W.heap.size) ∨ W.heap.size ≤ k) → ¬ (S2 k ∧ k < W.heap.size) := fun k hk hs => hk.elim (fun h => h5 k h.1 hs.1) (fun h => by have := hs.2; omega)
  refine (hc _ hj (fun k hk => .inr hk)).mono ?_
  rintro e w' ⟨rfl, hj', hf'⟩
  exact ⟨rfl, ⟨_, fun k => S2 k ∧ k < W.heap.size, hj', (Jd.shrink h2).other hf' (fun k _ hs ht => hd k ht hs), hS, fun k hk => h4 k hk.1, hd, fun k hk => ⟨hP k hk, fun hs => (h6 k hk).2 hs.1⟩, fun k hk => Nat.lt_of_lt_of_le (h7 k hk) hf'.size, Fr.bl h8 hf' hS⟩, fun k hk => hf'.block k (h7 k hk) (hP k hk)⟩

theorem Duo.swap (h : Duo w P W B1 D1 B2 D2 x y) : Duo w P W B2 D2 B1 D1 y x := by
  obtain ⟨S1, S2, h1, h2, h3, h4, h5, h6, h7, h8⟩ := h
  exact ⟨S2, S1, h2, h1, h4, h3, fun k h2 h1 => h5 k h1 h2, fun k hk => ⟨(h6 k hk).2, (h6 k hk).1⟩, h7, h8⟩

theorem Duo.op2 {F : Nat} {args : Array Value} {r : Ending} {y' : Jst} (h : Duo w P W B1 D1 B2 D2 x y)
    (hc : ∀ S, JdX S W B2 D2 y → (∀ k, W.heap.size ≤ k → S k) → Calls Try.prog F args W fun e w' => e = r ∧ JdX S w' B2 D2 y' ∧ Fr S W w') :
    Calls Try.prog F args W fun e w' => e = r ∧ Duo w P w' B1 D1 B2 D2 x y' ∧ Kept P W w' := by
  refine (h.swap.op1 hc).mono ?_
  rintro e w' ⟨rfl, h1, h2⟩
  exact ⟨rfl, h1.swap, h2⟩
end

end Go.Proofs.Yteanjnkfoddfmaa
