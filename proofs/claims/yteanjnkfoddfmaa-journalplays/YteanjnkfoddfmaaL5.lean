/-
  wampumref02.Sum: what it answers.
  Bytes appended to a row of the call's own, whatever they are; a literal row. No law is proved here.
  wampumref02.Four, Of, Frame, first, Whole: what they answer.
  wampumref02.Scan, Whole: what they answer.
-/
import Derived.Test.YteanjnkfoddfmaaL4
namespace Go.Proofs.Yteanjnkfoddfmaa
open Go.RowKit
set_option linter.unusedVariables false

theorem ref_test (y cn m : Nat) : ((y : Int) % 2 != (cn : Int) / 2 ^ m % 2) = decide (¬ y % 2 = cn / 2 ^ m % 2) := by
  have e1 : (y : Int) % 2 = ((y % 2 : Nat) : Int) := by omega
  have e2 : (cn : Int) / 2 ^ m % 2 = ((cn / 2 ^ m % 2 : Nat) : Int) := by simp
  rw [e1, e2]
  by_cases h : y % 2 = cn / 2 ^ m % 2
  · rw [h]; simp
  · rw [decide_eq_true h, bne_iff_ne]; omega

set_option maxRecDepth 100000 in
set_option maxHeartbeats 1000000 in
theorem refsum_any (v : Value) (l : List UInt8) (w : World) (hs : Sl w v l) :
    Calls Try.prog 76 #[v] w fun e w' => e = .returned (.int .u32 (crc l)) ∧ w' = w := by
  have hv : ∃ ao c, v = .slice ao l.length c ∧ l.length ≤ c ∧ c ≤ maxLen := by obtain ⟨ao, c, rfl, h1, h2, _⟩ := hs; exact ⟨_, _, rfl, h1, h2⟩
  obtain ⟨ao, c, rfl, h1, h2⟩ := hv
  unfold maxLen at h2
  have Hs : Hid (Sl w (.slice ao l.length c) l) := hs
  clear hs
  go_enter Try.func76, Try.ntmps76
  go_wp2
  go_loop [3, 4] (fun s i => ∃ (k n : Nat), k ≤ l.length ∧ i = .int .i64 k ∧ s = .int .u32 n ∧ n < 4294967296 ∧ Hid (n = crcS 4294967295 (l.take k))) (fun _ i => l.length - (intOf i).toNat)
  case atStart => exact ⟨0, 4294967295, by omega, rfl, rfl, by decide, rfl⟩
  case round =>
    obtain ⟨k, n, hk, rfl, rfl, hn, Hn⟩ := hrel
    by_cases hlt : k < l.length
    · obtain ⟨b, o, rfl⟩ := Hs.out.addr (by omega)
      have hc := Hs.out.cell k hlt
      have hcb : (l[k].toNat : Int) < 256 := by have := l[k].toNat_lt; omega
      obtain ⟨cn, hcn⟩ : ∃ cn, Hid (l[k].toNat = cn) := ⟨l[k].toNat, Eq.refl l[k].toNat⟩
      rw [hcn.out] at hc hcb
      go_wp2
      go_loop [3, 5] (fun s j => ∃ (m y : Nat), m ≤ 8 ∧ j = .int .i64 m ∧ s = .int .u32 y ∧ y < 4294967296 ∧ Hid (y ^^^ (cn / 2 ^ m) = stpN m (n ^^^ cn))) (fun _ j => 8 - (intOf j).toNat)
      case atStart => exact ⟨0, n, by omega, rfl, rfl, hn, by show _ = _; simp [stpN]⟩
      case round =>
        obtain ⟨m, y, hm, rfl, rfl, hy, Hy⟩ := hrel
        by_cases hm8 : m < 8
        · by_cases hbit : y % 2 = cn / 2 ^ m % 2
          · have ht := ref_test y cn m
            rw [decide_eq_false (by simpa using hbit)] at ht
            have hst := ref_step n cn m y Hy.out
            rw [if_pos hbit] at hst
            have Hst := hide hst
            clear hst
            go_wp2
            go_round
            case rel => exact ⟨m + 1, y / 2, by omega, by go_num, by go_num, by omega, unhide Hst⟩
            case measure => simp [intOf]; omega
          · have ht := ref_test y cn m
            rw [decide_eq_true hbit] at ht
            have hst := ref_step n cn m y Hy.out
            rw [if_neg hbit] at hst
            have Hst := hide hst
            clear hst
            go_wp2
            go_round
            case rel =>
              refine ⟨m + 1, (y / 2) ^^^ 3988292384, by omega, by go_num, ?_, Nat.xor_lt_two_pow (n := 32) (by omega) (by decide), unhide Hst⟩
              have e : (y : Int) / 2 = ((y / 2 : Nat) : Int) := by omega
              rw [e, show (3988292384 : Int) = ((3988292384 : Nat) : Int) from rfl, u32_xor_nat _ _ (by omega) (by decide)]
            case measure => simp [intOf]; omega
        · go_wp2
          go_round
          case rel =>
            refine ⟨k + 1, y, by omega, by go_num, rfl, hy, ?_⟩
            have e8 : m = 8 := by omega
            subst e8
            show y = _
            have hcz : cn / 2 ^ 8 = 0 := Nat.div_eq_of_lt (by omega)
            have hyo := Hy.out
            rw [hcz, Nat.xor_zero] at hyo
            rw [hyo, take_snoc l k hlt, crcS_snoc, ← Hn.out]
            unfold bstep
            rw [hcn.out]
          case measure => simp [intOf]; omega
    · go_wp2
      go_ret
      refine ⟨ret_u32 ?_, rfl⟩
      have e : crc l = 4294967295 - n := by
        unfold crc
        rw [ref_last hn, Hn.out, List.take_of_length_le (by omega)]
      rw [e]
      omega

end Go.Proofs.Yteanjnkfoddfmaa

namespace Go.Proofs.Yteanjnkfoddfmaa
open Go.RowKit
set_option linter.unusedVariables false

/-- append of whatever bytes onto a row of the call's own. -/
theorem run_append_sl (w : World) (B : Nat) (hB : B ≤ w.heap.size) (v x : Value) (l news : List UInt8) (h : Own B w v l) (hx : Sl w x news) (hlen : l.length + news.length ≤ 70368744177664) (ty : TypeId) :
    ∃ v' w', (Builtin.append_ #[26, 26] ty #[v, x]).run Try.prog w = .ok v' w' ∧ Own B w' v' (l ++ news) ∧ w.grownBy w' v.ownBlock := by
  obtain ⟨i0, hi, hz0, hz1, hz2⟩ := info_parts Try.infoByte
  obtain ⟨ao, c, rfl, h1, h2, h3, h4⟩ := hx
  cases ao with
  | some a =>
    obtain ⟨v', w', hr, r2, r3, _⟩ := run_append_own (P := Try.prog) w B 26 ty 5 i0 (.int .u8 0) 1 1 Try.underlying26 hi hz0 hz1 hz2 rfl (by decide) v l.length (bc l) h a news.length c (bc news) (by simp [bc_length]) (h4 a rfl) (bc_one _)
      (by unfold maxLen; omega) (by omega) hB
    exact ⟨v', w', hr, by unfold Own; rw [bc_append, List.length_append]; exact r2, r3⟩
  | none =>
    obtain ⟨rfl, rfl⟩ := h3 rfl
    rw [List.append_nil]
    rcases h.2 with ⟨rfl, h0⟩ | ⟨g, cap, cur, rfl, hbg, hg, hnc, hcm, hcs, htake⟩
    · refine ⟨.slice none 0 0, w, ?_, h, World.grownBy.refl _ _⟩
      have hs := Src.ofNil (P := Try.prog) (size := i0.size) w Try.underlying26 0
      simp [Builtin.append_, run_underlying Try.underlying26, sizeOf, typeInfo, hi, hs.len, hs.cells, List.length_nil]
    · refine ⟨_, w, ?_, h, World.grownBy.refl _ _⟩
      have hs := Src.ofNil (P := Try.prog) (size := i0.size) w Try.underlying26 0
      exact run_append_room_src (P := Try.prog) w 26 26 ty 5 i0 Try.underlying26 hi g 0 l.length cap _ 0 [] hs (by omega) (fun j hj => by simp at hj) (fun j hj => by simp at hj)

theorem wpList_append_sl {ops : Array Oper} {rest : List Oper} {o : Oper} {a : Act} {Q : Exit → Act → World → Prop} (w : World) (hgd : o.guard = none) (s x : Operand)
    (ho : o.op = .call { callee := .builtin .append, args := #[s, x], argTypes := #[26, 26] })
    (B : Nat) (hB : B ≤ w.heap.size) (v : Value) (l : List UInt8) (hv : a.eval s = v) (h : Own B w v l) (xv : Value) (news : List UInt8) (hxv : a.eval x = xv) (hx : Sl w xv news)
    (hlen : l.length + news.length ≤ 70368744177664)
    (hK : ∀ v' w', Own B w' v' (l ++ news) → w.grownBy w' v.ownBlock → wpList Try.prog ops Q rest (a.put o.dst v') w') : wpList Try.prog ops Q (o :: rest) a w := by
  refine wpList_plain hgd fun K hK' => ?_
  obtain ⟨v', w', hr, h2, h3⟩ := run_append_sl w B hB v xv l news h hx hlen o.type
  unfold Oper.wp execOp
  simp only [ho, resolve, invoke, builtin, Sem.run_bind, Sem.run_pure, Result.andThen_ok, List.map_toArray, List.map_cons, List.map_nil, hv, hxv, hr]
  exact hK' _ _ (hK v' w' h2 h3)

theorem own_lit (w : World) (cs : Array Value) (l : List UInt8) (h : cs.toList = bc l) (hl : l.length ≤ maxLen) : Own w.heap.size (w.alloc (.cells cs 5)) (.slice (some ⟨w.heap.size, 0, none⟩) l.length l.length) l := by
  unfold Own
  rw [← h]
  refine World.ownsRow_lit w cs l.length (Nat.le_refl _) hl ?_
  rw [← Array.length_toList, h, bc_length, Nat.mul_one]

/-- The value v is a slice of slices that lead to the lists ls in the world w. -/
def Bss (w : World) (v : Value) (ls : List (List UInt8)) : Prop :=
  ∃ ao c, v = .slice ao ls.length c ∧ ls.length ≤ c ∧ c ≤ maxLen ∧ (ao = none → ls = [] ∧ c = 0) ∧ ∀ a, ao = some a → ∀ (j : Nat) (x : List UInt8), ls[j]? = some x → ∃ u, w.cell? (a.add j) = some u ∧ Sl w u x

theorem Bss.below {B : Nat} {w w' : World} {v : Value} {ls : List (List UInt8)} (h : Bss w v ls) (hb : Below B w w') (hB : w.heap.size ≤ B) : Bss w' v ls := by
  obtain ⟨ao, c, rfl, h1, h2, h3, h4⟩ := h
  refine ⟨ao, c, rfl, h1, h2, h3, fun a ha j x hx => ?_⟩
  obtain ⟨u, hc, hs⟩ := h4 a ha j x hx
  refine ⟨u, ?_, hs.below hb hB⟩
  rw [hb.cell (p := a.add j) (Nat.lt_of_lt_of_le (World.block_lt_of_cell? w _ hc) hB)]
  exact hc

theorem Bss.drewN {w : World} {v : Value} {ls : List (List UInt8)} (h : Bss w v ls) (n : Nat) : Bss (w.drewN n) v ls := h

theorem Bss.addr {w : World} {ao : Option Addr} {n c : Nat} {ls : List (List UInt8)} (h : Bss w (.slice ao n c) ls) (hl : 0 < ls.length) : ∃ b o, ao = some ⟨b, o, none⟩ := by
  obtain ⟨bo, d, e, h1, h2, h3, h4⟩ := h
  injection e with e1 e2 e3
  subst e1
  cases ao with
  | none => have := (h3 rfl).1; subst this; simp at hl
  | some a =>
    obtain ⟨u, hc, _⟩ := h4 a rfl 0 ls[0] (List.getElem?_eq_getElem hl)
    rw [Addr.add_zero'] at hc
    have hs := World.cell?_spot hc
    obtain ⟨b, o, s⟩ := a
    simp at hs
    subst hs
    exact ⟨b, o, rfl⟩

theorem Bss.cell {w : World} {b o n c : Nat} {ls : List (List UInt8)} (h : Bss w (.slice (some ⟨b, o, none⟩) n c) ls) (j : Nat) (hj : j < ls.length) : ∃ ao d, w.cell? ⟨b, o + j, none⟩ = some (.slice ao ls[j].length d) ∧ Sl w (.slice ao ls[j].length d) ls[j] := by
  obtain ⟨bo, d, e, h1, h2, h3, h4⟩ := h
  injection e with e1 e2 e3
  subst e1
  obtain ⟨u, hc, hs⟩ := h4 _ rfl j ls[j] (List.getElem?_eq_getElem hj)
  rw [Addr.add_lit] at hc
  obtain ⟨ao, k, rfl, _⟩ := id hs
  exact ⟨ao, k, hc, hs⟩

theorem Bss.take {w : World} {ao : Option Addr} {n c : Nat} {ls : List (List UInt8)} (h : Bss w (.slice ao n c) ls) (k : Nat) (hk : k ≤ ls.length) : Bss w (.slice ao k c) (ls.take k) := by
  obtain ⟨bo, d, e, h1, h2, h3, h4⟩ := h
  injection e with e1 e2 e3
  subst e1; subst e2; subst e3
  refine ⟨ao, c, by rw [List.length_take]; congr 1; omega, by rw [List.length_take]; omega, h2, fun e => ?_, fun a ha j x hx => ?_⟩
  · obtain ⟨rfl, rfl⟩ := h3 e; simp
  · refine h4 a ha j x ?_
    by_cases hj : j < k
    · rw [List.getElem?_take_of_lt hj] at hx; exact hx
    · rw [List.getElem?_eq_none (by rw [List.length_take]; omega)] at hx; cases hx

/-- A row of slices of the call's own. -/
theorem bss_row {B : Nat} {w : World} {v : Value} {vs : List Value} {ls : List (List UInt8)} (h : w.ownsRow B 26 1 v ls.length vs) (hs : ∀ (i : Nat) (u : Value) (x : List UInt8), vs[i]? = some u → ls[i]? = some x → Sl w u x) : Bss w v ls := by
  have hl := h.1
  rcases id h.2 with ⟨rfl, h0⟩ | ⟨g, cap, cur, rfl, hb, hg, h1, h2, h3, h4⟩
  · have : ls = [] := List.eq_nil_of_length_eq_zero h0
    subst this
    exact ⟨none, 0, rfl, Nat.le_refl _, Nat.zero_le _, fun _ => ⟨rfl, rfl⟩, fun a ha => by cases ha⟩
  · refine ⟨_, _, rfl, h1, h2, fun e => (by cases e), fun a ha j x hx => ?_⟩
    cases ha
    have hj : j < ls.length := (List.getElem?_eq_some_iff.1 hx).1
    have hc := h.cellAt j (by omega)
    rw [List.getElem?_eq_getElem (by omega)] at hc
    rw [Addr.add_lit, Nat.zero_add]
    exact ⟨_, hc, hs j _ x (List.getElem?_eq_getElem _) hx⟩

theorem Recs.bss {B : Nat} {w : World} {v : Value} {rs : List (List UInt8)} (h : Recs B w v rs) : Bss w v rs := by
  obtain ⟨vs, h1, h2⟩ := h
  exact bss_row h1 fun i u x hu hx => (h2 i u x hu hx).sl

theorem whole_fr {x : List UInt8} (h : Fits x) : whole (fr x) = some x := by
  have := fst_fr h.1 h.2 []
  rw [List.append_nil] at this
  unfold whole
  rw [this]
  simp [fr_length]

/-- Slices of the caller's, in a row of the call's own. -/
def Held (w : World) (wr : World) (v : Value) (ds : List (List UInt8)) : Prop :=
  ∃ vs, wr.ownsRow w.heap.size 26 1 v ds.length vs ∧ ∀ (i : Nat) (u : Value) (x : List UInt8), vs[i]? = some u → ds[i]? = some x → Sl w u x

theorem Held.bss {w wr : World} {v : Value} {ds : List (List UInt8)} (h : Held w wr v ds) (hb : Below w.heap.size w wr) : Bss wr v ds := by
  obtain ⟨vs, h1, h2⟩ := h
  exact bss_row h1 fun i u x hu hx => (h2 i u x hu hx).below hb (Nat.le_refl _)

theorem Held.later {w wr w' : World} {v : Value} {ds : List (List UInt8)} (h : Held w wr v ds) (hb : Below wr.heap.size wr w') : Held w w' v ds := by
  obtain ⟨vs, h1, h2⟩ := h
  exact ⟨vs, row_below h1 hb, h2⟩

theorem Held.kept {w wr w' : World} {v bv : Value} {ds : List (List UInt8)} {l : List UInt8} (h : Held w wr v ds) (ho : Own w.heap.size wr bv l) (hg : wr.grownBy w' bv.ownBlock) : Held w w' v ds := by
  obtain ⟨vs, h1, h2⟩ := h
  exact ⟨vs, h1.kept hg (rows_apart h1 ho (by decide)), h2⟩

theorem Own.keptRow {B : Nat} {wr w' : World} {v bv : Value} {l : List UInt8} {k : Nat} {vs : List Value} {B' : Nat} (ho : Own B wr bv l) (h1 : wr.ownsRow B' 26 1 v k vs) (hg : wr.grownBy w' v.ownBlock) : Own B w' bv l :=
  World.ownsRow.kept ho hg (rows_apart ho h1 (by decide))

theorem Own.drewN {B : Nat} {w : World} {v : Value} {l : List UInt8} (h : Own B w v l) (n : Nat) : Own B (w.drewN n) v l := h
theorem Held.drewN {w wr : World} {v : Value} {ds : List (List UInt8)} (h : Held w wr v ds) (n : Nat) : Held w (wr.drewN n) v ds := h


theorem Held.val {w wr : World} {v : Value} {ds : List (List UInt8)} (h : Held w wr v ds) : ∃ ao c, v = .slice ao ds.length c := by
  obtain ⟨vs, h1, _⟩ := h
  rcases h1.2 with ⟨rfl, h0⟩ | ⟨g, cap, cur, rfl, _⟩
  · exact ⟨none, 0, by rw [h0]⟩
  · exact ⟨_, _, rfl⟩

theorem frs_small {ds : List (List UInt8)} (h : ∀ x ∈ ds, Fits x ∧ x.length ≤ 500) (hn : ds.length ≤ 20) : (frs ds).length ≤ 10160 := by
  rw [frs_length]
  have : ∀ (r : List (List UInt8)), (∀ x ∈ r, x.length ≤ 500) → total r ≤ 508 * r.length := by
    intro r
    induction r with
    | nil => intro _; simp [total]
    | cons x r ih =>
      intro h
      have h1 := h x (by simp)
      have h2 := ih (fun y hy => h y (by simp [hy]))
      rw [total_cons, List.length_cons]
      omega
  have := this ds (fun x hx => (h x hx).2)
  omega

theorem held_snoc {w w3 w4 : World} {ds : List (List UInt8)} {vs : List Value} {v v' u : Value} {x : List UInt8} (hrow : w3.ownsRow w.heap.size 26 1 v ds.length vs)
    (hrec : ∀ (i : Nat) (u : Value) (x : List UInt8), vs[i]? = some u → ds[i]? = some x → Sl w u x) (hs : Sl w u x) (ho : w4.ownsRow w.heap.size 26 1 v' (ds.length + 1) (vs ++ [u])) : Held w w4 v' (ds ++ [x]) := by
  refine ⟨vs ++ [u], by simpa using ho, fun i u' y hu hy => ?_⟩
  have hlen : vs.length = ds.length := by have := hrow.1; omega
  by_cases hi : i < ds.length
  · rw [List.getElem?_append_left (by omega)] at hu hy
    exact hrec i u' y hu hy
  · rw [List.getElem?_append_right (by omega)] at hu hy
    by_cases hi0 : i = ds.length
    · subst hi0
      rw [hlen] at hu
      simp at hu hy
      subst hu; subst hy
      exact hs
    · rw [List.getElem?_eq_none (by simp; omega)] at hy; cases hy

end Go.Proofs.Yteanjnkfoddfmaa

namespace Go.Proofs.Yteanjnkfoddfmaa
open Go.RowKit
set_option linter.unusedVariables false

theorem own_four (w : World) (n : Nat) (a b c d : Int) (ha : ((UInt8.ofNat (n / 16777216)).toNat : Int) = a) (hb : ((UInt8.ofNat (n / 65536)).toNat : Int) = b) (hc : ((UInt8.ofNat (n / 256)).toNat : Int) = c) (hd : ((UInt8.ofNat n).toNat : Int) = d) :
    Own w.heap.size (w.alloc (.cells #[.int .u8 a, .int .u8 b, .int .u8 c, .int .u8 d] 5)) (.slice (some ⟨w.heap.size, 0, none⟩) 4 4) (four n) := by
  subst ha hb hc hd
  exact own_lit w _ (four n) rfl (by simp [four, maxLen])

set_option maxRecDepth 100000 in
theorem four_any (n : Nat) (w : World) (hn : n < 4294967296) :
    Calls Try.prog 75 #[.int .u32 n] w fun e w' => ∃ r, e = .returned r ∧ Own w.heap.size w' r (four n) ∧ Below w.heap.size w w' := by
  go_enter Try.func75, Try.ntmps75
  go_wp2
  go_ret
  refine ⟨_, rfl, ?_, (Below.refl _ w).alloc (Nat.le_refl _) _⟩
  refine own_four w n _ _ _ _ ?_ ?_ ?_ ?_ <;> simp [UInt8.toNat_ofNat'] <;> omega

set_option maxRecDepth 100000 in
set_option maxHeartbeats 1000000 in
theorem of_any (v : Value) (l : List UInt8) (w : World) (hs : Sl w v l) (hl : 4 ≤ l.length) :
    Calls Try.prog 92 #[v] w fun e w' => e = .returned (.int .u32 (of4 l)) ∧ ∃ n, w' = w.drewN n := by
  have hv : ∃ ao c, v = .slice ao l.length c ∧ l.length ≤ c ∧ c ≤ maxLen := by obtain ⟨ao, c, rfl, h1, h2, _⟩ := hs; exact ⟨_, _, rfl, h1, h2⟩
  obtain ⟨ao, c, rfl, h1, h2⟩ := hv
  unfold maxLen at h2
  obtain ⟨b, o, rfl⟩ := hs.addr (by omega)
  have c0 := hs.cell 0 (by omega)
  have c1 := hs.cell 1 (by omega)
  have c2 := hs.cell 2 (by omega)
  have c3 := hs.cell 3 (by omega)
  rw [Nat.add_zero] at c0
  have b0 : (l[0].toNat : Int) < 256 := by have := l[0].toNat_lt; omega
  have b1 : (l[1].toNat : Int) < 256 := by have := l[1].toNat_lt; omega
  have b2 : (l[2].toNat : Int) < 256 := by have := l[2].toNat_lt; omega
  have b3 : (l[3].toNat : Int) < 256 := by have := l[3].toNat_lt; omega
  have hof : of4 l = ((l[0].toNat * 256 + l[1].toNat) * 256 + l[2].toNat) * 256 + l[3].toNat := by
    unfold of4
    rw [List.getElem?_eq_getElem (by omega), List.getElem?_eq_getElem (by omega), List.getElem?_eq_getElem (by omega), List.getElem?_eq_getElem (by omega)]
    simp only [Option.getD_some]
    omega
  obtain ⟨x0, hx0⟩ : ∃ x, Hid (l[0].toNat = x) := ⟨_, hide rfl⟩
  obtain ⟨x1, hx1⟩ : ∃ x, Hid (l[1].toNat = x) := ⟨_, hide rfl⟩
  obtain ⟨x2, hx2⟩ : ∃ x, Hid (l[2].toNat = x) := ⟨_, hide rfl⟩
  obtain ⟨x3, hx3⟩ : ∃ x, Hid (l[3].toNat = x) := ⟨_, hide rfl⟩
  rw [hx0.out] at c0 b0 hof
  rw [hx1.out] at c1 b1 hof
  rw [hx2.out] at c2 b2 hof
  rw [hx3.out] at c3 b3 hof
  rw [hof]
  have i0 : (0 : Int) < (l.length : Int) := by omega
  have i1 : (1 : Int) < (l.length : Int) := by omega
  have i2 : (2 : Int) < (l.length : Int) := by omega
  have i3 : (3 : Int) < (l.length : Int) := by omega
  clear hs hof hx0 hx1 hx2 hx3
  go_enter Try.func92, Try.ntmps92
  go_wp2
  go_quiet (fail)
  go_wp2
  go_ret
  refine ⟨ret_u32 ?_, _, rfl⟩
  omega

set_option maxRecDepth 100000 in
set_option maxHeartbeats 1000000 in
theorem refframe_yes (v : Value) (l : List UInt8) (w : World) (hs : Sl w v l) (hf : Fits l) :
    Calls Try.prog 58 #[v] w fun e w' => Framed w l e w' := by
  obtain ⟨hf1, hf2⟩ := hf
  have hv : ∃ ao c, v = .slice ao l.length c ∧ l.length ≤ c ∧ c ≤ maxLen := by obtain ⟨ao, c, rfl, h1, h2, _⟩ := hs; exact ⟨_, _, rfl, h1, h2⟩
  obtain ⟨ao, c, rfl, h1, h2⟩ := hv
  unfold maxLen at h2
  have Hs : Hid (Sl w (.slice ao l.length c) l) := hs
  clear hs
  go_enter Try.func58, Try.ntmps58
  go_wp2_with fail
  refine (four_any l.length _ (by omega)).mono ?_
  rintro e w1 ⟨r1, rfl, ho1, hb1⟩
  have hs1 := Hs.out.below hb1 (Nat.le_refl _)
  go_wp2_with fail
  refine (refsum_any _ l _ hs1).mono ?_
  rintro e w' ⟨rfl, hw⟩
  obtain rfl := hw.symm
  clear hw
  go_wp2_with fail
  refine (four_any (crc l) _ (crc_lt l)).mono ?_
  rintro e w2 ⟨r2, rfl, ho2, hb2⟩
  have ho12 := ho1.later hb2
  have hB2 := hb1.trans (hb2.mono hb1.size)
  clear hs1 hb2 hb1 ho1
  go_wp2_with (at_builtin; refine wpList_append_sl _ rfl (.tmp 16) (.tmp 19) rfl w.heap.size hB2.size _ _ rfl ho12 _ _ rfl ho2.sl (by simp [four]) ?_)
  intro v3 w3 ho3 hg3
  have hB3 : Below w.heap.size w w3 := hB2.grown hg3 hB2.size (fun k hk => (World.ownsRow.lt ho12 k hk).1)
  have hs3 := Hs.out.below hB3 (Nat.le_refl _)
  clear hg3 ho12 ho2 hB2
  go_wp2_with (at_builtin; refine wpList_append_sl _ rfl (.tmp 21) (.tmp 22) rfl w.heap.size hB3.size _ _ rfl ho3 _ _ rfl hs3 (by simp [four]; omega) ?_)
  intro v4 w4 ho4 hg4
  have hB4 : Below w.heap.size w w4 := hB3.grown hg4 hB3.size (fun k hk => (World.ownsRow.lt ho3 k hk).1)
  have R1 : Own w.heap.size w4 v4 (fr l) := by
    have e : four l.length ++ four (crc l) ++ l = fr l := by simp [fr]
    rw [← e]; exact ho4
  clear hg4 ho4 ho3 hs3 hB3
  go_wp2
  go_ret2
  exact ⟨_, rfl, R1, hB4⟩

set_option maxRecDepth 100000 in
theorem refframe_no (v : Value) (l : List UInt8) (w : World) (hs : Sl w v l) (hf : ¬ Fits l) :
    Calls Try.prog 58 #[v] w fun e w' => e = .returned (.tuple #[.slice none 0 0, .int .i64 21]) ∧ w' = w := by
  have hv : ∃ ao c, v = .slice ao l.length c ∧ l.length ≤ c ∧ c ≤ maxLen := by obtain ⟨ao, c, rfl, h1, h2, _⟩ := hs; exact ⟨_, _, rfl, h1, h2⟩
  obtain ⟨ao, c, rfl, h1, h2⟩ := hv
  unfold maxLen at h2
  clear hs
  by_cases h0 : l.length < 1
  · go_enter Try.func58, Try.ntmps58
    go_wp2
    go_ret2
    exact ⟨rfl, rfl⟩
  · have h1' : 65536 < l.length := by unfold Fits at hf; omega
    go_enter Try.func58, Try.ntmps58
    go_wp2
    go_ret2
    exact ⟨rfl, rfl⟩

theorem of4_take (l : List UInt8) : of4 (l.take 4) = of4 l := by
  unfold of4
  rw [List.getElem?_take_of_lt (by decide), List.getElem?_take_of_lt (by decide), List.getElem?_take_of_lt (by decide), List.getElem?_take_of_lt (by decide)]

/-- What bytes begin with, as the document's call answers it. -/
def RefBegins (a : Value) (l : List UInt8) (e : Ending) : Prop :=
  (fst l = none ∧ ∃ v, e = .returned (.tuple #[v, .bool false])) ∨ ∃ v x, fst l = some x ∧ e = .returned (.tuple #[v, .bool true]) ∧ ∀ w, Sl w a l → Sl w v x

set_option maxRecDepth 100000 in
set_option maxHeartbeats 1000000 in
theorem reffirst_any (v : Value) (l : List UInt8) (w : World) (hs : Sl w v l) (hl : l.length ≤ 1099511627776) :
    Calls Try.prog 70 #[v] w fun e w' => RefBegins v l e ∧ ∃ n, w' = w.drewN n := by
  have hv : ∃ ao c, v = .slice ao l.length c ∧ l.length ≤ c ∧ c ≤ maxLen := by obtain ⟨ao, c, rfl, h1, h2, _⟩ := hs; exact ⟨_, _, rfl, h1, h2⟩
  obtain ⟨ao, c, rfl, h1, h2⟩ := hv
  unfold maxLen at h2
  have Hs : Hid (Sl w (.slice ao l.length c) l) := hs
  clear hs
  by_cases h9 : 9 ≤ l.length
  · obtain ⟨b, o, rfl⟩ := Hs.out.addr (by omega)
    have hof := of4_lt l
    have hof4 : of4 (l.take 4) = of4 l := of4_take l
    obtain ⟨n, hn⟩ : ∃ n, Hid (of4 l = n) := ⟨of4 l, hide rfl⟩
    rw [hn.out] at hof hof4
    have HG : Hid (Calls Try.prog 92 #[.slice (some ⟨b, o, none⟩) 4 c] w fun e w' => e = .returned (.int .u32 n) ∧ ∃ q, w' = w.drewN q) := by
      have := of_any _ _ _ (Hs.out.take 4 (by omega)) (by rw [List.length_take]; omega)
      rw [hof4] at this
      exact this
    clear hof4
    by_cases hfit : 1 ≤ n ∧ n ≤ 65536 ∧ n ≤ l.length - 8
    · obtain ⟨hf1, hf2, hrest⟩ := hfit
      have hr := Hs.out.mid 8 n (by omega) (by omega) (by omega)
      have h4 := Hs.out.mid 4 4 (by omega) (by omega) (by omega)
      obtain ⟨s, Hs1⟩ : ∃ s, Hid (crc ((l.drop 8).take n) = s) := ⟨_, hide rfl⟩
      obtain ⟨t, Ht1⟩ : ∃ t, Hid (of4 (l.drop 4) = t) := ⟨_, hide rfl⟩
      have hof44 : of4 ((l.drop 4).take 4) = of4 (l.drop 4) := of4_take _
      have HS : Hid (∀ W q0, W = w.drewN q0 → ∀ q, Calls Try.prog 76 #[.slice (some ⟨b, o + 8, none⟩) n (c - 8)] (W.drewN q) fun e w' => e = .returned (.int .u32 s) ∧ w' = W.drewN q) := by
        rintro W q0 rfl q
        rw [← Hs1.out]
        exact refsum_any _ _ _ ((hr.drewN q0).drewN q)
      have HT : Hid (∀ W q0, W = w.drewN q0 → ∀ q, Calls Try.prog 92 #[.slice (some ⟨b, o + 4, none⟩) 4 (c - 4)] (W.drewN q) fun e w' => e = .returned (.int .u32 t) ∧ ∃ m, w' = W.drewN m) := by
        rintro W q0 rfl q
        rw [← Ht1.out, ← hof44]
        refine (of_any _ _ _ ((h4.drewN q0).drewN q) (by rw [List.length_take, List.length_drop]; omega)).mono ?_
        rintro e w' ⟨he, m, hm⟩
        exact ⟨he, q + m, by rw [hm, World.drewN_drewN]⟩
      clear hr h4 hof44
      by_cases hst : s = t
      · subst hst
        go_enter Try.func70, Try.ntmps70
        go_wp2_with fail
        refine HG.out.mono ?_
        rintro e W ⟨rfl, q0, hW⟩
        have HSW := hide (HS.out W q0 hW)
        have HTW := hide (HT.out W q0 hW)
        have HW := hide hW
        clear hW
        go_wp2_with fail
        go_quiet (first | (go_at_call 76; exact Calls.quiet_of_same (HSW.out _)) | (go_at_call 92; exact HTW.out _))
        go_wp2
        go_ret2
        refine ⟨.inr ⟨_, _, fst_yes hn.out (by omega) hf1 hf2 hrest (by rw [Hs1.out, Ht1.out]), rfl, ?_⟩, _, by rw [HW.out, World.drewN_drewN]⟩
        intro w2 h2'
        rw [show 8 + n - 8 = n by omega]
        exact h2'.mid 8 n (by omega) (by omega) (by omega)
      · have hst' : ((s : Int) == (t : Int)) = false := by rw [beq_eq_false_iff_ne]; omega
        go_enter Try.func70, Try.ntmps70
        go_wp2_with fail
        refine HG.out.mono ?_
        rintro e W ⟨rfl, q0, hW⟩
        have HSW := hide (HS.out W q0 hW)
        have HTW := hide (HT.out W q0 hW)
        have HW := hide hW
        clear hW
        go_wp2_with fail
        go_quiet (first | (go_at_call 76; exact Calls.quiet_of_same (HSW.out _)) | (go_at_call 92; exact HTW.out _))
        go_wp2
        go_ret2
        exact ⟨.inl ⟨fst_ne hn.out (by rw [Hs1.out, Ht1.out]; exact hst), _, rfl⟩, _, by rw [HW.out, World.drewN_drewN]⟩
    · by_cases hf1 : 1 ≤ n
      · by_cases hf2 : n ≤ 65536
        all_goals
          go_enter Try.func70, Try.ntmps70
          go_wp2_with (first | (go_at_call 92; refine HG.out.mono ?_; rintro e w' ⟨rfl, q0, rfl⟩))
          go_ret2
          exact ⟨.inl ⟨fst_none_of hn.out (by omega), _, rfl⟩, _, rfl⟩
      · go_enter Try.func70, Try.ntmps70
        go_wp2_with (first | (go_at_call 92; refine HG.out.mono ?_; rintro e w' ⟨rfl, q0, rfl⟩))
        go_ret2
        exact ⟨.inl ⟨fst_none_of hn.out (by omega), _, rfl⟩, _, rfl⟩
  · go_enter Try.func70, Try.ntmps70
    go_wp2
    go_ret2
    exact ⟨.inl ⟨fst_short (by omega), _, rfl⟩, 0, rfl⟩

end Go.Proofs.Yteanjnkfoddfmaa

namespace Go.Proofs.Yteanjnkfoddfmaa
open Go.RowKit
set_option linter.unusedVariables false

/-- What the document's Whole answers. -/
def RefWholed (w : World) (l : List UInt8) (e : Ending) : Prop :=
  (whole l = none ∧ e = .returned (.tuple #[.slice none 0 0, .int .i64 21])) ∨ ∃ r x, whole l = some x ∧ e = .returned (.tuple #[r, .int .i64 0]) ∧ Sl w r x

set_option maxRecDepth 100000 in
set_option maxHeartbeats 1000000 in
theorem refwhole_any (v : Value) (l : List UInt8) (w : World) (hs : Sl w v l) (hl : l.length ≤ 1099511627776) :
    Calls Try.prog 44 #[v] w fun e w' => RefWholed w l e ∧ ∃ n, w' = w.drewN n := by
  have hv : ∃ ao c, v = .slice ao l.length c ∧ l.length ≤ c ∧ c ≤ maxLen := by obtain ⟨ao, c, rfl, h1, h2, _⟩ := hs; exact ⟨_, _, rfl, h1, h2⟩
  obtain ⟨ao, c, rfl, h1, h2⟩ := hv
  unfold maxLen at h2
  have Hs : Hid (Sl w (.slice ao l.length c) l) := hs
  clear hs
  go_enter Try.func44, Try.ntmps44
  go_wp2_with fail
  refine (reffirst_any _ l _ Hs.out hl).mono ?_
  rintro e w' ⟨⟨hn, rv, rfl⟩ | ⟨rv, x, hx, rfl, hsx0⟩, q, rfl⟩
  · go_wp2
    go_ret2
    exact ⟨.inl ⟨by unfold whole; rw [hn], rfl⟩, q, rfl⟩
  · have hsx := hsx0 _ Hs.out
    clear hsx0
    obtain ⟨xo, xc, rfl, hx1, hx2, _⟩ := id hsx
    have hfa := (fst_some hx).1
    have hfb := (fst_some hx).2.1
    have hfc := (fst_some hx).2.2.1
    have Hx := hide hx
    have Hsx := hide hsx
    clear hx hsx
    unfold maxLen at hx2
    by_cases heq : x.length + 8 = l.length
    · have hne : ((x.length : Int) + 8 != (l.length : Int)) = false := by rw [bne_eq_false_iff_eq]; omega
      have Heq := hide heq
      clear heq
      go_wp2
      go_ret2
      exact ⟨.inr ⟨_, _, by unfold whole; rw [Hx.out]; have := Heq.out; simp; omega, rfl, Hsx.out⟩, q, rfl⟩
    · have hne : ((x.length : Int) + 8 != (l.length : Int)) = true := by rw [bne_iff_ne]; omega
      go_wp2
      go_ret2
      exact ⟨.inl ⟨by unfold whole; rw [Hx.out]; simp; omega, rfl⟩, q, rfl⟩

theorem scans_at : ∀ {r : List (List UInt8)} {l : List UInt8} {s : List (List UInt8)}, Scans l (r ++ s) → Scans (l.drop (total r)) s
  | [], l, s, h => by simpa [total] using h
  | x :: r, l, s, h => by
    have := scans_at (r := r) h.2
    rw [total_cons, ← List.drop_drop]
    exact this

/-- What is found at the loop's head: nothing more, or a record. -/
def Found (w : World) (isv xv : Value) (rest : List (List UInt8)) : Prop :=
  (isv = .bool false ∧ rest = []) ∨ ∃ ao c x r, isv = .bool true ∧ xv = .slice ao x.length c ∧ rest = x :: r ∧ Sl w xv x ∧ x.length ≤ 65536

theorem found_of {a : Value} {w : World} {l : List UInt8} {rest : List (List UInt8)} {e : Ending} (h : RefBegins a l e) (hs : Sl w a l) (hsc : Scans l rest) : ∃ xv isv, e = .returned (.tuple #[xv, isv]) ∧ Found w isv xv rest := by
  rcases h with ⟨hn, v, rfl⟩ | ⟨v, x, hx, rfl, hv⟩
  · refine ⟨v, .bool false, rfl, .inl ⟨rfl, ?_⟩⟩
    cases rest with
    | nil => rfl
    | cons y r => have := hsc.1; rw [hn] at this; cases this
  · cases rest with
    | nil => have : fst l = none := hsc; rw [hx] at this; cases this
    | cons y r =>
      have := hsc.1
      rw [hx] at this
      cases this
      have hsx := hv _ hs
      obtain ⟨ao, c, rfl, _⟩ := id hsx
      exact ⟨_, .bool true, rfl, .inr ⟨ao, c, x, r, rfl, rfl, rfl, hsx, (fst_some hx).2.2.1⟩⟩

set_option maxRecDepth 100000 in
set_option maxHeartbeats 2000000 in
theorem refscan_any (v : Value) (l : List UInt8) (rs : List (List UInt8)) (w : World) (hs : Sl w v l) (hl : l.length ≤ 1099511627776) (hsc : Scans l rs) :
    Calls Try.prog 48 #[v] w fun e w' => ∃ r, e = .returned (.tuple #[r, .int .i64 (total rs)]) ∧ Held w w' r rs ∧ Below w.heap.size w w' := by
  have hv : ∃ ao c, v = .slice ao l.length c ∧ l.length ≤ c ∧ c ≤ maxLen := by obtain ⟨ao, c, rfl, h1, h2, _⟩ := hs; exact ⟨_, _, rfl, h1, h2⟩
  obtain ⟨ao, c, rfl, h1, h2⟩ := hv
  unfold maxLen at h2
  obtain ⟨i0, hi, hz0, hz1, hz2⟩ := info_parts Try.infoBytes
  have Hs : Hid (Sl w (.slice ao l.length c) l) := hs
  have Hsc := hide hsc
  clear hs hsc
  go_enter Try.func48, Try.ntmps48
  go_wp2_with fail
  refine (reffirst_any _ l _ Hs.out hl).mono ?_
  rintro e w' ⟨hbg, q, rfl⟩
  obtain ⟨xv, isv, rfl, hF⟩ := found_of hbg Hs.out Hsc.out
  have HF := hide hF
  clear hbg hF
  go_wp2
  go_loopw [4, 5, 6, 7] (fun ov nv xv isv wr => ∃ (pre rest : List (List UInt8)), Hid (rs = pre ++ rest ∧ Found w isv xv rest) ∧ nv = .int .i64 (total pre) ∧ Hid (Held w wr ov pre ∧ Below w.heap.size w wr)) (fun _ nv _ _ _ => l.length + 1 - (intOf nv).toNat)
  case atStart => exact ⟨[], rs, ⟨rfl, unhide HF⟩, rfl, ⟨⟨[], World.ownsRow_nil _ _ _ _, fun i u x hu => by simp at hu⟩, belowN (Below.refl _ _) q⟩⟩
  case round =>
    obtain ⟨pre, rest, Hr, rfl, Hh⟩ := hrel
    obtain ⟨hrs, hfd⟩ := Hr.out
    rcases hfd with ⟨rfl, rfl⟩ | ⟨xo, xc, x, r, rfl, rfl, rfl, hsx, hxl⟩
    · rw [List.append_nil] at hrs
      subst hrs
      go_wp2
      go_ret2
      exact ⟨_, rfl, Hh.out.1, Hh.out.2⟩
    · obtain ⟨hH, hB⟩ := Hh.out
      obtain ⟨vs, hrow, hrec⟩ := hH
      have hz := hB.size
      have hscr : Scans (l.drop (total pre)) (x :: r) := scans_at (by rw [← hrs]; exact Hsc.out)
      have hscr2 : Scans (l.drop (total (pre ++ [x]))) r := by rw [total_snoc, ← List.drop_drop]; exact hscr.2
      have htot : total pre + 8 + x.length ≤ l.length := by
        have := (fst_some hscr.1).1
        rw [List.length_drop] at this
        have h0 := (fst_some hscr.1).2.1
        omega
      have hcnt : pre.length ≤ l.length := by
        have := Hsc.out.count_le
        rw [hrs, List.length_append] at this
        omega
      have Hrec := hide hrec
      have Hsx := hide hsx
      have HB := hide hB
      have Hsc2 := hide hscr2
      have Hrs := hide hrs
      obtain ⟨tn, htn⟩ : ∃ tn, Hid (total pre = tn) := ⟨_, hide rfl⟩
      rw [htn.out] at htot ⊢
      clear hrec hsx hB hscr hscr2 hrs Hr Hh
      go_wp2_with (at_builtin; refine wpList_append_own _ rfl (.tmp 21) (.tmp 23) 54 rfl w.heap.size 26 i0 (.slice none 0 0) 1 24 Try.underlying54 hi hz0 hz1 hz2 rfl (by decide) _ _ _ rfl (hrow.alloc _) ⟨wr.heap.size, 0, none⟩ 1 1 [.slice xo x.length xc] rfl rfl (cell_one_new _ _ _) (by simp [Value.oneCell']) ?h3 ?h4 ?h5 ?_)
      case h3 => unfold maxLen; omega
      case h4 => omega
      case h5 => simp; omega
      intro dv' w4 ho4 hg4 _
      have R2 : Held w w4 dv' (pre ++ [x]) := held_snoc hrow (unhide Hrec) Hsx.out ho4
      have R3 : Below w.heap.size w w4 := (HB.out.alloc hz _).grown hg4 (by simp; omega) (fun k hk => (World.ownsRow.lt hrow k hk).1)
      obtain ⟨lb, lo, rfl⟩ := Hs.out.addr (by omega)
      have hsl := (Hs.out.drop (tn + 8 + x.length) htot)
      have hld : (l.drop (tn + 8 + x.length)).length ≤ 1099511627776 := by rw [List.length_drop]; omega
      have H2 := hide R2
      have H3 := hide R3
      clear ho4 hg4 hrow R2 R3
      have hrs2 : rs = (pre ++ [x]) ++ r := by rw [Hrs.out]; simp
      have htn2 : total (pre ++ [x]) = tn + 8 + x.length := by rw [total_snoc, htn.out]; omega
      have hsc2 := Hsc2.out
      rw [htn2] at hsc2
      have Hsc3 := hide hsc2
      have Hrs2 := hide hrs2
      have Htn2 := hide htn2
      clear hsc2 hrs2 htn2
      by_cases hcc : c = tn + 8 + x.length
      · rw [if_pos hcc, show c - (tn + 8 + x.length) = 0 by omega] at hsl
        have hcc1 : c ≤ tn + 8 + x.length := by omega
        have hcc2 : tn + 8 + x.length ≤ c := by omega
        clear hcc
        have hsl4 := hsl.below H3.out (Nat.le_refl _)
        have Hsl := hide hsl
        clear hsl
        go_wp2_with fail
        refine (reffirst_any _ _ _ hsl4 hld).mono ?_
        rintro e w5 ⟨hbg, q5, rfl⟩
        obtain ⟨xv5, isv5, rfl, hF5⟩ := found_of hbg Hsl.out Hsc3.out
        have HF5 := hide hF5
        clear hbg hF5 hsl4
        go_wp2
        go_roundw
        case rel => exact ⟨pre ++ [x], r, ⟨unhide Hrs2, unhide HF5⟩, by rw [Htn2.out]; go_num, ⟨(unhide H2).drewN q5, belowN (unhide H3) q5⟩⟩
        case measure => simp [intOf]; omega
      · rw [if_neg hcc] at hsl
        have e : (Option.map (fun y : Addr => y.add ((tn + 8 + x.length) * 1)) (some ⟨lb, lo, none⟩)) = some ⟨lb, lo + (tn + 8 + x.length), none⟩ := by simp [Addr.add]
        rw [e] at hsl
        have hsl4 := hsl.below H3.out (Nat.le_refl _)
        have Hsl := hide hsl
        clear hsl e
        go_wp2_with fail
        refine (reffirst_any _ _ _ hsl4 hld).mono ?_
        rintro e w5 ⟨hbg, q5, rfl⟩
        obtain ⟨xv5, isv5, rfl, hF5⟩ := found_of hbg Hsl.out Hsc3.out
        have HF5 := hide hF5
        clear hbg hF5 hsl4
        go_wp2
        go_roundw
        case rel => exact ⟨pre ++ [x], r, ⟨unhide Hrs2, unhide HF5⟩, by rw [Htn2.out]; go_num, ⟨(unhide H2).drewN q5, belowN (unhide H3) q5⟩⟩
        case measure => simp [intOf]; omega

end Go.Proofs.Yteanjnkfoddfmaa
