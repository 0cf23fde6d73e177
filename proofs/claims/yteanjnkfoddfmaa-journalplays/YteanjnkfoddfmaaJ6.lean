/-
  Contracts of whether two lists of records are one; of what a journal has, and whether two such are one. No law is proved here.
  A journal on its disk beside other memory, which stays as it is. No law is proved here.
-/
import Derived.Test.YteanjnkfoddfmaaJ5
namespace Go.Proofs.Yteanjnkfoddfmaa
open Go.RowKit
set_option linter.unusedVariables false

set_option maxRecDepth 100000 in
set_option maxHeartbeats 1000000 in
theorem same_any (va vb : Value) (la lb : List (List UInt8)) (w : World) (ha : Bss w va la) (hb : Bss w vb lb) :
    Calls Try.prog 38 #[va, vb] w fun e w' => ∃ r, e = .returned (.bool r) ∧ (la = lb → r = true) ∧ ∃ n, w' = w.drewN n := by
  have hva : ∃ ao c, va = .slice ao la.length c ∧ la.length ≤ c ∧ c ≤ maxLen := by obtain ⟨ao, c, rfl, h1, h2, _⟩ := ha; exact ⟨_, _, rfl, h1, h2⟩
  obtain ⟨ao, c, rfl, h1, h2⟩ := hva
  have hvb : ∃ ao c, vb = .slice ao lb.length c ∧ lb.length ≤ c ∧ c ≤ maxLen := by obtain ⟨ao, c, rfl, h1, h2, _⟩ := hb; exact ⟨_, _, rfl, h1, h2⟩
  obtain ⟨bo, d, rfl, h3, h4⟩ := hvb
  unfold maxLen at h2 h4
  have HA := hide ha
  have HB := hide hb
  clear ha hb
  by_cases hl : la.length = lb.length
  · have HB2 : Hid (Bss w (.slice bo la.length d) lb) := by show Bss _ _ _; rw [hl]; exact unhide HB
    have Hl := hide hl
    rw [← hl]
    rw [← hl] at h3
    clear hl HB
    go_enter Try.func38, Try.ntmps38
    go_wp2
    go_loopw [5] (fun i wr => ∃ k n : Nat, k ≤ la.length ∧ i = .int .i64 k ∧ wr = w.drewN n) (fun i _ => la.length - (intOf i).toNat)
    case atStart => exact ⟨0, 0, by omega, rfl, rfl⟩
    case round =>
      obtain ⟨k, n, hk, rfl, rfl⟩ := hrel
      by_cases hlt : k < la.length
      · have hlt2 : k < lb.length := by have := unhide Hl; omega
        obtain ⟨b, o, rfl⟩ := HA.out.addr (by omega)
        obtain ⟨b2, o2, rfl⟩ := HB2.out.addr (by have := unhide Hl; omega)
        obtain ⟨xa, xc, hc1, hs1⟩ := HA.out.cell k hlt
        obtain ⟨ya, yc, hc2, hs2⟩ := HB2.out.cell k hlt2
        obtain ⟨x, hx⟩ : ∃ x, Hid (la[k] = x) := ⟨la[k], Eq.refl la[k]⟩
        obtain ⟨y, hy⟩ : ∃ y, Hid (lb[k] = y) := ⟨lb[k], Eq.refl lb[k]⟩
        rw [hx.out] at hc1 hs1
        rw [hy.out] at hc2 hs2
        have hcA := fun nq => conv_sl (w.drewN nq) _ _ (hs1.drewN nq)
        have hcB := fun nq => conv_sl (w.drewN nq) _ _ (hs2.drewN nq)
        have hkI : (k : Int) < (la.length : Int) := by omega
        clear hs1 hs2
        by_cases hxy : bs x = bs y
        · rw [← hxy] at hcB
          have HXY := hide hxy
          clear hxy
          go_wp2_with fail
          go_quiet (fail)
          go_wp2
          go_roundw
          case rel => exact ⟨k + 1, _, by omega, by go_num, rfl⟩
          case measure => simp [intOf]; omega
        · have HXY := hide hxy
          have hxb : ((bs x).toList == (bs y).toList) = false := by
            rw [bs_list, bs_list, beq_eq_false_iff_ne]
            exact fun e => hxy (by rw [e])
          have hxn : ¬ x = y := fun e => hxy (by rw [e])
          have HXN := hide hxn
          clear hxn hxy HXY
          generalize bs x = X at *
          generalize bs y = Y at *
          go_wp2_with fail
          go_quiet (fail)
          go_wp2
          go_ret
          refine ⟨false, rfl, fun e => absurd ?_ (unhide HXN), _, by rw [World.drewN_drewN]⟩
          subst e
          rw [← unhide hx, ← unhide hy]
      · go_wp2
        go_ret
        exact ⟨true, rfl, fun _ => rfl, _, rfl⟩
  · have hlb : ((la.length : Int) == (lb.length : Int)) = false := by rw [beq_eq_false_iff_ne]; omega
    go_enter Try.func38, Try.ntmps38
    go_wp2
    go_ret
    exact ⟨false, rfl, fun e => absurd (congrArg List.length e) hl, 0, rfl⟩

theorem same_yes (va vb : Value) (ls : List (List UInt8)) (w : World) (ha : Bss w va ls) (hb : Bss w vb ls) :
    Calls Try.prog 38 #[va, vb] w fun e w' => e = .returned (.bool true) ∧ ∃ n, w' = w.drewN n := by
  refine (same_any va vb ls ls w ha hb).mono ?_
  rintro e w' ⟨r, rfl, hr, h⟩
  exact ⟨by rw [hr rfl], h⟩

/-- A slice of slices whose memory lies in blocks of P. -/
def Bsq (P : Nat → Prop) (w : World) (v : Value) (ls : List (List UInt8)) : Prop :=
  ∃ ao c, v = .slice ao ls.length c ∧ ls.length ≤ c ∧ c ≤ maxLen ∧ (ao = none → ls = [] ∧ c = 0) ∧ ∀ a, ao = some a → P a.block ∧ ∀ (j : Nat) (x : List UInt8), ls[j]? = some x → ∃ u, w.cell? (a.add j) = some u ∧ Sl w u x ∧ ∀ g, u.ownBlock = some g → P g

theorem Bsq.bss {P : Nat → Prop} {w : World} {v : Value} {ls : List (List UInt8)} (h : Bsq P w v ls) : Bss w v ls := by
  obtain ⟨ao, c, h1, h2, h3, h4, h5⟩ := h
  refine ⟨ao, c, h1, h2, h3, h4, fun a ha j x hx => ?_⟩
  obtain ⟨u, k1, k2, _⟩ := (h5 a ha).2 j x hx
  exact ⟨u, k1, k2⟩
theorem Bsq.frame {P : Nat → Prop} {w w' : World} {v : Value} {ls : List (List UInt8)} (h : Bsq P w v ls) (hk : ∀ k, P k → w'.heap[k]? = w.heap[k]?) : Bsq P w' v ls := by
  obtain ⟨ao, c, h1, h2, h3, h4, h5⟩ := h
  refine ⟨ao, c, h1, h2, h3, h4, fun a ha => ⟨(h5 a ha).1, fun j x hx => ?_⟩⟩
  obtain ⟨u, k1, k2, k3⟩ := (h5 a ha).2 j x hx
  refine ⟨u, ?_, k2.frame fun g hg _ => hk g (k3 g hg), k3⟩
  rw [World.cell?_of_block (w := w) (a := a.add j) (by rw [Addr.add_block]; exact hk a.block (h5 a ha).1)]
  exact k1
theorem Bsq.mono {P Q : Nat → Prop} {w : World} {v : Value} {ls : List (List UInt8)} (h : Bsq P w v ls) (hk : ∀ k, P k → Q k) : Bsq Q w v ls := by
  obtain ⟨ao, c, h1, h2, h3, h4, h5⟩ := h
  refine ⟨ao, c, h1, h2, h3, h4, fun a ha => ⟨hk _ (h5 a ha).1, fun j x hx => ?_⟩⟩
  obtain ⟨u, k1, k2, k3⟩ := (h5 a ha).2 j x hx
  exact ⟨u, k1, k2, fun g hg => hk g (k3 g hg)⟩
theorem Bsq.take {P : Nat → Prop} {w : World} {ao : Option Addr} {n c : Nat} {ls : List (List UInt8)} (h : Bsq P w (.slice ao n c) ls) (k : Nat) (hk : k ≤ ls.length) : Bsq P w (.slice ao k c) (ls.take k) := by
  obtain ⟨bo, d, e, h2, h3, h4, h5⟩ := h
  injection e with e1 e2 e3
  subst e1 e3
  refine ⟨ao, c, by rw [List.length_take, Nat.min_eq_left hk], by rw [List.length_take]; omega, h3, fun e => ⟨by rw [(h4 e).1]; simp, (h4 e).2⟩, fun a ha => ⟨(h5 a ha).1, fun j x hx => ?_⟩⟩
  rw [List.getElem?_take] at hx
  split at hx
  · exact (h5 a ha).2 j x hx
  · cases hx
theorem Bsq.drop {P : Nat → Prop} {w : World} {ao : Option Addr} {n c : Nat} {ls : List (List UInt8)} (h : Bsq P w (.slice ao n c) ls) (k : Nat) (hk : k ≤ ls.length) : Bsq P w (.slice (if c = k then ao else ao.map (·.add k)) (n - k) (c - k)) (ls.drop k) := by
  obtain ⟨bo, d, e, h2, h3, h4, h5⟩ := h
  injection e with e1 e2 e3
  subst e1 e2 e3
  refine ⟨_, c - k, by rw [List.length_drop], by rw [List.length_drop]; omega, by omega, fun e => ?_, fun a ha => ?_⟩
  · have : ao = none := by
      split at e
      · exact e
      · cases ao <;> simp at e ⊢
    obtain ⟨rfl, rfl⟩ := h4 this
    simp
  · split at ha
    · refine ⟨(h5 a ha).1, fun j x hx => ?_⟩
      rw [List.getElem?_drop] at hx
      have := (List.getElem?_eq_some_iff.1 hx).1
      omega
    · cases ao with
      | none => cases ha
      | some a0 =>
        simp only [Option.map_some, Option.some.injEq] at ha
        subst ha
        refine ⟨by rw [Addr.add_block]; exact (h5 a0 rfl).1, fun j x hx => ?_⟩
        rw [List.getElem?_drop] at hx
        rw [Addr.add_add]
        exact (h5 a0 rfl).2 (k + j) x hx

theorem Rcs.bsq {w : World} {g B cap : Nat} {ds : List (List UInt8)} (h : Rcs w g B cap ds) : Bsq (fun k => B ≤ k ∧ k < w.heap.size) w (.slice (some ⟨g, 0, none⟩) ds.length cap) ds := by
  have hb := h.bss
  obtain ⟨vs, h1, h2⟩ := h
  have hvl : vs.length = ds.length := by have := h1.1; omega
  have hlt := World.ownsRow.lt h1 g rfl
  obtain ⟨ao, c, e, k2, k3, k4, k5⟩ := hb
  injection e with e1 e2 e3
  subst e1 e3
  refine ⟨_, _, rfl, k2, k3, k4, fun a ha => ?_⟩
  injection ha with ha
  subst ha
  refine ⟨hlt, fun j x hx => ?_⟩
  have hj : j < ds.length := (List.getElem?_eq_some_iff.1 hx).1
  rcases h1.2 with ⟨e, _⟩ | ⟨g', cap', cur, e, hb', hg, hnc, hcm, hcs, htake⟩
  · cases e
  injection e with e1 e2 e3
  injection e1 with e1
  injection e1 with e1
  subst e1
  have hj' : j < vs.length := by omega
  obtain ⟨s1, s2⟩ := h2 j vs[j] x (List.getElem?_eq_getElem hj') hx
  refine ⟨vs[j], ?_, s1, fun q hq => ⟨(s2 q hq).1, (s2 q hq).2.2⟩⟩
  have hc : cur.toList[j]? = some vs[j] := by
    have := congrArg (fun l => l[j]?) htake
    simp only [List.getElem?_eq_getElem hj'] at this
    rw [← this, List.getElem?_take_of_lt (by omega)]
  rw [Addr.add_lit, Nat.zero_add]
  simp only [World.cell?, hg]
  simpa using hc

theorem Jd.shrink {S : Nat → Prop} {w : World} {B D : Nat} {nf nc sf sc : List UInt8} {t v o : Nat} {st : St} (h : Jd S w B D nf nc sf sc t v o st) : Jd (fun k => S k ∧ k < w.heap.size) w B D nf nc sf sc t v o st := h.mono fun k hk hs => ⟨hs, hk⟩

/-- Ahead of a call: what is there of the journal's, and whatever is new. -/
theorem Jd.ready {S : Nat → Prop} {w w' : World} {B D : Nat} {nf nc sf sc : List UInt8} {t v o : Nat} {st : St} (h : Jd S w B D nf nc sf sc t v o st) (hb : Below w.heap.size w w') : Jd (fun k => (S k ∧ k < w.heap.size) ∨ w'.heap.size ≤ k) w' B D nf nc sf sc t v o st :=
  (h.shrink.later hb).mono fun k _ hs => .inl hs

end Go.Proofs.Yteanjnkfoddfmaa

namespace Go.Proofs.Yteanjnkfoddfmaa
open Go.RowKit
set_option linter.unusedVariables false

/-- The journal and its disk, all in memory that is new since w, none of it in P; what is in P is there. -/
def Side (w : World) (P : Nat → Prop) (W : World) (B D : Nat) (nf nc sf sc : List UInt8) (t v o : Nat) (st : St) : Prop :=
  ∃ S, Jd S W B D nf nc sf sc t v o st ∧ (∀ k, S k → w.heap.size ≤ k) ∧ (∀ k, P k → ¬ S k) ∧ (∀ k, P k → k < W.heap.size) ∧ Below w.heap.size w W

def Kept (P : Nat → Prop) (w w' : World) : Prop := ∀ k, P k → w'.heap[k]? = w.heap[k]?

theorem Kept.of {P : Nat → Prop} {w w' : World} (hb : Below w.heap.size w w') (hP : ∀ k, P k → k < w.heap.size) : Kept P w w' := fun k hk => hb.block k (hP k hk)

section
variable {w W W' : World} {P : Nat → Prop} {B D : Nat} {nf nc sf sc : List UInt8} {t v o : Nat} {st : St}

theorem Side.below (h : Side w P W B D nf nc sf sc t v o st) : Below w.heap.size w W := by obtain ⟨_, _, _, _, _, h⟩ := h; exact h
theorem Side.plt (h : Side w P W B D nf nc sf sc t v o st) : ∀ k, P k → k < W.heap.size := by obtain ⟨_, _, _, _, h, _⟩ := h; exact h
theorem Side.jp (h : Side w P W B D nf nc sf sc t v o st) : ∃ rv, Jp W B D t v o st rv := by obtain ⟨_, h, _⟩ := h; exact h.jp
theorem Side.dk (h : Side w P W B D nf nc sf sc t v o st) : ∃ S, Dk S W D nf nc sf sc := by obtain ⟨S, h, _⟩ := h; exact ⟨S, h.dk⟩

theorem Side.later (h : Side w P W B D nf nc sf sc t v o st) (hb : Below W.heap.size W W') : Side w P W' B D nf nc sf sc t v o st := by
  obtain ⟨S, h1, h2, h3, h4, h5⟩ := h
  exact ⟨S, h1.later hb, h2, h3, fun k hk => Nat.lt_of_lt_of_le (h4 k hk) hb.size, h5.trans (hb.mono h5.size)⟩

theorem Side.drewN (h : Side w P W B D nf nc sf sc t v o st) (q : Nat) : Side w P (W.drewN q) B D nf nc sf sc t v o st := h.later (belowN (Below.refl _ _) q)

/-- More memory that stays: what was laid since. -/
theorem Side.grow (h : Side w P W B D nf nc sf sc t v o st) (hb : Below W.heap.size W W') : Side w (fun k => P k ∨ (W.heap.size ≤ k ∧ k < W'.heap.size)) W' B D nf nc sf sc t v o st := by
  obtain ⟨S, h1, h2, h3, h4, h5⟩ := h
  refine ⟨fun k => S k ∧ k < W.heap.size, h1.shrink.later hb, fun k hk => h2 k hk.1, fun k hk hs => ?_, fun k hk => ?_, h5.trans (hb.mono h5.size)⟩
  · rcases hk with hk | hk
    · exact h3 k hk hs.1
    · have := hs.2; omega
  · rcases hk with hk | hk
    · exact Nat.lt_of_lt_of_le (h4 k hk) hb.size
    · exact hk.2

theorem Side.op {F : Nat} {args : Array Value} {r : Ending} {nf' nc' sf' sc' : List UInt8} {t' v' o' : Nat} {st' : St} (h : Side w P W B D nf nc sf sc t v o st)
    (hc : ∀ S, Jd S W B D nf nc sf sc t v o st → (∀ k, W.heap.size ≤ k → S k) → Calls Try.prog F args W fun e w' => e = r ∧ Jd S w' B D nf' nc' sf' sc' t' v' o' st' ∧ Fr S W w') :
    Calls Try.prog F args W fun e w' => e = r ∧ Side w P w' B D nf' nc' sf' sc' t' v' o' st' ∧ Kept P W w' := by
  obtain ⟨S, h1, h2, h3, h4, h5⟩ := h
  have hj := h1.ready (Below.refl _ W)
  have hS : ∀ k, (S k ∧ k < W.heap.size) ∨ W.heap.size ≤ k → w.heap.size ≤ k := fun k hk => hk.elim (fun h => h2 k h.1) (fun h => Nat.le_trans h5.size h)
  have hP : ∀ k, P k → ¬ ((S k ∧ k < W.heap.size) ∨ W.heap.size ≤ k) := fun k hk hs => hs.elim (fun h => h3 k hk h.1) (fun h => by have := h4 k hk; omega)
  refine (hc _ hj (fun k hk => .inr hk)).mono ?_
  rintro e w' ⟨rfl, hj', hf'⟩
  exact ⟨rfl, ⟨_, hj', hS, hP, fun k hk => Nat.lt_of_lt_of_le (h4 k hk) hf'.size, Fr.bl h5 hf' hS⟩, fun k hk => hf'.block k (h4 k hk) (hP k hk)⟩

theorem Side.of {S : Nat → Prop} (h : Jd S W B D nf nc sf sc t v o st) (hS : ∀ k, S k → w.heap.size ≤ k) (hb : Below w.heap.size w W) : Side w (fun _ => False) W B D nf nc sf sc t v o st :=
  ⟨S, h, hS, fun k hk => hk.elim, fun k hk => hk.elim, hb⟩
theorem Side.mono (h : Side w P W B D nf nc sf sc t v o st) {Q : Nat → Prop} (hq : ∀ k, Q k → P k) : Side w Q W B D nf nc sf sc t v o st := by
  obtain ⟨S, h1, h2, h3, h4, h5⟩ := h
  exact ⟨S, h1, h2, fun k hk => h3 k (hq k hk), fun k hk => h4 k (hq k hk), h5⟩
end

theorem last_b (B D t v o b : Nat) (d : List UInt8) (L : List (List UInt8)) (rv : Value) (w : World) (h : Jp w B D t v o (b, d, L) rv) (m : Int) (hm : ((b + L.length : Nat) : Int) = m) :
    Calls Try.prog 37 #[.pointer (some ⟨B, 0, none⟩)] w fun e w' => e = .returned (.int .i64 m) ∧ Below w.heap.size w w' := by
  refine (last_any B D t v o b d L rv w h).mono ?_
  rintro e w' ⟨rfl, q, rfl⟩
  exact ⟨by rw [hm], belowN (Below.refl _ _) q⟩

theorem records_b (B D t v o b : Nat) (d : List UInt8) (L : List (List UInt8)) (rv : Value) (w : World) (h : Jp w B D t v o (b, d, L) rv) (hL : ∀ x ∈ L, x.length ≤ 1099511627776) (m : Nat) (hm : L.length = m) :
    Calls Try.prog 36 #[.pointer (some ⟨B, 0, none⟩)] w fun e w' => ∃ g, e = .returned (.slice (some ⟨g, 0, none⟩) m m) ∧ Bsq (fun k => w.heap.size ≤ k ∧ k < w'.heap.size) w' (.slice (some ⟨g, 0, none⟩) m m) L ∧ Below w.heap.size w w' := by
  refine (records_any B D t v o b d L rv w h hL).mono ?_
  rintro e w' ⟨g, rfl, hr, hb⟩
  have := hr.bsq
  rw [hm] at this ⊢
  exact ⟨g, rfl, this, hb⟩

end Go.Proofs.Yteanjnkfoddfmaa
