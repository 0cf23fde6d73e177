/-
  Pd3, Pd3b, Pe0, Pe1, Pe2, Pe3, Pf1: one behind the other. No law is proved here.
-/
import Derived.Test.YtcdehnghggleoaaGreatGz9
import Derived.Test.YtcdehnghggleoaaGreatPz12
import Derived.Test.YtcdehnghggleoaaGreatGz8
import Derived.Test.YtcdehnghggleoaaGreatGz6
import Derived.Test.YtcdehnghggleoaaGreatGz1
import Derived.Test.YtcdehnghggleoaaGreatSt4
import Derived.Deep.DeepMust
import Derived.Test.YtcdehnghggleoaaGreatVt6
/-
  The document's chain: what is known of it by lists, and of its memory. No law is proved here.
-/
namespace Go.Proofs.YtcdehnghggleoaaGreat
open Go.RowKit
set_option linter.unusedVariables false

/-- What the document's chain tells. -/
def DchR (bad0 : Bool) (r : List UInt8) (c : Chn) (ok : Bool) (r' : List UInt8) (bad' : Bool) : Prop :=
  (ok = true → bad0 = false ∧ bad' = false ∧ okC r = some (c, r')) ∧ (ok = false → bad0 = true ∨ okC r = none)
theorem okC_noN {r : List UInt8} {a1 : Nat} {a2 : Int} {a3 : List UInt8} (h1 : P1.rdN r mxN = (a1, a2, a3)) (h : a2 ≠ 0) : okC r = none := by
  unfold okC
  rw [prsC_eq]
  unfold optN
  rw [h1]
  simp only
  rw [if_neg h]
  rfl
theorem okC_N {r : List UInt8} {a1 : Nat} {a3 : List UInt8} (h1 : P1.rdN r mxN = (a1, 0, a3)) : prsC r = (prsVs a1 a3).bind fun vs => (optF vs.2).bind fun o => if o.1 = true then (prsI o.2).bind fun i => some (⟨vs.1, true, i.1⟩, i.2) else some (⟨vs.1, false, Itn.zero⟩, o.2) := by
  rw [prsC_eq]
  unfold optN
  rw [h1]
  simp only [if_true, Option.bind_some]
theorem DchR.closed {bad0 : Bool} {r : List UInt8} {a1 : Nat} {a2 : Int} {a3 : List UInt8} (h1 : P1.rdN r mxN = (a1, a2, a3)) {bad good : Bool} {vs : List Ver} {r2 : List UInt8}
    (h2 : (bad0 || a2 != 0) = false → prsVs a1 a3 = if bad = false ∧ good = true then some (vs, r2) else none) (h3 : (bad0 || a2 != 0) = true → bad = true) {oe : Int} {r3 : List UInt8} (h4 : P1.rdF r2 = (false, oe, r3)) {ok : Bool}
    (hok : ok = (good && rightCB ⟨vs, false, Itn.zero⟩ && !(bad || oe != 0) && decide (0 < a1))) : DchR bad0 r ⟨vs, false, Itn.zero⟩ ok r3 (bad || oe != 0) := by
  cases hb : (bad0 || a2 != 0) with
  | true =>
    have hbad := h3 hb
    subst hbad
    simp only [Bool.true_or, Bool.not_true, Bool.and_false, Bool.false_and] at hok
    subst hok
    refine ⟨fun h => (by cases h), fun _ => ?_⟩
    cases bad0 with
    | true => exact .inl rfl
    | false =>
      refine .inr (okC_noN h1 (fun e => ?_))
      rw [e] at hb
      simp at hb
  | false =>
    have hq := h2 hb
    rw [Bool.or_eq_false_iff] at hb
    obtain ⟨rfl, hb2⟩ := hb
    have ha2 : a2 = 0 := by simpa using hb2
    subst ha2
    have hC := okC_N h1
    by_cases q : bad = false ∧ good = true
    · obtain ⟨rfl, rfl⟩ := q
      rw [if_pos ⟨rfl, rfl⟩] at hq
      have hlen := (prsVs_one hq).2
      rw [hq] at hC
      simp only [Option.bind_some] at hC
      unfold optF at hC
      rw [h4] at hC
      simp only at hC
      by_cases h0 : oe = 0
      · subst h0
        simp only [if_true, Option.bind_some, Bool.false_eq_true, if_false] at hC
        have hk : okC r = if (rightCB ⟨vs, false, Itn.zero⟩ && !emC ⟨vs, false, Itn.zero⟩) = true then some (⟨vs, false, Itn.zero⟩, r3) else none := by
          unfold okC
          rw [hC]
          rfl
        have he : (!emC ⟨vs, false, Itn.zero⟩) = decide (0 < a1) := by
          unfold emC
          rw [← hlen]
          cases vs <;> simp
        rw [he] at hk
        simp only [Bool.true_and, Bool.false_or, bne_self_eq_false, Bool.not_false, Bool.and_true] at hok ⊢
        rw [← hok] at hk
        refine ⟨fun h => ⟨rfl, rfl, ?_⟩, fun h => .inr ?_⟩
        · rw [hk, if_pos h]
        · rw [hk, if_neg (by rw [h]; decide)]
      · rw [if_neg h0] at hC
        have e1 : (oe != 0) = true := by simpa using h0
        rw [e1] at hok
        simp only [Bool.or_true, Bool.not_true, Bool.and_false, Bool.false_and] at hok
        subst hok
        refine ⟨fun h => (by cases h), fun _ => .inr ?_⟩
        unfold okC
        rw [hC]
        rfl
    · rw [if_neg q] at hq
      rw [hq] at hC
      have hko : ok = false := by
        rw [hok]
        cases bad
        · cases good
          · rfl
          · exact absurd ⟨rfl, rfl⟩ q
        · simp
      subst hko
      refine ⟨fun h => (by cases h), fun _ => .inr ?_⟩
      unfold okC
      rw [hC]
      rfl
theorem DchR.opened {bad0 : Bool} {r : List UInt8} {a1 : Nat} {a2 : Int} {a3 : List UInt8} (h1 : P1.rdN r mxN = (a1, a2, a3)) {bad good : Bool} {vs : List Ver} {r2 : List UInt8}
    (h2 : (bad0 || a2 != 0) = false → prsVs a1 a3 = if bad = false ∧ good = true then some (vs, r2) else none) (h3 : (bad0 || a2 != 0) = true → bad = true) {oe : Int} {r3 : List UInt8} (h4 : P1.rdF r2 = (true, oe, r3))
    {i : Itn} {ib : Bool} {r4 : List UInt8} (h5 : itnR r3 = (i, ib, r4)) {ok : Bool}
    (hok : ok = (good && valB i.val i.gone && S5.keyB i.txn.anchor && rightCB ⟨vs, true, i⟩ && !((bad || oe != 0) || ib))) : DchR bad0 r ⟨vs, true, i⟩ ok r4 ((bad || oe != 0) || ib) := by
  cases hb : (bad0 || a2 != 0) with
  | true =>
    have hbad := h3 hb
    subst hbad
    simp only [Bool.true_or, Bool.not_true, Bool.and_false] at hok
    subst hok
    refine ⟨fun h => (by cases h), fun _ => ?_⟩
    cases bad0 with
    | true => exact .inl rfl
    | false =>
      refine .inr (okC_noN h1 (fun e => ?_))
      rw [e] at hb
      simp at hb
  | false =>
    have hq := h2 hb
    rw [Bool.or_eq_false_iff] at hb
    obtain ⟨rfl, hb2⟩ := hb
    have ha2 : a2 = 0 := by simpa using hb2
    subst ha2
    have hC := okC_N h1
    by_cases q : bad = false ∧ good = true
    · obtain ⟨rfl, rfl⟩ := q
      rw [if_pos ⟨rfl, rfl⟩] at hq
      rw [hq] at hC
      simp only [Option.bind_some] at hC
      unfold optF at hC
      rw [h4] at hC
      simp only at hC
      by_cases h0 : oe = 0
      · subst h0
        simp only [if_true, Option.bind_some] at hC
        rw [prsI_doc, h5] at hC
        simp only at hC
        simp only [Bool.true_and, Bool.false_or, bne_self_eq_false] at hok ⊢
        have he : emC ⟨vs, true, i⟩ = false := by simp [emC]
        by_cases hg : ib = false ∧ valB i.val i.gone = true ∧ S5.keyB i.txn.anchor = true
        · rw [if_pos hg] at hC
          simp only [Option.bind_some] at hC
          rw [hg.1, hg.2.1, hg.2.2] at hok
          simp only [Bool.true_and, Bool.not_false, Bool.and_true] at hok
          have hk : okC r = if rightCB ⟨vs, true, i⟩ = true then some (⟨vs, true, i⟩, r4) else none := by
            unfold okC
            rw [hC]
            simp only [Option.bind_some, he, Bool.not_false, Bool.and_true]
          rw [← hok] at hk
          refine ⟨fun h => ⟨rfl, hg.1, ?_⟩, fun h => .inr ?_⟩
          · rw [hk, if_pos h]
          · rw [hk, if_neg (by rw [h]; decide)]
        · rw [if_neg hg] at hC
          have hko : ok = false := by
            rw [hok]
            cases ib
            · cases h6 : valB i.val i.gone
              · simp
              · cases h7 : S5.keyB i.txn.anchor
                · simp
                · exact absurd ⟨rfl, h6, h7⟩ hg
            · simp
          subst hko
          refine ⟨fun h => (by cases h), fun _ => .inr ?_⟩
          unfold okC
          rw [hC]
          rfl
      · rw [if_neg h0] at hC
        have e1 : (oe != 0) = true := by simpa using h0
        rw [e1] at hok
        simp only [Bool.or_true, Bool.true_or, Bool.not_true, Bool.and_false] at hok
        subst hok
        refine ⟨fun h => (by cases h), fun _ => .inr ?_⟩
        unfold okC
        rw [hC]
        rfl
    · rw [if_neg q] at hq
      rw [hq] at hC
      have hko : ok = false := by
        rw [hok]
        cases bad
        · cases good
          · simp
          · exact absurd ⟨rfl, rfl⟩ q
        · simp
      subst hko
      refine ⟨fun h => (by cases h), fun _ => .inr ?_⟩
      unfold okC
      rw [hC]
      rfl

/-- What the loop of the document's versions knows by lists. -/
def ChJ (a1 : Nat) (a3 : List UInt8) (bad1 : Bool) (k : Nat) (r : List UInt8) (bad good : Bool) (us : List Ver) : Prop :=
  us.length = k ∧ k ≤ a1 ∧ (bad1 = false → ChI a1 a3 k r bad good us) ∧ (bad1 = true → bad = true)
theorem ChJ.start (a1 : Nat) (a3 : List UInt8) (bad1 : Bool) : ChJ a1 a3 bad1 0 a3 bad1 true [] :=
  ⟨rfl, Nat.zero_le _, fun h => by rw [h]; exact ChI.start _ _, fun h => h⟩
theorem ChJ.step {a1 : Nat} {a3 r : List UInt8} {bad1 : Bool} {k : Nat} {good : Bool} {us : List Ver} (h : ChJ a1 a3 bad1 k r false good us) (hk : k < a1) {v : Ver} {b2 : Bool} {r2 : List UInt8} (hv : verR r = (v, b2, r2)) :
    ChJ a1 a3 bad1 (k + 1) r2 b2 (good && valB v.val v.gone) (us ++ [v]) := by
  obtain ⟨h1, h2, h3, h4⟩ := h
  have hb : bad1 = false := by
    cases bad1
    · rfl
    · exact absurd (h4 rfl) (by decide)
  have := (h3 hb).step hk
  rw [hv] at this
  exact ⟨by simp [h1], hk, fun _ => this, fun e => by rw [hb] at e; cases e⟩
theorem ChJ.done {a1 : Nat} {a3 r : List UInt8} {bad1 : Bool} {k : Nat} {bad good : Bool} {us : List Ver} (h : ChJ a1 a3 bad1 k r bad good us) (hk : a1 ≤ k ∨ bad = true) :
    bad1 = false → prsVs a1 a3 = if bad = false ∧ good = true then some (us, r) else none := fun hb =>
  (h.2.2.1 hb).done (by
    rcases hk with q | q
    · exact .inl (Nat.le_antisymm h.2.1 q)
    · exact .inr q)

/-- The document's chain in memory. -/
structure DB (S M B : Nat) (w W : World) (r : List UInt8) (bad : Bool) (ca cc : List Value) (ao : Option Addr) (cap : Nat) (vs : List Ver) : Prop where
  d : Dc S W M r bad
  a : Blk W B ca
  c : Blk W (B + 1) cc
  v : VOwn (B + 2) W ao cap vs
  t : P1.Turned M w W
  z : B + 2 ≤ W.heap.size
theorem DB.read {S M B : Nat} {w W W' : World} {r r' : List UInt8} {bad bad' : Bool} {ca cc : List Value} {ao : Option Addr} {cap : Nat} {vs : List Ver} (h : DB S M B w W r bad ca cc ao cap vs) (hM : M < B) (hd : Dc S W' M r' bad') (ht : P1.Turned M W W') : DB S M B w W' r' bad' ca cc ao cap vs :=
  ⟨hd, h.a.turned (by omega) ht, h.c.turned (by omega) ht, h.v.turned (by omega) ht, h.t.trans ht, Nat.le_trans h.z ht.size⟩
theorem DB.later {S M B : Nat} {w W W' : World} {r : List UInt8} {bad : Bool} {ca cc : List Value} {ao : Option Addr} {cap : Nat} {vs : List Ver} (h : DB S M B w W r bad ca cc ao cap vs) (hb : Below W.heap.size W W') : DB S M B w W' r bad ca cc ao cap vs :=
  ⟨h.d.later hb, h.a.later hb, h.c.later hb, h.v.later hb, h.t.trans (P1.Turned.of hb), Nat.le_trans h.z hb.size⟩
/-- Laid into C, from cell k on. -/
theorem DB.setC {S M B : Nat} {w W : World} {r : List UInt8} {bad : Bool} {ca cc : List Value} {ao : Option Addr} {cap : Nat} {vs : List Ver} (h : DB S M B w W r bad ca cc ao cap vs) (hM : M < B) (hw : w.heap.size ≤ B) (ms : List Value) (k : Nat) (pre post old : List Value) (hcc : cc = pre ++ old ++ post) (hk : pre.length = k) (hl : ms.length = old.length)
    (hy : ∀ y ∈ cc, ∀ n, y ≠ .int .u8 n) (hm : ∀ y ∈ ms, ∀ n, y ≠ .int .u8 n) : DB S M B w (setAll W (B + 1) k ms) r bad ca (pre ++ ms ++ post) ao cap vs := by
  subst hcc
  refine ⟨Dc.others (by omega) ms k h.d h.c ?_ hy hm, Blk.others (by omega) ms k h.a, Blk.mid h.c ms k pre old post rfl hk hl, VOwn.others (by omega) ms k h.v, TurnedAll (by omega) ms k h.t, ?_⟩
  · simp only [List.length_append]
    omega
  · have : (setAll W (B + 1) k ms).heap.size = W.heap.size := setAll_size _ _ _ _
    rw [this]
    exact h.z
/-- Laid into A, all of it. -/
theorem DB.setA {S M B : Nat} {w W : World} {r : List UInt8} {bad : Bool} {ca cc : List Value} {ao : Option Addr} {cap : Nat} {vs : List Ver} (h : DB S M B w W r bad ca cc ao cap vs) (hM : M < B) (hw : w.heap.size ≤ B) (ms : List Value) (hl : ms.length = ca.length)
    (hy : ∀ y ∈ ca, ∀ n, y ≠ .int .u8 n) (hm : ∀ y ∈ ms, ∀ n, y ≠ .int .u8 n) : DB S M B w (setAll W B 0 ms) r bad ms cc ao cap vs := by
  refine ⟨Dc.others (by omega) ms 0 h.d h.a (by omega) hy hm, h.a.all ms hl, Blk.others (by omega) ms 0 h.c, VOwn.others (by omega) ms 0 h.v, TurnedAll hw ms 0 h.t, ?_⟩
  have : (setAll W B 0 ms).heap.size = W.heap.size := setAll_size _ _ _ _
  rw [this]
  exact h.z
/-- Versions are appended. -/
theorem DB.grown {S M B : Nat} {w W W' : World} {r : List UInt8} {bad : Bool} {ca cc : List Value} {ao eo : Option Addr} {cap f n : Nat} {vs us : List Ver} (h : DB S M B w W r bad ca cc ao cap vs) (hM : M < B) (hS : S ≤ B) (hw : w.heap.size ≤ B) (hn : vs.length = n) (hg : W.grownBy W' (Value.slice ao n cap).ownBlock) (hv : VOwn (B + 2) W' eo f us) : DB S M B w W' r bad ca cc eo f us := by
  have hlt := fun g e => h.v.lt g (by rw [hn]; exact e)
  refine ⟨h.d.grown hg (fun e => ?_) (fun g e => ?_), h.a.own_grown h.v hn (by omega) hg, h.c.own_grown h.v hn (by omega) hg, hv, ?_, Nat.le_trans h.z hg.size⟩
  · have := (hlt M e.symm).1
    omega
  · have := (hlt g e).1
    omega
  · exact ⟨hg.os.trans h.t.os, hg.tape.trans h.t.tape, hg.output.trans h.t.output, Nat.le_trans h.t.size hg.size, fun k hk hn => (hg.block k (Nat.lt_of_lt_of_le hk h.t.size) (fun e => by have := (hlt k e.symm).1; omega)).trans (h.t.block k hk hn)⟩

end Go.Proofs.YtcdehnghggleoaaGreat

/-
  The document's chain with its intent beside it. No law is proved here.
-/
namespace Go.Proofs.YtcdehnghggleoaaGreat
open Go.RowKit
set_option linter.unusedVariables false

/-- Cells of a block that is not the row's are written. -/
theorem VOwn.apart {B : Nat} {ao : Option Addr} {c : Nat} {vs : List Ver} {X : Nat} (hX : ∀ g, (Value.slice ao vs.length c).ownBlock = some g → g ≠ X) : ∀ (r : List Value) {w : World} (k : Nat), VOwn B w ao c vs → VOwn B (setAll w X k r) ao c vs
  | [], w, k, h => h
  | x :: r, w, k, h => by
    rw [setAll]
    refine VOwn.apart hX r (k + 1) ⟨h.1, ?_⟩
    rcases h.2 with hn | ⟨g, cap, cur, e, hbg, hg, rest⟩
    · exact .inl hn
    · refine .inr ⟨g, cap, cur, e, hbg, ?_, rest⟩
      have hne : g ≠ X := hX g (by rw [e]; rfl)
      rw [Below.heap_setCell _ _ _ _ hne, hg]

/-- The document's chain and its intent in memory. -/
structure DX (S M B X : Nat) (w W : World) (r : List UInt8) (bad : Bool) (ca cc : List Value) (ao : Option Addr) (cap : Nat) (vs : List Ver) (ci : List Value) : Prop where
  d : DB S M B w W r bad ca cc ao cap vs
  i : Blk W X ci
  n : ∀ g, (Value.slice ao vs.length cap).ownBlock = some g → g ≠ X
  x : B + 2 ≤ X
theorem DX.of {S M B : Nat} {w W : World} {r : List UInt8} {bad : Bool} {ca cc : List Value} {ao : Option Addr} {cap : Nat} {vs : List Ver} (h : DB S M B w W r bad ca cc ao cap vs) {ci : List Value} {o : Obj} (hi : Blk (W.alloc o) W.heap.size ci) : DX S M B W.heap.size w (W.alloc o) r bad ca cc ao cap vs ci :=
  ⟨h.later ((Below.refl _ _).alloc (Nat.le_refl _) o), hi, fun g hg => by have := (h.v.lt g hg).2; omega, h.z⟩
theorem DX.read {S M B X : Nat} {w W W' : World} {r r' : List UInt8} {bad bad' : Bool} {ca cc : List Value} {ao : Option Addr} {cap : Nat} {vs : List Ver} {ci : List Value} (h : DX S M B X w W r bad ca cc ao cap vs ci) (hM : M < B) (hd : Dc S W' M r' bad') (ht : P1.Turned M W W') : DX S M B X w W' r' bad' ca cc ao cap vs ci :=
  ⟨h.d.read hM hd ht, h.i.turned (by have := h.x; omega) ht, h.n, h.x⟩
theorem DX.later {S M B X : Nat} {w W W' : World} {r : List UInt8} {bad : Bool} {ca cc : List Value} {ao : Option Addr} {cap : Nat} {vs : List Ver} {ci : List Value} (h : DX S M B X w W r bad ca cc ao cap vs ci) (hb : Below W.heap.size W W') : DX S M B X w W' r bad ca cc ao cap vs ci :=
  ⟨h.d.later hb, h.i.later hb, h.n, h.x⟩
/-- Laid into the intent, from cell k on. -/
theorem DX.setI {S M B X : Nat} {w W : World} {r : List UInt8} {bad : Bool} {ca cc : List Value} {ao : Option Addr} {cap : Nat} {vs : List Ver} {ci : List Value} (h : DX S M B X w W r bad ca cc ao cap vs ci) (hM : M < B) (hw : w.heap.size ≤ B) (ms : List Value) (k : Nat) (pre post old : List Value) (hcc : ci = pre ++ old ++ post) (hk : pre.length = k) (hl : ms.length = old.length)
    (hy : ∀ y ∈ ci, ∀ n, y ≠ .int .u8 n) (hm : ∀ y ∈ ms, ∀ n, y ≠ .int .u8 n) : DX S M B X w (setAll W X k ms) r bad ca cc ao cap vs (pre ++ ms ++ post) := by
  have hx := h.x
  refine ⟨⟨Dc.others (by omega) ms k h.d.d h.i ?_ hy hm, Blk.others (by omega) ms k h.d.a, Blk.others (by omega) ms k h.d.c, VOwn.apart h.n ms k h.d.v, TurnedAll (by omega) ms k h.d.t, ?_⟩, Blk.mid h.i ms k pre old post hcc hk hl, h.n, hx⟩
  · subst hcc
    simp only [List.length_append]
    omega
  · have : (setAll W X k ms).heap.size = W.heap.size := setAll_size _ _ _ _
    rw [this]
    exact h.d.z
/-- Laid into C, from cell k on. -/
theorem DX.setC {S M B X : Nat} {w W : World} {r : List UInt8} {bad : Bool} {ca cc : List Value} {ao : Option Addr} {cap : Nat} {vs : List Ver} {ci : List Value} (h : DX S M B X w W r bad ca cc ao cap vs ci) (hM : M < B) (hw : w.heap.size ≤ B) (ms : List Value) (k : Nat) (pre post old : List Value) (hcc : cc = pre ++ old ++ post) (hk : pre.length = k) (hl : ms.length = old.length)
    (hy : ∀ y ∈ cc, ∀ n, y ≠ .int .u8 n) (hm : ∀ y ∈ ms, ∀ n, y ≠ .int .u8 n) : DX S M B X w (setAll W (B + 1) k ms) r bad ca (pre ++ ms ++ post) ao cap vs ci :=
  ⟨h.d.setC hM hw ms k pre post old hcc hk hl hy hm, Blk.others (by have := h.x; omega) ms k h.i, h.n, h.x⟩

end Go.Proofs.YtcdehnghggleoaaGreat

/-
  A store's bytes by lists: how great what is read is; how long its bytes are. No law is proved here.
-/
namespace Go.Proofs.YtcdehnghggleoaaGreat
open Go.RowKit
set_option linter.unusedVariables false

def bndP (s : Stp) : Prop := s.1 ≤ 1099511627776 ∧ s.2 ≤ 1099511627776
def bndV (v : Ver) : Prop := bndP v.at_ ∧ v.by_ ≤ 1099511627776
def bndI (i : Itn) : Prop := i.txn.id ≤ 1099511627776 ∧ i.txn.ep ≤ 1099511627776 ∧ bndP i.txn.start ∧ i.seq ≤ 1099511627776 ∧ bndP i.at_
def bndC (c : Chn) : Prop := (∀ v ∈ c.vs, bndV v) ∧ bndI c.itn
theorem optS_bnd {l r : List UInt8} {s : Stp} (h : optS l = some (s, r)) : bndP s := by
  unfold optS at h
  rcases rdS_one l with e | ⟨x, y, q, e, _, h1⟩
  · rw [e] at h
    simp at h
  · rw [e] at h
    simp only [if_true, Option.some.injEq, Prod.mk.injEq] at h
    obtain ⟨rfl, rfl⟩ := h
    have := (right_iff _ _).1 h1
    exact ⟨by show (x : Int) ≤ _; omega, by show (y : Int) ≤ _; omega⟩
theorem prsV_bnd {l r : List UInt8} {v : Ver} (h : prsV l = some (v, r)) : bndV v := by
  unfold prsV at h
  simp only [Option.bind_eq_some_iff] at h
  obtain ⟨⟨s, l1⟩, h1, ⟨t, l2⟩, h2, ⟨g, l3⟩, h3, h4⟩ := h
  simp only at h2 h3 h4
  split at h4
  · simp only [Option.bind_eq_some_iff] at h4
    obtain ⟨⟨n, l4⟩, h5, h6⟩ := h4
    simp only [Option.some.injEq, Prod.mk.injEq] at h6
    obtain ⟨rfl, rfl⟩ := h6
    exact ⟨optS_bnd h1, (optN_one h5).2⟩
  · cases h4
theorem prsVs_bnd : ∀ {n : Nat} {l r : List UInt8} {vs : List Ver}, prsVs n l = some (vs, r) → ∀ v ∈ vs, bndV v
  | 0, l, r, vs, h => by
    simp only [prsVs, Option.some.injEq, Prod.mk.injEq] at h
    obtain ⟨rfl, rfl⟩ := h
    exact fun v hv => (by cases hv)
  | n + 1, l, r, vs, h => by
    simp only [prsVs, Option.bind_eq_some_iff] at h
    obtain ⟨⟨v, l1⟩, h1, ⟨us, l2⟩, h2, h3⟩ := h
    simp only [Option.some.injEq, Prod.mk.injEq] at h2 h3
    obtain ⟨rfl, rfl⟩ := h3
    intro x hx
    rcases List.mem_cons.1 hx with rfl | hx
    · exact prsV_bnd h1
    · exact prsVs_bnd h2 x hx
theorem prsI_bnd {l r : List UInt8} {i : Itn} (h : prsI l = some (i, r)) : bndI i := by
  unfold prsI at h
  simp only [Option.bind_eq_some_iff] at h
  obtain ⟨⟨i1, l1⟩, h1, ⟨p, l2⟩, h2, ⟨k, l3⟩, h3, h4⟩ := h
  simp only at h2 h3 h4
  split at h4
  · simp only [Option.bind_eq_some_iff] at h4
    obtain ⟨⟨s, l4⟩, h5, ⟨q, l5⟩, h6, ⟨a, l6⟩, h7, ⟨t, l7⟩, h8, ⟨g, l8⟩, h9, h10⟩ := h4
    simp only at h6 h7 h8 h9 h10
    split at h10
    · simp only [Option.some.injEq, Prod.mk.injEq] at h10
      obtain ⟨rfl, rfl⟩ := h10
      exact ⟨(optN_one h1).2, (optN_one h2).2, optS_bnd h5, (optN_one h6).2, optS_bnd h7⟩
    · cases h10
  · cases h4
theorem zero_bnd : bndI Itn.zero := ⟨by decide, by decide, ⟨by decide, by decide⟩, by decide, ⟨by decide, by decide⟩⟩
theorem prsC_bnd {l r : List UInt8} {c : Chn} (h : prsC l = some (c, r)) : bndC c := by
  unfold prsC at h
  simp only [Option.bind_eq_some_iff] at h
  obtain ⟨⟨n, l1⟩, h1, ⟨vs, l2⟩, h2, ⟨o, l3⟩, h3, h4⟩ := h
  simp only at h2 h3 h4
  split at h4
  · simp only [Option.bind_eq_some_iff] at h4
    obtain ⟨⟨i, l4⟩, h5, h6⟩ := h4
    simp only [Option.some.injEq, Prod.mk.injEq] at h6
    obtain ⟨rfl, rfl⟩ := h6
    exact ⟨prsVs_bnd h2, prsI_bnd h5⟩
  · simp only [Option.some.injEq, Prod.mk.injEq] at h4
    obtain ⟨rfl, rfl⟩ := h4
    exact ⟨prsVs_bnd h2, zero_bnd⟩
theorem prsK_bnd : ∀ {n : Nat} {a : ByteArray} {l r : List UInt8} {D : List KC}, prsK n a l = some (D, r) → ∀ p ∈ D, bndC p.2
  | 0, a, l, r, D, h => by
    simp only [prsK, Option.some.injEq, Prod.mk.injEq] at h
    obtain ⟨rfl, rfl⟩ := h
    exact fun v hv => (by cases hv)
  | n + 1, a, l, r, D, h => by
    simp only [prsK, Option.bind_eq_some_iff] at h
    obtain ⟨⟨k, l1⟩, h1, ⟨c, l2⟩, h2, h3⟩ := h
    simp only at h2 h3
    split at h3
    · simp only [Option.bind_eq_some_iff] at h3
      obtain ⟨⟨E, l3⟩, h4, h5⟩ := h3
      simp only [Option.some.injEq, Prod.mk.injEq] at h5
      obtain ⟨rfl, rfl⟩ := h5
      intro x hx
      rcases List.mem_cons.1 hx with rfl | hx
      · exact prsC_bnd h2
      · exact prsK_bnd h4 x hx
    · cases h3
theorem prsS_bnd {l : List UInt8} {D : List KC} (h : prsS l = some D) : ∀ p ∈ D, bndC p.2 := by
  unfold prsS at h
  simp only [Option.bind_eq_some_iff] at h
  obtain ⟨⟨n, l1⟩, h1, ⟨E, l2⟩, h2, h3⟩ := h
  simp only at h2 h3
  split at h3
  · simp only [Option.some.injEq] at h3
    subst h3
    exact prsK_bnd h2
  · cases h3
theorem encT_len (s : ByteArray) : s.size ≤ (P1.encT s).length := by
  unfold P1.encT
  rw [List.length_append, P1.str_len]
  omega
theorem flatm_len {α : Type} (f : α → List UInt8) : ∀ {l : List α} {x : α}, x ∈ l → (f x).length ≤ (l.flatMap f).length
  | y :: r, x, h => by
    rw [List.flatMap_cons, List.length_append]
    rcases List.mem_cons.1 h with rfl | h
    · omega
    · have := flatm_len f h
      omega

end Go.Proofs.YtcdehnghggleoaaGreat

/-
  A version's bytes, an intent's. No law is proved here.
-/
namespace Go.Proofs.YtcdehnghggleoaaGreat
open Go.RowKit
set_option linter.unusedVariables false
set_option maxRecDepth 100000
set_option maxHeartbeats 2000000

theorem vbytes_any (v : Ver) (w : World) (hb : bndV v) (hl : (encV v).length ≤ 1000) :
    Calls Tryz.prog 64 #[(.agg #[.int .i64 v.at_.1, .int .i64 v.at_.2, .string v.val, .bool v.gone, .int .i64 v.by_])] w fun e w' => ∃ r, e = .returned r ∧ P1.Own w.heap.size w' r (encV v) ∧ Below w.heap.size w w' := by
  unfold encV at hl
  simp only [encP, P1.encS, List.length_append] at hl
  have h_v_val := encT_len v.val
  unfold bndV bndP at hb
  have V := Blk.new w #[.int .i64 v.at_.1, .int .i64 v.at_.2, .string v.val, .bool v.gone, .int .i64 v.by_] 97
  have hB : Below w.heap.size w (w.alloc (.cells #[.int .i64 v.at_.1, .int .i64 v.at_.2, .string v.val, .bool v.gone, .int .i64 v.by_] 97)) := (Below.refl w.heap.size w).alloc (Nat.le_refl _) _
  have hsn : (w.alloc (.cells #[.int .i64 v.at_.1, .int .i64 v.at_.2, .string v.val, .bool v.gone, .int .i64 v.by_] 97)).heap.size = w.heap.size + 1 := by simp
  go_enter Tryz.func64, Tryz.ntmps64
  go_wp2_with fail
  generalize w.alloc _ = w1 at *
  refine (P1.put_stp _ _ _ _ w1 (P1.Sl.nil w1) (by simp) (by omega) (by omega)).mono ?_
  rintro e w2 ⟨r1, rfl, o1, b2⟩
  have B2 := hB.trans (b2.mono hB.size)
  have V2 := V.later b2
  have G2 := V2
  have G2_0 := G2.c 0; have G2_1 := G2.c 1; have G2_2 := G2.c 2; have G2_3 := G2.c 3; have G2_4 := G2.c 4; simp only [List.getElem?_cons_zero, List.getElem?_cons_succ] at G2_0 G2_1 G2_2 G2_3 G2_4
  go_wp2_with fail
  refine (P1.text_any _ _ _ w2 o1.sl (by simp only [P1.encS, List.length_append, List.length_nil]; omega) (by omega)).mono ?_
  rintro e w3 ⟨r2, rfl, o2, b3⟩
  have B3 := B2.trans (b3.mono B2.size)
  have V3 := V2.later b3
  have G3 := V3
  have G3_0 := G3.c 0; have G3_1 := G3.c 1; have G3_2 := G3.c 2; have G3_3 := G3.c 3; have G3_4 := G3.c 4; simp only [List.getElem?_cons_zero, List.getElem?_cons_succ] at G3_0 G3_1 G3_2 G3_3 G3_4
  go_wp2_with fail
  refine (P1.flag_any _ _ _ w3 o2.sl (by simp only [P1.encS, List.length_append, List.length_nil]; omega)).mono ?_
  rintro e w4 ⟨r3, rfl, o3, b4⟩
  have B4 := B3.trans (b4.mono B3.size)
  have V4 := V3.later b4
  have G4 := V4
  have G4_0 := G4.c 0; have G4_1 := G4.c 1; have G4_2 := G4.c 2; have G4_3 := G4.c 3; have G4_4 := G4.c 4; simp only [List.getElem?_cons_zero, List.getElem?_cons_succ] at G4_0 G4_1 G4_2 G4_3 G4_4
  go_wp2_with fail
  refine (P1.number_any _ _ _ w4 o3.sl (by simp only [P1.encS, List.length_append, List.length_nil]; omega) (by omega)).mono ?_
  rintro e w5 ⟨r4, rfl, o4, b5⟩
  have B5 := B4.trans (b5.mono B4.size)
  have V5 := V4.later b5
  go_wp2
  go_ret
  refine ⟨r4, rfl, ?_, B5⟩
  have q := P1.Own.mono o4 B4.size
  unfold encV
  simpa only [List.nil_append, List.append_assoc, encP, P1.encS] using q

theorem ibytes_any (i : Itn) (w : World) (hb : bndI i) (hl : (encI i).length ≤ 1000) :
    Calls Tryz.prog 66 #[(.agg #[.int .i64 i.txn.id, .int .i64 i.txn.ep, .string i.txn.anchor, .int .i64 i.txn.start.1, .int .i64 i.txn.start.2, .int .i64 i.seq, .int .i64 i.at_.1, .int .i64 i.at_.2, .string i.val, .bool i.gone])] w fun e w' => ∃ r, e = .returned r ∧ P1.Own w.heap.size w' r (encI i) ∧ Below w.heap.size w w' := by
  unfold encI at hl
  simp only [encP, P1.encS, List.length_append] at hl
  have h_i_txn_anchor := encT_len i.txn.anchor
  have h_i_val := encT_len i.val
  unfold bndI bndP at hb
  have V := Blk.new w #[.int .i64 i.txn.id, .int .i64 i.txn.ep, .string i.txn.anchor, .int .i64 i.txn.start.1, .int .i64 i.txn.start.2, .int .i64 i.seq, .int .i64 i.at_.1, .int .i64 i.at_.2, .string i.val, .bool i.gone] 42
  have hB : Below w.heap.size w (w.alloc (.cells #[.int .i64 i.txn.id, .int .i64 i.txn.ep, .string i.txn.anchor, .int .i64 i.txn.start.1, .int .i64 i.txn.start.2, .int .i64 i.seq, .int .i64 i.at_.1, .int .i64 i.at_.2, .string i.val, .bool i.gone] 42)) := (Below.refl w.heap.size w).alloc (Nat.le_refl _) _
  have hsn : (w.alloc (.cells #[.int .i64 i.txn.id, .int .i64 i.txn.ep, .string i.txn.anchor, .int .i64 i.txn.start.1, .int .i64 i.txn.start.2, .int .i64 i.seq, .int .i64 i.at_.1, .int .i64 i.at_.2, .string i.val, .bool i.gone] 42)).heap.size = w.heap.size + 1 := by simp
  go_enter Tryz.func66, Tryz.ntmps66
  go_wp2_with fail
  generalize w.alloc _ = w1 at *
  refine (P1.number_any _ _ _ w1 (P1.Sl.nil w1) (by simp) (by omega)).mono ?_
  rintro e w2 ⟨r1, rfl, o1, b2⟩
  have B2 := hB.trans (b2.mono hB.size)
  have V2 := V.later b2
  have G2 := V2
  have G2_0 := G2.c 0; have G2_1 := G2.c 1; have G2_2 := G2.c 2; have G2_3 := G2.c 3; have G2_4 := G2.c 4; have G2_5 := G2.c 5; have G2_6 := G2.c 6; have G2_7 := G2.c 7; have G2_8 := G2.c 8; have G2_9 := G2.c 9; simp only [List.getElem?_cons_zero, List.getElem?_cons_succ] at G2_0 G2_1 G2_2 G2_3 G2_4 G2_5 G2_6 G2_7 G2_8 G2_9
  go_wp2_with fail
  refine (P1.number_any _ _ _ w2 o1.sl (by simp only [List.length_append, List.length_nil]; omega) (by omega)).mono ?_
  rintro e w3 ⟨r2, rfl, o2, b3⟩
  have B3 := B2.trans (b3.mono B2.size)
  have V3 := V2.later b3
  have G3 := V3
  have G3_0 := G3.c 0; have G3_1 := G3.c 1; have G3_2 := G3.c 2; have G3_3 := G3.c 3; have G3_4 := G3.c 4; have G3_5 := G3.c 5; have G3_6 := G3.c 6; have G3_7 := G3.c 7; have G3_8 := G3.c 8; have G3_9 := G3.c 9; simp only [List.getElem?_cons_zero, List.getElem?_cons_succ] at G3_0 G3_1 G3_2 G3_3 G3_4 G3_5 G3_6 G3_7 G3_8 G3_9
  go_wp2_with fail
  refine (P1.text_any _ _ _ w3 o2.sl (by simp only [List.length_append, List.length_nil]; omega) (by omega)).mono ?_
  rintro e w4 ⟨r3, rfl, o3, b4⟩
  have B4 := B3.trans (b4.mono B3.size)
  have V4 := V3.later b4
  have G4 := V4
  have G4_0 := G4.c 0; have G4_1 := G4.c 1; have G4_2 := G4.c 2; have G4_3 := G4.c 3; have G4_4 := G4.c 4; have G4_5 := G4.c 5; have G4_6 := G4.c 6; have G4_7 := G4.c 7; have G4_8 := G4.c 8; have G4_9 := G4.c 9; simp only [List.getElem?_cons_zero, List.getElem?_cons_succ] at G4_0 G4_1 G4_2 G4_3 G4_4 G4_5 G4_6 G4_7 G4_8 G4_9
  go_wp2_with fail
  refine (P1.put_stp _ _ _ _ w4 o3.sl (by simp only [List.length_append, List.length_nil]; omega) (by omega) (by omega)).mono ?_
  rintro e w5 ⟨r4, rfl, o4, b5⟩
  have B5 := B4.trans (b5.mono B4.size)
  have V5 := V4.later b5
  have G5 := V5
  have G5_0 := G5.c 0; have G5_1 := G5.c 1; have G5_2 := G5.c 2; have G5_3 := G5.c 3; have G5_4 := G5.c 4; have G5_5 := G5.c 5; have G5_6 := G5.c 6; have G5_7 := G5.c 7; have G5_8 := G5.c 8; have G5_9 := G5.c 9; simp only [List.getElem?_cons_zero, List.getElem?_cons_succ] at G5_0 G5_1 G5_2 G5_3 G5_4 G5_5 G5_6 G5_7 G5_8 G5_9
  go_wp2_with fail
  refine (P1.number_any _ _ _ w5 o4.sl (by simp only [P1.encS, List.length_append, List.length_nil]; omega) (by omega)).mono ?_
  rintro e w6 ⟨r5, rfl, o5, b6⟩
  have B6 := B5.trans (b6.mono B5.size)
  have V6 := V5.later b6
  have G6 := V6
  have G6_0 := G6.c 0; have G6_1 := G6.c 1; have G6_2 := G6.c 2; have G6_3 := G6.c 3; have G6_4 := G6.c 4; have G6_5 := G6.c 5; have G6_6 := G6.c 6; have G6_7 := G6.c 7; have G6_8 := G6.c 8; have G6_9 := G6.c 9; simp only [List.getElem?_cons_zero, List.getElem?_cons_succ] at G6_0 G6_1 G6_2 G6_3 G6_4 G6_5 G6_6 G6_7 G6_8 G6_9
  go_wp2_with fail
  refine (P1.put_stp _ _ _ _ w6 o5.sl (by simp only [P1.encS, List.length_append, List.length_nil]; omega) (by omega) (by omega)).mono ?_
  rintro e w7 ⟨r6, rfl, o6, b7⟩
  have B7 := B6.trans (b7.mono B6.size)
  have V7 := V6.later b7
  have G7 := V7
  have G7_0 := G7.c 0; have G7_1 := G7.c 1; have G7_2 := G7.c 2; have G7_3 := G7.c 3; have G7_4 := G7.c 4; have G7_5 := G7.c 5; have G7_6 := G7.c 6; have G7_7 := G7.c 7; have G7_8 := G7.c 8; have G7_9 := G7.c 9; simp only [List.getElem?_cons_zero, List.getElem?_cons_succ] at G7_0 G7_1 G7_2 G7_3 G7_4 G7_5 G7_6 G7_7 G7_8 G7_9
  go_wp2_with fail
  refine (P1.text_any _ _ _ w7 o6.sl (by simp only [P1.encS, List.length_append, List.length_nil]; omega) (by omega)).mono ?_
  rintro e w8 ⟨r7, rfl, o7, b8⟩
  have B8 := B7.trans (b8.mono B7.size)
  have V8 := V7.later b8
  have G8 := V8
  have G8_0 := G8.c 0; have G8_1 := G8.c 1; have G8_2 := G8.c 2; have G8_3 := G8.c 3; have G8_4 := G8.c 4; have G8_5 := G8.c 5; have G8_6 := G8.c 6; have G8_7 := G8.c 7; have G8_8 := G8.c 8; have G8_9 := G8.c 9; simp only [List.getElem?_cons_zero, List.getElem?_cons_succ] at G8_0 G8_1 G8_2 G8_3 G8_4 G8_5 G8_6 G8_7 G8_8 G8_9
  go_wp2_with fail
  refine (P1.flag_any _ _ _ w8 o7.sl (by simp only [P1.encS, List.length_append, List.length_nil]; omega)).mono ?_
  rintro e w9 ⟨r8, rfl, o8, b9⟩
  have B9 := B8.trans (b9.mono B8.size)
  have V9 := V8.later b9
  go_wp2
  go_ret
  refine ⟨r8, rfl, ?_, B9⟩
  have q := P1.Own.mono o8 B8.size
  unfold encI
  simpa only [List.nil_append, List.append_assoc, encP, P1.encS] using q

end Go.Proofs.YtcdehnghggleoaaGreat

/-
  A chain's bytes. No law is proved here.
-/
namespace Go.Proofs.YtcdehnghggleoaaGreat
open Go.RowKit
set_option linter.unusedVariables false
set_option maxRecDepth 100000
set_option maxHeartbeats 4000000

/-- Bytes of the call's own as a source. -/
theorem own_src {B : Nat} {w : World} {r : Value} {l : List UInt8} (h : P1.Own B w r l) (hl : 0 < l.length) : ∃ ad c, r = .slice (some ad) l.length c ∧ ∀ j u, (P1.bc l)[j]? = some u → w.cell? (ad.add j) = some u := by
  obtain ⟨ao, c, rfl, h1, h2, h3, h4⟩ := id h.sl
  obtain ⟨b, o, rfl⟩ := P1.Sl.addr h.sl hl
  exact ⟨_, c, rfl, h4 _ rfl⟩
theorem encV_ps (v : Ver) : 0 < (encV v).length := by
  unfold encV encP P1.encS
  simp only [List.length_append]
  have := P1.enc_pos v.at_.1.toNat
  omega
theorem encI_pos (i : Itn) : 0 < (encI i).length := by
  unfold encI
  simp only [List.length_append]
  have := P1.enc_pos i.txn.id.toNat
  omega
theorem take_flat {α : Type} (f : α → List UInt8) (l : List α) (k : Nat) (h : k < l.length) : (l.take (k + 1)).flatMap f = (l.take k).flatMap f ++ f l[k] := by
  rw [List.take_add_one, List.flatMap_append, List.getElem?_eq_getElem h]
  simp
theorem take_flat_len {α : Type} (f : α → List UInt8) (l : List α) (k : Nat) : ((l.take k).flatMap f).length ≤ (l.flatMap f).length := by
  conv => rhs; rw [← List.take_append_drop k l]
  rw [List.flatMap_append, List.length_append]
  omega

theorem cbytes_any (ao : Option Addr) (cap : Nat) (c : Chn) (n : Nat) (w : World) (hn : c.vs.length = n) (hv : Vs w ao cap c.vs) (hb : bndC c) (hl : (encC c).length ≤ 1000) :
    Calls Tryz.prog 33 #[(.agg #[.slice ao n cap, .bool c.opn, .int .i64 c.itn.txn.id, .int .i64 c.itn.txn.ep, .string c.itn.txn.anchor, .int .i64 c.itn.txn.start.1, .int .i64 c.itn.txn.start.2, .int .i64 c.itn.seq, .int .i64 c.itn.at_.1, .int .i64 c.itn.at_.2, .string c.itn.val, .bool c.itn.gone])] w fun e w' => ∃ r, e = .returned r ∧ P1.Own w.heap.size w' r (encC c) ∧ Below w.heap.size w w' := by
  obtain ⟨vs, o, i⟩ := c
  simp only at hn hv ⊢
  obtain ⟨hbv, hbi⟩ := hb
  simp only at hbv hbi
  have hlv := hv.len
  unfold maxLen at hlv
  have hle := hv.le
  have hcm := hv.cm
  unfold maxLen at hcm
  rw [hn] at hlv hle
  have HE : Hid (encC ⟨vs, o, i⟩ = P1.enc n ++ vs.flatMap encV ++ P1.encF o ++ (if o = true then encI i else [])) := by unfold Hid encC; simp [hn, List.append_assoc]
  have hl2 := hl
  rw [unhide HE] at hl2
  simp only [List.length_append] at hl2
  have hbV := fun (k : Nat) (h : k < vs.length) => hbv vs[k] (List.getElem_mem h)
  have hlV := fun (k : Nat) (h : k < vs.length) => flatm_len encV (List.getElem_mem h : vs[k] ∈ vs)
  clear hl
  have A := Blk.new w #[.slice ao n cap, .bool o, .int .i64 i.txn.id, .int .i64 i.txn.ep, .string i.txn.anchor, .int .i64 i.txn.start.1, .int .i64 i.txn.start.2, .int .i64 i.seq, .int .i64 i.at_.1, .int .i64 i.at_.2, .string i.val, .bool i.gone] 61
  have hB : Below w.heap.size w (w.alloc (.cells #[.slice ao n cap, .bool o, .int .i64 i.txn.id, .int .i64 i.txn.ep, .string i.txn.anchor, .int .i64 i.txn.start.1, .int .i64 i.txn.start.2, .int .i64 i.seq, .int .i64 i.at_.1, .int .i64 i.at_.2, .string i.val, .bool i.gone] 61)) := (Below.refl w.heap.size w).alloc (Nat.le_refl _) _
  have Hv := hide (hv.later hB)
  clear hv
  go_enter Tryz.func33, Tryz.ntmps33
  go_wp2_with fail
  generalize w.alloc _ = w1 at *
  refine (P1.number_any _ _ _ w1 (P1.Sl.nil w1) (by simp) (by omega)).mono ?_
  rintro e w2 ⟨r1, rfl, o1, b2⟩
  have A2 := A.later b2
  have A2_0 := A2.c 0; have A2_1 := A2.c 1; have A2_2 := A2.c 2; have A2_3 := A2.c 3; have A2_4 := A2.c 4; have A2_5 := A2.c 5; have A2_6 := A2.c 6; have A2_7 := A2.c 7; have A2_8 := A2.c 8; have A2_9 := A2.c 9; have A2_10 := A2.c 10; have A2_11 := A2.c 11; simp only [List.getElem?_cons_zero, List.getElem?_cons_succ] at A2_0 A2_1 A2_2 A2_3 A2_4 A2_5 A2_6 A2_7 A2_8 A2_9 A2_10 A2_11
  rw [List.nil_append, Int.toNat_natCast] at o1
  go_wp2
  go_loopw [3, 13] (fun vr vk wr => ∃ (k : Nat), vk = .int .i64 (k : Int) ∧ k ≤ n ∧ Hid (P1.Own w1.heap.size wr vr (P1.enc n ++ (vs.take k).flatMap encV)) ∧ Hid (Below w1.heap.size w1 wr)) (fun _ vk _ => n - (intOf vk).toNat)
  case atStart => exact ⟨0, rfl, Nat.zero_le _, by unfold Hid; simpa using o1, b2⟩
  case round =>
    obtain ⟨k, rfl, hk, HO, Hb⟩ := hrel
    have hne := P1.Own.val (unhide HO)
    by_cases hlt : k < n
    · have h1 : k < vs.length := by omega
      obtain ⟨bb, oo, rfl, x⟩ := (unhide Hv).each k h1
      have hkV := hbV k h1
      have hkl := hlV k h1
      obtain ⟨v, hv0⟩ : ∃ v, vs[k] = v := ⟨_, rfl⟩
      rw [hv0] at x hkV hkl
      replace x := x.block ((unhide Hb).block _ x.lt)
      have x0 := x.c0
      have x1 := x.c1
      have x2 := x.c2
      have x3 := x.c3
      have x4 := x.c4
      have HT : Hid ((vs.take (k + 1)).flatMap encV = (vs.take k).flatMap encV ++ encV v) := by unfold Hid; rw [take_flat encV vs k h1, hv0]
      have htl := take_flat_len encV vs k
      have E := Blk.new wr #[.int .i64 v.at_.1, .int .i64 v.at_.2, .string v.val, .bool v.gone, .int .i64 v.by_] 97
      have E_0 := E.c 0; have E_1 := E.c 1; have E_2 := E.c 2; have E_3 := E.c 3; have E_4 := E.c 4; simp only [List.getElem?_cons_zero, List.getElem?_cons_succ] at E_0 E_1 E_2 E_3 E_4
      have HO2 := hide ((unhide HO).later ((Below.refl wr.heap.size wr).alloc (Nat.le_refl _) (.cells #[.int .i64 v.at_.1, .int .i64 v.at_.2, .string v.val, .bool v.gone, .int .i64 v.by_] 97)))
      have Hb2 := hide ((unhide Hb).alloc (unhide Hb).size (.cells #[.int .i64 v.at_.1, .int .i64 v.at_.2, .string v.val, .bool v.gone, .int .i64 v.by_] 97))
      clear x hv0 HO E Hb hne
      go_wp2_with fail
      clear x0 x1 x2 x3 x4 E_0 E_1 E_2 E_3 E_4
      generalize wr.alloc _ = w3 at *
      refine (vbytes_any v w3 hkV (by omega)).mono ?_
      rintro e w4 ⟨r2, rfl, o2, b4⟩
      have HO4 := hide ((unhide HO2).later b4)
      have Hb4 := hide ((unhide Hb2).trans (b4.mono (unhide Hb2).size))
      obtain ⟨ad, cc, rfl, hcc⟩ := own_src o2 (encV_ps v)
      have Hcc := hide hcc
      have hz4 := (unhide Hb4).size
      clear HO2 Hb2 b4 o2 hcc
      go_wp2_with (at_builtin; refine P1.wpList_append_onb _ rfl (.tmp 17) (.tmp 19) rfl w1.heap.size hz4 _ _ rfl (.inr (unhide HO4)) ad cc (encV v) (encV v).length rfl rfl (unhide Hcc) (encV_ps v) (by simp only [List.length_append]; omega) ?_)
      intro r3 w5 o5 b5
      have Hb5 := hide ((unhide Hb4).trans b5)
      have HO5 : Hid (P1.Own w1.heap.size w5 r3 (P1.enc n ++ (vs.take (k + 1)).flatMap encV)) := by unfold Hid; rw [unhide HT]; simpa only [List.append_assoc] using o5
      clear o5 b5 Hb4 HO4 Hcc
      go_wp2
      go_roundw
      case rel => exact ⟨k + 1, by go_num, hlt, HO5, Hb5⟩
      case measure => simp [intOf]; omega
    · obtain rfl : k = n := by omega
      rw [List.take_of_length_le (show vs.length ≤ k by omega)] at HO
      have HO2 := HO
      have A3 := A.later (unhide Hb)
      have A3_0 := A3.c 0; have A3_1 := A3.c 1; have A3_2 := A3.c 2; have A3_3 := A3.c 3; have A3_4 := A3.c 4; have A3_5 := A3.c 5; have A3_6 := A3.c 6; have A3_7 := A3.c 7; have A3_8 := A3.c 8; have A3_9 := A3.c 9; have A3_10 := A3.c 10; have A3_11 := A3.c 11; simp only [List.getElem?_cons_zero, List.getElem?_cons_succ] at A3_0 A3_1 A3_2 A3_3 A3_4 A3_5 A3_6 A3_7 A3_8 A3_9 A3_10 A3_11
      clear HO hne A2_0 A2_1 A2_2 A2_3 A2_4 A2_5 A2_6 A2_7 A2_8 A2_9 A2_10 A2_11
      go_wp2_with fail
      refine (P1.flag_any _ _ o wr (unhide HO2).sl (by simp only [List.length_append]; omega)).mono ?_
      rintro e w3 ⟨r4, rfl, o4, b4⟩
      have Hb4 := hide ((hB.trans ((unhide Hb).mono hB.size)).trans (b4.mono (Nat.le_trans hB.size (unhide Hb).size)))
      have A4 := A3.later b4
      have A4_0 := A4.c 0; have A4_1 := A4.c 1; have A4_2 := A4.c 2; have A4_3 := A4.c 3; have A4_4 := A4.c 4; have A4_5 := A4.c 5; have A4_6 := A4.c 6; have A4_7 := A4.c 7; have A4_8 := A4.c 8; have A4_9 := A4.c 9; have A4_10 := A4.c 10; have A4_11 := A4.c 11; simp only [List.getElem?_cons_zero, List.getElem?_cons_succ] at A4_0 A4_1 A4_2 A4_3 A4_4 A4_5 A4_6 A4_7 A4_8 A4_9 A4_10 A4_11
      clear A3_0 A3_1 A3_2 A3_3 A3_4 A3_5 A3_6 A3_7 A3_8 A3_9 A3_10 A3_11
      cases o
      · go_wp2
        go_ret
        refine ⟨r4, rfl, ?_, unhide Hb4⟩
        have q := P1.Own.mono o4 (Nat.le_trans hB.size (unhide Hb).size)
        rw [unhide HE]
        simpa only [Bool.false_eq_true, if_false, List.append_nil] using q
      · rw [if_pos rfl] at hl2
        go_wp2_with fail
        refine (ibytes_any i w3 hbi (by omega)).mono ?_
        rintro e w5 ⟨r5, rfl, o5, b5⟩
        have HO5 := hide (o4.later b5)
        obtain ⟨ad, cc, rfl, hcc⟩ := own_src o5 (encI_pos i)
        have Hcc := hide hcc
        have hz5 := Nat.le_trans b4.size b5.size
        have Hb5 := hide ((unhide Hb4).trans (b5.mono (unhide Hb4).size))
        clear hcc b5 o5 o4 b4 Hb4 HO2
        go_wp2_with (at_builtin; refine P1.wpList_append_onb _ rfl (.tmp 28) (.tmp 31) rfl wr.heap.size hz5 _ _ rfl (.inr (unhide HO5)) ad cc (encI i) (encI i).length rfl rfl (unhide Hcc) (encI_pos i) (by simp only [List.length_append]; omega) ?_)
        intro r6 w6 o6 b6
        go_wp2
        go_ret
        refine ⟨r6, rfl, ?_, (unhide Hb5).trans (b6.mono (Nat.le_trans hB.size (unhide Hb).size))⟩
        have q := P1.Own.mono o6 (Nat.le_trans hB.size (unhide Hb).size)
        rw [unhide HE]
        simpa only [if_true, List.append_assoc] using q

end Go.Proofs.YtcdehnghggleoaaGreat

/-
  A store's bytes. No law is proved here.
-/
namespace Go.Proofs.YtcdehnghggleoaaGreat
open Go.RowKit Go.Maps
set_option linter.unusedVariables false
set_option maxRecDepth 100000
set_option maxHeartbeats 4000000

/-- Rows of different element types stay while one grows. -/
theorem row_stays {w w' : World} {B B' : Nat} {e e' : TypeId} {s s' : Nat} {v v' : Value} {n n' : Nat} {xs xs' : List Value} (h : w.ownsRow B e s v n xs) (h' : w.ownsRow B' e' s' v' n' xs') (hne : e ≠ e') (hg : w.grownBy w' v'.ownBlock) : w'.ownsRow B e s v n xs := by
  refine ⟨h.1, ?_⟩
  rcases h.2 with h0 | ⟨g, cap, cur, ev, hb, hc, rest⟩
  · exact .inl h0
  · refine .inr ⟨g, cap, cur, ev, hb, ?_, rest⟩
    rw [hg.block g (Array.getElem?_eq_some_iff.1 hc).1 (fun q => ?_)]
    · exact hc
    · rcases h'.2 with ⟨e1, _⟩ | ⟨g', cap', cur', e1, _, hc', _⟩
      · rw [e1] at q
        cases q
      · rw [e1] at q
        have q : g = g' := by injection q
        subst q
        rw [hc] at hc'
        injection hc' with hc'
        injection hc' with _ q2
        exact hne q2
theorem row_frame {w w' : World} {B : Nat} {e : TypeId} {s : Nat} {v : Value} {n : Nat} {xs : List Value} (h : w.ownsRow B e s v n xs) (hk : ∀ g, B ≤ g → g < w.heap.size → w'.heap[g]? = w.heap[g]?) : w'.ownsRow B e s v n xs := by
  refine ⟨h.1, ?_⟩
  rcases h.2 with h0 | ⟨g, cap, cur, ev, hb, hc, rest⟩
  · exact .inl h0
  · refine .inr ⟨g, cap, cur, ev, hb, ?_, rest⟩
    rw [hk g hb (Array.getElem?_eq_some_iff.1 hc).1]
    exact hc
theorem row_late {w w' : World} {B : Nat} {e : TypeId} {s : Nat} {v : Value} {n : Nat} {xs : List Value} (h : w.ownsRow B e s v n xs) (hb : Below w.heap.size w w') : w'.ownsRow B e s v n xs := row_frame h fun g _ hg => hb.block g hg

/-- The keys in a row of the call's own. -/
def KOwn (w : World) (v : Value) (l : List Ent) : Prop := ∃ B, w.ownsRow B 9 1 v (l.map fun e => e.key.data.toList).length ((l.map fun e => e.key.data.toList).map encStr)
theorem KOwn.later {w w' : World} {v : Value} {l : List Ent} (h : KOwn w v l) (hb : Below w.heap.size w w') : KOwn w' v l := by
  obtain ⟨B, h⟩ := h
  exact ⟨B, row_late h hb⟩
theorem KOwn.stays {w w' : World} {v r : Value} {l : List Ent} {B : Nat} {m : List UInt8} (h : KOwn w v l) (ho : P1.Own B w r m) (hg : w.grownBy w' r.ownBlock) : KOwn w' v l := by
  obtain ⟨B, h⟩ := h
  exact ⟨B, row_stays h ho (by decide) hg⟩
theorem KOwn.at_ {w : World} {ao : Option Addr} {n c : Nat} {l : List Ent} (h : KOwn w (.slice ao n c) l) {k : Nat} (hk : k < l.length) : ∃ b o, ao = some ⟨b, o, none⟩ ∧ w.cell? ⟨b, o + k, none⟩ = some (.string l[k].key) := by
  obtain ⟨B, h⟩ := h
  obtain ⟨ao', c', e, hs⟩ := strs_own h
  injection e with e1 e2 e3
  subst e1
  obtain ⟨b, o, rfl, hc⟩ := hs (by simp; omega)
  refine ⟨b, o, rfl, ?_⟩
  rw [hc k (by simpa using hk)]
  simp [ofL_data]

theorem sortedw_any (a b : Nat) (l : List Ent) (w : World) (h : Sto w a b l) :
    Calls Tryz.prog 61 #[.func (.func 94) #[] #[.pointer (some ⟨w.heap.size, 0, none⟩)]] (w.alloc (.cells #[.map (some b)] 66)) fun e w' =>
      ∃ ao c, e = .returned (.slice ao l.length c) ∧ KOwn w' (.slice ao l.length c) l ∧ Below w.heap.size w w' := by
  have hs := size_DL l
  have hl := h.len
  have hB : Below w.heap.size w (w.alloc (.cells #[.map (some b)] 66)) := (Below.refl _ _).alloc (Nat.le_refl _) _
  refine ((callsIn_wide (n := 5)).1 (AnyZ.sorted_in Tryz.sortedZ Fence.wide 5 trivial trivial trivial trivial rfl (by omega) (sortsIn _) (enters_of Tryz.func93 (by kernel_rfl) rfl) 94 _ trivial (enters_of Tryz.func94 (by kernel_rfl) rfl) _ _ (by rw [hs]; unfold maxLen; omega) (by rw [hs]; omega) _ (gives_any h))).mono ?_
  rintro e w' ⟨v, ss, rfl, hp, ho, _, hb⟩
  rw [sort_DL h.rise hp] at ho
  replace ho : w'.ownsRow (w.alloc (.cells #[.map (some b)] 66)).heap.size 9 1 v ss.length ((l.map fun e => e.key.data.toList).map encStr) := ho
  have hlen : ss.length = l.length := by rw [hp.length_eq, strKeys_DL, List.length_map]
  have ho2 : w'.ownsRow (w.alloc (.cells #[.map (some b)] 66)).heap.size 9 1 v (l.map fun e => e.key.data.toList).length ((l.map fun e => e.key.data.toList).map encStr) := by simpa [hlen] using ho
  obtain ⟨ao, c, rfl, hst⟩ := strs_own ho2
  rw [List.length_map] at *
  exact ⟨ao, c, by simp, ⟨_, by simpa using ho2⟩, hB.trans (hb.mono hB.size)⟩
theorem keysw_any (a b : Nat) (l : List Ent) (w : World) (h : Sto w a b l) :
    Calls Tryz.prog 28 #[.pointer (some ⟨a, 0, none⟩)] w fun e w' => ∃ ao c, e = .returned (.slice ao l.length c) ∧ KOwn w' (.slice ao l.length c) l ∧ Below w.heap.size w w' := by
  have hc := h.cell
  have Hs := hide (sortedw_any a b l w h)
  clear h
  go_enter Tryz.func28, Tryz.ntmps28
  go_wp2_with fail
  refine (mkeys_any b w).mono ?_
  rintro e w1 ⟨rfl, rfl⟩
  go_wp2_with fail
  refine (unhide Hs).mono ?_
  rintro e w2 ⟨ao, c, rfl, hst, hb⟩
  have HS := hide hst
  have HB := hide hb
  clear hst hb Hs
  go_wp2
  go_ret
  exact ⟨ao, c, rfl, unhide HS, unhide HB⟩

/-- A map's len. -/
theorem wpList_len_m {ops : Array Oper} {rest : List Oper} {o : Oper} {ac : Act} {Q : Exit → Act → World → Prop} (w : World) (hgd : o.guard = none) (x : Operand)
    (ho : o.op = .call { callee := .builtin .len, args := #[x], argTypes := #[66] }) (b : Nat) (n : Nat) (hv : ac.eval x = .map (some b))
    (hr : ∀ ty, (Builtin.len_ #[66] ty #[.map (some b)]).run Tryz.prog w = .ok (.int .i64 (n : Int)) w) (hK : wpList Tryz.prog ops Q rest (ac.put o.dst (.int .i64 (n : Int))) w) : wpList Tryz.prog ops Q (o :: rest) ac w := by
  refine wpList_plain hgd fun K hK' => ?_
  unfold Oper.wp execOp
  simp only [ho, resolve, invoke, builtin, Sem.run_bind, Sem.run_pure, Result.andThen_ok, List.map_toArray, List.map_cons, List.map_nil, hv, hr]
  exact hK' _ _ hK

/-- append of bytes onto a row of the call's own, behind it what grew. -/
theorem wpList_append_gb {ops : Array Oper} {rest : List Oper} {o : Oper} {a : Act} {Q : Exit → Act → World → Prop} (w : World) (hgd : o.guard = none) (s x : Operand)
    (ho : o.op = .call { callee := .builtin .append, args := #[s, x], argTypes := #[22, 22] })
    (B : Nat) (hB : B ≤ w.heap.size) (v : Value) (l : List UInt8) (hv : a.eval s = v) (h : P1.Own B w v l)
    (ad : Addr) (c : Nat) (news : List UInt8) (m : Nat) (hm : news.length = m) (hx : a.eval x = .slice (some ad) m c) (hc : ∀ j u, (P1.bc news)[j]? = some u → w.cell? (ad.add j) = some u)
    (hlen : l.length + m ≤ 70368744177664)
    (hK : ∀ v' w', P1.Own B w' v' (l ++ news) → Below B w w' → w.grownBy w' v.ownBlock → wpList Tryz.prog ops Q rest (a.put o.dst v') w') : wpList Tryz.prog ops Q (o :: rest) a w := by
  obtain ⟨i0, hi, hz0, hz1, hz2⟩ := info_parts P1.Tryz.infoByte
  subst hm
  refine wpList_append_own w hgd s x 22 ho B 5 i0 (.int .u8 0) 1 1 Tryz.underlying22 hi hz0 hz1 hz2 rfl (by decide) v l.length (P1.bc l) hv h
      ad news.length c (P1.bc news) hx (by simp [P1.bc_length]) hc (P1.bc_one _) (by unfold maxLen; omega) (by omega) hB fun v' w' ho' hg _ => hK v' w' ?_ ?_ hg
  · unfold P1.Own; rw [P1.bc_append, List.length_append]; exact ho'
  · exact (Below.refl B w).grown hg hB (fun k hk => (World.ownsRow.lt h k hk).1)

theorem encT_pos (s : ByteArray) : 0 < (P1.encT s).length := by
  unfold P1.encT
  rw [List.length_append]
  have := P1.enc_pos s.size
  omega
theorem encC_pos (c : Chn) : 0 < (encC c).length := by
  unfold encC
  rw [List.length_append]
  have := P1.enc_pos c.vs.length
  omega
def encE (e : Ent) : List UInt8 := P1.encT e.key ++ encC e.c
theorem encD_abs (L : List Ent) : encD (absL L) = P1.enc L.length ++ L.flatMap encE := by
  unfold encD absL encE
  rw [List.length_map, List.flatMap_map]

theorem sbytes_any (a b : Nat) (L : List Ent) (w : World) (h : Sto w a b L) (hb : ∀ e ∈ L, bndC e.c) (hl : (encD (absL L)).length ≤ 1000) :
    Calls Tryz.prog 8 #[.pointer (some ⟨a, 0, none⟩)] w fun e w' => ∃ r, e = .returned r ∧ P1.Own w.heap.size w' r (encD (absL L)) ∧ Below w.heap.size w w' := by
  have hc := h.cell
  have hL := h.len
  obtain ⟨n0, hn0, _⟩ := h.own
  obtain ⟨n, hn⟩ : ∃ n, L.length = n := ⟨_, rfl⟩
  have Hm : Hid (∀ ty, (Builtin.len_ #[66] ty #[.map (some b)]).run Tryz.prog w = .ok (.int .i64 (n : Int)) w) := fun ty => by rw [hn0.len Tryz.underlying66 ty, size_DL, hn]
  have hk := fun w' (hb : Below w.heap.size w w') => keysw_any a b L w' (h.later hb)
  have HE : Hid (encD (absL L) = P1.enc n ++ L.flatMap encE) := by unfold Hid; rw [encD_abs, hn]
  rw [unhide HE, List.length_append] at hl
  rw [hn] at hL
  simp only [hn] at hk
  have hbk := fun (k : Nat) (h : k < L.length) => hb L[k] (List.getElem_mem h)
  have hlk := fun (k : Nat) (h : k < L.length) => flatm_len encE (List.getElem_mem h : L[k] ∈ L)
  have Hs := hide h
  clear h hb hn0
  go_enter Tryz.func8, Tryz.ntmps8
  have hm := unhide Hm
  go_wp2_with fail
  clear hm
  refine (P1.number_any _ _ (n : Int) w (P1.Sl.nil w) (by simp) (by omega)).mono ?_
  rintro e w2 ⟨r1, rfl, o1, b2⟩
  rw [List.nil_append, Int.toNat_natCast] at o1
  have Ho1 := hide o1
  have hc2 := (b2.cell (World.block_lt_of_cell? _ _ hc)).trans hc
  clear o1 Hm
  go_wp2_with fail
  refine (hk w2 b2).mono ?_
  clear hk
  rintro e w3 ⟨ao, c, rfl, hS, b3⟩
  have Ho3 := hide ((unhide Ho1).later b3)
  have HS := hide hS
  have Hb3 := hide (b2.trans (b3.mono b2.size))
  clear Ho1 hS b2 b3 hc2
  go_wp2
  go_loopw [3, 17] (fun vr vk wr => ∃ (k : Nat), vk = .int .i64 (k : Int) ∧ k ≤ n ∧ Hid (P1.Own w.heap.size wr vr (P1.enc n ++ (L.take k).flatMap encE)) ∧ Hid (KOwn wr (.slice ao n c) L) ∧ Hid (Below w.heap.size w wr)) (fun _ vk _ => n - (intOf vk).toNat)
  case atStart => exact ⟨0, rfl, Nat.zero_le _, by unfold Hid; simpa using unhide Ho3, HS, Hb3⟩
  case round =>
    obtain ⟨k, rfl, hk, HO, HK, Hb⟩ := hrel
    by_cases hlt : k < n
    · have h1 : k < L.length := by omega
      have hkB := hbk k h1
      have hkl : (P1.encT L[k].key ++ encC L[k].c).length ≤ (L.flatMap encE).length := hlk k h1
      have HT : Hid ((L.take (k + 1)).flatMap encE = (L.take k).flatMap encE ++ encE L[k]) := take_flat encE L k h1
      have htl := take_flat_len encE L k
      obtain ⟨bb, oo, rfl, x0⟩ := (unhide HK).at_ h1
      have hkey := key_le ((unhide Hs).keys L[k] (List.getElem_mem h1))
      have HL0 : ∀ w', Below w.heap.size w w' → (Instr.lookup 66 (.map (some b)) (.string L[k].key) false).run Tryz.prog w' = .ok (L[k]).v w' := fun w' hb' => by
        have q := look_one ((unhide Hs).later hb') (k := L[k].key) (by omega)
        unfold entAt at q
        rw [getE_mem (unhide Hs).rise (List.getElem_mem h1)] at q
        exact q
      have HV0 : ∀ w', Below w.heap.size w w' → Vs w' (L[k]).ao (L[k]).cap (L[k]).c.vs := fun w' hb' => ((unhide Hs).later hb').vs L[k] (List.getElem_mem h1)
      unfold Ent.v chV at HL0
      rw [List.length_append] at hkl
      generalize L[k] = E at *
      obtain ⟨key, eo, ec, ch⟩ := E
      simp only at hkB hkl hkey HL0 HV0 x0
      obtain ⟨m, hm⟩ : ∃ m, ch.vs.length = m := ⟨_, rfl⟩
      simp only [hm] at HL0
      have Hm := hide hm
      clear hm
      have hT := encT_len key
      go_wp2_with fail
      refine (P1.text_any _ _ key wr (P1.Sl.nil wr) (by simp) (by omega)).mono ?_
      rintro e w4 ⟨r2, rfl, o2, b4⟩
      rw [List.nil_append] at o2
      have Ho4 := hide ((unhide HO).later b4)
      have HK4 := hide ((unhide HK).later b4)
      have Hb4 := hide ((unhide Hb).trans (b4.mono (unhide Hb).size))
      obtain ⟨ad, cc, rfl, hcc⟩ := own_src o2 (encT_pos key)
      have Hcc := hide hcc
      clear HO HK Hb o2 hcc b4 x0
      go_wp2_with (at_builtin; go_must (refine wpList_append_gb _ rfl (.tmp 21) (.tmp 23) rfl w.heap.size (unhide Hb4).size _ _ rfl (unhide Ho4) ad cc (P1.encT key) (P1.encT key).length rfl rfl (unhide Hcc) (by simp only [List.length_append]; omega) ?_))
      intro r3 w5 o5 b5 g5
      have Ho5 := hide o5
      have HK5 := hide ((unhide HK4).stays (unhide Ho4) g5)
      have Hb5 := hide ((unhide Hb4).trans b5)
      have hc5 := ((unhide Hb5).cell (World.block_lt_of_cell? _ _ hc)).trans hc
      have hl5 := HL0 w5 (unhide Hb5)
      have HV5 := hide (HV0 w5 (unhide Hb5))
      clear o5 b5 g5 Ho4 HK4 Hb4 Hcc HL0 HV0
      go_wp2_with fail
      refine (cbytes_any eo ec ch m w5 (unhide Hm) (unhide HV5) hkB (by omega)).mono ?_
      rintro e w6 ⟨r4, rfl, o6, b6⟩
      have Ho6 := hide ((unhide Ho5).later b6)
      have HK6 := hide ((unhide HK5).later b6)
      have Hb6 := hide ((unhide Hb5).trans (b6.mono (unhide Hb5).size))
      obtain ⟨ad2, cc2, rfl, hcc⟩ := own_src o6 (encC_pos ch)
      have Hcc := hide hcc
      clear Ho5 HK5 Hb5 o6 hcc b6 hl5 hc5
      go_wp2_with (at_builtin; refine wpList_append_gb _ rfl (.tmp 25) (.tmp 32) rfl w.heap.size (unhide Hb6).size _ _ rfl (unhide Ho6) ad2 cc2 (encC ch) (encC ch).length rfl rfl (unhide Hcc) (by simp only [List.length_append]; omega) ?_)
      intro r7 w7 o7 b7 g7
      have HO7 : Hid (P1.Own w.heap.size w7 r7 (P1.enc n ++ (L.take (k + 1)).flatMap encE)) := by unfold Hid; rw [unhide HT]; simpa only [encE, List.append_assoc] using o7
      have HK7 := hide ((unhide HK6).stays (unhide Ho6) g7)
      have Hb7 := hide ((unhide Hb6).trans b7)
      clear o7 b7 g7 Ho6 HK6 Hb6 Hcc
      go_wp2
      go_roundw
      case rel => exact ⟨k + 1, by go_num, hlt, HO7, HK7, Hb7⟩
      case measure => simp [intOf]; omega
    · obtain rfl : k = n := by omega
      rw [List.take_of_length_le (show L.length ≤ k by omega)] at HO
      go_wp2
      go_ret
      exact ⟨_, rfl, by rw [unhide HE]; exact unhide HO, unhide Hb⟩

end Go.Proofs.YtcdehnghggleoaaGreat

/-
  The document's store in memory: keys with their chains in a row of the call's own; append; Parse's loop by lists; Open, Whole. No law is proved here.
-/
namespace Go.Proofs.YtcdehnghggleoaaGreat
open Go.RowKit Go.Maps
set_option linter.unusedVariables false
set_option maxRecDepth 100000
set_option maxHeartbeats 2000000

def rc (e : Ent) : List Value := [.string e.key, .slice e.ao e.c.vs.length e.cap, .bool e.c.opn, .int .i64 e.c.itn.txn.id, .int .i64 e.c.itn.txn.ep, .string e.c.itn.txn.anchor, .int .i64 e.c.itn.txn.start.1, .int .i64 e.c.itn.txn.start.2, .int .i64 e.c.itn.seq, .int .i64 e.c.itn.at_.1, .int .i64 e.c.itn.at_.2, .string e.c.itn.val, .bool e.c.itn.gone]
def rsc (L : List Ent) : List Value := L.flatMap rc
theorem rc_length (e : Ent) : (rc e).length = 13 := rfl
theorem rsc_length (L : List Ent) : (rsc L).length = L.length * 13 := by
  induction L with
  | nil => rfl
  | cons r rs ih => unfold rsc at *; rw [List.flatMap_cons, List.length_append, ih, List.length_cons, rc_length]; omega
theorem rsc_append (L M : List Ent) : rsc (L ++ M) = rsc L ++ rsc M := by simp [rsc]
theorem rsc_get : ∀ (rs : List Ent) (i : Nat) (h : i < rs.length) (j : Nat), j < 13 → (rsc rs)[i * 13 + j]? = (rc rs[i])[j]?
  | r :: rs, 0, _, j, hj => by
    unfold rsc
    rw [List.flatMap_cons, List.getElem?_append_left (by rw [rc_length]; omega)]
    simp
  | r :: rs, i + 1, h, j, hj => by
    have := rsc_get rs i (by simpa using h) j hj
    unfold rsc at *
    rw [List.flatMap_cons, List.getElem?_append_right (by rw [rc_length]; omega)]
    simp only [List.getElem_cons_succ]
    rw [← this]
    congr 1
    rw [rc_length]
    omega
theorem rc_one (e : Ent) : ∀ u ∈ rc e, u.oneCell' = true := by
  intro u hu
  simp [rc] at hu
  rcases hu with rfl | rfl | rfl | rfl | rfl | rfl | rfl | rfl | rfl | rfl | rfl | rfl | rfl <;> rfl

/-- Keys with their chains, of the call's own. -/
def ROwn (B : Nat) (w : World) (ao : Option Addr) (c : Nat) (L : List Ent) : Prop :=
  w.ownsRow B 81 13 (.slice ao L.length c) L.length (rsc L) ∧ ∀ e ∈ L, VOwn B w e.ao e.cap e.c.vs
theorem ROwn.zero (B : Nat) (w : World) : ROwn B w none 0 [] := ⟨⟨rfl, .inl ⟨rfl, rfl⟩⟩, fun e he => (by cases he)⟩
theorem ROwn.later {B : Nat} {w w' : World} {ao : Option Addr} {c : Nat} {L : List Ent} (h : ROwn B w ao c L) (hb : Below w.heap.size w w') : ROwn B w' ao c L :=
  ⟨row_late h.1 hb, fun e he => (h.2 e he).later hb⟩
theorem ROwn.turned {B M : Nat} {w w' : World} {ao : Option Addr} {c : Nat} {L : List Ent} (h : ROwn B w ao c L) (hM : M < B) (hm : P1.Turned M w w') : ROwn B w' ao c L :=
  ⟨row_frame h.1 fun g hb hg => hm.block g hg (by omega), fun e he => (h.2 e he).turned hM hm⟩
theorem ROwn.other {B : Nat} {w : World} {ao : Option Addr} {c : Nat} {L : List Ent} (h : ROwn B w ao c L) {q : Addr} (hq : q.block < B) (x : Value) : ROwn B (w.setCell q x) ao c L :=
  ⟨row_frame h.1 fun g hb hg => Below.heap_setCell _ _ _ _ (by omega), fun e he => (h.2 e he).other hq x⟩
theorem ROwn.mono {B B' : Nat} {w : World} {ao : Option Addr} {c : Nat} {L : List Ent} (h : ROwn B w ao c L) (hB : B' ≤ B) : ROwn B' w ao c L := by
  refine ⟨⟨h.1.1, ?_⟩, fun e he => (h.2 e he).mono hB⟩
  rcases h.1.2 with hn | ⟨g, cap, cur, e, hbg, rest⟩
  · exact .inl hn
  · exact .inr ⟨g, cap, cur, e, Nat.le_trans hB hbg, rest⟩
theorem ROwn.lt {B : Nat} {w : World} {ao : Option Addr} {c : Nat} {L : List Ent} (h : ROwn B w ao c L) : ∀ g, (Value.slice ao L.length c).ownBlock = some g → B ≤ g ∧ g < w.heap.size := fun g hg => World.ownsRow.lt h.1 g hg
/-- What an index leads to. -/
theorem ROwn.at_ {B : Nat} {w : World} {ao : Option Addr} {n c : Nat} {L : List Ent} (h : ROwn B w ao c L) {k : Nat} (hk : k < L.length) : ∃ b o, ao = some ⟨b, o, none⟩ ∧ ∀ j, j < 13 → w.cell? ⟨b, o + k * 13 + j, none⟩ = (rc L[k])[j]? := by
  have hcs := fun g hg => World.ownsRow.cells h.1 (g := g) hg
  rcases h.1.2 with ⟨e, h0⟩ | ⟨g, cap, cur, e, hb, hg, h1, h2, h3, h4⟩
  · omega
  · injection e with e1 e2 e3
    subst e1 e3
    refine ⟨g, 0, rfl, fun j hj => ?_⟩
    have e := rsc_get L k hk j hj
    have hl : j < (rc L[k]).length := by rw [rc_length]; exact hj
    rw [List.getElem?_eq_getElem hl] at e ⊢
    have := hcs g rfl _ _ e
    rw [Addr.add_lit, Nat.zero_add] at this
    rw [Nat.zero_add]
    exact this
theorem ROwn.len {B : Nat} {w : World} {ao : Option Addr} {c : Nat} {L : List Ent} (h : ROwn B w ao c L) : L.length ≤ c ∧ c ≤ maxLen := by
  rcases h.1.2 with ⟨e, h0⟩ | ⟨g, cap, cur, e, hb, hg, h1, h2, h3, h4⟩
  · injection e with e1 e2 e3
    rw [h0, e3]
    exact ⟨Nat.le_refl _, Nat.zero_le _⟩
  · injection e with e1 e2 e3
    subst e3
    exact ⟨h1, h2⟩

theorem Tryz.infoOne : (Tryz.prog.info? 81).map (fun i => (i.zero, i.size, i.bytes)) = some (some (.agg #[.string ⟨#[]⟩, .slice none 0 0, .bool false, .int .i64 0, .int .i64 0, .string ⟨#[]⟩, .int .i64 0, .int .i64 0, .int .i64 0, .int .i64 0, .int .i64 0, .string ⟨#[]⟩, .bool false]), 13, 144) := by kernel_rfl
theorem one_cells (w : World) (e : Ent) : ∀ j u, (rc e)[j]? = some u → (w.alloc (.cells #[.string e.key, .slice e.ao e.c.vs.length e.cap, .bool e.c.opn, .int .i64 e.c.itn.txn.id, .int .i64 e.c.itn.txn.ep, .string e.c.itn.txn.anchor, .int .i64 e.c.itn.txn.start.1, .int .i64 e.c.itn.txn.start.2, .int .i64 e.c.itn.seq, .int .i64 e.c.itn.at_.1, .int .i64 e.c.itn.at_.2, .string e.c.itn.val, .bool e.c.itn.gone] 81)).cell? ((⟨w.heap.size, 0, none⟩ : Addr).add j) = some u := by
  intro j u hu
  have B := Blk.new w #[.string e.key, .slice e.ao e.c.vs.length e.cap, .bool e.c.opn, .int .i64 e.c.itn.txn.id, .int .i64 e.c.itn.txn.ep, .string e.c.itn.txn.anchor, .int .i64 e.c.itn.txn.start.1, .int .i64 e.c.itn.txn.start.2, .int .i64 e.c.itn.seq, .int .i64 e.c.itn.at_.1, .int .i64 e.c.itn.at_.2, .string e.c.itn.val, .bool e.c.itn.gone] 81
  rw [Addr.add_lit, Nat.zero_add, B.c j]
  exact hu
/-- append of one key with its chain. -/
theorem run_append_r (w : World) (B : Nat) (hB : B ≤ w.heap.size) (ao : Option Addr) (a : Addr) (c d : Nat) (L : List Ent) (e : Ent) (h : ROwn B w ao c L) (hx : ∀ j u, (rc e)[j]? = some u → w.cell? (a.add j) = some u) (he : VOwn B w e.ao e.cap e.c.vs) (hlen : L.length ≤ 1000000) (ty : TypeId) :
    ∃ eo f w', (Builtin.append_ #[72, 72] ty #[.slice ao L.length c, .slice (some a) 1 d]).run Tryz.prog w = .ok (.slice eo (L ++ [e]).length f) w' ∧ ROwn B w' eo f (L ++ [e]) ∧ w.grownBy w' (Value.slice ao L.length c).ownBlock := by
  obtain ⟨i0, hi, hz0, hz1, hz2⟩ := info_parts Tryz.infoOne
  obtain ⟨v', w', hr, r2, r3, _⟩ := run_append_own (P := Tryz.prog) w B 72 ty 81 i0 _ 13 144 Tryz.underlying72 hi hz0 hz1 hz2 rfl (by decide) _ L.length (rsc L) h.1 a 1 d (rc e) (by rw [rc_length]) (fun j u => hx j u) (rc_one e)
      (by unfold maxLen; omega) (by omega) hB
  have e1 : rsc L ++ rc e = rsc (L ++ [e]) := by rw [rsc_append]; simp [rsc]
  have e2 : L.length + 1 = (L ++ [e]).length := by simp
  rw [e1, e2] at r2
  have hst := fun (x : Ent) (hv : VOwn B w x.ao x.cap x.c.vs) => row_stays hv h.1 (by decide) r3
  have hv2 : ∀ x ∈ L ++ [e], VOwn B w' x.ao x.cap x.c.vs := fun x hx => by
    rcases List.mem_append.1 hx with q | q
    · exact hst x (h.2 x q)
    · rw [List.mem_singleton] at q
      subst q
      exact hst _ he
  rcases id r2.2 with ⟨rfl, h0⟩ | ⟨g, cap, cur, rfl, hb, hg, h1, h2, h3, h4⟩
  · simp at h0
  · exact ⟨_, cap, w', hr, ⟨r2, hv2⟩, r3⟩
theorem step_append_r {ops : Array Oper} {o : Oper} {ac : Act} {w : World} {K : Act → World → Prop} {Q : Exit → Act → World → Prop} {E : Prop} (hgd : o.guard = none) (s x : Operand)
    (ho : o.op = .call { callee := .builtin .append, args := #[s, x], argTypes := #[72, 72] })
    (B : Nat) (ao : Option Addr) (a : Addr) (c d k n : Nat) (L : List Ent) (e : Ent) (hv : ac.eval s = .slice ao k c) (hxv : ac.eval x = .slice (some a) 1 d) (hB : B ≤ w.heap.size) (hk : L.length = k) (hn : k + 1 = n) (h : ROwn B w ao c L) (hx : ∀ j u, (rc e)[j]? = some u → w.cell? (a.add j) = some u) (he : VOwn B w e.ao e.cap e.c.vs)
    (hlen : L.length ≤ 1000000)
    (hK : ∀ eo f w', ROwn B w' eo f (L ++ [e]) → w.grownBy w' (Value.slice ao k c).ownBlock → K (ac.put o.dst (.slice eo n f)) w') : if Region.wanted o (yielded ops ac.tmps) = true then Oper.wp Tryz.prog o ac w K Q else E := by
  subst hk hn
  have hw : Region.wanted o (yielded ops ac.tmps) = true := by simp [Region.wanted, hgd]
  rw [if_pos hw]
  obtain ⟨eo, f, w', hr, h2, h3⟩ := run_append_r w B hB ao a c d L e h hx he hlen o.type
  unfold Oper.wp execOp
  simp only [ho, resolve, invoke, builtin, Sem.run_bind, Sem.run_pure, Result.andThen_ok, List.map_toArray, List.map_cons, List.map_nil, hv, hxv, hr]
  rw [List.length_append]
  exact hK eo f w' h2 h3

/-- What Parse's loop knows by lists. -/
def KI (l0 : List UInt8) (n i : Nat) (r : List UInt8) (bad : Bool) (L : List Ent) : Prop :=
  L.length = i ∧ i ≤ n ∧ ∃ a, (i = 0 → a = S5.emp) ∧ (∀ (h : 0 < i) (h' : i - 1 < L.length), L[i - 1].key = a) ∧ (bad = false → prsS l0 = comeK (n - i) a r (absL L)) ∧ (bad = true → prsS l0 = none) ∧ (bad = false → r.length + i ≤ l0.length)
theorem KI.start (l0 : List UInt8) {a1 : Nat} {a2 : Int} {a3 : List UInt8} (ha : P1.rdN l0 mxN = (a1, a2, a3)) : KI l0 a1 0 a3 (a2 != 0) [] := by
  refine ⟨rfl, Nat.zero_le _, S5.emp, fun _ => rfl, fun h => absurd h (Nat.lt_irrefl _), fun h => ?_, fun h => ?_, fun h => ?_⟩
  · have h0 : a2 = 0 := by simpa using h
    rw [prsS_come]
    unfold optN
    rw [ha]
    simp only
    rw [if_pos h0]
    rfl
  · have h0 : a2 ≠ 0 := by simpa using h
    rw [prsS_come]
    unfold optN
    rw [ha]
    simp only
    rw [if_neg h0]
    rfl
  · have h0 : a2 = 0 := by simpa using h
    have q : optN l0 mxN = some (a1, a3) := by
      unfold optN
      rw [ha]
      simp only
      rw [if_pos h0]
    have := (optN_one q).1
    rw [this, List.length_append]
    omega
theorem okC_some {l r : List UInt8} {c : Chn} (h : okC l = some (c, r)) : prsC l = some (c, r) ∧ (rightCB c && !emC c) = true := by
  unfold okC at h
  simp only [Option.bind_eq_some_iff] at h
  obtain ⟨⟨c', r'⟩, h1, h2⟩ := h
  simp only at h2
  split at h2
  · rename_i q
    injection h2 with h2
    injection h2 with e1 e2
    subst e1 e2
    exact ⟨h1, q⟩
  · cases h2
/-- A round that goes on. -/
theorem KI.step {l0 r : List UInt8} {n i : Nat} {L : List Ent} (h : KI l0 n i r false L) (hi : i < n) {t1 : List UInt8} {t2 : Int} {t3 : List UInt8} (ht : P1.rdT r 8 = (t1, t2, t3)) {key : ByteArray} (hk : (⟨t1.toArray⟩ : ByteArray) = key) {c : Chn} {r' : List UInt8} {bad' : Bool}
    (hd : DchR (false || t2 != 0) t3 c true r' bad') (hkey : S5.keyB key = true) (hord : ∀ (h : 0 < i) (h' : i - 1 < L.length), S5.ltB L[i - 1].key key = true) (ao : Option Addr) (cap : Nat) : KI l0 n (i + 1) r' bad' (L ++ [⟨key, ao, cap, c⟩]) := by
  obtain ⟨h1, h2, a, h3, h4, h5, h6, h7⟩ := h
  obtain ⟨q1, q2, q3⟩ := hd.1 rfl
  have h0 : t2 = 0 := by simpa using q1
  obtain ⟨p1, p2⟩ := okC_some q3
  subst q2
  have hlt : S5.ltB a key = true := by
    by_cases h0 : i = 0
    · rw [h3 h0]
      exact S5.emp_lt (S5.K.ne hkey)
    · have := hord (by omega) (by omega)
      rw [h4 (by omega) (by omega)] at this
      exact this
  refine ⟨by simp [h1], hi, key, fun h => absurd h (by omega), fun _ hl => ?_, fun _ => ?_, fun h => (by cases h), fun _ => ?_⟩
  · have : (L ++ [(⟨key, ao, cap, c⟩ : Ent)])[i + 1 - 1]'hl = ⟨key, ao, cap, c⟩ := by
      rw [List.getElem_append_right (by omega)]
      simp
    rw [this]
  · rw [h5 rfl]
    obtain ⟨m, hm⟩ : ∃ m, n - i = m + 1 := ⟨n - i - 1, by omega⟩
    have hm2 : n - (i + 1) = m := by omega
    rw [hm, hm2, comeK_yes (key := key) (l1 := t3) (l2 := r') (c := c) (by unfold optT; rw [ht]; simp only; rw [if_pos h0, hk]) p1 (by
      rw [Bool.and_assoc, p2, hkey, hlt]
      rfl)]
    unfold absL
    rw [List.map_append]
    rfl
  · have q1 := h7 rfl
    have q2 := prsC_len p1
    have q3 := optT_len (l := r) (r := t3) (most := 8) (s := key) (by unfold optT; rw [ht]; simp only; rw [if_pos h0, hk])
    omega
/-- A round that is the last. -/
theorem KI.stop {l0 r : List UInt8} {n i : Nat} {L : List Ent} (h : KI l0 n i r false L) (hi : i < n) {t1 : List UInt8} {t2 : Int} {t3 : List UInt8} (ht : P1.rdT r 8 = (t1, t2, t3)) {key : ByteArray} (hk : (⟨t1.toArray⟩ : ByteArray) = key) {c : Chn} {r' : List UInt8} {bad' ok : Bool}
    (hd : DchR (false || t2 != 0) t3 c ok r' bad') (hno : S5.keyB key = false ∨ ok = false ∨ ∃ (h : 0 < i) (h' : i - 1 < L.length), S5.ltB L[i - 1].key key = false) : prsS l0 = none := by
  obtain ⟨h1, h2, a, h3, h4, h5, h6, h7⟩ := h
  rw [h5 rfl]
  obtain ⟨m, hm⟩ : ∃ m, n - i = m + 1 := ⟨n - i - 1, by omega⟩
  rw [hm]
  refine comeK_no ?_
  rw [prsK_ok]
  unfold optT
  rw [ht]
  simp only
  by_cases h0 : t2 = 0
  · rw [if_pos h0]
    simp only [Option.bind_some]
    rw [hk]
    cases hq : okC t3 with
    | none => rfl
    | some p =>
      simp only [Option.bind_some]
      rw [if_neg]
      intro q
      rw [Bool.and_eq_true] at q
      rcases hno with g | g | ⟨g1, g2, g3⟩
      · rw [g] at q
        cases q.1
      · rcases hd.2 g with e | e
        · rw [h0] at e
          simp at e
        · rw [e] at hq
          cases hq
      · rw [h4 g1 g2, q.2] at g3
        cases g3
  · rw [if_neg h0]
    rfl
theorem KI.lim {l0 r : List UInt8} {n i : Nat} {L : List Ent} (h : KI l0 n i r false L) : L.length ≤ l0.length := by
  obtain ⟨h1, h2, a, h3, h4, h5, h6, h7⟩ := h
  have := h7 rfl
  omega
/-- When the loop is done. -/
theorem KI.done {l0 r : List UInt8} {n i : Nat} {L : List Ent} {bad : Bool} (h : KI l0 n i r bad L) (hi : n ≤ i ∨ bad = true) : prsS l0 = if (!bad && decide (r = [])) = true then some (absL L) else none := by
  obtain ⟨h1, h2, a, h3, h4, h5, h6, h7⟩ := h
  cases bad with
  | true =>
    rw [h6 rfl]
    rfl
  | false =>
    have : n - i = 0 := by
      rcases hi with q | q
      · omega
      · cases q
    rw [h5 rfl, this, comeK_zero]
    simp

theorem dopen_any (ao : Option Addr) (c : Nat) (l : List UInt8) (w : World) (h : P1.Sl w (.slice ao l.length c) l) (hl : l.length ≤ 1099511627776) :
    Calls Tryz.prog 22 #[.slice ao l.length c] w fun e w' => ∃ M, e = .returned (.pointer (some ⟨M, 0, none⟩)) ∧ w.heap.size ≤ M ∧ Dc w.heap.size w' M l false ∧ Below w.heap.size w w' := by
  refine (P1.refopen_any ao l.length c w).mono ?_
  rintro e w' ⟨M, rfl, hM, hr, hb⟩
  refine ⟨M, rfl, hM, ⟨ao, c, l, 0, hr, h.below hb (Nat.le_refl _), Nat.zero_le _, hl, rfl, fun hne a ha => ?_⟩, hb⟩
  obtain ⟨bo, d, e', g1, g2, g3, g4⟩ := h
  injection e' with e1 e2 e3
  subst e1
  cases l with
  | nil => exact absurd rfl hne
  | cons x r =>
    have hc := g4 a ha 0 _ rfl
    have := World.block_lt_of_cell? w _ hc
    rw [P1.Addr.add_block] at this
    exact this
theorem dend_any (S M : Nat) (r : List UInt8) (bad : Bool) (w : World) (h : Dc S w M r bad) :
    Calls Tryz.prog 27 #[.pointer (some ⟨M, 0, none⟩)] w fun e w' => e = .returned (.bool (!bad && decide (r = []))) ∧ Below w.heap.size w w' := by
  obtain ⟨ao, c, l, i, h1, h2, h3, h4, rfl, h5⟩ := h
  have e : decide (l.drop i = []) = decide (i = l.length) := by
    rw [decide_eq_decide, List.drop_eq_nil_iff]
    omega
  rw [e]
  exact P1.refend_any M i bad ao c l.length w h1 h3 h4

end Go.Proofs.YtcdehnghggleoaaGreat
