/-
  Two things in memory beside one another, and beside memory that stays; each is opened, and turned. No law is proved here.
-/
import Derived.Test.YteanjnkfoddfmaaJRset
namespace Go.Proofs.Yteanjnkfoddfmaa
open Go.RowKit
set_option linter.unusedVariables false

/-- A thing in memory, in blocks of S. -/
abbrev Thing := (Nat → Prop) → World → Prop

/-- It hangs on its blocks alone. -/
structure Fra (A : Thing) : Prop where
  frame : ∀ (S : Nat → Prop) (W W' : World), A S W → W.heap.size ≤ W'.heap.size → (∀ k, k < W.heap.size → S k → W'.heap[k]? = W.heap[k]?) → A S W'
  mono : ∀ (S S' : Nat → Prop) (W : World), A S W → (∀ k, k < W.heap.size → S k → S' k) → A S' W

def JdP (B D : Nat) (x : Jst) : Thing := fun S W => Jd S W B D x.nf x.nc x.sf x.sc x.t x.v x.o x.st
def RdP (J M : Nat) (x : Jst) : Thing := fun S W => Rjd S W J M x.nf x.nc x.sf x.sc x.t x.v x.o x.st
def DkP (D : Nat) (nf nc sf sc : List UInt8) : Thing := fun S W => Dk S W D nf nc sf sc
def RkP (M : Nat) (nf nc sf sc : List UInt8) : Thing := fun S W => Rk S W M nf nc sf sc

theorem fraJ (B D : Nat) (x : Jst) : Fra (JdP B D x) := ⟨fun _ _ _ h hs hk => Jd.frame h hs hk, fun _ _ _ h hm => Jd.mono h hm⟩
theorem fraR (J M : Nat) (x : Jst) : Fra (RdP J M x) := ⟨fun _ _ _ h hs hk => Rjd.frame h hs hk, fun _ _ _ h hm => Rjd.mono h hm⟩
theorem fraD (D : Nat) (nf nc sf sc : List UInt8) : Fra (DkP D nf nc sf sc) := ⟨fun _ _ _ h hs hk => Dk.frame h hs hk, fun _ _ _ h hm => Dk.mono h hm⟩
theorem fraK (M : Nat) (nf nc sf sc : List UInt8) : Fra (RkP M nf nc sf sc) := ⟨fun _ _ _ h hs hk => Rk.frame h hs hk, fun _ _ _ h hm => Rk.mono h hm⟩

/-- Two things, all in memory that is new since w, apart from one another and from P; what is in P is there. -/
def Two (w : World) (P : Nat → Prop) (W : World) (A C : Thing) : Prop :=
  ∃ S1 S2, A S1 W ∧ C S2 W ∧ (∀ k, S1 k → w.heap.size ≤ k) ∧ (∀ k, S2 k → w.heap.size ≤ k) ∧ (∀ k, S1 k → ¬ S2 k) ∧ (∀ k, P k → ¬ S1 k ∧ ¬ S2 k) ∧ (∀ k, P k → k < W.heap.size) ∧ Below w.heap.size w W

section
variable {w W W' : World} {P : Nat → Prop} {A C : Thing}

theorem Two.below (h : Two w P W A C) : Below w.heap.size w W := by obtain ⟨_, _, _, _, _, _, _, _, _, h⟩ := h; exact h
theorem Two.plt (h : Two w P W A C) : ∀ k, P k → k < W.heap.size := by obtain ⟨_, _, _, _, _, _, _, _, h, _⟩ := h; exact h
theorem Two.one (h : Two w P W A C) : ∃ S, A S W := by obtain ⟨S, _, h, _⟩ := h; exact ⟨S, h⟩
theorem Two.two (h : Two w P W A C) : ∃ S, C S W := by obtain ⟨_, S, _, h, _⟩ := h; exact ⟨S, h⟩
theorem Two.swap (h : Two w P W A C) : Two w P W C A := by
  obtain ⟨S1, S2, h1, h2, h3, h4, h5, h6, h7, h8⟩ := h
  exact ⟨S2, S1, h2, h1, h4, h3, fun k a b => h5 k b a, fun k hk => ⟨(h6 k hk).2, (h6 k hk).1⟩, h7, h8⟩
theorem Two.weak {A' C' : Thing} (h : Two w P W A C) (ha : ∀ S W, A S W → A' S W) (hc : ∀ S W, C S W → C' S W) : Two w P W A' C' := by
  obtain ⟨S1, S2, h1, h2, h3, h4, h5, h6, h7, h8⟩ := h
  exact ⟨S1, S2, ha _ _ h1, hc _ _ h2, h3, h4, h5, h6, h7, h8⟩
theorem Two.later (h : Two w P W A C) (fa : Fra A) (fc : Fra C) (hb : Below W.heap.size W W') : Two w P W' A C := by
  obtain ⟨S1, S2, h1, h2, h3, h4, h5, h6, h7, h8⟩ := h
  exact ⟨S1, S2, fa.frame _ _ _ h1 hb.size (fun k hk _ => hb.block k hk), fc.frame _ _ _ h2 hb.size (fun k hk _ => hb.block k hk), h3, h4, h5, h6, fun k hk => Nat.lt_of_lt_of_le (h7 k hk) hb.size, h8.trans (hb.mono h8.size)⟩
/-- What was laid since stays, too. -/
theorem Two.grow (h : Two w P W A C) (fa : Fra A) (fc : Fra C) (hb : Below W.heap.size W W') (Q : Nat → Prop) (hQ : ∀ k, Q k → W.heap.size ≤ k ∧ k < W'.heap.size) : Two w Q W' A C := by
  obtain ⟨S1, S2, h1, h2, h3, h4, h5, h6, h7, h8⟩ := h
  have h1' := fa.frame _ _ W' (fa.mono _ (fun k => S1 k ∧ k < W.heap.size) _ h1 (fun k hk hs => ⟨hs, hk⟩)) hb.size (fun k hk _ => hb.block k hk)
  have h2' := fc.frame _ _ W' (fc.mono _ (fun k => S2 k ∧ k < W.heap.size) _ h2 (fun k hk hs => ⟨hs, hk⟩)) hb.size (fun k hk _ => hb.block k hk)
  refine ⟨_, _, h1', h2', fun k hk => h3 k hk.1, fun k hk => h4 k hk.1, fun k hk hs => h5 k hk.1 hs.1, fun k hk => ⟨fun hs => ?_, fun hs => ?_⟩, fun k hk => (hQ k hk).2, h8.trans (hb.mono h8.size)⟩
  · have := (hQ k hk).1; have := hs.2; omega
  · have := (hQ k hk).1; have := hs.2; omega

theorem Two.op1 (h : Two w P W A C) (fa : Fra A) (fc : Fra C) {F : Nat} {args : Array Value} {Fits : Ending → Thing → Prop}
    (hc : ∀ S, A S W → (∀ k, W.heap.size ≤ k → S k) → Calls Try.prog F args W fun e w' => ∃ A', Fits e A' ∧ A' S w' ∧ Fr S W w') :
    Calls Try.prog F args W fun e w' => ∃ A', Fits e A' ∧ Two w P w' A' C ∧ Kept P W w' := by
  obtain ⟨S1, S2, h1, h2, h3, h4, h5, h6, h7, h8⟩ := h
  have hj := fa.mono _ (fun k => (S1 k ∧ k < W.heap.size) ∨ W.heap.size ≤ k) _ h1 (fun k hk hs => .inl ⟨hs, hk⟩)
  have h2' := fc.mono _ (fun k => S2 k ∧ k < W.heap.size) _ h2 (fun k hk hs => ⟨hs, hk⟩)
  have hS : ∀ k, (S1 k ∧ k < W.heap.size) ∨ W.heap.size ≤ k → w.heap.size ≤ k := fun k hk => hk.elim (fun h => h3 k h.1) (fun h => Nat.le_trans h8.size h)
  have hP : ∀ k, P k → ¬ ((S1 k ∧ k < W.heap.size) ∨ W.heap.size ≤ k) := fun k hk hs => hs.elim (fun h => (h6 k hk).1 h.1) (fun h => by have := h7 k hk; omega)
  have hd : ∀ k, ((S1 k ∧ k < W.heap.size) ∨ W.heap.size ≤ k) → ¬ (S2 k ∧ k < W.heap.size) := fun k hk hs => hk.elim (fun h => h5 k h.1 hs.1) (fun h => by have := hs.2; omega)
  refine (hc _ hj (fun k hk => .inr hk)).mono ?_
  rintro e w' ⟨A', hfits, hj', hf'⟩
  exact ⟨A', hfits, ⟨_, _, hj', fc.frame _ _ _ h2' hf'.size (fun k hk hs => hf'.block k hk (fun ht => hd k ht hs)), hS, fun k hk => h4 k hk.1, hd, fun k hk => ⟨hP k hk, fun hs => (h6 k hk).2 hs.1⟩, fun k hk => Nat.lt_of_lt_of_le (h7 k hk) hf'.size, Fr.bl h8 hf' hS⟩, fun k hk => hf'.block k (h7 k hk) (hP k hk)⟩

theorem Two.op2 (h : Two w P W A C) (fa : Fra A) (fc : Fra C) {F : Nat} {args : Array Value} {Fits : Ending → Thing → Prop}
    (hc : ∀ S, C S W → (∀ k, W.heap.size ≤ k → S k) → Calls Try.prog F args W fun e w' => ∃ C', Fits e C' ∧ C' S w' ∧ Fr S W w') :
    Calls Try.prog F args W fun e w' => ∃ C', Fits e C' ∧ Two w P w' A C' ∧ Kept P W w' := by
  refine (h.swap.op1 fc fa hc).mono ?_
  rintro e w' ⟨C', h1, h2, h3⟩
  exact ⟨C', h1, h2.swap, h3⟩

/-- One answer, one thing. -/
theorem fits1 {F : Nat} {args : Array Value} {S : Nat → Prop} {r : Ending} {A' : Thing} (h : Calls Try.prog F args W fun e w' => e = r ∧ A' S w' ∧ Fr S W w') :
    Calls Try.prog F args W fun e w' => ∃ Z, (e = r ∧ Z = A') ∧ Z S w' ∧ Fr S W w' := by
  refine h.mono ?_
  rintro e w' ⟨h1, h2, h3⟩
  exact ⟨A', ⟨h1, rfl⟩, h2, h3⟩
end

section
variable {S : Nat → Prop}

theorem refset_j (J M : Nat) (nf nc sf sc : List UInt8) (t v o : Nat) (st : St) (t' v' o' : Nat) (w : World) (h : Rjd S w J M nf nc sf sc t v o st) (hS : ∀ k, w.heap.size ≤ k → S k) (ht : t' ≤ 1099511627776) (hv : v' ≤ 1099511627776) (ho : o' ≤ 1099511627776) :
    Calls Try.prog 19 #[.pointer (some ⟨J, 0, none⟩), .int .i64 t', .int .i64 v', .int .i64 o'] w fun e w' => e = .returned (.int .i64 0) ∧ Rjd S w' J M nf (fr (encH t' v' o')) sf sc t' v' o' st ∧ Fr S w w' := by
  refine (refset_any J M nf nc sf sc t v o st t' v' o' w h hS).mono ?_
  rintro e w' (⟨a, b, c, h1, h2, h3, _, _, _, rfl, h4, h5⟩ | ⟨h, _⟩)
  · obtain rfl : t' = a := by omega
    obtain rfl : v' = b := by omega
    obtain rfl : o' = c := by omega
    exact ⟨rfl, h4, h5⟩
  · exact absurd ⟨⟨by omega, by omega⟩, ⟨by omega, by omega⟩, ⟨by omega, by omega⟩⟩ h

theorem refset_j_no (J M : Nat) (nf nc sf sc : List UInt8) (t v o : Nat) (st : St) (a b c : Int) (w : World) (h : Rjd S w J M nf nc sf sc t v o st) (hS : ∀ k, w.heap.size ≤ k → S k) (hn : badH a b c) :
    Calls Try.prog 19 #[.pointer (some ⟨J, 0, none⟩), .int .i64 a, .int .i64 b, .int .i64 c] w fun e w' => e = .returned (.int .i64 71) ∧ Below w.heap.size w w' := by
  refine (refset_any J M nf nc sf sc t v o st a b c w h hS).mono ?_
  rintro e w' (⟨a', b', c', rfl, rfl, rfl, h1, h2, h3, _⟩ | ⟨_, rfl, hb⟩)
  · exact absurd ⟨⟨by omega, by omega⟩, ⟨by omega, by omega⟩, ⟨by omega, by omega⟩⟩ hn
  · exact ⟨rfl, hb⟩

/-- Sync of the disk that a document's journal is on. -/
theorem refsync_r (J M : Nat) (nf nc sf sc : List UInt8) (t v o : Nat) (st : St) (w : World) (h : Rjd S w J M nf nc sf sc t v o st) :
    Calls Try.prog 20 #[.pointer (some ⟨M, 0, none⟩)] w fun e w' => e = .returned (.tuple #[]) ∧ Rjd S w' J M nf nc nf nc t v o st ∧ Fr S w w' := by
  obtain ⟨T, P, hj, hr, hT, hSJ, hPS⟩ := h
  have hr' := hr.mono (U := fun k => T k ∧ k < w.heap.size) (fun k hk ht => ⟨ht, hk⟩)
  refine (refsync_ok M nf nc sf sc w hr').mono ?_
  rintro e w' ⟨rfl, h1, h2⟩
  refine ⟨rfl, ⟨_, P, hj.frame h2.size (fun k hk hp => h2.block k hk (fun ht => ?_)), h1, fun k hk ht => hT k ht.2 ht.1, hSJ, hPS⟩, h2.mono fun k _ ht => (hT k ht.2 ht.1).1⟩
  rcases hp with hp | hp
  · exact (hT k ht.2 ht.1).2.2 hp
  · exact (hT k ht.2 ht.1).2.1 hp
end

/-- Open of the disk, as a thing. -/
theorem open_fits {S : Nat → Prop} (D : Nat) (nf nc sf sc : List UInt8) (t v o : Nat) (st : St) (n : Nat) (W : World) (h : Dk S W D nf nc sf sc) (hS : ∀ k, W.heap.size ≤ k → S k) (hfl : nf.length ≤ 16777216) (hc : nc.length ≤ 16777216) (hd : hdOf nc = some (t, v, o)) (hop : Opens nf st n) :
    Calls Try.prog 10 #[.pointer (some ⟨D, 0, none⟩)] W fun e w' => ∃ A' : Thing, (∃ B, e = .returned (.tuple #[.pointer (some ⟨B, 0, none⟩), .int .i64 0]) ∧ A' = JdP B D ⟨nf.take n, nc, if n < nf.length then nf.take n else sf, if n < nf.length then nc else sc, t, v, o, st⟩) ∧ A' S w' ∧ Fr S W w' := by
  refine (open_jd (S := S) D nf nc sf sc t v o st n W h (fun _ _ h => h) hS hfl hc hd hop).mono ?_
  rintro e w' ⟨B, sf', sc', rfl, _, hj, hf, hx⟩
  refine ⟨_, ⟨B, rfl, rfl⟩, ?_, hf⟩
  rcases hx with ⟨h1, e1, e2, _⟩ | ⟨h1, e1, e2⟩
  · show Jd S w' B D _ _ (if n < nf.length then nf.take n else sf) (if n < nf.length then nc else sc) t v o st
    rw [if_neg (by omega), if_neg (by omega), ← e1, ← e2]
    exact hj
  · show Jd S w' B D _ _ (if n < nf.length then nf.take n else sf) (if n < nf.length then nc else sc) t v o st
    rw [if_pos h1, if_pos h1]
    rw [e1, e2] at hj
    exact hj

/-- The same of the document's. -/
theorem refopen_fits {S : Nat → Prop} (M : Nat) (nf nc sf sc : List UInt8) (t v o : Nat) (st : St) (n : Nat) (W : World) (h : Rk S W M nf nc sf sc) (hS : ∀ k, W.heap.size ≤ k → S k) (hd : hdOf nc = some (t, v, o)) (hop : Opens nf st n) :
    Calls Try.prog 11 #[.pointer (some ⟨M, 0, none⟩)] W fun e w' => ∃ A' : Thing, (∃ J, e = .returned (.tuple #[.pointer (some ⟨J, 0, none⟩), .int .i64 0]) ∧ A' = RdP J M ⟨nf.take n, nc, if n < nf.length then nf.take n else sf, if n < nf.length then nc else sc, t, v, o, st⟩) ∧ A' S w' ∧ Fr S W w' := by
  refine (refjopen_any (S := S) M nf nc sf sc st n W h (fun _ _ h => h) hS hop).mono ?_
  rintro e w' (⟨t', v', o', h', J, sf', sc', rfl, _, hj, hf, hx⟩ | ⟨h', _⟩)
  rotate_left
  · rw [hd] at h'; cases h'
  obtain ⟨rfl, rfl, rfl⟩ : t = t' ∧ v = v' ∧ o = o' := by
    have := hd.symm.trans h'
    simp only [Option.some.injEq, Prod.mk.injEq] at this
    exact this
  refine ⟨_, ⟨J, rfl, rfl⟩, ?_, hf⟩
  rcases hx with ⟨h1, e1, e2, _⟩ | ⟨h1, e1, e2⟩
  · show Rjd S w' J M _ _ (if n < nf.length then nf.take n else sf) (if n < nf.length then nc else sc) t v o st
    rw [if_neg (by omega), if_neg (by omega), ← e1, ← e2]
    exact hj
  · show Rjd S w' J M _ _ (if n < nf.length then nf.take n else sf) (if n < nf.length then nc else sc) t v o st
    rw [if_pos h1, if_pos h1]
    rw [e1, e2] at hj
    exact hj

/-- A crash, as a thing. -/
theorem crash_fits {S : Nat → Prop} (D : Nat) (nf nc sf sc : List UInt8) (keep : Int) (torn cell : Bool) (W : World) (h : Dk S W D nf nc sf sc) (hS : ∀ k, W.heap.size ≤ k → S k) (hk : keep ≤ 9223372036854775807) :
    Calls Try.prog 22 #[.pointer (some ⟨D, 0, none⟩), .int .i64 keep, .bool torn, .bool cell] W fun e w' => ∃ A' : Thing, (∃ D', e = .returned (.pointer (some ⟨D', 0, none⟩)) ∧ A' = DkP D' (left sf nf keep torn) (cel nc sc cell) (left sf nf keep torn) (cel nc sc cell)) ∧ A' S w' ∧ Fr S W w' := by
  refine (crash_ok D nf nc sf sc keep torn cell W h hk).mono ?_
  rintro e w' ⟨D', rfl, h1, h2⟩
  exact ⟨_, ⟨D', rfl, rfl⟩, h1.mono (fun k _ hk => hS k hk), Fr.of h2⟩

theorem refcrash_fits {S : Nat → Prop} (M : Nat) (nf nc sf sc : List UInt8) (keep : Int) (torn cell : Bool) (W : World) (h : Rk S W M nf nc sf sc) (hS : ∀ k, W.heap.size ≤ k → S k) (hk0 : -9223372036854775808 ≤ keep) (hk : keep ≤ 9223372036854775807) :
    Calls Try.prog 23 #[.pointer (some ⟨M, 0, none⟩), .int .i64 keep, .bool torn, .bool cell] W fun e w' => ∃ A' : Thing, (∃ M', e = .returned (.pointer (some ⟨M', 0, none⟩)) ∧ A' = RkP M' (left sf nf keep torn) (cel nc sc cell) (left sf nf keep torn) (cel nc sc cell)) ∧ A' S w' ∧ Fr S W w' := by
  refine (refcrash_ok M nf nc sf sc keep torn cell W h hS hk0 hk).mono ?_
  rintro e w' ⟨M', rfl, _, h1, h2⟩
  exact ⟨_, ⟨M', rfl, rfl⟩, h1, Fr.of h2⟩

end Go.Proofs.Yteanjnkfoddfmaa
