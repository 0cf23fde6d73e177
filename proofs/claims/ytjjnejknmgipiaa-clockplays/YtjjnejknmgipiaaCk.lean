/-
  A clock as it lies in memory; contracts of clock's New, Set, Physical, Last, Copy. No law is proved here.
-/
import Derived.Test.YtjjnejknmgipiaaOrderMath
namespace Go.Proofs.Ytjjnejknmgipiaa
open Go.RowKit
set_option linter.unusedVariables false

/-- What Set answers. -/
def setE (p x : Int) : Int := if x < p ∨ 1099511627776 < x then 42 else 0
/-- The physical time behind a Set. -/
def setP (p x : Int) : Int := if x < p ∨ 1099511627776 < x then p else x

/-- Four numbers lie in block B, and may be written. -/
structure Four (w : World) (B : Nat) (x0 x1 x2 x3 : Int) : Prop where
  c0 : w.cell? ⟨B, 0, none⟩ = some (.int .i64 x0)
  c1 : w.cell? ⟨B, 1, none⟩ = some (.int .i64 x1)
  c2 : w.cell? ⟨B, 2, none⟩ = some (.int .i64 x2)
  c3 : w.cell? ⟨B, 3, none⟩ = some (.int .i64 x3)
  f0 : w.frozen? ⟨B, 0, none⟩ = false
  f1 : w.frozen? ⟨B, 1, none⟩ = false
  f2 : w.frozen? ⟨B, 2, none⟩ = false
  f3 : w.frozen? ⟨B, 3, none⟩ = false

/-- New memory, and block M: all else is as it was. -/
structure Mv (M : Nat) (w w' : World) : Prop where
  os : w'.os = w.os
  tape : w'.tape = w.tape
  output : w'.output = w.output
  size : w.heap.size ≤ w'.heap.size
  block : ∀ k, k < w.heap.size → k ≠ M → w'.heap[k]? = w.heap[k]?

theorem Mv.of {M : Nat} {w w' : World} (h : Below w.heap.size w w') : Mv M w w' := ⟨h.os, h.tape, h.output, h.size, fun k hk _ => h.block k hk⟩
theorem Mv.refl (M : Nat) (w : World) : Mv M w w := Mv.of (Below.refl _ _)
theorem Mv.trans {M : Nat} {w w1 w2 : World} (h : Mv M w w1) (k : Mv M w1 w2) : Mv M w w2 :=
  ⟨k.os.trans h.os, k.tape.trans h.tape, k.output.trans h.output, Nat.le_trans h.size k.size, fun j hj hn => (k.block j (Nat.lt_of_lt_of_le hj h.size) hn).trans (h.block j hj hn)⟩
theorem Mv.set {M : Nat} {w w1 : World} (h : Mv M w w1) (n : Nat) (x : Value) : Mv M w (w1.setCell ⟨M, n, none⟩ x) :=
  ⟨h.os, h.tape, h.output, by simpa [World.setCell] using h.size, fun k hk hn => (Below.heap_setCell _ _ _ _ hn).trans (h.block k hk hn)⟩
theorem Mv.new {M : Nat} {w w1 : World} (h : Mv M w w1) {q : Addr} (hq : w.heap.size ≤ q.block) (x : Value) : Mv M w (w1.setCell q x) :=
  ⟨h.os, h.tape, h.output, by simpa [World.setCell] using h.size, fun k hk hn => (Below.heap_setCell _ _ _ _ (by omega)).trans (h.block k hk hn)⟩
theorem Mv.alloc {M : Nat} {w w1 : World} (h : Mv M w w1) (o : Obj) : Mv M w (w1.alloc o) := h.trans (Mv.of ((Below.refl _ _).alloc (Nat.le_refl _) o))
theorem Mv.later {M : Nat} {w w1 w2 : World} (h : Mv M w w1) (k : Below w1.heap.size w1 w2) : Mv M w w2 := h.trans (Mv.of k)
theorem Mv.cell {M : Nat} {w w' : World} (h : Mv M w w') {p : Addr} (hp : p.block < w.heap.size) (hn : p.block ≠ M) : w'.cell? p = w.cell? p := World.cell?_of_block (w := w) (h.block _ hp hn)
theorem Mv.frozen {M : Nat} {w w' : World} (h : Mv M w w') {p : Addr} (hp : p.block < w.heap.size) (hn : p.block ≠ M) : w'.frozen? p = w.frozen? p := World.frozen?_of_block (w := w) (h.block _ hp hn)
theorem Mv.below {M B : Nat} {w w' : World} (h : Mv M w w') (hB : B ≤ M) (hw : B ≤ w.heap.size) : Below B w w' :=
  ⟨h.os, h.tape, h.output, h.size, fun k hk => h.block k (by omega) (by omega)⟩

theorem Four.lt {w : World} {B : Nat} {x0 x1 x2 x3 : Int} (h : Four w B x0 x1 x2 x3) : B < w.heap.size := World.block_lt_of_cell? w _ h.c0
theorem Four.mv {w w' : World} {B M : Nat} {x0 x1 x2 x3 : Int} (h : Four w B x0 x1 x2 x3) (hm : Mv M w w') (hn : B ≠ M) : Four w' B x0 x1 x2 x3 :=
  ⟨(hm.cell h.lt hn).trans h.c0, (hm.cell h.lt hn).trans h.c1, (hm.cell h.lt hn).trans h.c2, (hm.cell h.lt hn).trans h.c3, (hm.frozen h.lt hn).trans h.f0, (hm.frozen h.lt hn).trans h.f1, (hm.frozen h.lt hn).trans h.f2, (hm.frozen h.lt hn).trans h.f3⟩
theorem Four.below {w w' : World} {B C : Nat} {x0 x1 x2 x3 : Int} (h : Four w B x0 x1 x2 x3) (hb : Below C w w') (hC : B < C) : Four w' B x0 x1 x2 x3 :=
  ⟨(hb.cell hC).trans h.c0, (hb.cell hC).trans h.c1, (hb.cell hC).trans h.c2, (hb.cell hC).trans h.c3, (hb.frozen hC).trans h.f0, (hb.frozen hC).trans h.f1, (hb.frozen hC).trans h.f2, (hb.frozen hC).trans h.f3⟩
theorem Four.later {w w' : World} {B : Nat} {x0 x1 x2 x3 : Int} (h : Four w B x0 x1 x2 x3) (hb : Below w.heap.size w w') : Four w' B x0 x1 x2 x3 := h.below hb h.lt
theorem Four.alloc {w : World} {B : Nat} {x0 x1 x2 x3 : Int} (h : Four w B x0 x1 x2 x3) (o : Obj) : Four (w.alloc o) B x0 x1 x2 x3 := h.later ((Below.refl _ _).alloc (Nat.le_refl _) o)
theorem Four.new (w : World) (x0 x1 x2 x3 : Int) (t : TypeId) : Four (w.alloc (.cells #[.int .i64 x0, .int .i64 x1, .int .i64 x2, .int .i64 x3] t)) w.heap.size x0 x1 x2 x3 :=
  ⟨by simp, by simp, by simp, by simp, by simp, by simp, by simp, by simp⟩
theorem Four.set0 {w : World} {B : Nat} {x0 x1 x2 x3 : Int} (h : Four w B x0 x1 x2 x3) (x : Int) : Four (w.setCell ⟨B, 0, none⟩ (.int .i64 x)) B x x1 x2 x3 :=
  ⟨World.cell?_setCell_same w _ _ h.c0, (World.cell?_setCell_other w _ _ _ (by simp)).trans h.c1, (World.cell?_setCell_other w _ _ _ (by simp)).trans h.c2, (World.cell?_setCell_other w _ _ _ (by simp)).trans h.c3, by simpa using h.f0, by simpa using h.f1, by simpa using h.f2, by simpa using h.f3⟩
theorem Four.set1 {w : World} {B : Nat} {x0 x1 x2 x3 : Int} (h : Four w B x0 x1 x2 x3) (x : Int) : Four (w.setCell ⟨B, 1, none⟩ (.int .i64 x)) B x0 x x2 x3 :=
  ⟨(World.cell?_setCell_other w _ _ _ (by simp)).trans h.c0, World.cell?_setCell_same w _ _ h.c1, (World.cell?_setCell_other w _ _ _ (by simp)).trans h.c2, (World.cell?_setCell_other w _ _ _ (by simp)).trans h.c3, by simpa using h.f0, by simpa using h.f1, by simpa using h.f2, by simpa using h.f3⟩
theorem Four.set2 {w : World} {B : Nat} {x0 x1 x2 x3 : Int} (h : Four w B x0 x1 x2 x3) (x : Int) : Four (w.setCell ⟨B, 2, none⟩ (.int .i64 x)) B x0 x1 x x3 :=
  ⟨(World.cell?_setCell_other w _ _ _ (by simp)).trans h.c0, (World.cell?_setCell_other w _ _ _ (by simp)).trans h.c1, World.cell?_setCell_same w _ _ h.c2, (World.cell?_setCell_other w _ _ _ (by simp)).trans h.c3, by simpa using h.f0, by simpa using h.f1, by simpa using h.f2, by simpa using h.f3⟩
theorem Four.set3 {w : World} {B : Nat} {x0 x1 x2 x3 : Int} (h : Four w B x0 x1 x2 x3) (x : Int) : Four (w.setCell ⟨B, 3, none⟩ (.int .i64 x)) B x0 x1 x2 x :=
  ⟨(World.cell?_setCell_other w _ _ _ (by simp)).trans h.c0, (World.cell?_setCell_other w _ _ _ (by simp)).trans h.c1, (World.cell?_setCell_other w _ _ _ (by simp)).trans h.c2, World.cell?_setCell_same w _ _ h.c3, by simpa using h.f0, by simpa using h.f1, by simpa using h.f2, by simpa using h.f3⟩
theorem Four.setOther {w : World} {B : Nat} {x0 x1 x2 x3 : Int} (h : Four w B x0 x1 x2 x3) {q : Addr} (hq : q.block ≠ B) (x : Value) : Four (w.setCell q x) B x0 x1 x2 x3 := by
  have n : ∀ k, q ≠ ⟨B, k, none⟩ := fun k e => hq (by rw [e])
  exact ⟨(World.cell?_setCell_other w _ _ _ (n 0)).trans h.c0, (World.cell?_setCell_other w _ _ _ (n 1)).trans h.c1, (World.cell?_setCell_other w _ _ _ (n 2)).trans h.c2, (World.cell?_setCell_other w _ _ _ (n 3)).trans h.c3, by simpa using h.f0, by simpa using h.f1, by simpa using h.f2, by simpa using h.f3⟩

/-- A stamp lies in block N, and may be written. -/
structure Two (w : World) (N : Nat) (x y : Int) : Prop where
  c0 : w.cell? ⟨N, 0, none⟩ = some (.int .i64 x)
  c1 : w.cell? ⟨N, 1, none⟩ = some (.int .i64 y)
  f0 : w.frozen? ⟨N, 0, none⟩ = false
  f1 : w.frozen? ⟨N, 1, none⟩ = false

theorem Two.lt {w : World} {B : Nat} {x y : Int} (h : Two w B x y) : B < w.heap.size := World.block_lt_of_cell? w _ h.c0
theorem Two.mv {w w' : World} {B M : Nat} {x y : Int} (h : Two w B x y) (hm : Mv M w w') (hn : B ≠ M) : Two w' B x y :=
  ⟨(hm.cell h.lt hn).trans h.c0, (hm.cell h.lt hn).trans h.c1, (hm.frozen h.lt hn).trans h.f0, (hm.frozen h.lt hn).trans h.f1⟩
theorem Two.later {w w' : World} {B : Nat} {x y : Int} (h : Two w B x y) (hb : Below w.heap.size w w') : Two w' B x y :=
  ⟨(hb.cell h.lt).trans h.c0, (hb.cell h.lt).trans h.c1, (hb.frozen h.lt).trans h.f0, (hb.frozen h.lt).trans h.f1⟩
theorem Two.alloc {w : World} {B : Nat} {x y : Int} (h : Two w B x y) (o : Obj) : Two (w.alloc o) B x y := h.later ((Below.refl _ _).alloc (Nat.le_refl _) o)
theorem Two.new (w : World) (x y : Int) (t : TypeId) : Two (w.alloc (.cells #[.int .i64 x, .int .i64 y] t)) w.heap.size x y := ⟨by simp, by simp, by simp, by simp⟩
theorem Two.other {w : World} {B : Nat} {x y : Int} (h : Two w B x y) {q : Addr} (hq : q.block ≠ B) (v : Value) : Two (w.setCell q v) B x y := by
  have n : ∀ k, q ≠ ⟨B, k, none⟩ := fun k e => hq (by rw [e])
  exact ⟨(World.cell?_setCell_other w _ _ _ (n 0)).trans h.c0, (World.cell?_setCell_other w _ _ _ (n 1)).trans h.c1, by simpa using h.f0, by simpa using h.f1⟩
theorem Two.put {w : World} {B : Nat} {x y : Int} (h : Two w B x y) (u v : Int) : Two ((w.setCell ⟨B, 0, none⟩ (.int .i64 u)).setCell ⟨B, 1, none⟩ (.int .i64 v)) B u v := by
  obtain ⟨c0, c1⟩ := set2 w B _ _ (.int .i64 u) (.int .i64 v) h.c0 h.c1
  exact ⟨c0, c1, by simpa using h.f0, by simpa using h.f1⟩

section
set_option maxRecDepth 100000

theorem new_yes (o : Int) (h0 : 0 ≤ o) (h1 : o ≤ 1099511627776) (w : World) : Calls Try.prog 8 #[.int .i64 o] w fun e w' =>
    e = .returned (.tuple #[.pointer (some ⟨w.heap.size, 0, none⟩), .int .i64 0]) ∧ w' = w.alloc (.cells #[.int .i64 o, .int .i64 0, .int .i64 0, .int .i64 0] 53) := by
  go_enter Try.func8, Try.ntmps8
  go_wp2
  go_ret2
  exact ⟨rfl, rfl⟩

theorem new_no (o : Int) (h : o < 0 ∨ 1099511627776 < o) (w : World) : Calls Try.prog 8 #[.int .i64 o] w fun e w' =>
    e = .returned (.tuple #[.pointer none, .int .i64 1]) ∧ w' = w := by
  by_cases h0 : o < 0
  · clear h
    go_enter Try.func8, Try.ntmps8
    go_wp2
    go_ret2
    exact ⟨rfl, rfl⟩
  · have h1 : 1099511627776 < o := by omega
    clear h
    go_enter Try.func8, Try.ntmps8
    go_wp2
    go_ret2
    exact ⟨rfl, rfl⟩

theorem set_any (B : Nat) (o p a b x : Int) (w : World) (h : Four w B o p a b) : Calls Try.prog 11 #[.pointer (some ⟨B, 0, none⟩), .int .i64 x] w fun e w' =>
    e = .returned (.int .i64 (setE p x)) ∧ Four w' B o (setP p x) a b ∧ Mv B w w' := by
  have Hh := hide h
  obtain ⟨c0, c1, c2, c3, f0, f1, f2, f3⟩ := h
  by_cases h1 : x < p
  · have e1 : setE p x = 42 := by unfold setE; rw [if_pos (.inl h1)]
    have e2 : setP p x = p := by unfold setP; rw [if_pos (.inl h1)]
    rw [e1, e2]
    go_enter Try.func11, Try.ntmps11
    go_wp2
    go_ret
    exact ⟨rfl, unhide Hh, Mv.refl _ _⟩
  · by_cases h2 : 1099511627776 < x
    · have e1 : setE p x = 42 := by unfold setE; rw [if_pos (.inr h2)]
      have e2 : setP p x = p := by unfold setP; rw [if_pos (.inr h2)]
      rw [e1, e2]
      go_enter Try.func11, Try.ntmps11
      go_wp2
      go_ret
      exact ⟨rfl, unhide Hh, Mv.refl _ _⟩
    · have e1 : setE p x = 0 := by unfold setE; rw [if_neg (by omega)]
      have e2 : setP p x = x := by unfold setP; rw [if_neg (by omega)]
      rw [e1, e2]
      go_enter Try.func11, Try.ntmps11
      go_wp2
      go_ret
      exact ⟨rfl, (unhide Hh).set1 x, (Mv.refl _ _).set _ _⟩

theorem physical_any (B : Nat) (o p a b : Int) (w : World) (h : Four w B o p a b) : Calls Try.prog 17 #[.pointer (some ⟨B, 0, none⟩)] w fun e w' =>
    e = .returned (.int .i64 p) ∧ Below w.heap.size w w' := by
  obtain ⟨c0, c1, c2, c3, f0, f1, f2, f3⟩ := h
  go_enter Try.func17, Try.ntmps17
  go_wp2
  go_ret
  exact ⟨rfl, Below.refl _ _⟩

theorem last_any (B : Nat) (o p a b : Int) (w : World) (h : Four w B o p a b) : Calls Try.prog 18 #[.pointer (some ⟨B, 0, none⟩)] w fun e w' =>
    e = .returned (.agg #[.int .i64 a, .int .i64 b]) ∧ Below w.heap.size w w' := by
  have k := fun o => h.alloc o
  have k2 := fun o => (k o).c2
  have k3 := fun o => (k o).c3
  clear k
  go_enter Try.func18, Try.ntmps18
  go_wp2
  refine bodyPost_ret (results_stp (a := a) (b := b) Try.results18 rfl (by simp) (by simp)) rfl ?_
  exact ⟨rfl, by go_grown⟩

theorem copy_any (B : Nat) (o p a b : Int) (w : World) (h : Four w B o p a b) : Calls Try.prog 23 #[.pointer (some ⟨B, 0, none⟩)] w fun e w' =>
    e = .returned (.pointer (some ⟨w.heap.size, 0, none⟩)) ∧ Four w' w.heap.size o p a b ∧ Below w.heap.size w w' := by
  obtain ⟨c0, c1, c2, c3, f0, f1, f2, f3⟩ := h
  go_enter Try.func23, Try.ntmps23
  go_wp2
  go_ret
  exact ⟨rfl, Four.new _ _ _ _ _ _, by go_grown⟩
end

end Go.Proofs.Ytjjnejknmgipiaa
