/-
  Contract of stamp.Get. No law is proved here.
-/
import Derived.Test.YtjeefpibhkngiaaDoorPutS
namespace Go.Proofs.YtjeefpibhkngiaaDoor
open Go.RowKit
set_option linter.unusedVariables false

/-- What stamp.Get answers: the stamp, the error, what is left. -/
def rdS (l : List UInt8) : Nat × Nat × Int × List UInt8 :=
  if (rdN l 1099511627776).2.1 = 0 ∧ (rdN (rdN l 1099511627776).2.2 65535).2.1 = 0 then
    ((rdN l 1099511627776).1, (rdN (rdN l 1099511627776).2.2 65535).1, 0, (rdN (rdN l 1099511627776).2.2 65535).2.2)
  else (0, 0, 11, l)

theorem rdN_cases (l : List UInt8) (most : Int) : rdN l most = (0, 11, l) ∨ ∃ x l1, rdN l most = (x, 0, l1) ∧ l1.length ≤ l.length ∧ (x : Int) ≤ most := by
  by_cases h : (first l).2 = 0 ∨ most < ((first l).1 : Int)
  · exact .inl (rdN_no h)
  · refine .inr ⟨_, _, rdN_yes h, by rw [List.length_drop]; omega, ?_⟩
    omega

/-- New memory, and the reader's own cell: all else is as it was. -/
structure Moved (R : Nat) (w w' : World) : Prop where
  os : w'.os = w.os
  tape : w'.tape = w.tape
  output : w'.output = w.output
  size : w.heap.size ≤ w'.heap.size
  block : ∀ k, k < w.heap.size → k ≠ R → w'.heap[k]? = w.heap[k]?
  cell : ∀ p : Addr, p.block < w.heap.size → p ≠ ⟨R, 0, none⟩ → w'.cell? p = w.cell? p

theorem Moved.of {R : Nat} {w w' : World} (h : Below w.heap.size w w') : Moved R w w' :=
  ⟨h.os, h.tape, h.output, h.size, fun k hk _ => h.block k hk, fun p hp _ => h.cell hp⟩
theorem Moved.set {R : Nat} {w w' : World} (h : Moved R w w') (x : Value) : Moved R w (w'.setCell ⟨R, 0, none⟩ x) :=
  ⟨h.os, h.tape, h.output, by simpa [World.setCell] using h.size, fun k hk hn => (Below.heap_setCell _ _ _ _ (by simpa using hn)).trans (h.block k hk hn), fun p hp hn => (World.cell?_setCell_other _ _ _ _ (fun e => hn e.symm)).trans (h.cell p hp hn)⟩
theorem Moved.new {R : Nat} {w w' : World} (h : Moved R w w') {q : Addr} (hq : w.heap.size ≤ q.block) (x : Value) : Moved R w (w'.setCell q x) :=
  ⟨h.os, h.tape, h.output, by simpa [World.setCell] using h.size, fun k hk hn => (Below.heap_setCell _ _ _ _ (by omega)).trans (h.block k hk hn), fun p hp hn => (World.cell?_setCell_other _ _ _ _ (fun e => by rw [e] at hq; omega)).trans (h.cell p hp hn)⟩

theorem Moved.sl {R : Nat} {w w' : World} (h : Moved R w w') {l m : List UInt8} {v : Value} (hr : Rd w R l) (hs : Sl w v m) : Sl w' v m := by
  obtain ⟨ao, c, rfl, h1, h2, h3, h4⟩ := hs
  obtain ⟨bo, n, d, g1, _, _⟩ := hr
  refine ⟨ao, c, rfl, h1, h2, h3, fun a ha j u hu => ?_⟩
  have hc := h4 a ha j u hu
  rw [h.cell _ (World.block_lt_of_cell? w _ hc) ?_]
  · exact hc
  · intro e
    rw [e, g1] at hc
    rw [bc_get] at hu
    cases hl : m[j]? with
    | none => rw [hl] at hu; cases hu
    | some b => rw [hl] at hu; cases hu; cases hc
theorem Moved.below {R B : Nat} {w w' : World} (h : Moved R w w') (hB : B ≤ R) (hw : B ≤ w.heap.size) : Below B w w' :=
  ⟨h.os, h.tape, h.output, h.size, fun k hk => h.block k (by omega) (by omega)⟩

theorem Sl.setInt {w : World} {v : Value} {l : List UInt8} (h : Sl w v l) {p : Addr} {y : Int} (hp : w.cell? p = some (.int .i64 y)) (x : Value) : Sl (w.setCell p x) v l := by
  obtain ⟨bo, d, rfl, h1, h2, h3, h4⟩ := h
  refine ⟨bo, d, rfl, h1, h2, h3, fun a ha j u hu => ?_⟩
  have hc := h4 a ha j u hu
  rw [World.cell?_setCell_other]
  · exact hc
  · intro e
    rw [e, hc] at hp
    rw [bc_get] at hu
    cases hl : l[j]? with
    | none => rw [hl] at hu; cases hu
    | some b => rw [hl] at hu; cases hu; cases hp
theorem Rd.setInt {w : World} {R : Nat} {l : List UInt8} (h : Rd w R l) {p : Addr} {y : Int} (hp : w.cell? p = some (.int .i64 y)) (x : Value) : Rd (w.setCell p x) R l := by
  obtain ⟨ao, n, c, h1, h2, h3⟩ := h
  refine ⟨ao, n, c, (World.cell?_setCell_other _ _ _ _ (fun e => ?_)).trans h1, by simpa using h2, h3.setInt hp x⟩
  rw [e, h1] at hp
  cases hp

theorem Stays.cell {R : Nat} {w w' : World} (h : Stays R w w') {p : Addr} (hp : p.block ≠ R) : w'.cell? p = w.cell? p := by
  rcases h with rfl | ⟨x, rfl⟩
  · rfl
  · exact World.cell?_setCell_other w _ _ _ (fun e => hp (by rw [← e]))
theorem Stays.frozen {R : Nat} {w w' : World} (h : Stays R w w') (p : Addr) : w'.frozen? p = w.frozen? p := by
  rcases h with rfl | ⟨x, rfl⟩
  · rfl
  · simp

section
set_option maxRecDepth 100000
theorem get_nil (w : World) : Calls Tryd.prog 25 #[.pointer none] w fun e w' => e = .returned (.tuple #[.agg #[.int .i64 0, .int .i64 0], .int .i64 1]) ∧ Below w.heap.size w w' := by
  go_enter Tryd.func25, Tryd.ntmps25
  go_wp2
  refine bodyPost_ret (results_stp2 (a := 0) (b := 0) Tryd.results25 rfl rfl (by simp) (by simp)) rfl ?_
  exact ⟨rfl, by go_grown⟩

set_option maxHeartbeats 2000000 in
theorem get_any (R : Nat) (l : List UInt8) (w : World) (hr : Rd w R l) (hl : l.length ≤ 1099511627776) :
    Calls Tryd.prog 25 #[.pointer (some ⟨R, 0, none⟩)] w fun e w' =>
      e = .returned (.tuple #[.agg #[.int .i64 (rdS l).1, .int .i64 (rdS l).2.1], .int .i64 (rdS l).2.2.1]) ∧ Rd w' R (rdS l).2.2.2 ∧ Moved R w w' := by
  have hRl := hr.lt
  have Hr := hide hr
  obtain ⟨ao, n, c, hc, hf, hs⟩ := hr
  have hB0 : Below w.heap.size w (w.alloc (.cells #[.int .i64 0, .int .i64 0] 23)) := by go_grown
  have hB1 : Below w.heap.size w ((w.alloc (.cells #[.int .i64 0, .int .i64 0] 23)).alloc (.cells #[.slice ao n c] 58)) := by go_grown
  have hr1 : Rd ((w.alloc (.cells #[.int .i64 0, .int .i64 0] 23)).alloc (.cells #[.slice ao n c] 58)) (w.heap.size + 1) l :=
    ⟨ao, n, c, by go_simp, by go_simp, hs.below hB1 (Nat.le_refl _)⟩
  have hN := rnumber_any (w.heap.size + 1) l 1099511627776 _ hr1 hl
  have c0 := fun o => (World.cell?_alloc_lt (w := w) (o := o) (a := ⟨R, 0, none⟩) hRl).trans hc
  rcases rdN_cases l 1099511627776 with h1 | ⟨x, l1, h1, hl1, hx⟩
  · have hd : rdS l = (0, 0, 11, l) := by unfold rdS; rw [h1]; rfl
    rw [hd]
    rw [h1] at hN
    go_enter Tryd.func25, Tryd.ntmps25
    go_wp2_with fail
    refine hN.mono ?_
    rintro e w1 ⟨rfl, hr2, hy⟩
    have k0 : w1.cell? ⟨w.heap.size, 0, none⟩ = some (.int .i64 0) := (hy.cell (by simp)).trans (by go_simp)
    have k1 : w1.cell? ⟨w.heap.size, 1, none⟩ = some (.int .i64 0) := (hy.cell (by simp)).trans (by go_simp)
    have f0 : w1.frozen? ⟨w.heap.size, 0, none⟩ = false := (hy.frozen _).trans (by go_simp)
    have f1 : w1.frozen? ⟨w.heap.size, 1, none⟩ = false := (hy.frozen _).trans (by go_simp)
    have R1 := hB1.trans (hy.below (by omega))
    clear hr2 hy hr1 hB1 hB0
    go_wp2
    obtain ⟨d0, d1⟩ := set2 w1 w.heap.size _ _ (.int .i64 0) (.int .i64 0) k0 k1
    refine bodyPost_ret (results_stp2 Tryd.results25 rfl rfl d0 d1) rfl ?_
    have R2 : Below w.heap.size w ((w1.setCell ⟨w.heap.size, 0, none⟩ (.int .i64 0)).setCell ⟨w.heap.size, 1, none⟩ (.int .i64 0)) := (R1.setCell (Nat.le_refl _) _).setCell (Nat.le_refl _) _
    exact ⟨rfl, (unhide Hr).below R2 (Nat.le_refl _), Moved.of R2⟩
  · rw [h1] at hN
    rcases rdN_cases l1 65535 with h2 | ⟨y, l2, h2, hl2, hy2⟩
    · have hd : rdS l = (0, 0, 11, l) := by unfold rdS; rw [h1]; simp only [h2]; rfl
      rw [hd]
      go_enter Tryd.func25, Tryd.ntmps25
      go_wp2_with fail
      refine hN.mono ?_
      rintro e w1 ⟨rfl, hr2, hy⟩
      have k0 : w1.cell? ⟨w.heap.size, 0, none⟩ = some (.int .i64 0) := (hy.cell (by simp)).trans (by go_simp)
      have k1 : w1.cell? ⟨w.heap.size, 1, none⟩ = some (.int .i64 0) := (hy.cell (by simp)).trans (by go_simp)
      have f0 : w1.frozen? ⟨w.heap.size, 0, none⟩ = false := (hy.frozen _).trans (by go_simp)
      have f1 : w1.frozen? ⟨w.heap.size, 1, none⟩ = false := (hy.frozen _).trans (by go_simp)
      have R1 := hB1.trans (hy.below (by omega))
      have hN2 := rnumber_any (w.heap.size + 1) l1 65535 w1 hr2 (by omega)
      rw [h2] at hN2
      clear hy hr1 hB1 hB0 hr2
      go_wp2_with fail
      refine hN2.mono ?_
      rintro e w2 ⟨rfl, hr3, hy⟩
      replace k0 := (hy.cell (p := ⟨w.heap.size, 0, none⟩) (by simp)).trans k0
      replace k1 := (hy.cell (p := ⟨w.heap.size, 1, none⟩) (by simp)).trans k1
      replace f0 := (hy.frozen ⟨w.heap.size, 0, none⟩).trans f0
      replace f1 := (hy.frozen ⟨w.heap.size, 1, none⟩).trans f1
      replace R1 := R1.trans (hy.below (by omega))
      clear hy hr3 hN2
      go_wp2
      obtain ⟨d0, d1⟩ := set2 w2 w.heap.size _ _ (.int .i64 0) (.int .i64 0) k0 k1
      refine bodyPost_ret (results_stp2 Tryd.results25 rfl rfl d0 d1) rfl ?_
      have R2 : Below w.heap.size w ((w2.setCell ⟨w.heap.size, 0, none⟩ (.int .i64 0)).setCell ⟨w.heap.size, 1, none⟩ (.int .i64 0)) := (R1.setCell (Nat.le_refl _) _).setCell (Nat.le_refl _) _
      exact ⟨rfl, (unhide Hr).below R2 (Nat.le_refl _), Moved.of R2⟩
    · have hd : rdS l = (x, y, 0, l2) := by unfold rdS; rw [h1]; simp only [h2]; rfl
      rw [hd]
      go_enter Tryd.func25, Tryd.ntmps25
      go_wp2_with fail
      refine hN.mono ?_
      rintro e w1 ⟨rfl, hr2, hy⟩
      have k0 : w1.cell? ⟨w.heap.size, 0, none⟩ = some (.int .i64 0) := (hy.cell (by simp)).trans (by go_simp)
      have k1 : w1.cell? ⟨w.heap.size, 1, none⟩ = some (.int .i64 0) := (hy.cell (by simp)).trans (by go_simp)
      have f0 : w1.frozen? ⟨w.heap.size, 0, none⟩ = false := (hy.frozen _).trans (by go_simp)
      have f1 : w1.frozen? ⟨w.heap.size, 1, none⟩ = false := (hy.frozen _).trans (by go_simp)
      have R1 := hB1.trans (hy.below (by omega))
      have hN2 := rnumber_any (w.heap.size + 1) l1 65535 w1 hr2 (by omega)
      rw [h2] at hN2
      clear hy hr1 hB1 hB0 hr2
      go_wp2_with fail
      refine hN2.mono ?_
      rintro e w2 ⟨rfl, hr3, hy⟩
      replace k0 := (hy.cell (p := ⟨w.heap.size, 0, none⟩) (by simp)).trans k0
      replace k1 := (hy.cell (p := ⟨w.heap.size, 1, none⟩) (by simp)).trans k1
      replace f0 := (hy.frozen ⟨w.heap.size, 0, none⟩).trans f0
      replace f1 := (hy.frozen ⟨w.heap.size, 1, none⟩).trans f1
      replace R1 := R1.trans (hy.below (by omega))
      have hr4 := (unhide Hr).below R1 (Nat.le_refl _)
      obtain ⟨ao3, n3, c3, m0, m1, m2⟩ := hr3
      obtain ⟨ao4, n4, c4, q0, q1, q2⟩ := hr4
      have Hm2 := hide m2
      have Hq2 := hide q2
      clear hy hN2 m2 q2 c0 hc hf hs
      have z1 := R1.size
      have e0 : ∀ v, (w2.setCell ⟨R, 0, none⟩ v).cell? ⟨w.heap.size, 0, none⟩ = some (.int .i64 0) := fun v => (World.cell?_setCell_other _ _ _ _ (fun e => by have := congrArg Addr.block e; simp at this; omega)).trans k0
      have e1 : ∀ v, (w2.setCell ⟨R, 0, none⟩ v).cell? ⟨w.heap.size, 1, none⟩ = some (.int .i64 0) := fun v => (World.cell?_setCell_other _ _ _ _ (fun e => by have := congrArg Addr.block e; simp at this; omega)).trans k1
      go_wp2
      obtain ⟨d0, d1⟩ := set2 (w2.setCell ⟨R, 0, none⟩ (.slice ao3 n3 c3)) w.heap.size _ _ (.int .i64 x) (.int .i64 y) (e0 _) (e1 _)
      refine bodyPost_ret (results_stp2 Tryd.results25 rfl rfl d0 d1) rfl ?_
      have hrd := (Rd.set q0 q1 (unhide Hm2)).setInt (e0 _) (.int .i64 x)
      have e2 := (World.cell?_setCell_other (w2.setCell ⟨R, 0, none⟩ (.slice ao3 n3 c3)) ⟨w.heap.size, 0, none⟩ ⟨w.heap.size, 1, none⟩ (.int .i64 x) (by simp)).trans (e1 (.slice ao3 n3 c3))
      exact ⟨rfl, hrd.setInt e2 _, (((Moved.of R1).set _).new (Nat.le_refl _) _).new (Nat.le_refl _) _⟩
end

end Go.Proofs.YtjeefpibhkngiaaDoor
