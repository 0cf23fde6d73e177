/-
  Contract of the document's own answer for the reading of a stamp. No law is proved here.
-/
import Derived.Test.YtjeefpibhkngiaaDoorRefRd
namespace Go.Proofs.YtjeefpibhkngiaaDoor
open Go.RowKit
set_option linter.unusedVariables false

/-- New memory, and block M: all else is as it was. -/
structure Turned (M : Nat) (w w' : World) : Prop where
  os : w'.os = w.os
  tape : w'.tape = w.tape
  output : w'.output = w.output
  size : w.heap.size ≤ w'.heap.size
  block : ∀ k, k < w.heap.size → k ≠ M → w'.heap[k]? = w.heap[k]?

theorem Turned.of {M : Nat} {w w' : World} (h : Below w.heap.size w w') : Turned M w w' := ⟨h.os, h.tape, h.output, h.size, fun k hk _ => h.block k hk⟩
theorem Turned.touch {M : Nat} {w w1 w2 : World} (h : Turned M w w1) (k : Touch M w1 w2) : Turned M w w2 :=
  ⟨k.os.trans h.os, k.tape.trans h.tape, k.output.trans h.output, by rw [k.size]; exact h.size, fun q hq hn => (k.block q hn).trans (h.block q hq hn)⟩
theorem Turned.new {M : Nat} {w w1 : World} (h : Turned M w w1) {q : Addr} (hq : w.heap.size ≤ q.block) (x : Value) : Turned M w (w1.setCell q x) :=
  ⟨h.os, h.tape, h.output, by simpa [World.setCell] using h.size, fun k hk hn => (Below.heap_setCell _ _ _ _ (by omega)).trans (h.block k hk hn)⟩
theorem Turned.below {M B : Nat} {w w' : World} (h : Turned M w w') (hB : B ≤ M) (hw : B ≤ w.heap.size) : Below B w w' :=
  ⟨h.os, h.tape, h.output, h.size, fun k hk => h.block k (by omega) (by omega)⟩
theorem Turned.cell {M : Nat} {w w' : World} (h : Turned M w w') {p : Addr} (hp : p.block < w.heap.size) (hn : p.block ≠ M) : w'.cell? p = w.cell? p := World.cell?_of_block (w := w) (h.block _ hp hn)

theorem Touch.cell {M : Nat} {w w' : World} (h : Touch M w w') {p : Addr} (hp : p.block ≠ M) : w'.cell? p = w.cell? p := World.cell?_of_block (w := w) (h.block _ hp)
theorem Touch.frozen {M : Nat} {w w' : World} (h : Touch M w w') {p : Addr} (hp : p.block ≠ M) : w'.frozen? p = w.frozen? p := by
  simp only [World.frozen?, h.block _ hp]

theorem RefRd.other {w : World} {M : Nat} {v : Value} {i : Nat} {bad : Bool} (h : RefRd w M v i bad) {q : Addr} (hq : q.block ≠ M) (x : Value) : RefRd (w.setCell q x) M v i bad := by
  unfold RefRd at *
  rw [Below.heap_setCell _ _ _ _ (fun e => hq e.symm)]
  exact h
theorem RefRd.below {w w' : World} {M B : Nat} {v : Value} {i : Nat} {bad : Bool} (h : RefRd w M v i bad) (hb : Below B w w') (hB : w.heap.size ≤ B) : RefRd w' M v i bad := by
  unfold RefRd at *
  rw [hb.block M (Nat.lt_of_lt_of_le (Array.getElem?_eq_some_iff.1 h).1 hB)]
  exact h

/-- What the reading of a stamp by the document's reader leaves. -/
def LeftS (M i : Nat) (ao : Option Addr) (c : Nat) (l : List UInt8) (w : World) (e : Ending) (w' : World) : Prop :=
  ∃ k bad', e = .returned (.tuple #[.agg #[.int .i64 (rdS (l.drop i)).1, .int .i64 (rdS (l.drop i)).2.1], .int .i64 (rdS (l.drop i)).2.2.1]) ∧ (rdS (l.drop i)).2.2.2 = l.drop (i + k) ∧ i + k ≤ l.length ∧ RefRd w' M (.slice ao l.length c) (i + k) bad' ∧ Turned M w w'

set_option maxRecDepth 100000 in
set_option maxHeartbeats 4000000 in
theorem refget_any (M i : Nat) (bad : Bool) (ao : Option Addr) (c : Nat) (l : List UInt8) (w : World) (hm : RefRd w M (.slice ao l.length c) i bad) (hs : Sl w (.slice ao l.length c) l) (hl : l.length ≤ 1099511627776) (hi : i ≤ l.length) :
    Calls Tryd.prog 26 #[.pointer (some ⟨M, 0, none⟩)] w (LeftS M i ao c l w) := by
  have hMl := hm.lt
  have hB0 : Below w.heap.size w (w.alloc (.cells #[.int .i64 0, .int .i64 0] 23)) := (Below.refl _ _).alloc (Nat.le_refl _) _
  have hm0 := hm.below hB0 (Nat.le_refl _)
  have hs0 := hs.below hB0 (Nat.le_refl _)
  obtain ⟨_, c1, _, _⟩ := hm0.cells
  have hN := refnum_any M i bad ao c l 1099511627776 _ hm0 hs0 hl hi
  have HN := hide hN
  have T0 : Turned M w (w.alloc (.cells #[.int .i64 0, .int .i64 0] 23)) := Turned.of hB0
  clear hN
  go_enter Tryd.func26, Tryd.ntmps26
  go_wp2_with fail
  refine (unhide HN).mono ?_
  rintro e w1 ⟨k, bad1, rfl, hr1, hk1, hm1, ht1⟩
  have hs1 := hs0.touch ht1 hm0 ⟨_, _, _, rfl⟩
  have hne : w.heap.size ≠ M := by omega
  have k0 : w1.cell? ⟨w.heap.size, 0, none⟩ = some (.int .i64 0) := (ht1.cell hne).trans (by go_simp)
  have k1 : w1.cell? ⟨w.heap.size, 1, none⟩ = some (.int .i64 0) := (ht1.cell hne).trans (by go_simp)
  have f0 : w1.frozen? ⟨w.heap.size, 0, none⟩ = false := (ht1.frozen hne).trans (by go_simp)
  have f1 : w1.frozen? ⟨w.heap.size, 1, none⟩ = false := (ht1.frozen hne).trans (by go_simp)
  have T1 := T0.touch ht1
  have HN2 := hide (refnum_any M (i + k) bad1 ao c l 65535 _ hm1 hs1 hl hk1)
  clear ht1 T0 hs0 HN
  go_wp2_with fail
  refine (unhide HN2).mono ?_
  rintro e w2 ⟨k2, bad2, rfl, hr2, hk2, hm2, ht2⟩
  replace k0 := (ht2.cell (p := ⟨w.heap.size, 0, none⟩) hne).trans k0
  replace k1 := (ht2.cell (p := ⟨w.heap.size, 1, none⟩) hne).trans k1
  replace f0 := (ht2.frozen (p := ⟨w.heap.size, 0, none⟩) hne).trans f0
  replace f1 := (ht2.frozen (p := ⟨w.heap.size, 1, none⟩) hne).trans f1
  have T2 := T1.touch ht2
  have hdS : rdS (l.drop i) = if (rdN (l.drop i) 1099511627776).2.1 = 0 ∧ (rdN (l.drop (i + k)) 65535).2.1 = 0 then ((rdN (l.drop i) 1099511627776).1, (rdN (l.drop (i + k)) 65535).1, 0, (rdN (l.drop (i + k)) 65535).2.2) else (0, 0, 11, l.drop i) := by
    rw [← hr1]; rfl
  clear ht2 HN2 T1 hs1 hm1 hm0 c1 hB0
  obtain ⟨d0, d1, d2, df⟩ := hm2.cells
  have hneM : M ≠ w.heap.size := by omega
  have e10 : ∀ v, (w2.setCell ⟨M, 1, none⟩ v).cell? ⟨M, 2, none⟩ = some (.bool bad2) := fun v => (World.cell?_setCell_other _ _ _ _ (by simp)).trans d2
  have g0 : ∀ u v, ((w2.setCell ⟨M, 1, none⟩ u).setCell ⟨M, 2, none⟩ v).cell? ⟨w.heap.size, 0, none⟩ = some (.int .i64 0) := fun u v => ((World.cell?_setCell_other _ _ _ _ (fun e => hneM (congrArg Addr.block e))).trans (World.cell?_setCell_other _ _ _ _ (fun e => hneM (congrArg Addr.block e)))).trans k0
  have g1 : ∀ u v, ((w2.setCell ⟨M, 1, none⟩ u).setCell ⟨M, 2, none⟩ v).cell? ⟨w.heap.size, 1, none⟩ = some (.int .i64 0) := fun u v => ((World.cell?_setCell_other _ _ _ _ (fun e => hneM (congrArg Addr.block e))).trans (World.cell?_setCell_other _ _ _ _ (fun e => hneM (congrArg Addr.block e)))).trans k1
  have Hbad : Hid (rdS (l.drop i) = (0, 0, 11, l.drop i) → LeftS M i ao c l w (.returned (.tuple #[.agg #[.int .i64 0, .int .i64 0], .int .i64 11])) ((((w2.setCell ⟨M, 1, none⟩ (.int .i64 i)).setCell ⟨M, 2, none⟩ (.bool true)).setCell ⟨w.heap.size, 0, none⟩ (.int .i64 0)).setCell ⟨w.heap.size, 1, none⟩ (.int .i64 0))) := fun h => by
    refine ⟨0, true, by rw [h]; rfl, by rw [h]; rfl, hi, ?_, ?_⟩
    · exact ((((hm2.set1 i).set2 true).other (q := ⟨w.heap.size, 0, none⟩) hne _).other (q := ⟨w.heap.size, 1, none⟩) hne _)
    · exact ((T2.touch (((Touch.refl M w2).setCell 1 _).setCell 2 _)).new (Nat.le_refl _) _).new (Nat.le_refl _) _
  generalize hx : rdN (l.drop i) 1099511627776 = X at *
  generalize hy : rdN (l.drop (i + k)) 65535 = Y at *
  have hX : (X.2.1 = 0 ∨ X.2.1 = 11) := by rw [← hx]; rcases rdN_one (l.drop i) 1099511627776 with ⟨h, _⟩ | ⟨h, _⟩ <;> simp [h]
  have hY : (Y.2.1 = 0 ∨ Y.2.1 = 11) := by rw [← hy]; rcases rdN_one (l.drop (i + k)) 65535 with ⟨h, _⟩ | ⟨h, _⟩ <;> simp [h]
  clear hx hy
  obtain ⟨x, ex, rx⟩ := X
  obtain ⟨y, ey, ry⟩ := Y
  simp only at hX hY hdS hr1 hr2
  have Hr2 := hide hr2
  clear hr1 hr2
  rcases hX with rfl | rfl
  · rcases hY with rfl | rfl
    · rw [if_pos ⟨rfl, rfl⟩] at hdS
      have HdS := hide hdS
      clear hdS Hbad g0 g1 e10
      go_wp2
      obtain ⟨p0, p1⟩ := set2 w2 w.heap.size _ _ (.int .i64 x) (.int .i64 y) k0 k1
      refine bodyPost_ret (results_stp2 Tryd.results26 rfl rfl p0 p1) rfl ?_
      refine ⟨k + k2, bad2, by rw [unhide HdS]; rfl, by rw [unhide HdS]; simp only; rw [unhide Hr2, Nat.add_assoc], by omega, ?_, (T2.new (Nat.le_refl _) _).new (Nat.le_refl _) _⟩
      rw [← Nat.add_assoc]
      exact (hm2.other (q := ⟨w.heap.size, 0, none⟩) hne _).other (q := ⟨w.heap.size, 1, none⟩) hne _
    · rw [if_neg (by simp)] at hdS
      have HL := hide (unhide Hbad hdS)
      clear hdS Hbad
      go_wp2
      obtain ⟨p0, p1⟩ := set2 ((w2.setCell ⟨M, 1, none⟩ (.int .i64 i)).setCell ⟨M, 2, none⟩ (.bool true)) w.heap.size _ _ (.int .i64 0) (.int .i64 0) (g0 _ _) (g1 _ _)
      refine bodyPost_ret (results_stp2 Tryd.results26 rfl rfl p0 p1) rfl ?_
      exact unhide HL
  · rw [if_neg (by simp)] at hdS
    have HL := hide (unhide Hbad hdS)
    clear hdS Hbad hY
    go_wp2
    obtain ⟨p0, p1⟩ := set2 ((w2.setCell ⟨M, 1, none⟩ (.int .i64 i)).setCell ⟨M, 2, none⟩ (.bool true)) w.heap.size _ _ (.int .i64 0) (.int .i64 0) (g0 _ _) (g1 _ _)
    refine bodyPost_ret (results_stp2 Tryd.results26 rfl rfl p0 p1) rfl ?_
    exact unhide HL

end Go.Proofs.YtjeefpibhkngiaaDoor
