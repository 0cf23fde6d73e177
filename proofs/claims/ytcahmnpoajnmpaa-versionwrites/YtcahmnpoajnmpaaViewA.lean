/-
  The law's acts: how they lie in memory. No law is proved here.
-/
import Derived.Test.YtcahmnpoajnmpaaViewI
import Derived.Test.YtcahmnpoajnmpaaVActs
namespace Go.Proofs.Ytcahmnpoajnmpaa
open Go.RowKit Go.ChangeShapes Go.WideShapes
set_option linter.unusedVariables false

/-- An act, by value. -/
structure AcV (v : Value) (z : ActR) : Prop where
  eq : v = (.agg #[.int .i64 z.kind, .int .i64 z.id, .int .i64 z.ep, .int .i64 z.itn.txn.id, .int .i64 z.itn.txn.ep, .string z.itn.txn.anchor, .int .i64 z.itn.txn.start.1, .int .i64 z.itn.txn.start.2, .int .i64 z.itn.seq, .int .i64 z.itn.at_.1, .int .i64 z.itn.at_.2, .string z.itn.val, .bool z.itn.gone, .bool z.commit, .int .i64 z.at_.1, .int .i64 z.at_.2])

/-- An act lies behind an address. -/
structure AcAt (w : World) (b o : Nat) (z : ActR) : Prop where
  c : ∀ j, j < 16 → w.cell? ⟨b, o + j, none⟩ = [.int .i64 z.kind, .int .i64 z.id, .int .i64 z.ep, .int .i64 z.itn.txn.id, .int .i64 z.itn.txn.ep, .string z.itn.txn.anchor, .int .i64 z.itn.txn.start.1, .int .i64 z.itn.txn.start.2, .int .i64 z.itn.seq, .int .i64 z.itn.at_.1, .int .i64 z.itn.at_.2, .string z.itn.val, .bool z.itn.gone, .bool z.commit, .int .i64 z.at_.1, .int .i64 z.at_.2][j]?
theorem AcAt.lt {w : World} {b o : Nat} {z : ActR} (h : AcAt w b o z) : b < w.heap.size := World.block_lt_of_cell? w _ (h.c 0 (by omega))
theorem AcAt.block {w w' : World} {b o : Nat} {z : ActR} (h : AcAt w b o z) (hk : w'.heap[b]? = w.heap[b]?) : AcAt w' b o z :=
  ⟨fun j hj => (World.cell?_of_block (w := w) hk).trans (h.c j hj)⟩

/-- A list of acts as it lies in memory. -/
structure Acs (w : World) (ao : Option Addr) (c : Nat) (xs : List ActR) : Prop where
  le : xs.length ≤ c
  cm : c ≤ maxLen
  each : ∀ i (h : i < xs.length), ∃ b o, ao = some ⟨b, o, none⟩ ∧ AcAt w b (o + i * 16) xs[i]
theorem Acs.kept {w w' : World} {ao : Option Addr} {c : Nat} {xs : List ActR} (h : Acs w ao c xs) (hk : ∀ b o, ao = some ⟨b, o, none⟩ → b < w.heap.size → w'.heap[b]? = w.heap[b]?) : Acs w' ao c xs :=
  ⟨h.le, h.cm, fun i hi => by
    obtain ⟨b, o, e, hv⟩ := h.each i hi
    exact ⟨b, o, e, hv.block (hk b o e hv.lt)⟩⟩
theorem Acs.below {w w' : World} {C : Nat} {ao : Option Addr} {c : Nat} {xs : List ActR} (h : Acs w ao c xs) (hb : Below C w w') (hC : w.heap.size ≤ C) : Acs w' ao c xs :=
  h.kept fun b o _ hl => hb.block b (by omega)
theorem Acs.later {w w' : World} {ao : Option Addr} {c : Nat} {xs : List ActR} (h : Acs w ao c xs) (hb : Below w.heap.size w w') : Acs w' ao c xs := h.below hb (Nat.le_refl _)
theorem Acs.len {w : World} {ao : Option Addr} {c : Nat} {xs : List ActR} (h : Acs w ao c xs) : xs.length ≤ maxLen := Nat.le_trans h.le h.cm

/-- Acts that came in. -/
structure AcsV (w : World) (v : Value) (xs : List ActR) : Prop where
  ex : ∃ ao c, v = .slice ao xs.length c ∧ Acs w ao c xs

theorem Try.flatAct : flat Try.prog 6 46 = some [3, 3, 3, 3, 3, 9, 3, 3, 3, 3, 3, 9, 4, 4, 3, 3] := by kernel_rfl
theorem Try.cellsAct : Try.prog.cellsOf 46 = 16 := by kernel_rfl

section
variable {H : Type} {enc : TypeId × Value → H} {w : World} {base : Nat} {spare : Nat → Bool} {held : Bool}

theorem act_of {cs : List Value} (h : Leaves enc Try.prog w base spare held [3, 3, 3, 3, 3, 9, 3, 3, 3, 3, 3, 9, 4, 4, 3, 3] cs) : ∃ z : ActR, cs = [.int .i64 z.kind, .int .i64 z.id, .int .i64 z.ep, .int .i64 z.itn.txn.id, .int .i64 z.itn.txn.ep, .string z.itn.txn.anchor, .int .i64 z.itn.txn.start.1, .int .i64 z.itn.txn.start.2, .int .i64 z.itn.seq, .int .i64 z.itn.at_.1, .int .i64 z.itn.at_.2, .string z.itn.val, .bool z.itn.gone, .bool z.commit, .int .i64 z.at_.1, .int .i64 z.at_.2] := by
  obtain ⟨hl, hc⟩ := h
  match cs, hl with
  | [c0, c1, c2, c3, c4, c5, c6, c7, c8, c9, c10, c11, c12, c13, c14, c15], _ =>
    obtain ⟨u0, m0, y0, e0, t0⟩ := hc 0 _ rfl
    obtain ⟨u1, m1, y1, e1, t1⟩ := hc 1 _ rfl
    obtain ⟨u2, m2, y2, e2, t2⟩ := hc 2 _ rfl
    obtain ⟨u3, m3, y3, e3, t3⟩ := hc 3 _ rfl
    obtain ⟨u4, m4, y4, e4, t4⟩ := hc 4 _ rfl
    obtain ⟨u5, m5, y5, e5, t5⟩ := hc 5 _ rfl
    obtain ⟨u6, m6, y6, e6, t6⟩ := hc 6 _ rfl
    obtain ⟨u7, m7, y7, e7, t7⟩ := hc 7 _ rfl
    obtain ⟨u8, m8, y8, e8, t8⟩ := hc 8 _ rfl
    obtain ⟨u9, m9, y9, e9, t9⟩ := hc 9 _ rfl
    obtain ⟨u10, m10, y10, e10, t10⟩ := hc 10 _ rfl
    obtain ⟨u11, m11, y11, e11, t11⟩ := hc 11 _ rfl
    obtain ⟨u12, m12, y12, e12, t12⟩ := hc 12 _ rfl
    obtain ⟨u13, m13, y13, e13, t13⟩ := hc 13 _ rfl
    obtain ⟨u14, m14, y14, e14, t14⟩ := hc 14 _ rfl
    obtain ⟨u15, m15, y15, e15, t15⟩ := hc 15 _ rfl
    obtain ⟨a0, rfl⟩ := leaf_int t0
    obtain ⟨a1, rfl⟩ := leaf_int t1
    obtain ⟨a2, rfl⟩ := leaf_int t2
    obtain ⟨a3, rfl⟩ := leaf_int t3
    obtain ⟨a4, rfl⟩ := leaf_int t4
    obtain ⟨a5, rfl⟩ := leaf_string t5
    obtain ⟨a6, rfl⟩ := leaf_int t6
    obtain ⟨a7, rfl⟩ := leaf_int t7
    obtain ⟨a8, rfl⟩ := leaf_int t8
    obtain ⟨a9, rfl⟩ := leaf_int t9
    obtain ⟨a10, rfl⟩ := leaf_int t10
    obtain ⟨a11, rfl⟩ := leaf_string t11
    obtain ⟨a12, rfl⟩ := leaf_bool t12
    obtain ⟨a13, rfl⟩ := leaf_bool t13
    obtain ⟨a14, rfl⟩ := leaf_int t14
    obtain ⟨a15, rfl⟩ := leaf_int t15
    simp at e0 e1 e2 e3 e4 e5 e6 e7 e8 e9 e10 e11 e12 e13 e14 e15
    subst e0 e1 e2 e3 e4 e5 e6 e7 e8 e9 e10 e11 e12 e13 e14 e15
    exact ⟨⟨a0, a1, a2, ⟨⟨a3, a4, a5, (a6, a7)⟩, a8, (a9, a10), a11, a12⟩, a13, (a14, a15)⟩, rfl⟩

theorem view_act {r : Reach} {b0 : Nat} {v : Value} {d : DataW H} {p : List MemPlace} (hv : Value.okWide Try.prog w r b0 46 v)
    (h : DataW.Trod enc Try.prog w base spare held 46 v d p) : ∃ z, AcV v z := by
  obtain ⟨cs, rfl, hsz⟩ := okWide_struct Try.underlying46 hv
  rw [Try.cellsAct] at hsz
  obtain ⟨fuel, hf⟩ := h
  have hL := leaves_of 6 _ _ fuel _ _ Try.flatAct hf (by simp [Value.cells, hsz])
  obtain ⟨a, ha⟩ := act_of hL
  refine ⟨a, ⟨?_⟩⟩
  obtain ⟨l⟩ := cs
  simp [Value.cells] at ha
  rw [ha]

theorem view_acts {r : Reach} {b0 : Nat} {v : Value} {d : DataW H} {p : List MemPlace} (hv : Value.okWide Try.prog w r b0 53 v)
    (h : DataW.Trod enc Try.prog w base spare held 53 v d p) : ∃ z, AcsV w v z := by
  obtain ⟨fuel, hf⟩ := h
  obtain ⟨a, len, cap, rfl⟩ := okWide_slice Try.underlying53 hv
  rcases rows_of Try.underlying53 Try.flatAct hf with h0 | ⟨a', len', cap', e, h1, h2, hel⟩
  · injection h0 with e1 e2 e3
    subst e1 e2 e3
    exact ⟨[], ⟨none, 0, rfl, Nat.le_refl _, Nat.zero_le _, fun i hi => by cases hi⟩⟩
  · injection e with e1 e2 e3
    subst e1 e2 e3
    have inh : Inhabited ActR := ⟨⟨0, 0, 0, Itn.zero, false, (0, 0)⟩⟩
    obtain ⟨f, hf⟩ := Deep.choose_lt (n := len) (p := fun i (z : ActR) => ∀ j, j < 16 → w.cell? (a'.add (i * 16 + j)) = [.int .i64 z.kind, .int .i64 z.id, .int .i64 z.ep, .int .i64 z.itn.txn.id, .int .i64 z.itn.txn.ep, .string z.itn.txn.anchor, .int .i64 z.itn.txn.start.1, .int .i64 z.itn.txn.start.2, .int .i64 z.itn.seq, .int .i64 z.itn.at_.1, .int .i64 z.itn.at_.2, .string z.itn.val, .bool z.itn.gone, .bool z.commit, .int .i64 z.at_.1, .int .i64 z.at_.2][j]?) (fun i hi => by
      obtain ⟨cs, hL, hcell⟩ := hel i hi
      obtain ⟨z, rfl⟩ := act_of hL
      exact ⟨z, fun j hj => hcell j hj⟩)
    refine ⟨(List.range len).map f, ⟨some a', cap, by simp, by simpa using h1, h2, fun i hi => ?_⟩⟩
    have hi' : i < len := by simpa using hi
    have e : ((List.range len).map f)[i] = f i := by simp
    rw [e]
    obtain ⟨b, o, sp⟩ := a'
    have hsp : sp = none := by
      have c00 := hf 0 (by omega) 0 (by omega)
      have := World.cell?_spot c00
      simpa [Addr.add] using this
    subst hsp
    refine ⟨b, o, rfl, ⟨fun j hj => ?_⟩⟩
    have := hf i hi' j hj
    rw [Addr.add_lit, ← Nat.add_assoc] at this
    exact this
end

end Go.Proofs.Ytcahmnpoajnmpaa
