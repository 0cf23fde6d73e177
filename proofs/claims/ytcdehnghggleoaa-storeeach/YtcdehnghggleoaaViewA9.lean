/-
  The law's acts: how they lie in memory. No law is proved here.
-/
import Derived.Test.YtcdehnghggleoaaGn8
import Derived.ProofKit
import Derived.OpenShut
import Derived.ShutString
import Derived.SizedLaws
import Derived.Test.YtcdehnghggleoaaSq
namespace Go.Proofs.Ytcdehnghggleoaa
open Go.RowKit Go.ChangeShapes Go.WideShapes
set_option linter.unusedVariables false
set_option maxRecDepth 100000

/-- An act, by value. -/
structure AcV9 (v : Value) (z : ActS) : Prop where
  eq : v = (.agg #[.int .i64 z.kind, .int .i64 z.id, .int .i64 z.ep, .string z.key, .string z.f, .string z.t, .int .i64 z.itn.txn.id, .int .i64 z.itn.txn.ep, .string z.itn.txn.anchor, .int .i64 z.itn.txn.start.1, .int .i64 z.itn.txn.start.2, .int .i64 z.itn.seq, .int .i64 z.itn.at_.1, .int .i64 z.itn.at_.2, .string z.itn.val, .bool z.itn.gone, .bool z.commit, .int .i64 z.a0.1, .int .i64 z.a0.2, .int .i64 z.a1.1, .int .i64 z.a1.2])

/-- An act lies behind an address. -/
structure AcAt9 (w : World) (b o : Nat) (z : ActS) : Prop where
  c : ∀ j, j < 21 → w.cell? ⟨b, o + j, none⟩ = [.int .i64 z.kind, .int .i64 z.id, .int .i64 z.ep, .string z.key, .string z.f, .string z.t, .int .i64 z.itn.txn.id, .int .i64 z.itn.txn.ep, .string z.itn.txn.anchor, .int .i64 z.itn.txn.start.1, .int .i64 z.itn.txn.start.2, .int .i64 z.itn.seq, .int .i64 z.itn.at_.1, .int .i64 z.itn.at_.2, .string z.itn.val, .bool z.itn.gone, .bool z.commit, .int .i64 z.a0.1, .int .i64 z.a0.2, .int .i64 z.a1.1, .int .i64 z.a1.2][j]?
theorem AcAt9.lt {w : World} {b o : Nat} {z : ActS} (h : AcAt9 w b o z) : b < w.heap.size := World.block_lt_of_cell? w _ (h.c 0 (by omega))
theorem AcAt9.block {w w' : World} {b o : Nat} {z : ActS} (h : AcAt9 w b o z) (hk : w'.heap[b]? = w.heap[b]?) : AcAt9 w' b o z :=
  ⟨fun j hj => (World.cell?_of_block (w := w) hk).trans (h.c j hj)⟩

/-- A list of acts as it lies in memory. -/
structure Acs9 (w : World) (ao : Option Addr) (c : Nat) (xs : List ActS) : Prop where
  le : xs.length ≤ c
  cm : c ≤ maxLen
  each : ∀ i (h : i < xs.length), ∃ b o, ao = some ⟨b, o, none⟩ ∧ AcAt9 w b (o + i * 21) xs[i]
theorem Acs9.kept {w w' : World} {ao : Option Addr} {c : Nat} {xs : List ActS} (h : Acs9 w ao c xs) (hk : ∀ b o, ao = some ⟨b, o, none⟩ → b < w.heap.size → w'.heap[b]? = w.heap[b]?) : Acs9 w' ao c xs :=
  ⟨h.le, h.cm, fun i hi => by
    obtain ⟨b, o, e, hv⟩ := h.each i hi
    exact ⟨b, o, e, hv.block (hk b o e hv.lt)⟩⟩
theorem Acs9.below {w w' : World} {C : Nat} {ao : Option Addr} {c : Nat} {xs : List ActS} (h : Acs9 w ao c xs) (hb : Below C w w') (hC : w.heap.size ≤ C) : Acs9 w' ao c xs :=
  h.kept fun b o _ hl => hb.block b (by omega)
theorem Acs9.later {w w' : World} {ao : Option Addr} {c : Nat} {xs : List ActS} (h : Acs9 w ao c xs) (hb : Below w.heap.size w w') : Acs9 w' ao c xs := h.below hb (Nat.le_refl _)
theorem Acs9.len {w : World} {ao : Option Addr} {c : Nat} {xs : List ActS} (h : Acs9 w ao c xs) : xs.length ≤ maxLen := Nat.le_trans h.le h.cm

/-- Acts that came in. -/
structure AcsV9 (w : World) (v : Value) (xs : List ActS) : Prop where
  ex : ∃ ao c, v = .slice ao xs.length c ∧ Acs9 w ao c xs

theorem Try.flatAct9 : flat9 Try.prog 6 35 = some [3, 3, 3, 9, 9, 9, 3, 3, 9, 3, 3, 3, 3, 3, 9, 4, 4, 3, 3, 3, 3] := by kernel_rfl
theorem Try.cellsAct9 : Try.prog.cellsOf 35 = 21 := by kernel_rfl

section
variable {H : Type} {enc : TypeId × Value → H} {w : World} {base : Nat} {spare : Nat → Bool} {held : Bool}

theorem leaf_int {u : Value} {m : Nat} {y : DataW H × List MemPlace} (h : DataW.trod enc Try.prog w base spare held m 3 [u] = some y) : ∃ k, u = .int .i64 k := by
  obtain ⟨k, e, _⟩ := DataW.trod_int Try.underlying3 h
  simp at e
  exact ⟨k, e⟩
theorem leaf_bool {u : Value} {m : Nat} {y : DataW H × List MemPlace} (h : DataW.trod enc Try.prog w base spare held m 4 [u] = some y) : ∃ k, u = .bool k := by
  obtain ⟨k, e, _⟩ := DataW.trod_bool Try.underlying4 h
  simp at e
  exact ⟨k, e⟩
theorem leaf_string {u : Value} {m : Nat} {y : DataW H × List MemPlace} (h : DataW.trod enc Try.prog w base spare held m 9 [u] = some y) : ∃ k, u = .string k := by
  obtain ⟨k, e, _⟩ := DataW.trod_string Try.underlying9 h
  simp at e
  exact ⟨k, e⟩

theorem act9_of {cs : List Value} (h : Leaves enc Try.prog w base spare held [3, 3, 3, 9, 9, 9, 3, 3, 9, 3, 3, 3, 3, 3, 9, 4, 4, 3, 3, 3, 3] cs) : ∃ z : ActS, cs = [.int .i64 z.kind, .int .i64 z.id, .int .i64 z.ep, .string z.key, .string z.f, .string z.t, .int .i64 z.itn.txn.id, .int .i64 z.itn.txn.ep, .string z.itn.txn.anchor, .int .i64 z.itn.txn.start.1, .int .i64 z.itn.txn.start.2, .int .i64 z.itn.seq, .int .i64 z.itn.at_.1, .int .i64 z.itn.at_.2, .string z.itn.val, .bool z.itn.gone, .bool z.commit, .int .i64 z.a0.1, .int .i64 z.a0.2, .int .i64 z.a1.1, .int .i64 z.a1.2] := by
  obtain ⟨hl, hc⟩ := h
  match cs, hl with
  | [c0, c1, c2, c3, c4, c5, c6, c7, c8, c9, c10, c11, c12, c13, c14, c15, c16, c17, c18, c19, c20], _ =>
    obtain ⟨u0, m0, y0, e0, t0⟩ := hc 0 _ rfl
    obtain ⟨u1, m1, y1, e1, t1⟩ := hc 1 _ rfl
    obtain ⟨u2, m2, y2, e2, t2⟩ := hc 2 _ rfl
    obtain ⟨u3, m3, y3, e3, t3⟩ := hc 3 _ rfl
    obtain ⟨u4, m4, y4, e4, t4⟩ := hc 4 _ rfl
    obtain ⟨u5, m5, y5, e5, t5⟩ := hc 5 _ rfl
    obtain ⟨u6, m6, y6, e6, t6⟩ := hc 6 _ rfl
    obtain ⟨u7, m7, y7, e7, t7⟩ := hc 7 _ rfl
    obtain ⟨u8, m8, y8, e8, t8⟩ := hc 8 _ rfl
    obtain ⟨u9, m9, y9, e9, t9⟩ := hc 9 _ rfl
    obtain ⟨u10, m10, y10, e10, t10⟩ := hc 10 _ rfl
    obtain ⟨u11, m11, y11, e11, t11⟩ := hc 11 _ rfl
    obtain ⟨u12, m12, y12, e12, t12⟩ := hc 12 _ rfl
    obtain ⟨u13, m13, y13, e13, t13⟩ := hc 13 _ rfl
    obtain ⟨u14, m14, y14, e14, t14⟩ := hc 14 _ rfl
    obtain ⟨u15, m15, y15, e15, t15⟩ := hc 15 _ rfl
    obtain ⟨u16, m16, y16, e16, t16⟩ := hc 16 _ rfl
    obtain ⟨u17, m17, y17, e17, t17⟩ := hc 17 _ rfl
    obtain ⟨u18, m18, y18, e18, t18⟩ := hc 18 _ rfl
    obtain ⟨u19, m19, y19, e19, t19⟩ := hc 19 _ rfl
    obtain ⟨u20, m20, y20, e20, t20⟩ := hc 20 _ rfl
    obtain ⟨a0, rfl⟩ := leaf_int t0
    obtain ⟨a1, rfl⟩ := leaf_int t1
    obtain ⟨a2, rfl⟩ := leaf_int t2
    obtain ⟨a3, rfl⟩ := leaf_string t3
    obtain ⟨a4, rfl⟩ := leaf_string t4
    obtain ⟨a5, rfl⟩ := leaf_string t5
    obtain ⟨a6, rfl⟩ := leaf_int t6
    obtain ⟨a7, rfl⟩ := leaf_int t7
    obtain ⟨a8, rfl⟩ := leaf_string t8
    obtain ⟨a9, rfl⟩ := leaf_int t9
    obtain ⟨a10, rfl⟩ := leaf_int t10
    obtain ⟨a11, rfl⟩ := leaf_int t11
    obtain ⟨a12, rfl⟩ := leaf_int t12
    obtain ⟨a13, rfl⟩ := leaf_int t13
    obtain ⟨a14, rfl⟩ := leaf_string t14
    obtain ⟨a15, rfl⟩ := leaf_bool t15
    obtain ⟨a16, rfl⟩ := leaf_bool t16
    obtain ⟨a17, rfl⟩ := leaf_int t17
    obtain ⟨a18, rfl⟩ := leaf_int t18
    obtain ⟨a19, rfl⟩ := leaf_int t19
    obtain ⟨a20, rfl⟩ := leaf_int t20
    simp at e0 e1 e2 e3 e4 e5 e6 e7 e8 e9 e10 e11 e12 e13 e14 e15 e16 e17 e18 e19 e20
    subst e0 e1 e2 e3 e4 e5 e6 e7 e8 e9 e10 e11 e12 e13 e14 e15 e16 e17 e18 e19 e20
    exact ⟨⟨a0, a1, a2, a3, a4, a5, ⟨⟨a6, a7, a8, (a9, a10)⟩, a11, (a12, a13), a14, a15⟩, a16, (a17, a18), (a19, a20)⟩, rfl⟩

theorem view_act9 {r : Reach} {b0 : Nat} {v : Value} {d : DataW H} {p : List MemPlace} (hv : Value.okWide Try.prog w r b0 35 v)
    (h : DataW.Trod enc Try.prog w base spare held 35 v d p) : ∃ z, AcV9 v z := by
  obtain ⟨cs, rfl, hsz⟩ := okWide_struct Try.underlying35 hv
  rw [Try.cellsAct9] at hsz
  obtain ⟨fuel, hf⟩ := h
  have hL := leaves_of9 6 _ _ fuel _ _ Try.flatAct9 hf (by simp [Value.cells, hsz])
  obtain ⟨a, ha⟩ := act9_of hL
  refine ⟨a, ⟨?_⟩⟩
  obtain ⟨l⟩ := cs
  simp [Value.cells] at ha
  rw [ha]

theorem view_acts9 {r : Reach} {b0 : Nat} {v : Value} {d : DataW H} {p : List MemPlace} (hv : Value.okWide Try.prog w r b0 22 v)
    (h : DataW.Trod enc Try.prog w base spare held 22 v d p) : ∃ z, AcsV9 w v z := by
  obtain ⟨fuel, hf⟩ := h
  obtain ⟨a, len, cap, rfl⟩ := okWide_slice Try.underlying22 hv
  rcases rows_of9 Try.underlying22 Try.flatAct9 hf with h0 | ⟨a', len', cap', e, h1, h2, hel⟩
  · injection h0 with e1 e2 e3
    subst e1 e2 e3
    exact ⟨[], ⟨none, 0, rfl, Nat.le_refl _, Nat.zero_le _, fun i hi => by cases hi⟩⟩
  · injection e with e1 e2 e3
    subst e1 e2 e3
    have inh : Inhabited ActS := ⟨⟨0, 0, 0, ⟨#[]⟩, ⟨#[]⟩, ⟨#[]⟩, Itn.zero, false, (0, 0), (0, 0)⟩⟩
    obtain ⟨f, hf⟩ := Deep.choose_lt (n := len) (p := fun i (z : ActS) => ∀ j, j < 21 → w.cell? (a'.add (i * 21 + j)) = [.int .i64 z.kind, .int .i64 z.id, .int .i64 z.ep, .string z.key, .string z.f, .string z.t, .int .i64 z.itn.txn.id, .int .i64 z.itn.txn.ep, .string z.itn.txn.anchor, .int .i64 z.itn.txn.start.1, .int .i64 z.itn.txn.start.2, .int .i64 z.itn.seq, .int .i64 z.itn.at_.1, .int .i64 z.itn.at_.2, .string z.itn.val, .bool z.itn.gone, .bool z.commit, .int .i64 z.a0.1, .int .i64 z.a0.2, .int .i64 z.a1.1, .int .i64 z.a1.2][j]?) (fun i hi => by
      obtain ⟨cs, hL, hcell⟩ := hel i hi
      obtain ⟨z, rfl⟩ := act9_of hL
      exact ⟨z, fun j hj => hcell j hj⟩)
    refine ⟨(List.range len).map f, ⟨some a', cap, by simp, by simpa using h1, h2, fun i hi => ?_⟩⟩
    have hi' : i < len := by simpa using hi
    have e : ((List.range len).map f)[i] = f i := by simp
    rw [e]
    obtain ⟨b, o, sp⟩ := a'
    have hsp : sp = none := by
      have c00 := hf 0 (by omega) 0 (by omega)
      have := World.cell?_spot c00
      simpa [Addr.add] using this
    subst hsp
    refine ⟨b, o, rfl, ⟨fun j hj => ?_⟩⟩
    have := hf i hi' j hj
    rw [Addr.add_lit, ← Nat.add_assoc] at this
    exact this
end

end Go.Proofs.Ytcdehnghggleoaa
