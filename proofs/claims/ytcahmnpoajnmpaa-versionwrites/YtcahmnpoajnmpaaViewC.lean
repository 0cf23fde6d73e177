/-
  Chains that came in. No law is proved here.
-/
import Derived.Test.YtcahmnpoajnmpaaVd
import Derived.Test.YtcahmnpoajnmpaaFlat
import Derived.ProofKit
import Derived.OpenShut
import Derived.ShutString
import Derived.SizedLaws
namespace Go.Proofs.Ytcahmnpoajnmpaa
open Go.RowKit Go.ChangeShapes Go.WideShapes
set_option linter.unusedVariables false

/-- A chain that came in. -/
structure ChV (w : World) (v : Value) (z : Chn) : Prop where
  ex : ∃ ao c, v = (.agg #[.slice ao z.vs.length c, .bool z.opn, .int .i64 z.itn.txn.id, .int .i64 z.itn.txn.ep, .string z.itn.txn.anchor, .int .i64 z.itn.txn.start.1, .int .i64 z.itn.txn.start.2, .int .i64 z.itn.seq, .int .i64 z.itn.at_.1, .int .i64 z.itn.at_.2, .string z.itn.val, .bool z.itn.gone]) ∧ Vs w ao c z.vs
  lim : z.vs.length ≤ 2932031007400

theorem Try.flatVer : flat Try.prog 4 37 = some [3, 3, 9, 4, 3] := by kernel_rfl
theorem Try.flatChn : flat Try.prog 6 30 = some [22, 4, 3, 3, 9, 3, 3, 3, 3, 3, 9, 4] := by kernel_rfl
theorem Try.cellsChn : Try.prog.cellsOf 30 = 12 := by kernel_rfl
theorem Try.bytesVer : Try.prog.bytesOf 37 = 48 := by kernel_rfl

section
variable {H : Type} {enc : TypeId × Value → H} {w : World} {base : Nat} {spare : Nat → Bool} {held : Bool}

theorem leaf_int {u : Value} {m : Nat} {y : DataW H × List MemPlace} (h : DataW.trod enc Try.prog w base spare held m 3 [u] = some y) : ∃ k, u = .int .i64 k := by
  obtain ⟨k, e, _⟩ := DataW.trod_int Try.underlying3 h
  simp at e
  exact ⟨k, e⟩
theorem leaf_bool {u : Value} {m : Nat} {y : DataW H × List MemPlace} (h : DataW.trod enc Try.prog w base spare held m 4 [u] = some y) : ∃ k, u = .bool k := by
  obtain ⟨k, e, _⟩ := DataW.trod_bool Try.underlying4 h
  simp at e
  exact ⟨k, e⟩
theorem leaf_string {u : Value} {m : Nat} {y : DataW H × List MemPlace} (h : DataW.trod enc Try.prog w base spare held m 9 [u] = some y) : ∃ k, u = .string k := by
  obtain ⟨k, e, _⟩ := DataW.trod_string Try.underlying9 h
  simp at e
  exact ⟨k, e⟩

theorem ver_of {cs : List Value} (h : Leaves enc Try.prog w base spare held [3, 3, 9, 4, 3] cs) : ∃ v : Ver, cs = [.int .i64 v.at_.1, .int .i64 v.at_.2, .string v.val, .bool v.gone, .int .i64 v.by_] := by
  obtain ⟨hl, hc⟩ := h
  match cs, hl with
  | [c0, c1, c2, c3, c4], _ =>
    obtain ⟨u0, m0, y0, e0, t0⟩ := hc 0 _ rfl
    obtain ⟨u1, m1, y1, e1, t1⟩ := hc 1 _ rfl
    obtain ⟨u2, m2, y2, e2, t2⟩ := hc 2 _ rfl
    obtain ⟨u3, m3, y3, e3, t3⟩ := hc 3 _ rfl
    obtain ⟨u4, m4, y4, e4, t4⟩ := hc 4 _ rfl
    obtain ⟨a, rfl⟩ := leaf_int t0
    obtain ⟨b, rfl⟩ := leaf_int t1
    obtain ⟨c, rfl⟩ := leaf_string t2
    obtain ⟨d, rfl⟩ := leaf_bool t3
    obtain ⟨e, rfl⟩ := leaf_int t4
    simp at e0 e1 e2 e3 e4
    subst e0 e1 e2 e3 e4
    exact ⟨⟨(a, b), c, d, e⟩, rfl⟩

theorem view_vs {u : Value} {m : Nat} {y : DataW H × List MemPlace} (h : DataW.trod enc Try.prog w base spare held m 22 [u] = some y) : ∃ ao c vs, u = .slice ao vs.length c ∧ Vs w ao c vs := by
  rcases rows_of Try.underlying22 Try.flatVer h with rfl | ⟨a, len, cap, rfl, h1, h2, hel⟩
  · exact ⟨none, 0, [], rfl, Vs.zero w⟩
  · have inh : Inhabited Ver := ⟨Ver.zero⟩
    obtain ⟨f, hf⟩ := Deep.choose_lt (n := len) (p := fun i (v : Ver) => ∀ j, j < 5 → w.cell? (a.add (i * 5 + j)) = [.int .i64 v.at_.1, .int .i64 v.at_.2, .string v.val, .bool v.gone, .int .i64 v.by_][j]?) (fun i hi => by
      obtain ⟨cs, hL, hcell⟩ := hel i hi
      obtain ⟨v, rfl⟩ := ver_of hL
      exact ⟨v, fun j hj => hcell j hj⟩)
    refine ⟨some a, cap, (List.range len).map f, by simp, by simpa using h1, h2, fun e => (by cases e), fun i hi => ?_⟩
    have hi' : i < len := by simpa using hi
    have c0 := hf i hi' 0 (by omega)
    have c1 := hf i hi' 1 (by omega)
    have c2 := hf i hi' 2 (by omega)
    have c3 := hf i hi' 3 (by omega)
    have c4 := hf i hi' 4 (by omega)
    have e : ((List.range len).map f)[i] = f i := by simp
    rw [e]
    obtain ⟨b, o, sp⟩ := a
    have hsp : sp = none := by
      have c00 := hf 0 (by omega) 0 (by omega)
      have := World.cell?_spot c00
      simpa [Addr.add] using this
    subst hsp
    rw [Addr.add_lit] at c0 c1 c2 c3 c4
    exact ⟨b, o, rfl, c0, c1, c2, c3, c4⟩

theorem view_ch {r : Reach} {b0 : Nat} {v : Value} {d : DataW H} {p : List MemPlace} (hv : Value.okWide Try.prog w r b0 30 v)
    (h : DataW.Trod enc Try.prog w base spare held 30 v d p) (hw : ∀ n ∈ d.weights Try.prog 30, n ≤ reachBytes) : ∃ z, ChV w v z := by
  obtain ⟨cs, rfl, hsz⟩ := okWide_struct Try.underlying30 hv
  rw [Try.cellsChn] at hsz
  obtain ⟨fuel, hf⟩ := h
  obtain ⟨hl, hc⟩ := leaves_of 6 _ _ fuel _ _ Try.flatChn hf (by simp [Value.cells, hsz])
  obtain ⟨xs, n, _, hx, _, hxl, hfs⟩ := DataW.trod_struct Try.underlying30 hf
  have h0 := hfs 0 _ rfl
  obtain ⟨l⟩ := cs
  match l, hsz with
  | [q0, q1, q2, q3, q4, q5, q6, q7, q8, q9, q10, q11], _ =>
    obtain ⟨u0, m0, y0, e0, t0⟩ := hc 0 _ rfl
    obtain ⟨u1, m1, y1, e1, t1⟩ := hc 1 _ rfl
    obtain ⟨u2, m2, y2, e2, t2⟩ := hc 2 _ rfl
    obtain ⟨u3, m3, y3, e3, t3⟩ := hc 3 _ rfl
    obtain ⟨u4, m4, y4, e4, t4⟩ := hc 4 _ rfl
    obtain ⟨u5, m5, y5, e5, t5⟩ := hc 5 _ rfl
    obtain ⟨u6, m6, y6, e6, t6⟩ := hc 6 _ rfl
    obtain ⟨u7, m7, y7, e7, t7⟩ := hc 7 _ rfl
    obtain ⟨u8, m8, y8, e8, t8⟩ := hc 8 _ rfl
    obtain ⟨u9, m9, y9, e9, t9⟩ := hc 9 _ rfl
    obtain ⟨u10, m10, y10, e10, t10⟩ := hc 10 _ rfl
    obtain ⟨u11, m11, y11, e11, t11⟩ := hc 11 _ rfl
    obtain ⟨ao, c, vs, rfl, hvs⟩ := view_vs t0
    obtain ⟨a1, rfl⟩ := leaf_bool t1
    obtain ⟨a2, rfl⟩ := leaf_int t2
    obtain ⟨a3, rfl⟩ := leaf_int t3
    obtain ⟨a4, rfl⟩ := leaf_string t4
    obtain ⟨a5, rfl⟩ := leaf_int t5
    obtain ⟨a6, rfl⟩ := leaf_int t6
    obtain ⟨a7, rfl⟩ := leaf_int t7
    obtain ⟨a8, rfl⟩ := leaf_int t8
    obtain ⟨a9, rfl⟩ := leaf_int t9
    obtain ⟨a10, rfl⟩ := leaf_string t10
    obtain ⟨a11, rfl⟩ := leaf_bool t11
    simp [Value.cells] at e0 e1 e2 e3 e4 e5 e6 e7 e8 e9 e10 e11
    subst e0 e1 e2 e3 e4 e5 e6 e7 e8 e9 e10 e11
    refine ⟨⟨vs, a1, ⟨⟨a2, a3, a4, (a5, a6)⟩, a7, (a8, a9), a10, a11⟩⟩, ⟨⟨ao, c, rfl, hvs⟩, ?_⟩⟩
    show vs.length ≤ 2932031007400
    have hc0 : DataW.trod enc Try.prog w base spare held n 22 [.slice ao vs.length c] = xs[0]? := h0
    have hlt : 0 < xs.length := by rw [hxl]; decide
    rw [List.getElem?_eq_getElem hlt] at hc0
    rcases DataW.trod_slice Try.underlying22 hc0 with ⟨e, _⟩ | ⟨a, len, cap, elems, rest, k, _, e, hxe, _, _, _, hlen, _⟩
    · simp at e
      rw [e.2.1]
      decide
    · simp at e
      obtain ⟨rfl, rfl, rfl⟩ := e
      have hd : d = .agg (xs.map (·.1)) := (Prod.mk.injEq _ _ _ _ ▸ hx).1
      subst hd
      have hmem : (elems.length + rest.length) * Try.prog.bytesOf 37 ∈ (DataW.agg (xs.map (·.1))).weights Try.prog 30 := by
        unfold DataW.weights
        rw [Try.underlying30]
        refine DataW.weights_mem_each (j := 0) (t := 22) (d := .slice (elems.map (·.1)) (rest.map (·.1))) rfl ?_ _ ?_
        · rw [List.getElem?_map, List.getElem?_eq_getElem hlt, hxe]; rfl
        · unfold DataW.weights
          rw [Try.underlying22]
          simp
      have := hw _ hmem
      rw [Try.bytesVer] at this
      simp only [reachBytes] at this
      omega
end

end Go.Proofs.Ytcahmnpoajnmpaa
