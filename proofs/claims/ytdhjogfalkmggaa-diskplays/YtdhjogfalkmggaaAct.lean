/-
  The laws' acts, and slices of slices of bytes: how they lie in memory when they come in. No law is proved here.
-/
import Derived.Test.YtdhjogfalkmggaaAlive
import Derived.Test.YtdhjogfalkmggaaFlat
import Derived.Deep.Slices
namespace Go.Proofs.Ytdhjogfalkmggaa
open Go.RowKit Go.ChangeShapes Go.WideShapes
set_option linter.unusedVariables false

/-- The value v is a slice of slices that lead to the lists ls in the world w. -/
def Bss (w : World) (v : Value) (ls : List (List UInt8)) : Prop :=
  ∃ ao c, v = .slice ao ls.length c ∧ ls.length ≤ c ∧ c ≤ maxLen ∧ (ao = none → ls = [] ∧ c = 0) ∧ ∀ a, ao = some a → ∀ (j : Nat) (x : List UInt8), ls[j]? = some x → ∃ u, w.cell? (a.add j) = some u ∧ Sl w u x

theorem Bss.below {B : Nat} {w w' : World} {v : Value} {ls : List (List UInt8)} (h : Bss w v ls) (hb : Below B w w') (hB : w.heap.size ≤ B) : Bss w' v ls := by
  obtain ⟨ao, c, rfl, h1, h2, h3, h4⟩ := h
  refine ⟨ao, c, rfl, h1, h2, h3, fun a ha j x hx => ?_⟩
  obtain ⟨u, hc, hs⟩ := h4 a ha j x hx
  refine ⟨u, ?_, hs.below hb hB⟩
  rw [hb.cell (p := a.add j) (Nat.lt_of_lt_of_le (World.block_lt_of_cell? w _ hc) hB)]
  exact hc

theorem Bss.drewN {w : World} {v : Value} {ls : List (List UInt8)} (h : Bss w v ls) (n : Nat) : Bss (w.drewN n) v ls := h

theorem Bss.addr {w : World} {ao : Option Addr} {n c : Nat} {ls : List (List UInt8)} (h : Bss w (.slice ao n c) ls) (hl : 0 < ls.length) : ∃ b o, ao = some ⟨b, o, none⟩ := by
  obtain ⟨bo, d, e, h1, h2, h3, h4⟩ := h
  injection e with e1 e2 e3
  subst e1
  cases ao with
  | none => have := (h3 rfl).1; subst this; simp at hl
  | some a =>
    obtain ⟨u, hc, _⟩ := h4 a rfl 0 ls[0] (List.getElem?_eq_getElem hl)
    rw [Addr.add_zero'] at hc
    have hs := World.cell?_spot hc
    obtain ⟨b, o, s⟩ := a
    simp at hs
    subst hs
    exact ⟨b, o, rfl⟩

theorem Bss.cell {w : World} {b o n c : Nat} {ls : List (List UInt8)} (h : Bss w (.slice (some ⟨b, o, none⟩) n c) ls) (j : Nat) (hj : j < ls.length) : ∃ ao d, w.cell? ⟨b, o + j, none⟩ = some (.slice ao ls[j].length d) ∧ Sl w (.slice ao ls[j].length d) ls[j] := by
  obtain ⟨bo, d, e, h1, h2, h3, h4⟩ := h
  injection e with e1 e2 e3
  subst e1
  obtain ⟨u, hc, hs⟩ := h4 _ rfl j ls[j] (List.getElem?_eq_getElem hj)
  rw [Addr.add_lit] at hc
  obtain ⟨ao, k, rfl, _⟩ := id hs
  exact ⟨ao, k, hc, hs⟩

/-- An act of a script. -/
structure ActV where
  kind : Int
  n : Int
  v : Value
  b : List UInt8
  torn : Bool
  cell : Bool

/-- An act's number and bytes are as they may be. -/
structure ActOk (w : World) (z : ActV) : Prop where
  n0 : -9223372036854775808 ≤ z.n
  n1 : z.n ≤ 9223372036854775807
  s : Sl w z.v z.b

theorem ActOk.later {w w' : World} {z : ActV} (h : ActOk w z) (hb : Below w.heap.size w w') : ActOk w' z := ⟨h.n0, h.n1, h.s.later hb⟩

/-- An act, by value. -/
structure ActIs (w : World) (v : Value) (z : ActV) : Prop where
  eq : v = .agg #[.int .i64 z.kind, .int .i64 z.n, z.v, .bool z.torn, .bool z.cell]
  ok : ActOk w z

/-- A list of acts as it lies in memory. -/
def Acts (w : World) (v : Value) (xs : List ActV) : Prop :=
  ∃ ao c, v = .slice ao xs.length c ∧ xs.length ≤ c ∧ c ≤ maxLen ∧
    ∀ i (h : i < xs.length), ActOk w xs[i] ∧ ∃ b o, ao = some ⟨b, o, none⟩ ∧ w.cell? ⟨b, o + i * 5, none⟩ = some (.int .i64 xs[i].kind) ∧
      w.cell? ⟨b, o + i * 5 + 1, none⟩ = some (.int .i64 xs[i].n) ∧ w.cell? ⟨b, o + i * 5 + 2, none⟩ = some xs[i].v ∧ w.cell? ⟨b, o + i * 5 + 3, none⟩ = some (.bool xs[i].torn) ∧ w.cell? ⟨b, o + i * 5 + 4, none⟩ = some (.bool xs[i].cell)

theorem Acts.below {w w' : World} {v : Value} {xs : List ActV} (h : Acts w v xs) (hb : Below w.heap.size w w') : Acts w' v xs := by
  obtain ⟨ao, c, rfl, h1, h2, h3⟩ := h
  refine ⟨ao, c, rfl, h1, h2, fun i hi => ?_⟩
  obtain ⟨hok, b, o, h6, c0, c1, c2, c3, c4⟩ := h3 i hi
  have hlt : b < w.heap.size := World.block_lt_of_cell? w _ c0
  exact ⟨hok.later hb, b, o, h6, (hb.cell (p := ⟨b, o + i * 5, none⟩) hlt).trans c0, (hb.cell (p := ⟨b, o + i * 5 + 1, none⟩) hlt).trans c1, (hb.cell (p := ⟨b, o + i * 5 + 2, none⟩) hlt).trans c2, (hb.cell (p := ⟨b, o + i * 5 + 3, none⟩) hlt).trans c3, (hb.cell (p := ⟨b, o + i * 5 + 4, none⟩) hlt).trans c4⟩

theorem Try.flatAct : flat Try.prog 4 30 = some [3, 3, 26, 4, 4] := by kernel_rfl
theorem Try.cellsAct : Try.prog.cellsOf 30 = 5 := by kernel_rfl

section
variable {H : Type} {enc : TypeId × Value → H} {w : World} {base : Nat} {spare : Nat → Bool} {held : Bool}

/-- A slice of bytes that came in. -/
theorem view_bytes {fuel : Nat} {a : Option Addr} {len cap : Nat} {x : DataW H × List MemPlace} (h : DataW.trod enc Try.prog w base spare held fuel 26 (Value.cells (.slice a len cap)).toList = some x) : ∃ l, Sl w (.slice a len cap) l := by
  rcases ChangeShapes.open_ints Try.underlying26 Try.underlying5 (by kernel_rfl) h with ⟨hcs, _⟩ | ⟨a', len', cap', zs, hcs, _, hl, hm, hz, _, hcell, hwz⟩
  · simp [Value.cells] at hcs
    obtain ⟨rfl, rfl, rfl⟩ := hcs
    exact ⟨[], Sl.nil w⟩
  · simp [Value.cells] at hcs
    obtain ⟨rfl, rfl, rfl⟩ := hcs
    have hlz : len ≤ zs.length := by rw [hz]; split <;> omega
    have hlen : ((zs.take len).map fun z => UInt8.ofNat z.toNat).length = len := by simp; omega
    refine ⟨(zs.take len).map fun z => UInt8.ofNat z.toNat, some a', cap, by rw [hlen], by rw [hlen]; exact hl, hm, fun e => (by cases e), fun a ha j u hu => ?_⟩
    cases ha
    rw [bc_get, List.getElem?_map] at hu
    have hj : j < len := by
      rcases Nat.lt_or_ge j len with h | h
      · exact h
      · rw [List.getElem?_take, if_neg (by omega)] at hu; cases hu
    rw [List.getElem?_take, if_pos hj, List.getElem?_eq_getElem (by omega)] at hu
    simp only [Option.map_some, Option.some.injEq] at hu
    rw [hcell j (by omega), ← hu, List.getD_eq_getElem?_getD, List.getElem?_eq_getElem (by omega)]
    have hb := bounds_u8 (hwz zs[j] (List.getElem_mem _))
    simp only [Option.getD_some]
    congr 2
    rw [UInt8.toNat_ofNat']
    omega

theorem view_one {fuel : Nat} {v : Value} {x : DataW H × List MemPlace} (h : DataW.trod enc Try.prog w base spare held fuel 26 [v] = some x) : ∃ l, Sl w v l := by
  have h' := h
  rcases ChangeShapes.open_ints Try.underlying26 Try.underlying5 (by kernel_rfl) h with ⟨hcs, _⟩ | ⟨a', len', cap', zs, hcs, _⟩
  · simp at hcs
    subst hcs
    exact ⟨[], Sl.nil w⟩
  · simp at hcs
    subst hcs
    exact view_bytes (a := some a') (len := len') (cap := cap') h'

theorem view_bss {fuel : Nat} {a : Option Addr} {len cap : Nat} {x : DataW H × List MemPlace} (h : DataW.trod enc Try.prog w base spare held fuel 40 (Value.cells (.slice a len cap)).toList = some x) : ∃ ls, Bss w (.slice a len cap) ls := by
  rcases Deep.open_slice1 Try.underlying40 (by kernel_rfl) h with ⟨hcs, _⟩ | ⟨a', len', cap', m, n, V, D, Pl, hcs, _, hl, hm, hmm, _, hel⟩
  · simp [Value.cells] at hcs
    obtain ⟨rfl, rfl, rfl⟩ := hcs
    exact ⟨[], none, 0, rfl, Nat.le_refl _, Nat.zero_le _, fun _ => ⟨rfl, rfl⟩, fun a ha => by cases ha⟩
  · simp [Value.cells] at hcs
    obtain ⟨rfl, rfl, rfl⟩ := hcs
    have hlm : len ≤ m := by rw [hmm]; split <;> omega
    obtain ⟨L, hL⟩ := Deep.choose_lt (α := List UInt8) (n := len) (p := fun i l => Sl w (V i) l) (fun i hi => view_one (hel i (by omega)).2)
    refine ⟨(List.range len).map L, some a', cap, by simp, by simpa using hl, hm, fun e => (by cases e), fun a ha j y hy => ?_⟩
    cases ha
    have hj : j < len := by
      have := (List.getElem?_eq_some_iff.1 hy).1
      simpa using this
    refine ⟨V j, (hel j (by omega)).1, ?_⟩
    have e : y = L j := by
      rw [List.getElem?_map, List.getElem?_range hj] at hy
      simpa using hy.symm
    rw [e]
    exact hL j hj

theorem act_of {cs : List Value} (h : Leaves enc Try.prog w base spare held [3, 3, 26, 4, 4] cs) :
    ∃ a : ActV, cs = [.int .i64 a.kind, .int .i64 a.n, a.v, .bool a.torn, .bool a.cell] ∧ ActOk w a := by
  obtain ⟨hl, hc⟩ := h
  match cs, hl with
  | [c0, c1, c2, c3, c4], _ =>
    obtain ⟨u0, m0, y0, e0, t0⟩ := hc 0 _ rfl
    obtain ⟨u1, m1, y1, e1, t1⟩ := hc 1 _ rfl
    obtain ⟨u2, m2, y2, e2, t2⟩ := hc 2 _ rfl
    obtain ⟨u3, m3, y3, e3, t3⟩ := hc 3 _ rfl
    obtain ⟨u4, m4, y4, e4, t4⟩ := hc 4 _ rfl
    obtain ⟨k, ek, _, _⟩ := DataW.trod_int Try.underlying3 t0
    obtain ⟨n, en, _, wn⟩ := DataW.trod_int Try.underlying3 t1
    obtain ⟨b, hb⟩ := view_one t2
    obtain ⟨f, ef, _⟩ := DataW.trod_bool Try.underlying4 t3
    obtain ⟨g, eg, _⟩ := DataW.trod_bool Try.underlying4 t4
    simp at e0 e1 e2 e3 e4 ek en ef eg
    subst e0 e1 e2 e3 e4 ek en ef eg
    exact ⟨⟨k, n, _, b, f, g⟩, rfl, (bounds_i64 wn).1, (bounds_i64 wn).2, hb⟩

theorem view_act {r : Reach} {b0 : Nat} {v : Value} {d : DataW H} {p : List MemPlace} (hv : Value.okWide Try.prog w r b0 30 v)
    (h : DataW.Trod enc Try.prog w base spare held 30 v d p) : ∃ z, ActIs w v z := by
  obtain ⟨cs, rfl, hsz⟩ := okWide_struct Try.underlying30 hv
  rw [Try.cellsAct] at hsz
  obtain ⟨fuel, hf⟩ := h
  have hL := leaves_of 4 _ _ fuel _ _ Try.flatAct hf (by simp [Value.cells, hsz])
  obtain ⟨a, ha, h0⟩ := act_of hL
  refine ⟨a, ?_, h0⟩
  obtain ⟨l⟩ := cs
  simp [Value.cells] at ha
  rw [ha]

theorem view_acts {fuel : Nat} {a : Option Addr} {len cap : Nat} {x : DataW H × List MemPlace} (h : DataW.trod enc Try.prog w base spare held fuel 22 (Value.cells (.slice a len cap)).toList = some x) : ∃ l, Acts w (.slice a len cap) l := by
  rcases rows_of Try.underlying22 Try.flatAct h with h0 | ⟨a', len', cap', e, h1, h2, hel⟩
  · injection h0 with e1 e2 e3
    subst e1 e2 e3
    exact ⟨[], none, 0, rfl, Nat.le_refl _, Nat.zero_le _, fun i hi => by cases hi⟩
  · injection e with e1 e2 e3
    subst e1 e2 e3
    have inh : Inhabited ActV := ⟨⟨0, 0, .slice none 0 0, [], false, false⟩⟩
    obtain ⟨f, hf⟩ := Deep.choose_lt (n := len) (p := fun i (b : ActV) => ActOk w b ∧ w.cell? (a'.add (i * 5)) = some (.int .i64 b.kind) ∧
        w.cell? (a'.add (i * 5 + 1)) = some (.int .i64 b.n) ∧ w.cell? (a'.add (i * 5 + 2)) = some b.v ∧ w.cell? (a'.add (i * 5 + 3)) = some (.bool b.torn) ∧ w.cell? (a'.add (i * 5 + 4)) = some (.bool b.cell)) (fun i hi => by
      obtain ⟨cs, hL, hcell⟩ := hel i hi
      obtain ⟨b, rfl, hk⟩ := act_of hL
      exact ⟨b, hk, hcell 0 (by simp), hcell 1 (by simp), hcell 2 (by simp), hcell 3 (by simp), hcell 4 (by simp)⟩)
    refine ⟨(List.range len).map f, some a', cap, by simp, by simpa using h1, h2, fun i hi => ?_⟩
    have hi' : i < len := by simpa using hi
    obtain ⟨hk, c0, c1, c2, c3, c4⟩ := hf i hi'
    have e : ((List.range len).map f)[i] = f i := by simp
    rw [e]
    obtain ⟨b, o, sp⟩ := a'
    have hsp : sp = none := by
      have h00 := (hf 0 (by omega)).2.1
      have := World.cell?_spot h00
      simpa [Addr.add] using this
    subst hsp
    rw [Addr.add_lit] at c0 c1 c2 c3 c4
    exact ⟨hk, b, o, rfl, c0, c1, c2, c3, c4⟩
end

end Go.Proofs.Ytdhjogfalkmggaa
