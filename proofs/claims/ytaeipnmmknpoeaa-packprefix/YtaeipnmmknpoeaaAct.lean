/-
  The laws' acts: what put and bytes answer; how a list of acts lies in memory.
-/
import Derived.Test.YtaeipnmmknpoeaaAlive
import Derived.Test.YtaeipnmmknpoeaaFlat
namespace Go.Proofs.Ytaeipnmmknpoeaa
open Go.RowKit
set_option linter.unusedVariables false

/-- An act of a script. -/
structure ActV where
  kind : Int
  n : Int
  f : Bool
  s : ByteArray

/-- Its bytes, as the document says. -/
def ActV.bytes (a : ActV) : List UInt8 := if a.kind = 1 then enc a.n.toNat else if a.kind = 2 then encF a.f else encT a.s

def ActV.val (a : ActV) : Value := .agg #[.int .i64 a.kind, .int .i64 a.n, .bool a.f, .string a.s]

theorem ActV.bytes_len (a : ActV) (hn : a.n ≤ 9223372036854775807) (hs : a.s.size ≤ 400) : a.bytes.length ≤ 409 := by
  unfold ActV.bytes
  split
  · have := enc_len9 (v := a.n.toNat) (by omega); omega
  · split
    · cases a.f <;> simp [encF]
    · have := enc_len9 (v := a.s.size) (by omega)
      unfold encT
      rw [List.length_append, str_len]
      omega

set_option maxRecDepth 100000 in
set_option maxHeartbeats 400000 in
theorem put_any (a : ActV) (v : Value) (l : List UInt8) (w : World) (hs : Sl w v l) (hl : l.length ≤ 1099511627776) (hn : a.n ≤ 9223372036854775807) (hss : a.s.size ≤ 400) :
    Calls Try.prog 10 #[.agg #[.int .i64 a.kind, .int .i64 a.n, .bool a.f, .string a.s], v] w fun e w' => ∃ r, e = .returned r ∧ Own w.heap.size w' r (l ++ a.bytes) ∧ Below w.heap.size w w' := by
  obtain ⟨kind, n, f, s⟩ := a
  simp only at hn hss
  have hb0 : ∀ o, Below w.heap.size w (w.alloc o) := fun o => (Below.refl _ _).alloc (Nat.le_refl _) _
  have hv : ∃ ao n c, v = .slice ao n c := by obtain ⟨ao, c, rfl, _⟩ := hs; exact ⟨_, _, _, rfl⟩
  obtain ⟨ao, m, c, rfl⟩ := hv
  have Hs := hide (fun o => hs.below (hb0 o) (Nat.le_refl _))
  have Hb := hide hb0
  clear hs hb0
  unfold ActV.bytes
  simp only
  by_cases h1 : kind = 1
  · subst h1
    rw [if_pos rfl]
    go_enter Try.func10, Try.ntmps10
    go_wp2_with fail
    refine (number_any _ l n _ (unhide Hs _) hl hn).mono ?_
    rintro e w1 ⟨r1, rfl, ho1, hb1⟩
    go_wp2
    go_ret
    exact ⟨_, rfl, ho1.mono (by simp), (unhide Hb _).trans (hb1.mono (by simp))⟩
  · have k1 : (kind == 1) = false := by simpa using h1
    rw [if_neg h1]
    by_cases h2 : kind = 2
    · subst h2
      rw [if_pos rfl]
      go_enter Try.func10, Try.ntmps10
      go_wp2_with fail
      refine (flag_any _ l f _ (unhide Hs _) hl).mono ?_
      rintro e w1 ⟨r1, rfl, ho1, hb1⟩
      go_wp2
      go_ret
      exact ⟨_, rfl, ho1.mono (by simp), (unhide Hb _).trans (hb1.mono (by simp))⟩
    · have k2 : (kind == 2) = false := by simpa using h2
      rw [if_neg h2]
      go_enter Try.func10, Try.ntmps10
      go_wp2_with fail
      refine (text_any _ l s _ (unhide Hs _) hl (by omega)).mono ?_
      rintro e w1 ⟨r1, rfl, ho1, hb1⟩
      go_wp2
      go_ret
      exact ⟨_, rfl, ho1.mono (by simp), (unhide Hb _).trans (hb1.mono (by simp))⟩

/-- A list of acts as it lies in memory. -/
def Acts (w : World) (v : Value) (xs : List ActV) : Prop :=
  ∃ ao c, v = .slice ao xs.length c ∧ xs.length ≤ c ∧ c ≤ maxLen ∧
    ∀ i (h : i < xs.length), xs[i].n ≤ 9223372036854775807 ∧ xs[i].s.size ≤ maxLen ∧ ∃ b o, ao = some ⟨b, o, none⟩ ∧ w.cell? ⟨b, o + i * 4, none⟩ = some (.int .i64 xs[i].kind) ∧
      w.cell? ⟨b, o + i * 4 + 1, none⟩ = some (.int .i64 xs[i].n) ∧ w.cell? ⟨b, o + i * 4 + 2, none⟩ = some (.bool xs[i].f) ∧ w.cell? ⟨b, o + i * 4 + 3, none⟩ = some (.string xs[i].s)

theorem Acts.below {B : Nat} {w w' : World} {v : Value} {xs : List ActV} (h : Acts w v xs) (hb : Below B w w') (hB : w.heap.size ≤ B) : Acts w' v xs := by
  obtain ⟨ao, c, rfl, h1, h2, h3⟩ := h
  refine ⟨ao, c, rfl, h1, h2, fun i hi => ?_⟩
  obtain ⟨h4, h5, b, o, h6, c0, c1, c2, c3⟩ := h3 i hi
  have hlt : b < B := Nat.lt_of_lt_of_le (World.block_lt_of_cell? w _ c0) hB
  exact ⟨h4, h5, b, o, h6, (hb.cell (p := ⟨b, o + i * 4, none⟩) hlt).trans c0, (hb.cell (p := ⟨b, o + i * 4 + 1, none⟩) hlt).trans c1, (hb.cell (p := ⟨b, o + i * 4 + 2, none⟩) hlt).trans c2, (hb.cell (p := ⟨b, o + i * 4 + 3, none⟩) hlt).trans c3⟩

theorem Try.flatAct : flat Try.prog 4 25 = some [3, 3, 4, 9] := by kernel_rfl

section
variable {H : Type} {enc : TypeId × Value → H} {w : World} {base : Nat} {spare : Nat → Bool} {held : Bool}

theorem act_of {cs : List Value} (h : Leaves enc Try.prog w base spare held [3, 3, 4, 9] cs) :
    ∃ a : ActV, cs = [.int .i64 a.kind, .int .i64 a.n, .bool a.f, .string a.s] ∧ a.n ≤ 9223372036854775807 ∧ a.s.size ≤ maxLen := by
  obtain ⟨hl, hc⟩ := h
  match cs, hl with
  | [c0, c1, c2, c3], _ =>
    obtain ⟨u0, m0, y0, e0, t0⟩ := hc 0 _ rfl
    obtain ⟨u1, m1, y1, e1, t1⟩ := hc 1 _ rfl
    obtain ⟨u2, m2, y2, e2, t2⟩ := hc 2 _ rfl
    obtain ⟨u3, m3, y3, e3, t3⟩ := hc 3 _ rfl
    obtain ⟨k, ek, _, _⟩ := DataW.trod_int Try.underlying3 t0
    obtain ⟨n, en, _, wn⟩ := DataW.trod_int Try.underlying3 t1
    obtain ⟨f, ef, _⟩ := DataW.trod_bool Try.underlying4 t2
    obtain ⟨s, es, _, ws⟩ := DataW.trod_string Try.underlying9 t3
    simp at e0 e1 e2 e3 ek en ef es
    subst e0 e1 e2 e3 ek en ef es
    exact ⟨⟨k, n, f, s⟩, rfl, (bounds_i64 wn).2, ws⟩

theorem view_acts {fuel : Nat} {a : Option Addr} {len cap : Nat} {x : DataW H × List MemPlace} (h : DataW.trod enc Try.prog w base spare held fuel 22 (Value.cells (.slice a len cap)).toList = some x) : ∃ l, Acts w (.slice a len cap) l := by
  rcases rows_of Try.underlying22 Try.flatAct h with h0 | ⟨a', len', cap', e, h1, h2, hel⟩
  · injection h0 with e1 e2 e3
    subst e1 e2 e3
    exact ⟨[], none, 0, rfl, Nat.le_refl _, Nat.zero_le _, fun i hi => by cases hi⟩
  · injection e with e1 e2 e3
    subst e1 e2 e3
    have inh : Inhabited ActV := ⟨⟨0, 0, false, ByteArray.empty⟩⟩
    obtain ⟨f, hf⟩ := Deep.choose_lt (n := len) (p := fun i (b : ActV) => b.n ≤ 9223372036854775807 ∧ b.s.size ≤ maxLen ∧ w.cell? (a'.add (i * 4)) = some (.int .i64 b.kind) ∧
        w.cell? (a'.add (i * 4 + 1)) = some (.int .i64 b.n) ∧ w.cell? (a'.add (i * 4 + 2)) = some (.bool b.f) ∧ w.cell? (a'.add (i * 4 + 3)) = some (.string b.s)) (fun i hi => by
      obtain ⟨cs, hL, hcell⟩ := hel i hi
      obtain ⟨b, rfl, hn, hs⟩ := act_of hL
      exact ⟨b, hn, hs, hcell 0 (by simp), hcell 1 (by simp), hcell 2 (by simp), hcell 3 (by simp)⟩)
    refine ⟨(List.range len).map f, some a', cap, by simp, by simpa using h1, h2, fun i hi => ?_⟩
    have hi' : i < len := by simpa using hi
    obtain ⟨hn, hs, c0, c1, c2, c3⟩ := hf i hi'
    have e : ((List.range len).map f)[i] = f i := by simp
    rw [e]
    obtain ⟨b, o, sp⟩ := a'
    have e1 : ∀ j, (⟨b, o, sp⟩ : Addr).add (j + 1) = ⟨b, o + (j + 1), none⟩ := fun j => by simp [Addr.add]
    have hsp : sp = none := by
      by_cases h0 : i = 0
      · subst h0
        have := World.cell?_spot c0
        simpa [Addr.add] using this
      · have h00 := (hf 0 (by omega)).2.2.1
        have := World.cell?_spot h00
        simpa [Addr.add] using this
    subst hsp
    rw [Addr.add_lit] at c0 c1 c2 c3
    exact ⟨hn, hs, b, o, rfl, c0, c1, c2, c3⟩

/-- A slice of bytes that came in. -/
theorem view_bytes {fuel : Nat} {a : Option Addr} {len cap : Nat} {x : DataW H × List MemPlace} (h : DataW.trod enc Try.prog w base spare held fuel 23 (Value.cells (.slice a len cap)).toList = some x) : ∃ l, Sl w (.slice a len cap) l := by
  rcases ChangeShapes.open_ints Try.underlying23 Try.underlying5 (by kernel_rfl) h with ⟨hcs, _⟩ | ⟨a', len', cap', zs, hcs, _, hl, hm, hz, _, hcell, hwz⟩
  · simp [Value.cells] at hcs
    obtain ⟨rfl, rfl, rfl⟩ := hcs
    exact ⟨[], Sl.nil w⟩
  · simp [Value.cells] at hcs
    obtain ⟨rfl, rfl, rfl⟩ := hcs
    have hlz : len ≤ zs.length := by rw [hz]; split <;> omega
    have hlen : ((zs.take len).map fun z => UInt8.ofNat z.toNat).length = len := by simp; omega
    refine ⟨(zs.take len).map fun z => UInt8.ofNat z.toNat, some a', cap, by rw [hlen], by rw [hlen]; exact hl, hm, fun e => (by cases e), fun a ha j u hu => ?_⟩
    cases ha
    rw [bc_get, List.getElem?_map] at hu
    have hj : j < len := by
      rcases Nat.lt_or_ge j len with h | h
      · exact h
      · rw [List.getElem?_take, if_neg (by omega)] at hu; cases hu
    rw [List.getElem?_take, if_pos hj, List.getElem?_eq_getElem (by omega)] at hu
    simp only [Option.map_some, Option.some.injEq] at hu
    rw [hcell j (by omega), ← hu, List.getD_eq_getElem?_getD, List.getElem?_eq_getElem (by omega)]
    have hb := bounds_u8 (hwz zs[j] (List.getElem_mem _))
    simp only [Option.getD_some]
    congr 2
    rw [UInt8.toNat_ofNat']
    omega

end

end Go.Proofs.Ytaeipnmmknpoeaa
