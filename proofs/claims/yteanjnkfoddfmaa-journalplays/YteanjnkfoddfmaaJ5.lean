/-
  The live question of layer 7's laws: it is answered. No law is proved here.
  How a struct's cells are read: a struct of plain fields, field by field; a slice of such structs, element by element. Of no program.
  The laws' acts, and slices of slices of bytes: how they lie in memory when they come in. No law is proved here.
  Contracts of the calls on no journal. No law is proved here.
-/
import Derived.Test.YteanjnkfoddfmaaJ4
import Derived.Lib.SlBytesConst
import Derived.ProofKit
import Derived.OpenShut
import Derived.Deep.Slices
namespace Go.Proofs.Yteanjnkfoddfmaa
open Go.RowKit
set_option linter.unusedVariables false

theorem Ch.small (c : Ch) (h : c.Good) (hs : c.txt.length ≤ 200) : 8 + c.enc.length ≤ 218 := by
  have := c.enc_len h
  omega

theorem opens_nil : Opens [] (0, [], []) 0 := Made.nil.opens

theorem sl_mark (w : World) (cs : Array Value) (l : List UInt8) (h : cs.toList = bc l) (hl : l.length ≤ maxLen) (fr : Nat × Nat) : Sl (w.alloc (.cells cs 5 fr)) (.slice (some ⟨w.heap.size, 0, none⟩) l.length l.length) l := by
  refine ⟨_, _, rfl, Nat.le_refl _, hl, fun e => (by cases e), fun a ha j u hu => ?_⟩
  cases ha
  rw [Addr.add_lit, Nat.zero_add, World.cell?_alloc_mark, ← hu, ← h]
  simp

theorem Fr.bl {S : Nat → Prop} {w w1 w2 : World} (h : Below w.heap.size w w1) (hf : Fr S w1 w2) (hS : ∀ k, S k → w.heap.size ≤ k) : Below w.heap.size w w2 := h.trans (hf.below hS h.size)

def a1 : List UInt8 := [111, 110, 101]
def a2 : List UInt8 := [116, 119, 111]
def a3 : List UInt8 := [98, 97, 115, 101]
def aF : List UInt8 := (([] ++ fr (Ch.add a1).enc) ++ fr (Ch.add a2).enc) ++ fr (Ch.lay 1 a3).enc

theorem aMade : Made aF (1, a3, [a2]) :=
  ((Made.nil.snoc (c := .add a1) ⟨Nat.zero_le _, by decide⟩ rfl).snoc (c := .add a2) ⟨Nat.zero_le _, by decide⟩ rfl).snoc (c := .lay 1 a3) ⟨by decide, by decide⟩ rfl

theorem aSmall : aF.length ≤ 1000 := by
  have h1 := (Ch.add a1).small ⟨Nat.zero_le _, by decide⟩ (by decide)
  have h2 := (Ch.add a2).small ⟨Nat.zero_le _, by decide⟩ (by decide)
  have h3 := (Ch.lay 1 a3).small ⟨by decide, by decide⟩ (by decide)
  unfold aF
  rw [List.length_append, List.length_append, List.length_append, fr_length, fr_length, fr_length]
  simp only [List.length_nil]
  omega

set_option maxRecDepth 100000 in
set_option maxHeartbeats 4000000 in
theorem alive_any (w : World) : Calls Try.prog 29 #[] w fun e w' => e = .returned (.bool true) ∧ Below w.heap.size w w' := by
  have hS : ∀ {W : World}, Below w.heap.size w W → ∀ k, W.heap.size ≤ k → (fun k => w.heap.size ≤ k) k := fun hb k hk => Nat.le_trans hb.size hk
  have hs1 := (Ch.add a1).small ⟨Nat.zero_le _, by decide⟩ (by decide)
  have hs2 := (Ch.add a2).small ⟨Nat.zero_le _, by decide⟩ (by decide)
  have hs3 := (Ch.lay 1 a3).small ⟨by decide, by decide⟩ (by decide)
  have l1 := fun y : World => sl_mark y #[.int .u8 111, .int .u8 110, .int .u8 101] a1 rfl (by decide) (3, 4)
  have l2 := fun y : World => sl_mark y #[.int .u8 116, .int .u8 119, .int .u8 111] a2 rfl (by decide) (3, 4)
  have l3 := fun y : World => sl_mark y #[.int .u8 98, .int .u8 97, .int .u8 115, .int .u8 101] a3 rfl (by decide) (4, 5)
  have q1 := fun y : World => Lib.run_convert_bytes_const (P := Try.prog) y 26 5 #[.int .u8 111, .int .u8 110, .int .u8 101] 3 3 Try.underlying26 Try.underlying5
  have q2 := fun y : World => Lib.run_convert_bytes_const (P := Try.prog) y 26 5 #[.int .u8 116, .int .u8 119, .int .u8 111] 3 3 Try.underlying26 Try.underlying5
  have q3 := fun y : World => Lib.run_convert_bytes_const (P := Try.prog) y 26 5 #[.int .u8 98, .int .u8 97, .int .u8 115, .int .u8 101] 4 4 Try.underlying26 Try.underlying5
  have L1 := hide l1
  have L2 := hide l2
  have L3 := hide l3
  clear l1 l2 l3
  go_enter Try.func29, Try.ntmps29
  go_wp2_with fail
  refine (new_any w).mono ?_
  rintro e w1 ⟨rfl, rfl⟩
  have hb1 : Below w.heap.size w (w.alloc (.cells #[.slice none 0 0, .slice none 0 0, .slice none 0 0, .slice none 0 0] 72)) := below_new w _
  have hd1 : Dk (fun k => w.heap.size ≤ k) (w.alloc (.cells #[.slice none 0 0, .slice none 0 0, .slice none 0 0, .slice none 0 0] 72)) w.heap.size [] [] [] [] := Dk.new w (Nat.le_refl _) _
  generalize (w.alloc (.cells #[.slice none 0 0, .slice none 0 0, .slice none 0 0, .slice none 0 0] 72)) = w1 at *
  go_wp2_with fail
  refine (open_jd (S := fun k => w.heap.size ≤ k) w.heap.size [] [] [] [] 0 0 0 (0, [], []) 0 w1 hd1 (fun k _ h => h) (hS hb1) (by simp) (by simp) hdOf_nil opens_nil).mono ?_
  rintro e w2 ⟨B, sf, sc, rfl, hB, hj2, hf2, _⟩
  have hb2 := Fr.bl hb1 hf2 (fun k h => h)
  have Hj2 := hide hj2
  have HB2 := hide hb2
  clear hd1 hj2 hf2 hb2
  have HB3 := hide ((unhide HB2).alloc (unhide HB2).size (.cells #[.int .u8 111, .int .u8 110, .int .u8 101] 5 (3, 4)))
  have Hj3 := hide ((unhide Hj2).later (below_new w2 (.cells #[.int .u8 111, .int .u8 110, .int .u8 101] 5 (3, 4))))
  have Hsl := hide (unhide L1 w2)
  go_wp2_with fail
  generalize w2.alloc (.cells #[.int .u8 111, .int .u8 110, .int .u8 101] 5 (3, 4)) = w3 at *
  refine (append_j B w.heap.size _ _ _ _ 0 0 0 0 [] a1 [] _ w3 (unhide Hj3) (hS (unhide HB3)) (unhide Hsl) (by decide) (by decide) (by simp only [List.take_nil, List.length_nil]; omega)).mono ?_
  rintro e w4 ⟨rfl, hj4, hf4⟩
  have HB4 := hide (Fr.bl (unhide HB3) hf4 (fun k h => h))
  have Hj4 := hide (hj4.later (below_new w4 (.cells #[.int .u8 116, .int .u8 119, .int .u8 111] 5 (3, 4))))
  have HB5 := hide ((unhide HB4).alloc (unhide HB4).size (.cells #[.int .u8 116, .int .u8 119, .int .u8 111] 5 (3, 4)))
  have Hsl4 := hide (unhide L2 w4)
  clear hj4 hf4 Hj3 Hj2 Hsl
  go_wp2_with fail
  generalize w4.alloc (.cells #[.int .u8 116, .int .u8 119, .int .u8 111] 5 (3, 4)) = w5 at *
  refine (append_j B w.heap.size _ _ _ _ 0 0 0 0 [] a2 _ _ w5 (unhide Hj4) (hS (unhide HB5)) (unhide Hsl4) (by decide) (by decide) (by rw [List.length_append, fr_length]; simp only [List.take_nil, List.length_nil]; omega)).mono ?_
  rintro e w6 ⟨rfl, hj6, hf6⟩
  have HB6 := hide (Fr.bl (unhide HB5) hf6 (fun k h => h))
  have Hj6 := hide (hj6.later (below_new w6 (.cells #[.int .u8 98, .int .u8 97, .int .u8 115, .int .u8 101] 5 (4, 5))))
  have HB7 := hide ((unhide HB6).alloc (unhide HB6).size (.cells #[.int .u8 98, .int .u8 97, .int .u8 115, .int .u8 101] 5 (4, 5)))
  have Hsl6 := hide (unhide L3 w6)
  clear hj6 hf6 Hj4 Hsl4
  go_wp2_with fail
  generalize w6.alloc (.cells #[.int .u8 98, .int .u8 97, .int .u8 115, .int .u8 101] 5 (4, 5)) = w7 at *
  refine (rebase_j B w.heap.size _ _ _ _ 0 0 0 0 [] a3 _ 1 _ w7 (unhide Hj6) (hS (unhide HB7)) (unhide Hsl6) (by decide) (by decide) (by rw [List.length_append, List.length_append, fr_length, fr_length]; simp only [List.take_nil, List.length_nil]; omega)).mono ?_
  rintro e w8 ⟨rfl, hj8, hf8⟩
  have HB8 := hide (Fr.bl (unhide HB7) hf8 (fun k h => h))
  replace hj8 : Jd (fun k => w.heap.size ≤ k) w8 B w.heap.size aF [] sf sc 0 0 0 (1, a3, [a2]) := hj8
  have Hj8 := hide hj8
  clear hj8 hf8 Hj6 Hsl6
  go_wp2_with fail
  refine (set_j B w.heap.size _ _ _ _ 0 0 0 3 2 1 _ w8 (unhide Hj8) (hS (unhide HB8)) (by decide) (by decide) (by decide)).mono ?_
  rintro e w9 ⟨rfl, hj9, hf9⟩
  have HB9 := hide (Fr.bl (unhide HB8) hf9 (fun k h => h))
  have Hj9 := hide hj9
  clear hj9 hf9 Hj8
  go_wp2_with fail
  refine (sync_j B w.heap.size _ _ _ _ 3 2 1 _ w9 (unhide Hj9)).mono ?_
  rintro e w10 ⟨rfl, hj10, hf10⟩
  have HB10 := hide (Fr.bl (unhide HB9) hf10 (fun k h => h))
  have Hj10 := hide hj10
  clear hj10 hf10 Hj9
  go_wp2_with fail
  refine (crash_ok w.heap.size _ _ _ _ 0 false false w10 (unhide Hj10).dk (by decide)).mono ?_
  rintro e w11 ⟨D', rfl, hd11, hb11⟩
  have HB11 := hide ((unhide HB10).trans (hb11.mono (unhide HB10).size))
  have hle : left aF aF 0 false = aF := if_pos (by decide)
  have hce : cel (fr (encH 3 2 1)) (fr (encH 3 2 1)) false = fr (encH 3 2 1) := rfl
  rw [hle, hce] at hd11
  have Hd11 := hide hd11
  clear hd11 hb11 hle hce Hj10
  have hcl := (encH_fits (t := 3) (v := 2) (o := 1) (by decide) (by decide) (by decide)).2
  go_wp2_with fail
  refine (open_jd (S := fun k => w.heap.size ≤ k) D' aF _ _ _ 3 2 1 (1, a3, [a2]) aF.length w11 (unhide Hd11) (fun k _ h => Nat.le_trans (unhide HB10).size h) (hS (unhide HB11)) (by have := aSmall; omega) (by rw [fr_length]; omega) (hdOf_enc (by decide) (by decide) (by decide)) aMade.opens).mono ?_
  rintro e w12 ⟨K, sf', sc', rfl, hK, hj12, hf12, _⟩
  have HB12 := hide (Fr.bl (unhide HB11) hf12 (fun k h => h))
  obtain ⟨rv, hjp⟩ := hj12.jp
  have Hjp := hide hjp
  clear hj12 hf12 hjp Hd11
  go_wp2_with fail
  refine (records_any K D' 3 2 1 1 a3 [a2] rv w12 (unhide Hjp) (by intro x hx; simp at hx; subst hx; decide)).mono ?_
  rintro e w13 ⟨g, rfl, hr13, hb13⟩
  obtain ⟨uo, ud, hcell, hsu⟩ := hr13.bss.cell 0 (by decide)
  replace hcell : w13.cell? ⟨g, 0, none⟩ = some (.slice uo a2.length ud) := hcell
  replace hsu : Sl w13 (.slice uo a2.length ud) a2 := hsu
  have hnl : [a2].length = 1 := rfl
  have HB13 := hide ((unhide HB12).trans (hb13.mono (unhide HB12).size))
  have Hjp13 := hide ((unhide Hjp).later hb13)
  have Hsu := hide hsu
  clear hr13 hb13 hsu Hjp
  go_wp2_with fail
  refine (base_any K D' 3 2 1 1 a3 [a2] rv w13 (unhide Hjp13) (by decide)).mono ?_
  rintro e w14 ⟨g2, c2, rfl, hs14, hb14⟩
  have HB14 := hide ((unhide HB13).trans (hb14.mono (unhide HB13).size))
  have Hjp14 := hide ((unhide Hjp13).later hb14)
  have hcell4 := (hb14.cell (p := ⟨g, 0, none⟩) (World.block_lt_of_cell? _ _ hcell)).trans hcell
  have hcv1 : (convert 26 9 (.slice uo a2.length ud)).run Try.prog w14 = .ok (.string ⟨#[116, 119, 111]⟩) w14 := conv_sl w14 _ _ ((unhide Hsu).later hb14)
  have hcv2 : (convert 26 9 (.slice (some ⟨g2, 0, none⟩) a3.length c2)).run Try.prog w14 = .ok (.string ⟨#[98, 97, 115, 101]⟩) w14 := conv_sl w14 _ _ hs14
  clear hs14 hb14 Hsu Hjp13 hcell
  go_wp2_with fail
  refine (last_any K D' 3 2 1 1 a3 [a2] rv w14 (unhide Hjp14)).mono ?_
  rintro e w15 ⟨rfl, q, rfl⟩
  have hn2 : ((1 + [a2].length : Nat) : Int) = 2 := rfl
  rw [hn2]
  clear hn2
  go_wp2_with fail
  refine (hard_any K D' 3 2 1 _ rv _ ((unhide Hjp14).drewN q)).mono ?_
  rintro e w16 ⟨rfl, hb16⟩
  have HB16 := hide ((belowN (unhide HB14) q).trans (hb16.mono (unhide HB14).size))
  clear hb16
  go_wp2
  go_ret
  exact ⟨rfl, unhide HB16⟩

end Go.Proofs.Yteanjnkfoddfmaa

namespace Go.Proofs.Yteanjnkfoddfmaa
open Go.RowKit Go.ChangeShapes Go.WideShapes

/-- The types of a struct's fields, one cell each, structs within it written out. -/
def flatFs (P : Program) (fl : TypeId → Option (List TypeId)) : Nat → List Field → Option (List TypeId)
  | _, [] => some []
  | off, f :: r =>
    match fl f.type with
    | some l => if f.offset = off ∧ P.cellsOf f.type = l.length then (flatFs P fl (off + l.length) r).map (l ++ ·) else none
    | none => none

def flat (P : Program) : Nat → TypeId → Option (List TypeId)
  | 0, _ => none
  | n + 1, t =>
    match P.underlying t with
    | some (.struct fs) => match flatFs P (flat P n) 0 fs.toList with
      | some ts => if P.cellsOf t = ts.length then some ts else none
      | none => none
    | _ => if P.cellsOf t = 1 then some [t] else none

theorem flat_len (P : Program) : ∀ (n : Nat) (t : TypeId) (ts : List TypeId), flat P n t = some ts → P.cellsOf t = ts.length
  | 0, _, _, h => by simp [flat] at h
  | n + 1, t, ts, h => by
    unfold flat at h
    split at h
    · split at h
      · split at h
        · simp only [Option.some.injEq] at h
          subst h
          assumption
        · cases h
      · cases h
    · split at h
      · simp only [Option.some.injEq] at h
        subst h
        assumption
      · cases h

section
variable {H : Type} {enc : TypeId × Value → H} {P : Program} {w : World} {base : Nat} {spare : Nat → Bool} {held : Bool}

/-- Each cell is read by its own type. -/
def Leaves (enc : TypeId × Value → H) (P : Program) (w : World) (base : Nat) (spare : Nat → Bool) (held : Bool) (ts : List TypeId) (cs : List Value) : Prop :=
  cs.length = ts.length ∧ ∀ (i : Nat) (t : TypeId), ts[i]? = some t → ∃ u m y, cs[i]? = some u ∧ DataW.trod enc P w base spare held m t [u] = some y

theorem Leaves.append {ts us : List TypeId} {cs ds : List Value} (h : Leaves enc P w base spare held ts cs) (k : Leaves enc P w base spare held us ds) : Leaves enc P w base spare held (ts ++ us) (cs ++ ds) := by
  refine ⟨by rw [List.length_append, List.length_append, h.1, k.1], fun i t hi => ?_⟩
  by_cases hlt : i < ts.length
  · rw [List.getElem?_append_left hlt] at hi
    obtain ⟨u, m, y, h1, h2⟩ := h.2 i t hi
    exact ⟨u, m, y, by rw [List.getElem?_append_left (by rw [h.1]; exact hlt)]; exact h1, h2⟩
  · rw [List.getElem?_append_right (by omega)] at hi
    obtain ⟨u, m, y, h1, h2⟩ := k.2 _ t hi
    exact ⟨u, m, y, by rw [List.getElem?_append_right (by rw [h.1]; omega), h.1]; exact h1, h2⟩

theorem leaves_fields (fl : TypeId → Option (List TypeId))
    (hfl : ∀ t ts fuel cs x, fl t = some ts → DataW.trod enc P w base spare held fuel t cs = some x → cs.length = ts.length → Leaves enc P w base spare held ts cs) (n : Nat) (cs : List Value) :
    ∀ (fs : List Field) (off : Nat) (ts : List TypeId), flatFs P fl off fs = some ts → off + ts.length ≤ cs.length → (∀ f ∈ fs, ∃ x, DataW.trod enc P w base spare held n f.type ((cs.drop f.offset).take (P.cellsOf f.type)) = some x) →
      Leaves enc P w base spare held ts ((cs.drop off).take ts.length)
  | [], off, ts, h, _, _ => by
    simp [flatFs] at h
    subst h
    exact ⟨by simp, fun i t hi => by simp at hi⟩
  | f :: r, off, ts, h, hle, hx => by
    unfold flatFs at h
    cases hl : fl f.type with
    | none => rw [hl] at h; cases h
    | some l =>
      rw [hl] at h
      simp only at h
      split at h
      · rename_i hc
        obtain ⟨ho, hcl⟩ := hc
        cases hr : flatFs P fl (off + l.length) r with
        | none => rw [hr] at h; cases h
        | some us =>
          rw [hr] at h
          simp only [Option.map_some, Option.some.injEq] at h
          subst h
          rw [List.length_append] at hle
          obtain ⟨x, hx0⟩ := hx f (by simp)
          rw [ho, hcl] at hx0
          have h1 := hfl f.type l n _ x hl hx0 (by rw [List.length_take, List.length_drop]; omega)
          have h2 := leaves_fields fl hfl n cs r (off + l.length) us hr (by omega) (fun g hg => hx g (by simp [hg]))
          have e : (cs.drop off).take (l ++ us).length = (cs.drop off).take l.length ++ (cs.drop (off + l.length)).take us.length := by
            rw [List.length_append, List.take_add, List.drop_drop]
          rw [e]
          exact h1.append h2
      · cases h

theorem leaves_of : ∀ (n : Nat) (t : TypeId) (ts : List TypeId) (fuel : Nat) (cs : List Value) (x : DataW H × List MemPlace), flat P n t = some ts → DataW.trod enc P w base spare held fuel t cs = some x → cs.length = ts.length →
    Leaves enc P w base spare held ts cs
  | 0, _, _, _, _, _, h, _, _ => by simp [flat] at h
  | n + 1, t, ts, fuel, cs, x, h, hx, hlen => by
    unfold flat at h
    split at h
    · rename_i fs hu
      cases hf : flatFs P (flat P n) 0 fs.toList with
      | none => rw [hf] at h; cases h
      | some us =>
        rw [hf] at h
        simp only at h
        split at h
        · simp only [Option.some.injEq] at h
          subst h
          obtain ⟨xs, m, _, _, _, hxl, hfs⟩ := DataW.trod_struct hu hx
          have := leaves_fields (enc := enc) (w := w) (base := base) (spare := spare) (held := held) (flat P n) (fun t ts fuel cs x h1 h2 h3 => leaves_of n t ts fuel cs x h1 h2 h3) m cs fs.toList 0 us hf (by omega) (fun f hf' => by
            obtain ⟨i, hi, he⟩ := List.getElem_of_mem hf'
            have hi' : i < fs.size := by simpa using hi
            have e : fs[i]? = some f := by rw [Array.getElem?_eq_getElem hi']; rw [← he]; simp
            have hg := hfs i f e
            rw [List.getElem?_eq_getElem (by rw [hxl]; exact hi')] at hg
            exact ⟨_, hg⟩)
          rw [List.drop_zero, List.take_of_length_le (by omega)] at this
          exact this
        · cases h
    · split at h
      · simp only [Option.some.injEq] at h
        subst h
        match cs, hlen with
        | [c], _ =>
          refine ⟨rfl, fun i t' hi => ?_⟩
          match i, hi with
          | 0, hi =>
            simp at hi
            subst hi
            exact ⟨c, fuel, x, rfl, hx⟩
          | i + 1, hi => simp at hi
      · cases h

/-- A slice of structs of plain fields, element by element. -/
theorem rows_of {t e : TypeId} {n fuel : Nat} {ts : List TypeId} {v : Value} {x : DataW H × List MemPlace} (ht : P.underlying t = some (.slice e)) (hf : flat P n e = some ts) (h : DataW.trod enc P w base spare held fuel t [v] = some x) :
    v = .slice none 0 0 ∨ ∃ (a : Addr) (len cap : Nat), v = .slice (some a) len cap ∧ len ≤ cap ∧ cap ≤ maxLen ∧
      ∀ i, i < len → ∃ cs, Leaves enc P w base spare held ts cs ∧ ∀ j, j < ts.length → w.cell? (a.add (i * ts.length + j)) = cs[j]? := by
  have hl := flat_len P n e ts hf
  rcases Deep.open_slice ht h with ⟨h0, _⟩ | ⟨a, len, cap, m, n', D, Pl, hcs, _, h1, h2, hm, _, hel⟩
  · left; simpa using h0
  · right
    refine ⟨a, len, cap, by simpa using hcs, h1, h2, fun i hi => ?_⟩
    have hmi : i < m := by rw [hm]; split <;> omega
    obtain ⟨cs, hc, ht'⟩ := hel i hmi
    obtain ⟨_, hlen, hcell⟩ := World.cells?_some hc
    rw [hl] at hlen hcell
    refine ⟨cs, leaves_of n e ts n' cs _ hf ht' hlen, fun j hj => ?_⟩
    have := hcell j hj
    rwa [Deep.add_add] at this

end

end Go.Proofs.Yteanjnkfoddfmaa

namespace Go.Proofs.Yteanjnkfoddfmaa
open Go.RowKit Go.ChangeShapes Go.WideShapes
set_option linter.unusedVariables false
set_option maxRecDepth 100000

/-- An act of a script. -/
structure ActV where
  kind : Int
  n : Int
  m : Int
  v : Value
  b : List UInt8
  torn : Bool
  cell : Bool

/-- An act's number and bytes are as they may be. -/
structure ActOk (w : World) (z : ActV) : Prop where
  n0 : -9223372036854775808 ≤ z.n
  n1 : z.n ≤ 9223372036854775807
  m0 : -9223372036854775808 ≤ z.m
  m1 : z.m ≤ 9223372036854775807
  s : Sl w z.v z.b

theorem ActOk.later {w w' : World} {z : ActV} (h : ActOk w z) (hb : Below w.heap.size w w') : ActOk w' z := ⟨h.n0, h.n1, h.m0, h.m1, h.s.later hb⟩

/-- An act, by value. -/
structure ActIs (w : World) (v : Value) (z : ActV) : Prop where
  eq : v = .agg #[.int .i64 z.kind, .int .i64 z.n, .int .i64 z.m, z.v, .bool z.torn, .bool z.cell]
  ok : ActOk w z

/-- A list of acts as it lies in memory. -/
def Script (w : World) (v : Value) (xs : List ActV) : Prop :=
  ∃ ao c, v = .slice ao xs.length c ∧ xs.length ≤ c ∧ c ≤ maxLen ∧
    ∀ i (h : i < xs.length), ActOk w xs[i] ∧ ∃ b o, ao = some ⟨b, o, none⟩ ∧ w.cell? ⟨b, o + i * 6, none⟩ = some (.int .i64 xs[i].kind) ∧
      w.cell? ⟨b, o + i * 6 + 1, none⟩ = some (.int .i64 xs[i].n) ∧ w.cell? ⟨b, o + i * 6 + 2, none⟩ = some (.int .i64 xs[i].m) ∧ w.cell? ⟨b, o + i * 6 + 3, none⟩ = some xs[i].v ∧ w.cell? ⟨b, o + i * 6 + 4, none⟩ = some (.bool xs[i].torn) ∧ w.cell? ⟨b, o + i * 6 + 5, none⟩ = some (.bool xs[i].cell)

theorem Script.below {w w' : World} {v : Value} {xs : List ActV} (h : Script w v xs) (hb : Below w.heap.size w w') : Script w' v xs := by
  obtain ⟨ao, c, rfl, h1, h2, h3⟩ := h
  refine ⟨ao, c, rfl, h1, h2, fun i hi => ?_⟩
  obtain ⟨hok, b, o, h6, c0, c1, cm, c2, c3, c4⟩ := h3 i hi
  have hlt : b < w.heap.size := World.block_lt_of_cell? w _ c0
  exact ⟨hok.later hb, b, o, h6, (hb.cell (p := ⟨b, o + i * 6, none⟩) hlt).trans c0, (hb.cell (p := ⟨b, o + i * 6 + 1, none⟩) hlt).trans c1, (hb.cell (p := ⟨b, o + i * 6 + 2, none⟩) hlt).trans cm, (hb.cell (p := ⟨b, o + i * 6 + 3, none⟩) hlt).trans c2, (hb.cell (p := ⟨b, o + i * 6 + 4, none⟩) hlt).trans c3, (hb.cell (p := ⟨b, o + i * 6 + 5, none⟩) hlt).trans c4⟩

theorem Try.flatAct : flat Try.prog 4 37 = some [3, 3, 3, 26, 4, 4] := by kernel_rfl
theorem Try.cellsAct : Try.prog.cellsOf 37 = 6 := by kernel_rfl

section
variable {H : Type} {enc : TypeId × Value → H} {w : World} {base : Nat} {spare : Nat → Bool} {held : Bool}

/-- A slice of bytes that came in. -/
theorem view_bytes {fuel : Nat} {a : Option Addr} {len cap : Nat} {x : DataW H × List MemPlace} (h : DataW.trod enc Try.prog w base spare held fuel 26 (Value.cells (.slice a len cap)).toList = some x) : ∃ l, Sl w (.slice a len cap) l := by
  rcases ChangeShapes.open_ints Try.underlying26 Try.underlying5 (by kernel_rfl) h with ⟨hcs, _⟩ | ⟨a', len', cap', zs, hcs, _, hl, hm, hz, _, hcell, hwz⟩
  · simp [Value.cells] at hcs
    obtain ⟨rfl, rfl, rfl⟩ := hcs
    exact ⟨[], Sl.nil w⟩
  · simp [Value.cells] at hcs
    obtain ⟨rfl, rfl, rfl⟩ := hcs
    have hlz : len ≤ zs.length := by rw [hz]; split <;> omega
    have hlen : ((zs.take len).map fun z => UInt8.ofNat z.toNat).length = len := by simp; omega
    refine ⟨(zs.take len).map fun z => UInt8.ofNat z.toNat, some a', cap, by rw [hlen], by rw [hlen]; exact hl, hm, fun e => (by cases e), fun a ha j u hu => ?_⟩
    cases ha
    rw [bc_get, List.getElem?_map] at hu
    have hj : j < len := by
      rcases Nat.lt_or_ge j len with h | h
      · exact h
      · rw [List.getElem?_take, if_neg (by omega)] at hu; cases hu
    rw [List.getElem?_take, if_pos hj, List.getElem?_eq_getElem (by omega)] at hu
    simp only [Option.map_some, Option.some.injEq] at hu
    rw [hcell j (by omega), ← hu, List.getD_eq_getElem?_getD, List.getElem?_eq_getElem (by omega)]
    have hb := bounds_u8 (hwz zs[j] (List.getElem_mem _))
    simp only [Option.getD_some]
    congr 2
    rw [UInt8.toNat_ofNat']
    omega

theorem view_one {fuel : Nat} {v : Value} {x : DataW H × List MemPlace} (h : DataW.trod enc Try.prog w base spare held fuel 26 [v] = some x) : ∃ l, Sl w v l := by
  have h' := h
  rcases ChangeShapes.open_ints Try.underlying26 Try.underlying5 (by kernel_rfl) h with ⟨hcs, _⟩ | ⟨a', len', cap', zs, hcs, _⟩
  · simp at hcs
    subst hcs
    exact ⟨[], Sl.nil w⟩
  · simp at hcs
    subst hcs
    exact view_bytes (a := some a') (len := len') (cap := cap') h'

theorem view_bss {fuel : Nat} {a : Option Addr} {len cap : Nat} {x : DataW H × List MemPlace} (h : DataW.trod enc Try.prog w base spare held fuel 54 (Value.cells (.slice a len cap)).toList = some x) : ∃ ls, Bss w (.slice a len cap) ls := by
  rcases Deep.open_slice1 Try.underlying54 (by kernel_rfl) h with ⟨hcs, _⟩ | ⟨a', len', cap', m, n, V, D, Pl, hcs, _, hl, hm, hmm, _, hel⟩
  · simp [Value.cells] at hcs
    obtain ⟨rfl, rfl, rfl⟩ := hcs
    exact ⟨[], none, 0, rfl, Nat.le_refl _, Nat.zero_le _, fun _ => ⟨rfl, rfl⟩, fun a ha => by cases ha⟩
  · simp [Value.cells] at hcs
    obtain ⟨rfl, rfl, rfl⟩ := hcs
    have hlm : len ≤ m := by rw [hmm]; split <;> omega
    obtain ⟨L, hL⟩ := Deep.choose_lt (α := List UInt8) (n := len) (p := fun i l => Sl w (V i) l) (fun i hi => view_one (hel i (by omega)).2)
    refine ⟨(List.range len).map L, some a', cap, by simp, by simpa using hl, hm, fun e => (by cases e), fun a ha j y hy => ?_⟩
    cases ha
    have hj : j < len := by
      have := (List.getElem?_eq_some_iff.1 hy).1
      simpa using this
    refine ⟨V j, (hel j (by omega)).1, ?_⟩
    have e : y = L j := by
      rw [List.getElem?_map, List.getElem?_range hj] at hy
      simpa using hy.symm
    rw [e]
    exact hL j hj

theorem act_of {cs : List Value} (h : Leaves enc Try.prog w base spare held [3, 3, 3, 26, 4, 4] cs) :
    ∃ a : ActV, cs = [.int .i64 a.kind, .int .i64 a.n, .int .i64 a.m, a.v, .bool a.torn, .bool a.cell] ∧ ActOk w a := by
  obtain ⟨hl, hc⟩ := h
  match cs, hl with
  | [c0, c1, cm, c2, c3, c4], _ =>
    obtain ⟨u0, m0, y0, e0, t0⟩ := hc 0 _ rfl
    obtain ⟨u1, m1, y1, e1, t1⟩ := hc 1 _ rfl
    obtain ⟨u5, m5, y5, e5, t5⟩ := hc 2 _ rfl
    obtain ⟨u2, m2, y2, e2, t2⟩ := hc 3 _ rfl
    obtain ⟨u3, m3, y3, e3, t3⟩ := hc 4 _ rfl
    obtain ⟨u4, m4, y4, e4, t4⟩ := hc 5 _ rfl
    obtain ⟨k, ek, _, _⟩ := DataW.trod_int Try.underlying3 t0
    obtain ⟨n, en, _, wn⟩ := DataW.trod_int Try.underlying3 t1
    obtain ⟨m, em, _, wm⟩ := DataW.trod_int Try.underlying3 t5
    obtain ⟨b, hb⟩ := view_one t2
    obtain ⟨f, ef, _⟩ := DataW.trod_bool Try.underlying4 t3
    obtain ⟨g, eg, _⟩ := DataW.trod_bool Try.underlying4 t4
    simp at e0 e1 e2 e3 e4 e5 ek en em ef eg
    subst e0 e1 e2 e3 e4 e5 ek en em ef eg
    exact ⟨⟨k, n, m, _, b, f, g⟩, rfl, (bounds_i64 wn).1, (bounds_i64 wn).2, (bounds_i64 wm).1, (bounds_i64 wm).2, hb⟩

theorem view_act {r : Reach} {b0 : Nat} {v : Value} {d : DataW H} {p : List MemPlace} (hv : Value.okWide Try.prog w r b0 37 v)
    (h : DataW.Trod enc Try.prog w base spare held 37 v d p) : ∃ z, ActIs w v z := by
  obtain ⟨cs, rfl, hsz⟩ := okWide_struct Try.underlying37 hv
  rw [Try.cellsAct] at hsz
  obtain ⟨fuel, hf⟩ := h
  have hL := leaves_of 4 _ _ fuel _ _ Try.flatAct hf (by simp [Value.cells, hsz])
  obtain ⟨a, ha, h0⟩ := act_of hL
  refine ⟨a, ?_, h0⟩
  obtain ⟨l⟩ := cs
  simp [Value.cells] at ha
  rw [ha]

theorem view_list {fuel : Nat} {a : Option Addr} {len cap : Nat} {x : DataW H × List MemPlace} (h : DataW.trod enc Try.prog w base spare held fuel 22 (Value.cells (.slice a len cap)).toList = some x) : ∃ l, Script w (.slice a len cap) l := by
  rcases rows_of Try.underlying22 Try.flatAct h with h0 | ⟨a', len', cap', e, h1, h2, hel⟩
  · injection h0 with e1 e2 e3
    subst e1 e2 e3
    exact ⟨[], none, 0, rfl, Nat.le_refl _, Nat.zero_le _, fun i hi => by cases hi⟩
  · injection e with e1 e2 e3
    subst e1 e2 e3
    have inh : Inhabited ActV := ⟨⟨0, 0, 0, .slice none 0 0, [], false, false⟩⟩
    obtain ⟨f, hf⟩ := Deep.choose_lt (n := len) (p := fun i (b : ActV) => ActOk w b ∧ w.cell? (a'.add (i * 6)) = some (.int .i64 b.kind) ∧
        w.cell? (a'.add (i * 6 + 1)) = some (.int .i64 b.n) ∧ w.cell? (a'.add (i * 6 + 2)) = some (.int .i64 b.m) ∧ w.cell? (a'.add (i * 6 + 3)) = some b.v ∧ w.cell? (a'.add (i * 6 + 4)) = some (.bool b.torn) ∧ w.cell? (a'.add (i * 6 + 5)) = some (.bool b.cell)) (fun i hi => by
      obtain ⟨cs, hL, hcell⟩ := hel i hi
      obtain ⟨b, rfl, hk⟩ := act_of hL
      exact ⟨b, hk, hcell 0 (by simp), hcell 1 (by simp), hcell 2 (by simp), hcell 3 (by simp), hcell 4 (by simp), hcell 5 (by simp)⟩)
    refine ⟨(List.range len).map f, some a', cap, by simp, by simpa using h1, h2, fun i hi => ?_⟩
    have hi' : i < len := by simpa using hi
    obtain ⟨hk, c0, c1, cm, c2, c3, c4⟩ := hf i hi'
    have e : ((List.range len).map f)[i] = f i := by simp
    rw [e]
    obtain ⟨b, o, sp⟩ := a'
    have hsp : sp = none := by
      have h00 := (hf 0 (by omega)).2.1
      have := World.cell?_spot h00
      simpa [Addr.add] using this
    subst hsp
    rw [Addr.add_lit] at c0 c1 cm c2 c3 c4
    exact ⟨hk, b, o, rfl, c0, c1, cm, c2, c3, c4⟩
theorem view_script {r : Reach} {b0 : Nat} {v : Value} {d : DataW H} {p : List MemPlace} (hv : Value.okWide Try.prog w r b0 22 v)
    (h : DataW.Trod enc Try.prog w base spare held 22 v d p) : ∃ z, Script w v z := by
  obtain ⟨a, len, cap, rfl⟩ := okWide_slice Try.underlying22 hv
  obtain ⟨fuel, hf⟩ := h
  exact view_list hf
end

end Go.Proofs.Yteanjnkfoddfmaa

namespace Go.Proofs.Yteanjnkfoddfmaa
open Go.RowKit
set_option linter.unusedVariables false

section
set_option maxRecDepth 100000

theorem jappend_nil (v : Value) (w : World) : Calls Try.prog 12 #[.pointer none, v] w fun e w' => e = .returned (.int .i64 1) ∧ w' = w := by
  go_enter Try.func12, Try.ntmps12
  go_wp2
  go_ret
  exact ⟨rfl, rfl⟩
theorem jcut_nil (n : Int) (w : World) : Calls Try.prog 14 #[.pointer none, .int .i64 n] w fun e w' => e = .returned (.int .i64 1) ∧ w' = w := by
  go_enter Try.func14, Try.ntmps14
  go_wp2
  go_ret
  exact ⟨rfl, rfl⟩
theorem jrebase_nil (n : Int) (v : Value) (w : World) : Calls Try.prog 16 #[.pointer none, .int .i64 n, v] w fun e w' => e = .returned (.int .i64 1) ∧ w' = w := by
  go_enter Try.func16, Try.ntmps16
  go_wp2
  go_ret
  exact ⟨rfl, rfl⟩
theorem jset_nil (a b c : Int) (w : World) : Calls Try.prog 18 #[.pointer none, .agg #[.int .i64 a, .int .i64 b, .int .i64 c]] w fun e w' => e = .returned (.int .i64 1) ∧ Below w.heap.size w w' := by
  have hb := below_new w (.cells #[.int .i64 a, .int .i64 b, .int .i64 c] 43)
  go_enter Try.func18, Try.ntmps18
  go_wp2
  go_ret
  exact ⟨rfl, hb⟩
theorem jsync_nil (w : World) : Calls Try.prog 21 #[.pointer none] w fun e w' => e = .returned (.int .i64 1) ∧ w' = w := by
  go_enter Try.func21, Try.ntmps21
  go_wp2
  go_ret
  exact ⟨rfl, rfl⟩
theorem jrecords_nil (w : World) : Calls Try.prog 36 #[.pointer none] w fun e w' => e = .returned (.slice none 0 0) ∧ w' = w := by
  go_enter Try.func36, Try.ntmps36
  go_wp2
  go_ret
  exact ⟨rfl, rfl⟩
theorem jbase_nil (w : World) : Calls Try.prog 35 #[.pointer none] w fun e w' => e = .returned (.tuple #[.int .i64 0, .slice none 0 0]) ∧ w' = w := by
  go_enter Try.func35, Try.ntmps35
  go_wp2
  go_ret2
  exact ⟨rfl, rfl⟩
theorem jlast_nil (w : World) : Calls Try.prog 37 #[.pointer none] w fun e w' => e = .returned (.int .i64 0) ∧ w' = w := by
  go_enter Try.func37, Try.ntmps37
  go_wp2
  go_ret
  exact ⟨rfl, rfl⟩
theorem jhard_nil (w : World) : Calls Try.prog 33 #[.pointer none] w fun e w' => e = .returned (.agg #[.int .i64 0, .int .i64 0, .int .i64 0]) ∧ Below w.heap.size w w' := by
  go_enter Try.func33, Try.ntmps33
  go_wp2
  refine bodyPost_ret (results_h1 (a := .int .i64 0) (b := .int .i64 0) (c := .int .i64 0) Try.results33 rfl (by simp) (by simp) (by simp)) rfl ?_
  exact ⟨rfl, below_new _ _⟩
end

/-- An act's cells. -/
structure ActAt (w : World) (A : Nat) (z : ActV) : Prop where
  c0 : w.cell? ⟨A, 0, none⟩ = some (.int .i64 z.kind)
  c1 : w.cell? ⟨A, 1, none⟩ = some (.int .i64 z.n)
  c2 : w.cell? ⟨A, 2, none⟩ = some (.int .i64 z.m)
  c3 : w.cell? ⟨A, 3, none⟩ = some z.v
  c4 : w.cell? ⟨A, 4, none⟩ = some (.bool z.torn)
  c5 : w.cell? ⟨A, 5, none⟩ = some (.bool z.cell)

theorem ActAt.lt {w : World} {A : Nat} {z : ActV} (h : ActAt w A z) : A < w.heap.size := World.block_lt_of_cell? w _ h.c0
theorem ActAt.frame {w w' : World} {A : Nat} {z : ActV} (h : ActAt w A z) (hk : w'.heap[A]? = w.heap[A]?) : ActAt w' A z :=
  ⟨(World.cell?_of_block (w := w) hk).trans h.c0, (World.cell?_of_block (w := w) hk).trans h.c1, (World.cell?_of_block (w := w) hk).trans h.c2, (World.cell?_of_block (w := w) hk).trans h.c3, (World.cell?_of_block (w := w) hk).trans h.c4, (World.cell?_of_block (w := w) hk).trans h.c5⟩
theorem ActAt.later {w w' : World} {A : Nat} {z : ActV} (h : ActAt w A z) (hb : Below w.heap.size w w') : ActAt w' A z := h.frame (hb.block A h.lt)
theorem ActAt.new (w : World) (z : ActV) (t : TypeId) : ActAt (w.alloc (.cells #[.int .i64 z.kind, .int .i64 z.n, .int .i64 z.m, z.v, .bool z.torn, .bool z.cell] t)) w.heap.size z := ⟨by simp, by simp, by simp, by simp, by simp, by simp⟩

end Go.Proofs.Yteanjnkfoddfmaa
