/-
  Bytes in memory: what it means that a slice value leads to given bytes, and that this stays so while only new memory is laid. No law of the program is proved here; it is a text that the proofs of layer 6 share.
-/
import Derived.Test.YtdhjogfalkmggaaChecked
import Derived.WalkKit
import Derived.WalkSpells
import Derived.WalkLawsBesides
import Derived.Lib.AppendStr
import Derived.Laws.BytesArg
import Derived.Deep.AppendSrc
import Derived.Deep.Upon
import Derived.OwnWalk
import Derived.Below
import Derived.ProofKit
import Derived.OpenShut
namespace Go.Proofs.Ytdhjogfalkmggaa
open Go.RowKit
set_option linter.unusedVariables false

theorem hide {p : Prop} (h : p) : Hid p := h
theorem unhide {p : Prop} (h : Hid p) : p := h

/-- Bytes as cells. -/
def bc (l : List UInt8) : List Value := l.map fun b => Value.int .u8 (b.toNat : Int)

theorem bc_length (l : List UInt8) : (bc l).length = l.length := by simp [bc]
theorem bc_append (l m : List UInt8) : bc (l ++ m) = bc l ++ bc m := by simp [bc]
theorem bc_get (l : List UInt8) (j : Nat) : (bc l)[j]? = l[j]?.map fun b => Value.int .u8 (b.toNat : Int) := by simp [bc]
theorem bc_one (l : List UInt8) : ∀ u ∈ bc l, u.oneCell' = true := by
  intro u hu
  simp only [bc, List.mem_map] at hu
  obtain ⟨b, _, rfl⟩ := hu
  rfl
theorem bc_str (s : ByteArray) : Lib.strCells s = bc s.data.toList := rfl

/-- The value v is a slice that leads to the bytes l in the world w. -/
def Sl (w : World) (v : Value) (l : List UInt8) : Prop :=
  ∃ ao c, v = .slice ao l.length c ∧ l.length ≤ c ∧ c ≤ maxLen ∧ (ao = none → l = [] ∧ c = 0) ∧
    ∀ a, ao = some a → ∀ j u, (bc l)[j]? = some u → w.cell? (a.add j) = some u

theorem Sl.nil (w : World) : Sl w (.slice none 0 0) [] := ⟨none, 0, rfl, Nat.le_refl _, Nat.zero_le _, fun _ => ⟨rfl, rfl⟩, fun a h => by cases h⟩

theorem Addr.add_block (a : Addr) (j : Nat) : (a.add j).block = a.block := by unfold Addr.add; split <;> rfl

theorem Sl.below {B : Nat} {w w' : World} {v : Value} {l : List UInt8} (h : Sl w v l) (hb : Below B w w') (hB : w.heap.size ≤ B) : Sl w' v l := by
  obtain ⟨ao, c, rfl, h1, h2, h3, h4⟩ := h
  refine ⟨ao, c, rfl, h1, h2, h3, fun a ha j u hu => ?_⟩
  have hc := h4 a ha j u hu
  rw [hb.cell (p := a.add j) (Nat.lt_of_lt_of_le (World.block_lt_of_cell? w _ hc) hB)]
  exact hc

theorem Sl.setCell {w : World} {v : Value} {l : List UInt8} (h : Sl w v l) {p : Addr} {ao : Option Addr} {n c : Nat} (hp : w.cell? p = some (.slice ao n c)) (x : Value) : Sl (w.setCell p x) v l := by
  obtain ⟨bo, d, rfl, h1, h2, h3, h4⟩ := h
  refine ⟨bo, d, rfl, h1, h2, h3, fun a ha j u hu => ?_⟩
  have hc := h4 a ha j u hu
  rw [World.cell?_setCell_other]
  · exact hc
  · intro e
    rw [e, hc] at hp
    rw [bc_get] at hu
    cases hl : l[j]? with
    | none => rw [hl] at hu; cases hu
    | some b => rw [hl] at hu; cases hu; cases hp

theorem Sl.drop {w : World} {ao : Option Addr} {n c : Nat} {l : List UInt8} (h : Sl w (.slice ao n c) l) (k : Nat) (hk : k ≤ l.length) :
    Sl w (.slice (if c = k then ao else ao.map (·.add (k * 1))) (n - k) (c - k)) (l.drop k) := by
  obtain ⟨bo, d, e, h1, h2, h3, h4⟩ := h
  injection e with e1 e2 e3
  subst e1; subst e2; subst e3
  refine ⟨if c = k then ao else ao.map (·.add (k * 1)), c - k, by rw [List.length_drop], ?_, ?_, ?_, ?_⟩
  · rw [List.length_drop]; omega
  · omega
  · intro e
    have : ao = none := by
      split at e
      · exact e
      · cases ao <;> simp at e ⊢
    obtain ⟨rfl, rfl⟩ := h3 this
    simp
  · intro a ha j u hu
    have hj : j < (l.drop k).length := by
      have := (List.getElem?_eq_some_iff.1 hu).1
      rwa [bc_length] at this
    rw [List.length_drop] at hj
    split at ha
    · omega
    · cases ao with
      | none => cases ha
      | some a0 =>
        simp only [Option.map_some, Option.some.injEq] at ha
        subst ha
        rw [Addr.add_add, Nat.mul_one]
        refine h4 a0 rfl (k + j) u ?_
        rw [bc_get] at hu ⊢
        rw [← hu, List.getElem?_drop]

/-- The cells that a slice leads to, as numbers. -/
theorem Sl.cell {w : World} {b o n c : Nat} {l : List UInt8} (h : Sl w (.slice (some ⟨b, o, none⟩) n c) l) (j : Nat) (hj : j < l.length) : w.cell? ⟨b, o + j, none⟩ = some (.int .u8 (l[j].toNat : Int)) := by
  obtain ⟨bo, d, e, h1, h2, h3, h4⟩ := h
  injection e with e1 e2 e3
  subst e1
  have := h4 _ rfl j (.int .u8 (l[j].toNat : Int)) (by rw [bc_get, List.getElem?_eq_getElem hj]; rfl)
  rwa [Addr.add_lit] at this

/-- Where there is a byte, the address has no spot. -/
theorem Sl.addr {w : World} {ao : Option Addr} {n c : Nat} {l : List UInt8} (h : Sl w (.slice ao n c) l) (hl : 0 < l.length) : ∃ b o, ao = some ⟨b, o, none⟩ := by
  obtain ⟨bo, d, e, h1, h2, h3, h4⟩ := h
  injection e with e1 e2 e3
  subst e1
  cases ao with
  | none => have := (h3 rfl).1; subst this; simp at hl
  | some a =>
    have := h4 a rfl 0 (.int .u8 (l[0].toNat : Int)) (by rw [bc_get, List.getElem?_eq_getElem hl]; rfl)
    rw [Addr.add_zero'] at this
    have hs := World.cell?_spot this
    obtain ⟨b, o, s⟩ := a
    simp at hs
    subst hs
    exact ⟨b, o, rfl⟩

/-- The value v owns the bytes l in a row of its own, at or behind block B. -/
def Own (B : Nat) (w : World) (v : Value) (l : List UInt8) : Prop := w.ownsRow B 5 1 v l.length (bc l)

theorem Own.sl {B : Nat} {w : World} {v : Value} {l : List UInt8} (h : Own B w v l) : Sl w v l := by
  have hc := fun g hg => World.ownsRow.cells h (g := g) hg
  rcases h.2 with ⟨rfl, h0⟩ | ⟨g, cap, cur, rfl, hb, hg, h1, h2, h3, h4⟩
  · have : l = [] := List.eq_nil_of_length_eq_zero h0
    subst this
    exact Sl.nil w
  · refine ⟨_, _, rfl, h1, h2, ?_, ?_⟩
    · intro e; cases e
    · intro a ha j u hu; cases ha; exact hc g rfl j u hu

theorem Own.mono {B B' : Nat} {w : World} {v : Value} {l : List UInt8} (h : Own B w v l) (hB : B' ≤ B) : Own B' w v l := by
  refine ⟨h.1, ?_⟩
  rcases h.2 with h0 | ⟨g, cap, cur, rfl, hb, rest⟩
  · exact .inl h0
  · exact .inr ⟨g, cap, cur, rfl, Nat.le_trans hB hb, rest⟩

theorem Try.infoByte : (Try.prog.info? 5).map (fun i => (i.zero, i.size, i.bytes)) = some (some (.int .u8 0), 1, 1) := by kernel_rfl

theorem ret_bool {a b : Bool} (h : a = b) : Ending.returned (.bool a) = .returned (.bool b) := by rw [h]

theorem Sl.take {w : World} {ao : Option Addr} {n c : Nat} {l : List UInt8} (h : Sl w (.slice ao n c) l) (k : Nat) (hk : k ≤ l.length) (c' : Nat) (hc : k ≤ c') (hc' : c' ≤ c) : Sl w (.slice ao k c') (l.take k) := by
  obtain ⟨bo, d, e, h1, h2, h3, h4⟩ := h
  injection e with e1 e2 e3
  subst e1; subst e2; subst e3
  refine ⟨ao, c', by rw [List.length_take]; congr 1; omega, by rw [List.length_take]; omega, Nat.le_trans hc' h2, fun e => ?_, fun a ha j u hu => ?_⟩
  · obtain ⟨rfl, rfl⟩ := h3 e
    simp at hk
    subst hk
    exact ⟨rfl, by omega⟩
  · refine h4 a ha j u ?_
    have hj : j < k := by
      have := (List.getElem?_eq_some_iff.1 hu).1
      rw [bc_length, List.length_take] at this
      omega
    rw [bc_get] at hu ⊢
    rw [← hu, List.getElem?_take_of_lt hj]

theorem Sl.drewN {w : World} {v : Value} {l : List UInt8} (h : Sl w v l) (n : Nat) : Sl (w.drewN n) v l := h

/-- A slice's bytes are the same where its block is. -/
theorem Sl.frame {w w' : World} {v : Value} {l : List UInt8} (h : Sl w v l) (hk : ∀ g, v.ownBlock = some g → g < w.heap.size → w'.heap[g]? = w.heap[g]?) : Sl w' v l := by
  obtain ⟨ao, c, rfl, h1, h2, h3, h4⟩ := h
  refine ⟨ao, c, rfl, h1, h2, h3, fun a ha j u hu => ?_⟩
  have hc := h4 a ha j u hu
  subst ha
  have hlt := World.block_lt_of_cell? w _ hc
  rw [Addr.add_block] at hlt
  rw [World.cell?_of_block (w := w) (by rw [Addr.add_block]; exact hk a.block rfl hlt)]
  exact hc

theorem Sl.later {w w' : World} {v : Value} {l : List UInt8} (h : Sl w v l) (hb : Below w.heap.size w w') : Sl w' v l := h.below hb (Nat.le_refl _)

theorem Own.frame {B : Nat} {w w' : World} {v : Value} {l : List UInt8} (h : Own B w v l) (hk : ∀ g, v.ownBlock = some g → g < w.heap.size → w'.heap[g]? = w.heap[g]?) : Own B w' v l := by
  refine ⟨h.1, ?_⟩
  rcases h.2 with hn | ⟨g, cap, cur, rfl, hb, hgg, rest⟩
  · exact .inl hn
  · refine .inr ⟨g, cap, cur, rfl, hb, ?_, rest⟩
    rw [hk g rfl (Array.getElem?_eq_some_iff.1 hgg).1]
    exact hgg

theorem Own.later {B : Nat} {w w' : World} {v : Value} {l : List UInt8} (h : Own B w v l) (hb : Below w.heap.size w w') : Own B w' v l := h.frame fun g _ hg => hb.block g hg

theorem Own.lit0 (w : World) : Own w.heap.size (w.alloc (.cells #[] 5)) (.slice (some ⟨w.heap.size, 0, none⟩) 0 0) [] :=
  World.ownsRow_lit w #[] 0 (Nat.le_refl _) (Nat.zero_le _) rfl

theorem Own.val {B : Nat} {w : World} {v : Value} {l : List UInt8} (h : Own B w v l) : ∃ ao c, v = .slice ao l.length c := by
  obtain ⟨ao, c, rfl, _⟩ := h.sl; exact ⟨_, _, rfl⟩

/-- Bytes as a text. -/
def bs (l : List UInt8) : ByteArray := ⟨l.toArray⟩

theorem bs_inj {l m : List UInt8} (h : bs l = bs m) : l = m := by
  have := congrArg (fun b : ByteArray => b.data.toList) h
  simpa [bs] using this

theorem bs_list (l : List UInt8) : (bs l).toList = l := ByteArray.toList_mk l

/-- Bytes as a string: what the conversion answers. -/
theorem conv_sl (w : World) (v : Value) (l : List UInt8) (hs : Sl w v l) : (convert 26 9 v).run Try.prog w = .ok (.string (bs l)) w := by
  have hs' := hs
  obtain ⟨ao, c, rfl, h1, h2, h3, h4⟩ := hs
  by_cases h0 : l = []
  · subst h0
    cases ao with
    | none => exact run_convert_bytes_nil (P := Try.prog) w 26 5 Try.underlying26 Try.underlying5 0 c 9 Try.underlying9
    | some a =>
      rw [run_convert_bytes_string w 26 9 5 _ _ c Try.underlying26 Try.underlying5 Try.underlying9]
      exact run_bytesToString w a 0 c [] (by simp [loadCells, loadCellsFrom])
  · have hp : 0 < l.length := by cases l <;> simp_all
    obtain ⟨b, o, rfl⟩ := hs'.addr hp
    have := run_convert_bytes_arg (P := Try.prog) w 26 5 Try.underlying26 Try.underlying5 b o l.length c (l.map fun b => (b.toNat : Int)) (by simp) (fun i hi => by
      rw [hs'.cell i hi]
      simp [List.getD, List.getElem?_map, List.getElem?_eq_getElem hi]) 9 Try.underlying9
    rw [this]
    congr 2
    apply ByteArray.ext
    apply Array.toList_inj.1
    rw [strOfNums_data, List.map_map]
    show List.map _ l = l
    conv => rhs; rw [← List.map_id l]
    apply List.map_congr_left
    intro x _
    simp

/-- A slice with no room behind its bytes. -/
def Tight (v : Value) : Prop := ∃ ao n, v = .slice ao n n

theorem Sl.src {w : World} {v : Value} {l : List UInt8} (h : Sl w v l) : Src Try.prog 1 26 v l.length (bc l) w := by
  obtain ⟨ao, c, rfl, h1, h2, h3, h4⟩ := h
  cases ao with
  | some a => exact Src.ofSlice w Try.underlying26 a l.length c (bc l) (by simp [bc_length]) (h4 a rfl) (bc_one _)
  | none =>
    obtain ⟨rfl, rfl⟩ := h3 rfl
    exact Src.ofNil (P := Try.prog) (size := 1) w Try.underlying26 0

/-- What append answers: nothing new; in place; or in a new row. -/
def Appd (w : World) (v : Value) (l news : List UInt8) (v' : Value) (w' : World) : Prop :=
  (v' = v ∧ w' = w ∧ news = []) ∨
  (∃ g n c, l.length < c ∧ v = .slice (some ⟨g, 0, none⟩) l.length c ∧ v' = .slice (some ⟨g, 0, none⟩) n c ∧ Own 0 w v l ∧ Own 0 w' v' (l ++ news) ∧ w.grownBy w' (some g)) ∨
  (Own w.heap.size w' v' (l ++ news) ∧ w.grownBy w' none)

/-- append onto a slice that is tight, or the row of the call's own: nothing new; in place; or in a new row. -/
theorem run_append_gr (w : World) (v x : Value) (l news : List UInt8) (hg : Tight v ∨ Own 0 w v l) (hv : Sl w v l) (hx : Sl w x news) (hlen : l.length + news.length ≤ 70368744177664) (ty : TypeId) :
    ∃ v' w', (Builtin.append_ #[26, 26] ty #[v, x]).run Try.prog w = .ok v' w' ∧
      Appd w v l news v' w' := by
  obtain ⟨i0, hi, hz0, hz1, hz2⟩ := info_parts Try.infoByte
  by_cases h0 : news = []
  · subst h0
    obtain ⟨ao, c, rfl, h1, h2, h3, h4⟩ := hv
    have hs := hx.src
    rw [← hz1] at hs
    exact ⟨_, _, run_append_nothing (P := Try.prog) w 26 26 ty 5 i0 Try.underlying26 hi ao l.length c h1 x hs, .inl ⟨rfl, rfl, rfl⟩⟩
  have hp : 0 < news.length := by cases news <;> simp_all
  obtain ⟨xo, xc, rfl, hx1, hx2, hx3, hx4⟩ := id hx
  obtain ⟨xb, xoff, rfl⟩ := hx.addr hp
  have hc := hx4 _ rfl
  have nilCase : v = .slice none 0 0 → l = [] → ∃ v' w', (Builtin.append_ #[26, 26] ty #[v, .slice (some ⟨xb, xoff, none⟩) news.length xc]).run Try.prog w = .ok v' w' ∧ (Own w.heap.size w' v' (l ++ news) ∧ w.grownBy w' none) := by
    rintro rfl rfl
    obtain ⟨v2, w2, hr2, h22, h23, _⟩ := run_append_own (P := Try.prog) w w.heap.size 26 ty 5 i0 (.int .u8 0) 1 1 Try.underlying26 hi hz0 hz1 hz2 rfl (by decide) (.slice none 0 0) 0 [] (World.ownsRow_nil w _ _ _) ⟨xb, xoff, none⟩ news.length xc (bc news) (by simp [bc_length]) hc (bc_one _)
      (by unfold maxLen; simp at hlen ⊢; omega) (by simp at hlen ⊢; omega) (Nat.le_refl _)
    refine ⟨v2, w2, hr2, ?_, h23⟩
    unfold Own
    rw [List.nil_append]
    simpa using h22
  have growCase : ∀ a c, v = .slice (some a) l.length c → c < l.length + news.length → ∃ v' w', (Builtin.append_ #[26, 26] ty #[v, .slice (some ⟨xb, xoff, none⟩) news.length xc]).run Try.prog w = .ok v' w' ∧ (Own w.heap.size w' v' (l ++ news) ∧ w.grownBy w' none) := by
    rintro a c rfl hc2
    obtain ⟨ao, d, e, h1, h2, h3, h4⟩ := hv
    injection e with e1 e2 e3
    subst e1
    obtain ⟨v2, w2, hr2, h22, h23⟩ := run_append_arg_grows (P := Try.prog) w 26 ty 5 i0 (.int .u8 0) 1 1 Try.underlying26 hi hz0 hz1 hz2 rfl (by decide) a l.length c (bc l) (by simp [bc_length]) (h4 a rfl) ⟨xb, xoff, none⟩ news.length xc (bc news) (by simp [bc_length]) hc hc2
      (by unfold maxLen; omega) (by omega)
    refine ⟨v2, w2, hr2, ?_, h23⟩
    unfold Own
    rw [bc_append, List.length_append]
    exact h22
  rcases hg with ⟨ao, n, rfl⟩ | ho
  · obtain ⟨bo, d, e, h1, h2, h3, h4⟩ := id hv
    injection e with e1 e2 e3
    subst e1 e2 e3
    cases ao with
    | none =>
      obtain ⟨v', w', hr, h⟩ := nilCase (by rw [(h3 rfl).1]; rfl) (h3 rfl).1
      exact ⟨v', w', hr, .inr (.inr h)⟩
    | some a =>
      obtain ⟨v', w', hr, h⟩ := growCase a l.length rfl (by omega)
      exact ⟨v', w', hr, .inr (.inr h)⟩
  · rcases ho.2 with ⟨rfl, hl0⟩ | ⟨g, cap, cur, rfl, hbg, hgg, hnc, hcm, hcs, htake⟩
    · obtain ⟨v', w', hr, h⟩ := nilCase rfl (List.eq_nil_of_length_eq_zero hl0)
      exact ⟨v', w', hr, .inr (.inr h)⟩
    · by_cases hroom : l.length + news.length ≤ cap
      · have hfit : l.length * i0.size + (bc news).length ≤ cur.size := by rw [hz1, bc_length, hcs]; omega
        have hr2 := run_append_room (P := Try.prog) w 26 ty 5 i0 Try.underlying26 hi g l.length cap cur hgg ⟨xb, xoff, none⟩ news.length xc (bc news) (by rw [bc_length, hz1, Nat.mul_one]) hc (bc_one _) hroom hfit
        obtain ⟨v', w', hr, r2, r3, _⟩ := run_append_own (P := Try.prog) w 0 26 ty 5 i0 (.int .u8 0) 1 1 Try.underlying26 hi hz0 hz1 hz2 rfl (by decide) _ l.length (bc l) ho ⟨xb, xoff, none⟩ news.length xc (bc news) (by simp [bc_length]) hc (bc_one _)
          (by unfold maxLen; omega) (by omega) (Nat.zero_le _)
        have e := hr2
        rw [hr] at e
        injection e with e1 e2
        refine ⟨v', w', hr, .inr (.inl ⟨g, l.length + news.length, cap, by omega, rfl, e1, ho, ?_, r3⟩)⟩
        unfold Own
        rw [bc_append, List.length_append]
        exact r2
      · obtain ⟨v', w', hr, h⟩ := growCase ⟨g, 0, none⟩ cap rfl (by omega)
        exact ⟨v', w', hr, .inr (.inr h)⟩

end Go.Proofs.Ytdhjogfalkmggaa
