/-
  P1Base, P1Pack, P1Num, P1Put, P1Rd, P1Reader, Base, Later, Small, Cmp, P1PutS, P1GetS, P1PMath, P1PRefPut: one behind the other. No law is proved here.
-/
import Derived.Test.YtcdehnghggleoaaGreatChecked
import Derived.WalkKit
import Derived.WalkSpells
import Derived.WalkLawsBesides
import Derived.Lib.AppendStr
import Derived.Laws.BytesArg
import Derived.Deep.AppendSrc
import Derived.Deep.Upon
import Derived.OwnWalk
import Derived.Below
import Derived.ProofKit
import Derived.OpenShut
import Derived.Test.YtcdehnghggleoaaGreatRows
import Derived.BigQuiet
import Derived.Deep.RegionHeld
import Derived.Handy
/-
  Bytes in memory: what it means that a slice value leads to given bytes, and that this stays so while only new memory is laid. No law of the program is proved here; it is a text that the proofs of layer 6 share.
-/
namespace Go.Proofs.YtcdehnghggleoaaGreat.P1
open Go.RowKit
set_option linter.unusedVariables false

theorem hide {p : Prop} (h : p) : Hid p := h
theorem unhide {p : Prop} (h : Hid p) : p := h

/-- Bytes as cells. -/
def bc (l : List UInt8) : List Value := l.map fun b => Value.int .u8 (b.toNat : Int)

theorem bc_length (l : List UInt8) : (bc l).length = l.length := by simp [bc]
theorem bc_append (l m : List UInt8) : bc (l ++ m) = bc l ++ bc m := by simp [bc]
theorem bc_get (l : List UInt8) (j : Nat) : (bc l)[j]? = l[j]?.map fun b => Value.int .u8 (b.toNat : Int) := by simp [bc]
theorem bc_one (l : List UInt8) : ∀ u ∈ bc l, u.oneCell' = true := by
  intro u hu
  simp only [bc, List.mem_map] at hu
  obtain ⟨b, _, rfl⟩ := hu
  rfl
theorem bc_str (s : ByteArray) : Lib.strCells s = bc s.data.toList := rfl

/-- The value v is a slice that leads to the bytes l in the world w. -/
def Sl (w : World) (v : Value) (l : List UInt8) : Prop :=
  ∃ ao c, v = .slice ao l.length c ∧ l.length ≤ c ∧ c ≤ maxLen ∧ (ao = none → l = [] ∧ c = 0) ∧
    ∀ a, ao = some a → ∀ j u, (bc l)[j]? = some u → w.cell? (a.add j) = some u

theorem Sl.nil (w : World) : Sl w (.slice none 0 0) [] := ⟨none, 0, rfl, Nat.le_refl _, Nat.zero_le _, fun _ => ⟨rfl, rfl⟩, fun a h => by cases h⟩

theorem Addr.add_block (a : Addr) (j : Nat) : (a.add j).block = a.block := by unfold Addr.add; split <;> rfl

theorem Sl.below {B : Nat} {w w' : World} {v : Value} {l : List UInt8} (h : Sl w v l) (hb : Below B w w') (hB : w.heap.size ≤ B) : Sl w' v l := by
  obtain ⟨ao, c, rfl, h1, h2, h3, h4⟩ := h
  refine ⟨ao, c, rfl, h1, h2, h3, fun a ha j u hu => ?_⟩
  have hc := h4 a ha j u hu
  rw [hb.cell (p := a.add j) (Nat.lt_of_lt_of_le (World.block_lt_of_cell? w _ hc) hB)]
  exact hc

theorem Sl.setCell {w : World} {v : Value} {l : List UInt8} (h : Sl w v l) {p : Addr} {ao : Option Addr} {n c : Nat} (hp : w.cell? p = some (.slice ao n c)) (x : Value) : Sl (w.setCell p x) v l := by
  obtain ⟨bo, d, rfl, h1, h2, h3, h4⟩ := h
  refine ⟨bo, d, rfl, h1, h2, h3, fun a ha j u hu => ?_⟩
  have hc := h4 a ha j u hu
  rw [World.cell?_setCell_other]
  · exact hc
  · intro e
    rw [e, hc] at hp
    rw [bc_get] at hu
    cases hl : l[j]? with
    | none => rw [hl] at hu; cases hu
    | some b => rw [hl] at hu; cases hu; cases hp

theorem Sl.drop {w : World} {ao : Option Addr} {n c : Nat} {l : List UInt8} (h : Sl w (.slice ao n c) l) (k : Nat) (hk : k ≤ l.length) :
    Sl w (.slice (if c = k then ao else ao.map (·.add (k * 1))) (n - k) (c - k)) (l.drop k) := by
  obtain ⟨bo, d, e, h1, h2, h3, h4⟩ := h
  injection e with e1 e2 e3
  subst e1; subst e2; subst e3
  refine ⟨if c = k then ao else ao.map (·.add (k * 1)), c - k, by rw [List.length_drop], ?_, ?_, ?_, ?_⟩
  · rw [List.length_drop]; omega
  · omega
  · intro e
    have : ao = none := by
      split at e
      · exact e
      · cases ao <;> simp at e ⊢
    obtain ⟨rfl, rfl⟩ := h3 this
    simp
  · intro a ha j u hu
    have hj : j < (l.drop k).length := by
      have := (List.getElem?_eq_some_iff.1 hu).1
      rwa [bc_length] at this
    rw [List.length_drop] at hj
    split at ha
    · omega
    · cases ao with
      | none => cases ha
      | some a0 =>
        simp only [Option.map_some, Option.some.injEq] at ha
        subst ha
        rw [Addr.add_add, Nat.mul_one]
        refine h4 a0 rfl (k + j) u ?_
        rw [bc_get] at hu ⊢
        rw [← hu, List.getElem?_drop]

/-- The cells that a slice leads to, as numbers. -/
theorem Sl.cell {w : World} {b o n c : Nat} {l : List UInt8} (h : Sl w (.slice (some ⟨b, o, none⟩) n c) l) (j : Nat) (hj : j < l.length) : w.cell? ⟨b, o + j, none⟩ = some (.int .u8 (l[j].toNat : Int)) := by
  obtain ⟨bo, d, e, h1, h2, h3, h4⟩ := h
  injection e with e1 e2 e3
  subst e1
  have := h4 _ rfl j (.int .u8 (l[j].toNat : Int)) (by rw [bc_get, List.getElem?_eq_getElem hj]; rfl)
  rwa [Addr.add_lit] at this

/-- Where there is a byte, the address has no spot. -/
theorem Sl.addr {w : World} {ao : Option Addr} {n c : Nat} {l : List UInt8} (h : Sl w (.slice ao n c) l) (hl : 0 < l.length) : ∃ b o, ao = some ⟨b, o, none⟩ := by
  obtain ⟨bo, d, e, h1, h2, h3, h4⟩ := h
  injection e with e1 e2 e3
  subst e1
  cases ao with
  | none => have := (h3 rfl).1; subst this; simp at hl
  | some a =>
    have := h4 a rfl 0 (.int .u8 (l[0].toNat : Int)) (by rw [bc_get, List.getElem?_eq_getElem hl]; rfl)
    rw [Addr.add_zero'] at this
    have hs := World.cell?_spot this
    obtain ⟨b, o, s⟩ := a
    simp at hs
    subst hs
    exact ⟨b, o, rfl⟩

/-- The value v owns the bytes l in a row of its own, at or behind block B. -/
def Own (B : Nat) (w : World) (v : Value) (l : List UInt8) : Prop := w.ownsRow B 5 1 v l.length (bc l)

theorem Own.sl {B : Nat} {w : World} {v : Value} {l : List UInt8} (h : Own B w v l) : Sl w v l := by
  have hc := fun g hg => World.ownsRow.cells h (g := g) hg
  rcases h.2 with ⟨rfl, h0⟩ | ⟨g, cap, cur, rfl, hb, hg, h1, h2, h3, h4⟩
  · have : l = [] := List.eq_nil_of_length_eq_zero h0
    subst this
    exact Sl.nil w
  · refine ⟨_, _, rfl, h1, h2, ?_, ?_⟩
    · intro e; cases e
    · intro a ha j u hu; cases ha; exact hc g rfl j u hu

theorem Own.mono {B B' : Nat} {w : World} {v : Value} {l : List UInt8} (h : Own B w v l) (hB : B' ≤ B) : Own B' w v l := by
  refine ⟨h.1, ?_⟩
  rcases h.2 with h0 | ⟨g, cap, cur, rfl, hb, rest⟩
  · exact .inl h0
  · exact .inr ⟨g, cap, cur, rfl, Nat.le_trans hB hb, rest⟩

theorem Tryz.infoByte : (Tryz.prog.info? 5).map (fun i => (i.zero, i.size, i.bytes)) = some (some (.int .u8 0), 1, 1) := by kernel_rfl

theorem ret_bool {a b : Bool} (h : a = b) : Ending.returned (.bool a) = .returned (.bool b) := by rw [h]

theorem Sl.cut {w : World} {ao : Option Addr} {n c : Nat} {l : List UInt8} (h : Sl w (.slice ao n c) l) (k : Nat) (hk : k ≤ l.length) (c' : Nat) (hc : k ≤ c') (hc' : c' ≤ c) : Sl w (.slice ao k c') (l.take k) := by
  obtain ⟨bo, d, e, h1, h2, h3, h4⟩ := h
  injection e with e1 e2 e3
  subst e1; subst e2; subst e3
  refine ⟨ao, c', by rw [List.length_take]; congr 1; omega, by rw [List.length_take]; omega, Nat.le_trans hc' h2, fun e => ?_, fun a ha j u hu => ?_⟩
  · obtain ⟨rfl, rfl⟩ := h3 e
    simp at hk
    subst hk
    exact ⟨rfl, by omega⟩
  · refine h4 a ha j u ?_
    have hj : j < k := by
      have := (List.getElem?_eq_some_iff.1 hu).1
      rw [bc_length, List.length_take] at this
      omega
    rw [bc_get] at hu ⊢
    rw [← hu, List.getElem?_take_of_lt hj]

theorem Sl.drewN {w : World} {v : Value} {l : List UInt8} (h : Sl w v l) (n : Nat) : Sl (w.drewN n) v l := h

/-- A slice's bytes are the same where its block is. -/
theorem Sl.frame {w w' : World} {v : Value} {l : List UInt8} (h : Sl w v l) (hk : ∀ g, v.ownBlock = some g → g < w.heap.size → w'.heap[g]? = w.heap[g]?) : Sl w' v l := by
  obtain ⟨ao, c, rfl, h1, h2, h3, h4⟩ := h
  refine ⟨ao, c, rfl, h1, h2, h3, fun a ha j u hu => ?_⟩
  have hc := h4 a ha j u hu
  subst ha
  have hlt := World.block_lt_of_cell? w _ hc
  rw [Addr.add_block] at hlt
  rw [World.cell?_of_block (w := w) (by rw [Addr.add_block]; exact hk a.block rfl hlt)]
  exact hc

theorem Sl.later {w w' : World} {v : Value} {l : List UInt8} (h : Sl w v l) (hb : Below w.heap.size w w') : Sl w' v l := h.below hb (Nat.le_refl _)

theorem Own.frame {B : Nat} {w w' : World} {v : Value} {l : List UInt8} (h : Own B w v l) (hk : ∀ g, v.ownBlock = some g → g < w.heap.size → w'.heap[g]? = w.heap[g]?) : Own B w' v l := by
  refine ⟨h.1, ?_⟩
  rcases h.2 with hn | ⟨g, cap, cur, rfl, hb, hgg, rest⟩
  · exact .inl hn
  · refine .inr ⟨g, cap, cur, rfl, hb, ?_, rest⟩
    rw [hk g rfl (Array.getElem?_eq_some_iff.1 hgg).1]
    exact hgg

theorem Own.later {B : Nat} {w w' : World} {v : Value} {l : List UInt8} (h : Own B w v l) (hb : Below w.heap.size w w') : Own B w' v l := h.frame fun g _ hg => hb.block g hg

theorem Own.lit0 (w : World) : Own w.heap.size (w.alloc (.cells #[] 5)) (.slice (some ⟨w.heap.size, 0, none⟩) 0 0) [] :=
  World.ownsRow_lit w #[] 0 (Nat.le_refl _) (Nat.zero_le _) rfl

theorem Own.val {B : Nat} {w : World} {v : Value} {l : List UInt8} (h : Own B w v l) : ∃ ao c, v = .slice ao l.length c := by
  obtain ⟨ao, c, rfl, _⟩ := h.sl; exact ⟨_, _, rfl⟩

/-- Bytes as a text. -/
def bs (l : List UInt8) : ByteArray := ⟨l.toArray⟩

theorem bs_inj {l m : List UInt8} (h : bs l = bs m) : l = m := by
  have := congrArg (fun b : ByteArray => b.data.toList) h
  simpa [bs] using this

theorem bs_list (l : List UInt8) : (bs l).toList = l := ByteArray.toList_mk l

set_option maxRecDepth 100000 in
/-- Bytes as a string: what the conversion answers. -/
theorem conv_sl (w : World) (v : Value) (l : List UInt8) (hs : Sl w v l) : (convert 22 9 v).run Tryz.prog w = .ok (.string (bs l)) w := by
  have hs' := hs
  obtain ⟨ao, c, rfl, h1, h2, h3, h4⟩ := hs
  by_cases h0 : l = []
  · subst h0
    cases ao with
    | none => exact run_convert_bytes_nil (P := Tryz.prog) w 22 5 Tryz.underlying22 Tryz.underlying5 0 c 9 Tryz.underlying9
    | some a =>
      rw [run_convert_bytes_string w 22 9 5 _ _ c Tryz.underlying22 Tryz.underlying5 Tryz.underlying9]
      exact run_bytesToString w a 0 c [] (by simp [loadCells, loadCellsFrom])
  · have hp : 0 < l.length := by cases l <;> simp_all
    obtain ⟨b, o, rfl⟩ := hs'.addr hp
    have := run_convert_bytes_arg (P := Tryz.prog) w 22 5 Tryz.underlying22 Tryz.underlying5 b o l.length c (l.map fun b => (b.toNat : Int)) (by simp) (fun i hi => by
      rw [hs'.cell i hi]
      simp [List.getD, List.getElem?_map, List.getElem?_eq_getElem hi]) 9 Tryz.underlying9
    rw [this]
    congr 2
    apply ByteArray.ext
    apply Array.toList_inj.1
    rw [strOfNums_data, List.map_map]
    show List.map _ l = l
    conv => rhs; rw [← List.map_id l]
    apply List.map_congr_left
    intro x _
    simp

/-- A slice with no room behind its bytes. -/
def Tight (v : Value) : Prop := ∃ ao n, v = .slice ao n n

theorem Sl.src {w : World} {v : Value} {l : List UInt8} (h : Sl w v l) : Src Tryz.prog 1 22 v l.length (bc l) w := by
  obtain ⟨ao, c, rfl, h1, h2, h3, h4⟩ := h
  cases ao with
  | some a => exact Src.ofSlice w Tryz.underlying22 a l.length c (bc l) (by simp [bc_length]) (h4 a rfl) (bc_one _)
  | none =>
    obtain ⟨rfl, rfl⟩ := h3 rfl
    exact Src.ofNil (P := Tryz.prog) (size := 1) w Tryz.underlying22 0

/-- What append answers: nothing new; in place; or in a new row. -/
def Appd (w : World) (v : Value) (l news : List UInt8) (v' : Value) (w' : World) : Prop :=
  (v' = v ∧ w' = w ∧ news = []) ∨
  (∃ g n c, l.length < c ∧ v = .slice (some ⟨g, 0, none⟩) l.length c ∧ v' = .slice (some ⟨g, 0, none⟩) n c ∧ Own 0 w v l ∧ Own 0 w' v' (l ++ news) ∧ w.grownBy w' (some g)) ∨
  (Own w.heap.size w' v' (l ++ news) ∧ w.grownBy w' none)

/-- append onto a slice that is tight, or the row of the call's own: nothing new; in place; or in a new row. -/
theorem run_append_gr (w : World) (v x : Value) (l news : List UInt8) (hg : Tight v ∨ Own 0 w v l) (hv : Sl w v l) (hx : Sl w x news) (hlen : l.length + news.length ≤ 70368744177664) (ty : TypeId) :
    ∃ v' w', (Builtin.append_ #[22, 22] ty #[v, x]).run Tryz.prog w = .ok v' w' ∧
      Appd w v l news v' w' := by
  obtain ⟨i0, hi, hz0, hz1, hz2⟩ := info_parts Tryz.infoByte
  by_cases h0 : news = []
  · subst h0
    obtain ⟨ao, c, rfl, h1, h2, h3, h4⟩ := hv
    have hs := hx.src
    rw [← hz1] at hs
    exact ⟨_, _, run_append_nothing (P := Tryz.prog) w 22 22 ty 5 i0 Tryz.underlying22 hi ao l.length c h1 x hs, .inl ⟨rfl, rfl, rfl⟩⟩
  have hp : 0 < news.length := by cases news <;> simp_all
  obtain ⟨xo, xc, rfl, hx1, hx2, hx3, hx4⟩ := id hx
  obtain ⟨xb, xoff, rfl⟩ := hx.addr hp
  have hc := hx4 _ rfl
  have nilCase : v = .slice none 0 0 → l = [] → ∃ v' w', (Builtin.append_ #[22, 22] ty #[v, .slice (some ⟨xb, xoff, none⟩) news.length xc]).run Tryz.prog w = .ok v' w' ∧ (Own w.heap.size w' v' (l ++ news) ∧ w.grownBy w' none) := by
    rintro rfl rfl
    obtain ⟨v2, w2, hr2, h22, h23, _⟩ := run_append_own (P := Tryz.prog) w w.heap.size 22 ty 5 i0 (.int .u8 0) 1 1 Tryz.underlying22 hi hz0 hz1 hz2 rfl (by decide) (.slice none 0 0) 0 [] (World.ownsRow_nil w _ _ _) ⟨xb, xoff, none⟩ news.length xc (bc news) (by simp [bc_length]) hc (bc_one _)
      (by unfold maxLen; simp at hlen ⊢; omega) (by simp at hlen ⊢; omega) (Nat.le_refl _)
    refine ⟨v2, w2, hr2, ?_, h23⟩
    unfold Own
    rw [List.nil_append]
    simpa using h22
  have growCase : ∀ a c, v = .slice (some a) l.length c → c < l.length + news.length → ∃ v' w', (Builtin.append_ #[22, 22] ty #[v, .slice (some ⟨xb, xoff, none⟩) news.length xc]).run Tryz.prog w = .ok v' w' ∧ (Own w.heap.size w' v' (l ++ news) ∧ w.grownBy w' none) := by
    rintro a c rfl hc2
    obtain ⟨ao, d, e, h1, h2, h3, h4⟩ := hv
    injection e with e1 e2 e3
    subst e1
    obtain ⟨v2, w2, hr2, h22, h23⟩ := run_append_arg_grows (P := Tryz.prog) w 22 ty 5 i0 (.int .u8 0) 1 1 Tryz.underlying22 hi hz0 hz1 hz2 rfl (by decide) a l.length c (bc l) (by simp [bc_length]) (h4 a rfl) ⟨xb, xoff, none⟩ news.length xc (bc news) (by simp [bc_length]) hc hc2
      (by unfold maxLen; omega) (by omega)
    refine ⟨v2, w2, hr2, ?_, h23⟩
    unfold Own
    rw [bc_append, List.length_append]
    exact h22
  rcases hg with ⟨ao, n, rfl⟩ | ho
  · obtain ⟨bo, d, e, h1, h2, h3, h4⟩ := id hv
    injection e with e1 e2 e3
    subst e1 e2 e3
    cases ao with
    | none =>
      obtain ⟨v', w', hr, h⟩ := nilCase (by rw [(h3 rfl).1]; rfl) (h3 rfl).1
      exact ⟨v', w', hr, .inr (.inr h)⟩
    | some a =>
      obtain ⟨v', w', hr, h⟩ := growCase a l.length rfl (by omega)
      exact ⟨v', w', hr, .inr (.inr h)⟩
  · rcases ho.2 with ⟨rfl, hl0⟩ | ⟨g, cap, cur, rfl, hbg, hgg, hnc, hcm, hcs, htake⟩
    · obtain ⟨v', w', hr, h⟩ := nilCase rfl (List.eq_nil_of_length_eq_zero hl0)
      exact ⟨v', w', hr, .inr (.inr h)⟩
    · by_cases hroom : l.length + news.length ≤ cap
      · have hfit : l.length * i0.size + (bc news).length ≤ cur.size := by rw [hz1, bc_length, hcs]; omega
        have hr2 := run_append_room (P := Tryz.prog) w 22 ty 5 i0 Tryz.underlying22 hi g l.length cap cur hgg ⟨xb, xoff, none⟩ news.length xc (bc news) (by rw [bc_length, hz1, Nat.mul_one]) hc (bc_one _) hroom hfit
        obtain ⟨v', w', hr, r2, r3, _⟩ := run_append_own (P := Tryz.prog) w 0 22 ty 5 i0 (.int .u8 0) 1 1 Tryz.underlying22 hi hz0 hz1 hz2 rfl (by decide) _ l.length (bc l) ho ⟨xb, xoff, none⟩ news.length xc (bc news) (by simp [bc_length]) hc (bc_one _)
          (by unfold maxLen; omega) (by omega) (Nat.zero_le _)
        have e := hr2
        rw [hr] at e
        injection e with e1 e2
        refine ⟨v', w', hr, .inr (.inl ⟨g, l.length + news.length, cap, by omega, rfl, e1, ho, ?_, r3⟩)⟩
        unfold Own
        rw [bc_append, List.length_append]
        exact r2
      · obtain ⟨v', w', hr, h⟩ := growCase ⟨g, 0, none⟩ cap rfl (by omega)
        exact ⟨v', w', hr, .inr (.inr h)⟩

end Go.Proofs.YtcdehnghggleoaaGreat.P1

/-
  Contracts of package pack's functions over this translation: what each call answers and does to memory. No law is proved here; it is a text that the proofs of layer 1 share.
-/
namespace Go.Proofs.YtcdehnghggleoaaGreat.P1
open Go.RowKit
set_option linter.unusedVariables false


/-- A slice without room behind it. -/
def Full (w : World) (v : Value) (l : List UInt8) : Prop :=
  ∃ ao, v = .slice ao l.length l.length ∧ (ao = none → l = []) ∧ ∀ a, ao = some a → ∀ j u, (bc l)[j]? = some u → w.cell? (a.add j) = some u

/-- A slice without room, or a row of the call's own. -/
def Onb (B : Nat) (w : World) (v : Value) (l : List UInt8) : Prop := Full w v l ∨ Own B w v l

theorem Onb.alloc {B : Nat} {w : World} {v : Value} {l : List UInt8} (h : Onb B w v l) (o : Obj) : Onb B (w.alloc o) v l := by
  rcases h with ⟨ao, h1, h2, h3⟩ | h
  · refine .inl ⟨ao, h1, h2, fun a ha j u hu => ?_⟩
    have hc := h3 a ha j u hu
    rw [World.cell?_of_block (w := w) (Below.heap_alloc w o _ (World.block_lt_of_cell? w _ hc))]
    exact hc
  · exact .inr (World.ownsRow.alloc h o)

theorem wpList_append_onb {ops : Array Oper} {rest : List Oper} {o : Oper} {a : Act} {Q : Exit → Act → World → Prop} (w : World) (hgd : o.guard = none) (s x : Operand)
    (ho : o.op = .call { callee := .builtin .append, args := #[s, x], argTypes := #[22, 22] })
    (B : Nat) (hB : B ≤ w.heap.size) (v : Value) (l : List UInt8) (hv : a.eval s = v) (h : Onb B w v l)
    (ad : Addr) (c : Nat) (news : List UInt8) (m : Nat) (hm : news.length = m) (hx : a.eval x = .slice (some ad) m c) (hc : ∀ j u, (bc news)[j]? = some u → w.cell? (ad.add j) = some u)
    (hpos : 0 < m) (hlen : l.length + m ≤ 70368744177664)
    (hK : ∀ v' w', Own B w' v' (l ++ news) → Below B w w' → wpList Tryz.prog ops Q rest (a.put o.dst v') w') : wpList Tryz.prog ops Q (o :: rest) a w := by
  obtain ⟨i0, hi, hz0, hz1, hz2⟩ := info_parts Tryz.infoByte
  subst hm
  rcases h with ⟨ao, rfl, h2, h3⟩ | h
  · refine wpList_append_grows w hgd s x 22 ho 5 i0 (.int .u8 0) 1 1 Tryz.underlying22 hi hz0 hz1 hz2 rfl (by decide) ao l.length l.length (bc l) hv (fun e => by rw [h2 e]; simp) (by simp [bc_length]) h3
      ad news.length c (bc news) hx (by simp [bc_length]) hc (bc_one _) (by omega) (by unfold maxLen; omega) (by omega) fun v' w' ho' hg => hK v' w' ?_ ?_
    · have : Own w.heap.size w' v' (l ++ news) := by unfold Own; rw [bc_append, List.length_append]; exact ho'
      exact this.mono hB
    · exact (Below.refl B w).grown hg hB (fun k hk => by cases hk)
  · refine wpList_append_own w hgd s x 22 ho B 5 i0 (.int .u8 0) 1 1 Tryz.underlying22 hi hz0 hz1 hz2 rfl (by decide) v l.length (bc l) hv h
      ad news.length c (bc news) hx (by simp [bc_length]) hc (bc_one _) (by unfold maxLen; omega) (by omega) hB fun v' w' ho' hg _ => hK v' w' ?_ ?_
    · unfold Own; rw [bc_append, List.length_append]; exact ho'
    · exact (Below.refl B w).grown hg hB (fun k hk => (World.ownsRow.lt h k hk).1)

/-- One byte in a block of its own. -/
theorem cell_new1 (w : World) (b : UInt8) (n : Int) (hb : (b.toNat : Int) = n) : ∀ j u, (bc [b])[j]? = some u → (w.alloc (.cells #[.int .u8 n] 5)).cell? ((⟨w.heap.size, 0, none⟩ : Addr).add j) = some u := by
  intro j u hu
  match j, hu with
  | 0, hu =>
    simp [bc] at hu
    subst hu
    rw [hb]
    simp [Addr.add]
  | j + 1, hu => simp [bc] at hu

/-- The bytes of a number. -/
def enc (v : Nat) : List UInt8 :=
  if h : v < 128 then [UInt8.ofNat v] else UInt8.ofNat (v % 128 + 128) :: enc (v / 128)

theorem enc_small {v : Nat} (h : v < 128) : enc v = [UInt8.ofNat v] := by rw [enc, dif_pos h]
theorem enc_pos (v : Nat) : 0 < (enc v).length := by rw [enc]; split <;> simp
theorem enc_big {v : Nat} (h : 128 ≤ v) : enc v = UInt8.ofNat (v % 128 + 128) :: enc (v / 128) := by rw [enc, dif_neg (by omega)]

theorem enc_len : ∀ (k v : Nat), v < 128 ^ (k + 1) → (enc v).length ≤ k + 1
  | 0, v, h => by rw [enc_small (by simpa using h)]; simp
  | k + 1, v, h => by
    by_cases hx : v < 128
    · rw [enc_small hx]; simp
    · rw [enc_big (by omega), List.length_cons]
      have := enc_len k (v / 128) (by rw [Nat.pow_succ] at h; exact Nat.div_lt_of_lt_mul (by rw [Nat.mul_comm]; exact h))
      omega

/-- A number takes at most nine bytes. -/
theorem enc_len9 {v : Nat} (h : v ≤ 9223372036854775807) : (enc v).length ≤ 9 := enc_len 8 v (Nat.lt_of_le_of_lt h (by decide))

end Go.Proofs.YtcdehnghggleoaaGreat.P1

/-
  pack.Number: what it answers.
-/
namespace Go.Proofs.YtcdehnghggleoaaGreat.P1
open Go.RowKit
set_option linter.unusedVariables false

theorem number_step (x : Int) (y : Nat) (k : List UInt8) (h : enc x.toNat = k ++ enc y) (hy : 128 ≤ y) : enc x.toNat = (k ++ [UInt8.ofNat (y % 128 + 128)]) ++ enc (y / 128) := by
  rw [h, enc_big hy]; simp

theorem number_last (x : Int) (y : Nat) (k : List UInt8) (h : enc x.toNat = k ++ enc y) (hy : y < 128) : enc x.toNat = k ++ [UInt8.ofNat y] := by
  rw [h, enc_small hy]

set_option maxRecDepth 100000 in
set_option maxHeartbeats 400000 in
theorem number_any (v : Value) (l : List UInt8) (x : Int) (w : World) (hs : Sl w v l) (hl : l.length ≤ 1099511627776) (hx : x ≤ 9223372036854775807) :
    Calls Tryz.prog 31 #[v, .int .i64 x] w fun e w' => ∃ r, e = .returned r ∧ Own w.heap.size w' r (l ++ enc x.toNat) ∧ Below w.heap.size w w' := by
  obtain ⟨ao, c, rfl, h1, h2, h3, h4⟩ := hs
  have hfull : Onb w.heap.size w (.slice ao l.length l.length) (l ++ []) := by rw [List.append_nil]; exact .inl ⟨ao, rfl, fun e => (h3 e).1, h4⟩
  unfold maxLen at h2
  have H3 : Hid (ao = none → l = [] ∧ c = 0) := h3
  have H4 : Hid (∀ a, ao = some a → ∀ j u, (bc l)[j]? = some u → w.cell? (a.add j) = some u) := h4
  clear h3 h4
  go_enter Tryz.func31, Tryz.ntmps31
  go_wp2
  all_goals
    go_loopw [1, 5] (fun i out wr => ∃ (k : List UInt8) (y : Nat), i = .int .i64 y ∧ y ≤ 9223372036854775807 ∧ enc x.toNat = k ++ enc y ∧ Onb w.heap.size wr out (l ++ k) ∧ Below w.heap.size w wr)
      (fun i _ _ => (intOf i).toNat)
    case atStart => exact ⟨[], x.toNat, by first | (congr 1; omega) | (rw [Int.toNat_of_nonneg (by omega)]), by omega, rfl, hfull, Below.refl _ _⟩
    case round =>
      obtain ⟨k, y, rfl, hy, hk, hown, hbel⟩ := hrel
      have hk9 : k.length ≤ 9 := by have := enc_len9 (v := x.toNat) (by omega); rw [hk, List.length_append] at this; omega
      have Hk : Hid (enc x.toNat = k ++ enc y) := hk
      clear hk
      by_cases hbig : 128 ≤ y
      · obtain ⟨b, hbv, hbe⟩ : ∃ b : UInt8, (b.toNat : Int) = (y : Int) % 128 + 128 ∧ Hid (b = UInt8.ofNat (y % 128 + 128)) := ⟨_, by simp [UInt8.toNat_ofNat']; omega, rfl⟩
        have Hb : Hid ((b.toNat : Int) = (y : Int) % 128 + 128) := hbv
        clear hbv
        go_wp2_with (at_builtin; refine wpList_append_onb _ rfl (.tmp 16) (.tmp 21) rfl w.heap.size ?hB _ _ rfl (hown.alloc _) ⟨wr.heap.size, 0, none⟩ 1 [b] 1 rfl rfl ?hc (by decide) ?hl ?_)
        case hB => have := hbel.size; simp; omega
        case hl => simp; omega
        case hc => exact cell_new1 _ _ _ Hb.out
        intro v' w1 ho hb
        go_wp2
        go_roundw
        case rel => exact ⟨k ++ [b], y / 128, by go_num, by omega, by rw [hbe.out]; exact number_step x y k Hk.out hbig, .inr ho, (hbel.alloc (by have := hbel.size; omega) _).trans hb⟩
        case measure => simp [intOf]; omega
      · obtain ⟨b, hbv, hbe⟩ : ∃ b : UInt8, (b.toNat : Int) = (y : Int) ∧ Hid (b = UInt8.ofNat y) := ⟨_, by simp [UInt8.toNat_ofNat']; omega, rfl⟩
        have Hb : Hid ((b.toNat : Int) = (y : Int)) := hbv
        clear hbv
        go_wp2_with (at_builtin; refine wpList_append_onb _ rfl (.tmp 25) (.tmp 28) rfl w.heap.size ?hB' _ _ rfl (hown.alloc _) ⟨wr.heap.size, 0, none⟩ 1 [b] 1 rfl rfl ?hc' (by decide) ?hl' ?_)
        case hB' => have := hbel.size; simp; omega
        case hl' => simp; omega
        case hc' => exact cell_new1 _ _ _ Hb.out
        intro v' w1 ho hb
        go_wp2
        go_ret
        refine ⟨v', rfl, ?_, (hbel.alloc (by have := hbel.size; omega) _).trans hb⟩
        rw [number_last x y k Hk.out (by omega), ← hbe.out, ← List.append_assoc]
        first | exact ho | (rw [List.append_assoc]; exact ho)

end Go.Proofs.YtcdehnghggleoaaGreat.P1

/-
  pack.Flag, pack.Text: what they answer.
-/
namespace Go.Proofs.YtcdehnghggleoaaGreat.P1
open Go.RowKit
set_option linter.unusedVariables false

/-- The bytes of a flag, of a text. -/
def encF (b : Bool) : List UInt8 := if b then [1] else [0]
def encT (s : ByteArray) : List UInt8 := enc s.size ++ s.data.toList

theorem str_len (s : ByteArray) : s.data.toList.length = s.size := Array.length_toList

theorem enc_one : enc 1 = [1] := by rw [enc_small (by decide)]; rfl
theorem enc_zero : enc 0 = [0] := by rw [enc_small (by decide)]; rfl

set_option maxRecDepth 100000 in
set_option maxHeartbeats 400000 in
theorem flag_any (v : Value) (l : List UInt8) (b : Bool) (w : World) (hs : Sl w v l) (hl : l.length ≤ 1099511627776) :
    Calls Tryz.prog 65 #[v, .bool b] w fun e w' => ∃ r, e = .returned r ∧ Own w.heap.size w' r (l ++ encF b) ∧ Below w.heap.size w w' := by
  have hv : ∃ ao n c, v = .slice ao n c := by obtain ⟨ao, c, rfl, _⟩ := hs; exact ⟨_, _, _, rfl⟩
  obtain ⟨ao, n, c, rfl⟩ := hv
  cases b
  · go_enter Tryz.func65, Tryz.ntmps65
    go_wp2_with fail
    refine (number_any _ l 0 _ hs hl (by decide)).mono ?_
    rintro e w' ⟨r, rfl, ho, hb⟩
    go_wp2
    go_ret
    exact ⟨_, rfl, by simpa [encF, enc_zero] using ho, hb⟩
  · go_enter Tryz.func65, Tryz.ntmps65
    go_wp2_with fail
    refine (number_any _ l 1 _ hs hl (by decide)).mono ?_
    rintro e w' ⟨r, rfl, ho, hb⟩
    go_wp2
    go_ret
    exact ⟨_, rfl, by simpa [encF, enc_one] using ho, hb⟩

set_option maxRecDepth 100000 in
set_option maxHeartbeats 400000 in
theorem text_any (v : Value) (l : List UInt8) (s : ByteArray) (w : World) (hs : Sl w v l) (hl : l.length ≤ 1099511627776) (hss : s.size ≤ 1099511627776) :
    Calls Tryz.prog 32 #[v, .string s] w fun e w' => ∃ r, e = .returned r ∧ Own w.heap.size w' r (l ++ encT s) ∧ Below w.heap.size w w' := by
  have hv : ∃ ao n c, v = .slice ao n c := by obtain ⟨ao, c, rfl, _⟩ := hs; exact ⟨_, _, _, rfl⟩
  obtain ⟨ao, n, c, rfl⟩ := hv
  obtain ⟨i0, hi, hz0, hz1, hz2⟩ := info_parts Tryz.infoByte
  have h9 := enc_len9 (v := s.size) (by omega)
  go_enter Tryz.func32, Tryz.ntmps32
  go_wp2_with fail
  refine (number_any _ l s.size _ hs hl (by omega)).mono ?_
  rintro e w' ⟨r, rfl, ho, hb⟩
  rw [Int.toNat_natCast] at ho
  go_wp2_with (at_builtin; refine Lib.wpList_append_own_string _ rfl (.tmp 8) (.tmp 9) 22 9 rfl w.heap.size 5 i0 Tryz.underlying22 Tryz.underlying9 hi hz0 hz1 hz2 _ _ _ rfl ho s rfl ?h1 ?h2 hb.size ?_)
  case h1 => unfold maxLen; rw [List.length_append]; omega
  case h2 => rw [List.length_append]; omega
  intro v' w1 ho' hg _
  have R : Own w.heap.size w1 v' (l ++ encT s) := by
    unfold Own encT
    rw [← List.append_assoc, bc_append, List.length_append, List.length_append, str_len]
    exact ho'
  have R2 : Below w.heap.size w w1 := hb.grown hg hb.size (fun k hk => (World.ownsRow.lt ho k hk).1)
  clear ho' hg ho hb
  go_wp2
  go_ret
  exact ⟨_, rfl, R, R2⟩

end Go.Proofs.YtcdehnghggleoaaGreat.P1

/-
  bytes.Clone, pack.Open, pack.first: what they answer.
-/
namespace Go.Proofs.YtcdehnghggleoaaGreat.P1
open Go.RowKit
set_option linter.unusedVariables false


set_option maxRecDepth 100000 in
set_option maxHeartbeats 400000 in
theorem clone_any (v : Value) (l : List UInt8) (w : World) (hs : Sl w v l) (hl : l.length ≤ 1099511627776) :
    Calls Tryz.prog 44 #[v] w fun e w' => ∃ r, e = .returned r ∧ Own w.heap.size w' r l ∧ Below w.heap.size w w' := by
  obtain ⟨ao, c, rfl, h1, h2, h3, h4⟩ := hs
  obtain ⟨i0, hi, hz0, hz1, hz2⟩ := info_parts Tryz.infoByte
  have hE := fun (a : Option Addr) (n c : Nat) (w : World) => Lib.run_eql_slice_nil (P := Tryz.prog) w 22 5 a n c 0 0 Tryz.underlying22
  cases ao with
  | none =>
    obtain ⟨rfl, rfl⟩ := h3 rfl
    clear h3 h4
    go_enter Tryz.func44, Tryz.ntmps44
    go_wp2
    go_ret
    exact ⟨_, rfl, World.ownsRow_nil _ _ _ _, Below.refl _ _⟩
  | some a =>
    have H4 : Hid (∀ j u, (bc l)[j]? = some u → w.cell? (a.add j) = some u) := h4 a rfl
    clear h3 h4
    have h0 := Own.lit0 w
    go_enter Tryz.func44, Tryz.ntmps44
    go_wp2_with (at_builtin; refine wpList_append_own _ rfl (.tmp 5) (.tmp 6) 22 rfl w.heap.size 5 i0 (.int .u8 0) 1 1 Tryz.underlying22 hi hz0 hz1 hz2 rfl (by decide) _ _ _ rfl h0 a l.length c (bc l) rfl ?h1 ?h2 (bc_one _) ?h3 ?h4 ?h5 ?_)
    case h1 => simp [bc_length]
    case h2 =>
      intro j u hu
      have hc := H4.out j u hu
      rw [World.cell?_of_block (w := w) (Below.heap_alloc w _ _ (World.block_lt_of_cell? w _ hc))]
      exact hc
    case h3 => unfold maxLen; simp; omega
    case h4 => simp; omega
    case h5 => simp
    intro v' w1 ho hg _
    have R : Own w.heap.size w1 v' l := by unfold Own; simpa [bc] using ho
    have R2 : Below w.heap.size w w1 := ((Below.refl _ w).alloc (Nat.le_refl _) _).grown hg (by simp) (fun k hk => (World.ownsRow.lt h0 k hk).1)
    clear ho hg h0
    go_wp2
    go_ret
    exact ⟨_, rfl, R, R2⟩

/-- The number that bytes begin with, and how many bytes it has (n: how many may be looked at; i, v: what was read). -/
def dec : Nat → Nat → Nat → List UInt8 → Nat × Nat
  | 0, _, _, _ => (0, 0)
  | _ + 1, _, _, [] => (0, 0)
  | n + 1, i, v, c :: l =>
    if 128 ≤ c.toNat then dec n (i + 1) (v + c.toNat % 128 * 128 ^ i) l
    else if c.toNat = 0 ∧ 0 < i then (0, 0) else (v + c.toNat % 128 * 128 ^ i, i + 1)

def first (l : List UInt8) : Nat × Nat := dec 9 0 0 l

theorem wraps_i64 (n : Int) (h₀ : 0 ≤ n) (h₁ : n < 2 ^ 63) : IntKind.i64.wrap n = n := by rw [IntKind.wrap_i64]; omega

theorem pow128 (k : Nat) : 128 ^ k = 2 ^ (7 * k) := by rw [Nat.pow_mul]

theorem digit_lt (k c : Nat) (hk : k ≤ 8) : c % 128 * 128 ^ k < 2 ^ 63 := by
  have h1 : 128 ^ k ≤ 128 ^ 8 := Nat.pow_le_pow_right (by decide) hk
  have h2 : c % 128 ≤ 127 := by omega
  have h3 : c % 128 * 128 ^ k ≤ 127 * 128 ^ 8 := Nat.mul_le_mul h2 h1
  exact Nat.lt_of_le_of_lt h3 (by decide)

/-- One digit of seven bits more. -/
theorem or_step (k v c : Nat) (hk : k ≤ 8) (hv : v < 128 ^ k) : bits .or .i64 v (wrap64 ((c : Int) % 128 * 2 ^ (7 * k))) = ((v + c % 128 * 128 ^ k : Nat) : Int) := by
  have hd := digit_lt k c hk
  have e1 : (c : Int) % 128 * 2 ^ (7 * k) = ((c % 128 * 128 ^ k : Nat) : Int) := by rw [pow128]; simp
  have e2 : wrap64 ((c % 128 * 128 ^ k : Nat) : Int) = ((c % 128 * 128 ^ k : Nat) : Int) := by unfold wrap64; omega
  have h8 : 128 ^ k ≤ 128 ^ 8 := Nat.pow_le_pow_right (by decide) hk
  have hv63 : v < 2 ^ 63 := Nat.lt_of_lt_of_le hv (Nat.le_trans h8 (by decide))
  rw [e1, e2, (bits_nat .i64 63 (by decide) wraps_i64 v _ hv63 hd).2, pow128, Nat.or_comm, Nat.mul_comm, ← Nat.two_pow_add_eq_or_of_lt (by rw [← pow128]; exact hv)]
  congr 1
  omega

theorem or_zero (k v : Nat) (hk : k ≤ 8) (hv : v < 128 ^ k) : bits .or .i64 v (wrap64 0) = ((v + 0 % 128 * 128 ^ k : Nat) : Int) := by
  have := or_step k v 0 hk hv
  simpa using this

theorem dec_more (k v : Nat) (l : List UInt8) (hk : k < 9) (hl : k < l.length) (h : 128 ≤ l[k].toNat) : dec (9 - k) k v (l.drop k) = dec (9 - (k + 1)) (k + 1) (v + l[k].toNat % 128 * 128 ^ k) (l.drop (k + 1)) := by
  rw [List.drop_eq_getElem_cons hl, show 9 - k = (9 - (k + 1)) + 1 by omega, dec, if_pos h]

theorem dec_last (k v : Nat) (l : List UInt8) (hk : k < 9) (hl : k < l.length) (h : l[k].toNat < 128) (h0 : ¬ (l[k].toNat = 0 ∧ 0 < k)) : dec (9 - k) k v (l.drop k) = (v + l[k].toNat % 128 * 128 ^ k, k + 1) := by
  rw [List.drop_eq_getElem_cons hl, show 9 - k = (9 - (k + 1)) + 1 by omega, dec, if_neg (by omega), if_neg h0]

theorem dec_nought (k v : Nat) (l : List UInt8) (hk : k < 9) (hl : k < l.length) (h : l[k].toNat = 0) (h0 : 0 < k) : dec (9 - k) k v (l.drop k) = (0, 0) := by
  rw [List.drop_eq_getElem_cons hl, show 9 - k = (9 - (k + 1)) + 1 by omega, dec, if_neg (by omega), if_pos ⟨h, h0⟩]

theorem dec_none (k v : Nat) (l : List UInt8) (h : k = 9 ∨ l.length ≤ k) : dec (9 - k) k v (l.drop k) = (0, 0) := by
  rcases h with rfl | h
  · rfl
  · rw [List.drop_eq_nil_of_le h]
    cases 9 - k <;> rfl

theorem pow_step (k v c : Nat) (hv : v < 128 ^ k) : v + c % 128 * 128 ^ k < 128 ^ (k + 1) := by
  have h2 : c % 128 ≤ 127 := by omega
  have h3 : c % 128 * 128 ^ k ≤ 127 * 128 ^ k := Nat.mul_le_mul_right _ h2
  rw [Nat.pow_succ]
  omega

theorem ret_two {a b c d : Int} (h1 : a = c) (h2 : b = d) : Ending.returned (.tuple #[.int .i64 a, .int .i64 b]) = .returned (.tuple #[.int .i64 c, .int .i64 d]) := by rw [h1, h2]

set_option maxRecDepth 100000 in
set_option maxHeartbeats 400000 in
theorem first_any (v : Value) (l : List UInt8) (w : World) (hs : Sl w v l) (hl : l.length ≤ 1099511627776) :
    Calls Tryz.prog 82 #[v] w fun e w' => e = .returned (.tuple #[.int .i64 (first l).1, .int .i64 (first l).2]) ∧ w' = w := by
  have hv : ∃ ao c, v = .slice ao l.length c ∧ l.length ≤ c ∧ c ≤ maxLen := by obtain ⟨ao, c, rfl, h1, h2, _⟩ := hs; exact ⟨_, _, rfl, h1, h2⟩
  obtain ⟨ao, c, rfl, h1, h2⟩ := hv
  unfold maxLen at h2
  have Hs : Hid (Sl w (.slice ao l.length c) l) := hs
  clear hs
  by_cases h9 : 9 < l.length
  all_goals
    go_enter Tryz.func82, Tryz.ntmps82
    go_wp2
    go_loop [2, 12] (fun x i => ∃ k v : Nat, k ≤ 9 ∧ k ≤ l.length ∧ i = .int .i64 k ∧ x = .int .i64 v ∧ v < 128 ^ k ∧ first l = dec (9 - k) k v (l.drop k)) (fun _ i => 9 - (intOf i).toNat)
    case atStart => exact ⟨0, 0, by omega, by omega, rfl, rfl, by decide, rfl⟩
    case round =>
      obtain ⟨k, v, hk, hkl, rfl, rfl, hv, hf⟩ := hrel
      have Hf : Hid (first l = dec (9 - k) k v (l.drop k)) := hf
      have Hv : Hid (v < 128 ^ k) := hv
      clear hf hv
      by_cases hlt : k < 9 ∧ k < l.length
      · obtain ⟨hk9, hb⟩ := hlt
        obtain ⟨b, o, rfl⟩ := Hs.out.addr (by omega)
        have hc := Hs.out.cell k hb
        have hcb : (l[k].toNat : Int) < 256 := by have := l[k].toNat_lt; omega
        obtain ⟨cn, hcn⟩ : ∃ cn, Hid (l[k].toNat = cn) := ⟨l[k].toNat, Eq.refl l[k].toNat⟩
        rw [hcn.out] at hc hcb
        go_wp2
        · go_round
          case rel => exact ⟨k + 1, v + cn % 128 * 128 ^ k, by omega, by omega, by go_num, by rw [or_step k v cn (by omega) Hv.out], pow_step k v cn Hv.out, by rw [Hf.out, dec_more k v l hk9 hb (by rw [hcn.out]; omega), hcn.out]⟩
          case measure => simp [intOf]; omega
        all_goals
          go_ret2
          refine ⟨?_, rfl⟩
          first
          | (rw [Hf.out, dec_nought k v l hk9 hb (by rw [hcn.out]; assumption) (by assumption)]; rfl)
          | (rw [Hf.out, dec_last k v l hk9 hb (by rw [hcn.out]; omega) (by rw [hcn.out]; omega), hcn.out, or_step k v cn (by omega) Hv.out]; rfl)
          | (obtain rfl : cn = 0 := by assumption
             rw [Hf.out, dec_last k v l hk9 hb (by rw [hcn.out]; omega) (by rw [hcn.out]; omega), hcn.out, or_zero k v (by omega) Hv.out]; rfl)
      · go_wp2
        go_ret2
        refine ⟨?_, rfl⟩
        rw [Hf.out, dec_none k v l (by omega)]
        rfl

end Go.Proofs.YtcdehnghggleoaaGreat.P1

/-
  pack.Open and the reader's Number, Flag, Text, Left, End: what they answer.
-/
namespace Go.Proofs.YtcdehnghggleoaaGreat.P1
open Go.RowKit
set_option linter.unusedVariables false

/-- The block is a row of bytes. -/
def Ty (w : World) (ao : Option Addr) : Prop := ∀ a, ao = some a → ∃ n, w.shape? a.block = some (5, n)
theorem shape_lt {w : World} {r : Nat} {x : TypeId × Nat} (h : w.shape? r = some x) : r < w.heap.size := by
  unfold World.shape? at h
  split at h
  · rename_i e
    exact (Array.getElem?_eq_some_iff.1 e).1
  · cases h
theorem shape_block {w w' : World} {r : Nat} (h : w'.heap[r]? = w.heap[r]?) : w'.shape? r = w.shape? r := by simp [World.shape?, h]
theorem shape_set {w : World} (p : Addr) (x : Value) {r e n : Nat} (h : w.shape? r = some (e, n)) : (w.setCell p x).shape? r = some (e, n) := by
  by_cases hp : p.block = r
  · subst hp
    unfold World.shape? at h ⊢
    unfold World.setCell
    simp only [Array.getElem?_modify, if_true]
    split at h
    · rename_i c elem fr hg
      rw [hg]
      simp only [Option.map_some]
      injection h with h
      injection h with h1 h2
      subst h1 h2
      split <;> simp
    · cases h
  · rw [shape_block (Below.heap_setCell _ _ _ _ (fun q => hp q.symm))]
    exact h
theorem Ty.below {B : Nat} {w w' : World} {ao : Option Addr} (h : Ty w ao) (hb : Below B w w') (hB : w.heap.size ≤ B) : Ty w' ao := fun a ha => by
  obtain ⟨n, hn⟩ := h a ha
  exact ⟨n, (shape_block (hb.block _ (Nat.lt_of_lt_of_le (shape_lt hn) hB))).trans hn⟩
theorem Ty.setCell {w : World} {ao : Option Addr} (h : Ty w ao) (p : Addr) (x : Value) : Ty (w.setCell p x) ao := fun a ha => by
  obtain ⟨n, hn⟩ := h a ha
  exact ⟨n, shape_set p x hn⟩
theorem Ty.add {w : World} {ao : Option Addr} (h : Ty w ao) (j : Nat) : Ty w (ao.map (·.add j)) := fun a ha => by
  cases ao with
  | none => cases ha
  | some b =>
    simp only [Option.map_some, Option.some.injEq] at ha
    subst ha
    obtain ⟨n, hn⟩ := h b rfl
    exact ⟨n, by rw [Addr.add_block]; exact hn⟩
theorem Own.ty {B : Nat} {w : World} {ao : Option Addr} {n c : Nat} {l : List UInt8} (h : Own B w (.slice ao n c) l) : Ty w ao := by
  intro a ha
  subst ha
  rcases h.2 with ⟨e, _⟩ | ⟨g, cap, cur, e, hb, hg, _⟩
  · cases e
  · injection e with e1 e2 e3
    injection e1 with e1
    subst e1
    exact ⟨cur.size, by simp [World.shape?, hg]⟩

/-- The reader at block R has the bytes l ahead of it. -/
def Rd (w : World) (R : Nat) (l : List UInt8) : Prop :=
  ∃ ao n c, w.cell? ⟨R, 0, none⟩ = some (.slice ao n c) ∧ w.frozen? ⟨R, 0, none⟩ = false ∧ Sl w (.slice ao n c) l ∧ Ty w ao

/-- At most the reader's own cell has turned. -/
def Stays (R : Nat) (w w' : World) : Prop := w' = w ∨ ∃ x, w' = w.setCell ⟨R, 0, none⟩ x

theorem Stays.sl {R : Nat} {w w' : World} (h : Stays R w w') {l m : List UInt8} {v : Value} (hr : Rd w R l) (hs : Sl w v m) : Sl w' v m := by
  obtain ⟨ao, n, c, h1, _, _, _⟩ := hr
  rcases h with rfl | ⟨x, rfl⟩
  · exact hs
  · exact hs.setCell h1 x

theorem Stays.below {R B : Nat} {w w' : World} (h : Stays R w w') (hB : B ≤ R) : Below B w w' := by
  rcases h with rfl | ⟨x, rfl⟩
  · exact Below.refl _ _
  · exact (Below.refl _ _).setCell hB x

theorem Stays.size {R : Nat} {w w' : World} (h : Stays R w w') : w'.heap.size = w.heap.size := by
  rcases h with rfl | ⟨x, rfl⟩
  · rfl
  · simp

theorem Rd.below {B : Nat} {w w' : World} {R : Nat} {l : List UInt8} (h : Rd w R l) (hb : Below B w w') (hB : w.heap.size ≤ B) : Rd w' R l := by
  obtain ⟨ao, n, c, h1, h2, h3, h4⟩ := h
  have hR : R < B := Nat.lt_of_lt_of_le (World.block_lt_of_cell? w _ h1) hB
  exact ⟨ao, n, c, (hb.cell (p := ⟨R, 0, none⟩) hR).trans h1, (hb.frozen (p := ⟨R, 0, none⟩) hR).trans h2, h3.below hb hB, h4.below hb hB⟩

theorem Rd.lt {w : World} {R : Nat} {l : List UInt8} (h : Rd w R l) : R < w.heap.size := by
  obtain ⟨ao, n, c, h1, _, _, _⟩ := h
  exact World.block_lt_of_cell? w _ h1

theorem Rd.set {w : World} {R : Nat} {ao bo : Option Addr} {n c m d : Nat} {l : List UInt8} (hc : w.cell? ⟨R, 0, none⟩ = some (.slice ao n c)) (hf : w.frozen? ⟨R, 0, none⟩ = false) (hs : Sl w (.slice bo m d) l) (ht : Ty w bo) :
    Rd (w.setCell ⟨R, 0, none⟩ (.slice bo m d)) R l :=
  ⟨bo, m, d, World.cell?_setCell_same w _ _ hc, by simpa using hf, hs.setCell hc _, ht.setCell _ _⟩

set_option maxRecDepth 100000 in
set_option maxHeartbeats 400000 in
theorem open_any (v : Value) (l : List UInt8) (w : World) (hs : Sl w v l) (hl : l.length ≤ 1099511627776) :
    Calls Tryz.prog 13 #[v] w fun e w' => ∃ R, e = .returned (.pointer (some ⟨R, 0, none⟩)) ∧ w.heap.size ≤ R ∧ Rd w' R l ∧ Below w.heap.size w w' := by
  have hv : ∃ ao n c, v = .slice ao n c := by obtain ⟨ao, c, rfl, _⟩ := hs; exact ⟨_, _, _, rfl⟩
  obtain ⟨ao, n, c, rfl⟩ := hv
  go_enter Tryz.func13, Tryz.ntmps13
  go_wp2_with fail
  refine (clone_any _ l _ hs hl).mono ?_
  rintro e w' ⟨r, rfl, ho, hb⟩
  have hx := ho.sl
  obtain ⟨ao', c', rfl, h1, h2, h3, h4⟩ := hx
  have hsz := hb.size
  have hx : Sl w' (.slice ao' l.length c') l := ⟨ao', c', rfl, h1, h2, h3, h4⟩
  have Ht := hide ho.ty
  clear h3 h4 ho
  go_wp2
  go_ret
  have hbA : Below w'.heap.size w' (w'.alloc (.cells #[.slice ao' l.length c'] 108)) := (Below.refl _ _).alloc (Nat.le_refl _) _
  exact ⟨w'.heap.size, rfl, hsz, ⟨ao', l.length, c', by simp, by simp, hx.below hbA (Nat.le_refl _), (unhide Ht).below hbA (Nat.le_refl _)⟩, hb.alloc hsz _⟩

/-- What the reader's Number answers: the number, the error, what is left. -/
def rdN (l : List UInt8) (most : Int) : Nat × Int × List UInt8 :=
  if (first l).2 = 0 ∨ most < ((first l).1 : Int) then (0, 11, l) else ((first l).1, 0, l.drop (first l).2)

theorem rdN_no {l : List UInt8} {most : Int} (h : (first l).2 = 0 ∨ most < ((first l).1 : Int)) : rdN l most = (0, 11, l) := if_pos h
theorem rdN_yes {l : List UInt8} {most : Int} (h : ¬ ((first l).2 = 0 ∨ most < ((first l).1 : Int))) : rdN l most = ((first l).1, 0, l.drop (first l).2) := if_neg h

theorem dec_le : ∀ (n i v : Nat) (l : List UInt8), (dec n i v l).2 ≤ i + l.length
  | 0, _, _, _ => by simp [dec]
  | _ + 1, _, _, [] => by simp [dec]
  | n + 1, i, v, c :: l => by
    rw [dec]
    split
    · have := dec_le n (i + 1) (v + c.toNat % 128 * 128 ^ i) l
      simp only [List.length_cons]
      omega
    · split <;> simp <;> omega

theorem first_le (l : List UInt8) : (first l).2 ≤ l.length := by have := dec_le 9 0 0 l; simpa [first] using this

theorem dec_lt : ∀ (n i v : Nat) (l : List UInt8), i + n ≤ 9 → v < 128 ^ i → (dec n i v l).1 < 128 ^ 9
  | 0, _, _, _, _, _ => by simp [dec]
  | _ + 1, _, _, [], _, _ => by simp [dec]
  | n + 1, i, v, c :: l, h, hv => by
    have hs := pow_step i v c.toNat hv
    rw [dec]
    split
    · exact dec_lt n (i + 1) _ l (by omega) hs
    · split
      · simp
      · exact Nat.lt_of_lt_of_le hs (Nat.pow_le_pow_right (by decide) (by omega))

theorem first_lt (l : List UInt8) : (first l).1 ≤ 9223372036854775807 := by
  have := dec_lt 9 0 0 l (by decide) (by decide)
  have e : (128 : Nat) ^ 9 = 9223372036854775808 := by decide
  rw [e] at this
  unfold first
  omega

set_option maxRecDepth 100000 in
set_option maxHeartbeats 400000 in
theorem rnumber_any (R : Nat) (l : List UInt8) (most : Int) (w : World) (hr : Rd w R l) (hl : l.length ≤ 1099511627776) :
    Calls Tryz.prog 47 #[.pointer (some ⟨R, 0, none⟩), .int .i64 most] w fun e w' =>
      e = .returned (.tuple #[.int .i64 (rdN l most).1, .int .i64 (rdN l most).2.1]) ∧ Rd w' R (rdN l most).2.2 ∧ Stays R w w' := by
  have Hr : Hid (Rd w R l) := hr
  obtain ⟨ao, n, c, hc, hf, hs, ht⟩ := hr
  have Ht := hide ht
  clear ht
  have hn : n = l.length ∧ l.length ≤ c ∧ c ≤ maxLen := by obtain ⟨_, _, e, h1, h2, _⟩ := hs; injection e with e1 e2 e3; subst e3; exact ⟨e2, h1, h2⟩
  obtain ⟨rfl, hlc, hm⟩ := hn
  unfold maxLen at hm
  have hle := first_le l
  have hlt := first_lt l
  have hF := first_any _ l w hs hl
  have hd := hs.drop (first l).2 (first_le l)
  have hno := @rdN_no l most
  have hyes := @rdN_yes l most
  generalize first l = xk at *
  obtain ⟨x, k⟩ := xk
  simp only at hle hlt hF hd hno hyes
  have Hd : Hid (Sl w (.slice (if c = k then ao else ao.map (·.add (k * 1))) (l.length - k) (c - k)) (l.drop k)) := hd
  have HF : Hid (Calls Tryz.prog 82 #[.slice ao l.length c] w fun e w' => e = .returned (.tuple #[.int .i64 x, .int .i64 k]) ∧ w' = w) := hF
  clear hd hF hs
  by_cases h0 : k = 0
  · rw [hno (.inl h0)]
    clear hno hyes
    subst h0
    go_enter Tryz.func47, Tryz.ntmps47
    go_wp2_with fail
    refine HF.out.mono ?_
    rintro e w' ⟨rfl, rfl⟩
    go_wp2
    go_ret2
    exact ⟨rfl, Hr, .inl rfl⟩
  · by_cases h1 : most < (x : Int)
    · rw [hno (.inr h1)]
      clear hno hyes
      have hk : ((k : Int) == 0) = false := by simp; omega
      go_enter Tryz.func47, Tryz.ntmps47
      go_wp2_with fail
      refine HF.out.mono ?_
      rintro e w' ⟨rfl, rfl⟩
      go_wp2
      go_ret2
      exact ⟨rfl, Hr, .inl rfl⟩
    · rw [hyes (by rintro (h | h) <;> contradiction)]
      clear hno hyes
      have hk : ((k : Int) == 0) = false := by simp; omega
      go_enter Tryz.func47, Tryz.ntmps47
      go_wp2_with fail
      refine HF.out.mono ?_
      rintro e w' ⟨rfl, rfl⟩
      go_wp2
      all_goals
        go_ret2
        refine ⟨rfl, Rd.set hc hf ?_ ?_, .inr ⟨_, rfl⟩⟩
        · have hd := Hd.out
          simpa [*] using hd
        · first
          | exact unhide Ht
          | exact (unhide Ht).add _

/-- The reader's Flag: as the number's. -/
def rdF (l : List UInt8) : Bool × Int × List UInt8 := ((rdN l 1).1 == 1, (rdN l 1).2.1, (rdN l 1).2.2)

set_option maxRecDepth 100000 in
set_option maxHeartbeats 400000 in
theorem rflag_any (R : Nat) (l : List UInt8) (w : World) (hr : Rd w R l) (hl : l.length ≤ 1099511627776) :
    Calls Tryz.prog 86 #[.pointer (some ⟨R, 0, none⟩)] w fun e w' =>
      e = .returned (.tuple #[.bool (rdF l).1, .int .i64 (rdF l).2.1]) ∧ Rd w' R (rdF l).2.2 ∧ Stays R w w' := by
  have hN := rnumber_any R l 1 w hr hl
  unfold rdF
  generalize rdN l 1 = y at *
  obtain ⟨a, b, m⟩ := y
  have HN := hide hN
  clear hN
  go_enter Tryz.func86, Tryz.ntmps86
  go_wp2_with fail
  refine (unhide HN).mono ?_
  rintro e w' ⟨rfl, h1, h2⟩
  go_wp2
  go_ret2
  refine ⟨?_, h1, h2⟩
  have e : ((a : Int) == 1) = (a == 1) := by rw [Bool.eq_iff_iff]; simp; omega
  rw [← e]
  rfl

set_option maxRecDepth 100000 in
/-- Bytes as a string: what the conversion answers. -/
theorem conv_arr (w : World) (v : Value) (l : List UInt8) (hs : Sl w v l) : (convert 22 9 v).run Tryz.prog w = .ok (.string ⟨l.toArray⟩) w := by
  have hs' := hs
  obtain ⟨ao, c, rfl, h1, h2, h3, h4⟩ := hs
  by_cases h0 : l = []
  · subst h0
    cases ao with
    | none => exact run_convert_bytes_nil (P := Tryz.prog) w 22 5 Tryz.underlying22 Tryz.underlying5 0 c 9 Tryz.underlying9
    | some a =>
      rw [run_convert_bytes_string w 22 9 5 _ _ c Tryz.underlying22 Tryz.underlying5 Tryz.underlying9]
      exact run_bytesToString w a 0 c [] (by simp [loadCells, loadCellsFrom])
  · have hp : 0 < l.length := by cases l <;> simp_all
    obtain ⟨b, o, rfl⟩ := hs'.addr hp
    have := run_convert_bytes_arg (P := Tryz.prog) w 22 5 Tryz.underlying22 Tryz.underlying5 b o l.length c (l.map fun b => (b.toNat : Int)) (by simp) (fun i hi => by
      rw [hs'.cell i hi]
      simp [List.getD, List.getElem?_map, List.getElem?_eq_getElem hi]) 9 Tryz.underlying9
    rw [this]
    congr 2
    apply ByteArray.ext
    apply Array.toList_inj.1
    rw [strOfNums_data, List.map_map]
    show List.map _ l = l
    conv => rhs; rw [← List.map_id l]
    apply List.map_congr_left
    intro x _
    simp

/-- The reader's Text: the text's bytes, the error, what is left. -/
def rdT (l : List UInt8) (most : Int) : List UInt8 × Int × List UInt8 :=
  if (first l).2 = 0 ∨ most < ((first l).1 : Int) ∨ ((l.length : Int) - (first l).2 < (first l).1) then ([], 11, l)
  else ((l.drop (first l).2).take (first l).1, 0, l.drop ((first l).2 + (first l).1))

theorem rdT_no {l : List UInt8} {most : Int} (h : (first l).2 = 0 ∨ most < ((first l).1 : Int) ∨ ((l.length : Int) - (first l).2 < (first l).1)) : rdT l most = ([], 11, l) := if_pos h
theorem rdT_yes {l : List UInt8} {most : Int} (h : ¬ ((first l).2 = 0 ∨ most < ((first l).1 : Int) ∨ ((l.length : Int) - (first l).2 < (first l).1))) :
    rdT l most = ((l.drop (first l).2).take (first l).1, 0, l.drop ((first l).2 + (first l).1)) := if_neg h

theorem Sl.take {w : World} {ao : Option Addr} {n c : Nat} {l : List UInt8} (h : Sl w (.slice ao n c) l) (k : Nat) (hk : k ≤ l.length) : Sl w (.slice ao k c) (l.take k) := by
  obtain ⟨bo, d, e, h1, h2, h3, h4⟩ := h
  injection e with e1 e2 e3
  subst e1; subst e2; subst e3
  refine ⟨ao, c, by rw [List.length_take, Nat.min_eq_left hk], by rw [List.length_take]; omega, h2, fun e => ?_, fun a ha j u hu => h4 a ha j u ?_⟩
  · obtain ⟨rfl, rfl⟩ := h3 e
    simp
  · rw [bc_get] at hu ⊢
    rw [← hu, List.getElem?_take]
    split
    · rfl
    · rename_i hj
      rw [List.getElem?_take, if_neg hj] at hu
      cases hu

set_option maxRecDepth 100000 in
set_option maxHeartbeats 400000 in
theorem rtext_any (R : Nat) (l : List UInt8) (most : Int) (w : World) (hr : Rd w R l) (hl : l.length ≤ 1099511627776) :
    Calls Tryz.prog 50 #[.pointer (some ⟨R, 0, none⟩), .int .i64 most] w fun e w' =>
      e = .returned (.tuple #[.string ⟨(rdT l most).1.toArray⟩, .int .i64 (rdT l most).2.1]) ∧ Rd w' R (rdT l most).2.2 ∧ Stays R w w' := by
  have Hr := hide hr
  obtain ⟨ao, n, c, hc, hf, hs, ht⟩ := hr
  have Ht := hide ht
  clear ht
  have hn : n = l.length ∧ l.length ≤ c ∧ c ≤ maxLen := by obtain ⟨_, _, e, h1, h2, _⟩ := hs; injection e with e1 e2 e3; subst e3; exact ⟨e2, h1, h2⟩
  obtain ⟨rfl, hlc, hm⟩ := hn
  unfold maxLen at hm
  have hle := first_le l
  have hlt := first_lt l
  have HF := hide (first_any _ l w hs hl)
  have hno := @rdT_no l most
  have hyes := @rdT_yes l most
  generalize first l = xk at *
  obtain ⟨x, k⟩ := xk
  simp only at hle hlt HF hno hyes
  have Hs := hide hs
  clear hs
  by_cases h0 : k = 0
  · rw [hno (.inl h0)]
    clear hno hyes
    subst h0
    go_enter Tryz.func50, Tryz.ntmps50
    go_wp2_with fail
    refine (unhide HF).mono ?_
    rintro e w' ⟨rfl, rfl⟩
    go_wp2
    go_ret2
    exact ⟨rfl, Hr, .inl rfl⟩
  have hk : ((k : Int) == 0) = false := by simp; omega
  by_cases h1 : most < (x : Int)
  · rw [hno (.inr (.inl h1))]
    clear hno hyes
    go_enter Tryz.func50, Tryz.ntmps50
    go_wp2_with fail
    refine (unhide HF).mono ?_
    rintro e w' ⟨rfl, rfl⟩
    go_wp2
    go_ret2
    exact ⟨rfl, Hr, .inl rfl⟩
  by_cases h2 : (l.length : Int) - k < x
  · rw [hno (.inr (.inr h2))]
    clear hno hyes
    go_enter Tryz.func50, Tryz.ntmps50
    go_wp2_with fail
    refine (unhide HF).mono ?_
    rintro e w' ⟨rfl, rfl⟩
    go_wp2
    go_ret2
    exact ⟨rfl, Hr, .inl rfl⟩
  rw [hyes (by rintro (h | h | h) <;> contradiction)]
  clear hno hyes
  by_cases hck : c = k
  · obtain rfl : x = 0 := by omega
    subst hck
    have hd := (unhide Hs).drop c (by omega)
    rw [if_pos rfl] at hd
    have hcv := conv_arr w _ _ (hd.take 0 (by omega))
    have Hd := hide hd
    clear hd
    simp only [Nat.sub_self, List.take_zero] at hcv
    go_enter Tryz.func50, Tryz.ntmps50
    go_wp2_with fail
    refine (unhide HF).mono ?_
    rintro e w' ⟨rfl, rfl⟩
    go_wp2
    all_goals
      go_ret2
      refine ⟨rfl, Rd.set hc hf ?_ ?_, .inr ⟨_, rfl⟩⟩
      · have hd := unhide Hd
        rw [show l.length - c = 0 by omega, Nat.sub_self] at hd
        simpa using hd
      · first
        | exact unhide Ht
        | exact (unhide Ht).add _
  · have hd := (unhide Hs).drop k (by omega)
    rw [if_neg hck] at hd
    have hcv := conv_arr w _ _ (hd.take x (by rw [List.length_drop]; omega))
    have hd2 := (unhide Hs).drop (k + x) (by omega)
    have Hd2 := hide hd2
    clear hd hd2
    simp only [Nat.mul_one] at hcv
    go_enter Tryz.func50, Tryz.ntmps50
    go_wp2_with fail
    refine (unhide HF).mono ?_
    rintro e w' ⟨rfl, rfl⟩
    go_wp2
    all_goals
      go_ret2
      refine ⟨rfl, Rd.set hc hf ?_ ?_, .inr ⟨_, rfl⟩⟩
      · have hd := unhide Hd2
        simpa [*] using hd
      · first
        | exact unhide Ht
        | exact (unhide Ht).add _

set_option maxRecDepth 100000 in
set_option maxHeartbeats 400000 in
theorem end_any (R : Nat) (l : List UInt8) (w : World) (hr : Rd w R l) (hl : l.length ≤ 1099511627776) :
    Calls Tryz.prog 21 #[.pointer (some ⟨R, 0, none⟩)] w fun e w' => e = .returned (.int .i64 (if l = [] then 0 else 11)) ∧ w' = w := by
  obtain ⟨ao, n, c, hc, hf, hs, _⟩ := hr
  have hn : n = l.length := by obtain ⟨_, _, e, _⟩ := hs; injection e
  subst hn
  clear hs
  by_cases h : l = []
  · rw [if_pos h]
    subst h
    go_enter Tryz.func21, Tryz.ntmps21
    go_wp2
    go_ret
    exact ⟨rfl, rfl⟩
  · rw [if_neg h]
    have hp : 0 < l.length := by cases l <;> simp_all
    clear h
    go_enter Tryz.func21, Tryz.ntmps21
    go_wp2
    go_ret
    exact ⟨rfl, rfl⟩

end Go.Proofs.YtcdehnghggleoaaGreat.P1

/-
  What the proofs of layer 4 share: facts put out of the walk's sight. No law of the program is proved here.
-/
namespace Go.Proofs.YtcdehnghggleoaaGreat
open Go.RowKit

theorem hide {p : Prop} (h : p) : Hid p := h
theorem unhide {p : Prop} (h : Hid p) : p := h

end Go.Proofs.YtcdehnghggleoaaGreat

/-
  A region whose order is open, and whose calls at most lay new memory: one walk in the order of the text serves every order.
-/
namespace Go.Proofs.YtcdehnghggleoaaGreat
open Go.RowKit

/-- A world that has at most new memory behind w. -/
structure Later (w : World) where
  val : World
  below : Below w.heap.size w val

theorem Later.cell {w : World} (i : Later w) {p : Addr} {v : Value} (h : w.cell? p = some v) : i.val.cell? p = some v :=
  (i.below.cell (World.block_lt_of_cell? w p h)).trans h

theorem wp_region_later {P : Program} {id : Nat} {Q : Exit → Act → World → Prop} {a : Act} {w : World} {l : List Oper} (hm : P.follows .mixedOrders = true) (hB : Region.lexB .any l.toArray = true)
    (h : wpQuiet P l.toArray (fun w' => ∃ i : Later w, w' = i.val) (fun a' => ∀ w', (∃ i : Later w, w' = i.val) → Q .normal a' w') l a) : (Code.region id l.toArray true).wp P Q a w :=
  wp_region_quiet (C := fun w' => ∃ i : Later w, w' = i.val) hm hB ⟨⟨_, (Below.refl _ w).drew⟩, rfl⟩ (by simpa using h)

/-- A call that at most lays new memory. -/
theorem calls_later {P : Program} {f : FuncId} {args : Array Value} {w : World} {i : Later w} {v : Value} (h : Calls P f args i.val fun e w' => e = .returned v ∧ Below i.val.heap.size i.val w') :
    Calls P f args i.val fun e w'' => e = .returned v ∧ ∃ j : Later w, w'' = j.val :=
  h.mono fun _ w' ⟨he, hb⟩ => ⟨he, ⟨w', i.below.trans (hb.mono i.below.size)⟩, rfl⟩

end Go.Proofs.YtcdehnghggleoaaGreat

/-
  Contracts of package stamp's functions of numbers: Right, Compare, Less, Max, Next, Plus. No law is proved here.
-/
namespace Go.Proofs.YtcdehnghggleoaaGreat
open Go.RowKit
set_option linter.unusedVariables false

/-- A stamp is right. -/
def rightB (a b : Int) : Bool := decide (0 ≤ a ∧ a ≤ 1099511627776) && decide (0 ≤ b ∧ b ≤ 65535)
/-- Which number is less. -/
def cmpI (x y : Int) : Int := if x < y then -1 else if y < x then 1 else 0
/-- The first that is not 0. -/
def orI (x y : Int) : Int := if x = 0 then y else x
/-- Which stamp is less. -/
def cmpS (a b c d : Int) : Int := orI (cmpI a c) (cmpI b d)
/-- A stamp is less. -/
def lessB (a b c d : Int) : Bool := decide (cmpS a b c d < 0)
/-- What may be that is nearest. -/
def bnd (v l m : Int) : Int := min (max v l) m

theorem cmpI_bounds (x y : Int) : -1 ≤ cmpI x y ∧ cmpI x y ≤ 1 := by unfold cmpI; split <;> (try split) <;> omega

section
set_option maxRecDepth 100000
theorem within_any (v l m : Int) (w : World) : Calls Tryz.prog 111 #[.int .i64 v, .int .i64 l, .int .i64 m] w fun e w' => e = .returned (.bool (decide (l ≤ v ∧ v ≤ m))) ∧ w' = w := by
  by_cases h1 : l ≤ v
  all_goals
    by_cases h2 : v ≤ m
    all_goals
      go_enter Tryz.func111, Tryz.ntmps111
      go_wp2
      go_ret
      refine ⟨?_, rfl⟩
      simp [h1, h2]

theorem right_any (a b : Int) (w : World) : Calls Tryz.prog 87 #[(.agg #[.int .i64 a, .int .i64 b])] w fun e w' => e = .returned (.bool (rightB a b)) ∧ Below w.heap.size w w' := by
  unfold rightB
  have h1 := fun w => within_any a 0 1099511627776 w
  have h2 := fun w => within_any b 0 65535 w
  generalize decide (0 ≤ a ∧ a ≤ 1099511627776) = x at *
  generalize decide (0 ≤ b ∧ b ≤ 65535) = y at *
  cases x
  · go_enter Tryz.func87, Tryz.ntmps87
    go_wp2_with fail
    refine (h1 _).mono ?_
    rintro e w' ⟨rfl, rfl⟩
    go_wp2
    go_ret
    exact ⟨rfl, (Below.refl _ _).alloc (Nat.le_refl _) _⟩
  · go_enter Tryz.func87, Tryz.ntmps87
    go_wp2_with fail
    refine (h1 _).mono ?_
    rintro e w' ⟨rfl, rfl⟩
    go_wp2_with fail
    refine (h2 _).mono ?_
    rintro e w' ⟨rfl, rfl⟩
    go_wp2
    go_ret
    exact ⟨rfl, (Below.refl _ _).alloc (Nat.le_refl _) _⟩

theorem cmpc_any (x y : Int) (w : World) : Calls Tryz.prog 116 #[.int .i64 x, .int .i64 y] w fun e w' => e = .returned (.int .i64 (cmpI x y)) ∧ w' = w := by
  unfold cmpI
  by_cases h1 : x < y
  · rw [if_pos h1]
    go_enter Tryz.func116, Tryz.ntmps116
    go_wp2
    go_ret
    exact ⟨rfl, rfl⟩
  · rw [if_neg h1]
    by_cases h2 : y < x
    · rw [if_pos h2]
      go_enter Tryz.func116, Tryz.ntmps116
      go_wp2
      go_ret
      exact ⟨rfl, rfl⟩
    · rw [if_neg h2]
      go_enter Tryz.func116, Tryz.ntmps116
      go_wp2
      go_ret
      exact ⟨rfl, rfl⟩
end

end Go.Proofs.YtcdehnghggleoaaGreat

/-
  Contracts of cmp.Or, stamp.Compare, stamp.Less, stamp.Max. No law is proved here.
-/
namespace Go.Proofs.YtcdehnghggleoaaGreat
open Go.RowKit
set_option linter.unusedVariables false

/-- A stamp lies at block B. -/
structure At (w : World) (B : Nat) (a b : Int) : Prop where
  c0 : w.cell? ⟨B, 0, none⟩ = some (.int .i64 a)
  c1 : w.cell? ⟨B, 1, none⟩ = some (.int .i64 b)

theorem At.lt {w : World} {B : Nat} {a b : Int} (h : At w B a b) : B < w.heap.size := World.block_lt_of_cell? w _ h.c0
theorem At.below {w w' : World} {B C : Nat} {a b : Int} (h : At w B a b) (hb : Below C w w') (hC : w.heap.size ≤ C) : At w' B a b :=
  ⟨(hb.cell (p := ⟨B, 0, none⟩) (Nat.lt_of_lt_of_le h.lt hC)).trans h.c0, (hb.cell (p := ⟨B, 1, none⟩) (Nat.lt_of_lt_of_le h.lt hC)).trans h.c1⟩
theorem At.alloc {w : World} {B : Nat} {a b : Int} (h : At w B a b) (o : Obj) : At (w.alloc o) B a b := h.below ((Below.refl _ _).alloc (Nat.le_refl _) o) (Nat.le_refl _)
theorem At.new (w : World) (a b : Int) (t : TypeId) : At (w.alloc (.cells #[.int .i64 a, .int .i64 b] t)) w.heap.size a b := ⟨by simp, by simp⟩

/-- A stamp behind a pointer, stored anew. -/
theorem set2 (w : World) (B : Nat) (x0 y0 x y : Value) (h0 : w.cell? ⟨B, 0, none⟩ = some x0) (h1 : w.cell? ⟨B, 1, none⟩ = some y0) :
    ((w.setCell ⟨B, 0, none⟩ x).setCell ⟨B, 1, none⟩ y).cell? ⟨B, 0, none⟩ = some x ∧ ((w.setCell ⟨B, 0, none⟩ x).setCell ⟨B, 1, none⟩ y).cell? ⟨B, 1, none⟩ = some y := by
  have h0' : (w.setCell ⟨B, 0, none⟩ x).cell? ⟨B, 0, none⟩ = some x := World.cell?_setCell_same w _ _ h0
  have h1' : (w.setCell ⟨B, 0, none⟩ x).cell? ⟨B, 1, none⟩ = some y0 := (World.cell?_setCell_other w _ _ _ (by simp)).trans h1
  exact ⟨(World.cell?_setCell_other _ _ _ _ (by simp)).trans h0', World.cell?_setCell_same _ _ _ h1'⟩

/-- What a function hands back whose result is a stamp in a variable. -/
theorem results_stp {fn : Func} {k : Nat} (hf : fn.results = #[.cell k 36]) {tmps : Array Value} {w : World} {B : Nat} {a b : Int} (hk : tmps[k]? = some (.pointer (some ⟨B, 0, none⟩)))
    (h0 : w.cell? ⟨B, 0, none⟩ = some (.int .i64 a)) (h1 : w.cell? ⟨B, 1, none⟩ = some (.int .i64 b)) : (results fn tmps).run Tryz.prog w = .ok (.agg #[.int .i64 a, .int .i64 b]) w := by
  simp [results, hf, go_sem, h0, h1, hk]

theorem results_stp2 {fn : Func} {k u : Nat} (hf : fn.results = #[.cell k 36, .tmp u]) {tmps : Array Value} {w : World} {B : Nat} {a b : Int} {e : Value} (hk : tmps[k]? = some (.pointer (some ⟨B, 0, none⟩))) (hu : tmps[u]? = some e)
    (h0 : w.cell? ⟨B, 0, none⟩ = some (.int .i64 a)) (h1 : w.cell? ⟨B, 1, none⟩ = some (.int .i64 b)) : (results fn tmps).run Tryz.prog w = .ok (.tuple #[(.agg #[.int .i64 a, .int .i64 b]), e]) w := by
  simp [results, hf, go_sem, h0, h1, hk, hu]

section
set_option maxRecDepth 100000
theorem or_any (g : Nat) (x y : Int) (w : World) (hx : w.cell? ⟨g, 0, none⟩ = some (.int .i64 x)) (hy : w.cell? ⟨g, 1, none⟩ = some (.int .i64 y)) :
    Calls Tryz.prog 115 #[.slice (some ⟨g, 0, none⟩) 2 2] w fun e w' => e = .returned (.int .i64 (orI x y)) ∧ w' = w := by
  unfold orI
  by_cases h0 : x = 0
  · rw [if_pos h0]
    subst h0
    go_enter Tryz.func115, Tryz.ntmps115
    go_wp2
    go_loop [8] (fun i => ∃ k : Nat, i = .int .i64 k ∧ k ≤ 2 ∧ (1 < k → Hid (y = 0))) (fun i => 2 - (intOf i).toNat)
    case atStart => exact ⟨0, rfl, by decide, fun h => absurd h (by decide)⟩
    case round =>
      obtain ⟨k, rfl, hk, hz⟩ := hrel
      match k, hk, hz with
      | 0, _, _ =>
        go_wp2
        go_round
        case rel => exact ⟨1, by go_num, by decide, fun h => absurd h (by decide)⟩
        case measure => simp [intOf]
      | 1, _, _ =>
        by_cases h1 : y = 0
        · subst h1
          go_wp2
          go_round
          case rel => exact ⟨2, by go_num, by decide, fun _ => True.intro⟩
          case measure => simp [intOf]
        · have h1' : (y == 0) = false := by simpa using h1
          go_wp2
          go_ret
          exact ⟨rfl, rfl⟩
      | 2, _, hz =>
        have hz := unhide (hz (by decide))
        subst hz
        go_wp2
        go_ret
        exact ⟨rfl, rfl⟩
  · rw [if_neg h0]
    have h0' : (x == 0) = false := by simpa using h0
    go_enter Tryz.func115, Tryz.ntmps115
    go_wp2
    go_loop [8] (fun i => i = .int .i64 0) (fun i => 2 - (intOf i).toNat)
    case atStart => rfl
    case round =>
      subst hrel
      go_wp2
      go_ret
      exact ⟨rfl, rfl⟩

theorem compare_any (a b c d : Int) (w : World) : Calls Tryz.prog 107 #[(.agg #[.int .i64 a, .int .i64 b]), (.agg #[.int .i64 c, .int .i64 d])] w fun e w' => e = .returned (.int .i64 (cmpS a b c d)) ∧ Below w.heap.size w w' := by
  go_enter Tryz.func107, Tryz.ntmps107
  go_wp2_with fail
  go_region_held (fun w' => w'.cell? ⟨w.heap.size, 0, none⟩ = some (.int .i64 a) ∧ w'.cell? ⟨w.heap.size, 1, none⟩ = some (.int .i64 b) ∧ w'.cell? ⟨w.heap.size + 1, 0, none⟩ = some (.int .i64 c) ∧ w'.cell? ⟨w.heap.size + 1, 1, none⟩ = some (.int .i64 d)) (go_keep)
    (first | (go_at_call 115; refine (or_any _ (cmpI a c) (cmpI b d) _ ?_ ?_).mono ?_; (go_simp); (go_simp); rintro e w' ⟨rfl, rfl⟩) | (go_at_call 116; refine (cmpc_any _ _ _).mono ?_; rintro e w' ⟨rfl, rfl⟩))
  go_wp2
  go_ret
  exact ⟨rfl, (((Below.refl _ _).alloc (Nat.le_refl _) _).alloc (by simp) _).drew.alloc (by simp; omega) _⟩

theorem less_any (a b c d : Int) (w : World) : Calls Tryz.prog 81 #[(.agg #[.int .i64 a, .int .i64 b]), (.agg #[.int .i64 c, .int .i64 d])] w fun e w' => e = .returned (.bool (lessB a b c d)) ∧ Below w.heap.size w w' := by
  go_enter Tryz.func81, Tryz.ntmps81
  go_wp2_with fail
  refine (compare_any _ _ _ _ _).mono ?_
  rintro e w1 ⟨rfl, hb1⟩
  go_wp2
  go_ret
  exact ⟨rfl, (((Below.refl _ _).alloc (Nat.le_refl _) _).alloc (by simp) _).trans (hb1.mono (by simp; omega))⟩

theorem max_any (a b c d : Int) (w : World) : Calls Tryz.prog 39 #[(.agg #[.int .i64 a, .int .i64 b]), (.agg #[.int .i64 c, .int .i64 d])] w fun e w' => e = .returned (if lessB a b c d then (.agg #[.int .i64 c, .int .i64 d]) else (.agg #[.int .i64 a, .int .i64 b])) ∧ Below w.heap.size w w' := by
  have h1 := fun w => less_any a b c d w
  generalize lessB a b c d = x at *
  have hB := (((Below.refl w.heap.size w).alloc (Nat.le_refl _) (.cells #[.int .i64 a, .int .i64 b] 36)).alloc (by simp) (.cells #[.int .i64 c, .int .i64 d] 36)).alloc (by simp; omega) (.cells #[.int .i64 0, .int .i64 0] 36)
  cases x
  all_goals
    go_enter Tryz.func39, Tryz.ntmps39
    go_wp2_with fail
    refine (h1 _).mono ?_
    rintro e w1 ⟨rfl, hb1⟩
    have k0 : w1.cell? ⟨w.heap.size, 0, none⟩ = some (.int .i64 a) := (hb1.cell (by simp; omega)).trans (by go_simp)
    have k1 : w1.cell? ⟨w.heap.size, 1, none⟩ = some (.int .i64 b) := (hb1.cell (by simp; omega)).trans (by go_simp)
    have k2 : w1.cell? ⟨w.heap.size + 1, 0, none⟩ = some (.int .i64 c) := (hb1.cell (by simp)).trans (by go_simp)
    have k3 : w1.cell? ⟨w.heap.size + 1, 1, none⟩ = some (.int .i64 d) := (hb1.cell (by simp)).trans (by go_simp)
    have k4 : w1.cell? ⟨w.heap.size + 1 + 1, 0, none⟩ = some (.int .i64 0) := (hb1.cell (by simp)).trans (by go_simp)
    have k5 : w1.cell? ⟨w.heap.size + 1 + 1, 1, none⟩ = some (.int .i64 0) := (hb1.cell (by simp)).trans (by go_simp)
    have k6 : w1.frozen? ⟨w.heap.size + 1 + 1, 0, none⟩ = false := (hb1.frozen (by simp)).trans (by go_simp)
    have k7 : w1.frozen? ⟨w.heap.size + 1 + 1, 1, none⟩ = false := (hb1.frozen (by simp)).trans (by go_simp)
    have R := hide (hB.trans (hb1.mono (by simp; omega)))
    clear hB hb1
    go_wp2
    obtain ⟨c0, c1⟩ := set2 w1 (w.heap.size + 1 + 1) _ _ (.int .i64 _) (.int .i64 _) k4 k5
    refine bodyPost_ret (results_stp Tryz.results39 rfl c0 c1) rfl ?_
    exact ⟨rfl, ((unhide R).setCell (by simp; omega) _).setCell (by simp; omega) _⟩
end

end Go.Proofs.YtcdehnghggleoaaGreat

/-
  Contract of stamp.Put. No law is proved here.
-/
namespace Go.Proofs.YtcdehnghggleoaaGreat.P1
open Go.RowKit
set_option linter.unusedVariables false

/-- A stamp's bytes. -/
def encS (a b : Int) : List UInt8 := enc a.toNat ++ enc b.toNat

set_option maxRecDepth 100000 in
set_option maxHeartbeats 1000000 in
theorem put_stp (v : Value) (l : List UInt8) (a b : Int) (w : World) (hs : Sl w v l) (hl : l.length ≤ 1000000) (ha : a ≤ 9223372036854775807) (hb : b ≤ 9223372036854775807) :
    Calls Tryz.prog 96 #[v, .agg #[.int .i64 a, .int .i64 b]] w fun e w' => ∃ r, e = .returned r ∧ Own w.heap.size w' r (l ++ encS a b) ∧ Below w.heap.size w w' := by
  have hv : ∃ ao n c, v = .slice ao n c := by obtain ⟨ao, c, rfl, _⟩ := hs; exact ⟨_, _, _, rfl⟩
  obtain ⟨ao, n, c, rfl⟩ := hv
  have h9 := enc_len9 (v := a.toNat) (by omega)
  have hB : Below w.heap.size w (w.alloc (.cells #[.int .i64 a, .int .i64 b] 36)).drew := ((Below.refl _ _).alloc (Nat.le_refl _) _).drew
  have hs1 := hs.below hB (Nat.le_refl _)
  have hA : At (w.alloc (.cells #[.int .i64 a, .int .i64 b] 36)).drew w.heap.size a b := (At.new w a b _).below (Below.refl _ _).drew (Nat.le_refl _)
  go_enter Tryz.func96, Tryz.ntmps96
  go_wp2_with fail
  go_region_held (fun w' => w'.cell? ⟨w.heap.size, 0, none⟩ = some (.int .i64 a) ∧ w'.cell? ⟨w.heap.size, 1, none⟩ = some (.int .i64 b)) (go_keep)
    (first | (go_at_call_of 31 (Value.int IntKind.i64 a); refine (number_any _ l a _ hs1 (by omega) ha).mono ?_; rintro e w1 ⟨r1, rfl, ho1, hb1⟩; have k0 := (hA.below hb1 (Nat.le_refl _)).c0; have k1 := (hA.below hb1 (Nat.le_refl _)).c1) | (go_at_call_of 31 (Value.int IntKind.i64 b); refine (number_any _ _ b _ (Own.sl (by assumption)) ?_ hb).mono ?_; (rw [List.length_append]; omega); rintro e w2 ⟨r2, rfl, ho2, hb2⟩; have k2 := (At.below ⟨k0, k1⟩ hb2 (Nat.le_refl _)).c0; have k3 := (At.below ⟨k0, k1⟩ hb2 (Nat.le_refl _)).c1))
  go_wp2
  go_ret
  have hz1 := hb1.size
  have hz0 := hB.size
  refine ⟨_, rfl, ?_, (hB.trans (hb1.mono hz0)).trans (hb2.mono (by omega))⟩
  have h2 : Own w.heap.size w2 r2 (l ++ enc a.toNat ++ enc b.toNat) := Own.mono ho2 (by omega)
  unfold encS
  rw [← List.append_assoc]
  exact h2

end Go.Proofs.YtcdehnghggleoaaGreat.P1

/-
  Contract of stamp.Get. No law is proved here.
-/
namespace Go.Proofs.YtcdehnghggleoaaGreat.P1
open Go.RowKit
set_option linter.unusedVariables false

/-- What stamp.Get answers: the stamp, the error, what is left. -/
def rdS (l : List UInt8) : Nat × Nat × Int × List UInt8 :=
  if (rdN l 1099511627776).2.1 = 0 ∧ (rdN (rdN l 1099511627776).2.2 65535).2.1 = 0 then
    ((rdN l 1099511627776).1, (rdN (rdN l 1099511627776).2.2 65535).1, 0, (rdN (rdN l 1099511627776).2.2 65535).2.2)
  else (0, 0, 11, l)

theorem rdN_cases (l : List UInt8) (most : Int) : rdN l most = (0, 11, l) ∨ ∃ x l1, rdN l most = (x, 0, l1) ∧ l1.length ≤ l.length ∧ (x : Int) ≤ most := by
  by_cases h : (first l).2 = 0 ∨ most < ((first l).1 : Int)
  · exact .inl (rdN_no h)
  · refine .inr ⟨_, _, rdN_yes h, by rw [List.length_drop]; omega, ?_⟩
    omega

/-- New memory, and the reader's own cell: all else is as it was. -/
structure Moved (R : Nat) (w w' : World) : Prop where
  os : w'.os = w.os
  tape : w'.tape = w.tape
  output : w'.output = w.output
  size : w.heap.size ≤ w'.heap.size
  block : ∀ k, k < w.heap.size → k ≠ R → w'.heap[k]? = w.heap[k]?
  cell : ∀ p : Addr, p.block < w.heap.size → p ≠ ⟨R, 0, none⟩ → w'.cell? p = w.cell? p

theorem Moved.of {R : Nat} {w w' : World} (h : Below w.heap.size w w') : Moved R w w' :=
  ⟨h.os, h.tape, h.output, h.size, fun k hk _ => h.block k hk, fun p hp _ => h.cell hp⟩
theorem Moved.set {R : Nat} {w w' : World} (h : Moved R w w') (x : Value) : Moved R w (w'.setCell ⟨R, 0, none⟩ x) :=
  ⟨h.os, h.tape, h.output, by simpa [World.setCell] using h.size, fun k hk hn => (Below.heap_setCell _ _ _ _ (by simpa using hn)).trans (h.block k hk hn), fun p hp hn => (World.cell?_setCell_other _ _ _ _ (fun e => hn e.symm)).trans (h.cell p hp hn)⟩
theorem Moved.new {R : Nat} {w w' : World} (h : Moved R w w') {q : Addr} (hq : w.heap.size ≤ q.block) (x : Value) : Moved R w (w'.setCell q x) :=
  ⟨h.os, h.tape, h.output, by simpa [World.setCell] using h.size, fun k hk hn => (Below.heap_setCell _ _ _ _ (by omega)).trans (h.block k hk hn), fun p hp hn => (World.cell?_setCell_other _ _ _ _ (fun e => by rw [e] at hq; omega)).trans (h.cell p hp hn)⟩

theorem Moved.sl {R : Nat} {w w' : World} (h : Moved R w w') {l m : List UInt8} {v : Value} (hr : Rd w R l) (hs : Sl w v m) : Sl w' v m := by
  obtain ⟨ao, c, rfl, h1, h2, h3, h4⟩ := hs
  obtain ⟨bo, n, d, g1, _, _, _⟩ := hr
  refine ⟨ao, c, rfl, h1, h2, h3, fun a ha j u hu => ?_⟩
  have hc := h4 a ha j u hu
  rw [h.cell _ (World.block_lt_of_cell? w _ hc) ?_]
  · exact hc
  · intro e
    rw [e, g1] at hc
    rw [bc_get] at hu
    cases hl : m[j]? with
    | none => rw [hl] at hu; cases hu
    | some b => rw [hl] at hu; cases hu; cases hc
theorem Moved.below {R B : Nat} {w w' : World} (h : Moved R w w') (hB : B ≤ R) (hw : B ≤ w.heap.size) : Below B w w' :=
  ⟨h.os, h.tape, h.output, h.size, fun k hk => h.block k (by omega) (by omega)⟩

theorem Sl.setInt {w : World} {v : Value} {l : List UInt8} (h : Sl w v l) {p : Addr} {y : Int} (hp : w.cell? p = some (.int .i64 y)) (x : Value) : Sl (w.setCell p x) v l := by
  obtain ⟨bo, d, rfl, h1, h2, h3, h4⟩ := h
  refine ⟨bo, d, rfl, h1, h2, h3, fun a ha j u hu => ?_⟩
  have hc := h4 a ha j u hu
  rw [World.cell?_setCell_other]
  · exact hc
  · intro e
    rw [e, hc] at hp
    rw [bc_get] at hu
    cases hl : l[j]? with
    | none => rw [hl] at hu; cases hu
    | some b => rw [hl] at hu; cases hu; cases hp
theorem Rd.setInt {w : World} {R : Nat} {l : List UInt8} (h : Rd w R l) {p : Addr} {y : Int} (hp : w.cell? p = some (.int .i64 y)) (x : Value) : Rd (w.setCell p x) R l := by
  obtain ⟨ao, n, c, h1, h2, h3, h4⟩ := h
  refine ⟨ao, n, c, (World.cell?_setCell_other _ _ _ _ (fun e => ?_)).trans h1, by simpa using h2, h3.setInt hp x, h4.setCell _ _⟩
  rw [e, h1] at hp
  cases hp

theorem Stays.cell {R : Nat} {w w' : World} (h : Stays R w w') {p : Addr} (hp : p.block ≠ R) : w'.cell? p = w.cell? p := by
  rcases h with rfl | ⟨x, rfl⟩
  · rfl
  · exact World.cell?_setCell_other w _ _ _ (fun e => hp (by rw [← e]))
theorem Stays.frozen {R : Nat} {w w' : World} (h : Stays R w w') (p : Addr) : w'.frozen? p = w.frozen? p := by
  rcases h with rfl | ⟨x, rfl⟩
  · rfl
  · simp

section
set_option maxRecDepth 100000
theorem get_nil (w : World) : Calls Tryz.prog 110 #[.pointer none] w fun e w' => e = .returned (.tuple #[.agg #[.int .i64 0, .int .i64 0], .int .i64 1]) ∧ Below w.heap.size w w' := by
  go_enter Tryz.func110, Tryz.ntmps110
  go_wp2
  refine bodyPost_ret (results_stp2 (a := 0) (b := 0) Tryz.results110 rfl rfl (by simp) (by simp)) rfl ?_
  exact ⟨rfl, by go_grown⟩

set_option maxHeartbeats 2000000 in
theorem get_any (R : Nat) (l : List UInt8) (w : World) (hr : Rd w R l) (hl : l.length ≤ 1099511627776) :
    Calls Tryz.prog 110 #[.pointer (some ⟨R, 0, none⟩)] w fun e w' =>
      e = .returned (.tuple #[.agg #[.int .i64 (rdS l).1, .int .i64 (rdS l).2.1], .int .i64 (rdS l).2.2.1]) ∧ Rd w' R (rdS l).2.2.2 ∧ Moved R w w' := by
  have hRl := hr.lt
  have Hr := hide hr
  obtain ⟨ao, n, c, hc, hf, hs, ht⟩ := hr
  have hB0 : Below w.heap.size w (w.alloc (.cells #[.int .i64 0, .int .i64 0] 36)) := by go_grown
  have hB1 : Below w.heap.size w ((w.alloc (.cells #[.int .i64 0, .int .i64 0] 36)).alloc (.cells #[.slice ao n c] 108)) := by go_grown
  have hr1 : Rd ((w.alloc (.cells #[.int .i64 0, .int .i64 0] 36)).alloc (.cells #[.slice ao n c] 108)) (w.heap.size + 1) l :=
    ⟨ao, n, c, by go_simp, by go_simp, hs.below hB1 (Nat.le_refl _), ht.below hB1 (Nat.le_refl _)⟩
  have hN := rnumber_any (w.heap.size + 1) l 1099511627776 _ hr1 hl
  clear ht
  have c0 := fun o => (World.cell?_alloc_lt (w := w) (o := o) (a := ⟨R, 0, none⟩) hRl).trans hc
  rcases rdN_cases l 1099511627776 with h1 | ⟨x, l1, h1, hl1, hx⟩
  · have hd : rdS l = (0, 0, 11, l) := by unfold rdS; rw [h1]; rfl
    rw [hd]
    rw [h1] at hN
    go_enter Tryz.func110, Tryz.ntmps110
    go_wp2_with fail
    refine hN.mono ?_
    rintro e w1 ⟨rfl, hr2, hy⟩
    have k0 : w1.cell? ⟨w.heap.size, 0, none⟩ = some (.int .i64 0) := (hy.cell (by simp)).trans (by go_simp)
    have k1 : w1.cell? ⟨w.heap.size, 1, none⟩ = some (.int .i64 0) := (hy.cell (by simp)).trans (by go_simp)
    have f0 : w1.frozen? ⟨w.heap.size, 0, none⟩ = false := (hy.frozen _).trans (by go_simp)
    have f1 : w1.frozen? ⟨w.heap.size, 1, none⟩ = false := (hy.frozen _).trans (by go_simp)
    have R1 := hB1.trans (hy.below (by omega))
    clear hr2 hy hr1 hB1 hB0
    go_wp2
    obtain ⟨d0, d1⟩ := set2 w1 w.heap.size _ _ (.int .i64 0) (.int .i64 0) k0 k1
    refine bodyPost_ret (results_stp2 Tryz.results110 rfl rfl d0 d1) rfl ?_
    have R2 : Below w.heap.size w ((w1.setCell ⟨w.heap.size, 0, none⟩ (.int .i64 0)).setCell ⟨w.heap.size, 1, none⟩ (.int .i64 0)) := (R1.setCell (Nat.le_refl _) _).setCell (Nat.le_refl _) _
    exact ⟨rfl, (unhide Hr).below R2 (Nat.le_refl _), Moved.of R2⟩
  · rw [h1] at hN
    rcases rdN_cases l1 65535 with h2 | ⟨y, l2, h2, hl2, hy2⟩
    · have hd : rdS l = (0, 0, 11, l) := by unfold rdS; rw [h1]; simp only [h2]; rfl
      rw [hd]
      go_enter Tryz.func110, Tryz.ntmps110
      go_wp2_with fail
      refine hN.mono ?_
      rintro e w1 ⟨rfl, hr2, hy⟩
      have k0 : w1.cell? ⟨w.heap.size, 0, none⟩ = some (.int .i64 0) := (hy.cell (by simp)).trans (by go_simp)
      have k1 : w1.cell? ⟨w.heap.size, 1, none⟩ = some (.int .i64 0) := (hy.cell (by simp)).trans (by go_simp)
      have f0 : w1.frozen? ⟨w.heap.size, 0, none⟩ = false := (hy.frozen _).trans (by go_simp)
      have f1 : w1.frozen? ⟨w.heap.size, 1, none⟩ = false := (hy.frozen _).trans (by go_simp)
      have R1 := hB1.trans (hy.below (by omega))
      have hN2 := rnumber_any (w.heap.size + 1) l1 65535 w1 hr2 (by omega)
      rw [h2] at hN2
      clear hy hr1 hB1 hB0 hr2
      go_wp2_with fail
      refine hN2.mono ?_
      rintro e w2 ⟨rfl, hr3, hy⟩
      replace k0 := (hy.cell (p := ⟨w.heap.size, 0, none⟩) (by simp)).trans k0
      replace k1 := (hy.cell (p := ⟨w.heap.size, 1, none⟩) (by simp)).trans k1
      replace f0 := (hy.frozen ⟨w.heap.size, 0, none⟩).trans f0
      replace f1 := (hy.frozen ⟨w.heap.size, 1, none⟩).trans f1
      replace R1 := R1.trans (hy.below (by omega))
      clear hy hr3 hN2
      go_wp2
      obtain ⟨d0, d1⟩ := set2 w2 w.heap.size _ _ (.int .i64 0) (.int .i64 0) k0 k1
      refine bodyPost_ret (results_stp2 Tryz.results110 rfl rfl d0 d1) rfl ?_
      have R2 : Below w.heap.size w ((w2.setCell ⟨w.heap.size, 0, none⟩ (.int .i64 0)).setCell ⟨w.heap.size, 1, none⟩ (.int .i64 0)) := (R1.setCell (Nat.le_refl _) _).setCell (Nat.le_refl _) _
      exact ⟨rfl, (unhide Hr).below R2 (Nat.le_refl _), Moved.of R2⟩
    · have hd : rdS l = (x, y, 0, l2) := by unfold rdS; rw [h1]; simp only [h2]; rfl
      rw [hd]
      go_enter Tryz.func110, Tryz.ntmps110
      go_wp2_with fail
      refine hN.mono ?_
      rintro e w1 ⟨rfl, hr2, hy⟩
      have k0 : w1.cell? ⟨w.heap.size, 0, none⟩ = some (.int .i64 0) := (hy.cell (by simp)).trans (by go_simp)
      have k1 : w1.cell? ⟨w.heap.size, 1, none⟩ = some (.int .i64 0) := (hy.cell (by simp)).trans (by go_simp)
      have f0 : w1.frozen? ⟨w.heap.size, 0, none⟩ = false := (hy.frozen _).trans (by go_simp)
      have f1 : w1.frozen? ⟨w.heap.size, 1, none⟩ = false := (hy.frozen _).trans (by go_simp)
      have R1 := hB1.trans (hy.below (by omega))
      have hN2 := rnumber_any (w.heap.size + 1) l1 65535 w1 hr2 (by omega)
      rw [h2] at hN2
      clear hy hr1 hB1 hB0 hr2
      go_wp2_with fail
      refine hN2.mono ?_
      rintro e w2 ⟨rfl, hr3, hy⟩
      replace k0 := (hy.cell (p := ⟨w.heap.size, 0, none⟩) (by simp)).trans k0
      replace k1 := (hy.cell (p := ⟨w.heap.size, 1, none⟩) (by simp)).trans k1
      replace f0 := (hy.frozen ⟨w.heap.size, 0, none⟩).trans f0
      replace f1 := (hy.frozen ⟨w.heap.size, 1, none⟩).trans f1
      replace R1 := R1.trans (hy.below (by omega))
      have hr4 := (unhide Hr).below R1 (Nat.le_refl _)
      obtain ⟨ao3, n3, c3, m0, m1, m2, m3⟩ := hr3
      obtain ⟨ao4, n4, c4, q0, q1, q2, q3⟩ := hr4
      have Hm3 := hide m3
      have Hm2 := hide m2
      clear m3 q3
      have Hq2 := hide q2
      clear hy hN2 m2 q2 c0 hc hf hs
      have z1 := R1.size
      have e0 : ∀ v, (w2.setCell ⟨R, 0, none⟩ v).cell? ⟨w.heap.size, 0, none⟩ = some (.int .i64 0) := fun v => (World.cell?_setCell_other _ _ _ _ (fun e => by have := congrArg Addr.block e; simp at this; omega)).trans k0
      have e1 : ∀ v, (w2.setCell ⟨R, 0, none⟩ v).cell? ⟨w.heap.size, 1, none⟩ = some (.int .i64 0) := fun v => (World.cell?_setCell_other _ _ _ _ (fun e => by have := congrArg Addr.block e; simp at this; omega)).trans k1
      go_wp2
      obtain ⟨d0, d1⟩ := set2 (w2.setCell ⟨R, 0, none⟩ (.slice ao3 n3 c3)) w.heap.size _ _ (.int .i64 x) (.int .i64 y) (e0 _) (e1 _)
      refine bodyPost_ret (results_stp2 Tryz.results110 rfl rfl d0 d1) rfl ?_
      have hrd := (Rd.set q0 q1 (unhide Hm2) (unhide Hm3)).setInt (e0 _) (.int .i64 x)
      have e2 := (World.cell?_setCell_other (w2.setCell ⟨R, 0, none⟩ (.slice ao3 n3 c3)) ⟨w.heap.size, 0, none⟩ ⟨w.heap.size, 1, none⟩ (.int .i64 x) (by simp)).trans (e1 (.slice ao3 n3 c3))
      exact ⟨rfl, hrd.setInt e2 _, (((Moved.of R1).set _).new (Nat.le_refl _) _).new (Nat.le_refl _) _⟩
end

end Go.Proofs.YtcdehnghggleoaaGreat.P1

/-
  What is read of what was written, by numbers, flags and texts; one way. Of no program.
-/
namespace Go.Proofs.YtcdehnghggleoaaGreat.P1
open Go.RowKit
set_option linter.unusedVariables false

theorem ofNat_toNat {n : Nat} (h : n < 256) : (UInt8.ofNat n).toNat = n := by simp [UInt8.toNat_ofNat']; omega

/-- What was put behind is read: with what was read ahead of it. -/
theorem dec_enc : ∀ (n i a v : Nat) (r : List UInt8), v < 128 ^ n → (0 < v ∨ i = 0) → (0 < n) → dec n i a (enc v ++ r) = (a + v * 128 ^ i, i + (enc v).length)
  | 0, _, _, _, _, _, _, h => absurd h (by decide)
  | n + 1, i, a, v, r, hv, h0, _ => by
    by_cases hs : v < 128
    · rw [enc_small hs, List.singleton_append, dec, ofNat_toNat (by omega), if_neg (by omega), if_neg (by omega), Nat.mod_eq_of_lt hs]
      simp
    · have hd : v / 128 < 128 ^ n := by rw [Nat.pow_succ] at hv; exact Nat.div_lt_of_lt_mul (by rw [Nat.mul_comm]; exact hv)
      have hn : 0 < n := by
        rcases Nat.eq_zero_or_pos n with rfl | h
        · simp at hd; omega
        · exact h
      rw [enc_big (by omega), List.cons_append, dec, ofNat_toNat (by omega), if_pos (by omega), dec_enc n (i + 1) _ (v / 128) r hd (.inl (by omega)) hn]
      have e : (v % 128 + 128) % 128 = v % 128 := by omega
      have e2 : v * 128 ^ i = v % 128 * 128 ^ i + v / 128 * 128 ^ (i + 1) := by
        rw [Nat.pow_succ, Nat.mul_comm (128 ^ i) 128, ← Nat.mul_assoc, ← Nat.add_mul]
        congr 1
        omega
      rw [e, e2]
      simp only [List.length_cons, Prod.mk.injEq]
      constructor <;> omega

theorem first_enc (v : Nat) (r : List UInt8) (h : v ≤ 9223372036854775807) : first (enc v ++ r) = (v, (enc v).length) := by
  unfold first
  rw [dec_enc 9 0 0 v r (Nat.lt_of_le_of_lt h (by decide)) (.inr rfl) (by decide)]
  simp

theorem rdN_enc (v : Nat) (r : List UInt8) (most : Int) (hv : v ≤ 9223372036854775807) (hm : (v : Int) ≤ most) : rdN (enc v ++ r) most = (v, 0, r) := by
  have e := first_enc v r hv
  have hp := enc_pos v
  rw [rdN_yes (by rw [e]; simp only; omega), e]
  simp

theorem rdF_enc (b : Bool) (r : List UInt8) : rdF (encF b ++ r) = (b, 0, r) := by
  cases b
  · have := rdN_enc 0 r 1 (by decide) (by decide)
    rw [enc_zero] at this
    unfold rdF
    rw [show encF false ++ r = [0] ++ r from rfl, this]
    rfl
  · have := rdN_enc 1 r 1 (by decide) (by decide)
    rw [enc_one] at this
    unfold rdF
    rw [show encF true ++ r = [1] ++ r from rfl, this]
    rfl

theorem rdT_enc (s : ByteArray) (r : List UInt8) (most : Int) (hs : s.size ≤ 9223372036854775807) (hm : (s.size : Int) ≤ most) : rdT (encT s ++ r) most = (s.data.toList, 0, r) := by
  have e := first_enc s.size (s.data.toList ++ r) hs
  rw [← List.append_assoc] at e
  have e' : first (encT s ++ r) = (s.size, (enc s.size).length) := e
  have hp := enc_pos s.size
  have hl : (encT s ++ r).length = (enc s.size).length + s.size + r.length := by unfold encT; rw [List.length_append, List.length_append, str_len]
  have hd : (encT s ++ r).drop (enc s.size).length = s.data.toList ++ r := by unfold encT; rw [List.append_assoc, List.drop_left]
  rw [rdT_yes (by rw [e', hl]; simp only; omega), e']
  simp only
  rw [← List.drop_drop, hd]
  have h1 : (s.data.toList ++ r).take s.size = s.data.toList := by rw [← str_len s]; exact List.take_left
  have h2 : (s.data.toList ++ r).drop s.size = r := by rw [← str_len s]; exact List.drop_left
  rw [h1, h2]

theorem ofNat_self (c : UInt8) (n : Nat) (h : c.toNat = n) : UInt8.ofNat n = c := by subst h; simp

theorem dec_one : ∀ (n i a : Nat) (l : List UInt8), (dec n i a l).2 ≠ 0 → ∃ v, (dec n i a l).1 = a + v * 128 ^ i ∧ (dec n i a l).2 = i + (enc v).length ∧ l = enc v ++ l.drop (enc v).length ∧ (0 < i → 0 < v)
  | 0, _, _, _, h => by simp [dec] at h
  | _ + 1, _, _, [], h => by simp [dec] at h
  | n + 1, i, a, c :: l, h => by
    have hc := c.toNat_lt
    rw [dec] at h ⊢
    by_cases hb : 128 ≤ c.toNat
    · rw [if_pos hb] at h ⊢
      obtain ⟨v, h1, h2, h3, h4⟩ := dec_one n (i + 1) (a + c.toNat % 128 * 128 ^ i) l h
      have hv := h4 (by omega)
      have he : enc (c.toNat % 128 + 128 * v) = c :: enc v := by
        rw [enc_big (by omega), show (c.toNat % 128 + 128 * v) / 128 = v by omega, ofNat_self c _ (by omega)]
      refine ⟨c.toNat % 128 + 128 * v, ?_, ?_, ?_, fun _ => by omega⟩
      · rw [h1, Nat.add_mul, Nat.pow_succ, Nat.mul_comm 128 v, Nat.mul_assoc, Nat.mul_comm 128 (128 ^ i)]
        omega
      · rw [h2, he, List.length_cons]; omega
      · rw [he, List.length_cons, List.drop_succ_cons, List.cons_append, ← h3]
    · rw [if_neg hb] at h ⊢
      by_cases h0 : c.toNat = 0 ∧ 0 < i
      · rw [if_pos h0] at h; exact absurd rfl h
      · rw [if_neg h0]
        have he : enc c.toNat = [c] := by rw [enc_small (by omega), ofNat_self c _ rfl]
        refine ⟨c.toNat, by rw [Nat.mod_eq_of_lt (by omega)], by rw [he]; rfl, by rw [he]; rfl, fun hi => ?_⟩
        omega

theorem first_one (l : List UInt8) (h : (first l).2 ≠ 0) : l = enc (first l).1 ++ l.drop (first l).2 := by
  obtain ⟨v, h1, h2, h3, _⟩ := dec_one 9 0 0 l h
  have e1 : (first l).1 = v := by unfold first; rw [h1]; simp
  have e2 : (first l).2 = (enc v).length := by unfold first; rw [h2]; simp
  rw [e1, e2]
  exact h3

/-- What became of a number's reading: nothing, or its bytes. -/
theorem rdN_one (l : List UInt8) (most : Int) : ((rdN l most).2.1 = 11 ∧ (rdN l most).2.2 = l ∧ (rdN l most).1 = 0) ∨
    ((rdN l most).2.1 = 0 ∧ l = enc (rdN l most).1 ++ (rdN l most).2.2 ∧ ((rdN l most).1 : Int) ≤ most ∧ (rdN l most).1 ≤ 9223372036854775807) := by
  by_cases h : (first l).2 = 0 ∨ most < ((first l).1 : Int)
  · rw [rdN_no h]; exact .inl ⟨rfl, rfl, rfl⟩
  · rw [rdN_yes h]
    exact .inr ⟨rfl, first_one l (fun e => h (.inl e)), by simp only; omega, first_lt l⟩

theorem rdF_one (l : List UInt8) : ((rdF l).2.1 = 11 ∧ (rdF l).2.2 = l ∧ (rdF l).1 = false) ∨ ((rdF l).2.1 = 0 ∧ l = encF (rdF l).1 ++ (rdF l).2.2) := by
  unfold rdF
  rcases rdN_one l 1 with ⟨h1, h2, h3⟩ | ⟨h1, h2, h3, _⟩
  · exact .inl ⟨h1, h2, by rw [h3]; rfl⟩
  · refine .inr ⟨h1, ?_⟩
    generalize rdN l 1 = y at *
    obtain ⟨x, e, r⟩ := y
    simp only at h2 h3 ⊢
    have : x = 0 ∨ x = 1 := by omega
    rcases this with rfl | rfl
    · rw [enc_zero] at h2; exact h2
    · rw [enc_one] at h2; exact h2

theorem rdT_one (l : List UInt8) (most : Int) : ((rdT l most).2.1 = 11 ∧ (rdT l most).2.2 = l ∧ (rdT l most).1 = []) ∨
    ((rdT l most).2.1 = 0 ∧ l = encT ⟨(rdT l most).1.toArray⟩ ++ (rdT l most).2.2 ∧ ((rdT l most).1.length : Int) ≤ most) := by
  by_cases h : (first l).2 = 0 ∨ most < ((first l).1 : Int) ∨ ((l.length : Int) - (first l).2 < (first l).1)
  · rw [rdT_no h]; exact .inl ⟨rfl, rfl, rfl⟩
  · rw [rdT_yes h]
    refine .inr ⟨rfl, ?_, ?_⟩
    · simp only
      have hk : (first l).2 ≠ 0 := fun e => h (.inl e)
      have hle := first_le l
      have hlen : ((l.drop (first l).2).take (first l).1).length = (first l).1 := by rw [List.length_take, List.length_drop]; omega
      have hz : (⟨((l.drop (first l).2).take (first l).1).toArray⟩ : ByteArray).size = (first l).1 := by
        show (((l.drop (first l).2).take (first l).1).toArray).size = _
        rw [List.size_toArray, hlen]
      unfold encT
      rw [hz]
      conv => lhs; rw [first_one l hk]
      rw [List.append_assoc]
      congr 1
      show _ = (l.drop (first l).2).take (first l).1 ++ _
      rw [← List.drop_drop]
      exact (List.take_append_drop _ _).symm
    · simp only
      rw [List.length_take]
      omega

end Go.Proofs.YtcdehnghggleoaaGreat.P1

/-
  The document's own answers for what is put behind: numbers, flags, texts, acts.
-/
namespace Go.Proofs.YtcdehnghggleoaaGreat.P1
open Go.RowKit
set_option linter.unusedVariables false

theorem own_lit1 (w : World) (b : UInt8) (n : Int) (hb : (b.toNat : Int) = n) : Own w.heap.size (w.alloc (.cells #[.int .u8 n] 5)) (.slice (some ⟨w.heap.size, 0, none⟩) 1 1) [b] := by
  have := World.ownsRow_lit (e := 5) (size := 1) (base := w.heap.size) w #[.int .u8 n] 1 (Nat.le_refl _) (by decide) rfl
  unfold Own bc
  simp only [List.map_cons, List.map_nil, hb]
  exact this

end Go.Proofs.YtcdehnghggleoaaGreat.P1
