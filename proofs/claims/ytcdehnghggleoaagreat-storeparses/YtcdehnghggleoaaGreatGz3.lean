/-
  S5Key, S5Right, S5Has, S5Clip, S5Math, SMath, Next, OrderMath, RefS, VLaws, Vd, Sd, S5Fits, S5Ref, St1: one behind the other. No law is proved here.
-/
import Derived.Test.YtcdehnghggleoaaGreatGz1
import Derived.Deep.LoopGhost
import Derived.Lib.Walk
import Derived.Lib.MinMaxS
import Derived.Test.YtcdehnghggleoaaGreatGz2
import Derived.Laws.StructEq
import Derived.Maps.OwnIn
import Derived.Maps.Ext
import Derived.Maps.RangeWalk
import Derived.Sort.MapsRangeIn
import Derived.Sort.KeysCollected
import Derived.StringKeys
import Derived.RangeFuncNested
/-
  Contracts of Key: the program's and the document's. No law is proved here.
-/
namespace Go.Proofs.YtcdehnghggleoaaGreat.S5
open Go.RowKit
set_option linter.unusedVariables false

/-- Is a byte a letter a to z? -/
def letB (b : UInt8) : Bool := decide (97 ≤ b.toNat) && decide (b.toNat ≤ 122)
/-- Is a text a key? -/
def keyB (s : ByteArray) : Bool := decide (1 ≤ s.size) && decide (s.size ≤ 8) && s.toList.all letB

theorem size_toList (s : ByteArray) : s.toList.length = s.size := by rw [ByteArray.toList_eq]; rfl

theorem keyB_short {s : ByteArray} (h : s.size < 1) : keyB s = false := by
  unfold keyB; rw [decide_eq_false (by omega)]; rfl
theorem keyB_long {s : ByteArray} (h : 8 < s.size) : keyB s = false := by
  unfold keyB; rw [decide_eq_false (p := s.size ≤ 8) (by omega), Bool.and_false]; rfl

/-- The first k bytes are letters. -/
def Lets (s : ByteArray) (k : Nat) : Prop := ∀ b ∈ s.toList.take k, letB b = true

theorem get_toList (s : ByteArray) (k : Nat) (h : k < s.size) (h' : k < s.toList.length) : s.toList[k] = s[k] := by
  have : ∀ l : List UInt8, l = s.data.toList → ∀ h : k < l.length, l[k] = s[k] := by rintro l rfl h; rfl
  exact this _ (ByteArray.toList_eq s) _

theorem Lets.start (s : ByteArray) : Lets s 0 := by intro b hb; simp at hb
theorem Lets.step {s : ByteArray} {k : Nat} (hl : Lets s k) (h : k < s.size) (h1 : 97 ≤ s[k].toNat) (h2 : s[k].toNat ≤ 122) : Lets s (k + 1) := by
  have hk : k < s.toList.length := by rw [size_toList]; exact h
  intro b hb
  rw [List.take_succ_eq_append_getElem hk, List.mem_append] at hb
  rcases hb with hb | hb
  · exact hl b hb
  · rw [List.mem_singleton] at hb
    rw [hb, get_toList s k h hk]
    unfold letB
    rw [decide_eq_true h1, decide_eq_true h2]; rfl
theorem Lets.all {s : ByteArray} {k : Nat} (hl : Lets s k) (h : s.size ≤ k) : s.toList.all letB = true := by
  rw [List.all_eq_true]
  intro b hb
  exact hl b (by rw [List.take_of_length_le (by rw [size_toList]; exact h)]; exact hb)
theorem lets_not {s : ByteArray} {k : Nat} (h : k < s.size) (h1 : s[k].toNat < 97 ∨ 122 < s[k].toNat) : s.toList.all letB = false := by
  have hk : k < s.toList.length := by rw [size_toList]; exact h
  rw [List.all_eq_false]
  refine ⟨s.toList[k], List.getElem_mem hk, ?_⟩
  rw [get_toList s k h hk]
  unfold letB
  rcases h1 with h1 | h1
  · rw [decide_eq_false (by omega)]; simp
  · rw [decide_eq_false (p := s[k].toNat ≤ 122) (by omega)]; simp
theorem keyB_not {s : ByteArray} (h : s.toList.all letB = false) : keyB s = false := by unfold keyB; rw [h, Bool.and_false]
theorem keyB_yes {s : ByteArray} (h : s.toList.all letB = true) (h1 : 1 ≤ s.size) (h8 : s.size ≤ 8) : keyB s = true := by
  unfold keyB; rw [h, decide_eq_true h1, decide_eq_true h8]; rfl

set_option maxRecDepth 100000 in
theorem key_any (s : ByteArray) (w : World) : Calls Tryz.prog 18 #[.string s] w fun e w' => e = .returned (.bool (keyB s)) ∧ w' = w := by
  by_cases h0 : s.size < 1
  · have Hk := hide (keyB_short h0)
    go_enter Tryz.func18, Tryz.ntmps18
    go_wp2
    go_ret
    rw [unhide Hk]
    exact ⟨rfl, rfl⟩
  · by_cases h8 : 8 < s.size
    · have Hk := hide (keyB_long h8)
      go_enter Tryz.func18, Tryz.ntmps18
      go_wp2
      go_ret
      rw [unhide Hk]
      exact ⟨rfl, rfl⟩
    · go_enter Tryz.func18, Tryz.ntmps18
      go_wp2
      go_loop [14] (fun i => ∃ k : Nat, i = .int .i64 k ∧ k ≤ s.size ∧ Hid (Lets s k)) (fun i => s.size - (intOf i).toNat)
      case atStart => exact ⟨0, rfl, by omega, Lets.start s⟩
      case round =>
        obtain ⟨k, rfl, hk, Hl⟩ := hrel
        by_cases hlt : k < s.size
        · have H1 : Hid (s[k].toNat < 97 ∨ 122 < s[k].toNat → s.toList.all letB = false) := lets_not hlt
          have H2 : Hid (97 ≤ s[k].toNat → s[k].toNat ≤ 122 → Lets s (k + 1)) := fun a b => (unhide Hl).step hlt a b
          obtain ⟨cn, hcn⟩ : ∃ cn, s[k].toNat = cn := ⟨_, rfl⟩
          rw [hcn] at H1 H2
          by_cases h97 : cn < 97
          · go_wp2
            go_ret
            rw [keyB_not (unhide H1 (.inl h97))]
            exact ⟨rfl, rfl⟩
          · by_cases h122 : 122 < cn
            · go_wp2
              go_ret
              rw [keyB_not (unhide H1 (.inr h122))]
              exact ⟨rfl, rfl⟩
            · go_wp2
              go_round
              case rel => exact ⟨k + 1, by go_num, by omega, unhide H2 (by omega) (by omega)⟩
              case measure => simp [intOf]; omega
        · go_wp2
          go_ret
          rw [keyB_yes ((unhide Hl).all (by omega)) (by omega) (by omega)]
          exact ⟨rfl, rfl⟩

set_option maxRecDepth 100000 in
theorem refKey_any (s : ByteArray) (w : World) (hs : s.size ≤ 9223372036854775807) : Calls Tryz.prog 25 #[.string s] w fun e w' => e = .returned (.bool (keyB s)) ∧ w' = w := by
  go_enter Tryz.func25, Tryz.ntmps25
  go_wp2
  go_loop [3] (fun i => ∃ k : Nat, i = .int .i64 k ∧ k ≤ s.size ∧ Hid (Lets s k)) (fun i => s.size - (intOf i).toNat)
  case atStart => exact ⟨0, rfl, by omega, Lets.start s⟩
  case round =>
    obtain ⟨k, rfl, hk, Hl⟩ := hrel
    by_cases hlt : k < s.size
    · have H1 : Hid (s[k].toNat < 97 ∨ 122 < s[k].toNat → s.toList.all letB = false) := lets_not hlt
      have H2 : Hid (97 ≤ s[k].toNat → s[k].toNat ≤ 122 → Lets s (k + 1)) := fun a b => (unhide Hl).step hlt a b
      obtain ⟨cn, hcn⟩ : ∃ cn, s[k].toNat = cn := ⟨_, rfl⟩
      rw [hcn] at H1 H2
      by_cases h97 : cn < 97
      · go_wp2
        go_ret
        rw [keyB_not (unhide H1 (.inl h97))]
        exact ⟨rfl, rfl⟩
      · by_cases h122 : 122 < cn
        · go_wp2
          go_ret
          rw [keyB_not (unhide H1 (.inr h122))]
          exact ⟨rfl, rfl⟩
        · go_wp2
          go_round
          case rel => exact ⟨k + 1, by go_num, by omega, unhide H2 (by omega) (by omega)⟩
          case measure => simp [intOf]; omega
    · have Ha := hide ((unhide Hl).all (by omega))
      by_cases h0 : s.size < 1
      · have Hk := hide (keyB_short h0)
        go_wp2
        go_ret
        rw [unhide Hk]
        exact ⟨rfl, rfl⟩
      · by_cases h8 : 8 < s.size
        · have Hk := hide (keyB_long h8)
          go_wp2
          go_ret
          rw [unhide Hk]
          refine ⟨?_, rfl⟩
          show Ending.returned (Value.bool (decide ((s.size : Int) ≤ 8))) = _
          rw [decide_eq_false (by omega)]
        · have Hk := hide (keyB_yes (unhide Ha) (by omega) (by omega))
          go_wp2
          go_ret
          rw [unhide Hk]
          refine ⟨?_, rfl⟩
          show Ending.returned (Value.bool (decide ((s.size : Int) ≤ 8))) = _
          rw [decide_eq_true (by omega)]

end Go.Proofs.YtcdehnghggleoaaGreat.S5

/-
  Contracts of Right: the program's and the document's. No law is proved here.
-/
namespace Go.Proofs.YtcdehnghggleoaaGreat.S5
open Go.RowKit
set_option linter.unusedVariables false

/-- Is one text less than another one? -/
def ltB (x y : ByteArray) : Bool := Op.bytesLess x.toList y.toList
/-- Are two texts one? -/
def eqB (x y : ByteArray) : Bool := x.toList == y.toList
def emp : ByteArray := ⟨#[]⟩
def brace : ByteArray := ⟨#[123]⟩
/-- Is a span right? -/
def rightB (f t : ByteArray) : Bool := keyB f && (eqB t emp || (eqB t brace || keyB t) && !(ltB t f || eqB t f))

/-- A span lies in block B, and may be written. -/
structure Sp (w : World) (B : Nat) (f t : ByteArray) : Prop where
  c0 : w.cell? ⟨B, 0, none⟩ = some (.string f)
  c1 : w.cell? ⟨B, 1, none⟩ = some (.string t)
  f0 : w.frozen? ⟨B, 0, none⟩ = false
  f1 : w.frozen? ⟨B, 1, none⟩ = false

theorem Sp.lt {w : World} {B : Nat} {f t : ByteArray} (h : Sp w B f t) : B < w.heap.size := World.block_lt_of_cell? w _ h.c0
theorem Sp.below {w w' : World} {B C : Nat} {f t : ByteArray} (h : Sp w B f t) (hb : Below C w w') (hC : B < C) : Sp w' B f t :=
  ⟨(hb.cell hC).trans h.c0, (hb.cell hC).trans h.c1, (hb.frozen hC).trans h.f0, (hb.frozen hC).trans h.f1⟩
theorem Sp.later {w w' : World} {B : Nat} {f t : ByteArray} (h : Sp w B f t) (hb : Below w.heap.size w w') : Sp w' B f t := h.below hb h.lt
theorem Sp.alloc {w : World} {B : Nat} {f t : ByteArray} (h : Sp w B f t) (o : Obj) : Sp (w.alloc o) B f t := h.later ((Below.refl _ _).alloc (Nat.le_refl _) o)
theorem Sp.new (w : World) (f t : ByteArray) (T : TypeId) : Sp (w.alloc (.cells #[.string f, .string t] T)) w.heap.size f t := ⟨by simp, by simp, by simp, by simp⟩
theorem Sp.other {w : World} {B : Nat} {f t : ByteArray} (h : Sp w B f t) {q : Addr} (hq : q.block ≠ B) (v : Value) : Sp (w.setCell q v) B f t := by
  have n : ∀ k, q ≠ ⟨B, k, none⟩ := fun k e => hq (by rw [e])
  exact ⟨(World.cell?_setCell_other w _ _ _ (n 0)).trans h.c0, (World.cell?_setCell_other w _ _ _ (n 1)).trans h.c1, by simpa using h.f0, by simpa using h.f1⟩
theorem Sp.put {w : World} {B : Nat} {f t : ByteArray} (h : Sp w B f t) (f' t' : ByteArray) : Sp ((w.setCell ⟨B, 0, none⟩ (.string f')).setCell ⟨B, 1, none⟩ (.string t')) B f' t' := by
  refine ⟨?_, ?_, by simpa using h.f0, by simpa using h.f1⟩
  · rw [World.cell?_setCell_other _ _ _ _ (by simp)]; exact World.cell?_setCell_same w _ _ h.c0
  · exact World.cell?_setCell_same _ _ _ ((World.cell?_setCell_other w _ _ _ (by simp)).trans h.c1)

theorem below_alloc {w w' : World} (o : Obj) (h : Below (w.alloc o).heap.size (w.alloc o) w') : Below w.heap.size w w' :=
  ((Below.refl _ w).alloc (Nat.le_refl _) o).trans (h.mono (by simp))

theorem emp_toList : emp.toList = [] := ByteArray.toList_mk []
theorem brace_toList : brace.toList = [123] := ByteArray.toList_mk [123]

section
set_option maxRecDepth 100000
set_option maxHeartbeats 1000000

theorem right_any (f t : ByteArray) (w : World) : Calls Tryz.prog 72 #[.agg #[.string f, .string t]] w fun e w' => e = .returned (.bool (rightB f t)) ∧ Below w.heap.size w w' := by
  have hB : ∀ o, Hid (Below w.heap.size w (w.alloc o)) := fun o => (Below.refl _ _).alloc (Nat.le_refl _) o
  have Hr : Hid (rightB f t = (keyB f && (eqB t emp || (eqB t brace || keyB t) && !(ltB t f || eqB t f)))) := Eq.refl (rightB f t)
  have e0' : (t.toList == []) = eqB t emp := by unfold eqB; rw [emp_toList]
  have e1' : (t.toList == [123]) = eqB t brace := by unfold eqB; rw [brace_toList]
  have e2' : Op.bytesLess t.toList f.toList = ltB t f := rfl
  have e3' : (t.toList == f.toList) = eqB t f := rfl
  generalize rightB f t = r at Hr ⊢
  generalize eqB t emp = e0 at *
  generalize eqB t brace = e1 at *
  generalize ltB t f = e2 at *
  generalize eqB t f = e3 at *
  cases hkf : keyB f <;> rw [hkf] at Hr
  · go_enter Tryz.func72, Tryz.ntmps72
    go_wp2_with (go_at_call 18; refine (key_any _ _).mono ?_; rintro e w' ⟨rfl, rfl⟩)
    go_ret
    rw [unhide Hr]
    exact ⟨rfl, unhide (hB _)⟩
  · cases e0
    · cases e1
      · cases hkt : keyB t <;> rw [hkt] at Hr
        all_goals
          go_enter Tryz.func72, Tryz.ntmps72
          go_wp2_with (go_at_call 18; refine (key_any _ _).mono ?_; rintro e w' ⟨rfl, rfl⟩)
          go_ret
          rw [unhide Hr]
          refine ⟨?_, unhide (hB _)⟩
          cases e2 <;> cases e3 <;> rfl
      · go_enter Tryz.func72, Tryz.ntmps72
        go_wp2_with (go_at_call 18; refine (key_any _ _).mono ?_; rintro e w' ⟨rfl, rfl⟩)
        go_ret
        rw [unhide Hr]
        refine ⟨?_, unhide (hB _)⟩
        cases e2 <;> cases e3 <;> rfl
    · go_enter Tryz.func72, Tryz.ntmps72
      go_wp2_with (go_at_call 18; refine (key_any _ _).mono ?_; rintro e w' ⟨rfl, rfl⟩)
      go_ret
      rw [unhide Hr]
      exact ⟨rfl, unhide (hB _)⟩

end

end Go.Proofs.YtcdehnghggleoaaGreat.S5

/-
  The contract of Has. No law is proved here.
-/
namespace Go.Proofs.YtcdehnghggleoaaGreat.S5
open Go.RowKit
set_option linter.unusedVariables false

/-- Has a span a key? -/
def hasB (f t k : ByteArray) : Bool := rightB f t && keyB k && cond (eqB t emp) (eqB k f) (!ltB k f && ltB k t)

section
set_option maxRecDepth 100000
set_option maxHeartbeats 1000000

theorem has_any (f t k : ByteArray) (w : World) : Calls Tryz.prog 100 #[.agg #[.string f, .string t], .string k] w fun e w' => e = .returned (.bool (hasB f t k)) ∧ Below w.heap.size w w' := by
  have HS : ∀ {w'}, Below (w.alloc (.cells #[.string f, .string t] 47)).heap.size (w.alloc (.cells #[.string f, .string t] 47)) w' → Hid (Sp w' w.heap.size f t ∧ Below w.heap.size w w') := fun hb => ⟨(Sp.new w f t _).later hb, below_alloc _ hb⟩
  have Hr : Hid (hasB f t k = (rightB f t && keyB k && cond (eqB t emp) (eqB k f) (!ltB k f && ltB k t))) := Eq.refl (hasB f t k)
  have e0' : (t.toList == []) = eqB t emp := by unfold eqB; rw [emp_toList]
  have e1' : (k.toList == f.toList) = eqB k f := rfl
  have e2' : Op.bytesLess k.toList f.toList = ltB k f := rfl
  have e3' : Op.bytesLess k.toList t.toList = ltB k t := rfl
  generalize hasB f t k = r at Hr ⊢
  generalize eqB t emp = e0 at *
  generalize eqB k f = e1 at *
  generalize ltB k f = e2 at *
  generalize ltB k t = e3 at *
  cases hr : rightB f t <;> rw [hr] at Hr
  · go_enter Tryz.func100, Tryz.ntmps100
    go_wp2_with (first
      | (go_at_call 72; refine (right_any _ _ _).mono ?_; rintro e w' ⟨rfl, hb⟩; obtain ⟨⟨c0, c1, f0, f1⟩, hb'⟩ := unhide (HS hb); replace hb := hide hb'; clear hb')
      | (go_at_call 18; refine (key_any _ _).mono ?_; rintro e w' ⟨rfl, rfl⟩))
    go_ret
    rw [unhide Hr]
    exact ⟨rfl, unhide hb⟩
  · cases hk : keyB k <;> rw [hk] at Hr
    · go_enter Tryz.func100, Tryz.ntmps100
      go_wp2_with (first
        | (go_at_call 72; refine (right_any _ _ _).mono ?_; rintro e w' ⟨rfl, hb⟩; obtain ⟨⟨c0, c1, f0, f1⟩, hb'⟩ := unhide (HS hb); replace hb := hide hb'; clear hb')
        | (go_at_call 18; refine (key_any _ _).mono ?_; rintro e w' ⟨rfl, rfl⟩))
      go_ret
      rw [unhide Hr]
      exact ⟨rfl, unhide hb⟩
    · cases e0
      · cases e2
        · go_enter Tryz.func100, Tryz.ntmps100
          go_wp2_with (first
            | (go_at_call 72; refine (right_any _ _ _).mono ?_; rintro e w' ⟨rfl, hb⟩; obtain ⟨⟨c0, c1, f0, f1⟩, hb'⟩ := unhide (HS hb); replace hb := hide hb'; clear hb')
            | (go_at_call 18; refine (key_any _ _).mono ?_; rintro e w' ⟨rfl, rfl⟩))
          go_ret
          rw [unhide Hr]
          exact ⟨rfl, unhide hb⟩
        · go_enter Tryz.func100, Tryz.ntmps100
          go_wp2_with (first
            | (go_at_call 72; refine (right_any _ _ _).mono ?_; rintro e w' ⟨rfl, hb⟩; obtain ⟨⟨c0, c1, f0, f1⟩, hb'⟩ := unhide (HS hb); replace hb := hide hb'; clear hb')
            | (go_at_call 18; refine (key_any _ _).mono ?_; rintro e w' ⟨rfl, rfl⟩))
          go_ret
          rw [unhide Hr]
          exact ⟨rfl, unhide hb⟩
      · go_enter Tryz.func100, Tryz.ntmps100
        go_wp2_with (first
          | (go_at_call 72; refine (right_any _ _ _).mono ?_; rintro e w' ⟨rfl, hb⟩; obtain ⟨⟨c0, c1, f0, f1⟩, hb'⟩ := unhide (HS hb); replace hb := hide hb'; clear hb')
          | (go_at_call 18; refine (key_any _ _).mono ?_; rintro e w' ⟨rfl, rfl⟩))
        go_ret
        rw [unhide Hr]
        exact ⟨rfl, unhide hb⟩

end

end Go.Proofs.YtcdehnghggleoaaGreat.S5

/-
  Contracts of Clip, Meet and All. No law is proved here.
-/
namespace Go.Proofs.YtcdehnghggleoaaGreat.S5
open Go.RowKit
set_option linter.unusedVariables false

/-- Have two spans a key in common? -/
def clipB (af at' bf bt : ByteArray) : Bool := hasB af at' (Lib.maxS af bf) && hasB bf bt (Lib.maxS af bf)
def clipF (af at' bf bt : ByteArray) : ByteArray := cond (clipB af at' bf bt) (Lib.maxS af bf) emp
def clipT (af at' bf bt : ByteArray) : ByteArray := cond (clipB af at' bf bt) (Lib.minS at' bt) emp

theorem results_sp {fn : Func} {k : Nat} (hf : fn.results = #[.cell k 47]) {tmps : Array Value} {w : World} {B : Nat} {a b : ByteArray} (hk : tmps[k]? = some (.pointer (some ⟨B, 0, none⟩)))
    (h : Sp w B a b) : (results fn tmps).run Tryz.prog w = .ok (.agg #[.string a, .string b]) w := by
  obtain ⟨h0, h1, f0, f1⟩ := h
  simp [results, hf, go_sem, h0, h1, hk]

theorem results_sp2 {fn : Func} {k u : Nat} (hf : fn.results = #[.cell k 47, .tmp u]) {tmps : Array Value} {w : World} {B : Nat} {a b : ByteArray} {e : Value} (hk : tmps[k]? = some (.pointer (some ⟨B, 0, none⟩))) (hu : tmps[u]? = some e)
    (h : Sp w B a b) : (results fn tmps).run Tryz.prog w = .ok (.tuple #[(.agg #[.string a, .string b]), e]) w := by
  obtain ⟨h0, h1, f0, f1⟩ := h
  simp [results, hf, go_sem, h0, h1, hk, hu]

/-- Two spans and a third place for one lie in new memory. -/
structure Three (w w' : World) (af at' bf bt : ByteArray) : Prop where
  a : Sp w' w.heap.size af at'
  b : Sp w' (w.heap.size + 1) bf bt
  c : Sp w' (w.heap.size + 2) emp emp
  below : Below w.heap.size w w'

theorem Three.new (w : World) (af at' bf bt : ByteArray) (T : TypeId) :
    Three w (((w.alloc (.cells #[.string af, .string at'] T)).alloc (.cells #[.string bf, .string bt] T)).alloc (.cells #[.string emp, .string emp] T)) af at' bf bt :=
  ⟨((Sp.new w af at' T).alloc _).alloc _, by have := ((Sp.new (w.alloc (.cells #[.string af, .string at'] T)) bf bt T).alloc (.cells #[.string emp, .string emp] T)); simpa using this,
    by have := Sp.new ((w.alloc (.cells #[.string af, .string at'] T)).alloc (.cells #[.string bf, .string bt] T)) emp emp T; simpa using this,
    (((Below.refl _ w).alloc (Nat.le_refl _) _).alloc (by simp) _).alloc (by simp; omega) _⟩
theorem Three.later {w w1 w2 : World} {af at' bf bt : ByteArray} (h : Three w w1 af at' bf bt) (hb : Below w1.heap.size w1 w2) : Three w w2 af at' bf bt :=
  ⟨h.a.later hb, h.b.later hb, h.c.later hb, h.below.trans (hb.mono h.below.size)⟩

section
set_option maxRecDepth 100000
set_option maxHeartbeats 1000000

end

end Go.Proofs.YtcdehnghggleoaaGreat.S5

/-
  The order of texts, and what spans have: of no program. No law is proved here.
-/
namespace Go.Proofs.YtcdehnghggleoaaGreat.S5
open Go.RowKit
set_option linter.unusedVariables false

theorem toList_inj {x y : ByteArray} (h : x.toList = y.toList) : x = y := by
  rw [ByteArray.toList_eq, ByteArray.toList_eq] at h
  cases x; cases y
  simp at h
  rw [h]

theorem ltB_iff (x y : ByteArray) : ltB x y = true ↔ x.toList < y.toList := by unfold ltB; rw [bytesLess_eq]; simp
theorem eqB_iff (x y : ByteArray) : eqB x y = true ↔ x = y := by
  unfold eqB
  constructor
  · intro h; exact toList_inj (by simpa using h)
  · rintro rfl; simp
theorem eqB_self (x : ByteArray) : eqB x x = true := (eqB_iff x x).2 rfl

theorem lt_irrefl (x : ByteArray) : ltB x x = false := by
  rw [← Bool.not_eq_true, ltB_iff]; exact List.lt_irrefl _
theorem lt_trans {x y z : ByteArray} (h : ltB x y = true) (k : ltB y z = true) : ltB x z = true := by
  rw [ltB_iff] at *; exact List.lt_trans h k
theorem lt_asymm {x y : ByteArray} (h : ltB x y = true) : ltB y x = false := by
  cases k : ltB y x with
  | false => rfl
  | true => have := lt_trans h k; rw [lt_irrefl] at this; exact this.symm
theorem lt_total {x y : ByteArray} (h : ltB x y = false) (k : ltB y x = false) : x = y := by
  rw [← Bool.not_eq_true, ltB_iff] at h k
  exact toList_inj (List.le_antisymm (List.not_lt.1 k) (List.not_lt.1 h))

/-- Less, said as a proposition. -/
def L (x y : ByteArray) : Prop := ltB x y = true
def K (x : ByteArray) : Prop := keyB x = true
theorem L.irr (x : ByteArray) : ¬ L x x := by unfold L; rw [lt_irrefl]; simp
theorem L.tr {x y z : ByteArray} (h : L x y) (k : L y z) : L x z := lt_trans h k
theorem L.tot (x y : ByteArray) : L x y ∨ x = y ∨ L y x := by
  unfold L
  cases h : ltB x y with
  | true => exact .inl rfl
  | false => cases k : ltB y x with
    | true => exact .inr (.inr rfl)
    | false => exact .inr (.inl (lt_total h k))

theorem emp_lt {x : ByteArray} (h : x ≠ emp) : L emp x := by
  unfold L; rw [ltB_iff, emp_toList]
  cases hx : x.toList with
  | nil => exact absurd (toList_inj (by rw [hx, emp_toList])) h
  | cons a l => exact List.nil_lt_cons a l
theorem not_lt_emp (x : ByteArray) : ¬ L x emp := by
  unfold L; rw [ltB_iff, emp_toList]; exact List.not_lt_nil _
theorem key_emp_not : ¬ K emp := by unfold K; rw [keyB_short (by decide)]; simp
theorem K.ne {x : ByteArray} (h : K x) : x ≠ emp := by rintro rfl; exact key_emp_not h
theorem key_brace_not : ¬ K brace := by
  unfold K keyB; rw [brace_toList]; decide
theorem brace_ne : brace ≠ emp := by intro h; have := congrArg ByteArray.size h; revert this; decide
theorem K.lt {x : ByteArray} (h : K x) : L x brace := by
  have h0 := h
  unfold K keyB at h
  simp only [Bool.and_eq_true, List.all_eq_true] at h
  unfold L; rw [ltB_iff, brace_toList]
  cases hx : x.toList with
  | nil => exact absurd (toList_inj (by rw [hx, emp_toList])) (K.ne h0)
  | cons a l =>
    have := h.2 a (by rw [hx]; exact List.mem_cons_self)
    unfold letB at this
    simp only [Bool.and_eq_true, decide_eq_true_eq] at this
    refine List.cons_lt_cons_iff.2 (.inl ?_)
    exact UInt8.lt_iff_toNat_lt.2 (by have : (123 : UInt8).toNat = 123 := rfl; omega)

/-- A right span. -/
def R (f t : ByteArray) : Prop := K f ∧ (t = emp ∨ (t ≠ emp ∧ (t = brace ∨ K t) ∧ L f t))
/-- A span has a key. -/
def H (f t k : ByteArray) : Prop := K f ∧ K k ∧ ((t = emp ∧ k = f) ∨ (t ≠ emp ∧ (t = brace ∨ K t) ∧ L f t ∧ ¬ L k f ∧ L k t))

theorem right_iff (f t : ByteArray) : rightB f t = true ↔ R f t := by
  unfold rightB R K
  simp only [Bool.and_eq_true, Bool.or_eq_true, Bool.not_eq_true', Bool.or_eq_false_iff, eqB_iff]
  refine and_congr_right fun hf => ?_
  constructor
  · rintro (h | ⟨h1, h2, h3⟩)
    · exact .inl h
    · by_cases he : t = emp
      · exact .inl he
      · refine .inr ⟨he, h1, ?_⟩
        have h3' : t ≠ f := by intro e; rw [e, eqB_self] at h3; exact absurd h3 (by simp)
        rcases L.tot f t with h | h | h
        · exact h
        · exact absurd h.symm h3'
        · unfold L at h; rw [h] at h2; exact absurd h2 (by simp)
  · rintro (h | ⟨_, h1, h2⟩)
    · exact .inl h
    · refine .inr ⟨h1, lt_asymm h2, ?_⟩
      cases h3 : eqB t f with
      | false => rfl
      | true => rw [(eqB_iff _ _).1 h3] at h2; exact absurd h2 (L.irr f)

theorem has_iff (f t k : ByteArray) : hasB f t k = true ↔ H f t k := by
  unfold hasB H
  rw [Bool.and_eq_true, Bool.and_eq_true, right_iff]
  cases he : eqB t emp with
  | true =>
    have e := (eqB_iff _ _).1 he
    simp only [cond_true, eqB_iff]
    unfold R K
    constructor
    · rintro ⟨⟨⟨h1, _⟩, h2⟩, h3⟩; exact ⟨h1, h2, .inl ⟨e, h3⟩⟩
    · rintro ⟨h1, h2, ⟨_, h3⟩ | ⟨h3, _⟩⟩
      · exact ⟨⟨⟨h1, .inl e⟩, h2⟩, h3⟩
      · exact absurd e h3
  | false =>
    have e : t ≠ emp := by rintro rfl; rw [eqB_self] at he; exact absurd he (by simp)
    simp only [cond_false, Bool.and_eq_true, Bool.not_eq_true']
    unfold R K
    constructor
    · rintro ⟨⟨⟨h1, h | ⟨_, h4, h5⟩⟩, h2⟩, h3, h6⟩
      · exact absurd h e
      · exact ⟨h1, h2, .inr ⟨e, h4, h5, by unfold L; rw [h3]; simp, h6⟩⟩
    · rintro ⟨h1, h2, ⟨h, _⟩ | ⟨_, h4, h5, h3, h6⟩⟩
      · exact absurd h e
      · exact ⟨⟨⟨h1, .inr ⟨e, h4, h5⟩⟩, h2⟩, by unfold L at h3; simpa using h3, h6⟩

theorem max_cases (x y : ByteArray) : (L x y ∧ Lib.maxS x y = y) ∨ (¬ L x y ∧ Lib.maxS x y = x) := by
  unfold Lib.maxS L
  rw [ltB_iff, ByteArray.toList_eq, ByteArray.toList_eq]
  by_cases h : x.data.toList < y.data.toList
  · exact .inl ⟨h, if_pos h⟩
  · exact .inr ⟨h, if_neg h⟩
theorem min_cases (x y : ByteArray) : (¬ L y x ∧ Lib.minS x y = x) ∨ (L y x ∧ Lib.minS x y = y) := by
  unfold Lib.minS L
  rw [ltB_iff, ByteArray.toList_eq, ByteArray.toList_eq]
  by_cases h : x.data.toList < y.data.toList ∨ x.data.toList = y.data.toList
  · refine .inl ⟨?_, if_pos h⟩
    rcases h with h | h
    · exact List.lt_asymm h
    · rw [h]; exact List.lt_irrefl _
  · refine .inr ⟨?_, if_neg h⟩
    rw [not_or] at h
    rcases Std.le_total (a := x.data.toList) (b := y.data.toList) with k | k
    · exact absurd (Std.le_antisymm k (List.not_lt.1 h.1)) h.2
    · rcases Decidable.em (y.data.toList < x.data.toList) with q | q
      · exact q
      · exact absurd (Std.le_antisymm (List.not_lt.1 q) k) h.2

theorem bool_ext {a b : Bool} (h : a = true ↔ b = true) : a = b := by cases a <;> cases b <;> simp_all

theorem clipB_iff (af at' bf bt : ByteArray) : clipB af at' bf bt = true ↔ H af at' (Lib.maxS af bf) ∧ H bf bt (Lib.maxS af bf) := by
  unfold clipB; rw [Bool.and_eq_true, has_iff, has_iff]

theorem max_comm (x y : ByteArray) : Lib.maxS x y = Lib.maxS y x := by
  rcases max_cases x y with ⟨h, e⟩ | ⟨h, e⟩ <;> rcases max_cases y x with ⟨k, e'⟩ | ⟨k, e'⟩ <;> rw [e, e'] <;> grind [L.tot, L.irr, → L.tr]
theorem min_comm (x y : ByteArray) : Lib.minS x y = Lib.minS y x := by
  rcases min_cases x y with ⟨h, e⟩ | ⟨h, e⟩ <;> rcases min_cases y x with ⟨k, e'⟩ | ⟨k, e'⟩ <;> rw [e, e'] <;> grind [L.tot, L.irr, → L.tr]

theorem clip_sym (af at' bf bt : ByteArray) : clipB bf bt af at' = clipB af at' bf bt := by
  apply bool_ext
  rw [clipB_iff, clipB_iff]
  rw [max_comm bf af]
  exact And.comm

/-- In both. -/
theorem both (af at' bf bt k : ByteArray) : hasB (clipF af at' bf bt) (clipT af at' bf bt) k = (hasB af at' k && hasB bf bt k) := by
  apply bool_ext
  rw [Bool.and_eq_true, has_iff, has_iff, has_iff]
  unfold clipF clipT
  have hm := max_cases af bf
  have hn := min_cases at' bt
  cases h : clipB af at' bf bt with
  | true =>
    rw [clipB_iff] at h
    simp only [cond_true]
    unfold H at *
    generalize Lib.maxS af bf = m at *
    generalize Lib.minS at' bt = n at *
    rcases hm with ⟨hm, rfl⟩ | ⟨hm, rfl⟩ <;> rcases hn with ⟨hn, rfl⟩ | ⟨hn, rfl⟩ <;> grind (splits := 40) [L.tot, L.irr, → L.tr, emp_lt, not_lt_emp, K.ne]
  | false =>
    have h' : ¬ (H af at' (Lib.maxS af bf) ∧ H bf bt (Lib.maxS af bf)) := by rw [← clipB_iff, h]; simp
    simp only [cond_false]
    constructor
    · rintro ⟨h1, _⟩; exact absurd h1 key_emp_not
    · intro hb
      refine absurd ?_ h'
      clear h'
      unfold H at *
      generalize Lib.maxS af bf = m at *
      rcases hm with ⟨hm, rfl⟩ | ⟨hm, rfl⟩ <;> grind (splits := 40) [L.tot, L.irr, → L.tr, emp_lt, not_lt_emp, K.ne]

end Go.Proofs.YtcdehnghggleoaaGreat.S5

/-
  A store by lists: keys, rising, each with its chain: what is put, decided, read, refreshed. Of no program. No law is proved here.
-/
namespace Go.Proofs.YtcdehnghggleoaaGreat
set_option linter.unusedVariables false

/-- A key's entry as it lies in memory: the key, its versions' slice, its chain. -/
structure Ent where
  key : ByteArray
  ao : Option Addr
  cap : Nat
  c : Chn

abbrev KC := ByteArray × Chn
/-- By key. -/
def absL (l : List Ent) : List KC := l.map fun e => (e.key, e.c)

/-- Keys rise. -/
def riseE (l : List Ent) : Prop := l.Pairwise fun a b => S5.L a.key b.key

/-- The entry at a key. -/
def getE (l : List Ent) (k : ByteArray) : Option Ent := l.find? fun e => decide (e.key = k)

/-- A chain is laid at a key. -/
def setE : List Ent → Ent → List Ent
  | [], x => [x]
  | e :: r, x => if e.key = x.key then x :: r else if S5.ltB x.key e.key = true then x :: e :: r else e :: setE r x

theorem getE_nil (k : ByteArray) : getE [] k = none := rfl
theorem getE_cons (e : Ent) (r : List Ent) (k : ByteArray) : getE (e :: r) k = if e.key = k then some e else getE r k := by
  unfold getE
  rw [List.find?_cons]
  split <;> rename_i h <;> simp at h <;> simp [h]

theorem getE_some {l : List Ent} {k : ByteArray} {e : Ent} (h : getE l k = some e) : e ∈ l ∧ e.key = k := by
  unfold getE at h
  exact ⟨List.mem_of_find?_eq_some h, by simpa using List.find?_some h⟩
theorem getE_none {l : List Ent} {k : ByteArray} (h : getE l k = none) : ∀ e ∈ l, e.key ≠ k := by
  unfold getE at h
  rw [List.find?_eq_none] at h
  intro e he
  simpa using h e he
theorem key_inj {l : List Ent} (h : riseE l) {a b : Ent} (ha : a ∈ l) (hb : b ∈ l) (e : a.key = b.key) : a = b := by
  induction l with
  | nil => cases ha
  | cons x r ih =>
    obtain ⟨h1, h2⟩ := List.pairwise_cons.1 h
    rcases List.mem_cons.1 ha with rfl | ha'
    · rcases List.mem_cons.1 hb with rfl | hb'
      · rfl
      · exact absurd (e ▸ h1 b hb') (S5.L.irr _)
    · rcases List.mem_cons.1 hb with rfl | hb'
      · exact absurd (e ▸ h1 a ha') (S5.L.irr _)
      · exact ih h2 ha' hb'
theorem getE_mem {l : List Ent} (h : riseE l) {e : Ent} (he : e ∈ l) : getE l e.key = some e := by
  cases hg : getE l e.key with
  | none => exact absurd rfl (getE_none hg e he)
  | some x =>
    obtain ⟨h1, h2⟩ := getE_some hg
    rw [key_inj h h1 he h2]

theorem mem_setE {l : List Ent} {x z : Ent} (h : riseE l) : z ∈ setE l x ↔ z = x ∨ (z ∈ l ∧ z.key ≠ x.key) := by
  induction l with
  | nil => simp [setE]
  | cons e r ih =>
    obtain ⟨h1, h2⟩ := List.pairwise_cons.1 h
    unfold setE
    split
    · rename_i he
      simp only [List.mem_cons]
      constructor
      · rintro (rfl | hz)
        · exact .inl rfl
        · exact .inr ⟨.inr hz, fun e' => S5.L.irr z.key (by have := h1 z hz; rw [he, ← e'] at this; exact this)⟩
      · rintro (rfl | ⟨rfl | hz, hn⟩)
        · exact .inl rfl
        · exact absurd he hn
        · exact .inr hz
    · rename_i hne
      split
      · rename_i hlt
        simp only [List.mem_cons]
        constructor
        · rintro (rfl | rfl | hz)
          · exact .inl rfl
          · exact .inr ⟨.inl rfl, hne⟩
          · refine .inr ⟨.inr hz, fun e' => ?_⟩
            have := h1 z hz
            rw [e'] at this
            exact S5.L.irr _ (S5.L.tr hlt this)
        · rintro (rfl | ⟨rfl | hz, hn⟩)
          · exact .inl rfl
          · exact .inr (.inl rfl)
          · exact .inr (.inr hz)
      · rw [List.mem_cons, ih h2, List.mem_cons]
        constructor
        · rintro (rfl | rfl | ⟨hz, hn⟩)
          · exact .inr ⟨.inl rfl, hne⟩
          · exact .inl rfl
          · exact .inr ⟨.inr hz, hn⟩
        · rintro (rfl | ⟨rfl | hz, hn⟩)
          · exact .inr (.inl rfl)
          · exact .inl rfl
          · exact .inr (.inr ⟨hz, hn⟩)

theorem rise_setE {l : List Ent} {x : Ent} (h : riseE l) : riseE (setE l x) := by
  induction l with
  | nil => exact List.pairwise_singleton _ _
  | cons e r ih =>
    obtain ⟨h1, h2⟩ := List.pairwise_cons.1 h
    unfold setE
    split
    · rename_i he
      exact List.pairwise_cons.2 ⟨fun z hz => by rw [← he]; exact h1 z hz, h2⟩
    · rename_i hne
      split
      · rename_i hlt
        refine List.pairwise_cons.2 ⟨fun z hz => ?_, h⟩
        rcases List.mem_cons.1 hz with rfl | hz
        · exact hlt
        · exact S5.L.tr hlt (h1 z hz)
      · rename_i hnl
        refine List.pairwise_cons.2 ⟨fun z hz => ?_, ih h2⟩
        rcases (mem_setE h2).1 hz with rfl | ⟨hz, _⟩
        · rcases S5.L.tot e.key z.key with q | q | q
          · exact q
          · exact absurd q hne
          · exact absurd q hnl
        · exact h1 z hz

theorem len_setE (l : List Ent) (x : Ent) : l.length ≤ (setE l x).length ∧ (setE l x).length ≤ l.length + 1 := by
  induction l with
  | nil => simp [setE]
  | cons e r ih =>
    unfold setE
    split
    · simp
    · split
      · simp
      · simp only [List.length_cons]; omega

theorem getE_setE {l : List Ent} {x : Ent} (h : riseE l) (k : ByteArray) : getE (setE l x) k = if x.key = k then some x else getE l k := by
  split
  · rename_i e
    have hx : x ∈ setE l x := (mem_setE h).2 (.inl rfl)
    rw [← e]
    exact getE_mem (rise_setE h) hx
  · rename_i hne
    cases hg : getE l k with
    | none =>
      cases hs : getE (setE l x) k with
      | none => rfl
      | some z =>
        obtain ⟨h1, h2⟩ := getE_some hs
        rcases (mem_setE h).1 h1 with rfl | ⟨hz, _⟩
        · exact absurd h2 hne
        · exact absurd h2 (getE_none hg z hz)
    | some z =>
      obtain ⟨h1, h2⟩ := getE_some hg
      have hz : z ∈ setE l x := (mem_setE h).2 (.inr ⟨h1, fun e => hne (e ▸ h2)⟩)
      rw [← h2]
      exact getE_mem (rise_setE h) hz

/-- Two rising lists with the same members are one. -/
theorem rise_ext : ∀ {a b : List Ent}, riseE a → riseE b → (∀ z, z ∈ a ↔ z ∈ b) → a = b
  | [], [], _, _, _ => rfl
  | [], y :: s, _, _, h => by have := (h y).2 (by simp); cases this
  | x :: r, [], _, _, h => by have := (h x).1 (by simp); cases this
  | x :: r, y :: s, h1, h2, h => by
    obtain ⟨a1, a2⟩ := List.pairwise_cons.1 h1
    obtain ⟨b1, b2⟩ := List.pairwise_cons.1 h2
    have e : x = y := by
      rcases List.mem_cons.1 ((h x).1 (by simp)) with e | hx
      · exact e
      · rcases List.mem_cons.1 ((h y).2 (by simp)) with e | hy
        · exact e.symm
        · exact absurd (S5.L.tr (a1 y hy) (b1 x hx)) (S5.L.irr _)
    subst e
    rw [rise_ext a2 b2 (fun z => ⟨fun hz => by
      rcases List.mem_cons.1 ((h z).1 (List.mem_cons_of_mem _ hz)) with e | q
      · exact absurd (e ▸ a1 z hz) (S5.L.irr _)
      · exact q, fun hz => by
      rcases List.mem_cons.1 ((h z).2 (List.mem_cons_of_mem _ hz)) with e | q
      · exact absurd (e ▸ b1 z hz) (S5.L.irr _)
      · exact q⟩)]

end Go.Proofs.YtcdehnghggleoaaGreat

/-
  Contracts of stamp.Next, stamp.Plus. No law is proved here.
-/
namespace Go.Proofs.YtcdehnghggleoaaGreat
open Go.RowKit
set_option linter.unusedVariables false

/-- The next stamp, and the error. -/
def nxt (a b : Int) : Int × Int × Int :=
  if rightB a b then if b = 65535 then (if a < 1099511627776 then (a + 1, 0, 0) else (0, 0, 31)) else (a, b + 1, 0) else (0, 0, 31)

theorem frozen_alloc_lt {w : World} {p : Addr} {o : Obj} (h : p.block < w.heap.size) : (w.alloc o).frozen? p = w.frozen? p :=
  ((Below.refl w.heap.size w).alloc (Nat.le_refl _) o).frozen h

section
set_option maxRecDepth 100000

set_option maxHeartbeats 1000000 in
theorem next_any (a b : Int) (w : World) : Calls Tryz.prog 98 #[(.agg #[.int .i64 a, .int .i64 b])] w fun e w' =>
    e = .returned (.tuple #[(.agg #[.int .i64 (nxt a b).1, .int .i64 (nxt a b).2.1]), .int .i64 (nxt a b).2.2]) ∧ Below w.heap.size w w' := by
  have h1 := fun w => right_any a b w
  have n1 : rightB a b = false → nxt a b = (0, 0, 31) := fun h => by unfold nxt; simp [h]
  have n2 : rightB a b = true → b = 65535 → a < 1099511627776 → nxt a b = (a + 1, 0, 0) := fun h h2 h3 => by unfold nxt; rw [if_pos h, if_pos h2, if_pos h3]
  have n3 : rightB a b = true → b = 65535 → ¬ a < 1099511627776 → nxt a b = (0, 0, 31) := fun h h2 h3 => by unfold nxt; rw [if_pos h, if_pos h2, if_neg h3]
  have n4 : rightB a b = true → b ≠ 65535 → nxt a b = (a, b + 1, 0) := fun h h2 => by unfold nxt; simp [h, h2]
  have r : rightB a b = true → 0 ≤ a ∧ a ≤ 1099511627776 ∧ 0 ≤ b ∧ b ≤ 65535 := fun h => by
    unfold rightB at h
    simp at h
    omega
  have r1 : 0 ≤ a → a < 1099511627776 → rightB (a + 1) 0 = true := fun h h2 => by unfold rightB; simp; omega
  have r2 : ¬ a < 1099511627776 → rightB (a + 1) 0 = false := fun h => by unfold rightB; simp; omega
  have r3 : 0 ≤ a → a ≤ 1099511627776 → 0 ≤ b → b ≤ 65535 → b ≠ 65535 → rightB a (b + 1) = true := fun h1 h2 h3 h4 h5 => by unfold rightB; simp; omega
  have hB := ((Below.refl w.heap.size w).alloc (Nat.le_refl _) (.cells #[.int .i64 a, .int .i64 b] 36)).alloc (by simp) (.cells #[.int .i64 0, .int .i64 0] 36)
  have main : ∀ x : Bool, rightB a b = x → Calls Tryz.prog 98 #[(.agg #[.int .i64 a, .int .i64 b])] w fun e w' =>
      e = .returned (.tuple #[(.agg #[.int .i64 (nxt a b).1, .int .i64 (nxt a b).2.1]), .int .i64 (nxt a b).2.2]) ∧ Below w.heap.size w w' := by
    intro x hx
    rw [hx] at h1 n1 n2 n3 n4 r
    cases x
    · rw [n1 rfl]
      clear n1 n2 n3 n4 r r1 r2 r3 hx
      go_enter Tryz.func98, Tryz.ntmps98
      go_wp2_with fail
      refine (h1 _).mono ?_
      rintro e w1 ⟨rfl, hb1⟩
      have k2 : w1.cell? ⟨w.heap.size + 1, 0, none⟩ = some (.int .i64 0) := (hb1.cell (by simp)).trans (by go_simp)
      have k3 : w1.cell? ⟨w.heap.size + 1, 1, none⟩ = some (.int .i64 0) := (hb1.cell (by simp)).trans (by go_simp)
      have f2 : w1.frozen? ⟨w.heap.size + 1, 0, none⟩ = false := (hb1.frozen (by simp)).trans (by go_simp)
      have f3 : w1.frozen? ⟨w.heap.size + 1, 1, none⟩ = false := (hb1.frozen (by simp)).trans (by go_simp)
      have R := hide (hB.trans (hb1.mono (by simp; omega)))
      clear hb1 hB
      go_wp2
      obtain ⟨c0, c1⟩ := set2 w1 (w.heap.size + 1) _ _ (.int .i64 0) (.int .i64 0) k2 k3
      refine bodyPost_ret (results_stp2 Tryz.results98 rfl rfl c0 c1) rfl ?_
      exact ⟨rfl, ((unhide R).setCell (by simp) _).setCell (by simp) _⟩
    · obtain ⟨ra, rb, rc, rd⟩ := r rfl
      by_cases hb : b = 65535
      · by_cases ha : a < 1099511627776
        · rw [n2 rfl hb ha]
          have h2 := fun w => right_any (a + 1) 0 w
          rw [r1 ra ha] at h2
          clear n1 n2 n3 n4 r r1 r2 r3 hx
          have hbb : (b == 65535) = true := by simpa using hb
          clear hb
          go_enter Tryz.func98, Tryz.ntmps98
          go_wp2_with fail
          refine (h1 _).mono ?_
          rintro e w1 ⟨rfl, hb1⟩
          have k0 : w1.cell? ⟨w.heap.size, 0, none⟩ = some (.int .i64 a) := (hb1.cell (by simp; omega)).trans (by go_simp)
          have k1 : w1.cell? ⟨w.heap.size, 1, none⟩ = some (.int .i64 b) := (hb1.cell (by simp; omega)).trans (by go_simp)
          have k2 : w1.cell? ⟨w.heap.size + 1, 0, none⟩ = some (.int .i64 0) := (hb1.cell (by simp)).trans (by go_simp)
          have k3 : w1.cell? ⟨w.heap.size + 1, 1, none⟩ = some (.int .i64 0) := (hb1.cell (by simp)).trans (by go_simp)
          have f2 : w1.frozen? ⟨w.heap.size + 1, 0, none⟩ = false := (hb1.frozen (by simp)).trans (by go_simp)
          have f3 : w1.frozen? ⟨w.heap.size + 1, 1, none⟩ = false := (hb1.frozen (by simp)).trans (by go_simp)
          have hsz : w.heap.size + 1 + 1 ≤ w1.heap.size := by have := hb1.size; simpa using this
          have R := hide (hB.trans (hb1.mono (by simp; omega)))
          clear hb1 hB
          have g0 : ∀ o, (w1.alloc o).cell? ⟨w.heap.size, 0, none⟩ = some (.int .i64 a) := fun o => (World.cell?_alloc_lt _ _ _ (by simp; omega)).trans k0
          have g1 : ∀ o, (w1.alloc o).cell? ⟨w.heap.size, 1, none⟩ = some (.int .i64 b) := fun o => (World.cell?_alloc_lt _ _ _ (by simp; omega)).trans k1
          go_wp2_with fail
          refine (h2 _).mono ?_
          rintro e w2 ⟨rfl, hb2⟩
          have m0 : w2.cell? ⟨w1.heap.size, 0, none⟩ = some (.int .i64 (a + 1)) := (hb2.cell (by simp)).trans (by go_simp)
          have m1 : w2.cell? ⟨w1.heap.size, 1, none⟩ = some (.int .i64 (0)) := (hb2.cell (by simp)).trans (by go_simp)
          have m2 : w2.cell? ⟨w.heap.size + 1, 0, none⟩ = some (.int .i64 0) := ((hb2.cell (by simp; omega)).trans (World.cell?_alloc_lt _ _ _ (by simp; omega))).trans k2
          have m3 : w2.cell? ⟨w.heap.size + 1, 1, none⟩ = some (.int .i64 0) := ((hb2.cell (by simp; omega)).trans (World.cell?_alloc_lt _ _ _ (by simp; omega))).trans k3
          have e2 : w2.frozen? ⟨w.heap.size + 1, 0, none⟩ = false := ((hb2.frozen (by simp; omega)).trans (frozen_alloc_lt (by simp; omega))).trans f2
          have e3 : w2.frozen? ⟨w.heap.size + 1, 1, none⟩ = false := ((hb2.frozen (by simp; omega)).trans (frozen_alloc_lt (by simp; omega))).trans f3
          have R2 := hide (((unhide R).alloc (by omega) _).trans (hb2.mono (by simp; omega)))
          clear hb2 g0 g1 k0 k1 k2 k3 f2 f3
          go_wp2
          obtain ⟨c0, c1⟩ := set2 w2 (w.heap.size + 1) _ _ (.int .i64 (a + 1)) (.int .i64 (0)) m2 m3
          refine bodyPost_ret (results_stp2 Tryz.results98 rfl rfl c0 c1) rfl ?_
          exact ⟨rfl, ((unhide R2).setCell (by simp) _).setCell (by simp) _⟩
        · rw [n3 rfl hb ha]
          have h2 := fun w => right_any (a + 1) 0 w
          rw [r2 ha] at h2
          clear n1 n2 n3 n4 r r1 r2 r3 hx
          have hbb : (b == 65535) = true := by simpa using hb
          clear hb
          go_enter Tryz.func98, Tryz.ntmps98
          go_wp2_with fail
          refine (h1 _).mono ?_
          rintro e w1 ⟨rfl, hb1⟩
          have k0 : w1.cell? ⟨w.heap.size, 0, none⟩ = some (.int .i64 a) := (hb1.cell (by simp; omega)).trans (by go_simp)
          have k1 : w1.cell? ⟨w.heap.size, 1, none⟩ = some (.int .i64 b) := (hb1.cell (by simp; omega)).trans (by go_simp)
          have k2 : w1.cell? ⟨w.heap.size + 1, 0, none⟩ = some (.int .i64 0) := (hb1.cell (by simp)).trans (by go_simp)
          have k3 : w1.cell? ⟨w.heap.size + 1, 1, none⟩ = some (.int .i64 0) := (hb1.cell (by simp)).trans (by go_simp)
          have f2 : w1.frozen? ⟨w.heap.size + 1, 0, none⟩ = false := (hb1.frozen (by simp)).trans (by go_simp)
          have f3 : w1.frozen? ⟨w.heap.size + 1, 1, none⟩ = false := (hb1.frozen (by simp)).trans (by go_simp)
          have hsz : w.heap.size + 1 + 1 ≤ w1.heap.size := by have := hb1.size; simpa using this
          have R := hide (hB.trans (hb1.mono (by simp; omega)))
          clear hb1 hB
          have g0 : ∀ o, (w1.alloc o).cell? ⟨w.heap.size, 0, none⟩ = some (.int .i64 a) := fun o => (World.cell?_alloc_lt _ _ _ (by simp; omega)).trans k0
          have g1 : ∀ o, (w1.alloc o).cell? ⟨w.heap.size, 1, none⟩ = some (.int .i64 b) := fun o => (World.cell?_alloc_lt _ _ _ (by simp; omega)).trans k1
          go_wp2_with fail
          refine (h2 _).mono ?_
          rintro e w2 ⟨rfl, hb2⟩
          have m0 : w2.cell? ⟨w1.heap.size, 0, none⟩ = some (.int .i64 (a + 1)) := (hb2.cell (by simp)).trans (by go_simp)
          have m1 : w2.cell? ⟨w1.heap.size, 1, none⟩ = some (.int .i64 (0)) := (hb2.cell (by simp)).trans (by go_simp)
          have m2 : w2.cell? ⟨w.heap.size + 1, 0, none⟩ = some (.int .i64 0) := ((hb2.cell (by simp; omega)).trans (World.cell?_alloc_lt _ _ _ (by simp; omega))).trans k2
          have m3 : w2.cell? ⟨w.heap.size + 1, 1, none⟩ = some (.int .i64 0) := ((hb2.cell (by simp; omega)).trans (World.cell?_alloc_lt _ _ _ (by simp; omega))).trans k3
          have e2 : w2.frozen? ⟨w.heap.size + 1, 0, none⟩ = false := ((hb2.frozen (by simp; omega)).trans (frozen_alloc_lt (by simp; omega))).trans f2
          have e3 : w2.frozen? ⟨w.heap.size + 1, 1, none⟩ = false := ((hb2.frozen (by simp; omega)).trans (frozen_alloc_lt (by simp; omega))).trans f3
          have R2 := hide (((unhide R).alloc (by omega) _).trans (hb2.mono (by simp; omega)))
          clear hb2 g0 g1 k0 k1 k2 k3 f2 f3
          go_wp2
          obtain ⟨c0, c1⟩ := set2 w2 (w.heap.size + 1) _ _ (.int .i64 (0)) (.int .i64 (0)) m2 m3
          refine bodyPost_ret (results_stp2 Tryz.results98 rfl rfl c0 c1) rfl ?_
          exact ⟨rfl, ((unhide R2).setCell (by simp) _).setCell (by simp) _⟩
      · rw [n4 rfl hb]
        have h2 := fun w => right_any a (b + 1) w
        rw [r3 ra rb rc rd hb] at h2
        clear n1 n2 n3 n4 r r1 r2 r3 hx
        have hbb : (b == 65535) = false := by simpa using hb
        clear hb
        go_enter Tryz.func98, Tryz.ntmps98
        go_wp2_with fail
        refine (h1 _).mono ?_
        rintro e w1 ⟨rfl, hb1⟩
        have k0 : w1.cell? ⟨w.heap.size, 0, none⟩ = some (.int .i64 a) := (hb1.cell (by simp; omega)).trans (by go_simp)
        have k1 : w1.cell? ⟨w.heap.size, 1, none⟩ = some (.int .i64 b) := (hb1.cell (by simp; omega)).trans (by go_simp)
        have k2 : w1.cell? ⟨w.heap.size + 1, 0, none⟩ = some (.int .i64 0) := (hb1.cell (by simp)).trans (by go_simp)
        have k3 : w1.cell? ⟨w.heap.size + 1, 1, none⟩ = some (.int .i64 0) := (hb1.cell (by simp)).trans (by go_simp)
        have f2 : w1.frozen? ⟨w.heap.size + 1, 0, none⟩ = false := (hb1.frozen (by simp)).trans (by go_simp)
        have f3 : w1.frozen? ⟨w.heap.size + 1, 1, none⟩ = false := (hb1.frozen (by simp)).trans (by go_simp)
        have hsz : w.heap.size + 1 + 1 ≤ w1.heap.size := by have := hb1.size; simpa using this
        have R := hide (hB.trans (hb1.mono (by simp; omega)))
        clear hb1 hB
        have g0 : ∀ o, (w1.alloc o).cell? ⟨w.heap.size, 0, none⟩ = some (.int .i64 a) := fun o => (World.cell?_alloc_lt _ _ _ (by simp; omega)).trans k0
        have g1 : ∀ o, (w1.alloc o).cell? ⟨w.heap.size, 1, none⟩ = some (.int .i64 b) := fun o => (World.cell?_alloc_lt _ _ _ (by simp; omega)).trans k1
        go_wp2_with fail
        refine (h2 _).mono ?_
        rintro e w2 ⟨rfl, hb2⟩
        have m0 : w2.cell? ⟨w1.heap.size, 0, none⟩ = some (.int .i64 (a)) := (hb2.cell (by simp)).trans (by go_simp)
        have m1 : w2.cell? ⟨w1.heap.size, 1, none⟩ = some (.int .i64 (b + 1)) := (hb2.cell (by simp)).trans (by go_simp)
        have m2 : w2.cell? ⟨w.heap.size + 1, 0, none⟩ = some (.int .i64 0) := ((hb2.cell (by simp; omega)).trans (World.cell?_alloc_lt _ _ _ (by simp; omega))).trans k2
        have m3 : w2.cell? ⟨w.heap.size + 1, 1, none⟩ = some (.int .i64 0) := ((hb2.cell (by simp; omega)).trans (World.cell?_alloc_lt _ _ _ (by simp; omega))).trans k3
        have e2 : w2.frozen? ⟨w.heap.size + 1, 0, none⟩ = false := ((hb2.frozen (by simp; omega)).trans (frozen_alloc_lt (by simp; omega))).trans f2
        have e3 : w2.frozen? ⟨w.heap.size + 1, 1, none⟩ = false := ((hb2.frozen (by simp; omega)).trans (frozen_alloc_lt (by simp; omega))).trans f3
        have R2 := hide (((unhide R).alloc (by omega) _).trans (hb2.mono (by simp; omega)))
        clear hb2 g0 g1 k0 k1 k2 k3 f2 f3
        go_wp2
        obtain ⟨c0, c1⟩ := set2 w2 (w.heap.size + 1) _ _ (.int .i64 (a)) (.int .i64 (b + 1)) m2 m3
        refine bodyPost_ret (results_stp2 Tryz.results98 rfl rfl c0 c1) rfl ?_
        exact ⟨rfl, ((unhide R2).setCell (by simp) _).setCell (by simp) _⟩
  exact main _ rfl
end

end Go.Proofs.YtcdehnghggleoaaGreat

/-
  Of the order of stamps, as numbers. No law is proved here.
-/
namespace Go.Proofs.YtcdehnghggleoaaGreat
open Go.RowKit
set_option linter.unusedVariables false

theorem less_iff (a b c d : Int) : lessB a b c d = true ↔ (a < c ∨ a = c ∧ b < d) := by
  unfold lessB cmpS orI cmpI
  simp
  split <;> (try split) <;> (try split) <;> (try split) <;> omega

theorem less_not (a b c d : Int) : lessB a b c d = false ↔ ¬ (a < c ∨ a = c ∧ b < d) := by
  rw [← less_iff]; simp

theorem right_iff (a b : Int) : rightB a b = true ↔ (0 ≤ a ∧ a ≤ 1099511627776 ∧ 0 ≤ b ∧ b ≤ 65535) := by
  unfold rightB; simp; omega

theorem right_not (a b : Int) : rightB a b = false ↔ ¬ (0 ≤ a ∧ a ≤ 1099511627776 ∧ 0 ≤ b ∧ b ≤ 65535) := by
  rw [← right_iff]; simp

theorem cmpS_lt {a b c d : Int} (h : a < c ∨ a = c ∧ b < d) : cmpS a b c d = -1 := by
  unfold cmpS orI cmpI
  split <;> (try split) <;> (try split) <;> (try split) <;> omega
theorem cmpS_gt {a b c d : Int} (h : c < a ∨ c = a ∧ d < b) : cmpS a b c d = 1 := by
  unfold cmpS orI cmpI
  split <;> (try split) <;> (try split) <;> (try split) <;> omega
theorem cmpS_same (a b : Int) : cmpS a b a b = 0 := by
  unfold cmpS orI cmpI
  simp

theorem ne_pair {a b c d : Int} (h : ¬ (a = c ∧ b = d)) : (a == c && b == d) = false := by
  rw [Bool.eq_false_iff]
  simpa using h

theorem nxt_cases (a b : Int) : (rightB a b = false ∧ nxt a b = (0, 0, 31)) ∨ (rightB a b = true ∧ a = 1099511627776 ∧ nxt a b = (0, 0, 31)) ∨
    (rightB a b = true ∧ ∃ x y, nxt a b = (x, y, 0) ∧ rightB x y = true ∧ lessB a b x y = true ∧ ∀ c d, rightB c d = true → lessB a b c d = true → lessB c d x y = false) := by
  cases h : rightB a b
  · exact .inl ⟨rfl, by unfold nxt; rw [h]; rfl⟩
  · have hr := (right_iff a b).1 h
    by_cases hb : b = 65535
    · by_cases ha : a < 1099511627776
      · refine .inr (.inr ⟨rfl, a + 1, 0, by unfold nxt; rw [if_pos h, if_pos hb, if_pos ha], (right_iff _ _).2 (by omega), (less_iff _ _ _ _).2 (by omega), fun c d h1 h2 => (less_not _ _ _ _).2 ?_⟩)
        have h1 := (right_iff _ _).1 h1
        have h2 := (less_iff _ _ _ _).1 h2
        omega
      · exact .inr (.inl ⟨rfl, by omega, by unfold nxt; rw [if_pos h, if_pos hb, if_neg ha]⟩)
    · refine .inr (.inr ⟨rfl, a, b + 1, by unfold nxt; rw [if_pos h, if_neg hb], (right_iff _ _).2 (by omega), (less_iff _ _ _ _).2 (by omega), fun c d h1 h2 => (less_not _ _ _ _).2 ?_⟩)
      have h1 := (right_iff _ _).1 h1
      have h2 := (less_iff _ _ _ _).1 h2
      omega

end Go.Proofs.YtcdehnghggleoaaGreat

/-
  Contracts of the document's own answers for stamps: Less, Right, Max, Next, Plus. No law is proved here.
-/
namespace Go.Proofs.YtcdehnghggleoaaGreat
open Go.RowKit
set_option linter.unusedVariables false

section
set_option maxRecDepth 100000

theorem refless_any (a b c d : Int) (w : World) : Calls Tryz.prog 91 #[.agg #[.int .i64 a, .int .i64 b], .agg #[.int .i64 c, .int .i64 d]] w fun e w' => e = .returned (.bool (lessB a b c d)) ∧ Below w.heap.size w w' := by
  by_cases h1 : a < c
  · rw [(less_iff a b c d).2 (by omega)]
    go_enter Tryz.func91, Tryz.ntmps91
    go_wp2
    go_ret
    exact ⟨rfl, by go_grown⟩
  · by_cases h2 : a = c
    · subst h2
      by_cases h3 : b < d
      · rw [(less_iff a b a d).2 (by omega)]
        go_enter Tryz.func91, Tryz.ntmps91
        go_wp2
        go_ret
        exact ⟨rfl, by go_grown⟩
      · rw [(less_not a b a d).2 (by omega)]
        go_enter Tryz.func91, Tryz.ntmps91
        go_wp2
        go_ret
        exact ⟨rfl, by go_grown⟩
    · rw [(less_not a b c d).2 (by omega)]
      have h2' : (a == c) = false := by simpa using h2
      go_enter Tryz.func91, Tryz.ntmps91
      go_wp2
      go_ret
      exact ⟨rfl, by go_grown⟩

set_option maxHeartbeats 1000000 in
theorem refright_any (a b : Int) (w : World) : Calls Tryz.prog 90 #[.agg #[.int .i64 a, .int .i64 b]] w fun e w' => e = .returned (.bool (rightB a b)) ∧ Below w.heap.size w w' := by
  by_cases h1 : a < 0
  · rw [(right_not a b).2 (by omega)]
    go_enter Tryz.func90, Tryz.ntmps90
    go_wp2
    go_ret
    exact ⟨rfl, by go_grown⟩
  · have h1' : 0 ≤ a := by omega
    by_cases h2 : 1099511627776 < a
    · rw [(right_not a b).2 (by omega)]
      go_enter Tryz.func90, Tryz.ntmps90
      go_wp2
      go_ret
      exact ⟨rfl, by go_grown⟩
    · have h2' : a ≤ 1099511627776 := by omega
      by_cases h3 : b < 0
      · rw [(right_not a b).2 (by omega)]
        go_enter Tryz.func90, Tryz.ntmps90
        go_wp2
        go_ret
        exact ⟨rfl, by go_grown⟩
      · have h3' : 0 ≤ b := by omega
        by_cases h4 : 65535 < b
        · rw [(right_not a b).2 (by omega)]
          go_enter Tryz.func90, Tryz.ntmps90
          go_wp2
          go_ret
          refine ⟨?_, by go_grown⟩
          first | rfl | (simp; omega)
        · have h4' : b ≤ 65535 := by omega
          rw [(right_iff a b).2 (by omega)]
          go_enter Tryz.func90, Tryz.ntmps90
          go_wp2
          go_ret
          exact ⟨rfl, by go_grown⟩

end

end Go.Proofs.YtcdehnghggleoaaGreat

/-
  What the laws of chains ask, by lists: what is written is seen; once; what was stays; right stays. Of no program. No law is proved here.
-/
namespace Go.Proofs.YtcdehnghggleoaaGreat
set_option linter.unusedVariables false

/-- Behind a write the intent is there, at its stamp, which is right and above the last version's. -/
theorem writeC_there {c x : Chn} {i : Itn} {a : Stp} {m : Met} (hr : rightC c) (h : writeC c i = (x, a, m, 0)) :
    x.vs = c.vs ∧ x.opn = true ∧ x.itn.txn.id = i.txn.id ∧ x.itn.txn.ep = i.txn.ep ∧ i.seq ≤ x.itn.seq ∧ x.itn.at_ = a ∧ okS a = true ∧ (∀ s, lastS c.vs = some s → ltB s a = true) ∧ ∀ v ∈ c.vs, v.by_ ≠ i.txn.id := by
  obtain ⟨_, hid, hby, hx⟩ := writeC_ok h
  rcases hx with ⟨rfl, rfl, h1, h2, h3⟩ | ⟨h1, h2, rfl⟩
  · have := hr.2.1 h1
    exact ⟨rfl, h1, hid h1, h2, h3, rfl, this.1, this.2, hby⟩
  · exact ⟨rfl, rfl, rfl, rfl, Int.le_refl _, rfl, h2, (atC_above h1).2.1, hby⟩

/-- Laid again it is as it was. -/
theorem writeC_again {c x : Chn} {i : Itn} {a : Stp} {m : Met} (hr : rightC c) (h : writeC c i = (x, a, m, 0)) : writeC x i = (x, a, Met.zero, 0) := by
  obtain ⟨h1, h2, h3, h4, h5, h6, _, _, h9⟩ := writeC_there hr h
  unfold writeC
  rw [if_neg (fun k => k.2 h3), if_neg, if_neg (fun k => by have := k.2; omega), if_pos ⟨h2, h4, h5⟩, h6]
  rw [h1]
  intro k
  obtain ⟨v, hv, e⟩ := List.any_eq_true.1 k
  exact h9 v hv (by simpa using e)

/-- Decided, to commit. -/
theorem resolveC_commit {x : Chn} {id ep : Int} {a : Stp} (h1 : x.opn = true) (h2 : x.itn.txn.id = id) (h3 : x.itn.txn.ep = ep) (h4 : okS a = true) (h5 : ∀ s, lastS x.vs = some s → ltB s a = true) :
    resolveC x id ep true a = (⟨x.vs ++ [⟨a, x.itn.val, x.itn.gone, id⟩], false, Itn.zero⟩, 0) := by
  unfold resolveC
  rw [if_neg (fun k => by
    rcases k with k | k
    · rw [h1] at k; cases k
    · exact k h2), if_neg (fun k => by cases k.1), if_pos ⟨rfl, h3⟩, if_pos ⟨h4, h5⟩]

/-- Decided, not to commit. -/
theorem resolveC_drop {x : Chn} {id ep : Int} {a : Stp} (h1 : x.opn = true) (h2 : x.itn.txn.id = id) (h3 : x.itn.txn.ep = ep) :
    resolveC x id ep false a = (⟨x.vs, false, Itn.zero⟩, 0) := by
  unfold resolveC
  rw [if_neg (fun k => by
    rcases k with k | k
    · rw [h1] at k; cases k
    · exact k h2), if_neg (fun k => by have := k.2; omega), if_neg (fun k => by cases k.1)]

/-- Decided already: nothing changes. -/
theorem resolveC_closed {x : Chn} (id ep : Int) (commit : Bool) (a : Stp) (h : x.opn = false) : resolveC x id ep commit a = (x, 0) := by
  unfold resolveC
  rw [if_pos (.inl h)]

/-- A transaction that has a version lays none. -/
theorem writeC_done {vs : List Ver} {i : Itn} {v : Ver} (hv : v ∈ vs) (hb : v.by_ = i.txn.id) : writeC ⟨vs, false, Itn.zero⟩ i = (Chn.zero, (0, 0), Met.zero, 83) := by
  unfold writeC
  rw [if_neg (fun k => by cases k.1), if_pos (List.any_eq_true.2 ⟨v, hv, by simp [hb]⟩)]

/-- Read by its own transaction, at its epoch. -/
theorem readC_own {x : Chn} {id ep : Int} {a l : Stp} (h1 : x.opn = true) (h2 : x.itn.txn.id = id) (h3 : x.itn.txn.ep = ep) (h4 : x.itn.gone = false) : readC x a l id ep = (⟨x.itn.at_, x.itn.val, false, id⟩, true, Met.zero, 0) := by
  unfold readC
  rw [if_pos ⟨h1, h2, h3⟩, if_neg (by rw [h4]; simp)]

/-- Told to another one, up to its stamp. -/
theorem readC_other {x : Chn} {id ep : Int} {a l : Stp} (h1 : x.opn = true) (h2 : x.itn.txn.id ≠ id) (h3 : upB x.itn.at_ l = true) : readC x a l id ep = (Ver.zero, false, x.itn.txn, 81) := by
  unfold readC
  rw [if_neg (fun k => h2 k.2.1), if_pos ⟨h1, h2, h3⟩]

theorem seenV_last (vs : List Ver) (v : Ver) (a : Stp) (h : upB v.at_ a = true) (hg : v.gone = false) : seenV (vs ++ [v]) a = (v, true, Met.zero, 0) := by
  unfold seenV
  rw [bestV_snoc, if_pos h]
  simp only
  rw [if_neg (by rw [hg]; simp)]

/-- A chain that nobody wrote at a stamp, or below, since, and that somebody else may have an intent in, above it. -/
def Quiet (c : Chn) (a : Stp) : Prop := c.opn = true → c.itn.txn.id ≠ -1 ∧ upB c.itn.at_ a = false

theorem quiet_read {c : Chn} {a : Stp} (h : Quiet c a) : readC c a a (-1) 0 = seenV c.vs a := readC_self h

theorem not_up {a b : Stp} (h : ltB a b = true) : upB b a = false := by
  rw [ltB_iff] at h
  rw [upB_not]
  exact h

theorem quiet_write {c x : Chn} {i : Itn} {a b : Stp} {m : Met} (hq : Quiet c a) (hi : ltB a i.at_ = true) (hid : i.txn.id ≠ -1) (h : writeC c i = (x, b, m, 0)) : Quiet x a ∧ x.vs = c.vs := by
  obtain ⟨_, hid', _, hx⟩ := writeC_ok h
  rcases hx with ⟨rfl, rfl, h1, h2, h3⟩ | ⟨h1, h2, rfl⟩
  · exact ⟨hq, rfl⟩
  · exact ⟨fun _ => ⟨hid, not_up (lt_up hi (atC_above h1).1)⟩, rfl⟩

theorem quiet_resolve {c x : Chn} {id ep : Int} {commit : Bool} {a b : Stp} (hq : Quiet c a) (hb : ltB a b = true) (h : resolveC c id ep commit b = (x, 0)) : Quiet x a ∧ seenV x.vs a = seenV c.vs a := by
  rcases resolveC_ok h with ⟨rfl, _⟩ | ⟨_, _, ⟨_, _, _, _, rfl⟩ | ⟨_, rfl⟩⟩
  · exact ⟨hq, rfl⟩
  · exact ⟨fun h => (by cases h), seenV_snoc _ _ _ hb⟩
  · exact ⟨fun h => (by cases h), rfl⟩

/-- Behind a write the versions are as they were; behind a decision there may be one more, which is the intent's that was there, and then none is open. -/
theorem writeC_vs {c x : Chn} {i : Itn} {a : Stp} {m : Met} (h : writeC c i = (x, a, m, 0)) : x.vs = c.vs := by
  obtain ⟨_, _, _, hx⟩ := writeC_ok h
  rcases hx with ⟨rfl, _⟩ | ⟨_, _, rfl⟩ <;> rfl

theorem resolveC_vs {c x : Chn} {id ep : Int} {commit : Bool} {a : Stp} (h : resolveC c id ep commit a = (x, 0)) : x.vs = c.vs ∨ (c.opn = true ∧ x.opn = false ∧ ∃ v, x.vs = c.vs ++ [v] ∧ v.by_ = c.itn.txn.id) := by
  rcases resolveC_ok h with ⟨rfl, _⟩ | ⟨h1, h2, ⟨_, _, _, _, rfl⟩ | ⟨_, rfl⟩⟩
  · exact .inl rfl
  · exact .inr ⟨h1, rfl, _, rfl, h2.symm⟩
  · exact .inl rfl

end Go.Proofs.YtcdehnghggleoaaGreat

/-
  Versions and chains as they lie in memory. No law is proved here.
-/
namespace Go.Proofs.YtcdehnghggleoaaGreat
open Go.RowKit
set_option linter.unusedVariables false

/-- The block B has these cells, and may be written. -/
structure Blk (w : World) (B : Nat) (cs : List Value) : Prop where
  c : ∀ j, w.cell? ⟨B, j, none⟩ = cs[j]?
  f : ∀ j, w.frozen? ⟨B, j, none⟩ = false
  lt : B < w.heap.size

theorem Blk.below {w w' : World} {B C : Nat} {cs : List Value} (h : Blk w B cs) (hb : Below C w w') (hC : B < C) : Blk w' B cs :=
  ⟨fun j => (hb.cell (p := ⟨B, j, none⟩) hC).trans (h.c j), fun j => (hb.frozen (p := ⟨B, j, none⟩) hC).trans (h.f j), Nat.lt_of_lt_of_le h.lt hb.size⟩
theorem Blk.later {w w' : World} {B : Nat} {cs : List Value} (h : Blk w B cs) (hb : Below w.heap.size w w') : Blk w' B cs := h.below hb h.lt
theorem Blk.alloc {w : World} {B : Nat} {cs : List Value} (h : Blk w B cs) (o : Obj) : Blk (w.alloc o) B cs := h.later ((Below.refl _ _).alloc (Nat.le_refl _) o)
theorem Blk.new (w : World) (cs : Array Value) (t : TypeId) : Blk (w.alloc (.cells cs t)) w.heap.size cs.toList :=
  ⟨fun j => by simp, fun j => by simp, by simp⟩
theorem Blk.other {w : World} {B : Nat} {cs : List Value} (h : Blk w B cs) {q : Addr} (hq : q.block ≠ B) (v : Value) : Blk (w.setCell q v) B cs := by
  have n : ∀ k, q ≠ ⟨B, k, none⟩ := fun k e => hq (by rw [e])
  exact ⟨fun j => (World.cell?_setCell_other w _ _ _ (n j)).trans (h.c j), fun j => by simpa using h.f j, by simpa [World.setCell] using h.lt⟩
theorem Blk.set {w : World} {B : Nat} {cs : List Value} (h : Blk w B cs) (k : Nat) (hk : k < cs.length) (v : Value) : Blk (w.setCell ⟨B, k, none⟩ v) B (cs.set k v) := by
  refine ⟨fun j => ?_, fun j => by simpa using h.f j, by simpa [World.setCell] using h.lt⟩
  by_cases e : j = k
  · subst e
    rw [World.cell?_setCell_same w _ _ ((h.c j).trans (List.getElem?_eq_getElem hk)), List.getElem?_set_self hk]
  · rw [World.cell?_setCell_other w _ _ _ (fun h => e (by injection h with _ h; exact h.symm)), h.c j]
    rw [List.getElem?_set_ne (by omega)]

/-- Cells of block B, one behind the other from k on, written. -/
def setAll (w : World) (B : Nat) : Nat → List Value → World
  | _, [] => w
  | k, c :: r => setAll (w.setCell ⟨B, k, none⟩ c) B (k + 1) r

theorem setAll_size (B : Nat) : ∀ (r : List Value) (w : World) (k : Nat), (setAll w B k r).heap.size = w.heap.size
  | [], w, k => rfl
  | c :: r, w, k => by rw [setAll, setAll_size B r]; simp [World.setCell]

theorem Blk.setAll_at {B : Nat} : ∀ (r : List Value) (w : World) (p q : List Value) (k : Nat), Blk w B (p ++ q) → p.length = k → r.length = q.length → Blk (setAll w B k r) B (p ++ r)
  | [], w, p, q, k, h, hp, hq => by
    have : q = [] := List.eq_nil_of_length_eq_zero (by simpa using hq.symm)
    subst this
    exact h
  | c :: r, w, p, q, k, h, hp, hq => by
    match q, hq with
    | d :: q, hq =>
      have h1 := h.set k (by simp; omega) c
      have e : (p ++ d :: q).set k c = p ++ c :: q := by
        subst hp
        simp
      rw [e] at h1
      have := Blk.setAll_at r (w.setCell ⟨B, k, none⟩ c) (p ++ [c]) q (k + 1) (by simpa using h1) (by simp; omega) (by simpa using hq)
      rw [setAll]
      simpa using this
theorem Blk.all {w : World} {B : Nat} {cs : List Value} (h : Blk w B cs) (r : List Value) (hr : r.length = cs.length) : Blk (setAll w B 0 r) B r :=
  Blk.setAll_at r w [] cs 0 h rfl hr
theorem Blk.others {B C : Nat} (hn : B ≠ C) : ∀ (r : List Value) {w : World} {cs : List Value} (k : Nat), Blk w B cs → Blk (setAll w C k r) B cs
  | [], w, cs, k, h => h
  | c :: r, w, cs, k, h => by rw [setAll]; exact Blk.others hn r (k + 1) (h.other (fun e => hn e.symm) c)
theorem below_setAll {B C : Nat} {w : World} (hB : B ≤ C) : ∀ (r : List Value) {w1 : World} (k : Nat), Below B w w1 → Below B w (setAll w1 C k r)
  | [], w1, k, h => h
  | c :: r, w1, k, h => by rw [setAll]; exact below_setAll hB r (k + 1) (h.setCell (p := ⟨C, k, none⟩) hB c)

/-- A version lies behind an address. -/
structure VAt (w : World) (b o : Nat) (v : Ver) : Prop where
  c0 : w.cell? ⟨b, o, none⟩ = some (.int .i64 v.at_.1)
  c1 : w.cell? ⟨b, o + 1, none⟩ = some (.int .i64 v.at_.2)
  c2 : w.cell? ⟨b, o + 2, none⟩ = some (.string v.val)
  c3 : w.cell? ⟨b, o + 3, none⟩ = some (.bool v.gone)
  c4 : w.cell? ⟨b, o + 4, none⟩ = some (.int .i64 v.by_)

theorem VAt.lt {w : World} {b o : Nat} {v : Ver} (h : VAt w b o v) : b < w.heap.size := World.block_lt_of_cell? w _ h.c0
theorem VAt.block {w w' : World} {b o : Nat} {v : Ver} (h : VAt w b o v) (hk : w'.heap[b]? = w.heap[b]?) : VAt w' b o v :=
  ⟨(World.cell?_of_block (w := w) hk).trans h.c0, (World.cell?_of_block (w := w) hk).trans h.c1, (World.cell?_of_block (w := w) hk).trans h.c2, (World.cell?_of_block (w := w) hk).trans h.c3, (World.cell?_of_block (w := w) hk).trans h.c4⟩

/-- The versions of a slice, as they lie in memory. -/
structure Vs (w : World) (ao : Option Addr) (c : Nat) (vs : List Ver) : Prop where
  le : vs.length ≤ c
  cm : c ≤ maxLen
  nil : ao = none → c = 0
  each : ∀ i (h : i < vs.length), ∃ b o, ao = some ⟨b, o, none⟩ ∧ VAt w b (o + i * 5) vs[i]

theorem Vs.zero (w : World) : Vs w none 0 [] := ⟨Nat.le_refl _, Nat.zero_le _, fun _ => rfl, fun i h => absurd h (Nat.not_lt_zero _)⟩
theorem Vs.kept {w w' : World} {ao : Option Addr} {c : Nat} {vs : List Ver} (h : Vs w ao c vs) (hk : ∀ b o, ao = some ⟨b, o, none⟩ → b < w.heap.size → w'.heap[b]? = w.heap[b]?) : Vs w' ao c vs :=
  ⟨h.le, h.cm, h.nil, fun i hi => by
    obtain ⟨b, o, e, hv⟩ := h.each i hi
    exact ⟨b, o, e, hv.block (hk b o e hv.lt)⟩⟩
theorem Vs.below {w w' : World} {C : Nat} {ao : Option Addr} {c : Nat} {vs : List Ver} (h : Vs w ao c vs) (hb : Below C w w') (hC : w.heap.size ≤ C) : Vs w' ao c vs :=
  h.kept fun b o _ hl => hb.block b (by omega)
theorem Vs.later {w w' : World} {ao : Option Addr} {c : Nat} {vs : List Ver} (h : Vs w ao c vs) (hb : Below w.heap.size w w') : Vs w' ao c vs := h.below hb (Nat.le_refl _)
theorem Vs.alloc {w : World} {ao : Option Addr} {c : Nat} {vs : List Ver} (h : Vs w ao c vs) (o : Obj) : Vs (w.alloc o) ao c vs := h.later ((Below.refl _ _).alloc (Nat.le_refl _) o)
theorem Vs.len {w : World} {ao : Option Addr} {c : Nat} {vs : List Ver} (h : Vs w ao c vs) : vs.length ≤ maxLen := Nat.le_trans h.le h.cm
/-- A slice of a part of it. -/
theorem Vs.take {w : World} {ao : Option Addr} {c : Nat} {vs : List Ver} (h : Vs w ao c vs) (k : Nat) (hk : k ≤ vs.length) : Vs w ao c (vs.take k) :=
  ⟨by rw [List.length_take]; have := h.le; omega, h.cm, h.nil, fun i hi => by
    rw [List.length_take] at hi
    obtain ⟨b, o, e, hv⟩ := h.each i (by omega)
    exact ⟨b, o, e, by rw [List.getElem_take]; exact hv⟩⟩

/-- Drawing changes no memory. -/
theorem bdn {B : Nat} {a w : World} (h : Below B a w) (n : Nat) : Below B a (w.drewN n) := h.trans ⟨rfl, rfl, rfl, Nat.le_refl _, fun _ _ => rfl⟩

theorem less_eq (a b : Stp) : lessB a.1 a.2 b.1 b.2 = ltB a b := by
  rw [Bool.eq_iff_iff, less_iff, ltB_iff]
theorem right_eq (a : Stp) : rightB a.1 a.2 = okS a := by
  unfold okS
  rw [Bool.eq_iff_iff, right_iff]; simp
theorem nxt_eq (a : Stp) : nxt a.1 a.2 = (match nextS a with | some n => (n.1, n.2, 0) | none => (0, 0, 31)) := by
  unfold nxt nextS
  rw [right_eq]
  split
  · split
    · split <;> rfl
    · rfl
  · rfl

end Go.Proofs.YtcdehnghggleoaaGreat

/-
  A store as it lies in memory. No law is proved here.
-/
namespace Go.Proofs.YtcdehnghggleoaaGreat
open Go.RowKit Go.Maps
set_option linter.unusedVariables false

/-- An element of the map, as it is. -/
def rv (v : Value) : Option (DataW Value × List MemPlace) := some (.held v, [])
abbrev keyL (k : ByteArray) : Lit := .string k.data.toList
theorem keyL_inj {a b : ByteArray} (h : keyL a = keyL b) : a = b := by
  injection h with h
  exact ByteArray.ext (Array.toList_inj.1 h)
abbrev chV (ao : Option Addr) (cap : Nat) (c : Chn) : Value := (.agg #[.slice ao c.vs.length cap, .bool c.opn, .int .i64 c.itn.txn.id, .int .i64 c.itn.txn.ep, .string c.itn.txn.anchor, .int .i64 c.itn.txn.start.1, .int .i64 c.itn.txn.start.2, .int .i64 c.itn.seq, .int .i64 c.itn.at_.1, .int .i64 c.itn.at_.2, .string c.itn.val, .bool c.itn.gone])
abbrev Ent.v (e : Ent) : Value := chV e.ao e.cap e.c
/-- The map's reading. -/
def DL (l : List Ent) : DataW Value := .map (l.map fun e => (keyL e.key, .held e.v))

theorem keyed : Keyed Tryz.prog 9 := string_keyed Tryz.underlying9
theorem keyOf_s {k : ByteArray} (h : k.size ≤ maxLen) : keyOf Tryz.prog 9 (.string k) = some (keyL k) := Go.WideMaps.keyOf_string_mk Tryz.underlying9 h
theorem isKeyLit (k : ByteArray) : WideAt.IsKeyLit (keyL k) := trivial

theorem same_s (a b : ByteArray) : (keyL a).sameKey (keyL b) = decide (a = b) := by
  by_cases h : a = b
  · subst h; simp [Lit.sameKey]
  · rw [sameKey_ne (fun e => h (keyL_inj e))]; simp [h]

theorem find_map {l : List Ent} (k : ByteArray) : (l.map fun e => (keyL e.key, DataW.held e.v)).find? (fun p => p.1.sameKey (keyL k)) = (getE l k).map fun e => (keyL e.key, DataW.held e.v) := by
  induction l with
  | nil => rfl
  | cons e r ih =>
    rw [List.map_cons, List.find?_cons, getE_cons]
    simp only [same_s]
    by_cases h : e.key = k
    · simp [h]
    · simp [h, ih]

theorem has_DL (l : List Ent) (k : ByteArray) : has (DL l) (keyL k) = (getE l k).isSome := by
  have h := find_map (l := l) k
  unfold DL
  rw [has_eq, Bool.eq_iff_iff, List.any_eq_true, ← List.find?_isSome, h]
  cases getE l k <;> simp
theorem at_DL (l : List Ent) (k : ByteArray) (z : DataW Value) : (DL l).atKey (keyL k) z = match getE l k with | some e => .held e.v | none => z := by
  have h := find_map (l := l) k
  unfold DL DataW.atKey
  simp only [h]
  cases getE l k <;> rfl
theorem has_DL_other (l : List Ent) (kl : Lit) (h : has (DL l) kl = true) : ∃ e ∈ l, kl = keyL e.key := by
  obtain ⟨p, hp, hs⟩ := List.any_eq_true.1 h
  obtain ⟨e, he, rfl⟩ := List.mem_map.1 hp
  exact ⟨e, he, (WideAt.sameKey_eq hs).symm⟩

theorem before_s {a b : ByteArray} (h : S5.L a b) : (keyL a).before (keyL b) = true := by
  have h' : S5.ltB a b = true := h
  unfold S5.ltB at h'
  rw [ByteArray.toList_eq, ByteArray.toList_eq] at h'
  show bytesBefore a.data.toList b.data.toList = true
  have key : ∀ x y : List UInt8, Op.bytesLess x y = bytesBefore x y := by
    intro x
    induction x with
    | nil => intro y; cases y <;> rfl
    | cons p r ih =>
      intro y
      cases y with
      | nil => rfl
      | cons q s => simp only [Op.bytesLess, bytesBefore, ih]
  rw [← key]
  exact h'
theorem canon_DL {l : List Ent} (h : riseE l) : Canon (DL l) := by
  refine ⟨_, rfl, ?_, fun p hp => ?_⟩
  · exact List.pairwise_map.2 (h.imp fun q => before_s q)
  · obtain ⟨e, _, rfl⟩ := List.mem_map.1 hp
    exact isKeyLit _

/-- What is laid at a key. -/
theorem put_DL {l : List Ent} (h : riseE l) (x : Ent) (hc : Canon ((DL l).put (keyL x.key) (.held x.v))) : (DL l).put (keyL x.key) (.held x.v) = DL (setE l x) := by
  have hm : IsMap (DL l) := ⟨_, rfl⟩
  have hs : ∀ kl, has ((DL l).put (keyL x.key) (.held x.v)) kl = has (DL (setE l x)) kl := fun kl => by
    by_cases e : kl = keyL x.key
    · subst e
      rw [has_put_same hm (isKeyLit _), has_DL, getE_setE h]
      simp
    · rw [has_put_other e]
      rw [Bool.eq_iff_iff]
      constructor
      · intro hk
        obtain ⟨z, hz, rfl⟩ := has_DL_other _ _ hk
        rw [has_DL, getE_setE h, if_neg (fun e' => e (by rw [e']))]
        rw [has_DL] at hk
        exact hk
      · intro hk
        obtain ⟨z, hz, rfl⟩ := has_DL_other _ _ hk
        rw [has_DL, getE_setE h, if_neg (fun e' => e (by rw [e']))] at hk
        rw [has_DL]
        exact hk
  refine ext hc (canon_DL (rise_setE h)) hs fun kl z hk => ?_
  by_cases e : kl = keyL x.key
  · subst e
    rw [atKey_put_same hm (isKeyLit _), at_DL, getE_setE h, if_pos rfl]
  · rw [atKey_put_other e]
    rw [has_put_other e] at hk
    obtain ⟨y, hy, rfl⟩ := has_DL_other _ _ hk
    rw [at_DL, at_DL, getE_setE h, if_neg (fun e' => e (by rw [e']))]

theorem nil_DL : DL [] = .map [] := rfl
theorem size_DL (l : List Ent) : Maps.size (DL l) = l.length := by simp [Maps.size, DL]

/-- A store: its place, its map's block, its entries. -/
structure Sto (w : World) (a b : Nat) (l : List Ent) : Prop where
  at_ : w.heap[a]? = some (.cells #[.map (some b)] 68 (0, 0))
  own : ∃ n, w.ownsMap Tryz.prog 9 rv b n (DL l) ∧ n ≤ 1000000
  rise : riseE l
  keys : ∀ e ∈ l, S5.keyB e.key = true
  vs : ∀ e ∈ l, Vs w e.ao e.cap e.c.vs
  lim : ∀ e ∈ l, e.c.vs.length ≤ 1000000

theorem Sto.lta {w : World} {a b : Nat} {l : List Ent} (h : Sto w a b l) : a < w.heap.size := (Array.getElem?_eq_some_iff.1 h.at_).1
theorem Sto.ltb {w : World} {a b : Nat} {l : List Ent} (h : Sto w a b l) : b < w.heap.size := by
  obtain ⟨n, hn, _⟩ := h.own
  exact hn.lt
theorem Sto.ne {w : World} {a b : Nat} {l : List Ent} (h : Sto w a b l) : a ≠ b := by
  obtain ⟨n, hn, _⟩ := h.own
  obtain ⟨es, clock, hb, _⟩ := hn
  rintro rfl
  rw [h.at_] at hb
  cases hb
theorem Sto.cell {w : World} {a b : Nat} {l : List Ent} (h : Sto w a b l) : w.cell? ⟨a, 0, none⟩ = some (.map (some b)) := by simp [World.cell?, h.at_]
theorem Sto.len {w : World} {a b : Nat} {l : List Ent} (h : Sto w a b l) : l.length ≤ 1000000 := by
  obtain ⟨n, hn, hl⟩ := h.own
  have := hn.size_le
  rw [size_DL] at this
  omega

/-- It stays while other memory is written. -/
theorem Sto.kept {w w' : World} {a b : Nat} {l : List Ent} (h : Sto w a b l) {row : Option Nat} (hg : w.grownBy w' row) (ha : some a ≠ row) (hb : some b ≠ row) (hv : ∀ e ∈ l, ∀ g o, e.ao = some ⟨g, o, none⟩ → g < w.heap.size → some g ≠ row) : Sto w' a b l := by
  obtain ⟨n, hn, hl⟩ := h.own
  exact ⟨(hg.block a h.lta ha).trans h.at_, ⟨n, hn.kept hg hb, hl⟩, h.rise, h.keys, fun e he => (h.vs e he).kept fun g o e1 hlt => hg.block g hlt (hv e he g o e1 hlt), h.lim⟩
theorem Sto.below {w w' : World} {a b : Nat} {l : List Ent} (h : Sto w a b l) {C : Nat} (hb : Below C w w') (hC : w.heap.size ≤ C) : Sto w' a b l := by
  refine h.kept (row := none) ⟨hb.os, hb.tape, hb.output, hb.size, fun k hk _ => hb.block k (by omega)⟩ (by simp) (by simp) (by simp)
theorem Sto.later {w w' : World} {a b : Nat} {l : List Ent} (h : Sto w a b l) (hb : Below w.heap.size w w') : Sto w' a b l := h.below hb (Nat.le_refl _)
theorem Sto.alloc {w : World} {a b : Nat} {l : List Ent} (h : Sto w a b l) (o : Obj) : Sto (w.alloc o) a b l := h.later ((Below.refl _ _).alloc (Nat.le_refl _) o)

end Go.Proofs.YtcdehnghggleoaaGreat

/-
  Whether a span is asked about. No law is proved here.
-/
namespace Go.Proofs.YtcdehnghggleoaaGreat.S5
open Go.RowKit
set_option linter.unusedVariables false

def fitsB (f t : ByteArray) : Bool := decide (f.size ≤ 200) && decide (t.size ≤ 200)
theorem fitsB_iff (f t : ByteArray) : fitsB f t = true ↔ f.size ≤ 200 ∧ t.size ≤ 200 := by
  unfold fitsB; simp

theorem bstep {w w1 w2 : World} (h : Below w.heap.size w w1) (k : Below w1.heap.size w1 w2) : Below w.heap.size w w2 := h.trans (k.mono h.size)

section
set_option maxRecDepth 100000
set_option maxHeartbeats 1000000

end

end Go.Proofs.YtcdehnghggleoaaGreat.S5

/-
  The document's answers: Right, Has, Meet, Clip. No law is proved here.
-/
namespace Go.Proofs.YtcdehnghggleoaaGreat.S5
open Go.RowKit
set_option linter.unusedVariables false

section
set_option maxRecDepth 100000
set_option maxHeartbeats 2000000

/-- Two spans lie in new memory. -/
structure Pair (w w' : World) (af at' bf bt : ByteArray) : Prop where
  a : Sp w' w.heap.size af at'
  b : Sp w' (w.heap.size + 1) bf bt
  below : Below w.heap.size w w'
theorem Pair.new (w : World) (af at' bf bt : ByteArray) (T : TypeId) :
    Pair w ((w.alloc (.cells #[.string af, .string at'] T)).alloc (.cells #[.string bf, .string bt] T)) af at' bf bt :=
  ⟨(Sp.new w af at' T).alloc _, by have := (Sp.new (w.alloc (.cells #[.string af, .string at'] T)) bf bt T); simpa using this,
    ((Below.refl _ w).alloc (Nat.le_refl _) _).alloc (by simp) _⟩
theorem Pair.later {w w1 w2 : World} {af at' bf bt : ByteArray} (h : Pair w w1 af at' bf bt) (hb : Below w1.heap.size w1 w2) : Pair w w2 af at' bf bt :=
  ⟨h.a.later hb, h.b.later hb, h.below.trans (hb.mono h.below.size)⟩

end

end Go.Proofs.YtcdehnghggleoaaGreat.S5

/-
  Contracts of store's small functions. No law is proved here.
-/
namespace Go.Proofs.YtcdehnghggleoaaGreat
open Go.RowKit Go.Maps
set_option linter.unusedVariables false

section
set_option maxRecDepth 100000
set_option maxHeartbeats 1000000

theorem sto_new (w : World) : Sto ((w.alloc (.map #[] 0)).alloc (.cells #[.map (some w.heap.size)] 68)) (w.heap.size + 1) w.heap.size [] := by
  refine ⟨?_, ⟨0, ?_, by omega⟩, List.Pairwise.nil, fun e he => (by cases he), fun e he => (by cases he), fun e he => (by cases he)⟩
  · have := World.alloc_heap_new (w.alloc (.map #[] 0)) (.cells #[.map (some w.heap.size)] 68)
    rwa [World.size_alloc] at this
  · rw [nil_DL]
    exact (World.ownsMap_made w _ _ _).alloc _

theorem new_any (w : World) : Calls Tryz.prog 9 #[] w fun e w' => ∃ a b, e = .returned (.pointer (some ⟨a, 0, none⟩)) ∧ Sto w' a b [] ∧ w.heap.size ≤ a ∧ w.heap.size ≤ b ∧ Below w.heap.size w w' := by
  have hS := hide (sto_new w)
  have hmm := @run_makeMap Tryz.prog
  have hB : Hid (Below w.heap.size w ((w.alloc (.map #[] 0)).alloc (.cells #[.map (some w.heap.size)] 68))) := ((Below.refl _ _).alloc (Nat.le_refl _) _).alloc (by simp) _
  go_enter Tryz.func9, Tryz.ntmps9
  go_wp2
  go_ret
  exact ⟨_, _, by simp, unhide hS, by omega, Nat.le_refl _, unhide hB⟩

/-- Is a byte one that a value may have? -/
def visB (b : UInt8) : Bool := decide (33 ≤ b.toNat) && decide (b.toNat ≤ 126)
/-- May a value be? -/
def valB (s : ByteArray) (gone : Bool) : Bool := decide (s.size ≤ 16) && (!gone || s.toList == []) && s.toList.all visB
def Viss (s : ByteArray) (k : Nat) : Prop := ∀ b ∈ s.toList.take k, visB b = true
theorem Viss.step {s : ByteArray} {k : Nat} (hl : Viss s k) (h : k < s.size) (h1 : 33 ≤ s[k].toNat) (h2 : s[k].toNat ≤ 126) : Viss s (k + 1) := by
  have hk : k < s.toList.length := by rw [S5.size_toList]; exact h
  intro b hb
  rw [List.take_succ_eq_append_getElem hk, List.mem_append] at hb
  rcases hb with hb | hb
  · exact hl b hb
  · simp at hb
    subst hb
    rw [S5.get_toList s k h hk]
    unfold visB
    rw [decide_eq_true h1, decide_eq_true h2]; rfl
theorem Viss.all {s : ByteArray} {k : Nat} (hl : Viss s k) (h : s.size ≤ k) : s.toList.all visB = true := by
  rw [List.all_eq_true]
  intro b hb
  exact hl b (by rw [List.take_of_length_le (by rw [S5.size_toList]; exact h)]; exact hb)
theorem vis_not {s : ByteArray} {k : Nat} (h : k < s.size) (h1 : s[k].toNat < 33 ∨ 126 < s[k].toNat) : s.toList.all visB = false := by
  have hk : k < s.toList.length := by rw [S5.size_toList]; exact h
  rw [List.all_eq_false]
  refine ⟨s.toList[k], List.getElem_mem hk, ?_⟩
  rw [S5.get_toList s k h hk]
  unfold visB
  rcases h1 with h1 | h1
  · rw [decide_eq_false (by omega)]; simp
  · rw [decide_eq_false (p := s[k].toNat ≤ 126) (by omega)]; simp

theorem value_any (s : ByteArray) (gone : Bool) (w : World) : Calls Tryz.prog 34 #[.string s, .bool gone] w fun e w' => e = .returned (.bool (valB s gone)) ∧ w' = w := by
  by_cases h16 : 16 < s.size
  · have Hk : Hid (valB s gone = false) := by unfold Hid valB; rw [decide_eq_false (by omega)]; rfl
    go_enter Tryz.func34, Tryz.ntmps34
    go_wp2
    go_ret
    rw [unhide Hk]
    exact ⟨rfl, rfl⟩
  · have H0 : Hid (valB s gone = ((!gone || s.toList == []) && s.toList.all visB)) := by unfold Hid valB; rw [decide_eq_true (by omega)]; rfl
    have e0' : (ByteArray.mk #[]).toList = [] := S5.emp_toList
    generalize hz : (s.toList == []) = z at *
    by_cases hg : gone = true ∧ z = false
    · obtain ⟨rfl, rfl⟩ := hg
      have Hk : Hid (valB s true = false) := by unfold Hid; rw [unhide H0]; rfl
      clear H0
      go_enter Tryz.func34, Tryz.ntmps34
      go_wp2
      go_ret
      rw [unhide Hk]
      exact ⟨rfl, rfl⟩
    · have H1 : Hid (valB s gone = s.toList.all visB) := by
        unfold Hid; rw [unhide H0]
        cases gone
        · rfl
        · cases z
          · exact absurd ⟨rfl, rfl⟩ hg
          · rfl
      clear H0
      have hgz : gone = true → z = true := fun h => by
        cases z
        · exact absurd ⟨h, rfl⟩ hg
        · rfl
      clear hg
      go_enter Tryz.func34, Tryz.ntmps34
      cases gone
      all_goals (
        first | (have q := hgz rfl; subst q; clear hgz) | clear hgz
        go_wp2
        go_loop [18] (fun i => ∃ k : Nat, i = .int .i64 k ∧ k ≤ s.size ∧ Hid (Viss s k)) (fun i => s.size - (intOf i).toNat)
        case atStart => exact ⟨0, rfl, by omega, by intro b hb; simp at hb⟩
        case round =>
          obtain ⟨k, rfl, hk, Hl⟩ := hrel
          by_cases hlt : k < s.size
          · have H3 : Hid (s[k].toNat < 33 ∨ 126 < s[k].toNat → s.toList.all visB = false) := vis_not hlt
            have H2 : Hid (33 ≤ s[k].toNat → s[k].toNat ≤ 126 → Viss s (k + 1)) := fun a b => (unhide Hl).step hlt a b
            obtain ⟨cn, hcn⟩ : ∃ cn, s[k].toNat = cn := ⟨_, rfl⟩
            rw [hcn] at H3 H2
            by_cases h97 : cn < 33
            · go_wp2
              go_ret
              rw [unhide H1, unhide H3 (.inl h97)]
              exact ⟨rfl, rfl⟩
            · by_cases h122 : 126 < cn
              · go_wp2
                go_ret
                rw [unhide H1, unhide H3 (.inr h122)]
                exact ⟨rfl, rfl⟩
              · go_wp2
                go_round
                case rel => exact ⟨k + 1, by go_num, by omega, unhide H2 (by omega) (by omega)⟩
                case measure => simp [intOf]; omega
          · go_wp2
            go_ret
            rw [unhide H1, (unhide Hl).all (by omega)]
            exact ⟨rfl, rfl⟩)

theorem empty_any (ao : Option Addr) (n c : Nat) (o : Bool) (i : Itn) (w : World) (hn : n ≤ maxLen) :
    Calls Tryz.prog 20 #[(.agg #[.slice ao n c, .bool o, .int .i64 i.txn.id, .int .i64 i.txn.ep, .string i.txn.anchor, .int .i64 i.txn.start.1, .int .i64 i.txn.start.2, .int .i64 i.seq, .int .i64 i.at_.1, .int .i64 i.at_.2, .string i.val, .bool i.gone])] w fun e w' => e = .returned (.bool (decide (n = 0) && !o)) ∧ Below w.heap.size w w' := by
  simp only [maxLen] at hn
  by_cases h : n = 0
  · subst h
    cases o
    all_goals (
      go_enter Tryz.func20, Tryz.ntmps20
      go_wp2
      go_ret
      exact ⟨rfl, by go_grown⟩)
  · have hd : Hid ((decide (n = 0) && !o) = false) := by unfold Hid; rw [decide_eq_false h]; rfl
    have h1 : (((n : Int) == 0)) = false := by rw [beq_eq_false_iff_ne]; omega
    go_enter Tryz.func20, Tryz.ntmps20
    go_wp2
    go_ret
    rw [unhide hd]
    exact ⟨rfl, by go_grown⟩

theorem maygo_any (a : Addr) (f t : ByteArray) (w : World) :
    Calls Tryz.prog 36 #[.pointer (some a), .agg #[.string f, .string t]] w fun e w' => e = .returned (.int .i64 (if S5.rightB f t = true then 0 else 51)) ∧ Below w.heap.size w w' := by
  have hR := fun w => S5.right_any f t w
  have hB : Below w.heap.size w (w.alloc (.cells #[.string f, .string t] 47)) := (Below.refl _ _).alloc (Nat.le_refl _) _
  generalize S5.rightB f t = z at *
  go_enter Tryz.func36, Tryz.ntmps36
  go_wp2_with fail
  refine (hR _).mono ?_
  rintro e w1 ⟨rfl, hb⟩
  have HB := hide (hB.trans (hb.mono hB.size))
  clear hb hB
  cases z
  all_goals (
    go_wp2
    go_ret
    exact ⟨rfl, unhide HB⟩)

theorem maygo_nil (f t : ByteArray) (w : World) :
    Calls Tryz.prog 36 #[.pointer none, .agg #[.string f, .string t]] w fun e w' => e = .returned (.int .i64 1) ∧ Below w.heap.size w w' := by
  go_enter Tryz.func36, Tryz.ntmps36
  go_wp2
  go_ret
  exact ⟨rfl, by go_grown⟩
end

end Go.Proofs.YtcdehnghggleoaaGreat
