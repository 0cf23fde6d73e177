/-
  Contracts of Clip, Meet and All. No law is proved here.
-/
import Derived.Test.YtejceloahonelaaHas
import Derived.Lib.MinMaxS
namespace Go.Proofs.Ytejceloahonelaa
open Go.RowKit
set_option linter.unusedVariables false

/-- Have two spans a key in common? -/
def clipB (af at' bf bt : ByteArray) : Bool := hasB af at' (Lib.maxS af bf) && hasB bf bt (Lib.maxS af bf)
def clipF (af at' bf bt : ByteArray) : ByteArray := cond (clipB af at' bf bt) (Lib.maxS af bf) emp
def clipT (af at' bf bt : ByteArray) : ByteArray := cond (clipB af at' bf bt) (Lib.minS at' bt) emp

theorem results_sp {fn : Func} {k : Nat} (hf : fn.results = #[.cell k 23]) {tmps : Array Value} {w : World} {B : Nat} {a b : ByteArray} (hk : tmps[k]? = some (.pointer (some ⟨B, 0, none⟩)))
    (h : Sp w B a b) : (results fn tmps).run Try.prog w = .ok (.agg #[.string a, .string b]) w := by
  obtain ⟨h0, h1, f0, f1⟩ := h
  simp [results, hf, go_sem, h0, h1, hk]

theorem results_sp2 {fn : Func} {k u : Nat} (hf : fn.results = #[.cell k 23, .tmp u]) {tmps : Array Value} {w : World} {B : Nat} {a b : ByteArray} {e : Value} (hk : tmps[k]? = some (.pointer (some ⟨B, 0, none⟩))) (hu : tmps[u]? = some e)
    (h : Sp w B a b) : (results fn tmps).run Try.prog w = .ok (.tuple #[(.agg #[.string a, .string b]), e]) w := by
  obtain ⟨h0, h1, f0, f1⟩ := h
  simp [results, hf, go_sem, h0, h1, hk, hu]

/-- Two spans and a third place for one lie in new memory. -/
structure Three (w w' : World) (af at' bf bt : ByteArray) : Prop where
  a : Sp w' w.heap.size af at'
  b : Sp w' (w.heap.size + 1) bf bt
  c : Sp w' (w.heap.size + 2) emp emp
  below : Below w.heap.size w w'

theorem Three.new (w : World) (af at' bf bt : ByteArray) (T : TypeId) :
    Three w (((w.alloc (.cells #[.string af, .string at'] T)).alloc (.cells #[.string bf, .string bt] T)).alloc (.cells #[.string emp, .string emp] T)) af at' bf bt :=
  ⟨((Sp.new w af at' T).alloc _).alloc _, by have := ((Sp.new (w.alloc (.cells #[.string af, .string at'] T)) bf bt T).alloc (.cells #[.string emp, .string emp] T)); simpa using this,
    by have := Sp.new ((w.alloc (.cells #[.string af, .string at'] T)).alloc (.cells #[.string bf, .string bt] T)) emp emp T; simpa using this,
    (((Below.refl _ w).alloc (Nat.le_refl _) _).alloc (by simp) _).alloc (by simp; omega) _⟩
theorem Three.later {w w1 w2 : World} {af at' bf bt : ByteArray} (h : Three w w1 af at' bf bt) (hb : Below w1.heap.size w1 w2) : Three w w2 af at' bf bt :=
  ⟨h.a.later hb, h.b.later hb, h.c.later hb, h.below.trans (hb.mono h.below.size)⟩

section
set_option maxRecDepth 100000
set_option maxHeartbeats 1000000

theorem clip_any (af at' bf bt : ByteArray) (w : World) : Calls Try.prog 11 #[.agg #[.string af, .string at'], .agg #[.string bf, .string bt]] w fun e w' =>
    e = .returned (.tuple #[.agg #[.string (clipF af at' bf bt), .string (clipT af at' bf bt)], .bool (clipB af at' bf bt)]) ∧ Below w.heap.size w w' := by
  have hmx : ∀ (w : World) ts t, Sem.run Try.prog (Builtin.max_ ts t #[.string af, .string bf]) w = .ok (.string (Lib.maxS af bf)) w := fun w ts t => Lib.run_max_strs w ts t af bf
  have hmn : ∀ (w : World) ts t, Sem.run Try.prog (Builtin.min_ ts t #[.string at', .string bt]) w = .ok (.string (Lib.minS at' bt)) w := fun w ts t => Lib.run_min_strs w ts t at' bt
  have H0 := hide (Three.new w af at' bf bt 23)
  unfold clipF clipT
  have Hc : Hid (clipB af at' bf bt = (hasB af at' (Lib.maxS af bf) && hasB bf bt (Lib.maxS af bf))) := Eq.refl (clipB af at' bf bt)
  generalize clipB af at' bf bt = c at Hc ⊢
  generalize Lib.maxS af bf = m at *
  generalize Lib.minS at' bt = n at *
  cases h1 : hasB af at' m <;> rw [h1] at Hc
  · rw [show c = false from unhide Hc]
    go_enter Try.func11, Try.ntmps11
    go_wp2_with fail
    refine (has_any _ _ _ _).mono ?_
    rintro e w1 ⟨rfl, hb⟩
    have H1 := hide ((unhide H0).later hb)
    obtain ⟨⟨a0, a1, af0, af1⟩, ⟨b0, b1, bf0, bf1⟩, ⟨c0, c1, cf0, cf1⟩, _⟩ := unhide H1
    clear hb
    go_wp2_with fail
    refine bodyPost_ret (results_sp2 Try.results11 rfl rfl ((unhide H1).c.put emp emp)) rfl ?_
    exact ⟨rfl, ((unhide H1).below.setCell (by show w.heap.size ≤ w.heap.size + 2; omega) _).setCell (by show w.heap.size ≤ w.heap.size + 2; omega) _⟩
  · cases h2 : hasB bf bt m <;> rw [h2] at Hc
    · rw [show c = false from unhide Hc]
      go_enter Try.func11, Try.ntmps11
      go_wp2_with fail
      refine (has_any _ _ _ _).mono ?_
      rintro e w1 ⟨rfl, hb⟩
      have H1 := hide ((unhide H0).later hb)
      obtain ⟨⟨a0, a1, af0, af1⟩, ⟨b0, b1, bf0, bf1⟩, ⟨c0, c1, cf0, cf1⟩, _⟩ := unhide H1
      clear hb
      go_wp2_with fail
      refine (has_any _ _ _ _).mono ?_
      rintro e w2 ⟨rfl, hb⟩
      have H2 := hide ((unhide H1).later hb)
      clear a0 a1 af0 af1 b0 b1 bf0 bf1 c0 c1 cf0 cf1
      obtain ⟨⟨a0, a1, af0, af1⟩, ⟨b0, b1, bf0, bf1⟩, ⟨c0, c1, cf0, cf1⟩, _⟩ := unhide H2
      clear hb
      go_wp2_with fail
      refine bodyPost_ret (results_sp2 Try.results11 rfl rfl ((unhide H2).c.put emp emp)) rfl ?_
      exact ⟨rfl, ((unhide H2).below.setCell (by show w.heap.size ≤ w.heap.size + 2; omega) _).setCell (by show w.heap.size ≤ w.heap.size + 2; omega) _⟩
    · rw [show c = true from unhide Hc]
      go_enter Try.func11, Try.ntmps11
      go_wp2_with fail
      refine (has_any _ _ _ _).mono ?_
      rintro e w1 ⟨rfl, hb⟩
      have H1 := hide ((unhide H0).later hb)
      obtain ⟨⟨a0, a1, af0, af1⟩, ⟨b0, b1, bf0, bf1⟩, ⟨c0, c1, cf0, cf1⟩, _⟩ := unhide H1
      clear hb
      go_wp2_with fail
      refine (has_any _ _ _ _).mono ?_
      rintro e w2 ⟨rfl, hb⟩
      have H2 := hide ((unhide H1).later hb)
      clear a0 a1 af0 af1 b0 b1 bf0 bf1 c0 c1 cf0 cf1
      obtain ⟨⟨a0, a1, af0, af1⟩, ⟨b0, b1, bf0, bf1⟩, ⟨c0, c1, cf0, cf1⟩, _⟩ := unhide H2
      clear hb
      go_wp2_with fail
      refine bodyPost_ret (results_sp2 Try.results11 rfl rfl ((unhide H2).c.put m n)) rfl ?_
      exact ⟨rfl, ((unhide H2).below.setCell (by show w.heap.size ≤ w.heap.size + 2; omega) _).setCell (by show w.heap.size ≤ w.heap.size + 2; omega) _⟩

theorem meet_any (af at' bf bt : ByteArray) (w : World) : Calls Try.prog 19 #[.agg #[.string af, .string at'], .agg #[.string bf, .string bt]] w fun e w' =>
    e = .returned (.bool (clipB af at' bf bt)) ∧ Below w.heap.size w w' := by
  go_enter Try.func19, Try.ntmps19
  go_wp2_with fail
  refine (clip_any _ _ _ _ _).mono ?_
  rintro e w1 ⟨rfl, hb⟩
  have H := hide (below_alloc _ (below_alloc _ hb))
  clear hb
  generalize clipF af at' bf bt = x
  generalize clipT af at' bf bt = y
  go_wp2_with fail
  go_ret
  have h1 := (unhide H).size
  exact ⟨rfl, (unhide H).alloc h1 _⟩

theorem all_any (w : World) : Calls Try.prog 24 #[] w fun e w' =>
    e = .returned (.agg #[.string ⟨#[97]⟩, .string brace]) ∧ Below w.heap.size w w' := by
  go_enter Try.func24, Try.ntmps24
  go_wp2_with fail
  refine bodyPost_ret (results_sp Try.results24 rfl (Sp.new w ⟨#[97]⟩ brace _)) rfl ?_
  exact ⟨rfl, (Below.refl _ w).alloc (Nat.le_refl _) _⟩

end

end Go.Proofs.Ytejceloahonelaa
