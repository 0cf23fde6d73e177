/-
  Vt2, Vt3, St2, St3, Sm, S5StrsAt, S5Lacks, S5Del: one behind the other. No law is proved here.
-/
import Derived.Test.YtcdehnghggleoaaGreatVt1
import Derived.Deep.AppendSrc
import Derived.Lib.SliceRun
import Derived.Test.YtcdehnghggleoaaGreatGz3
import Derived.Test.YtcdehnghggleoaaGreatGz4
import Derived.Lib.SlMapMerge
import Derived.Lib.SlMapFilter
import Derived.Laws.IdiomRangeMap
import Derived.Deep.LoopGhost
import Derived.Lib.SlKept
import Derived.Lib.LazyBuf
/-
  Versions in a row of the call's own; append; contracts of slices.Clone, version.copied, the document's Copy. No law is proved here.
-/
namespace Go.Proofs.YtcdehnghggleoaaGreat
open Go.RowKit
set_option linter.unusedVariables false

def vc (v : Ver) : List Value := [.int .i64 v.at_.1, .int .i64 v.at_.2, .string v.val, .bool v.gone, .int .i64 v.by_]
def vsc (vs : List Ver) : List Value := vs.flatMap vc
theorem vsc_length (vs : List Ver) : (vsc vs).length = vs.length * 5 := by
  induction vs with
  | nil => rfl
  | cons r rs ih => unfold vsc at *; rw [List.flatMap_cons, List.length_append, ih, List.length_cons]; simp [vc]; omega
theorem vsc_append (us vs : List Ver) : vsc (us ++ vs) = vsc us ++ vsc vs := by simp [vsc]
theorem vsc_get : ∀ (rs : List Ver) (i : Nat) (h : i < rs.length) (j : Nat), j < 5 → (vsc rs)[i * 5 + j]? = (vc rs[i])[j]?
  | r :: rs, 0, _, j, hj => by
    unfold vsc
    rw [List.flatMap_cons, List.getElem?_append_left (by simp [vc]; omega)]
    simp
  | r :: rs, i + 1, h, j, hj => by
    have := vsc_get rs i (by simpa using h) j hj
    unfold vsc at *
    rw [List.flatMap_cons, List.getElem?_append_right (by simp [vc]; omega)]
    simp only [List.getElem_cons_succ]
    rw [← this]
    congr 1
    simp [vc]
    omega
theorem vsc_one (vs : List Ver) : ∀ u ∈ vsc vs, u.oneCell' = true := by
  intro u hu
  simp only [vsc, List.mem_flatMap] at hu
  obtain ⟨r, _, hu⟩ := hu
  simp [vc] at hu
  rcases hu with rfl | rfl | rfl | rfl | rfl <;> rfl
theorem VAt.cell {w : World} {b o : Nat} {v : Ver} (h : VAt w b o v) (j : Nat) (hj : j < 5) : w.cell? ⟨b, o + j, none⟩ = (vc v)[j]? := by
  match j, hj with
  | 0, _ => exact h.c0
  | 1, _ => exact h.c1
  | 2, _ => exact h.c2
  | 3, _ => exact h.c3
  | 4, _ => exact h.c4
/-- The cells that a slice leads to. -/
theorem Vs.cells {w : World} {a : Addr} {c : Nat} {vs : List Ver} (h : Vs w (some a) c vs) (j : Nat) (u : Value) (hu : (vsc vs)[j]? = some u) : w.cell? (a.add j) = some u := by
  have hj : j < vs.length * 5 := by
    have := (List.getElem?_eq_some_iff.1 hu).1
    rwa [vsc_length] at this
  obtain ⟨b, o, e, hv⟩ := h.each (j / 5) (by omega)
  injection e with e
  subst e
  have hjj : j = j / 5 * 5 + j % 5 := by omega
  rw [hjj, vsc_get vs (j / 5) (by omega) (j % 5) (by omega)] at hu
  rw [Addr.add_lit, hjj, ← hu, ← hv.cell (j % 5) (by omega)]
  congr 2
  omega

/-- Versions in a row of the call's own, at or behind block B. -/
def VOwn (B : Nat) (w : World) (ao : Option Addr) (c : Nat) (vs : List Ver) : Prop := w.ownsRow B 97 5 (.slice ao vs.length c) vs.length (vsc vs)
theorem VOwn.vs {B : Nat} {w : World} {ao : Option Addr} {c : Nat} {vs : List Ver} (h : VOwn B w ao c vs) : Vs w ao c vs := by
  have hcs := fun g hg => World.ownsRow.cells h (g := g) hg
  rcases h.2 with ⟨e, h0⟩ | ⟨g, cap, cur, e, hb, hg, h1, h2, h3, h4⟩
  · injection e with e1 e2 e3
    have : vs = [] := List.eq_nil_of_length_eq_zero h0
    subst e1 e3 this
    exact Vs.zero w
  · injection e with e1 e2 e3
    subst e1 e3
    have hcell : ∀ (i : Nat) (hi : i < vs.length) (j : Nat), j < 5 → w.cell? ⟨g, i * 5 + j, none⟩ = (vc vs[i])[j]? := fun i hi j hj => by
      have e := vsc_get vs i hi j hj
      have hl : j < (vc vs[i]).length := by simpa [vc] using hj
      rw [List.getElem?_eq_getElem hl] at e ⊢
      have := hcs g rfl _ _ e
      rwa [Addr.add_lit, Nat.zero_add] at this
    refine ⟨h1, h2, fun e => (by cases e), fun i hi => ⟨g, 0, rfl, ?_⟩⟩
    rw [Nat.zero_add]
    exact ⟨hcell i hi 0 (by omega), hcell i hi 1 (by omega), hcell i hi 2 (by omega), hcell i hi 3 (by omega), hcell i hi 4 (by omega)⟩
theorem VOwn.lt {B : Nat} {w : World} {ao : Option Addr} {c : Nat} {vs : List Ver} (h : VOwn B w ao c vs) : ∀ g, (Value.slice ao vs.length c).ownBlock = some g → B ≤ g ∧ g < w.heap.size := fun g hg => World.ownsRow.lt h g hg
theorem VOwn.later {B : Nat} {w w' : World} {ao : Option Addr} {c : Nat} {vs : List Ver} (h : VOwn B w ao c vs) (hb : Below w.heap.size w w') : VOwn B w' ao c vs := by
  refine ⟨h.1, ?_⟩
  rcases h.2 with hn | ⟨g, cap, cur, e, hbg, hg, rest⟩
  · exact .inl hn
  · refine .inr ⟨g, cap, cur, e, hbg, ?_, rest⟩
    have hlt : g < w.heap.size := by
      rcases Nat.lt_or_ge g w.heap.size with q | q
      · exact q
      · rw [Array.getElem?_eq_none q] at hg; exact absurd hg (by simp)
    rw [hb.block g hlt, hg]
/-- Cells beside it are written. -/
theorem VOwn.other {B : Nat} {w : World} {ao : Option Addr} {c : Nat} {vs : List Ver} (h : VOwn B w ao c vs) {q : Addr} (hq : q.block < B) (x : Value) : VOwn B (w.setCell q x) ao c vs := by
  refine ⟨h.1, ?_⟩
  rcases h.2 with hn | ⟨g, cap, cur, e, hbg, hg, rest⟩
  · exact .inl hn
  · refine .inr ⟨g, cap, cur, e, hbg, ?_, rest⟩
    rw [Below.heap_setCell _ _ _ _ (by omega), hg]
theorem VOwn.others {B : Nat} {ao : Option Addr} {c : Nat} {vs : List Ver} {C : Nat} (hC : C < B) : ∀ (r : List Value) {w : World} (k : Nat), VOwn B w ao c vs → VOwn B (setAll w C k r) ao c vs
  | [], w, k, h => h
  | x :: r, w, k, h => by rw [setAll]; exact VOwn.others hC r (k + 1) (h.other (q := ⟨C, k, none⟩) hC x)
theorem VOwn.mono {B B' : Nat} {w : World} {ao : Option Addr} {c : Nat} {vs : List Ver} (h : VOwn B w ao c vs) (hB : B' ≤ B) : VOwn B' w ao c vs := by
  refine ⟨h.1, ?_⟩
  rcases h.2 with hn | ⟨g, cap, cur, e, hbg, rest⟩
  · exact .inl hn
  · exact .inr ⟨g, cap, cur, e, Nat.le_trans hB hbg, rest⟩
theorem VOwn.zero (B : Nat) (w : World) : VOwn B w none 0 [] := ⟨rfl, .inl ⟨rfl, rfl⟩⟩
theorem VOwn.form {B : Nat} {w : World} {v : Value} {vs : List Ver} (h : w.ownsRow B 97 5 v vs.length (vsc vs)) : ∃ ao c, v = .slice ao vs.length c ∧ VOwn B w ao c vs := by
  rcases id h.2 with ⟨rfl, h0⟩ | ⟨g, cap, cur, rfl, hb, hg, h1, h2, h3, h4⟩
  · have : vs = [] := List.eq_nil_of_length_eq_zero h0
    subst this
    exact ⟨none, 0, rfl, VOwn.zero B w⟩
  · exact ⟨_, cap, rfl, h⟩

theorem info_parts {P : Program} {t : TypeId} {z : Value} {s b : Nat} (h : (P.info? t).map (fun i => (i.zero, i.size, i.bytes)) = some (some z, s, b)) : ∃ i, P.info? t = some i ∧ i.zero = some z ∧ i.size = s ∧ i.bytes = b := by
  obtain ⟨i, hi, e⟩ := Option.map_eq_some_iff.1 h
  simp only [Prod.mk.injEq] at e
  exact ⟨i, hi, e.1, e.2.1, e.2.2⟩
theorem Tryz.infoVer : (Tryz.prog.info? 97).map (fun i => (i.zero, i.size, i.bytes)) = some (some (.agg #[.int .i64 0, .int .i64 0, .string ⟨#[]⟩, .bool false, .int .i64 0]), 5, 48) := by kernel_rfl

/-- append of whatever versions onto a row of the call's own. -/
theorem run_append_vs (w : World) (B : Nat) (hB : B ≤ w.heap.size) (ao bo : Option Addr) (c d : Nat) (us vs : List Ver) (h : VOwn B w ao c us) (hx : Vs w bo d vs) (hlen : us.length + vs.length ≤ 2932031007401) (ty : TypeId) :
    ∃ eo f w', (Builtin.append_ #[59, 59] ty #[.slice ao us.length c, .slice bo vs.length d]).run Tryz.prog w = .ok (.slice eo (us ++ vs).length f) w' ∧ VOwn B w' eo f (us ++ vs) ∧ w.grownBy w' (Value.slice ao us.length c).ownBlock := by
  obtain ⟨i0, hi, hz0, hz1, hz2⟩ := info_parts Tryz.infoVer
  cases bo with
  | some a =>
    obtain ⟨v', w', hr, r2, r3, _⟩ := run_append_own (P := Tryz.prog) w B 59 ty 97 i0 _ 5 48 Tryz.underlying59 hi hz0 hz1 hz2 rfl (by decide) _ us.length (vsc us) h a vs.length d (vsc vs) (vsc_length vs) (fun j u => hx.cells j u) (vsc_one vs)
      (by unfold maxLen; omega) (by omega) hB
    rw [← vsc_append, ← List.length_append] at r2
    obtain ⟨eo, f, rfl, r4⟩ := VOwn.form r2
    exact ⟨eo, f, w', hr, r4, r3⟩
  | none =>
    have e : vs = [] := by
      cases vs with
      | nil => rfl
      | cons x r => obtain ⟨b, o, e, _⟩ := hx.each 0 (by simp); cases e
    subst e
    have hd := hx.nil rfl
    subst hd
    have hs := Src.ofNil (P := Tryz.prog) (size := i0.size) w Tryz.underlying59 0
    rw [List.append_nil]
    rcases id h.2 with ⟨e, h0⟩ | ⟨g, cap, cur, e, hbg, hg, hnc, hcm, hcs, htake⟩
    · injection e with e1 e2 e3
      have : us = [] := List.eq_nil_of_length_eq_zero h0
      subst e1 e3 this
      refine ⟨none, 0, w, ?_, h, World.grownBy.refl _ _⟩
      simp [Builtin.append_, run_underlying Tryz.underlying59, sizeOf, typeInfo, hi, hs.len, hs.cells, List.length_nil]
    · injection e with e1 e2 e3
      subst e1 e3
      refine ⟨_, _, w, ?_, h, World.grownBy.refl _ _⟩
      exact run_append_room_src (P := Tryz.prog) w 59 59 ty 97 i0 Tryz.underlying59 hi g 0 us.length _ _ 0 [] hs (by omega) (fun j hj => by simp at hj) (fun j hj => by simp at hj)

theorem wpList_append_vs {ops : Array Oper} {rest : List Oper} {o : Oper} {ac : Act} {Q : Exit → Act → World → Prop} (w : World) (hgd : o.guard = none) (s x : Operand)
    (ho : o.op = .call { callee := .builtin .append, args := #[s, x], argTypes := #[59, 59] })
    (B : Nat) (hB : B ≤ w.heap.size) (ao bo : Option Addr) (c d : Nat) (us vs : List Ver) (hv : ac.eval s = .slice ao us.length c) (h : VOwn B w ao c us) (hxv : ac.eval x = .slice bo vs.length d) (hx : Vs w bo d vs)
    (hlen : us.length + vs.length ≤ 2932031007401)
    (hK : ∀ eo f w', VOwn B w' eo f (us ++ vs) → w.grownBy w' (Value.slice ao us.length c).ownBlock → wpList Tryz.prog ops Q rest (ac.put o.dst (.slice eo (us ++ vs).length f)) w') : wpList Tryz.prog ops Q (o :: rest) ac w := by
  refine wpList_plain hgd fun K hK' => ?_
  obtain ⟨eo, f, w', hr, h2, h3⟩ := run_append_vs w B hB ao bo c d us vs h hx hlen o.type
  unfold Oper.wp execOp
  simp only [ho, resolve, invoke, builtin, Sem.run_bind, Sem.run_pure, Result.andThen_ok, List.map_toArray, List.map_cons, List.map_nil, hv, hxv, hr]
  exact hK' _ _ (hK eo f w' h2 h3)

theorem VOwn.made {B : Nat} {w : World} (hB : w.heap.size = B) : VOwn B (w.alloc (.cells #[] 97)) (some ⟨B, 0, none⟩) 0 [] := by
  subst hB
  exact World.ownsRow_made (size := 5) w #[] 0 (Nat.le_refl _) (Nat.zero_le _) rfl

/-- The same, the numbers given. -/
theorem wpList_append_n {ops : Array Oper} {rest : List Oper} {o : Oper} {ac : Act} {Q : Exit → Act → World → Prop} (w : World) (hgd : o.guard = none) (s x : Operand)
    (ho : o.op = .call { callee := .builtin .append, args := #[s, x], argTypes := #[59, 59] })
    (B : Nat) (ao bo : Option Addr) (c d k m n : Nat) (us vs : List Ver) (hv : ac.eval s = .slice ao k c) (hxv : ac.eval x = .slice bo m d) (hB : B ≤ w.heap.size) (hk : us.length = k) (hm : vs.length = m) (hn : k + m = n) (h : VOwn B w ao c us) (hx : Vs w bo d vs)
    (hlen : us.length + vs.length ≤ 2932031007401)
    (hK : ∀ eo f w', VOwn B w' eo f (us ++ vs) → w.grownBy w' (Value.slice ao k c).ownBlock → wpList Tryz.prog ops Q rest (ac.put o.dst (.slice eo n f)) w') : wpList Tryz.prog ops Q (o :: rest) ac w := by
  subst hk hm hn
  rw [← List.length_append] at hK
  exact wpList_append_vs w hgd s x ho B hB ao bo c d us vs hv h hxv hx hlen hK

theorem Vs.none {w : World} {c : Nat} {vs : List Ver} (h : Vs w none c vs) : vs = [] ∧ c = 0 := by
  refine ⟨?_, h.nil rfl⟩
  cases vs with
  | nil => rfl
  | cons x r => obtain ⟨b, o, e, _⟩ := h.each 0 (by simp); cases e

section
set_option maxRecDepth 100000
set_option maxHeartbeats 1000000

theorem clone_any (ao : Option Addr) (c : Nat) (vs : List Ver) (w : World) (h : Vs w ao c vs) (hlim : vs.length ≤ 2932031007400) :
    Calls Tryz.prog 95 #[.slice ao vs.length c] w fun e w' => ∃ bo d, e = .returned (.slice bo vs.length d) ∧ VOwn w.heap.size w' bo d vs ∧ Below w.heap.size w w' := by
  have qn : ∀ (w : World) (a : Option Addr) (n c n' c' : Nat), (binOp .eql 59 (.slice a n c) (.slice none n' c')).run Tryz.prog w = .ok (.bool a.isNone) w := fun w a n c n' c' => Lib.run_eql_slice_nil w _ _ a n c n' c' Tryz.underlying59
  cases ao with
  | none =>
    obtain ⟨rfl, rfl⟩ := h.none
    go_enter Tryz.func95, Tryz.ntmps95
    go_wp2
    go_ret
    exact ⟨none, 0, rfl, VOwn.zero _ _, Below.refl _ _⟩
  | some a =>
    have Hv := hide (fun o => h.alloc o)
    go_enter Tryz.func95, Tryz.ntmps95
    go_wp2_with (at_builtin; refine wpList_append_vs _ rfl (.tmp 5) (.tmp 6) rfl w.heap.size ?hB1 (some ⟨w.heap.size, 0, none⟩) (some a) 0 c [] vs rfl ?h01 rfl ?hx1 ?hl1 ?_)
    case hB1 => simp
    case h01 => exact World.ownsRow_made _ #[] 0 (Nat.le_refl _) (Nat.zero_le _) rfl
    case hx1 => exact unhide Hv _
    case hl1 => simp; omega
    intro eo f w1 ho1 hg1
    have hB1 : Below w.heap.size w w1 := ((Below.refl _ _).alloc (Nat.le_refl _) _).grown hg1 (by simp) (fun q hq => by cases hq; exact Nat.le_refl _)
    have HB1 := hide hB1
    have Ho1 := hide ho1
    clear hg1 hB1 ho1
    go_wp2
    go_ret
    exact ⟨eo, f, rfl, unhide Ho1, unhide HB1⟩
end

end Go.Proofs.YtcdehnghggleoaaGreat

/-
  Contracts of version.copied, the document's Copy, slices.ContainsFunc over Write's closure. No law is proved here.
-/
namespace Go.Proofs.YtcdehnghggleoaaGreat
open Go.RowKit
set_option linter.unusedVariables false

theorem results_c {fn : Func} {k : Nat} (hf : fn.results = #[.cell k 61]) {tmps : Array Value} {w : World} {B : Nat} (ao : Option Addr) (n c : Nat) (o : Bool) (i : Itn) (hk : tmps[k]? = some (.pointer (some ⟨B, 0, none⟩)))
    (h : Blk w B [.slice ao n c, .bool o, .int .i64 i.txn.id, .int .i64 i.txn.ep, .string i.txn.anchor, .int .i64 i.txn.start.1, .int .i64 i.txn.start.2, .int .i64 i.seq, .int .i64 i.at_.1, .int .i64 i.at_.2, .string i.val, .bool i.gone]) : (results fn tmps).run Tryz.prog w = .ok (.agg #[.slice ao n c, .bool o, .int .i64 i.txn.id, .int .i64 i.txn.ep, .string i.txn.anchor, .int .i64 i.txn.start.1, .int .i64 i.txn.start.2, .int .i64 i.seq, .int .i64 i.at_.1, .int .i64 i.at_.2, .string i.val, .bool i.gone]) w := by
  simp [results, hf, go_sem, h.c, hk]

section
set_option maxRecDepth 100000
set_option maxHeartbeats 1000000

theorem copied_any (ao : Option Addr) (c : Nat) (vs : List Ver) (o : Bool) (i : Itn) (w : World) (hv : Vs w ao c vs) (hlim : vs.length ≤ 2932031007400) :
    Calls Tryz.prog 70 #[(.agg #[.slice ao vs.length c, .bool o, .int .i64 i.txn.id, .int .i64 i.txn.ep, .string i.txn.anchor, .int .i64 i.txn.start.1, .int .i64 i.txn.start.2, .int .i64 i.seq, .int .i64 i.at_.1, .int .i64 i.at_.2, .string i.val, .bool i.gone])] w fun e w' => ∃ bo d, e = .returned (.agg #[.slice bo vs.length d, .bool o, .int .i64 i.txn.id, .int .i64 i.txn.ep, .string i.txn.anchor, .int .i64 i.txn.start.1, .int .i64 i.txn.start.2, .int .i64 i.seq, .int .i64 i.at_.1, .int .i64 i.at_.2, .string i.val, .bool i.gone]) ∧ VOwn w.heap.size w' bo d vs ∧ Below w.heap.size w w' := by
  have hC := fun w' (hb : Below w.heap.size w w') => clone_any ao c vs w' (hv.later hb) hlim
  obtain ⟨n, hn⟩ : ∃ n, vs.length = n := ⟨_, rfl⟩
  simp only [hn] at hC ⊢
  have Hn := hide hn
  have C := (Blk.new w #[.slice ao n c, .bool o, .int .i64 i.txn.id, .int .i64 i.txn.ep, .string i.txn.anchor, .int .i64 i.txn.start.1, .int .i64 i.txn.start.2, .int .i64 i.seq, .int .i64 i.at_.1, .int .i64 i.at_.2, .string i.val, .bool i.gone] 61).alloc (.cells #[.slice none 0 0, .bool false, .int .i64 0, .int .i64 0, .string ⟨#[]⟩, .int .i64 0, .int .i64 0, .int .i64 0, .int .i64 0, .int .i64 0, .string ⟨#[]⟩, .bool false] 61)
  have R := Blk.new (w.alloc (.cells #[.slice ao n c, .bool o, .int .i64 i.txn.id, .int .i64 i.txn.ep, .string i.txn.anchor, .int .i64 i.txn.start.1, .int .i64 i.txn.start.2, .int .i64 i.seq, .int .i64 i.at_.1, .int .i64 i.at_.2, .string i.val, .bool i.gone] 61)) #[.slice none 0 0, .bool false, .int .i64 0, .int .i64 0, .string ⟨#[]⟩, .int .i64 0, .int .i64 0, .int .i64 0, .int .i64 0, .int .i64 0, .string ⟨#[]⟩, .bool false] 61
  rw [show (w.alloc (.cells #[.slice ao n c, .bool o, .int .i64 i.txn.id, .int .i64 i.txn.ep, .string i.txn.anchor, .int .i64 i.txn.start.1, .int .i64 i.txn.start.2, .int .i64 i.seq, .int .i64 i.at_.1, .int .i64 i.at_.2, .string i.val, .bool i.gone] 61)).heap.size = w.heap.size + 1 by simp] at R
  have hB : Below w.heap.size w ((w.alloc (.cells #[.slice ao n c, .bool o, .int .i64 i.txn.id, .int .i64 i.txn.ep, .string i.txn.anchor, .int .i64 i.txn.start.1, .int .i64 i.txn.start.2, .int .i64 i.seq, .int .i64 i.at_.1, .int .i64 i.at_.2, .string i.val, .bool i.gone] 61)).alloc (.cells #[.slice none 0 0, .bool false, .int .i64 0, .int .i64 0, .string ⟨#[]⟩, .int .i64 0, .int .i64 0, .int .i64 0, .int .i64 0, .int .i64 0, .string ⟨#[]⟩, .bool false] 61)) := ((Below.refl w.heap.size w).alloc (Nat.le_refl _) _).alloc (by simp) _
  clear hv hlim hn
  go_enter Tryz.func70, Tryz.ntmps70
  go_wp2_with fail
  generalize (w.alloc _).alloc _ = W at *
  refine (hC _ hB).mono ?_
  rintro e w1 ⟨bo, d, rfl, ho, hb1⟩
  have hltC := C.lt
  have hltR := R.lt
  replace C := C.later hb1
  replace R := R.later hb1
  replace hB := hB.trans (hb1.mono hB.size)
  have HO := hide ho
  clear hb1 hC ho
  have C_0 := C.c 0; have C_1 := C.c 1; have C_2 := C.c 2; have C_3 := C.c 3; have C_4 := C.c 4; have C_5 := C.c 5; have C_6 := C.c 6; have C_7 := C.c 7; have C_8 := C.c 8; have C_9 := C.c 9; have C_10 := C.c 10; have C_11 := C.c 11; simp only [List.getElem?_cons_zero, List.getElem?_cons_succ] at C_0 C_1 C_2 C_3 C_4 C_5 C_6 C_7 C_8 C_9 C_10 C_11
  have R_0 := R.c 0; have R_1 := R.c 1; have R_2 := R.c 2; have R_3 := R.c 3; have R_4 := R.c 4; have R_5 := R.c 5; have R_6 := R.c 6; have R_7 := R.c 7; have R_8 := R.c 8; have R_9 := R.c 9; have R_10 := R.c 10; have R_11 := R.c 11; simp only [List.getElem?_cons_zero, List.getElem?_cons_succ] at R_0 R_1 R_2 R_3 R_4 R_5 R_6 R_7 R_8 R_9 R_10 R_11
  have Cf := C.f
  have Rf := R.f
  have HB := hide hB
  clear hB
  go_wp2
  have C1 := C.set 0 (by simp) (.slice bo n d)
  have R1 := R.other (q := ⟨w.heap.size, 0, none⟩) (by simp) (.slice bo n d)
  have q := R1.all [.slice bo n d, .bool o, .int .i64 i.txn.id, .int .i64 i.txn.ep, .string i.txn.anchor, .int .i64 i.txn.start.1, .int .i64 i.txn.start.2, .int .i64 i.seq, .int .i64 i.at_.1, .int .i64 i.at_.2, .string i.val, .bool i.gone] rfl
  refine bodyPost_ret (results_c Tryz.results70 bo n d o i rfl q) rfl ⟨bo, d, rfl, ?_, below_setAll (by omega) [.slice bo n d, .bool o, .int .i64 i.txn.id, .int .i64 i.txn.ep, .string i.txn.anchor, .int .i64 i.txn.start.1, .int .i64 i.txn.start.2, .int .i64 i.seq, .int .i64 i.at_.1, .int .i64 i.at_.2, .string i.val, .bool i.gone] 0 ((unhide HB).setCell (by simp) _)⟩
  have ho := unhide HO
  have ho2 : VOwn w.heap.size (setAll (w1.setCell ⟨w.heap.size, 0, none⟩ (.slice bo n d)) (w.heap.size + 1) 0 [.slice bo n d, .bool o, .int .i64 i.txn.id, .int .i64 i.txn.ep, .string i.txn.anchor, .int .i64 i.txn.start.1, .int .i64 i.txn.start.2, .int .i64 i.seq, .int .i64 i.at_.1, .int .i64 i.at_.2, .string i.val, .bool i.gone]) bo d vs := (VOwn.others hltR [.slice bo n d, .bool o, .int .i64 i.txn.id, .int .i64 i.txn.ep, .string i.txn.anchor, .int .i64 i.txn.start.1, .int .i64 i.txn.start.2, .int .i64 i.seq, .int .i64 i.at_.1, .int .i64 i.at_.2, .string i.val, .bool i.gone] 0 (ho.other (q := ⟨w.heap.size, 0, none⟩) hltC _)).mono (by omega)
  exact ho2

/-- The closure of Write: is a version this transaction's? -/
theorem isby_any (I : Nat) (i : Itn) (v : Ver) (w : World) (hI : Blk w I [.int .i64 i.txn.id, .int .i64 i.txn.ep, .string i.txn.anchor, .int .i64 i.txn.start.1, .int .i64 i.txn.start.2, .int .i64 i.seq, .int .i64 i.at_.1, .int .i64 i.at_.2, .string i.val, .bool i.gone]) :
    Calls Tryz.prog 68 #[(.agg #[.int .i64 v.at_.1, .int .i64 v.at_.2, .string v.val, .bool v.gone, .int .i64 v.by_]), .pointer (some ⟨I, 0, none⟩)] w fun e w' => e = .returned (.bool (decide (v.by_ = i.txn.id))) ∧ Below w.heap.size w w' := by
  have I0 := fun o => (hI.alloc o).c 0
  simp only [List.getElem?_cons_zero] at I0
  clear hI
  go_enter Tryz.func68, Tryz.ntmps68
  go_wp2
  go_ret
  exact ⟨by simp [BEq.beq], (Below.refl _ _).alloc (Nat.le_refl _) _⟩

/-- The first place of a version of this transaction, or -1. -/
def idx (vs : List Ver) (id : Int) : Int := match vs.findIdx? (fun v => decide (v.by_ = id)) with | some k => k | none => -1

theorem index_any (I c : Nat) (ao : Option Addr) (vs : List Ver) (i : Itn) (w : World) (hI : Blk w I [.int .i64 i.txn.id, .int .i64 i.txn.ep, .string i.txn.anchor, .int .i64 i.txn.start.1, .int .i64 i.txn.start.2, .int .i64 i.seq, .int .i64 i.at_.1, .int .i64 i.at_.2, .string i.val, .bool i.gone]) (hv : Vs w ao c vs) :
    Calls Tryz.prog 97 #[.slice ao vs.length c, .func (.func 68) #[] #[.pointer (some ⟨I, 0, none⟩)]] w fun e w' => ∃ z : Int, e = .returned (.int .i64 z) ∧ (0 ≤ z ↔ (vs.any fun v => decide (v.by_ = i.txn.id)) = true) ∧ Below w.heap.size w w' := by
  have l1 := hv.len
  simp only [maxLen] at l1
  have HI := hide hI
  have Hv := hide hv
  obtain ⟨n, hn⟩ : ∃ n, vs.length = n := ⟨_, rfl⟩
  have Hn := hide hn
  rw [hn] at l1 ⊢
  clear hI hv hn
  go_enter Tryz.func97, Tryz.ntmps97
  go_wp2
  go_loopw [8] (fun u wr => ∃ k : Nat, u = .int .i64 k ∧ k ≤ n ∧ Hid (∀ j (h : j < vs.length), j < k → decide (vs[j].by_ = i.txn.id) = false) ∧ Hid (Below w.heap.size w wr)) (fun u _ => n - (intOf u).toNat)
  case atStart => exact ⟨0, rfl, by omega, (fun j _ h => absurd h (Nat.not_lt_zero _)), Below.refl _ _⟩
  case round =>
    obtain ⟨k, rfl, hk, Ha, Hb⟩ := hrel
    by_cases hlt : k < n
    · have h1 : k < vs.length := by have := unhide Hn; omega
      obtain ⟨b, q, rfl, x⟩ := (unhide Hv).each k h1
      obtain ⟨v, hv0⟩ : ∃ v, vs[k] = v := ⟨_, rfl⟩
      rw [hv0] at x
      have Hs := hide hv0
      replace x := x.block ((unhide Hb).block _ x.lt)
      have x0 := x.c0
      have x1 := x.c1
      have x2 := x.c2
      have x3 := x.c3
      have x4 := x.c4
      have hc := isby_any I i v wr ((unhide HI).later (unhide Hb))
      clear hv0 x
      cases hq : decide (v.by_ = i.txn.id)
      · have Hq := hide hq
        rw [hq] at hc
        clear hq
        go_wp2_with fail
        refine hc.mono ?_
        rintro e w1 ⟨rfl, hb1⟩
        have HB1 := hide ((unhide Hb).trans (hb1.mono (unhide Hb).size))
        clear hb1 x0 x1 x2 x3 x4 hc
        go_wp2
        go_roundw
        case rel =>
          refine ⟨k + 1, by go_num, by omega, (fun j a hj => ?_), unhide HB1⟩
          by_cases e : j = k
          · subst e
            rw [unhide Hs]; exact unhide Hq
          · exact unhide Ha j a (by omega)
        case measure => simp [intOf]; omega
      · have Hq := hide hq
        rw [hq] at hc
        clear hq
        go_wp2_with fail
        refine hc.mono ?_
        rintro e w1 ⟨rfl, hb1⟩
        have HB1 := hide ((unhide Hb).trans (hb1.mono (unhide Hb).size))
        clear hb1 x0 x1 x2 x3 x4 hc
        go_wp2
        go_ret
        refine ⟨k, rfl, ⟨fun _ => ?_, fun _ => by omega⟩, unhide HB1⟩
        exact List.any_eq_true.2 ⟨vs[k], List.getElem_mem _, by rw [unhide Hs]; exact unhide Hq⟩
    · go_wp2
      go_ret
      refine ⟨-1, rfl, ⟨fun h => absurd h (by decide), fun h => ?_⟩, unhide Hb⟩
      obtain ⟨v, hv, h1⟩ := List.any_eq_true.1 h
      obtain ⟨j, hj, rfl⟩ := List.getElem_of_mem hv
      rw [unhide Ha j hj (by have := unhide Hn; omega)] at h1
      cases h1

theorem contains_any (I c : Nat) (ao : Option Addr) (vs : List Ver) (i : Itn) (w : World) (hI : Blk w I [.int .i64 i.txn.id, .int .i64 i.txn.ep, .string i.txn.anchor, .int .i64 i.txn.start.1, .int .i64 i.txn.start.2, .int .i64 i.seq, .int .i64 i.at_.1, .int .i64 i.at_.2, .string i.val, .bool i.gone]) (hv : Vs w ao c vs) :
    Calls Tryz.prog 69 #[.slice ao vs.length c, .func (.func 68) #[] #[.pointer (some ⟨I, 0, none⟩)]] w fun e w' => e = .returned (.bool (vs.any fun v => decide (v.by_ = i.txn.id))) ∧ Below w.heap.size w w' := by
  have hX := index_any I c ao vs i w hI hv
  generalize (vs.any fun v => decide (v.by_ = i.txn.id)) = z at *
  generalize vs.length = n at *
  clear hI hv
  go_enter Tryz.func69, Tryz.ntmps69
  go_wp2_with fail
  refine hX.mono ?_
  rintro e w1 ⟨k, rfl, hk, hb⟩
  have H := hide hb
  have Hk := hide hk
  clear hb hk
  by_cases h0 : 0 ≤ k
  · obtain rfl : z = true := (unhide Hk).1 h0
    go_wp2
    go_ret
    exact ⟨rfl, unhide H⟩
  · obtain rfl : z = false := by
      cases z
      · rfl
      · exact absurd ((unhide Hk).2 rfl) h0
    go_wp2
    go_ret
    exact ⟨by simp [h0], unhide H⟩
end

end Go.Proofs.YtcdehnghggleoaaGreat

/-
  Looking a key up; Chain; the iterator's making. No law is proved here.
-/
namespace Go.Proofs.YtcdehnghggleoaaGreat
open Go.RowKit Go.Maps
set_option linter.unusedVariables false

section
set_option maxRecDepth 100000
set_option maxHeartbeats 1000000

abbrev chZ : Value := chV none 0 Chn.zero

theorem Tryz.zeroCh (w : World) : (zeroValue 61).run Tryz.prog w = .ok chZ w := by kernel_rfl

theorem key_le {k : ByteArray} (h : S5.keyB k = true) : k.size ≤ 8 := by
  unfold S5.keyB at h
  simp only [Bool.and_eq_true, decide_eq_true_eq] at h
  omega

theorem look_ok {w : World} {a b : Nat} {l : List Ent} (h : Sto w a b l) {k : ByteArray} (hk : k.size ≤ 1000) :
    (Instr.lookup 66 (.map (some b)) (.string k) true).run Tryz.prog w = .ok (.tuple #[match getE l k with | some e => e.v | none => chZ, .bool (getE l k).isSome]) w := by
  obtain ⟨n, hn, _⟩ := h.own
  obtain ⟨v, ps, hr, hv⟩ := hn.look_ok keyed Tryz.underlying66 (Tryz.zeroCh w) (zd := .held chZ) (zp := []) rfl (keyOf_s (k := k) (by unfold maxLen; omega))
  rw [hr, has_DL]
  rw [at_DL] at hv
  unfold rv at hv
  cases hg : getE l k with
  | none => rw [hg] at hv; simp at hv; rw [hv.1]
  | some e => rw [hg] at hv; simp at hv; rw [hv.1]
theorem look_hit {w : World} {a b : Nat} {l : List Ent} (h : Sto w a b l) {e : Ent} (he : e ∈ l) :
    (Instr.lookup 66 (.map (some b)) (.string e.key) true).run Tryz.prog w = .ok (.tuple #[e.v, .bool true]) w := by
  rw [look_ok h (by have := key_le (h.keys e he); omega), getE_mem h.rise he]
  rfl
theorem look_miss {w : World} {a b : Nat} {l : List Ent} (h : Sto w a b l) {k : ByteArray} (hk : k.size ≤ 1000) (hg : getE l k = none) :
    (Instr.lookup 66 (.map (some b)) (.string k) true).run Tryz.prog w = .ok (.tuple #[chZ, .bool false]) w := by
  rw [look_ok h hk, hg]
  rfl

/-- What is at a key: its chain's slice, its capacity, the chain; the empty chain, if there is none. -/
def entAt (l : List Ent) (k : ByteArray) : Ent := match getE l k with | some e => e | none => ⟨k, none, 0, Chn.zero⟩
theorem entAt_vs {w : World} {a b : Nat} {l : List Ent} (h : Sto w a b l) (k : ByteArray) : Vs w (entAt l k).ao (entAt l k).cap (entAt l k).c.vs ∧ (entAt l k).c.vs.length ≤ 1000000 := by
  unfold entAt
  cases hg : getE l k with
  | none => exact ⟨Vs.zero w, by simp [Chn.zero]⟩
  | some e => exact ⟨h.vs e (getE_some hg).1, h.lim e (getE_some hg).1⟩
theorem look_one {w : World} {a b : Nat} {l : List Ent} (h : Sto w a b l) {k : ByteArray} (hk : k.size ≤ 1000) :
    (Instr.lookup 66 (.map (some b)) (.string k) false).run Tryz.prog w = .ok (entAt l k).v w := by
  obtain ⟨n, hn, _⟩ := h.own
  obtain ⟨v, ps, hr, hv⟩ := hn.lookup keyed Tryz.underlying66 (Tryz.zeroCh w) (zd := .held chZ) (zp := []) rfl (keyOf_s (k := k) (by unfold maxLen; omega))
  rw [hr]
  rw [at_DL] at hv
  unfold rv at hv
  unfold entAt
  cases hg : getE l k with
  | none => rw [hg] at hv; simp at hv; rw [hv.1]
  | some e => rw [hg] at hv; simp at hv; rw [hv.1]

theorem scopied_any (ao : Option Addr) (c : Nat) (vs : List Ver) (o : Bool) (i : Itn) (w : World) (hv : Vs w ao c vs) (hlim : vs.length ≤ 2932031007400) :
    Calls Tryz.prog 63 #[(.agg #[.slice ao vs.length c, .bool o, .int .i64 i.txn.id, .int .i64 i.txn.ep, .string i.txn.anchor, .int .i64 i.txn.start.1, .int .i64 i.txn.start.2, .int .i64 i.seq, .int .i64 i.at_.1, .int .i64 i.at_.2, .string i.val, .bool i.gone])] w fun e w' => ∃ bo d, e = .returned (.agg #[.slice bo vs.length d, .bool o, .int .i64 i.txn.id, .int .i64 i.txn.ep, .string i.txn.anchor, .int .i64 i.txn.start.1, .int .i64 i.txn.start.2, .int .i64 i.seq, .int .i64 i.at_.1, .int .i64 i.at_.2, .string i.val, .bool i.gone]) ∧ VOwn w.heap.size w' bo d vs ∧ Below w.heap.size w w' := by
  have hC := fun w' (hb : Below w.heap.size w w') => clone_any ao c vs w' (hv.later hb) hlim
  obtain ⟨n, hn⟩ : ∃ n, vs.length = n := ⟨_, rfl⟩
  simp only [hn] at hC ⊢
  have Hn := hide hn
  have C := (Blk.new w #[.slice ao n c, .bool o, .int .i64 i.txn.id, .int .i64 i.txn.ep, .string i.txn.anchor, .int .i64 i.txn.start.1, .int .i64 i.txn.start.2, .int .i64 i.seq, .int .i64 i.at_.1, .int .i64 i.at_.2, .string i.val, .bool i.gone] 61).alloc (.cells #[.slice none 0 0, .bool false, .int .i64 0, .int .i64 0, .string ⟨#[]⟩, .int .i64 0, .int .i64 0, .int .i64 0, .int .i64 0, .int .i64 0, .string ⟨#[]⟩, .bool false] 61)
  have R := Blk.new (w.alloc (.cells #[.slice ao n c, .bool o, .int .i64 i.txn.id, .int .i64 i.txn.ep, .string i.txn.anchor, .int .i64 i.txn.start.1, .int .i64 i.txn.start.2, .int .i64 i.seq, .int .i64 i.at_.1, .int .i64 i.at_.2, .string i.val, .bool i.gone] 61)) #[.slice none 0 0, .bool false, .int .i64 0, .int .i64 0, .string ⟨#[]⟩, .int .i64 0, .int .i64 0, .int .i64 0, .int .i64 0, .int .i64 0, .string ⟨#[]⟩, .bool false] 61
  rw [show (w.alloc (.cells #[.slice ao n c, .bool o, .int .i64 i.txn.id, .int .i64 i.txn.ep, .string i.txn.anchor, .int .i64 i.txn.start.1, .int .i64 i.txn.start.2, .int .i64 i.seq, .int .i64 i.at_.1, .int .i64 i.at_.2, .string i.val, .bool i.gone] 61)).heap.size = w.heap.size + 1 by simp] at R
  have hB : Below w.heap.size w ((w.alloc (.cells #[.slice ao n c, .bool o, .int .i64 i.txn.id, .int .i64 i.txn.ep, .string i.txn.anchor, .int .i64 i.txn.start.1, .int .i64 i.txn.start.2, .int .i64 i.seq, .int .i64 i.at_.1, .int .i64 i.at_.2, .string i.val, .bool i.gone] 61)).alloc (.cells #[.slice none 0 0, .bool false, .int .i64 0, .int .i64 0, .string ⟨#[]⟩, .int .i64 0, .int .i64 0, .int .i64 0, .int .i64 0, .int .i64 0, .string ⟨#[]⟩, .bool false] 61)) := ((Below.refl w.heap.size w).alloc (Nat.le_refl _) _).alloc (by simp) _
  clear hv hlim hn
  go_enter Tryz.func63, Tryz.ntmps63
  go_wp2_with fail
  generalize (w.alloc _).alloc _ = W at *
  refine (hC _ hB).mono ?_
  rintro e w1 ⟨bo, d, rfl, ho, hb1⟩
  have hltC := C.lt
  have hltR := R.lt
  replace C := C.later hb1
  replace R := R.later hb1
  replace hB := hB.trans (hb1.mono hB.size)
  have HO := hide ho
  clear hb1 hC ho
  have C_0 := C.c 0; have C_1 := C.c 1; have C_2 := C.c 2; have C_3 := C.c 3; have C_4 := C.c 4; have C_5 := C.c 5; have C_6 := C.c 6; have C_7 := C.c 7; have C_8 := C.c 8; have C_9 := C.c 9; have C_10 := C.c 10; have C_11 := C.c 11; simp only [List.getElem?_cons_zero, List.getElem?_cons_succ] at C_0 C_1 C_2 C_3 C_4 C_5 C_6 C_7 C_8 C_9 C_10 C_11
  have R_0 := R.c 0; have R_1 := R.c 1; have R_2 := R.c 2; have R_3 := R.c 3; have R_4 := R.c 4; have R_5 := R.c 5; have R_6 := R.c 6; have R_7 := R.c 7; have R_8 := R.c 8; have R_9 := R.c 9; have R_10 := R.c 10; have R_11 := R.c 11; simp only [List.getElem?_cons_zero, List.getElem?_cons_succ] at R_0 R_1 R_2 R_3 R_4 R_5 R_6 R_7 R_8 R_9 R_10 R_11
  have Cf := C.f
  have Rf := R.f
  have HB := hide hB
  clear hB
  go_wp2
  have C1 := C.set 0 (by simp) (.slice bo n d)
  have R1 := R.other (q := ⟨w.heap.size, 0, none⟩) (by simp) (.slice bo n d)
  have q := R1.all [.slice bo n d, .bool o, .int .i64 i.txn.id, .int .i64 i.txn.ep, .string i.txn.anchor, .int .i64 i.txn.start.1, .int .i64 i.txn.start.2, .int .i64 i.seq, .int .i64 i.at_.1, .int .i64 i.at_.2, .string i.val, .bool i.gone] rfl
  refine bodyPost_ret (results_c Tryz.results63 bo n d o i rfl q) rfl ⟨bo, d, rfl, ?_, below_setAll (by omega) [.slice bo n d, .bool o, .int .i64 i.txn.id, .int .i64 i.txn.ep, .string i.txn.anchor, .int .i64 i.txn.start.1, .int .i64 i.txn.start.2, .int .i64 i.seq, .int .i64 i.at_.1, .int .i64 i.at_.2, .string i.val, .bool i.gone] 0 ((unhide HB).setCell (by simp) _)⟩
  have ho := unhide HO
  have ho2 : VOwn w.heap.size (setAll (w1.setCell ⟨w.heap.size, 0, none⟩ (.slice bo n d)) (w.heap.size + 1) 0 [.slice bo n d, .bool o, .int .i64 i.txn.id, .int .i64 i.txn.ep, .string i.txn.anchor, .int .i64 i.txn.start.1, .int .i64 i.txn.start.2, .int .i64 i.seq, .int .i64 i.at_.1, .int .i64 i.at_.2, .string i.val, .bool i.gone]) bo d vs := (VOwn.others hltR [.slice bo n d, .bool o, .int .i64 i.txn.id, .int .i64 i.txn.ep, .string i.txn.anchor, .int .i64 i.txn.start.1, .int .i64 i.txn.start.2, .int .i64 i.seq, .int .i64 i.at_.1, .int .i64 i.at_.2, .string i.val, .bool i.gone] 0 (ho.other (q := ⟨w.heap.size, 0, none⟩) hltC _)).mono (by omega)
  exact ho2

theorem in_any (a : Addr) (f t : ByteArray) (w : World) :
    Calls Tryz.prog 37 #[.pointer (some a), .agg #[.string f, .string t]] w fun e w' => e = .returned (.func (.func 73) #[] #[.pointer (some ⟨w.heap.size + 1, 0, none⟩), .pointer (some ⟨w.heap.size, 0, none⟩)]) ∧
      w' = (w.alloc (.cells #[.pointer (some a)] 24)).alloc (.cells #[.string f, .string t] 47) := by
  go_enter Tryz.func37, Tryz.ntmps37
  go_wp2
  go_ret
  exact ⟨by simp, rfl⟩
end

end Go.Proofs.YtcdehnghggleoaaGreat

/-
  Contracts of Chain and of what names no store. No law is proved here.
-/
namespace Go.Proofs.YtcdehnghggleoaaGreat
open Go.RowKit Go.Maps
set_option linter.unusedVariables false

section
set_option maxRecDepth 100000
set_option maxHeartbeats 1000000

theorem chain_any (a b : Nat) (l : List Ent) (k : ByteArray) (w : World) (h : Sto w a b l) (hk : k.size ≤ 1000) :
    Calls Tryz.prog 30 #[.pointer (some ⟨a, 0, none⟩), .string k] w fun e w' => ∃ bo d, e = .returned (chV bo d (entAt l k).c) ∧ Vs w' bo d (entAt l k).c.vs ∧ Below w.heap.size w w' := by
  obtain ⟨hv, hl⟩ := entAt_vs h k
  have hC := fun w' (hb : Below w.heap.size w w') => scopied_any (entAt l k).ao (entAt l k).cap (entAt l k).c.vs (entAt l k).c.opn (entAt l k).c.itn w' (hv.later hb) (by omega)
  have hlk := fun w' (hb : Below w.heap.size w w') => look_one (h.later hb) hk
  have hcell := fun w' (hb : Below w.heap.size w w') => (h.later hb).cell
  unfold Ent.v chV at hlk
  generalize (entAt l k) = E at *
  obtain ⟨ky, ao, cap, vs, o, i⟩ := E
  unfold chV
  simp only at *
  obtain ⟨n, hn⟩ : ∃ n, vs.length = n := ⟨_, rfl⟩
  simp only [hn] at hC hlk ⊢
  have Hn := hide hn
  have R := Blk.new w #[.slice none 0 0, .bool false, .int .i64 0, .int .i64 0, .string ⟨#[]⟩, .int .i64 0, .int .i64 0, .int .i64 0, .int .i64 0, .int .i64 0, .string ⟨#[]⟩, .bool false] 61
  have hB : Below w.heap.size w (w.alloc (.cells #[.slice none 0 0, .bool false, .int .i64 0, .int .i64 0, .string ⟨#[]⟩, .int .i64 0, .int .i64 0, .int .i64 0, .int .i64 0, .int .i64 0, .string ⟨#[]⟩, .bool false] 61)) := (Below.refl w.heap.size w).alloc (Nat.le_refl _) _
  have hc1 := hcell _ hB
  have hl1 := hlk _ hB
  clear hv hl hn hcell hlk h
  go_enter Tryz.func30, Tryz.ntmps30
  go_wp2_with fail
  generalize w.alloc _ = W at *
  refine (hC _ hB).mono ?_
  rintro e w1 ⟨bo, d, rfl, ho, hb1⟩
  have hltR := R.lt
  replace R := R.later hb1
  replace hB := hB.trans (hb1.mono hB.size)
  have HO := hide ho
  clear hb1 hC ho hc1 hl1
  have R_0 := R.c 0; have R_1 := R.c 1; have R_2 := R.c 2; have R_3 := R.c 3; have R_4 := R.c 4; have R_5 := R.c 5; have R_6 := R.c 6; have R_7 := R.c 7; have R_8 := R.c 8; have R_9 := R.c 9; have R_10 := R.c 10; have R_11 := R.c 11; simp only [List.getElem?_cons_zero, List.getElem?_cons_succ] at R_0 R_1 R_2 R_3 R_4 R_5 R_6 R_7 R_8 R_9 R_10 R_11
  have Rf := R.f
  have HB := hide hB
  clear hB
  go_wp2
  have q := R.all [.slice bo n d, .bool o, .int .i64 i.txn.id, .int .i64 i.txn.ep, .string i.txn.anchor, .int .i64 i.txn.start.1, .int .i64 i.txn.start.2, .int .i64 i.seq, .int .i64 i.at_.1, .int .i64 i.at_.2, .string i.val, .bool i.gone] rfl
  refine bodyPost_ret (results_c Tryz.results30 bo n d o i rfl q) rfl ⟨bo, d, rfl, ?_, below_setAll (by omega) [.slice bo n d, .bool o, .int .i64 i.txn.id, .int .i64 i.txn.ep, .string i.txn.anchor, .int .i64 i.txn.start.1, .int .i64 i.txn.start.2, .int .i64 i.seq, .int .i64 i.at_.1, .int .i64 i.at_.2, .string i.val, .bool i.gone] 0 (unhide HB)⟩
  have ho := unhide HO
  exact (VOwn.others hltR [.slice bo n d, .bool o, .int .i64 i.txn.id, .int .i64 i.txn.ep, .string i.txn.anchor, .int .i64 i.txn.start.1, .int .i64 i.txn.start.2, .int .i64 i.seq, .int .i64 i.at_.1, .int .i64 i.at_.2, .string i.val, .bool i.gone] 0 ho).vs

theorem chain_nil (k : ByteArray) (w : World) :
    Calls Tryz.prog 30 #[.pointer none, .string k] w fun e w' => e = .returned chZ ∧ Below w.heap.size w w' := by
  have R := Blk.new w #[.slice none 0 0, .bool false, .int .i64 0, .int .i64 0, .string ⟨#[]⟩, .int .i64 0, .int .i64 0, .int .i64 0, .int .i64 0, .int .i64 0, .string ⟨#[]⟩, .bool false] 61
  have hB : Below w.heap.size w (w.alloc (.cells #[.slice none 0 0, .bool false, .int .i64 0, .int .i64 0, .string ⟨#[]⟩, .int .i64 0, .int .i64 0, .int .i64 0, .int .i64 0, .int .i64 0, .string ⟨#[]⟩, .bool false] 61)) := (Below.refl w.heap.size w).alloc (Nat.le_refl _) _
  have R_0 := R.c 0; have R_1 := R.c 1; have R_2 := R.c 2; have R_3 := R.c 3; have R_4 := R.c 4; have R_5 := R.c 5; have R_6 := R.c 6; have R_7 := R.c 7; have R_8 := R.c 8; have R_9 := R.c 9; have R_10 := R.c 10; have R_11 := R.c 11; simp only [List.getElem?_cons_zero, List.getElem?_cons_succ] at R_0 R_1 R_2 R_3 R_4 R_5 R_6 R_7 R_8 R_9 R_10 R_11
  have Rf := R.f
  have HB := hide hB
  clear hB
  go_enter Tryz.func30, Tryz.ntmps30
  go_wp2
  refine bodyPost_ret (results_c Tryz.results30 none 0 0 false Itn.zero rfl R) rfl ⟨Eq.refl (Ending.returned chZ), ?_⟩
  exact unhide HB
end

end Go.Proofs.YtcdehnghggleoaaGreat

/-
  Contracts of maps.Copy and maps.DeleteFunc over a store's chains. No law is proved here.
-/
namespace Go.Proofs.YtcdehnghggleoaaGreat
open Go.RowKit Go.Maps
set_option linter.unusedVariables false

section
set_option maxRecDepth 100000
set_option maxHeartbeats 4000000

/-- An entry that has come is one of the list's. -/
theorem came {l : List Ent} {x c : Value} {kl : Lit} {y : DataW Value × List MemPlace} (hkey : keyOf Tryz.prog 9 x = some kl) (hv : rv c = some y) (hat : ∀ zd, (DL l).atKey kl zd = y.1) (hh : has (DL l) kl = true) : ∃ e ∈ l, x = .string e.key ∧ kl = keyL e.key ∧ c = e.v ∧ getE l e.key = some e := by
  obtain ⟨e0, he0, hk0⟩ := has_DL_other l kl hh
  subst hk0
  rw [has_DL] at hh
  obtain ⟨e, hg⟩ := Option.isSome_iff_exists.1 hh
  obtain ⟨h1, h2⟩ := getE_some hg
  have h3 := hat .nil
  rw [at_DL, hg] at h3
  simp only at h3
  unfold rv at hv
  simp only [Option.some.injEq] at hv
  subst hv
  simp only [DataW.held.injEq] at h3
  obtain ⟨xs, hx, hkx, _⟩ := Maps.keyOf_str Tryz.underlying9 hkey
  refine ⟨e, h1, ?_, by rw [h2], h3.symm, by rw [h2]; exact hg⟩
  rw [hx, h2]
  injection hkx with hkx
  rw [← hkx]

theorem mcopy_any (bd bs nd ns : Nat) (l ls : List Ent) (w : World) (hd : w.ownsMap Tryz.prog 9 rv bd nd (DL l)) (hs : w.ownsMap Tryz.prog 9 rv bs ns (DL ls)) (hne : bd ≠ bs) (hroom : nd + ls.length ≤ 4000000) :
    Calls Tryz.prog 41 #[.map (some bd), .map (some bs)] w fun e w' => e = .returned (.tuple #[]) ∧ w'.ownsMap Tryz.prog 9 rv bd (nd + ls.length) (Lib.mergeD (DL l) (DL ls)) ∧ w.grownBy w' (some bd) := by
  have hbd := hd.lt
  have hbs := hs.lt
  have hsz := size_DL ls
  go_enter Tryz.func41, Tryz.ntmps41
  go_wp2_with (first
    | (at_range; refine wpList_range_own _ rfl _ 66 rfl 9 61 keyed Tryz.underlying66 rv bs ns _ rfl hs ?_; intro w0 hrg0 hg0 hs0)
    | go_in)
  go_frame
  go_loopw [8] (fun _ wr => ∃ (left : Lit → Bool) (cnt : Nat) (Dout : DataW Value), wr.ranges Tryz.prog 9 rv bs w.heap.size ns (DL ls) left cnt ∧ cnt ≤ Maps.size (DL ls) ∧
      wr.ownsMap Tryz.prog 9 rv bd (nd + (Maps.size (DL ls) - cnt)) Dout ∧ Merged Dout (DL l) (DL ls) left ∧ w.grownBy wr (some bd))
    (fun _ wr => wr.rangeLeft bs w.heap.size)
  case atStart =>
    exact ⟨_, _, DL l, hrg0, Nat.le_refl _, (hd.kept hg0 (by simp)).mono (by omega), merged_start (DL l) (DL ls), hg0.but _⟩
  case round =>
    obtain ⟨left, cnt, Dout, hrg, hcs, hout, hM, hgw⟩ := hrel
    go_wp2_with (first
      | (at_next; refine wpList_next_ranges _ rfl _ rfl 9 keyed rv id id (fun key _ _ => ⟨key, rfl⟩) (fun v _ _ => ⟨v, rfl⟩) bs w.heap.size ns _ _ _ rfl hrg ?_ ?_)
      | go_in)
    · intro hc0 hl0
      go_wp2
      go_end0
      subst hc0
      have e := merged_eq keyed.one hM hl0 (hout.canon keyed) (hd.canonK keyed) (hs.canonK keyed)
      subst e
      exact ⟨rfl, by rw [hsz] at hout; simpa using hout, hgw⟩
    · intro x c kl yd yp w1 cnt1 hkey hlx hv hat hrg1 hlt hg1 hs1 hen
      obtain ⟨e, he, rfl, rfl, rfl, hge⟩ := came hkey hv hat (has_true_of_atKey hat)
      have hout1 := hout.kept hg1 (fun e => by have := Option.some.inj e; omega)
      obtain ⟨key, ao, cap, ⟨vs, q, i⟩⟩ := e
      simp only [Ent.v, chV] at hen hv ⊢
      obtain ⟨nv, hnv⟩ : ∃ nv, vs.length = nv := ⟨_, rfl⟩
      simp only [hnv] at hen hv ⊢
      clear hge he hnv
      have C := Blk.new w1 #[.slice ao nv cap, .bool q, .int .i64 i.txn.id, .int .i64 i.txn.ep, .string i.txn.anchor, .int .i64 i.txn.start.1, .int .i64 i.txn.start.2, .int .i64 i.seq, .int .i64 i.at_.1, .int .i64 i.at_.2, .string i.val, .bool i.gone] 61
      have hB : Below w1.heap.size w1 (w1.alloc (.cells #[.slice ao nv cap, .bool q, .int .i64 i.txn.id, .int .i64 i.txn.ep, .string i.txn.anchor, .int .i64 i.txn.start.1, .int .i64 i.txn.start.2, .int .i64 i.seq, .int .i64 i.at_.1, .int .i64 i.at_.2, .string i.val, .bool i.gone] 61)) := (Below.refl w1.heap.size w1).alloc (Nat.le_refl _) _
      have hrg2 := hrg1.alloc (.cells #[.slice ao nv cap, .bool q, .int .i64 i.txn.id, .int .i64 i.txn.ep, .string i.txn.anchor, .int .i64 i.txn.start.1, .int .i64 i.txn.start.2, .int .i64 i.seq, .int .i64 i.at_.1, .int .i64 i.at_.2, .string i.val, .bool i.gone] 61)
      have hout2 := hout1.alloc (.cells #[.slice ao nv cap, .bool q, .int .i64 i.txn.id, .int .i64 i.txn.ep, .string i.txn.anchor, .int .i64 i.txn.start.1, .int .i64 i.txn.start.2, .int .i64 i.seq, .int .i64 i.at_.1, .int .i64 i.at_.2, .string i.val, .bool i.gone] 61)
      have hgA := World.grownBy_alloc w1 (.cells #[.slice ao nv cap, .bool q, .int .i64 i.txn.id, .int .i64 i.txn.ep, .string i.txn.anchor, .int .i64 i.txn.start.1, .int .i64 i.txn.start.2, .int .i64 i.seq, .int .i64 i.at_.1, .int .i64 i.at_.2, .string i.val, .bool i.gone] 61) none
      have C_0 := C.c 0; have C_1 := C.c 1; have C_2 := C.c 2; have C_3 := C.c 3; have C_4 := C.c 4; have C_5 := C.c 5; have C_6 := C.c 6; have C_7 := C.c 7; have C_8 := C.c 8; have C_9 := C.c 9; have C_10 := C.c 10; have C_11 := C.c 11; simp only [List.getElem?_cons_zero, List.getElem?_cons_succ] at C_0 C_1 C_2 C_3 C_4 C_5 C_6 C_7 C_8 C_9 C_10 C_11
      have Cf := C.f
      have hlt2 := hrg1.lt
      go_wp2_with (first
        | (at_mapUpdate; refine wpList_mapUpdate_own _ rfl _ _ _ 66 rfl 9 61 keyed Tryz.underlying66 rv bd _ _ rfl hout2 (by unfold maxLen; omega) _ _ _ rfl rfl hkey yd yp hv ?_; intro w2 hout3 hg2; go_frame)
        | go_in)
      have hrg3 := hrg2.kept hg2 (fun e => hne (Option.some.inj e).symm) (fun e => by have := Option.some.inj e; omega)
      go_roundw
      case rel =>
        exact ⟨_, cnt1, _, hrg3, by omega, hout3.mono (by omega), merged_step hM hout.isMap (keyed.key hkey) hat, ((hgw.andThen hg1 (fun j hj => .inl (by cases hj; exact Nat.le_refl _))).andThen hgA (fun j hj => (by cases hj))).andThen hg2 (fun j hj => .inr hj)⟩
      case measure => rw [hrg3.left_eq, hrg.left_eq]; exact hlt
end

end Go.Proofs.YtcdehnghggleoaaGreat

/-
  A list of texts behind an address. No law is proved here.
-/
namespace Go.Proofs.YtcdehnghggleoaaGreat.S5
open Go.RowKit


/-- A list of texts lies behind an address. -/
def StrsAt (w : World) (ao : Option Addr) (l : List ByteArray) : Prop := 0 < l.length → ∃ b o, ao = some ⟨b, o, none⟩ ∧ ∀ j, (h : j < l.length) → w.cell? ⟨b, o + j, none⟩ = some (.string l[j])

theorem StrsAt.later {w w' : World} {ao : Option Addr} {l : List ByteArray} (h : StrsAt w ao l) (hb : Below w.heap.size w w') : StrsAt w' ao l := fun h0 => by
  obtain ⟨b, o, e, hc⟩ := h h0
  exact ⟨b, o, e, fun j hj => (hb.cell (World.block_lt_of_cell? w _ (hc j hj))).trans (hc j hj)⟩

end Go.Proofs.YtcdehnghggleoaaGreat.S5

/-
  The contract of the closure of Keys, and of slices.IndexFunc over it. No law is proved here.
-/
namespace Go.Proofs.YtcdehnghggleoaaGreat.S5
open Go.RowKit Go.Sort
set_option linter.unusedVariables false

section
set_option maxRecDepth 100000
set_option maxHeartbeats 1000000

theorem lacks_any (c : Nat) (f t k : ByteArray) (w : World) (h : Sp w c f t) : Calls Tryz.prog 99 #[.string k, .pointer (some ⟨c, 0, none⟩)] w fun e w' => e = .returned (.bool (!hasB f t k)) ∧ Below w.heap.size w w' := by
  obtain ⟨c0, c1, f0, f1⟩ := h
  go_enter Tryz.func99, Tryz.ntmps99
  go_wp2_with fail
  refine (has_any _ _ _ _).mono ?_
  rintro e w1 ⟨rfl, hb⟩
  have H := hide hb
  clear hb
  go_wp2
  go_ret
  exact ⟨rfl, unhide H⟩

/-- What slices.IndexFunc answers. -/
structure Idx (f t : ByteArray) (D : Array ByteArray) (i : Int) : Prop where
  all : ∀ j : Nat, (j : Int) < i ∨ i = -1 → j < D.size → hasB f t D[j]! = true
  hit : i = -1 ∨ ∃ k : Nat, i = k ∧ k < D.size ∧ hasB f t D[k]! = false

theorem index_any (g c cap : Nat) (f t : ByteArray) (D : Array ByteArray) (w : World) (hH : Holds Value.string w g 0 D) (hc : Sp w c f t) (hn : D.size ≤ 9223372036854775807) (hg : g < w.heap.size) :
    Calls Tryz.prog 114 #[.slice (some ⟨g, 0, none⟩) D.size cap, .func (.func 99) #[] #[.pointer (some ⟨c, 0, none⟩)]] w fun e w' => ∃ i, e = .returned (.int .i64 i) ∧ Idx f t D i ∧ Below w.heap.size w w' := by
  have HH := hide hH
  have Hc := hide hc
  clear hH hc
  go_enter Tryz.func114, Tryz.ntmps114
  go_wp2
  go_loopw [8] (fun i wr => ∃ k : Nat, i = .int .i64 k ∧ k ≤ D.size ∧ Hid (∀ j : Nat, j < k → hasB f t D[j]! = true) ∧ Hid (Below w.heap.size w wr)) (fun i _ => D.size - (intOf i).toNat)
  case atStart => exact ⟨0, rfl, by omega, (fun j h => absurd h (Nat.not_lt_zero _)), Below.refl _ _⟩
  case round =>
    obtain ⟨k, rfl, hk, Ha, Hb⟩ := hrel
    by_cases hlt : k < D.size
    · have hcell : wr.cell? ⟨g, k, none⟩ = some (.string D[k]!) := by
        have := ((unhide HH) k hlt).1
        rw [Nat.zero_add] at this
        exact ((unhide Hb).cell hg).trans this
      generalize hx : D[k]! = x at hcell
      have Hx := hide hx
      clear hx
      have hs := hide ((unhide Hc).later (unhide Hb))
      go_wp2_with fail
      refine (lacks_any c f t x wr (unhide hs)).mono ?_
      rintro e w1 ⟨rfl, hb⟩
      have Hb1 := hide ((unhide Hb).trans (hb.mono (unhide Hb).size))
      clear hb hcell
      cases hh : hasB f t x
      · go_wp2
        go_ret
        refine ⟨k, rfl, ⟨fun j hj hjs => ?_, .inr ⟨k, rfl, hlt, by rw [unhide Hx]; exact hh⟩⟩, unhide Hb1⟩
        rcases hj with hj | hj
        · exact unhide Ha j (by omega)
        · omega
      · go_wp2
        go_roundw
        case rel =>
          refine ⟨k + 1, by go_num, by omega, (fun j hj => ?_), unhide Hb1⟩
          by_cases e : j = k
          · subst e; rw [unhide Hx]; exact hh
          · exact unhide Ha j (by omega)
        case measure => simp [intOf]; omega
    · go_wp2
      go_ret
      refine ⟨-1, rfl, ⟨fun j hj hjs => unhide Ha j (by omega), .inl rfl⟩, unhide Hb⟩

end

end Go.Proofs.YtcdehnghggleoaaGreat.S5

/-
  The contract of slices.DeleteFunc over the closure of Keys. No law is proved here.
-/
namespace Go.Proofs.YtcdehnghggleoaaGreat.S5
open Go.RowKit Go.Sort
set_option linter.unusedVariables false

theorem holds_below {α : Type} [Inhabited α] {enc : α → Value} {w w' : World} {g o C : Nat} {D : Array α} (h : Holds enc w g o D) (hb : Below C w w') (hg : g < C) : Holds enc w' g o D :=
  fun j hj => ⟨(hb.cell hg).trans (h j hj).1, (hb.frozen hg).trans (h j hj).2⟩

theorem holds_set {w : World} {g : Nat} {D : Array ByteArray} (h : Holds Value.string w g 0 D) (k : Nat) (hk : k < D.size) (x : ByteArray) : Holds Value.string (w.setCell ⟨g, k, none⟩ (.string x)) g 0 (D.setIfInBounds k x) := by
  intro j hj
  have hj' : j < D.size := by simpa using hj
  rw [Nat.zero_add]
  have := h j hj'
  rw [Nat.zero_add] at this
  refine ⟨?_, by simpa using this.2⟩
  by_cases e : j = k
  · subst e; rw [getElem!_set_same D j x hk]; exact World.cell?_setCell_same w _ _ this.1
  · rw [getElem!_set_other D k j x e, World.cell?_setCell_other w _ _ _ (by intro q; injection q with _ q; exact e q.symm)]; exact this.1

theorem below_cells {B b : Nat} {a : World} (hb : B ≤ b) : ∀ (vs : List Value) (o : Nat) (w : World), Below B a w → Below B a (w.setCells b o vs)
  | [], _, _, h => h
  | v :: vs, o, w, h => below_cells hb vs (o + 1) _ (h.setCell hb _)

section
set_option maxRecDepth 100000
set_option maxHeartbeats 1000000

theorem delete_any (g c cap B : Nat) (f t : ByteArray) (D : Array ByteArray) (w : World) (hH : Holds Value.string w g 0 D) (hc : Sp w c f t) (hn : D.size ≤ 9223372036854775807) (hcap : D.size ≤ cap) (hg : g < w.heap.size) (hcB : c < B) (hB : B ≤ g) :
    Calls Tryz.prog 101 #[.slice (some ⟨g, 0, none⟩) D.size cap, .func (.func 99) #[] #[.pointer (some ⟨c, 0, none⟩)]] w fun e w' =>
      e = .returned (.slice (some ⟨g, 0, none⟩) (D.toList.filter fun x => hasB f t x).length cap) ∧ Holds Value.string w' g 0 (D.toList.filter fun x => hasB f t x).toArray ∧ Below B w w' ∧ g < w'.heap.size := by
  have HH := hide hH
  have Hc := hide hc
  obtain ⟨kp, HK⟩ : ∃ kp : Nat → Bool, Hid (kp = fun j => hasB f t D[j]!) := ⟨_, rfl⟩
  have hfil : (D.toList.filter fun x => hasB f t x) = Lib.keptUpTo kp D D.size := by rw [unhide HK]; exact (Lib.keptUpTo_filter (fun x => hasB f t x) D).symm
  rw [hfil]
  have hix := hide (index_any g c cap f t D w hH hc hn hg)
  clear hH hc hfil
  go_enter Tryz.func101, Tryz.ntmps101
  go_wp2_with fail
  refine (unhide hix).mono ?_
  rintro e w1 ⟨i, rfl, hi, hb⟩
  have Hb := hide (hb.mono (Nat.le_trans hB (Nat.le_of_lt hg)))
  have HH1 := hide (holds_below (unhide HH) hb hg)
  have Hc1 := hide ((unhide Hc).later hb)
  have hg1 : g < w1.heap.size := Nat.lt_of_lt_of_le hg hb.size
  clear hb hix
  obtain ⟨hall, hhit⟩ := hi
  rcases hhit with rfl | ⟨k0, rfl, hk0, hno⟩
  · have Hall := hide hall
    clear hall
    go_wp2
    go_ret
    have e3 : Lib.keptUpTo kp D D.size = D.toList := by
      rw [Lib.keptUpTo_all kp D _ (fun j hj => by rw [unhide HK]; exact unhide Hall j (by simp) hj), Lib.range_map_get]
    rw [e3]
    refine ⟨by simp, ?_, unhide Hb, hg1⟩
    simpa using unhide HH1
  · have HI := hide (Lib.KeptInv.start (kp := kp) (d := D) (k0 := k0) (fun j hj => by rw [unhide HK]; exact hall j (.inl (by omega)) (by omega)) (by rw [unhide HK]; exact hno))
    have hne : ((k0 : Int) == -1) = false := beq_eq_false_iff_ne.2 (by omega)
    clear hall hno
    go_wp2
    go_loopw [5, 6] (fun iv jv wr => ∃ (k m : Nat) (Dk : Array ByteArray), iv = .int .i64 k ∧ jv = .int .i64 m ∧ m ≤ D.size ∧ k < m ∧ Hid (Lib.KeptInv kp D m k Dk) ∧ Hid (Holds Value.string wr g 0 Dk) ∧ Hid (Sp wr c f t) ∧ Hid (Below B w wr) ∧ g < wr.heap.size) (fun _ jv _ => D.size - (intOf jv).toNat)
    case atStart => exact ⟨k0, k0 + 1, D, rfl, by go_num, by omega, by omega, HI, HH1, Hc1, Hb, hg1⟩
    case round =>
      obtain ⟨k, m, Dk, rfl, rfl, hm, hkm, HI, Hh, Hs, Hb, hgr⟩ := hrel
      by_cases hlt : m < D.size
      · have hsz := (unhide HI).size
        have hcell : wr.cell? ⟨g, m, none⟩ = some (.string D[m]!) := by
          have := ((unhide Hh) m (by omega)).1
          rw [Nat.zero_add, (unhide HI).high m (by omega)] at this
          exact this
        generalize hx : D[m]! = x at hcell
        have Hx := hide hx
        clear hx
        go_wp2_with fail
        refine (lacks_any c f t x wr (unhide Hs)).mono ?_
        rintro e w2 ⟨rfl, hb⟩
        have Hh2 := hide (holds_below (unhide Hh) hb hgr)
        have Hs2 := hide ((unhide Hs).later hb)
        have Hb2 := hide ((unhide Hb).trans (hb.mono (Nat.le_of_lt (Nat.lt_of_le_of_lt hB hgr))))
        have hg2 : g < w2.heap.size := Nat.lt_of_lt_of_le hgr hb.size
        clear hb hcell
        have hk2 := (unhide Hh2) k (by omega)
        rw [Nat.zero_add] at hk2
        obtain ⟨hkc, hkf⟩ := hk2
        generalize Dk[k]! = old at hkc
        cases hh : hasB f t x
        · go_wp2
          go_roundw
          case rel => exact ⟨k, m + 1, Dk, rfl, by go_num, by omega, by omega, (unhide HI).skip (by rw [unhide HK]; show hasB f t D[m]! = false; rw [unhide Hx]; exact hh), Hh2, Hs2, Hb2, hg2⟩
          case measure => simp [intOf]; omega
        · go_wp2
          go_roundw
          case rel =>
            refine ⟨k + 1, m + 1, Dk.setIfInBounds k x, by go_num, by go_num, by omega, by omega, ?_, holds_set (unhide Hh2) k (by omega) x, (unhide Hs2).other (by show g ≠ c; omega) _, (unhide Hb2).setCell hB _, by simpa [World.setCell] using hg2⟩
            have := (unhide HI).keep hlt (by rw [unhide HK]; show hasB f t D[m]! = true; rw [unhide Hx]; exact hh)
            rw [unhide Hx] at this
            exact this
          case measure => simp [intOf]; omega
      · obtain rfl : m = D.size := by omega
        have hsz := (unhide HI).size
        have hcl : ∀ ty, (Builtin.clear_ #[82] ty #[.slice (some ⟨g, k, none⟩) (D.size - k) (cap - k)]).run Tryz.prog wr = .ok (.tuple #[]) (wr.setCells g k (List.replicate (D.size - k) (.string ⟨#[]⟩))) :=
          fun ty => Lib.run_clear_slice wr _ _ ty _ Tryz.underlying82 Tryz.zeroValue9 rfl rfl g k _ _ (by omega) (fun t ht => by have := ((unhide Hh) (k + t) (by omega)).1; rw [Nat.zero_add] at this; rw [this]; rfl) (fun t ht => by have := ((unhide Hh) (k + t) (by omega)).2; rw [Nat.zero_add] at this; exact this)
        go_wp2
        go_ret
        have hI := unhide HI
        refine ⟨by rw [hI.len]; rfl, ?_, below_cells hB _ _ _ (unhide Hb), Nat.lt_of_lt_of_le hgr (below_cells (B := 0) (a := wr) (Nat.zero_le _) _ _ _ (Below.refl _ _)).size⟩
        intro j hj
        have hj' : j < k := by rw [← hI.len]; simpa using hj
        rw [Nat.zero_add]
        have h0 := (unhide Hh) j (by omega)
        rw [Nat.zero_add] at h0
        refine ⟨?_, by rw [World.frozen?_setCells]; exact h0.2⟩
        rw [World.cell?_setCells_out g _ _ _ _ (fun _ _ => .inl hj'), h0.1]
        have hl := hI.low j hj'
        rw [show (Lib.keptUpTo kp D D.size).toArray[j]! = Dk[j]! from ?_]
        rw [getElem!_def, List.getElem?_toArray, hl]

end

end Go.Proofs.YtcdehnghggleoaaGreat.S5
