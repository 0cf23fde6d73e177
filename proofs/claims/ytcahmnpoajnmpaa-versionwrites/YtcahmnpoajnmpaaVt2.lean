/-
  Versions in a row of the call's own; append; contracts of slices.Clone, version.copied, the document's Copy. No law is proved here.
-/
import Derived.Test.YtcahmnpoajnmpaaVt1
import Derived.Deep.AppendSrc
import Derived.Lib.SliceRun
namespace Go.Proofs.Ytcahmnpoajnmpaa
open Go.RowKit
set_option linter.unusedVariables false

def vc (v : Ver) : List Value := [.int .i64 v.at_.1, .int .i64 v.at_.2, .string v.val, .bool v.gone, .int .i64 v.by_]
def vsc (vs : List Ver) : List Value := vs.flatMap vc
theorem vsc_length (vs : List Ver) : (vsc vs).length = vs.length * 5 := by
  induction vs with
  | nil => rfl
  | cons r rs ih => unfold vsc at *; rw [List.flatMap_cons, List.length_append, ih, List.length_cons]; simp [vc]; omega
theorem vsc_append (us vs : List Ver) : vsc (us ++ vs) = vsc us ++ vsc vs := by simp [vsc]
theorem vsc_get : ∀ (rs : List Ver) (i : Nat) (h : i < rs.length) (j : Nat), j < 5 → (vsc rs)[i * 5 + j]? = (vc rs[i])[j]?
  | r :: rs, 0, _, j, hj => by
    unfold vsc
    rw [List.flatMap_cons, List.getElem?_append_left (by simp [vc]; omega)]
    simp
  | r :: rs, i + 1, h, j, hj => by
    have := vsc_get rs i (by simpa using h) j hj
    unfold vsc at *
    rw [List.flatMap_cons, List.getElem?_append_right (by simp [vc]; omega)]
    simp only [List.getElem_cons_succ]
    rw [← this]
    congr 1
    simp [vc]
    omega
theorem vsc_one (vs : List Ver) : ∀ u ∈ vsc vs, u.oneCell' = true := by
  intro u hu
  simp only [vsc, List.mem_flatMap] at hu
  obtain ⟨r, _, hu⟩ := hu
  simp [vc] at hu
  rcases hu with rfl | rfl | rfl | rfl | rfl <;> rfl
theorem VAt.cell {w : World} {b o : Nat} {v : Ver} (h : VAt w b o v) (j : Nat) (hj : j < 5) : w.cell? ⟨b, o + j, none⟩ = (vc v)[j]? := by
  match j, hj with
  | 0, _ => exact h.c0
  | 1, _ => exact h.c1
  | 2, _ => exact h.c2
  | 3, _ => exact h.c3
  | 4, _ => exact h.c4
/-- The cells that a slice leads to. -/
theorem Vs.cells {w : World} {a : Addr} {c : Nat} {vs : List Ver} (h : Vs w (some a) c vs) (j : Nat) (u : Value) (hu : (vsc vs)[j]? = some u) : w.cell? (a.add j) = some u := by
  have hj : j < vs.length * 5 := by
    have := (List.getElem?_eq_some_iff.1 hu).1
    rwa [vsc_length] at this
  obtain ⟨b, o, e, hv⟩ := h.each (j / 5) (by omega)
  injection e with e
  subst e
  have hjj : j = j / 5 * 5 + j % 5 := by omega
  rw [hjj, vsc_get vs (j / 5) (by omega) (j % 5) (by omega)] at hu
  rw [Addr.add_lit, hjj, ← hu, ← hv.cell (j % 5) (by omega)]
  congr 2
  omega

/-- Versions in a row of the call's own, at or behind block B. -/
def VOwn (B : Nat) (w : World) (ao : Option Addr) (c : Nat) (vs : List Ver) : Prop := w.ownsRow B 37 5 (.slice ao vs.length c) vs.length (vsc vs)
theorem VOwn.vs {B : Nat} {w : World} {ao : Option Addr} {c : Nat} {vs : List Ver} (h : VOwn B w ao c vs) : Vs w ao c vs := by
  have hcs := fun g hg => World.ownsRow.cells h (g := g) hg
  rcases h.2 with ⟨e, h0⟩ | ⟨g, cap, cur, e, hb, hg, h1, h2, h3, h4⟩
  · injection e with e1 e2 e3
    have : vs = [] := List.eq_nil_of_length_eq_zero h0
    subst e1 e3 this
    exact Vs.zero w
  · injection e with e1 e2 e3
    subst e1 e3
    have hcell : ∀ (i : Nat) (hi : i < vs.length) (j : Nat), j < 5 → w.cell? ⟨g, i * 5 + j, none⟩ = (vc vs[i])[j]? := fun i hi j hj => by
      have e := vsc_get vs i hi j hj
      have hl : j < (vc vs[i]).length := by simpa [vc] using hj
      rw [List.getElem?_eq_getElem hl] at e ⊢
      have := hcs g rfl _ _ e
      rwa [Addr.add_lit, Nat.zero_add] at this
    refine ⟨h1, h2, fun e => (by cases e), fun i hi => ⟨g, 0, rfl, ?_⟩⟩
    rw [Nat.zero_add]
    exact ⟨hcell i hi 0 (by omega), hcell i hi 1 (by omega), hcell i hi 2 (by omega), hcell i hi 3 (by omega), hcell i hi 4 (by omega)⟩
theorem VOwn.lt {B : Nat} {w : World} {ao : Option Addr} {c : Nat} {vs : List Ver} (h : VOwn B w ao c vs) : ∀ g, (Value.slice ao vs.length c).ownBlock = some g → B ≤ g ∧ g < w.heap.size := fun g hg => World.ownsRow.lt h g hg
theorem VOwn.later {B : Nat} {w w' : World} {ao : Option Addr} {c : Nat} {vs : List Ver} (h : VOwn B w ao c vs) (hb : Below w.heap.size w w') : VOwn B w' ao c vs := by
  refine ⟨h.1, ?_⟩
  rcases h.2 with hn | ⟨g, cap, cur, e, hbg, hg, rest⟩
  · exact .inl hn
  · refine .inr ⟨g, cap, cur, e, hbg, ?_, rest⟩
    have hlt : g < w.heap.size := by
      rcases Nat.lt_or_ge g w.heap.size with q | q
      · exact q
      · rw [Array.getElem?_eq_none q] at hg; exact absurd hg (by simp)
    rw [hb.block g hlt, hg]
/-- Cells beside it are written. -/
theorem VOwn.other {B : Nat} {w : World} {ao : Option Addr} {c : Nat} {vs : List Ver} (h : VOwn B w ao c vs) {q : Addr} (hq : q.block < B) (x : Value) : VOwn B (w.setCell q x) ao c vs := by
  refine ⟨h.1, ?_⟩
  rcases h.2 with hn | ⟨g, cap, cur, e, hbg, hg, rest⟩
  · exact .inl hn
  · refine .inr ⟨g, cap, cur, e, hbg, ?_, rest⟩
    rw [Below.heap_setCell _ _ _ _ (by omega), hg]
theorem VOwn.others {B : Nat} {ao : Option Addr} {c : Nat} {vs : List Ver} {C : Nat} (hC : C < B) : ∀ (r : List Value) {w : World} (k : Nat), VOwn B w ao c vs → VOwn B (setAll w C k r) ao c vs
  | [], w, k, h => h
  | x :: r, w, k, h => by rw [setAll]; exact VOwn.others hC r (k + 1) (h.other (q := ⟨C, k, none⟩) hC x)
theorem VOwn.mono {B B' : Nat} {w : World} {ao : Option Addr} {c : Nat} {vs : List Ver} (h : VOwn B w ao c vs) (hB : B' ≤ B) : VOwn B' w ao c vs := by
  refine ⟨h.1, ?_⟩
  rcases h.2 with hn | ⟨g, cap, cur, e, hbg, rest⟩
  · exact .inl hn
  · exact .inr ⟨g, cap, cur, e, Nat.le_trans hB hbg, rest⟩
theorem VOwn.zero (B : Nat) (w : World) : VOwn B w none 0 [] := ⟨rfl, .inl ⟨rfl, rfl⟩⟩
theorem VOwn.form {B : Nat} {w : World} {v : Value} {vs : List Ver} (h : w.ownsRow B 37 5 v vs.length (vsc vs)) : ∃ ao c, v = .slice ao vs.length c ∧ VOwn B w ao c vs := by
  rcases id h.2 with ⟨rfl, h0⟩ | ⟨g, cap, cur, rfl, hb, hg, h1, h2, h3, h4⟩
  · have : vs = [] := List.eq_nil_of_length_eq_zero h0
    subst this
    exact ⟨none, 0, rfl, VOwn.zero B w⟩
  · exact ⟨_, cap, rfl, h⟩

theorem info_parts {P : Program} {t : TypeId} {z : Value} {s b : Nat} (h : (P.info? t).map (fun i => (i.zero, i.size, i.bytes)) = some (some z, s, b)) : ∃ i, P.info? t = some i ∧ i.zero = some z ∧ i.size = s ∧ i.bytes = b := by
  obtain ⟨i, hi, e⟩ := Option.map_eq_some_iff.1 h
  simp only [Prod.mk.injEq] at e
  exact ⟨i, hi, e.1, e.2.1, e.2.2⟩
theorem Try.infoVer : (Try.prog.info? 37).map (fun i => (i.zero, i.size, i.bytes)) = some (some (.agg #[.int .i64 0, .int .i64 0, .string ⟨#[]⟩, .bool false, .int .i64 0]), 5, 48) := by kernel_rfl

/-- append of whatever versions onto a row of the call's own. -/
theorem run_append_vs (w : World) (B : Nat) (hB : B ≤ w.heap.size) (ao bo : Option Addr) (c d : Nat) (us vs : List Ver) (h : VOwn B w ao c us) (hx : Vs w bo d vs) (hlen : us.length + vs.length ≤ 2932031007401) (ty : TypeId) :
    ∃ eo f w', (Builtin.append_ #[22, 22] ty #[.slice ao us.length c, .slice bo vs.length d]).run Try.prog w = .ok (.slice eo (us ++ vs).length f) w' ∧ VOwn B w' eo f (us ++ vs) ∧ w.grownBy w' (Value.slice ao us.length c).ownBlock := by
  obtain ⟨i0, hi, hz0, hz1, hz2⟩ := info_parts Try.infoVer
  cases bo with
  | some a =>
    obtain ⟨v', w', hr, r2, r3, _⟩ := run_append_own (P := Try.prog) w B 22 ty 37 i0 _ 5 48 Try.underlying22 hi hz0 hz1 hz2 rfl (by decide) _ us.length (vsc us) h a vs.length d (vsc vs) (vsc_length vs) (fun j u => hx.cells j u) (vsc_one vs)
      (by unfold maxLen; omega) (by omega) hB
    rw [← vsc_append, ← List.length_append] at r2
    obtain ⟨eo, f, rfl, r4⟩ := VOwn.form r2
    exact ⟨eo, f, w', hr, r4, r3⟩
  | none =>
    have e : vs = [] := by
      cases vs with
      | nil => rfl
      | cons x r => obtain ⟨b, o, e, _⟩ := hx.each 0 (by simp); cases e
    subst e
    have hd := hx.nil rfl
    subst hd
    have hs := Src.ofNil (P := Try.prog) (size := i0.size) w Try.underlying22 0
    rw [List.append_nil]
    rcases id h.2 with ⟨e, h0⟩ | ⟨g, cap, cur, e, hbg, hg, hnc, hcm, hcs, htake⟩
    · injection e with e1 e2 e3
      have : us = [] := List.eq_nil_of_length_eq_zero h0
      subst e1 e3 this
      refine ⟨none, 0, w, ?_, h, World.grownBy.refl _ _⟩
      simp [Builtin.append_, run_underlying Try.underlying22, sizeOf, typeInfo, hi, hs.len, hs.cells, List.length_nil]
    · injection e with e1 e2 e3
      subst e1 e3
      refine ⟨_, _, w, ?_, h, World.grownBy.refl _ _⟩
      exact run_append_room_src (P := Try.prog) w 22 22 ty 37 i0 Try.underlying22 hi g 0 us.length _ _ 0 [] hs (by omega) (fun j hj => by simp at hj) (fun j hj => by simp at hj)

theorem wpList_append_vs {ops : Array Oper} {rest : List Oper} {o : Oper} {ac : Act} {Q : Exit → Act → World → Prop} (w : World) (hgd : o.guard = none) (s x : Operand)
    (ho : o.op = .call { callee := .builtin .append, args := #[s, x], argTypes := #[22, 22] })
    (B : Nat) (hB : B ≤ w.heap.size) (ao bo : Option Addr) (c d : Nat) (us vs : List Ver) (hv : ac.eval s = .slice ao us.length c) (h : VOwn B w ao c us) (hxv : ac.eval x = .slice bo vs.length d) (hx : Vs w bo d vs)
    (hlen : us.length + vs.length ≤ 2932031007401)
    (hK : ∀ eo f w', VOwn B w' eo f (us ++ vs) → w.grownBy w' (Value.slice ao us.length c).ownBlock → wpList Try.prog ops Q rest (ac.put o.dst (.slice eo (us ++ vs).length f)) w') : wpList Try.prog ops Q (o :: rest) ac w := by
  refine wpList_plain hgd fun K hK' => ?_
  obtain ⟨eo, f, w', hr, h2, h3⟩ := run_append_vs w B hB ao bo c d us vs h hx hlen o.type
  unfold Oper.wp execOp
  simp only [ho, resolve, invoke, builtin, Sem.run_bind, Sem.run_pure, Result.andThen_ok, List.map_toArray, List.map_cons, List.map_nil, hv, hxv, hr]
  exact hK' _ _ (hK eo f w' h2 h3)

theorem VOwn.made {B : Nat} {w : World} (hB : w.heap.size = B) : VOwn B (w.alloc (.cells #[] 37)) (some ⟨B, 0, none⟩) 0 [] := by
  subst hB
  exact World.ownsRow_made (size := 5) w #[] 0 (Nat.le_refl _) (Nat.zero_le _) rfl

/-- The same, the numbers given. -/
theorem wpList_append_n {ops : Array Oper} {rest : List Oper} {o : Oper} {ac : Act} {Q : Exit → Act → World → Prop} (w : World) (hgd : o.guard = none) (s x : Operand)
    (ho : o.op = .call { callee := .builtin .append, args := #[s, x], argTypes := #[22, 22] })
    (B : Nat) (ao bo : Option Addr) (c d k m n : Nat) (us vs : List Ver) (hv : ac.eval s = .slice ao k c) (hxv : ac.eval x = .slice bo m d) (hB : B ≤ w.heap.size) (hk : us.length = k) (hm : vs.length = m) (hn : k + m = n) (h : VOwn B w ao c us) (hx : Vs w bo d vs)
    (hlen : us.length + vs.length ≤ 2932031007401)
    (hK : ∀ eo f w', VOwn B w' eo f (us ++ vs) → w.grownBy w' (Value.slice ao k c).ownBlock → wpList Try.prog ops Q rest (ac.put o.dst (.slice eo n f)) w') : wpList Try.prog ops Q (o :: rest) ac w := by
  subst hk hm hn
  rw [← List.length_append] at hK
  exact wpList_append_vs w hgd s x ho B hB ao bo c d us vs hv h hxv hx hlen hK

theorem Vs.none {w : World} {c : Nat} {vs : List Ver} (h : Vs w none c vs) : vs = [] ∧ c = 0 := by
  refine ⟨?_, h.nil rfl⟩
  cases vs with
  | nil => rfl
  | cons x r => obtain ⟨b, o, e, _⟩ := h.each 0 (by simp); cases e

section
set_option maxRecDepth 100000
set_option maxHeartbeats 1000000

theorem clone_any (ao : Option Addr) (c : Nat) (vs : List Ver) (w : World) (h : Vs w ao c vs) (hlim : vs.length ≤ 2932031007400) :
    Calls Try.prog 54 #[.slice ao vs.length c] w fun e w' => ∃ bo d, e = .returned (.slice bo vs.length d) ∧ VOwn w.heap.size w' bo d vs ∧ Below w.heap.size w w' := by
  have qn : ∀ (w : World) (a : Option Addr) (n c n' c' : Nat), (binOp .eql 22 (.slice a n c) (.slice none n' c')).run Try.prog w = .ok (.bool a.isNone) w := fun w a n c n' c' => Lib.run_eql_slice_nil w _ _ a n c n' c' Try.underlying22
  cases ao with
  | none =>
    obtain ⟨rfl, rfl⟩ := h.none
    go_enter Try.func54, Try.ntmps54
    go_wp2
    go_ret
    exact ⟨none, 0, rfl, VOwn.zero _ _, Below.refl _ _⟩
  | some a =>
    have Hv := hide (fun o => h.alloc o)
    go_enter Try.func54, Try.ntmps54
    go_wp2_with (at_builtin; refine wpList_append_vs _ rfl (.tmp 5) (.tmp 6) rfl w.heap.size ?hB1 (some ⟨w.heap.size, 0, none⟩) (some a) 0 c [] vs rfl ?h01 rfl ?hx1 ?hl1 ?_)
    case hB1 => simp
    case h01 => exact World.ownsRow_made _ #[] 0 (Nat.le_refl _) (Nat.zero_le _) rfl
    case hx1 => exact unhide Hv _
    case hl1 => simp; omega
    intro eo f w1 ho1 hg1
    have hB1 : Below w.heap.size w w1 := ((Below.refl _ _).alloc (Nat.le_refl _) _).grown hg1 (by simp) (fun q hq => by cases hq; exact Nat.le_refl _)
    have HB1 := hide hB1
    have Ho1 := hide ho1
    clear hg1 hB1 ho1
    go_wp2
    go_ret
    exact ⟨eo, f, rfl, unhide Ho1, unhide HB1⟩
end

end Go.Proofs.Ytcahmnpoajnmpaa
