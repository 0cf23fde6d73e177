/-
  Contracts of disk's New, Append, Cut, Set, Sync, File, Cell. No law is proved here.
-/
import Derived.Test.YtdhjogfalkmggaaFn
namespace Go.Proofs.Ytdhjogfalkmggaa
open Go.RowKit
set_option linter.unusedVariables false

theorem wpList_append_gr {ops : Array Oper} {rest : List Oper} {o : Oper} {a : Act} {Q : Exit → Act → World → Prop} (w : World) (hgd : o.guard = none) (s x : Operand)
    (ho : o.op = .call { callee := .builtin .append, args := #[s, x], argTypes := #[26, 26] })
    (v xv : Value) (l news : List UInt8) (hg : Tight v ∨ Own 0 w v l) (hv : Sl w v l) (hev : a.eval s = v) (hxv : a.eval x = xv) (hx : Sl w xv news)
    (hlen : l.length + news.length ≤ 70368744177664)
    (hK : ∀ v' w', Appd w v l news v' w' → wpList Try.prog ops Q rest (a.put o.dst v') w') : wpList Try.prog ops Q (o :: rest) a w := by
  refine wpList_plain hgd fun K hK' => ?_
  obtain ⟨v', w', hr, h2⟩ := run_append_gr w v xv l news hg hv hx hlen o.type
  unfold Oper.wp execOp
  simp only [ho, resolve, invoke, builtin, Sem.run_bind, Sem.run_pure, Result.andThen_ok, List.map_toArray, List.map_cons, List.map_nil, hev, hxv, hr]
  exact hK' _ _ (hK v' w' h2)

theorem Grow.gr {w : World} {v0 v1 v2 v3 : Value} {l0 l2 : List UInt8} (h : Grow w v0 v1 v2 v3 l0 l2) : Tight v0 ∨ Own 0 w v0 l0 := by
  rcases h with h | h
  · exact .inl h
  · exact .inr h.1

section
set_option maxRecDepth 100000
variable {S : Nat → Prop}

theorem new_any (w : World) : Calls Try.prog 9 #[] w fun e w' =>
    e = .returned (.pointer (some ⟨w.heap.size, 0, none⟩)) ∧ w' = w.alloc (.cells #[.slice none 0 0, .slice none 0 0, .slice none 0 0, .slice none 0 0] 48) := by
  go_enter Try.func9, Try.ntmps9
  go_wp2
  go_ret
  exact ⟨rfl, rfl⟩

theorem Dk.new (w : World) (hS : S w.heap.size) (t : TypeId) : Dk S (w.alloc (.cells #[.slice none 0 0, .slice none 0 0, .slice none 0 0, .slice none 0 0] t)) w.heap.size [] [] [] [] :=
  ⟨_, _, _, _, Q4.new w _ _ _ _ [] [] [] [] t (Sl.nil w) (Sl.nil w) (Sl.nil w) (Sl.nil w) (fun g h => by cases h) (fun g h => by cases h) (fun g h => by cases h) (fun g h => by cases h) (by simp) (by simp) (by simp) (by simp) hS, .inl ⟨none, 0, rfl⟩⟩

theorem append_ok (B : Nat) (nf nc sf sc lb : List UInt8) (v : Value) (w : World) (h : Dk S w B nf nc sf sc) (hS : ∀ k, w.heap.size ≤ k → S k) (hv : Sl w v lb) (hb : nf.length + lb.length ≤ 16777216) :
    Calls Try.prog 10 #[.pointer (some ⟨B, 0, none⟩), v] w fun e w' => e = .returned (.int .i64 0) ∧ Dk S w' B (nf ++ lb) nc sf sc ∧ Fr S w w' := by
  obtain ⟨v0, v1, v2, v3, hq, hg⟩ := h
  have c0 := hq.c0
  obtain ⟨ao, cp, rfl, _, hcp, _⟩ := id hq.s0
  obtain ⟨xo, xc, rfl, _, hxc, _⟩ := id hv
  unfold maxLen at hcp hxc
  have hI : (lb.length : Int) ≤ 16777216 - nf.length := by omega
  have Hq := hide hq
  have Hg := hide hg
  have Hv := hide hv
  clear hq hg hv
  go_enter Try.func10, Try.ntmps10
  go_wp2_with (at_builtin; refine wpList_append_gr _ rfl (.tmp 22) (.tmp 23) rfl _ _ nf lb (unhide Hg).gr (unhide Hq).s0 rfl rfl (unhide Hv) (by omega) ?_)
  intro v' w1 hr
  obtain ⟨k1, k2, ⟨ao', n', c', rfl⟩, k3, k4⟩ := append_dk (unhide Hq) (unhide Hg) hS (by rw [List.length_append]; omega) hr
  have K3 := hide k3
  have K4 := hide k4
  clear k3 k4 hr Hq Hg Hv hS
  go_wp2
  go_ret
  exact ⟨rfl, unhide K3, unhide K4⟩

theorem append_no (B : Nat) (nf nc sf sc lb : List UInt8) (v : Value) (w : World) (h : Dk S w B nf nc sf sc) (hv : Sl w v lb) (hb : 16777216 < nf.length + lb.length) :
    Calls Try.prog 10 #[.pointer (some ⟨B, 0, none⟩), v] w fun e w' => e = .returned (.int .i64 61) ∧ w' = w := by
  obtain ⟨v0, v1, v2, v3, hq, hg⟩ := h
  have c0 := hq.c0
  obtain ⟨ao, cp, rfl, _, hcp, _⟩ := id hq.s0
  obtain ⟨xo, xc, rfl, _, hxc, _⟩ := id hv
  unfold maxLen at hcp hxc
  have hb0 := hq.b0
  have hI : 16777216 - (nf.length : Int) < (lb.length : Int) := by omega
  clear hq hg hv
  go_enter Try.func10, Try.ntmps10
  go_wp2
  go_ret
  exact ⟨rfl, rfl⟩

theorem cut_dk {w : World} {B : Nat} {nf nc sf sc : List UInt8} {ao : Option Addr} {n c : Nat} {v1 v2 v3 : Value} (h : Q4 S w B (.slice ao n c) v1 v2 v3 nf nc sf sc) (k : Nat) (hk : k ≤ nf.length) :
    Dk S (w.setCell ⟨B, 0, none⟩ (.slice ao k k)) B (nf.take k) nc sf sc := by
  have hn : nf.length ≤ c := by obtain ⟨_, _, e, h1, _⟩ := h.s0; injection e with _ _ e3; omega
  exact ⟨_, _, _, _, h.set0 (h.s0.take k hk k (Nat.le_refl _) (by omega)) (fun g hg => h.i0 g (by cases ao <;> exact hg)) (by rw [List.length_take]; have := h.b0; omega), .inl ⟨_, _, rfl⟩⟩

theorem cut_ok (B : Nat) (nf nc sf sc : List UInt8) (k : Nat) (w : World) (h : Dk S w B nf nc sf sc) (hk : k ≤ nf.length) :
    Calls Try.prog 12 #[.pointer (some ⟨B, 0, none⟩), .int .i64 k] w fun e w' => e = .returned (.int .i64 0) ∧ Dk S w' B (nf.take k) nc sf sc ∧ Fr S w w' := by
  obtain ⟨v0, v1, v2, v3, hq, hg⟩ := h
  have c0 := hq.c0
  have f0 := hq.f0
  have hb0 := hq.b0
  obtain ⟨ao, cp, rfl, hcn, hcp, _⟩ := id hq.s0
  unfold maxLen at hcp
  have K3 := hide (cut_dk hq k hk)
  have K4 := hide ((Fr.refl S w).set (p := ⟨B, 0, none⟩) hq.inB (.slice ao k k))
  clear hq hg
  go_enter Try.func12, Try.ntmps12
  go_wp2
  go_ret
  exact ⟨rfl, unhide K3, unhide K4⟩

theorem cut_no (B : Nat) (nf nc sf sc : List UInt8) (n : Int) (w : World) (h : Dk S w B nf nc sf sc) (hk : n < 0 ∨ nf.length < n) :
    Calls Try.prog 12 #[.pointer (some ⟨B, 0, none⟩), .int .i64 n] w fun e w' => e = .returned (.int .i64 61) ∧ w' = w := by
  obtain ⟨v0, v1, v2, v3, hq, hg⟩ := h
  have c0 := hq.c0
  obtain ⟨ao, cp, rfl, hcn, hcp, _⟩ := id hq.s0
  clear hq hg
  by_cases h0 : n < 0
  · clear hk
    go_enter Try.func12, Try.ntmps12
    go_wp2
    go_ret
    exact ⟨rfl, rfl⟩
  · have h1 : (nf.length : Int) < n := by omega
    clear hk
    go_enter Try.func12, Try.ntmps12
    go_wp2
    go_ret
    exact ⟨rfl, rfl⟩

theorem own_in {w w1 : World} {B g n c : Nat} {l : List UInt8} (hB : B < w.heap.size) (hS : ∀ k, w.heap.size ≤ k → S k) (ho : Own w.heap.size w1 (.slice (some ⟨g, 0, none⟩) n c) l) : In S w1 B (.slice (some ⟨g, 0, none⟩) n c) := fun k hk => by
  have := World.ownsRow.lt ho k hk
  exact ⟨hS k this.1, this.2, by omega⟩

theorem set_dk {w w1 : World} {B : Nat} {nf nc sf sc lb : List UInt8} {g n c : Nat} {v0 v1 v2 v3 : Value} (h : Q4 S w B v0 v1 v2 v3 nf nc sf sc) (hg : Grow w v0 v1 v2 v3 nf sf) (hS : ∀ k, w.heap.size ≤ k → S k) (hb : lb.length ≤ 16777216)
    (hw : Below w.heap.size w w1) (ho : Own w.heap.size w1 (.slice (some ⟨g, 0, none⟩) n c) lb) : Dk S (w1.setCell ⟨B, 1, none⟩ (.slice (some ⟨g, 0, none⟩) n c)) B nf lb sf sc := by
  have hq1 := h.frame (w' := w1) hw.size (fun k hk _ => hw.block k hk)
  have hg1 := hg.frame (w' := w1) (fun g _ hlt => hw.block g hlt)
  have hi := own_in h.lt hS ho
  refine ⟨_, _, _, _, hq1.set1 ho.sl hi hb, ?_⟩
  rcases hg1 with ht | ⟨ho1, hf1, hf3, hf2⟩
  · exact .inl ht
  · refine .inr ⟨ho1.frame fun k hk _ => Below.heap_setCell _ _ _ _ (h.i0 k hk).2.2, fun k hk e => ?_, hf3, hf2⟩
    have := World.ownsRow.lt ho k e
    have := (h.i0 k hk).2.1
    omega

theorem set_ok (B : Nat) (nf nc sf sc lb : List UInt8) (v : Value) (w : World) (h : Dk S w B nf nc sf sc) (hS : ∀ k, w.heap.size ≤ k → S k) (hv : Sl w v lb) (hb : lb.length ≤ 16777216) :
    Calls Try.prog 14 #[.pointer (some ⟨B, 0, none⟩), v] w fun e w' => e = .returned (.int .i64 0) ∧ Dk S w' B nf lb sf sc ∧ Fr S w w' := by
  obtain ⟨v0, v1, v2, v3, hq, hg⟩ := h
  obtain ⟨xo, xc, rfl, _, hxc, _⟩ := id hv
  unfold maxLen at hxc
  have Hq := hide hq
  have Hg := hide hg
  have Hv := hide hv
  obtain ⟨yo, yc, rfl, _⟩ := id hq.s1
  clear hq hg hv
  go_enter Try.func14, Try.ntmps14
  go_wp2_with fail
  refine (copied_any _ lb _ (unhide Hv) (by omega)).mono ?_
  rintro e w1 ⟨rfl, ho, hw⟩
  have c1 := ((unhide Hq).frame (w' := w1) hw.size (fun k hk _ => hw.block k hk)).c1
  have f1 := ((unhide Hq).frame (w' := w1) hw.size (fun k hk _ => hw.block k hk)).f1
  have K3 := hide (set_dk (unhide Hq) (unhide Hg) hS hb hw ho)
  have K4 := hide ((Fr.of (S := S) hw).set (p := ⟨B, 1, none⟩) (unhide Hq).inB (.slice (some ⟨w.heap.size, 0, none⟩) lb.length lb.length))
  clear ho hw hS Hq Hg Hv
  go_wp2
  go_ret
  exact ⟨rfl, unhide K3, unhide K4⟩

theorem sync_dk {w : World} {B : Nat} {nf nc sf sc : List UInt8} {v0 v1 v2 v3 : Value} (h : Q4 S w B v0 v1 v2 v3 nf nc sf sc) (hg : Grow w v0 v1 v2 v3 nf sf) : Dk S ((w.setCell ⟨B, 2, none⟩ v0).setCell ⟨B, 3, none⟩ v1) B nf nc nf nc := by
  have hq := (h.set2 h.s0 h.i0 h.b0).set3 (v := v1) (l := nc) (sl_set h.s1 h.i1 _ _) (in_set h.i1 _ _) h.b1
  refine ⟨_, _, _, _, hq, ?_⟩
  rcases hg with ht | ⟨ho, hf1, hf3, hf2⟩
  · exact .inl ht
  · refine .inr ⟨(ho.frame fun k hk _ => Below.heap_setCell _ _ _ _ (h.i0 k hk).2.2).frame fun k hk _ => Below.heap_setCell _ _ _ _ (h.i0 k hk).2.2, hf1, hf1, ?_⟩
    rcases ho.2 with ⟨rfl, _⟩ | ⟨g, cap, cur, rfl, _⟩
    · exact .inl (fun k hk => by cases hk)
    · exact .inr ⟨⟨g, _, cap, _, cap, rfl, rfl⟩, List.prefix_refl _⟩

theorem sync_ok (B : Nat) (nf nc sf sc : List UInt8) (w : World) (h : Dk S w B nf nc sf sc) :
    Calls Try.prog 17 #[.pointer (some ⟨B, 0, none⟩)] w fun e w' => e = .returned (.int .i64 0) ∧ Dk S w' B nf nc nf nc ∧ Fr S w w' := by
  obtain ⟨v0, v1, v2, v3, hq, hg⟩ := h
  have K3 := hide (sync_dk hq hg)
  have K4 := hide (((Fr.refl S w).set (p := ⟨B, 2, none⟩) hq.inB v0).set (p := ⟨B, 3, none⟩) hq.inB v1)
  obtain ⟨ao, cp, rfl, _, hcp, _⟩ := id hq.s0
  obtain ⟨bo, dp, rfl, _, hdp, _⟩ := id hq.s1
  obtain ⟨xo, xp, rfl, _, hxp, _⟩ := id hq.s2
  obtain ⟨yo, yp, rfl, _, hyp, _⟩ := id hq.s3
  obtain ⟨c0, c1, c2, c3, f0, f1, f2, f3, _⟩ := hq
  clear hg
  go_enter Try.func17, Try.ntmps17
  go_wp2
  go_ret
  exact ⟨rfl, unhide K3, unhide K4⟩

theorem file_ok (B : Nat) (nf nc sf sc : List UInt8) (w : World) (h : Dk S w B nf nc sf sc) :
    Calls Try.prog 20 #[.pointer (some ⟨B, 0, none⟩)] w fun e w' => e = .returned (.slice (some ⟨w.heap.size, 0, none⟩) nf.length nf.length) ∧ Own w.heap.size w' (.slice (some ⟨w.heap.size, 0, none⟩) nf.length nf.length) nf ∧ Below w.heap.size w w' := by
  obtain ⟨v0, v1, v2, v3, hq, hg⟩ := h
  have hs := hide hq.s0
  have hb := hq.b0
  obtain ⟨ao, cp, rfl, _, hcp, _⟩ := id hq.s0
  have c0 := hq.c0
  clear hq hg
  go_enter Try.func20, Try.ntmps20
  go_wp2_with fail
  refine (copied_any _ nf _ (unhide hs) (by omega)).mono ?_
  rintro e w1 ⟨rfl, ho, hw⟩
  have Ho := hide ho
  have Hw := hide hw
  clear ho hw
  go_wp2
  go_ret
  exact ⟨rfl, unhide Ho, unhide Hw⟩

theorem cell_ok (B : Nat) (nf nc sf sc : List UInt8) (w : World) (h : Dk S w B nf nc sf sc) :
    Calls Try.prog 21 #[.pointer (some ⟨B, 0, none⟩)] w fun e w' => e = .returned (.slice (some ⟨w.heap.size, 0, none⟩) nc.length nc.length) ∧ Own w.heap.size w' (.slice (some ⟨w.heap.size, 0, none⟩) nc.length nc.length) nc ∧ Below w.heap.size w w' := by
  obtain ⟨v0, v1, v2, v3, hq, hg⟩ := h
  have hs := hide hq.s1
  have hb := hq.b1
  obtain ⟨ao, cp, rfl, _, hcp, _⟩ := id hq.s1
  have c1 := hq.c1
  clear hq hg
  go_enter Try.func21, Try.ntmps21
  go_wp2_with fail
  refine (copied_any _ nc _ (unhide hs) (by omega)).mono ?_
  rintro e w1 ⟨rfl, ho, hw⟩
  have Ho := hide ho
  have Hw := hide hw
  clear ho hw
  go_wp2
  go_ret
  exact ⟨rfl, unhide Ho, unhide Hw⟩
end

end Go.Proofs.Ytdhjogfalkmggaa
