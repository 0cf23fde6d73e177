/-
  StoreKeys: the script. No statement is proved here.
-/
import Derived.Test.YtcdehnghggleoaaSp1
import Derived.Test.YtcdehnghggleoaaViewB9
import Derived.Deep.MidRow
import Derived.Deep.DeepCutAuto
import Derived.Deep.CutBlock
namespace Go.Proofs.Ytcdehnghggleoaa
open Go.RowKit
set_option linter.unusedVariables false

theorem AcAt9.range {w : World} {b o : Nat} {z : ActS} (h : AcAt9 w b o z) : w.rangeAt b o [.int .i64 z.kind, .int .i64 z.id, .int .i64 z.ep, .string z.key, .string z.f, .string z.t, .int .i64 z.itn.txn.id, .int .i64 z.itn.txn.ep, .string z.itn.txn.anchor, .int .i64 z.itn.txn.start.1, .int .i64 z.itn.txn.start.2, .int .i64 z.itn.seq, .int .i64 z.itn.at_.1, .int .i64 z.itn.at_.2, .string z.itn.val, .bool z.itn.gone, .bool z.commit, .int .i64 z.a0.1, .int .i64 z.a0.2, .int .i64 z.a1.1, .int .i64 z.a1.2] := fun j v hv => by
  have hj : j < 21 := by
    have := (List.getElem?_eq_some_iff.1 hv).1
    simpa using this
  rw [h.c j hj]
  exact hv

/-- The law's memory while the script is gone through. -/
structure KSt (w : World) (f t : ByteArray) (x y : Stp) (a b N : Nat) (l : List Ent) (W : World) : Prop where
  bel : Below w.heap.size w W
  X : Blk W w.heap.size [.string f, .string t]
  A : Blk W (w.heap.size + 1) [.int .i64 x.1, .int .i64 x.2, .int .i64 y.1, .int .i64 y.2]
  sto : Sto W a b l
  room : Room W b l N
  hb : w.heap.size ≤ b

theorem KSt.later {w : World} {f t : ByteArray} {x y : Stp} {a b N : Nat} {l : List Ent} {W W' : World} (h : KSt w f t x y a b N l W) (hb : Below W.heap.size W W') : KSt w f t x y a b N l W' :=
  ⟨h.bel.trans (hb.mono h.bel.size), h.X.later hb, h.A.later hb, h.sto.later hb, h.room.later hb, h.hb⟩
theorem KSt.more {w : World} {f t : ByteArray} {x y : Stp} {a b N M : Nat} {l : List Ent} {W : World} (h : KSt w f t x y a b N l W) (hM : N ≤ M) : KSt w f t x y a b M l W :=
  ⟨h.bel, h.X, h.A, h.sto, ⟨by obtain ⟨n, h1, h2⟩ := h.room.1; exact ⟨n, h1, by omega⟩, fun e he => by have := h.room.2 e he; omega⟩, h.hb⟩
theorem KSt.cells {w : World} {f t : ByteArray} {x y : Stp} {a b N : Nat} {l : List Ent} {W : World} (h : KSt w f t x y a b N l W) : ∀ r, some b = some r → ∃ o : Obj, W.heap[r]? = some o ∧ o.isCells = false := fun r e => by
  cases e
  obtain ⟨_, ho, _⟩ := h.sto.own
  exact own_cells ho
theorem KSt.grown {w : World} {f t : ByteArray} {x y : Stp} {a b N M : Nat} {l l' : List Ent} {W W' : World} (h : KSt w f t x y a b N l W) (hs : Sto W' a b l') (hr : Room W' b l' M) (hg : W.grownBy W' (some b)) : KSt w f t x y a b M l' W' :=
  ⟨h.bel.grown hg h.bel.size (fun k e => by cases e; exact h.hb), h.X.turn (by simp) hg h.cells, h.A.turn (by simp) hg h.cells, hs, hr, h.hb⟩

/-- While the keys are gone through: what they have, one by one. -/
structure KLp (w7 : World) (f t : ByteArray) (x y : Stp) (L : List Ent) (k : Nat) (v : Value) (rd fr : Bool) (W : World) : Prop where
  bel : Below w7.heap.size w7 W
  own : POwn w7.heap.size W v ((inE f t (L.take k)).flatMap (rdP x y (-1) 0))
  rd : rd = true ↔ ∀ e ∈ inE f t (L.take k), rdE x y (-1) 0 e = 0
  fr : fr = true ↔ ∀ e ∈ inE f t (L.take k), rfE (-1) x y e = 0
theorem key_size {k : ByteArray} (h : S5.keyB k = true) : k.size ≤ 8 := by
  unfold S5.keyB at h
  simp only [Bool.and_eq_true, decide_eq_true_eq] at h
  exact h.1.2
theorem in_succ {f t : ByteArray} {L : List Ent} {k : Nat} {e : Ent} (hk : k < L.length) (he : L[k] = e) : inE f t (L.take (k + 1)) = inE f t (L.take k) ++ (if S5.hasB f t e.key = true then [e] else []) := by
  rw [List.take_succ_eq_append_getElem hk, he]
  unfold inE
  rw [List.filter_append]
  congr 1
  simp [List.filter_cons]

theorem KLp.later {w7 : World} {f t : ByteArray} {x y : Stp} {L : List Ent} {k : Nat} {v : Value} {rd fr : Bool} {W W' : World} (h : KLp w7 f t x y L k v rd fr W) (hb : Below W.heap.size W W') : KLp w7 f t x y L k v rd fr W' :=
  ⟨h.bel.trans (hb.mono h.bel.size), h.own.later hb, h.rd, h.fr⟩
theorem KLp.none {w7 : World} {f t : ByteArray} {x y : Stp} {L : List Ent} {k : Nat} {v : Value} {rd fr : Bool} {W : World} {e : Ent} (h : KLp w7 f t x y L k v rd fr W) (hk : k < L.length) (he : L[k] = e) (hh : S5.hasB f t e.key = false) : KLp w7 f t x y L (k + 1) v rd fr W := by
  have q : inE f t (L.take (k + 1)) = inE f t (L.take k) := by rw [in_succ hk he, hh]; simp
  exact ⟨h.bel, by rw [q]; exact h.own, by rw [q]; exact h.rd, by rw [q]; exact h.fr⟩

theorem one_le (x y : Stp) (id ep : Int) (e : Ent) : (rdP x y id ep e).length ≤ 1 := by
  unfold rdP; split <;> simp
theorem pairs_le (x y : Stp) (id ep : Int) : ∀ l : List Ent, (l.flatMap (rdP x y id ep)).length ≤ l.length
  | [] => by simp
  | e :: r => by
    have h1 := one_le x y id ep e
    have h2 := pairs_le x y id ep r
    rw [List.flatMap_cons, List.length_append, List.length_cons]
    omega
theorem inE_le (f t : ByteArray) (l : List Ent) : (inE f t l).length ≤ l.length := List.length_filter_le _ _
theorem KLp.some {w7 : World} {f t : ByteArray} {x y : Stp} {L : List Ent} {k : Nat} {v v' : Value} {rd fr : Bool} {W W' : World} {e : Ent} (h : KLp w7 f t x y L k v rd fr W) (hk : k < L.length) (he : L[k] = e) (hh : S5.hasB f t e.key = true)
    (ho : POwn w7.heap.size W' v' ((inE f t (L.take k)).flatMap (rdP x y (-1) 0) ++ rdP x y (-1) 0 e)) (hg : W.grownBy W' v.ownBlock) :
    KLp w7 f t x y L (k + 1) v' (rd && (rdE x y (-1) 0 e == 0)) (fr && (rfE (-1) x y e == 0)) W' := by
  have q : inE f t (L.take (k + 1)) = inE f t (L.take k) ++ [e] := by rw [in_succ hk he, hh]; simp
  refine ⟨h.bel.grown hg h.bel.size (fun g e => (h.own.lt g e).1), ?_, ?_, ?_⟩
  · rw [q, List.flatMap_append]
    simpa using ho
  · rw [q, Bool.and_eq_true, h.rd, beq_iff_eq]
    simp only [List.mem_append, List.mem_singleton]
    exact ⟨fun ⟨a, b⟩ z hz => hz.elim (a z) (fun q => q ▸ b), fun a => ⟨fun z hz => a z (.inl hz), a e (.inr rfl)⟩⟩
  · rw [q, Bool.and_eq_true, h.fr, beq_iff_eq]
    simp only [List.mem_append, List.mem_singleton]
    exact ⟨fun ⟨a, b⟩ z hz => hz.elim (a z) (fun q => q ▸ b), fun a => ⟨fun z hz => a z (.inl hz), a e (.inr rfl)⟩⟩

/-- A key's own span is read. -/
theorem read1 {W : World} {a b : Nat} {L : List Ent} (h : Sto W a b L) {e : Ent} (he : e ∈ L) (x y : Stp) (id ep : Int) (W0 : World) (hb : Below W.heap.size W W0) :
    Calls Try.prog 16 #[.pointer (some ⟨a, 0, none⟩), .agg #[.string e.key, .string ⟨#[]⟩], (.agg #[.int .i64 x.1, .int .i64 x.2]), (.agg #[.int .i64 y.1, .int .i64 y.2]), .int .i64 id, .int .i64 ep] W0 fun e9 w9 =>
      ∃ (po : Option Addr) (c : Nat) (s : Stp) (m : Met), e9 = .returned (.tuple #[.slice po (rdP x y id ep e).length c, (.agg #[.int .i64 s.1, .int .i64 s.2]), (.agg #[.int .i64 m.id, .int .i64 m.ep, .string m.anchor, .int .i64 m.start.1, .int .i64 m.start.2]), .int .i64 (rdE x y id ep e)]) ∧ PsAt w9 po (rdP x y id ep e) ∧ Below W0.heap.size W0 w9 ∧ Below W.heap.size W w9 := by
  obtain ⟨g1, g2⟩ := one_read h.rise h.keys he x y id ep
  refine (read9_any a b L e.key ⟨#[]⟩ x y id ep W0 (h.later hb)).mono ?_
  rintro e9 w9 ⟨po, c, rfl, hp, hb9⟩
  have g1' : (readS e.key ⟨#[]⟩ x y id ep L).1 = rdP x y id ep e := g1
  have g2' : (readS e.key ⟨#[]⟩ x y id ep L).2.2.2 = rdE x y id ep e := g2
  rw [g1'] at hp ⊢
  rw [g2']
  exact ⟨po, c, _, _, rfl, hp, hb9, hb.trans (hb9.mono hb.size)⟩
theorem refresh1 {W : World} {a b : Nat} {L : List Ent} (h : Sto W a b L) {e : Ent} (he : e ∈ L) (id : Int) (x y : Stp) (W0 : World) (hb : Below W.heap.size W W0) :
    Calls Try.prog 17 #[.pointer (some ⟨a, 0, none⟩), .agg #[.string e.key, .string ⟨#[]⟩], .int .i64 id, (.agg #[.int .i64 x.1, .int .i64 x.2]), (.agg #[.int .i64 y.1, .int .i64 y.2])] W0 fun e9 w9 =>
      ∃ (m : Met), e9 = .returned (.tuple #[(.agg #[.int .i64 m.id, .int .i64 m.ep, .string m.anchor, .int .i64 m.start.1, .int .i64 m.start.2]), .int .i64 (rfE id x y e)]) ∧ Below W0.heap.size W0 w9 ∧ Below W.heap.size W w9 := by
  have g := one_refresh h.rise h.keys he id x y
  refine (refresh9_any a b L e.key ⟨#[]⟩ id x y W0 (h.later hb)).mono ?_
  rintro e9 w9 ⟨rfl, hb9⟩
  have g' : (refS e.key ⟨#[]⟩ id x y L).2 = rfE id x y e := g
  rw [g']
  exact ⟨_, rfl, hb9, hb.trans (hb9.mono hb.size)⟩

/-- What was laid ahead of a call stands behind it. -/
theorem laid1 {W w9 : World} {cs : List Value} {T : TypeId} {n : Nat} (h : Below (W.alloc (.cells cs.toArray T)).drew.heap.size (W.alloc (.cells cs.toArray T)).drew w9) (hn : W.heap.size = n) :
    (∀ j, w9.cell? ⟨n, j, none⟩ = cs[j]?) ∧ (∀ j, w9.frozen? ⟨n, j, none⟩ = false) ∧ (∀ o j, (w9.alloc o).cell? ⟨n, j, none⟩ = cs[j]?) ∧ (∀ o j, (w9.alloc o).frozen? ⟨n, j, none⟩ = false) ∧ n < w9.heap.size ∧ ¬ n = w9.heap.size := by
  subst hn
  have B := ((Blk.new W cs.toArray T).later (Below.refl _ _).drew).later h
  exact ⟨fun j => by simpa using B.c j, B.f, fun o j => by simpa using (B.alloc o).c j, fun o j => (B.alloc o).f j, B.lt, Nat.ne_of_lt B.lt⟩
theorem laid2 {W w9 : World} {cs ds : List Value} {T U : TypeId} {n : Nat} (h : Below ((W.alloc (.cells cs.toArray T)).alloc (.cells ds.toArray U)).drew.heap.size ((W.alloc (.cells cs.toArray T)).alloc (.cells ds.toArray U)).drew w9) (hn : W.heap.size = n) :
    ((∀ j, w9.cell? ⟨n, j, none⟩ = cs[j]?) ∧ (∀ j, w9.frozen? ⟨n, j, none⟩ = false) ∧ n < w9.heap.size) ∧ ((∀ j, w9.cell? ⟨n + 1, j, none⟩ = ds[j]?) ∧ (∀ j, w9.frozen? ⟨n + 1, j, none⟩ = false) ∧ n + 1 < w9.heap.size) := by
  subst hn
  have B := (((Blk.new W cs.toArray T).alloc (.cells ds.toArray U)).later (Below.refl _ _).drew).later h
  have D := ((Blk.new (W.alloc (.cells cs.toArray T)) ds.toArray U).later (Below.refl _ _).drew).later h
  have e : (W.alloc (.cells cs.toArray T)).heap.size = W.heap.size + 1 := by simp
  rw [e] at D
  exact ⟨⟨fun j => by simpa using B.c j, B.f, B.lt⟩, fun j => by simpa using D.c j, D.f, D.lt⟩

theorem psat_stp {W : World} {po : Option Addr} {ps : List Pr} {n : Nat} (h : PsAt W po ps) (hn : Blk W n [.int .i64 0, .int .i64 0]) (cs : List Value) : PsAt (setAll W n 0 cs) po ps := fun h0 => by
  obtain ⟨b, o, e, hc⟩ := h h0
  have hb : b ≠ n := by
    rintro rfl
    have := (hc 0 h0).1
    rw [hn.c] at this
    match o, this with
    | 0, q => simp at q
    | 1, q => simp at q
    | o + 2, q => simp at q
  exact ⟨b, o, e, fun j hj => ⟨(World.cell?_of_block (a := ⟨b, o + j * 2, none⟩) (heap_all hb cs 0)).trans (hc j hj).1, (World.cell?_of_block (a := ⟨b, o + j * 2 + 1, none⟩) (heap_all hb cs 0)).trans (hc j hj).2⟩⟩
theorem psat_met {W : World} {po : Option Addr} {ps : List Pr} {n : Nat} (h : PsAt W po ps) (hn : Blk W n [.int .i64 0, .int .i64 0, .string ⟨#[]⟩, .int .i64 0, .int .i64 0]) (cs : List Value) : PsAt (setAll W n 0 cs) po ps := fun h0 => by
  obtain ⟨b, o, e, hc⟩ := h h0
  have hb : b ≠ n := by
    rintro rfl
    obtain ⟨q1, q2⟩ := hc 0 h0
    rw [hn.c] at q1 q2
    match o, q1, q2 with
    | 0, q, _ => simp at q
    | 1, q, _ => simp at q
    | 2, _, q => simp at q
    | 3, q, _ => simp at q
    | 4, q, _ => simp at q
    | o + 5, q, _ => simp at q
  exact ⟨b, o, e, fun j hj => ⟨(World.cell?_of_block (a := ⟨b, o + j * 2, none⟩) (heap_all hb cs 0)).trans (hc j hj).1, (World.cell?_of_block (a := ⟨b, o + j * 2 + 1, none⟩) (heap_all hb cs 0)).trans (hc j hj).2⟩⟩

theorem setCells_new (w : World) (T : TypeId) : ∀ (vs rest pre : List Value), rest.length = vs.length → (w.alloc (.cells (pre ++ rest).toArray T)).setCells w.heap.size pre.length vs = w.alloc (.cells (pre ++ vs).toArray T)
  | [], [], pre, _ => rfl
  | v :: vs, r :: rest, pre, h => by
    have e := setCells_new w T vs rest (pre ++ [v]) (by simpa using h)
    rw [World.setCells, World.setCell_alloc_at _ _ _ _ _ rfl]
    have e2 : (pre ++ r :: rest).toArray.setIfInBounds pre.length v = (pre ++ [v] ++ rest).toArray := by
      simp
    rw [e2]
    rw [List.length_append, List.length_singleton] at e
    rw [e, List.append_assoc]
    rfl
theorem there_new (w : World) (cs : List Value) (T : TypeId) (n : Nat) (h : cs.length = n) : (w.alloc (.cells cs.toArray T)).there w.heap.size 0 n := fun j hj => by
  have B := Blk.new w cs.toArray T
  refine ⟨?_, B.f _⟩
  rw [Nat.zero_add, B.c j]
  simp [h, hj]
theorem wpList_store_new {ops : Array Oper} {rest : List Oper} {op : Oper} {a : Act} {Q : Exit → Act → World → Prop} (hgd : op.guard = none) (hdst : op.dst = none) (ty : TypeId) (x y : Operand) (ho : op.op = .store ty x y)
    (w : World) (zs : List Value) (T : TypeId) (cs : List Value) (hx : a.eval x = .pointer (some ⟨w.heap.size, 0, none⟩)) (hy : a.eval y = .agg cs.toArray) (hl : zs.length = cs.length)
    (hi : (Try.prog.info? ty).map (·.size) = some cs.length) (h1 : cs.all (·.oneCell') = true)
    (h : wpList Try.prog ops Q rest a (w.alloc (.cells cs.toArray T))) : wpList Try.prog ops Q (op :: rest) a (w.alloc (.cells zs.toArray T)) := by
  refine wpList_store_mid hgd ty x y ho w.heap.size 0 cs.toArray hx hy (there_new w zs T _ (by simpa using hl)) (by simpa using hi) (by simpa using h1) ?_
  rw [show (w.alloc (.cells zs.toArray T)).setCells w.heap.size 0 cs.toArray.toList = w.alloc (.cells cs.toArray T) from setCells_new w T cs zs [] hl, hdst]
  exact h
theorem fits_key (z : ActS) (h : fits9B z = true) : z.key.size ≤ 1000 := by
  unfold fits9B at h
  simp only [Bool.and_eq_true, decide_eq_true_eq] at h
  omega

theorem fits_span (z : ActS) (h : fits9B z = true) : z.f.size ≤ 60 ∧ z.t.size ≤ 60 := by
  unfold fits9B at h
  simp only [Bool.and_eq_true, decide_eq_true_eq] at h
  omega

section
set_option maxRecDepth 100000
set_option maxHeartbeats 20000000

theorem walkStoreKeys {w : World} (c0 : Value) (xs : List ActS) (hc : AcsV9 w c0 xs) (c1 : Value) (z1 : ByteArray × ByteArray) (h1 : SpV9 c1 z1) (c2 : Value) (z2 : Stp × Stp) (h2 : S2V9 c2 z2) :
    Calls Try.prog 5 #[c0, c1, c2] w fun e w' => e = .returned (.bool true) ∧ Below w.heap.size w w' := by
  obtain ⟨rfl⟩ := h1
  obtain ⟨rfl⟩ := h2
  obtain ⟨f, t⟩ := z1
  obtain ⟨x, y⟩ := z2
  obtain ⟨po, pc, rfl, hx⟩ := hc.ex
  clear hc
  have hA := fun w => alive9_any w
  have hlx := hx.len
  simp only [maxLen] at hlx
  obtain ⟨q, hq⟩ : ∃ q, xs.length = q := ⟨_, rfl⟩
  have Hn := hide hq
  have Hx := hide hx
  simp only [hq] at hlx ⊢
  clear hq hx
  have X := (Blk.new w #[.string f, .string t] 26).alloc (.cells #[.int .i64 x.1, .int .i64 x.2, .int .i64 y.1, .int .i64 y.2] 33)
  have A := Blk.new (w.alloc (.cells #[.string f, .string t] 26)) #[.int .i64 x.1, .int .i64 x.2, .int .i64 y.1, .int .i64 y.2] 33
  rw [show (w.alloc (.cells #[.string f, .string t] 26)).heap.size = w.heap.size + 1 by simp] at A
  have hB : Below w.heap.size w ((w.alloc (.cells #[.string f, .string t] 26)).alloc (.cells #[.int .i64 x.1, .int .i64 x.2, .int .i64 y.1, .int .i64 y.2] 33)) := ((Below.refl w.heap.size w).alloc (Nat.le_refl _) _).alloc (by simp) _
  go_enter Try.func5, Try.ntmps5
  go_wp2_with fail
  generalize (w.alloc _).alloc _ = W at *
  refine (new_any _).mono ?_
  rintro e w1 ⟨a, b, rfl, hs1, ha, hb, hb1⟩
  have hr1 : Room w1 b [] 0 := by
    obtain ⟨n, hn, _⟩ := hs1.own
    exact ⟨⟨0, own_tight hn, Nat.le_refl _⟩, fun e he => (by cases he)⟩
  have K : KSt w f t x y a b 0 [] w1 := ⟨hB.trans (hb1.mono hB.size), X.later hb1, A.later hb1, hs1, hr1, Nat.le_trans hB.size hb⟩
  clear hB X A hs1 hr1 ha hb hb1
  have X := K.X
  have hB := K.bel
  have HK := hide K
  clear K
  have X_0 := X.c 0; have X_1 := X.c 1; simp only [List.getElem?_cons_zero, List.getElem?_cons_succ] at X_0 X_1
  have Xf := X.f
  clear X
  by_cases hf : f.size ≤ 60
  case neg =>
    go_wp2
    go_ret
    exact ⟨rfl, hB⟩
  by_cases ht : t.size ≤ 60
  case neg =>
    go_wp2
    go_ret
    exact ⟨rfl, hB⟩
  clear hB
  go_upto_block 0 with fail
  clear X_0 X_1 Xf
  go_cut [7] (fun v wc => v = .pointer (some ⟨a, 0, none⟩) ∧ Hid (∃ l, KSt w f t x y a b 80 l wc))
  case first =>
    go_wp2_with fail
    go_loopw [8] (fun u wr => ∃ k : Nat, u = .int .i64 k ∧ k ≤ q ∧ k ≤ 80 ∧ Hid (∃ l, KSt w f t x y a b k l wr)) (fun u _ => 80 - (intOf u).toNat)
    case atStart => exact ⟨0, rfl, by omega, by omega, [], unhide HK⟩
    case round =>
      clear HK
      obtain ⟨k, rfl, hk, hk80, Hs⟩ := hrel
      have HM : Hid (∃ l, KSt w f t x y a b 80 l wr) := hide (by obtain ⟨l, K⟩ := unhide Hs; exact ⟨l, K.more hk80⟩)
      by_cases hlt : k < q
      case neg =>
        clear Hs
        go_wp2_with fail
        go_meet
        exact ⟨rfl, unhide HM⟩
      by_cases h80 : k < 80
      case neg =>
        clear Hs
        go_wp2_with fail
        go_meet
        exact ⟨rfl, unhide HM⟩
      clear HM
      obtain ⟨l, K⟩ := unhide Hs
      clear Hs
      have h1 : k < xs.length := by have := unhide Hn; omega
      obtain ⟨xb, xo, rfl, yy⟩ := (unhide Hx).each k h1
      obtain ⟨z, hz⟩ : ∃ z, xs[k] = z := ⟨_, rfl⟩
      rw [hz] at yy
      replace yy := yy.block (K.bel.block _ yy.lt)
      have hrg := yy.range
      have HK := hide K
      clear hz h1 yy K
      go_upto_region 8 with (first | refine wpList_load_mid rfl 35 _ rfl xb (xo + k * 21) rfl [.int .i64 z.kind, .int .i64 z.id, .int .i64 z.ep, .string z.key, .string z.f, .string z.t, .int .i64 z.itn.txn.id, .int .i64 z.itn.txn.ep, .string z.itn.txn.anchor, .int .i64 z.itn.txn.start.1, .int .i64 z.itn.txn.start.2, .int .i64 z.itn.seq, .int .i64 z.itn.at_.1, .int .i64 z.itn.at_.2, .string z.itn.val, .bool z.itn.gone, .bool z.commit, .int .i64 z.a0.1, .int .i64 z.a0.2, .int .i64 z.a1.1, .int .i64 z.a1.2] _ hrg Try.underlying35 rfl (by kernel_rfl) ?_ | refine wpList_store_new rfl rfl 35 _ _ rfl wr _ 35 [.int .i64 z.kind, .int .i64 z.id, .int .i64 z.ep, .string z.key, .string z.f, .string z.t, .int .i64 z.itn.txn.id, .int .i64 z.itn.txn.ep, .string z.itn.txn.anchor, .int .i64 z.itn.txn.start.1, .int .i64 z.itn.txn.start.2, .int .i64 z.itn.seq, .int .i64 z.itn.at_.1, .int .i64 z.itn.at_.2, .string z.itn.val, .bool z.itn.gone, .bool z.commit, .int .i64 z.a0.1, .int .i64 z.a0.2, .int .i64 z.a1.1, .int .i64 z.a1.2] rfl rfl rfl (by kernel_rfl) rfl ?_)
      have Z := Blk.new wr #[.int .i64 z.kind, .int .i64 z.id, .int .i64 z.ep, .string z.key, .string z.f, .string z.t, .int .i64 z.itn.txn.id, .int .i64 z.itn.txn.ep, .string z.itn.txn.anchor, .int .i64 z.itn.txn.start.1, .int .i64 z.itn.txn.start.2, .int .i64 z.itn.seq, .int .i64 z.itn.at_.1, .int .i64 z.itn.at_.2, .string z.itn.val, .bool z.itn.gone, .bool z.commit, .int .i64 z.a0.1, .int .i64 z.a0.2, .int .i64 z.a1.1, .int .i64 z.a1.2] 35
      have hB : Below wr.heap.size wr (wr.alloc (.cells #[.int .i64 z.kind, .int .i64 z.id, .int .i64 z.ep, .string z.key, .string z.f, .string z.t, .int .i64 z.itn.txn.id, .int .i64 z.itn.txn.ep, .string z.itn.txn.anchor, .int .i64 z.itn.txn.start.1, .int .i64 z.itn.txn.start.2, .int .i64 z.itn.seq, .int .i64 z.itn.at_.1, .int .i64 z.itn.at_.2, .string z.itn.val, .bool z.itn.gone, .bool z.commit, .int .i64 z.a0.1, .int .i64 z.a0.2, .int .i64 z.a1.1, .int .i64 z.a1.2] 35)) := (Below.refl wr.heap.size wr).alloc (Nat.le_refl _) _
      have hgW : (wr.alloc (.cells #[.int .i64 z.kind, .int .i64 z.id, .int .i64 z.ep, .string z.key, .string z.f, .string z.t, .int .i64 z.itn.txn.id, .int .i64 z.itn.txn.ep, .string z.itn.txn.anchor, .int .i64 z.itn.txn.start.1, .int .i64 z.itn.txn.start.2, .int .i64 z.itn.seq, .int .i64 z.itn.at_.1, .int .i64 z.itn.at_.2, .string z.itn.val, .bool z.itn.gone, .bool z.commit, .int .i64 z.a0.1, .int .i64 z.a0.2, .int .i64 z.a1.1, .int .i64 z.a1.2] 35)).heap[wr.heap.size]? = some (.cells #[.int .i64 z.kind, .int .i64 z.id, .int .i64 z.ep, .string z.key, .string z.f, .string z.t, .int .i64 z.itn.txn.id, .int .i64 z.itn.txn.ep, .string z.itn.txn.anchor, .int .i64 z.itn.txn.start.1, .int .i64 z.itn.txn.start.2, .int .i64 z.itn.seq, .int .i64 z.itn.at_.1, .int .i64 z.itn.at_.2, .string z.itn.val, .bool z.itn.gone, .bool z.commit, .int .i64 z.a0.1, .int .i64 z.a0.2, .int .i64 z.a1.1, .int .i64 z.a1.2] 35 (0, 0)) := World.alloc_heap_new wr _
      replace HK := hide ((unhide HK).later hB)
      clear hB hrg
      generalize hW1 : wr.alloc (.cells #[.int .i64 z.kind, .int .i64 z.id, .int .i64 z.ep, .string z.key, .string z.f, .string z.t, .int .i64 z.itn.txn.id, .int .i64 z.itn.txn.ep, .string z.itn.txn.anchor, .int .i64 z.itn.txn.start.1, .int .i64 z.itn.txn.start.2, .int .i64 z.itn.seq, .int .i64 z.itn.at_.1, .int .i64 z.itn.at_.2, .string z.itn.val, .bool z.itn.gone, .bool z.commit, .int .i64 z.a0.1, .int .i64 z.a0.2, .int .i64 z.a1.1, .int .i64 z.a1.2] 35) = W1 at *
      clear hW1
      have hF := fun w => fits9_any z w
      have Hkey : Hid (fits9B z = true → z.key.size ≤ 1000) := hide (fits_key z)
      generalize fits9B z = ok at *
      go_wp2_with (refine wpList_load_row rfl 35 _ rfl wr.heap.size rfl 35 _ (0, 0) _ hgW Try.underlying35 rfl (by kernel_rfl) ?_)
      clear hgW
      refine (hF _).mono ?_
      rintro e w1 ⟨rfl, hb1⟩
      clear hF
      replace Z := Z.later hb1
      replace HK := hide ((unhide HK).later hb1)
      clear hb1
      cases ok
      case false =>
        have HE : Hid (∃ l, KSt w f t x y a b (k + 1) l w1) := hide ⟨l, (unhide HK).more (by omega)⟩
        clear HK Hkey Z
        go_wp2
        go_roundw
        case rel => exact ⟨k + 1, by go_num, by omega, by omega, unhide HE⟩
        case measure => simp [intOf]; omega
      case true =>
        have hkey := unhide Hkey rfl
        clear Hkey
        by_cases k1 : z.kind = 1
        case pos =>
          have k1b : (z.kind == 1) = true := by rw [k1]; rfl
          have k2b : (z.kind == 2) = false := by rw [k1]; rfl
          have hP := put_any a b k l z.key z.itn w1 (unhide HK).sto (unhide HK).room (by omega) hkey
          have Z_0 := Z.c 0; have Z_1 := Z.c 1; have Z_2 := Z.c 2; have Z_3 := Z.c 3; have Z_4 := Z.c 4; have Z_5 := Z.c 5; have Z_6 := Z.c 6; have Z_7 := Z.c 7; have Z_8 := Z.c 8; have Z_9 := Z.c 9; have Z_10 := Z.c 10; have Z_11 := Z.c 11; have Z_12 := Z.c 12; have Z_13 := Z.c 13; have Z_14 := Z.c 14; have Z_15 := Z.c 15; have Z_16 := Z.c 16; have Z_17 := Z.c 17; have Z_18 := Z.c 18; have Z_19 := Z.c 19; have Z_20 := Z.c 20; simp only [List.getElem?_cons_zero, List.getElem?_cons_succ] at Z_0 Z_1 Z_2 Z_3 Z_4 Z_5 Z_6 Z_7 Z_8 Z_9 Z_10 Z_11 Z_12 Z_13 Z_14 Z_15 Z_16 Z_17 Z_18 Z_19 Z_20
          clear k1
          go_wp2_with fail
          refine hP.mono ?_
          rintro e w3 ⟨l', rfl, hs3, hr3, _, hg3⟩
          clear hP
          clear Z_0 Z_1 Z_2 Z_3 Z_4 Z_5 Z_6 Z_7 Z_8 Z_9 Z_10 Z_11 Z_12 Z_13 Z_14 Z_15 Z_16 Z_17 Z_18 Z_19 Z_20
          replace Z := Z.turn (by simp) hg3 (unhide HK).cells
          have HE : Hid (∃ l, KSt w f t x y a b (k + 1) l w3) := hide ⟨l', (unhide HK).grown hs3 hr3 hg3⟩
          clear HK hs3 hr3 hg3
          have Z_0 := Z.c 0; have Z_1 := Z.c 1; have Z_2 := Z.c 2; have Z_3 := Z.c 3; have Z_4 := Z.c 4; have Z_5 := Z.c 5; have Z_6 := Z.c 6; have Z_7 := Z.c 7; have Z_8 := Z.c 8; have Z_9 := Z.c 9; have Z_10 := Z.c 10; have Z_11 := Z.c 11; have Z_12 := Z.c 12; have Z_13 := Z.c 13; have Z_14 := Z.c 14; have Z_15 := Z.c 15; have Z_16 := Z.c 16; have Z_17 := Z.c 17; have Z_18 := Z.c 18; have Z_19 := Z.c 19; have Z_20 := Z.c 20; simp only [List.getElem?_cons_zero, List.getElem?_cons_succ] at Z_0 Z_1 Z_2 Z_3 Z_4 Z_5 Z_6 Z_7 Z_8 Z_9 Z_10 Z_11 Z_12 Z_13 Z_14 Z_15 Z_16 Z_17 Z_18 Z_19 Z_20
          go_wp2
          go_roundw
          case rel => exact ⟨k + 1, by go_num, by omega, by omega, unhide HE⟩
          case measure => simp [intOf]; omega
        have k1b : (z.kind == 1) = false := by simpa using k1
        by_cases k2 : z.kind = 2
        case pos =>
          have k2b : (z.kind == 2) = true := by rw [k2]; rfl
          have hP := resolve9_any a b k l z.f z.t z.id z.ep z.commit z.a0 w1 (unhide HK).sto (unhide HK).room (by omega)
          have Z_0 := Z.c 0; have Z_1 := Z.c 1; have Z_2 := Z.c 2; have Z_3 := Z.c 3; have Z_4 := Z.c 4; have Z_5 := Z.c 5; have Z_6 := Z.c 6; have Z_7 := Z.c 7; have Z_8 := Z.c 8; have Z_9 := Z.c 9; have Z_10 := Z.c 10; have Z_11 := Z.c 11; have Z_12 := Z.c 12; have Z_13 := Z.c 13; have Z_14 := Z.c 14; have Z_15 := Z.c 15; have Z_16 := Z.c 16; have Z_17 := Z.c 17; have Z_18 := Z.c 18; have Z_19 := Z.c 19; have Z_20 := Z.c 20; simp only [List.getElem?_cons_zero, List.getElem?_cons_succ] at Z_0 Z_1 Z_2 Z_3 Z_4 Z_5 Z_6 Z_7 Z_8 Z_9 Z_10 Z_11 Z_12 Z_13 Z_14 Z_15 Z_16 Z_17 Z_18 Z_19 Z_20
          clear k1 k2
          go_wp2_with fail
          refine hP.mono ?_
          rintro e w3 ⟨l', rfl, hs3, hr3, _, hg3⟩
          clear hP
          clear Z_0 Z_1 Z_2 Z_3 Z_4 Z_5 Z_6 Z_7 Z_8 Z_9 Z_10 Z_11 Z_12 Z_13 Z_14 Z_15 Z_16 Z_17 Z_18 Z_19 Z_20
          have HE : Hid (∃ l, KSt w f t x y a b (k + 1) l w3) := hide ⟨l', (unhide HK).grown hs3 hr3 hg3⟩
          clear HK hs3 hr3 hg3 Z
          go_wp2
          go_roundw
          case rel => exact ⟨k + 1, by go_num, by omega, by omega, unhide HE⟩
          case measure => simp [intOf]; omega
        have k2b : (z.kind == 2) = false := by simpa using k2
        have HE : Hid (∃ l, KSt w f t x y a b (k + 1) l w1) := hide ⟨l, (unhide HK).more (by omega)⟩
        have Z_0 := Z.c 0; have Z_1 := Z.c 1; have Z_2 := Z.c 2; have Z_3 := Z.c 3; have Z_4 := Z.c 4; have Z_5 := Z.c 5; have Z_6 := Z.c 6; have Z_7 := Z.c 7; have Z_8 := Z.c 8; have Z_9 := Z.c 9; have Z_10 := Z.c 10; have Z_11 := Z.c 11; have Z_12 := Z.c 12; have Z_13 := Z.c 13; have Z_14 := Z.c 14; have Z_15 := Z.c 15; have Z_16 := Z.c 16; have Z_17 := Z.c 17; have Z_18 := Z.c 18; have Z_19 := Z.c 19; have Z_20 := Z.c 20; simp only [List.getElem?_cons_zero, List.getElem?_cons_succ] at Z_0 Z_1 Z_2 Z_3 Z_4 Z_5 Z_6 Z_7 Z_8 Z_9 Z_10 Z_11 Z_12 Z_13 Z_14 Z_15 Z_16 Z_17 Z_18 Z_19 Z_20
        clear k1 k2 HK Z
        go_wp2
        go_roundw
        case rel => exact ⟨k + 1, by go_num, by omega, by omega, unhide HE⟩
        case measure => simp [intOf]; omega
  case rest =>
    clear HK
    obtain ⟨rfl, HC⟩ := hcut
    obtain ⟨L, K⟩ := unhide HC
    have hLl : L.length ≤ 1000000 := K.sto.len
    clear HC
    have X := K.X
    have A := K.A
    have HK := hide K
    obtain ⟨R, hR⟩ : ∃ R, readS f t x y (-1) 0 L = R := ⟨_, rfl⟩
    have hRd := read9_any a b L f t x y (-1) 0 wc K.sto
    rw [hR] at hRd
    obtain ⟨ps, ru, rm, er⟩ := R
    have HR := hide hR
    clear hR K
    have X_0 := X.c 0; have X_1 := X.c 1; simp only [List.getElem?_cons_zero, List.getElem?_cons_succ] at X_0 X_1
    have A_0 := A.c 0; have A_1 := A.c 1; have A_2 := A.c 2; have A_3 := A.c 3; simp only [List.getElem?_cons_zero, List.getElem?_cons_succ] at A_0 A_1 A_2 A_3
    go_wp2_with fail
    refine hRd.mono ?_
    clear hRd
    rintro e w2 ⟨qo, qc, rfl, hps, hb2⟩
    simp only at hps ⊢
    clear X_0 X_1 A_0 A_1 A_2 A_3
    replace X := X.later hb2
    replace A := A.later hb2
    replace HK := hide ((unhide HK).later hb2)
    clear hb2
    have R1 := (Blk.new w2 #[.int .i64 ru.1, .int .i64 ru.2] 28).alloc (.cells #[.int .i64 rm.id, .int .i64 rm.ep, .string rm.anchor, .int .i64 rm.start.1, .int .i64 rm.start.2] 30)
    have R2 := Blk.new (w2.alloc (.cells #[.int .i64 ru.1, .int .i64 ru.2] 28)) #[.int .i64 rm.id, .int .i64 rm.ep, .string rm.anchor, .int .i64 rm.start.1, .int .i64 rm.start.2] 30
    rw [show (w2.alloc (.cells #[.int .i64 ru.1, .int .i64 ru.2] 28)).heap.size = w2.heap.size + 1 by simp] at R2
    have hB : Below w2.heap.size w2 ((w2.alloc (.cells #[.int .i64 ru.1, .int .i64 ru.2] 28)).alloc (.cells #[.int .i64 rm.id, .int .i64 rm.ep, .string rm.anchor, .int .i64 rm.start.1, .int .i64 rm.start.2] 30)) := ((Below.refl w2.heap.size w2).alloc (Nat.le_refl _) _).alloc (by simp) _
    replace X := X.later hB
    replace A := A.later hB
    replace hps := hps.later hB
    replace HK := hide ((unhide HK).later hB)
    have HP := hide hps
    clear hB R1 R2 hps
    have X_0 := X.c 0; have X_1 := X.c 1; simp only [List.getElem?_cons_zero, List.getElem?_cons_succ] at X_0 X_1
    have A_0 := A.c 0; have A_1 := A.c 1; have A_2 := A.c 2; have A_3 := A.c 3; simp only [List.getElem?_cons_zero, List.getElem?_cons_succ] at A_0 A_1 A_2 A_3
    obtain ⟨F, hF⟩ : ∃ F, refS f t (-1) x y L = F := ⟨_, rfl⟩
    have hRf := fun w (h : Sto w a b L) => refresh9_any a b L f t (-1) x y w h
    rw [hF] at hRf
    obtain ⟨fm, ef⟩ := F
    have HF := hide hF
    clear hF
    go_wp2_with fail
    generalize (w2.alloc _).alloc _ = w3 at *
    refine (hRf w3 (unhide HK).sto).mono ?_
    clear hRf
    rintro e w4 ⟨rfl, hb4⟩
    clear X_0 X_1 A_0 A_1 A_2 A_3
    replace X := X.later hb4
    replace A := A.later hb4
    replace HP := hide ((unhide HP).later hb4)
    replace HK := hide ((unhide HK).later hb4)
    clear hb4
    have R1 := Blk.new w4 #[.int .i64 fm.id, .int .i64 fm.ep, .string fm.anchor, .int .i64 fm.start.1, .int .i64 fm.start.2] 30
    have hB : Below w4.heap.size w4 (w4.alloc (.cells #[.int .i64 fm.id, .int .i64 fm.ep, .string fm.anchor, .int .i64 fm.start.1, .int .i64 fm.start.2] 30)) := (Below.refl w4.heap.size w4).alloc (Nat.le_refl _) _
    replace X := X.later hB
    replace A := A.later hB
    replace HP := hide ((unhide HP).later hB)
    replace HK := hide ((unhide HK).later hB)
    clear hB R1
    have X_0 := X.c 0; have X_1 := X.c 1; simp only [List.getElem?_cons_zero, List.getElem?_cons_succ] at X_0 X_1
    have hRi := fun w => S5.refRight_any f t w (by omega) (by omega)
    generalize hz : S5.rightB f t = z at *
    go_wp2_with fail
    generalize w4.alloc _ = w5 at *
    refine (hRi w5).mono ?_
    clear hRi
    rintro e w6 ⟨rfl, hb6⟩
    clear X_0 X_1
    replace X := X.later hb6
    replace A := A.later hb6
    replace HP := hide ((unhide HP).later hb6)
    replace HK := hide ((unhide HK).later hb6)
    clear hb6
    cases z
    case false =>
      obtain ⟨n1, n2⟩ := not_right hz L x y (-1) 0 (-1) x y
      rw [unhide HR] at n1
      rw [unhide HF] at n2
      simp only at n1 n2
      subst n1 n2
      have hB := (unhide HK).bel
      clear X A HP HK HR HF hz
      go_wp2_with fail
      refine (hA _).mono ?_
      rintro e wq ⟨rfl, hbq⟩
      have HB := hide (hB.trans (hbq.mono hB.size))
      clear hbq hB
      go_wp2
      go_ret
      exact ⟨rfl, unhide HB⟩
    have Hz := hide hz
    clear hz X A
    have hKs := fun w (h : Sto w a b L) => keysm_any a b L w h
    go_wp2_with fail
    refine (hKs _ (unhide HK).sto).mono ?_
    clear hKs
    rintro e w7 ⟨ko, kc, rfl, hks, hb7⟩
    replace HP := hide ((unhide HP).later hb7)
    replace HK := hide ((unhide HK).later hb7)
    have Hks := hide hks
    clear hb7 hks
    go_wp2_with fail
    go_loopw [18, 19, 20, 21] (fun v rv fv u wr => ∃ (k : Nat) (rd fr : Bool), u = .int .i64 k ∧ rv = .bool rd ∧ fv = .bool fr ∧ k ≤ L.length ∧ Hid (KLp w7 f t x y L k v rd fr wr)) (fun _ _ _ u _ => L.length - (intOf u).toNat)
    case atStart => exact ⟨0, true, true, rfl, rfl, rfl, by omega, ⟨Below.refl _ _, POwn.nil _ _, by simp [inE], by simp [inE]⟩⟩
    case round =>
      obtain ⟨k, rd, fr, rfl, rfl, rfl, hk, Hl⟩ := hrel
      by_cases hlt : k < L.length
      case pos =>
        obtain ⟨e, he⟩ : ∃ e, L[k] = e := ⟨_, rfl⟩
        have hmem : e ∈ L := he ▸ List.getElem_mem hlt
        obtain ⟨kb, kq, rfl, hc⟩ := ((unhide Hks).later (unhide Hl).bel) (by simpa using (by omega : 0 < L.length))
        have hck := hc k (by simpa using hlt)
        rw [List.getElem_map, he] at hck
        have Hex := hide (And.intro he hmem)
        have ii : Nonempty (Later wr) := ⟨⟨wr, Below.refl _ _⟩⟩
        have K := (unhide HK).later (unhide Hl).bel
        have X := K.X
        have A := K.A
        have HKr := hide K
        have hks1 : e.key.size ≤ 8 := key_size (K.sto.keys e hmem)
        have hckL := fun z : Later wr => z.cell hck
        have X_0 := fun x : Later wr => (X.later x.below).c 0; have X_1 := fun x : Later wr => (X.later x.below).c 1; simp only [List.getElem?_cons_zero, List.getElem?_cons_succ] at X_0 X_1
        have hH := fun w => S5.refHas_any f t e.key w (by omega) (by omega) (by omega)
        have hkI : (k : Int) < (L.length : Int) := by omega
        generalize hh : S5.hasB f t e.key = hs at *
        have Hh := hide hh
        clear hh he hmem hc K
        go_upto_region 24 with fail
        go_cut [22] (fun v wc => v = .bool hs ∧ Hid (Below wr.heap.size wr wc))
        case first =>
          clear X A hck
          go_wp2_with fail
          refine wp_region_later (by kernel_rfl) (by kernel_rfl) ?_
          repeat (first
            | go_big_quiet_step ((go_at_call 12; with_reducible exact calls_later (hH _)))
            | quiet_step (fail))
          refine wpQuiet_nil ?_
          intro w' hw'
          obtain ⟨⟨W7, hb7⟩, rfl⟩ := hw'
          clear ii hckL X_0 X_1
          go_wp2
          go_meet
          exact ⟨rfl, hb7⟩
        case rest =>
          clear ii hckL X_0 X_1 hH X A HKr hck
          obtain ⟨rfl, Hb⟩ := hcut
          replace Hl := hide ((unhide Hl).later (unhide Hb))
          have K := (unhide HK).later (unhide Hl).bel
          have hck := ((unhide Hks).later (unhide Hl).bel)
          obtain ⟨_, _, e0, hc⟩ := hck (by simpa using (by omega : 0 < L.length))
          obtain ⟨rfl, rfl⟩ : kb = _ ∧ kq = _ := by injection e0 with e0; injection e0 with e1 e2; exact ⟨e1, e2⟩
          clear e0 hck
          have hck := hc k (by simpa using hlt)
          rw [List.getElem_map, (unhide Hex).1] at hck
          clear hc Hb
          cases hs
          case false =>
            have HN : Hid (KLp w7 f t x y L (k + 1) u18 rd fr wc) := hide ((unhide Hl).none hlt (unhide Hex).1 (unhide Hh))
            clear Hl K hck
            go_wp2
            go_roundw
            case rel => exact ⟨k + 1, rd, fr, by go_num, rfl, rfl, by omega, unhide HN⟩
            case measure => simp [intOf]; omega
          case true =>
            obtain ⟨g1, g2⟩ := one_read K.sto.rise K.sto.keys (unhide Hex).2 x y (-1) 0
            have g3 := one_refresh K.sto.rise K.sto.keys (unhide Hex).2 (-1) x y
            have A := K.A
            have hr1 := fun W' (hb : Below wc.heap.size wc W') => read1 K.sto (unhide Hex).2 x y (-1) 0 W' hb
            have hf1 := fun W' (hb : Below wc.heap.size wc W') => refresh1 K.sto (unhide Hex).2 (-1) x y W' hb
            have HKc := hide K
            clear K g1 g2 g3
            have A_0 := A.c 0; have A_1 := A.c 1; have A_2 := A.c 2; have A_3 := A.c 3; simp only [List.getElem?_cons_zero, List.getElem?_cons_succ] at A_0 A_1 A_2 A_3
            generalize hpe : rdP x y (-1) 0 e = pe at *
            generalize hge : rdE x y (-1) 0 e = ge at *
            generalize hfe : rfE (-1) x y e = fe at *
            have Hpe := hide (And.intro hpe (And.intro hge hfe))
            clear hpe hge hfe
            go_upto_region 26 with fail
            go_cut [23, 26] (fun v ev wx => ∃ po c, v = .slice po pe.length c ∧ ev = .int .i64 ge ∧ Hid (PsAt wx po pe ∧ Below wc.heap.size wc wx))
            case first =>
              clear hf1 HKc Hl
              have hSK : ∀ w', Below wc.heap.size wc w' → (w'.cell? ⟨kb, kq + k, none⟩ = some (.string e.key) ∧ w'.cell? ⟨w.heap.size + 1, 0, none⟩ = some (.int .i64 x.fst) ∧ w'.cell? ⟨w.heap.size + 1, 1, none⟩ = some (.int .i64 x.snd) ∧ w'.cell? ⟨w.heap.size + 1, 2, none⟩ = some (.int .i64 y.fst) ∧ w'.cell? ⟨w.heap.size + 1, 3, none⟩ = some (.int .i64 y.snd)) := fun w' hb =>
                ⟨(hb.cell (World.block_lt_of_cell? _ _ hck)).trans hck, (hb.cell (World.block_lt_of_cell? _ _ A_0)).trans A_0, (hb.cell (World.block_lt_of_cell? _ _ A_1)).trans A_1, (hb.cell (World.block_lt_of_cell? _ _ A_2)).trans A_2, (hb.cell (World.block_lt_of_cell? _ _ A_3)).trans A_3⟩
              clear A_0 A_1 A_2 A_3 A hck
              refine wp_region_held_drew (S := fun w' => Below wc.heap.size wc w') (by kernel_rfl) (Below.refl _ _).drew (fun hSS => ?_)
              generalize wc.drew = Wd at *
              refine held_take 0 144 rfl rfl (by kernel_rfl) (by kernel_rfl) (by kernel_rfl) (fun _ _ _ h => h) (by rfl) hSS (v := ?_) ?_ ?_
              rotate_left
              · intro y hSy
                obtain ⟨hy0, hy1, hy2, hy3, hy4⟩ := hSK y hSy
                go_simp
                with_reducible rfl
              simp only [Act.put, List.setIfInBounds_toArray, List.set_cons_zero, List.set_cons_succ]
              refine held_take 1 145 rfl rfl (by kernel_rfl) (by kernel_rfl) (by kernel_rfl) (fun _ _ _ h => h) (by rfl) hSS (v := ?_) ?_ ?_
              rotate_left
              · intro y hSy
                obtain ⟨hy0, hy1, hy2, hy3, hy4⟩ := hSK y hSy
                go_simp
                with_reducible rfl
              simp only [Act.put, List.setIfInBounds_toArray, List.set_cons_zero, List.set_cons_succ]
              refine held_take 2 146 rfl rfl (by kernel_rfl) (by kernel_rfl) (by kernel_rfl) (fun _ _ _ h => h) (by rfl) hSS (v := ?_) ?_ ?_
              rotate_left
              · intro y hSy
                obtain ⟨hy0, hy1, hy2, hy3, hy4⟩ := hSK y hSy
                go_simp
                with_reducible rfl
              simp only [Act.put, List.setIfInBounds_toArray, List.set_cons_zero, List.set_cons_succ]
              refine held_take 3 147 rfl rfl (by kernel_rfl) (by kernel_rfl) (by kernel_rfl) (fun _ _ _ h => h) (by rfl) hSS (v := ?_) ?_ ?_
              rotate_left
              · intro y hSy
                obtain ⟨hy0, hy1, hy2, hy3, hy4⟩ := hSK y hSy
                go_simp
                with_reducible rfl
              simp only [Act.put, List.setIfInBounds_toArray, List.set_cons_zero, List.set_cons_succ]
              refine held_take 4 148 rfl rfl (by kernel_rfl) (by kernel_rfl) (by kernel_rfl) (fun _ _ _ h => h) (by rfl) hSS (v := ?_) ?_ ?_
              rotate_left
              · intro y hSy
                obtain ⟨hy0, hy1, hy2, hy3, hy4⟩ := hSK y hSy
                go_simp
                with_reducible rfl
              simp only [Act.put, List.setIfInBounds_toArray, List.set_cons_zero, List.set_cons_succ]
              refine held_take 5 149 rfl rfl (by kernel_rfl) (by kernel_rfl) (by kernel_rfl) (fun _ _ _ h => h) (by rfl) hSS (v := ?_) ?_ ?_
              rotate_left
              · intro y hSy
                obtain ⟨hy0, hy1, hy2, hy3, hy4⟩ := hSK y hSy
                go_simp
                with_reducible rfl
              simp only [Act.put, List.setIfInBounds_toArray, List.set_cons_zero, List.set_cons_succ]
              refine held_take 6 150 rfl rfl (by kernel_rfl) (by kernel_rfl) (by kernel_rfl) (fun _ _ _ h => h) (by rfl) hSS (v := ?_) ?_ ?_
              rotate_left
              · intro y hSy
                obtain ⟨hy0, hy1, hy2, hy3, hy4⟩ := hSK y hSy
                go_simp
                with_reducible rfl
              simp only [Act.put, List.setIfInBounds_toArray, List.set_cons_zero, List.set_cons_succ]
              refine held_take 7 151 rfl rfl (by kernel_rfl) (by kernel_rfl) (by kernel_rfl) (fun _ _ _ h => h) (by rfl) hSS (v := ?_) ?_ ?_
              rotate_left
              · intro y hSy
                obtain ⟨hy0, hy1, hy2, hy3, hy4⟩ := hSK y hSy
                go_simp
                with_reducible rfl
              simp only [Act.put, List.setIfInBounds_toArray, List.set_cons_zero, List.set_cons_succ]
              refine held_take 8 152 rfl rfl (by kernel_rfl) (by kernel_rfl) (by kernel_rfl) (fun _ _ _ h => h) (by rfl) hSS (v := ?_) ?_ ?_
              rotate_left
              · intro y hSy
                obtain ⟨hy0, hy1, hy2, hy3, hy4⟩ := hSK y hSy
                go_simp
                with_reducible rfl
              simp only [Act.put, List.setIfInBounds_toArray, List.set_cons_zero, List.set_cons_succ]
              refine held_take 9 153 rfl rfl (by kernel_rfl) (by kernel_rfl) (by kernel_rfl) (fun _ _ _ h => h) (by rfl) hSS (v := ?_) ?_ ?_
              rotate_left
              · intro y hSy
                obtain ⟨hy0, hy1, hy2, hy3, hy4⟩ := hSK y hSy
                go_simp
                with_reducible rfl
              simp only [Act.put, List.setIfInBounds_toArray, List.set_cons_zero, List.set_cons_succ]
              refine wpAnyH_ready (rs := [10, 16, 17]) (by kernel_rfl) (by simp) ?_
              refine AllReadyH.cons rfl (fun K hK => ?_) (AllReadyH.cons rfl (fun K hK => ?_) (AllReadyH.cons rfl (fun K hK => ?_) AllReadyH.nil))
              · go_wp2_with (go_at_call 16; refine (hr1 _ hSS).mono ?_; rintro e9 w9 ⟨p9, c9, s9, m9, rfl, hp9, hb9, hbw⟩; have HZ := hide (And.intro hp9 hb9); clear hp9 hb9)
                obtain ⟨hp9, hb9⟩ := unhide HZ
                replace hSS := hbw
                clear HZ hr1
                refine hK.out _ _ hSS (fun _ => ?_)
                clear hK K hSK
                refine held_take 11 143 rfl rfl (by kernel_rfl) (by kernel_rfl) (by kernel_rfl) (fun _ _ _ h => h) (by rfl) hSS (v := ?_) ?_ ?_
                rotate_left
                · intro y _
                  go_simp
                  with_reducible rfl
                simp only [Act.put, List.setIfInBounds_toArray, List.set_cons_zero, List.set_cons_succ]
                refine held_take 12 155 rfl rfl (by kernel_rfl) (by kernel_rfl) (by kernel_rfl) (fun _ _ _ h => h) (by rfl) hSS (v := ?_) ?_ ?_
                rotate_left
                · intro y _
                  go_simp
                  with_reducible rfl
                simp only [Act.put, List.setIfInBounds_toArray, List.set_cons_zero, List.set_cons_succ]
                refine held_take 13 156 rfl rfl (by kernel_rfl) (by kernel_rfl) (by kernel_rfl) (fun _ _ _ h => h) (by rfl) hSS (v := ?_) ?_ ?_
                rotate_left
                · intro y _
                  go_simp
                  with_reducible rfl
                simp only [Act.put, List.setIfInBounds_toArray, List.set_cons_zero, List.set_cons_succ]
                refine held_take 14 157 rfl rfl (by kernel_rfl) (by kernel_rfl) (by kernel_rfl) (fun _ _ _ h => h) (by rfl) hSS (v := ?_) ?_ ?_
                rotate_left
                · intro y _
                  go_simp
                  with_reducible rfl
                simp only [Act.put, List.setIfInBounds_toArray, List.set_cons_zero, List.set_cons_succ]
                refine held_take 15 158 rfl rfl (by kernel_rfl) (by kernel_rfl) (by kernel_rfl) (fun _ _ _ h => h) (by rfl) hSS (v := ?_) ?_ ?_
                rotate_left
                · intro y _
                  go_simp
                  with_reducible rfl
                simp only [Act.put, List.setIfInBounds_toArray, List.set_cons_zero, List.set_cons_succ]
                refine wpAnyH_ready (rs := [16, 17]) (by kernel_rfl) (by simp) ?_
                refine AllReadyH.cons rfl (fun K hK => ?_) (AllReadyH.cons rfl (fun K hK => ?_) AllReadyH.nil)
                · go_simp
                  have N24 := Blk.new w9 #[.int .i64 0, .int .i64 0] 28
                  have g24 := hSS.size
                  have hal := (Below.refl w9.heap.size w9).alloc (Nat.le_refl _) (.cells #[.int .i64 0, .int .i64 0] 28)
                  replace hSS := hSS.alloc hSS.size (.cells #[.int .i64 0, .int .i64 0] 28)
                  refine hK.out _ _ hSS (fun _ => ?_)
                  clear hK K
                  generalize w9.alloc _ = Wa at *
                  generalize w9.heap.size = n24 at N24 g24  ⊢
                  replace hp9 := hp9.later hal
                  clear hal
                  refine wpAnyH_ready (rs := [17]) (by kernel_rfl) (by simp) ?_
                  refine AllReadyH.cons rfl (fun K hK => ?_) AllReadyH.nil
                  have hne := N24.lt
                  go_simp
                  have N25 := Blk.new Wa #[.int .i64 0, .int .i64 0, .string ⟨#[]⟩, .int .i64 0, .int .i64 0] 30
                  have g25 := hSS.size
                  have hal := (Below.refl Wa.heap.size Wa).alloc (Nat.le_refl _) (.cells #[.int .i64 0, .int .i64 0, .string ⟨#[]⟩, .int .i64 0, .int .i64 0] 30)
                  replace hSS := hSS.alloc hSS.size (.cells #[.int .i64 0, .int .i64 0, .string ⟨#[]⟩, .int .i64 0, .int .i64 0] 30)
                  refine hK.out _ _ hSS (fun _ => ?_)
                  clear hK K
                  generalize Wa.alloc _ = Wb at *
                  generalize Wa.heap.size = n25 at N25 g25 hne ⊢
                  replace hp9 := hp9.later hal
                  replace hne : n25 ≠ n24 := Nat.ne_of_gt hne
                  replace N24 := N24.later hal
                  clear hal
                  refine wpAnyH_ready (rs := [18]) (by kernel_rfl) (by simp) ?_
                  refine AllReadyH.cons rfl (fun K hK => ?_) AllReadyH.nil
                  go_simp
                  refine hK.out _ _ hSS (fun _ => ?_)
                  clear hK K
                  refine wpAnyH_ready (rs := [19]) (by kernel_rfl) (by simp) ?_
                  refine AllReadyH.cons rfl (fun K hK => ?_) AllReadyH.nil
                  have N24_0 := N24.c 0; have N24_1 := N24.c 1; simp only [List.getElem?_cons_zero, List.getElem?_cons_succ] at N24_0 N24_1
                  have f24 := N24.f
                  go_simp
                  have hq1 := psat_stp hp9 N24 [.int .i64 s9.fst, .int .i64 s9.snd]
                  have N25b := Blk.others (C := n24) hne [.int .i64 s9.fst, .int .i64 s9.snd] 0 N25
                  have hS1 := below_setAll g24 [.int .i64 s9.fst, .int .i64 s9.snd] 0 hSS
                  refine hK.out _ _ hS1 (fun _ => ?_)
                  clear hK K N24_0 N24_1 f24 N25 N24 hp9 hSS
                  change wpAnyH _ _ _ _ _ _ _ _ (setAll Wb n24 0 [.int .i64 s9.fst, .int .i64 s9.snd])
                  generalize setAll Wb n24 0 [.int .i64 s9.fst, .int .i64 s9.snd] = We at *
                  refine wpAnyH_ready (rs := [20]) (by kernel_rfl) (by simp) ?_
                  refine AllReadyH.cons rfl (fun K hK => ?_) AllReadyH.nil
                  have N25b_0 := N25b.c 0; have N25b_1 := N25b.c 1; have N25b_2 := N25b.c 2; have N25b_3 := N25b.c 3; have N25b_4 := N25b.c 4; simp only [List.getElem?_cons_zero, List.getElem?_cons_succ] at N25b_0 N25b_1 N25b_2 N25b_3 N25b_4
                  have f25 := N25b.f
                  go_simp
                  have hq2 := psat_met hq1 N25b [.int .i64 m9.id, .int .i64 m9.ep, .string m9.anchor, .int .i64 m9.start.1, .int .i64 m9.start.2]
                  have hS2 := below_setAll g25 [.int .i64 m9.id, .int .i64 m9.ep, .string m9.anchor, .int .i64 m9.start.1, .int .i64 m9.start.2] 0 hS1
                  refine hK.out _ _ hS2 (fun _ => ?_)
                  clear hK K N25b_0 N25b_1 N25b_2 N25b_3 N25b_4 f25 N25b hq1 hS1
                  change wpAnyH _ _ _ _ _ _ _ _ (setAll We n25 0 [.int .i64 m9.id, .int .i64 m9.ep, .string m9.anchor, .int .i64 m9.start.1, .int .i64 m9.start.2])
                  generalize setAll We n25 0 [.int .i64 m9.id, .int .i64 m9.ep, .string m9.anchor, .int .i64 m9.start.1, .int .i64 m9.start.2] = Wf at *
                  refine wpAnyH_ready (rs := [21]) (by kernel_rfl) (by simp) ?_
                  refine AllReadyH.cons rfl (fun K hK => ?_) AllReadyH.nil
                  go_simp
                  refine hK.out _ _ hS2 (fun _ => ?_)
                  clear hK K
                  refine wpAnyH_done (by kernel_rfl) ?_ _
                  go_wp2
                  go_meet
                  exact ⟨p9, c9, rfl, rfl, hq2, hS2⟩
                · go_simp
                  have N25 := Blk.new w9 #[.int .i64 0, .int .i64 0, .string ⟨#[]⟩, .int .i64 0, .int .i64 0] 30
                  have g25 := hSS.size
                  have hal := (Below.refl w9.heap.size w9).alloc (Nat.le_refl _) (.cells #[.int .i64 0, .int .i64 0, .string ⟨#[]⟩, .int .i64 0, .int .i64 0] 30)
                  replace hSS := hSS.alloc hSS.size (.cells #[.int .i64 0, .int .i64 0, .string ⟨#[]⟩, .int .i64 0, .int .i64 0] 30)
                  refine hK.out _ _ hSS (fun _ => ?_)
                  clear hK K
                  generalize w9.alloc _ = Wa at *
                  generalize w9.heap.size = n25 at N25 g25  ⊢
                  replace hp9 := hp9.later hal
                  clear hal
                  refine wpAnyH_ready (rs := [16]) (by kernel_rfl) (by simp) ?_
                  refine AllReadyH.cons rfl (fun K hK => ?_) AllReadyH.nil
                  have hne := N25.lt
                  go_simp
                  have N24 := Blk.new Wa #[.int .i64 0, .int .i64 0] 28
                  have g24 := hSS.size
                  have hal := (Below.refl Wa.heap.size Wa).alloc (Nat.le_refl _) (.cells #[.int .i64 0, .int .i64 0] 28)
                  replace hSS := hSS.alloc hSS.size (.cells #[.int .i64 0, .int .i64 0] 28)
                  refine hK.out _ _ hSS (fun _ => ?_)
                  clear hK K
                  generalize Wa.alloc _ = Wb at *
                  generalize Wa.heap.size = n24 at N24 g24 hne ⊢
                  replace hp9 := hp9.later hal
                  replace hne : n25 ≠ n24 := Nat.ne_of_lt hne
                  replace N25 := N25.later hal
                  clear hal
                  refine wpAnyH_ready (rs := [18]) (by kernel_rfl) (by simp) ?_
                  refine AllReadyH.cons rfl (fun K hK => ?_) AllReadyH.nil
                  go_simp
                  refine hK.out _ _ hSS (fun _ => ?_)
                  clear hK K
                  refine wpAnyH_ready (rs := [19]) (by kernel_rfl) (by simp) ?_
                  refine AllReadyH.cons rfl (fun K hK => ?_) AllReadyH.nil
                  have N24_0 := N24.c 0; have N24_1 := N24.c 1; simp only [List.getElem?_cons_zero, List.getElem?_cons_succ] at N24_0 N24_1
                  have f24 := N24.f
                  go_simp
                  have hq1 := psat_stp hp9 N24 [.int .i64 s9.fst, .int .i64 s9.snd]
                  have N25b := Blk.others (C := n24) hne [.int .i64 s9.fst, .int .i64 s9.snd] 0 N25
                  have hS1 := below_setAll g24 [.int .i64 s9.fst, .int .i64 s9.snd] 0 hSS
                  refine hK.out _ _ hS1 (fun _ => ?_)
                  clear hK K N24_0 N24_1 f24 N25 N24 hp9 hSS
                  change wpAnyH _ _ _ _ _ _ _ _ (setAll Wb n24 0 [.int .i64 s9.fst, .int .i64 s9.snd])
                  generalize setAll Wb n24 0 [.int .i64 s9.fst, .int .i64 s9.snd] = We at *
                  refine wpAnyH_ready (rs := [20]) (by kernel_rfl) (by simp) ?_
                  refine AllReadyH.cons rfl (fun K hK => ?_) AllReadyH.nil
                  have N25b_0 := N25b.c 0; have N25b_1 := N25b.c 1; have N25b_2 := N25b.c 2; have N25b_3 := N25b.c 3; have N25b_4 := N25b.c 4; simp only [List.getElem?_cons_zero, List.getElem?_cons_succ] at N25b_0 N25b_1 N25b_2 N25b_3 N25b_4
                  have f25 := N25b.f
                  go_simp
                  have hq2 := psat_met hq1 N25b [.int .i64 m9.id, .int .i64 m9.ep, .string m9.anchor, .int .i64 m9.start.1, .int .i64 m9.start.2]
                  have hS2 := below_setAll g25 [.int .i64 m9.id, .int .i64 m9.ep, .string m9.anchor, .int .i64 m9.start.1, .int .i64 m9.start.2] 0 hS1
                  refine hK.out _ _ hS2 (fun _ => ?_)
                  clear hK K N25b_0 N25b_1 N25b_2 N25b_3 N25b_4 f25 N25b hq1 hS1
                  change wpAnyH _ _ _ _ _ _ _ _ (setAll We n25 0 [.int .i64 m9.id, .int .i64 m9.ep, .string m9.anchor, .int .i64 m9.start.1, .int .i64 m9.start.2])
                  generalize setAll We n25 0 [.int .i64 m9.id, .int .i64 m9.ep, .string m9.anchor, .int .i64 m9.start.1, .int .i64 m9.start.2] = Wf at *
                  refine wpAnyH_ready (rs := [21]) (by kernel_rfl) (by simp) ?_
                  refine AllReadyH.cons rfl (fun K hK => ?_) AllReadyH.nil
                  go_simp
                  refine hK.out _ _ hS2 (fun _ => ?_)
                  clear hK K
                  refine wpAnyH_done (by kernel_rfl) ?_ _
                  go_wp2
                  go_meet
                  exact ⟨p9, c9, rfl, rfl, hq2, hS2⟩
              · go_simp
                have N24 := Blk.new Wd #[.int .i64 0, .int .i64 0] 28
                have g24 := hSS.size
                have hal := (Below.refl Wd.heap.size Wd).alloc (Nat.le_refl _) (.cells #[.int .i64 0, .int .i64 0] 28)
                replace hSS := hSS.alloc hSS.size (.cells #[.int .i64 0, .int .i64 0] 28)
                refine hK.out _ _ hSS (fun _ => ?_)
                clear hK K
                generalize Wd.alloc _ = Wa at *
                generalize Wd.heap.size = n24 at N24 g24  ⊢
                clear hal
                refine wpAnyH_ready (rs := [10, 17]) (by kernel_rfl) (by simp) ?_
                refine AllReadyH.cons rfl (fun K hK => ?_) (AllReadyH.cons rfl (fun K hK => ?_) AllReadyH.nil)
                · go_wp2_with (go_at_call 16; refine (hr1 _ hSS).mono ?_; rintro e9 w9 ⟨p9, c9, s9, m9, rfl, hp9, hb9, hbw⟩; have HZ := hide (And.intro hp9 hb9); clear hp9 hb9)
                  obtain ⟨hp9, hb9⟩ := unhide HZ
                  replace hSS := hbw
                  clear HZ hr1
                  refine hK.out _ _ hSS (fun _ => ?_)
                  clear hK K hSK
                  refine held_take 11 143 rfl rfl (by kernel_rfl) (by kernel_rfl) (by kernel_rfl) (fun _ _ _ h => h) (by rfl) hSS (v := ?_) ?_ ?_
                  rotate_left
                  · intro y _
                    go_simp
                    with_reducible rfl
                  simp only [Act.put, List.setIfInBounds_toArray, List.set_cons_zero, List.set_cons_succ]
                  refine held_take 12 155 rfl rfl (by kernel_rfl) (by kernel_rfl) (by kernel_rfl) (fun _ _ _ h => h) (by rfl) hSS (v := ?_) ?_ ?_
                  rotate_left
                  · intro y _
                    go_simp
                    with_reducible rfl
                  simp only [Act.put, List.setIfInBounds_toArray, List.set_cons_zero, List.set_cons_succ]
                  refine held_take 13 156 rfl rfl (by kernel_rfl) (by kernel_rfl) (by kernel_rfl) (fun _ _ _ h => h) (by rfl) hSS (v := ?_) ?_ ?_
                  rotate_left
                  · intro y _
                    go_simp
                    with_reducible rfl
                  simp only [Act.put, List.setIfInBounds_toArray, List.set_cons_zero, List.set_cons_succ]
                  refine held_take 14 157 rfl rfl (by kernel_rfl) (by kernel_rfl) (by kernel_rfl) (fun _ _ _ h => h) (by rfl) hSS (v := ?_) ?_ ?_
                  rotate_left
                  · intro y _
                    go_simp
                    with_reducible rfl
                  simp only [Act.put, List.setIfInBounds_toArray, List.set_cons_zero, List.set_cons_succ]
                  refine held_take 15 158 rfl rfl (by kernel_rfl) (by kernel_rfl) (by kernel_rfl) (fun _ _ _ h => h) (by rfl) hSS (v := ?_) ?_ ?_
                  rotate_left
                  · intro y _
                    go_simp
                    with_reducible rfl
                  simp only [Act.put, List.setIfInBounds_toArray, List.set_cons_zero, List.set_cons_succ]
                  replace N24 := N24.later hb9
                  clear hb9
                  refine wpAnyH_ready (rs := [17]) (by kernel_rfl) (by simp) ?_
                  refine AllReadyH.cons rfl (fun K hK => ?_) AllReadyH.nil
                  have hne := N24.lt
                  go_simp
                  have N25 := Blk.new w9 #[.int .i64 0, .int .i64 0, .string ⟨#[]⟩, .int .i64 0, .int .i64 0] 30
                  have g25 := hSS.size
                  have hal := (Below.refl w9.heap.size w9).alloc (Nat.le_refl _) (.cells #[.int .i64 0, .int .i64 0, .string ⟨#[]⟩, .int .i64 0, .int .i64 0] 30)
                  replace hSS := hSS.alloc hSS.size (.cells #[.int .i64 0, .int .i64 0, .string ⟨#[]⟩, .int .i64 0, .int .i64 0] 30)
                  refine hK.out _ _ hSS (fun _ => ?_)
                  clear hK K
                  generalize w9.alloc _ = Wb at *
                  generalize w9.heap.size = n25 at N25 g25 hne ⊢
                  replace hp9 := hp9.later hal
                  replace hne : n25 ≠ n24 := Nat.ne_of_gt hne
                  replace N24 := N24.later hal
                  clear hal
                  refine wpAnyH_ready (rs := [18]) (by kernel_rfl) (by simp) ?_
                  refine AllReadyH.cons rfl (fun K hK => ?_) AllReadyH.nil
                  go_simp
                  refine hK.out _ _ hSS (fun _ => ?_)
                  clear hK K
                  refine wpAnyH_ready (rs := [19]) (by kernel_rfl) (by simp) ?_
                  refine AllReadyH.cons rfl (fun K hK => ?_) AllReadyH.nil
                  have N24_0 := N24.c 0; have N24_1 := N24.c 1; simp only [List.getElem?_cons_zero, List.getElem?_cons_succ] at N24_0 N24_1
                  have f24 := N24.f
                  go_simp
                  have hq1 := psat_stp hp9 N24 [.int .i64 s9.fst, .int .i64 s9.snd]
                  have N25b := Blk.others (C := n24) hne [.int .i64 s9.fst, .int .i64 s9.snd] 0 N25
                  have hS1 := below_setAll g24 [.int .i64 s9.fst, .int .i64 s9.snd] 0 hSS
                  refine hK.out _ _ hS1 (fun _ => ?_)
                  clear hK K N24_0 N24_1 f24 N25 N24 hp9 hSS
                  change wpAnyH _ _ _ _ _ _ _ _ (setAll Wb n24 0 [.int .i64 s9.fst, .int .i64 s9.snd])
                  generalize setAll Wb n24 0 [.int .i64 s9.fst, .int .i64 s9.snd] = We at *
                  refine wpAnyH_ready (rs := [20]) (by kernel_rfl) (by simp) ?_
                  refine AllReadyH.cons rfl (fun K hK => ?_) AllReadyH.nil
                  have N25b_0 := N25b.c 0; have N25b_1 := N25b.c 1; have N25b_2 := N25b.c 2; have N25b_3 := N25b.c 3; have N25b_4 := N25b.c 4; simp only [List.getElem?_cons_zero, List.getElem?_cons_succ] at N25b_0 N25b_1 N25b_2 N25b_3 N25b_4
                  have f25 := N25b.f
                  go_simp
                  have hq2 := psat_met hq1 N25b [.int .i64 m9.id, .int .i64 m9.ep, .string m9.anchor, .int .i64 m9.start.1, .int .i64 m9.start.2]
                  have hS2 := below_setAll g25 [.int .i64 m9.id, .int .i64 m9.ep, .string m9.anchor, .int .i64 m9.start.1, .int .i64 m9.start.2] 0 hS1
                  refine hK.out _ _ hS2 (fun _ => ?_)
                  clear hK K N25b_0 N25b_1 N25b_2 N25b_3 N25b_4 f25 N25b hq1 hS1
                  change wpAnyH _ _ _ _ _ _ _ _ (setAll We n25 0 [.int .i64 m9.id, .int .i64 m9.ep, .string m9.anchor, .int .i64 m9.start.1, .int .i64 m9.start.2])
                  generalize setAll We n25 0 [.int .i64 m9.id, .int .i64 m9.ep, .string m9.anchor, .int .i64 m9.start.1, .int .i64 m9.start.2] = Wf at *
                  refine wpAnyH_ready (rs := [21]) (by kernel_rfl) (by simp) ?_
                  refine AllReadyH.cons rfl (fun K hK => ?_) AllReadyH.nil
                  go_simp
                  refine hK.out _ _ hS2 (fun _ => ?_)
                  clear hK K
                  refine wpAnyH_done (by kernel_rfl) ?_ _
                  go_wp2
                  go_meet
                  exact ⟨p9, c9, rfl, rfl, hq2, hS2⟩
                · have hne := N24.lt
                  go_simp
                  have N25 := Blk.new Wa #[.int .i64 0, .int .i64 0, .string ⟨#[]⟩, .int .i64 0, .int .i64 0] 30
                  have g25 := hSS.size
                  have hal := (Below.refl Wa.heap.size Wa).alloc (Nat.le_refl _) (.cells #[.int .i64 0, .int .i64 0, .string ⟨#[]⟩, .int .i64 0, .int .i64 0] 30)
                  replace hSS := hSS.alloc hSS.size (.cells #[.int .i64 0, .int .i64 0, .string ⟨#[]⟩, .int .i64 0, .int .i64 0] 30)
                  refine hK.out _ _ hSS (fun _ => ?_)
                  clear hK K
                  generalize Wa.alloc _ = Wb at *
                  generalize Wa.heap.size = n25 at N25 g25 hne ⊢
                  replace hne : n25 ≠ n24 := Nat.ne_of_gt hne
                  replace N24 := N24.later hal
                  clear hal
                  refine wpAnyH_ready (rs := [10]) (by kernel_rfl) (by simp) ?_
                  refine AllReadyH.cons rfl (fun K hK => ?_) AllReadyH.nil
                  go_wp2_with (go_at_call 16; refine (hr1 _ hSS).mono ?_; rintro e9 w9 ⟨p9, c9, s9, m9, rfl, hp9, hb9, hbw⟩; have HZ := hide (And.intro hp9 hb9); clear hp9 hb9)
                  obtain ⟨hp9, hb9⟩ := unhide HZ
                  replace hSS := hbw
                  clear HZ hr1
                  refine hK.out _ _ hSS (fun _ => ?_)
                  clear hK K hSK
                  refine held_take 11 143 rfl rfl (by kernel_rfl) (by kernel_rfl) (by kernel_rfl) (fun _ _ _ h => h) (by rfl) hSS (v := ?_) ?_ ?_
                  rotate_left
                  · intro y _
                    go_simp
                    with_reducible rfl
                  simp only [Act.put, List.setIfInBounds_toArray, List.set_cons_zero, List.set_cons_succ]
                  refine held_take 12 155 rfl rfl (by kernel_rfl) (by kernel_rfl) (by kernel_rfl) (fun _ _ _ h => h) (by rfl) hSS (v := ?_) ?_ ?_
                  rotate_left
                  · intro y _
                    go_simp
                    with_reducible rfl
                  simp only [Act.put, List.setIfInBounds_toArray, List.set_cons_zero, List.set_cons_succ]
                  refine held_take 13 156 rfl rfl (by kernel_rfl) (by kernel_rfl) (by kernel_rfl) (fun _ _ _ h => h) (by rfl) hSS (v := ?_) ?_ ?_
                  rotate_left
                  · intro y _
                    go_simp
                    with_reducible rfl
                  simp only [Act.put, List.setIfInBounds_toArray, List.set_cons_zero, List.set_cons_succ]
                  refine held_take 14 157 rfl rfl (by kernel_rfl) (by kernel_rfl) (by kernel_rfl) (fun _ _ _ h => h) (by rfl) hSS (v := ?_) ?_ ?_
                  rotate_left
                  · intro y _
                    go_simp
                    with_reducible rfl
                  simp only [Act.put, List.setIfInBounds_toArray, List.set_cons_zero, List.set_cons_succ]
                  refine held_take 15 158 rfl rfl (by kernel_rfl) (by kernel_rfl) (by kernel_rfl) (fun _ _ _ h => h) (by rfl) hSS (v := ?_) ?_ ?_
                  rotate_left
                  · intro y _
                    go_simp
                    with_reducible rfl
                  simp only [Act.put, List.setIfInBounds_toArray, List.set_cons_zero, List.set_cons_succ]
                  replace N24 := N24.later hb9
                  replace N25 := N25.later hb9
                  clear hb9
                  refine wpAnyH_ready (rs := [18]) (by kernel_rfl) (by simp) ?_
                  refine AllReadyH.cons rfl (fun K hK => ?_) AllReadyH.nil
                  go_simp
                  refine hK.out _ _ hSS (fun _ => ?_)
                  clear hK K
                  refine wpAnyH_ready (rs := [19]) (by kernel_rfl) (by simp) ?_
                  refine AllReadyH.cons rfl (fun K hK => ?_) AllReadyH.nil
                  have N24_0 := N24.c 0; have N24_1 := N24.c 1; simp only [List.getElem?_cons_zero, List.getElem?_cons_succ] at N24_0 N24_1
                  have f24 := N24.f
                  go_simp
                  have hq1 := psat_stp hp9 N24 [.int .i64 s9.fst, .int .i64 s9.snd]
                  have N25b := Blk.others (C := n24) hne [.int .i64 s9.fst, .int .i64 s9.snd] 0 N25
                  have hS1 := below_setAll g24 [.int .i64 s9.fst, .int .i64 s9.snd] 0 hSS
                  refine hK.out _ _ hS1 (fun _ => ?_)
                  clear hK K N24_0 N24_1 f24 N25 N24 hp9 hSS
                  change wpAnyH _ _ _ _ _ _ _ _ (setAll w9 n24 0 [.int .i64 s9.fst, .int .i64 s9.snd])
                  generalize setAll w9 n24 0 [.int .i64 s9.fst, .int .i64 s9.snd] = We at *
                  refine wpAnyH_ready (rs := [20]) (by kernel_rfl) (by simp) ?_
                  refine AllReadyH.cons rfl (fun K hK => ?_) AllReadyH.nil
                  have N25b_0 := N25b.c 0; have N25b_1 := N25b.c 1; have N25b_2 := N25b.c 2; have N25b_3 := N25b.c 3; have N25b_4 := N25b.c 4; simp only [List.getElem?_cons_zero, List.getElem?_cons_succ] at N25b_0 N25b_1 N25b_2 N25b_3 N25b_4
                  have f25 := N25b.f
                  go_simp
                  have hq2 := psat_met hq1 N25b [.int .i64 m9.id, .int .i64 m9.ep, .string m9.anchor, .int .i64 m9.start.1, .int .i64 m9.start.2]
                  have hS2 := below_setAll g25 [.int .i64 m9.id, .int .i64 m9.ep, .string m9.anchor, .int .i64 m9.start.1, .int .i64 m9.start.2] 0 hS1
                  refine hK.out _ _ hS2 (fun _ => ?_)
                  clear hK K N25b_0 N25b_1 N25b_2 N25b_3 N25b_4 f25 N25b hq1 hS1
                  change wpAnyH _ _ _ _ _ _ _ _ (setAll We n25 0 [.int .i64 m9.id, .int .i64 m9.ep, .string m9.anchor, .int .i64 m9.start.1, .int .i64 m9.start.2])
                  generalize setAll We n25 0 [.int .i64 m9.id, .int .i64 m9.ep, .string m9.anchor, .int .i64 m9.start.1, .int .i64 m9.start.2] = Wf at *
                  refine wpAnyH_ready (rs := [21]) (by kernel_rfl) (by simp) ?_
                  refine AllReadyH.cons rfl (fun K hK => ?_) AllReadyH.nil
                  go_simp
                  refine hK.out _ _ hS2 (fun _ => ?_)
                  clear hK K
                  refine wpAnyH_done (by kernel_rfl) ?_ _
                  go_wp2
                  go_meet
                  exact ⟨p9, c9, rfl, rfl, hq2, hS2⟩
              · go_simp
                have N25 := Blk.new Wd #[.int .i64 0, .int .i64 0, .string ⟨#[]⟩, .int .i64 0, .int .i64 0] 30
                have g25 := hSS.size
                have hal := (Below.refl Wd.heap.size Wd).alloc (Nat.le_refl _) (.cells #[.int .i64 0, .int .i64 0, .string ⟨#[]⟩, .int .i64 0, .int .i64 0] 30)
                replace hSS := hSS.alloc hSS.size (.cells #[.int .i64 0, .int .i64 0, .string ⟨#[]⟩, .int .i64 0, .int .i64 0] 30)
                refine hK.out _ _ hSS (fun _ => ?_)
                clear hK K
                generalize Wd.alloc _ = Wa at *
                generalize Wd.heap.size = n25 at N25 g25  ⊢
                clear hal
                refine wpAnyH_ready (rs := [10, 16]) (by kernel_rfl) (by simp) ?_
                refine AllReadyH.cons rfl (fun K hK => ?_) (AllReadyH.cons rfl (fun K hK => ?_) AllReadyH.nil)
                · go_wp2_with (go_at_call 16; refine (hr1 _ hSS).mono ?_; rintro e9 w9 ⟨p9, c9, s9, m9, rfl, hp9, hb9, hbw⟩; have HZ := hide (And.intro hp9 hb9); clear hp9 hb9)
                  obtain ⟨hp9, hb9⟩ := unhide HZ
                  replace hSS := hbw
                  clear HZ hr1
                  refine hK.out _ _ hSS (fun _ => ?_)
                  clear hK K hSK
                  refine held_take 11 143 rfl rfl (by kernel_rfl) (by kernel_rfl) (by kernel_rfl) (fun _ _ _ h => h) (by rfl) hSS (v := ?_) ?_ ?_
                  rotate_left
                  · intro y _
                    go_simp
                    with_reducible rfl
                  simp only [Act.put, List.setIfInBounds_toArray, List.set_cons_zero, List.set_cons_succ]
                  refine held_take 12 155 rfl rfl (by kernel_rfl) (by kernel_rfl) (by kernel_rfl) (fun _ _ _ h => h) (by rfl) hSS (v := ?_) ?_ ?_
                  rotate_left
                  · intro y _
                    go_simp
                    with_reducible rfl
                  simp only [Act.put, List.setIfInBounds_toArray, List.set_cons_zero, List.set_cons_succ]
                  refine held_take 13 156 rfl rfl (by kernel_rfl) (by kernel_rfl) (by kernel_rfl) (fun _ _ _ h => h) (by rfl) hSS (v := ?_) ?_ ?_
                  rotate_left
                  · intro y _
                    go_simp
                    with_reducible rfl
                  simp only [Act.put, List.setIfInBounds_toArray, List.set_cons_zero, List.set_cons_succ]
                  refine held_take 14 157 rfl rfl (by kernel_rfl) (by kernel_rfl) (by kernel_rfl) (fun _ _ _ h => h) (by rfl) hSS (v := ?_) ?_ ?_
                  rotate_left
                  · intro y _
                    go_simp
                    with_reducible rfl
                  simp only [Act.put, List.setIfInBounds_toArray, List.set_cons_zero, List.set_cons_succ]
                  refine held_take 15 158 rfl rfl (by kernel_rfl) (by kernel_rfl) (by kernel_rfl) (fun _ _ _ h => h) (by rfl) hSS (v := ?_) ?_ ?_
                  rotate_left
                  · intro y _
                    go_simp
                    with_reducible rfl
                  simp only [Act.put, List.setIfInBounds_toArray, List.set_cons_zero, List.set_cons_succ]
                  replace N25 := N25.later hb9
                  clear hb9
                  refine wpAnyH_ready (rs := [16]) (by kernel_rfl) (by simp) ?_
                  refine AllReadyH.cons rfl (fun K hK => ?_) AllReadyH.nil
                  have hne := N25.lt
                  go_simp
                  have N24 := Blk.new w9 #[.int .i64 0, .int .i64 0] 28
                  have g24 := hSS.size
                  have hal := (Below.refl w9.heap.size w9).alloc (Nat.le_refl _) (.cells #[.int .i64 0, .int .i64 0] 28)
                  replace hSS := hSS.alloc hSS.size (.cells #[.int .i64 0, .int .i64 0] 28)
                  refine hK.out _ _ hSS (fun _ => ?_)
                  clear hK K
                  generalize w9.alloc _ = Wb at *
                  generalize w9.heap.size = n24 at N24 g24 hne ⊢
                  replace hp9 := hp9.later hal
                  replace hne : n25 ≠ n24 := Nat.ne_of_lt hne
                  replace N25 := N25.later hal
                  clear hal
                  refine wpAnyH_ready (rs := [18]) (by kernel_rfl) (by simp) ?_
                  refine AllReadyH.cons rfl (fun K hK => ?_) AllReadyH.nil
                  go_simp
                  refine hK.out _ _ hSS (fun _ => ?_)
                  clear hK K
                  refine wpAnyH_ready (rs := [19]) (by kernel_rfl) (by simp) ?_
                  refine AllReadyH.cons rfl (fun K hK => ?_) AllReadyH.nil
                  have N24_0 := N24.c 0; have N24_1 := N24.c 1; simp only [List.getElem?_cons_zero, List.getElem?_cons_succ] at N24_0 N24_1
                  have f24 := N24.f
                  go_simp
                  have hq1 := psat_stp hp9 N24 [.int .i64 s9.fst, .int .i64 s9.snd]
                  have N25b := Blk.others (C := n24) hne [.int .i64 s9.fst, .int .i64 s9.snd] 0 N25
                  have hS1 := below_setAll g24 [.int .i64 s9.fst, .int .i64 s9.snd] 0 hSS
                  refine hK.out _ _ hS1 (fun _ => ?_)
                  clear hK K N24_0 N24_1 f24 N25 N24 hp9 hSS
                  change wpAnyH _ _ _ _ _ _ _ _ (setAll Wb n24 0 [.int .i64 s9.fst, .int .i64 s9.snd])
                  generalize setAll Wb n24 0 [.int .i64 s9.fst, .int .i64 s9.snd] = We at *
                  refine wpAnyH_ready (rs := [20]) (by kernel_rfl) (by simp) ?_
                  refine AllReadyH.cons rfl (fun K hK => ?_) AllReadyH.nil
                  have N25b_0 := N25b.c 0; have N25b_1 := N25b.c 1; have N25b_2 := N25b.c 2; have N25b_3 := N25b.c 3; have N25b_4 := N25b.c 4; simp only [List.getElem?_cons_zero, List.getElem?_cons_succ] at N25b_0 N25b_1 N25b_2 N25b_3 N25b_4
                  have f25 := N25b.f
                  go_simp
                  have hq2 := psat_met hq1 N25b [.int .i64 m9.id, .int .i64 m9.ep, .string m9.anchor, .int .i64 m9.start.1, .int .i64 m9.start.2]
                  have hS2 := below_setAll g25 [.int .i64 m9.id, .int .i64 m9.ep, .string m9.anchor, .int .i64 m9.start.1, .int .i64 m9.start.2] 0 hS1
                  refine hK.out _ _ hS2 (fun _ => ?_)
                  clear hK K N25b_0 N25b_1 N25b_2 N25b_3 N25b_4 f25 N25b hq1 hS1
                  change wpAnyH _ _ _ _ _ _ _ _ (setAll We n25 0 [.int .i64 m9.id, .int .i64 m9.ep, .string m9.anchor, .int .i64 m9.start.1, .int .i64 m9.start.2])
                  generalize setAll We n25 0 [.int .i64 m9.id, .int .i64 m9.ep, .string m9.anchor, .int .i64 m9.start.1, .int .i64 m9.start.2] = Wf at *
                  refine wpAnyH_ready (rs := [21]) (by kernel_rfl) (by simp) ?_
                  refine AllReadyH.cons rfl (fun K hK => ?_) AllReadyH.nil
                  go_simp
                  refine hK.out _ _ hS2 (fun _ => ?_)
                  clear hK K
                  refine wpAnyH_done (by kernel_rfl) ?_ _
                  go_wp2
                  go_meet
                  exact ⟨p9, c9, rfl, rfl, hq2, hS2⟩
                · have hne := N25.lt
                  go_simp
                  have N24 := Blk.new Wa #[.int .i64 0, .int .i64 0] 28
                  have g24 := hSS.size
                  have hal := (Below.refl Wa.heap.size Wa).alloc (Nat.le_refl _) (.cells #[.int .i64 0, .int .i64 0] 28)
                  replace hSS := hSS.alloc hSS.size (.cells #[.int .i64 0, .int .i64 0] 28)
                  refine hK.out _ _ hSS (fun _ => ?_)
                  clear hK K
                  generalize Wa.alloc _ = Wb at *
                  generalize Wa.heap.size = n24 at N24 g24 hne ⊢
                  replace hne : n25 ≠ n24 := Nat.ne_of_lt hne
                  replace N25 := N25.later hal
                  clear hal
                  refine wpAnyH_ready (rs := [10]) (by kernel_rfl) (by simp) ?_
                  refine AllReadyH.cons rfl (fun K hK => ?_) AllReadyH.nil
                  go_wp2_with (go_at_call 16; refine (hr1 _ hSS).mono ?_; rintro e9 w9 ⟨p9, c9, s9, m9, rfl, hp9, hb9, hbw⟩; have HZ := hide (And.intro hp9 hb9); clear hp9 hb9)
                  obtain ⟨hp9, hb9⟩ := unhide HZ
                  replace hSS := hbw
                  clear HZ hr1
                  refine hK.out _ _ hSS (fun _ => ?_)
                  clear hK K hSK
                  refine held_take 11 143 rfl rfl (by kernel_rfl) (by kernel_rfl) (by kernel_rfl) (fun _ _ _ h => h) (by rfl) hSS (v := ?_) ?_ ?_
                  rotate_left
                  · intro y _
                    go_simp
                    with_reducible rfl
                  simp only [Act.put, List.setIfInBounds_toArray, List.set_cons_zero, List.set_cons_succ]
                  refine held_take 12 155 rfl rfl (by kernel_rfl) (by kernel_rfl) (by kernel_rfl) (fun _ _ _ h => h) (by rfl) hSS (v := ?_) ?_ ?_
                  rotate_left
                  · intro y _
                    go_simp
                    with_reducible rfl
                  simp only [Act.put, List.setIfInBounds_toArray, List.set_cons_zero, List.set_cons_succ]
                  refine held_take 13 156 rfl rfl (by kernel_rfl) (by kernel_rfl) (by kernel_rfl) (fun _ _ _ h => h) (by rfl) hSS (v := ?_) ?_ ?_
                  rotate_left
                  · intro y _
                    go_simp
                    with_reducible rfl
                  simp only [Act.put, List.setIfInBounds_toArray, List.set_cons_zero, List.set_cons_succ]
                  refine held_take 14 157 rfl rfl (by kernel_rfl) (by kernel_rfl) (by kernel_rfl) (fun _ _ _ h => h) (by rfl) hSS (v := ?_) ?_ ?_
                  rotate_left
                  · intro y _
                    go_simp
                    with_reducible rfl
                  simp only [Act.put, List.setIfInBounds_toArray, List.set_cons_zero, List.set_cons_succ]
                  refine held_take 15 158 rfl rfl (by kernel_rfl) (by kernel_rfl) (by kernel_rfl) (fun _ _ _ h => h) (by rfl) hSS (v := ?_) ?_ ?_
                  rotate_left
                  · intro y _
                    go_simp
                    with_reducible rfl
                  simp only [Act.put, List.setIfInBounds_toArray, List.set_cons_zero, List.set_cons_succ]
                  replace N24 := N24.later hb9
                  replace N25 := N25.later hb9
                  clear hb9
                  refine wpAnyH_ready (rs := [18]) (by kernel_rfl) (by simp) ?_
                  refine AllReadyH.cons rfl (fun K hK => ?_) AllReadyH.nil
                  go_simp
                  refine hK.out _ _ hSS (fun _ => ?_)
                  clear hK K
                  refine wpAnyH_ready (rs := [19]) (by kernel_rfl) (by simp) ?_
                  refine AllReadyH.cons rfl (fun K hK => ?_) AllReadyH.nil
                  have N24_0 := N24.c 0; have N24_1 := N24.c 1; simp only [List.getElem?_cons_zero, List.getElem?_cons_succ] at N24_0 N24_1
                  have f24 := N24.f
                  go_simp
                  have hq1 := psat_stp hp9 N24 [.int .i64 s9.fst, .int .i64 s9.snd]
                  have N25b := Blk.others (C := n24) hne [.int .i64 s9.fst, .int .i64 s9.snd] 0 N25
                  have hS1 := below_setAll g24 [.int .i64 s9.fst, .int .i64 s9.snd] 0 hSS
                  refine hK.out _ _ hS1 (fun _ => ?_)
                  clear hK K N24_0 N24_1 f24 N25 N24 hp9 hSS
                  change wpAnyH _ _ _ _ _ _ _ _ (setAll w9 n24 0 [.int .i64 s9.fst, .int .i64 s9.snd])
                  generalize setAll w9 n24 0 [.int .i64 s9.fst, .int .i64 s9.snd] = We at *
                  refine wpAnyH_ready (rs := [20]) (by kernel_rfl) (by simp) ?_
                  refine AllReadyH.cons rfl (fun K hK => ?_) AllReadyH.nil
                  have N25b_0 := N25b.c 0; have N25b_1 := N25b.c 1; have N25b_2 := N25b.c 2; have N25b_3 := N25b.c 3; have N25b_4 := N25b.c 4; simp only [List.getElem?_cons_zero, List.getElem?_cons_succ] at N25b_0 N25b_1 N25b_2 N25b_3 N25b_4
                  have f25 := N25b.f
                  go_simp
                  have hq2 := psat_met hq1 N25b [.int .i64 m9.id, .int .i64 m9.ep, .string m9.anchor, .int .i64 m9.start.1, .int .i64 m9.start.2]
                  have hS2 := below_setAll g25 [.int .i64 m9.id, .int .i64 m9.ep, .string m9.anchor, .int .i64 m9.start.1, .int .i64 m9.start.2] 0 hS1
                  refine hK.out _ _ hS2 (fun _ => ?_)
                  clear hK K N25b_0 N25b_1 N25b_2 N25b_3 N25b_4 f25 N25b hq1 hS1
                  change wpAnyH _ _ _ _ _ _ _ _ (setAll We n25 0 [.int .i64 m9.id, .int .i64 m9.ep, .string m9.anchor, .int .i64 m9.start.1, .int .i64 m9.start.2])
                  generalize setAll We n25 0 [.int .i64 m9.id, .int .i64 m9.ep, .string m9.anchor, .int .i64 m9.start.1, .int .i64 m9.start.2] = Wf at *
                  refine wpAnyH_ready (rs := [21]) (by kernel_rfl) (by simp) ?_
                  refine AllReadyH.cons rfl (fun K hK => ?_) AllReadyH.nil
                  go_simp
                  refine hK.out _ _ hS2 (fun _ => ?_)
                  clear hK K
                  refine wpAnyH_done (by kernel_rfl) ?_ _
                  go_wp2
                  go_meet
                  exact ⟨p9, c9, rfl, rfl, hq2, hS2⟩
            case rest =>
              clear hr1 hf1 A hck A_0 A_1 A_2 A_3
              obtain ⟨p9, c9, rfl, rfl, Hq⟩ := hcut
              have K := (unhide HKc).later (unhide Hq).2
              replace Hl := hide ((unhide Hl).later (unhide Hq).2)
              have Hp9 := hide (unhide Hq).1
              have hf1 := fun W' (hb : Below wc.heap.size wc W') => refresh1 K.sto (unhide Hex).2 (-1) x y W' hb
              simp only [(unhide Hpe).2.2] at hf1
              have hck := ((unhide Hks).later (unhide Hl).bel)
              obtain ⟨_, _, e0, hc⟩ := hck (by simpa using (by omega : 0 < L.length))
              obtain ⟨rfl, rfl⟩ : kb = _ ∧ kq = _ := by injection e0 with e0; injection e0 with e1 e2; exact ⟨e1, e2⟩
              clear e0 hck
              have hck := hc k (by simpa using hlt)
              rw [List.getElem_map, (unhide Hex).1] at hck
              clear hc HKc Hq
              have A := K.A
              clear K
              have A_0 := A.c 0; have A_1 := A.c 1; have A_2 := A.c 2; have A_3 := A.c 3; simp only [List.getElem?_cons_zero, List.getElem?_cons_succ] at A_0 A_1 A_2 A_3
              go_upto_region 27 with fail
              go_cut [28] (fun ev wx => ev = .int .i64 fe ∧ Hid (Below wc.heap.size wc wx))
              case first =>
                clear Hl Hp9
                have hSK : ∀ w', Below wc.heap.size wc w' → (w'.cell? ⟨kb, kq + k, none⟩ = some (.string e.key) ∧ w'.cell? ⟨w.heap.size + 1, 0, none⟩ = some (.int .i64 x.fst) ∧ w'.cell? ⟨w.heap.size + 1, 1, none⟩ = some (.int .i64 x.snd) ∧ w'.cell? ⟨w.heap.size + 1, 2, none⟩ = some (.int .i64 y.fst) ∧ w'.cell? ⟨w.heap.size + 1, 3, none⟩ = some (.int .i64 y.snd)) := fun w' hb =>
                  ⟨(hb.cell (World.block_lt_of_cell? _ _ hck)).trans hck, (hb.cell (World.block_lt_of_cell? _ _ A_0)).trans A_0, (hb.cell (World.block_lt_of_cell? _ _ A_1)).trans A_1, (hb.cell (World.block_lt_of_cell? _ _ A_2)).trans A_2, (hb.cell (World.block_lt_of_cell? _ _ A_3)).trans A_3⟩
                clear A_0 A_1 A_2 A_3 A hck
                refine wp_region_held_drew (S := fun w' => Below wc.heap.size wc w') (by kernel_rfl) (Below.refl _ _).drew (fun hSS => ?_)
                generalize wc.drew = Wd at *
                refine held_take 0 160 rfl rfl (by kernel_rfl) (by kernel_rfl) (by kernel_rfl) (fun _ _ _ h => h) (by rfl) hSS (v := ?_) ?_ ?_
                rotate_left
                · intro y hSy
                  obtain ⟨hy0, hy1, hy2, hy3, hy4⟩ := hSK y hSy
                  go_simp
                  with_reducible rfl
                simp only [Act.put, List.setIfInBounds_toArray, List.set_cons_zero, List.set_cons_succ]
                refine held_take 1 161 rfl rfl (by kernel_rfl) (by kernel_rfl) (by kernel_rfl) (fun _ _ _ h => h) (by rfl) hSS (v := ?_) ?_ ?_
                rotate_left
                · intro y hSy
                  obtain ⟨hy0, hy1, hy2, hy3, hy4⟩ := hSK y hSy
                  go_simp
                  with_reducible rfl
                simp only [Act.put, List.setIfInBounds_toArray, List.set_cons_zero, List.set_cons_succ]
                refine held_take 2 162 rfl rfl (by kernel_rfl) (by kernel_rfl) (by kernel_rfl) (fun _ _ _ h => h) (by rfl) hSS (v := ?_) ?_ ?_
                rotate_left
                · intro y hSy
                  obtain ⟨hy0, hy1, hy2, hy3, hy4⟩ := hSK y hSy
                  go_simp
                  with_reducible rfl
                simp only [Act.put, List.setIfInBounds_toArray, List.set_cons_zero, List.set_cons_succ]
                refine held_take 3 163 rfl rfl (by kernel_rfl) (by kernel_rfl) (by kernel_rfl) (fun _ _ _ h => h) (by rfl) hSS (v := ?_) ?_ ?_
                rotate_left
                · intro y hSy
                  obtain ⟨hy0, hy1, hy2, hy3, hy4⟩ := hSK y hSy
                  go_simp
                  with_reducible rfl
                simp only [Act.put, List.setIfInBounds_toArray, List.set_cons_zero, List.set_cons_succ]
                refine held_take 4 164 rfl rfl (by kernel_rfl) (by kernel_rfl) (by kernel_rfl) (fun _ _ _ h => h) (by rfl) hSS (v := ?_) ?_ ?_
                rotate_left
                · intro y hSy
                  obtain ⟨hy0, hy1, hy2, hy3, hy4⟩ := hSK y hSy
                  go_simp
                  with_reducible rfl
                simp only [Act.put, List.setIfInBounds_toArray, List.set_cons_zero, List.set_cons_succ]
                refine held_take 5 165 rfl rfl (by kernel_rfl) (by kernel_rfl) (by kernel_rfl) (fun _ _ _ h => h) (by rfl) hSS (v := ?_) ?_ ?_
                rotate_left
                · intro y hSy
                  obtain ⟨hy0, hy1, hy2, hy3, hy4⟩ := hSK y hSy
                  go_simp
                  with_reducible rfl
                simp only [Act.put, List.setIfInBounds_toArray, List.set_cons_zero, List.set_cons_succ]
                refine held_take 6 166 rfl rfl (by kernel_rfl) (by kernel_rfl) (by kernel_rfl) (fun _ _ _ h => h) (by rfl) hSS (v := ?_) ?_ ?_
                rotate_left
                · intro y hSy
                  obtain ⟨hy0, hy1, hy2, hy3, hy4⟩ := hSK y hSy
                  go_simp
                  with_reducible rfl
                simp only [Act.put, List.setIfInBounds_toArray, List.set_cons_zero, List.set_cons_succ]
                refine held_take 7 167 rfl rfl (by kernel_rfl) (by kernel_rfl) (by kernel_rfl) (fun _ _ _ h => h) (by rfl) hSS (v := ?_) ?_ ?_
                rotate_left
                · intro y hSy
                  obtain ⟨hy0, hy1, hy2, hy3, hy4⟩ := hSK y hSy
                  go_simp
                  with_reducible rfl
                simp only [Act.put, List.setIfInBounds_toArray, List.set_cons_zero, List.set_cons_succ]
                refine held_take 8 168 rfl rfl (by kernel_rfl) (by kernel_rfl) (by kernel_rfl) (fun _ _ _ h => h) (by rfl) hSS (v := ?_) ?_ ?_
                rotate_left
                · intro y hSy
                  obtain ⟨hy0, hy1, hy2, hy3, hy4⟩ := hSK y hSy
                  go_simp
                  with_reducible rfl
                simp only [Act.put, List.setIfInBounds_toArray, List.set_cons_zero, List.set_cons_succ]
                refine held_take 9 169 rfl rfl (by kernel_rfl) (by kernel_rfl) (by kernel_rfl) (fun _ _ _ h => h) (by rfl) hSS (v := ?_) ?_ ?_
                rotate_left
                · intro y hSy
                  obtain ⟨hy0, hy1, hy2, hy3, hy4⟩ := hSK y hSy
                  go_simp
                  with_reducible rfl
                simp only [Act.put, List.setIfInBounds_toArray, List.set_cons_zero, List.set_cons_succ]
                refine wpAnyH_ready (rs := [10, 14]) (by kernel_rfl) (by simp) ?_
                refine AllReadyH.cons rfl (fun K hK => ?_) (AllReadyH.cons rfl (fun K hK => ?_) AllReadyH.nil)
                · go_wp2_with (go_at_call 17; refine (hf1 _ hSS).mono ?_; rintro e9 w9 ⟨m9, rfl, hb9, hbw⟩; have HZ := hide hb9; clear hb9)
                  have hb9 := unhide HZ
                  replace hSS := hbw
                  clear HZ hf1
                  refine hK.out _ _ hSS (fun _ => ?_)
                  clear hK K hSK
                  refine held_take 11 159 rfl rfl (by kernel_rfl) (by kernel_rfl) (by kernel_rfl) (fun _ _ _ h => h) (by rfl) hSS (v := ?_) ?_ ?_
                  rotate_left
                  · intro y _
                    go_simp
                    with_reducible rfl
                  simp only [Act.put, List.setIfInBounds_toArray, List.set_cons_zero, List.set_cons_succ]
                  refine held_take 12 171 rfl rfl (by kernel_rfl) (by kernel_rfl) (by kernel_rfl) (fun _ _ _ h => h) (by rfl) hSS (v := ?_) ?_ ?_
                  rotate_left
                  · intro y _
                    go_simp
                    with_reducible rfl
                  simp only [Act.put, List.setIfInBounds_toArray, List.set_cons_zero, List.set_cons_succ]
                  refine held_take 13 172 rfl rfl (by kernel_rfl) (by kernel_rfl) (by kernel_rfl) (fun _ _ _ h => h) (by rfl) hSS (v := ?_) ?_ ?_
                  rotate_left
                  · intro y _
                    go_simp
                    with_reducible rfl
                  simp only [Act.put, List.setIfInBounds_toArray, List.set_cons_zero, List.set_cons_succ]
                  refine wpAnyH_ready (rs := [14]) (by kernel_rfl) (by simp) ?_
                  refine AllReadyH.cons rfl (fun K hK => ?_) AllReadyH.nil
                  clear hb9
                  go_simp
                  have N25 := Blk.new w9 #[.int .i64 0, .int .i64 0, .string ⟨#[]⟩, .int .i64 0, .int .i64 0] 30
                  have g25 := hSS.size
                  have hal := (Below.refl w9.heap.size w9).alloc (Nat.le_refl _) (.cells #[.int .i64 0, .int .i64 0, .string ⟨#[]⟩, .int .i64 0, .int .i64 0] 30)
                  replace hSS := hSS.alloc hSS.size (.cells #[.int .i64 0, .int .i64 0, .string ⟨#[]⟩, .int .i64 0, .int .i64 0] 30)
                  refine hK.out _ _ hSS (fun _ => ?_)
                  clear hK K
                  generalize w9.alloc _ = Wb at *
                  generalize w9.heap.size = n25 at N25 g25  ⊢
                  clear hal
                  refine wpAnyH_ready (rs := [15]) (by kernel_rfl) (by simp) ?_
                  refine AllReadyH.cons rfl (fun K hK => ?_) AllReadyH.nil
                  have N25_0 := N25.c 0; have N25_1 := N25.c 1; have N25_2 := N25.c 2; have N25_3 := N25.c 3; have N25_4 := N25.c 4; simp only [List.getElem?_cons_zero, List.getElem?_cons_succ] at N25_0 N25_1 N25_2 N25_3 N25_4
                  have f25 := N25.f
                  go_simp
                  have hS2 := below_setAll g25 [.int .i64 m9.id, .int .i64 m9.ep, .string m9.anchor, .int .i64 m9.start.1, .int .i64 m9.start.2] 0 hSS
                  refine hK.out _ _ hS2 (fun _ => ?_)
                  clear hK K N25_0 N25_1 N25_2 N25_3 N25_4 f25 N25
                  change wpAnyH _ _ _ _ _ _ _ _ (setAll Wb n25 0 [.int .i64 m9.id, .int .i64 m9.ep, .string m9.anchor, .int .i64 m9.start.1, .int .i64 m9.start.2])
                  generalize setAll Wb n25 0 [.int .i64 m9.id, .int .i64 m9.ep, .string m9.anchor, .int .i64 m9.start.1, .int .i64 m9.start.2] = Wf at *
                  refine wpAnyH_ready (rs := [16]) (by kernel_rfl) (by simp) ?_
                  refine AllReadyH.cons rfl (fun K hK => ?_) AllReadyH.nil
                  go_simp
                  refine hK.out _ _ hS2 (fun _ => ?_)
                  clear hK K
                  refine wpAnyH_done (by kernel_rfl) ?_ _
                  go_wp2
                  go_meet
                  exact ⟨rfl, hS2⟩
                · go_simp
                  have N25 := Blk.new Wd #[.int .i64 0, .int .i64 0, .string ⟨#[]⟩, .int .i64 0, .int .i64 0] 30
                  have g25 := hSS.size
                  have hal := (Below.refl Wd.heap.size Wd).alloc (Nat.le_refl _) (.cells #[.int .i64 0, .int .i64 0, .string ⟨#[]⟩, .int .i64 0, .int .i64 0] 30)
                  replace hSS := hSS.alloc hSS.size (.cells #[.int .i64 0, .int .i64 0, .string ⟨#[]⟩, .int .i64 0, .int .i64 0] 30)
                  refine hK.out _ _ hSS (fun _ => ?_)
                  clear hK K
                  generalize Wd.alloc _ = Wa at *
                  generalize Wd.heap.size = n25 at N25 g25  ⊢
                  clear hal
                  refine wpAnyH_ready (rs := [10]) (by kernel_rfl) (by simp) ?_
                  refine AllReadyH.cons rfl (fun K hK => ?_) AllReadyH.nil
                  go_wp2_with (go_at_call 17; refine (hf1 _ hSS).mono ?_; rintro e9 w9 ⟨m9, rfl, hb9, hbw⟩; have HZ := hide hb9; clear hb9)
                  have hb9 := unhide HZ
                  replace hSS := hbw
                  clear HZ hf1
                  refine hK.out _ _ hSS (fun _ => ?_)
                  clear hK K hSK
                  refine held_take 11 159 rfl rfl (by kernel_rfl) (by kernel_rfl) (by kernel_rfl) (fun _ _ _ h => h) (by rfl) hSS (v := ?_) ?_ ?_
                  rotate_left
                  · intro y _
                    go_simp
                    with_reducible rfl
                  simp only [Act.put, List.setIfInBounds_toArray, List.set_cons_zero, List.set_cons_succ]
                  refine held_take 12 171 rfl rfl (by kernel_rfl) (by kernel_rfl) (by kernel_rfl) (fun _ _ _ h => h) (by rfl) hSS (v := ?_) ?_ ?_
                  rotate_left
                  · intro y _
                    go_simp
                    with_reducible rfl
                  simp only [Act.put, List.setIfInBounds_toArray, List.set_cons_zero, List.set_cons_succ]
                  refine held_take 13 172 rfl rfl (by kernel_rfl) (by kernel_rfl) (by kernel_rfl) (fun _ _ _ h => h) (by rfl) hSS (v := ?_) ?_ ?_
                  rotate_left
                  · intro y _
                    go_simp
                    with_reducible rfl
                  simp only [Act.put, List.setIfInBounds_toArray, List.set_cons_zero, List.set_cons_succ]
                  replace N25 := N25.later hb9
                  clear hb9
                  refine wpAnyH_ready (rs := [15]) (by kernel_rfl) (by simp) ?_
                  refine AllReadyH.cons rfl (fun K hK => ?_) AllReadyH.nil
                  have N25_0 := N25.c 0; have N25_1 := N25.c 1; have N25_2 := N25.c 2; have N25_3 := N25.c 3; have N25_4 := N25.c 4; simp only [List.getElem?_cons_zero, List.getElem?_cons_succ] at N25_0 N25_1 N25_2 N25_3 N25_4
                  have f25 := N25.f
                  go_simp
                  have hS2 := below_setAll g25 [.int .i64 m9.id, .int .i64 m9.ep, .string m9.anchor, .int .i64 m9.start.1, .int .i64 m9.start.2] 0 hSS
                  refine hK.out _ _ hS2 (fun _ => ?_)
                  clear hK K N25_0 N25_1 N25_2 N25_3 N25_4 f25 N25
                  change wpAnyH _ _ _ _ _ _ _ _ (setAll w9 n25 0 [.int .i64 m9.id, .int .i64 m9.ep, .string m9.anchor, .int .i64 m9.start.1, .int .i64 m9.start.2])
                  generalize setAll w9 n25 0 [.int .i64 m9.id, .int .i64 m9.ep, .string m9.anchor, .int .i64 m9.start.1, .int .i64 m9.start.2] = Wf at *
                  refine wpAnyH_ready (rs := [16]) (by kernel_rfl) (by simp) ?_
                  refine AllReadyH.cons rfl (fun K hK => ?_) AllReadyH.nil
                  go_simp
                  refine hK.out _ _ hS2 (fun _ => ?_)
                  clear hK K
                  refine wpAnyH_done (by kernel_rfl) ?_ _
                  go_wp2
                  go_meet
                  exact ⟨rfl, hS2⟩
              case rest =>
                clear hf1 A hck A_0 A_1 A_2 A_3
                obtain ⟨rfl, Hq⟩ := hcut
                replace Hl := hide ((unhide Hl).later (unhide Hq))
                replace Hp9 := hide ((unhide Hp9).later (unhide Hq))
                clear Hq
                obtain ⟨wd, hwd⟩ : ∃ wd, wd = wc := ⟨_, rfl⟩
                subst wc
                go_upto_region 28 with fail
                go_cut [19] (fun u wx => u = .bool (rd && (ge == 0)) ∧ wx = wd)
                case first =>
                  cases rd
                  · go_wp2_with fail
                    go_meet
                    exact ⟨rfl, rfl⟩
                  · go_wp2_with fail
                    go_meet
                    exact ⟨rfl, rfl⟩
                case rest =>
                  obtain ⟨rfl, rfl⟩ := hcut
                  generalize hrd2 : (rd && (ge == 0)) = rd2 at *
                  go_upto_region 29 with fail
                  go_cut [20] (fun u wx => u = .bool (fr && (fe == 0)) ∧ wx = wc)
                  case first =>
                    cases fr
                    · go_wp2_with fail
                      go_meet
                      exact ⟨rfl, rfl⟩
                    · go_wp2_with fail
                      go_meet
                      exact ⟨rfl, rfl⟩
                  case rest =>
                    obtain ⟨rfl, rfl⟩ := hcut
                    generalize hfr2 : (fr && (fe == 0)) = fr2 at *
                    have hB1 := (unhide Hl).bel.size
                    have Hrf := hide (And.intro hrd2 hfr2)
                    clear hrd2 hfr2
                    go_wp2_with (at_builtin; refine wpList_append_pairs _ rfl (.tmp 183) (.tmp 184) rfl w7.heap.size ?hB1 u18 ((inE f t (L.take k)).flatMap (rdP x y (-1) 0)) rfl ?hI1 p9 pe.length c9 pe rfl ?hx1 rfl ?hn1 ?_)
                    case hB1 => exact hB1
                    case hI1 => exact (unhide Hl).own
                    case hx1 => exact unhide Hp9
                    case hn1 =>
                      have q1 := pairs_le x y (-1) 0 (inE f t (L.take k))
                      have q2 := inE_le f t (L.take k)
                      rw [List.length_take] at q2
                      have q3 := one_le x y (-1) 0 e
                      rw [(unhide Hpe).1] at q3
                      omega
                    intro v' w' ho hg
                    have HN : Hid (KLp w7 f t x y L (k + 1) v' rd2 fr2 w') := hide (by
                      have q := (unhide Hl).some hlt (unhide Hex).1 (unhide Hh) (by rw [(unhide Hpe).1]; exact ho) hg
                      rw [(unhide Hpe).2.1, (unhide Hpe).2.2, (unhide Hrf).1, (unhide Hrf).2] at q
                      exact q)
                    clear Hl ho hg Hp9
                    go_wp2
                    go_roundw
                    case rel => exact ⟨k + 1, rd2, fr2, by go_num, rfl, rfl, by omega, unhide HN⟩
                    case measure => simp [intOf]; omega
      case neg =>
        obtain rfl : k = L.length := by omega
        have hl := unhide Hl
        clear Hl Hks
        have htk : L.take L.length = L := List.take_length
        obtain ⟨m1, m2⟩ : (rd = true ↔ ∀ e ∈ inE f t L, rdE x y (-1) 0 e = 0) ∧ (fr = true ↔ ∀ e ∈ inE f t L, rfE (-1) x y e = 0) := by
          have q1 := hl.rd
          have q2 := hl.fr
          rw [htk] at q1 q2
          exact ⟨q1, q2⟩
        have ho := hl.own
        rw [htk] at ho
        have hB := (unhide HK).bel.trans (hl.bel.mono (unhide HK).bel.size)
        have hps := (unhide HP).later hl.bel
        clear HP HK hl htk
        obtain ⟨both, hbo⟩ : ∃ both, (inE f t L).flatMap (rdP x y (-1) 0) = both := ⟨_, rfl⟩
        rw [hbo] at ho
        obtain ⟨bo, bc, rfl, hps2⟩ := ho.ps
        clear ho
        have hfr : fr = (ef == 0) := by
          have q := keys_refresh (unhide Hz) L (-1) x y
          rw [unhide HF] at q
          rw [Bool.eq_iff_iff, m2, beq_iff_eq]
          exact q.symm
        obtain ⟨fb, hfb⟩ : ∃ fb, (ef == 0) = fb := ⟨_, rfl⟩
        rw [hfb] at hfr
        subst hfr
        by_cases h50 : both.length < 50
        case neg =>
          clear HR HF hps hps2 m1 m2
          go_wp2_with fail
          refine (hA _).mono ?_
          rintro e wq ⟨rfl, hbq⟩
          have HB := hide (hB.trans (hbq.mono hB.size))
          clear hbq hB
          go_wp2
          go_ret
          exact ⟨rfl, unhide HB⟩
        obtain ⟨k1, k2⟩ := keys_read (unhide Hz) L x y (-1) 0 (by rw [hbo]; exact h50)
        rw [unhide HR] at k1 k2
        simp only at k1 k2
        rw [hbo] at k2
        have hrd : rd = (er == 0) := by
          rw [Bool.eq_iff_iff, m1, beq_iff_eq]
          exact k1.symm
        obtain ⟨rb, hrb⟩ : ∃ rb, (er == 0) = rb := ⟨_, rfl⟩
        rw [hrb] at hrd
        subst hrd
        have Hk2 : Hid (rd = true → ps = both) := hide (fun q => k2 (by rw [← beq_iff_eq, hrb, q]))
        clear HR HF m1 m2 k1 k2 hbo
        go_wp2_with fail
        refine (hA _).mono ?_
        rintro e9 wq ⟨rfl, hbq⟩
        replace hB := hB.trans (hbq.mono hB.size)
        replace hps := hps.later hbq
        replace hps2 := hps2.later hbq
        clear hbq
        cases rd
        case false =>
          clear hps hps2
          have HB := hide hB
          clear hB
          go_wp2
          go_ret
          exact ⟨rfl, unhide HB⟩
        case true =>
          obtain rfl := unhide Hk2 rfl
          have hS := samepairs_yes qo bo qc bc ps wq hps hps2 (by omega)
          clear hps hps2 Hk2
          go_wp2_with fail
          refine hS.mono ?_
          clear hS
          rintro e9 wr9 ⟨rfl, hbr⟩
          have HB := hide (hB.trans (hbr.mono hB.size))
          clear hB hbr
          go_wp2
          go_ret
          exact ⟨rfl, unhide HB⟩
end

end Go.Proofs.Ytcdehnghggleoaa
