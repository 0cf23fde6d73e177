/-
  The contract of Put. No law is proved here.
-/
import Derived.Test.YtcdehnghggleoaaGreatSt7
namespace Go.Proofs.YtcdehnghggleoaaGreat
open Go.RowKit Go.Maps
set_option linter.unusedVariables false

/-- What is put: the chain's answer, the errors ahead of it. -/
def putA (l : List Ent) (k : ByteArray) (i : Itn) : Stp × Met × Int :=
  if S5.keyB k = true then (if valB i.val i.gone = true then ((writeC (entAt l k).c i).2.1, (writeC (entAt l k).c i).2.2.1, (writeC (entAt l k).c i).2.2.2) else ((0, 0), Met.zero, 1)) else ((0, 0), Met.zero, 51)
/-- What a store has then. -/
def putL (l l' : List Ent) (k : ByteArray) (i : Itn) : Prop :=
  if S5.keyB k = true ∧ valB i.val i.gone = true ∧ (writeC (entAt l k).c i).2.2.2 = 0 then ∃ ao cap, l' = setE l ⟨k, ao, cap, (writeC (entAt l k).c i).1⟩ else l' = l

theorem results_sme {fn : Func} {k1 k2 k3 : Nat} (hf : fn.results = #[.cell k1 36, .cell k2 38, .tmp k3]) {tmps : Array Value} {w : World} {B1 B2 : Nat} (s : Stp) (m : Met) {y : Value}
    (hk1 : tmps[k1]? = some (.pointer (some ⟨B1, 0, none⟩))) (hk2 : tmps[k2]? = some (.pointer (some ⟨B2, 0, none⟩))) (hk3 : tmps[k3]? = some y)
    (h1 : Blk w B1 [.int .i64 s.1, .int .i64 s.2]) (h2 : Blk w B2 [.int .i64 m.id, .int .i64 m.ep, .string m.anchor, .int .i64 m.start.1, .int .i64 m.start.2]) : (results fn tmps).run Tryz.prog w = .ok (.tuple #[(.agg #[.int .i64 s.1, .int .i64 s.2]), (.agg #[.int .i64 m.id, .int .i64 m.ep, .string m.anchor, .int .i64 m.start.1, .int .i64 m.start.2]), y]) w := by
  simp [results, hf, go_sem, h1.c, h2.c, hk1, hk2, hk3]

section
set_option maxRecDepth 100000
set_option maxHeartbeats 2000000

theorem keep_alloc {W y : World} (h : Below W.heap.size W y) (o : Obj) : Below W.heap.size W (y.alloc o) := h.alloc h.size o
theorem keep_call {W y z : World} (h : Below W.heap.size W y) (hb : Below y.heap.size y z) : Below W.heap.size W z := h.trans (hb.mono h.size)
theorem keep_set {W y : World} {p : Addr} {v : Value} (h : Below W.heap.size W y) (hp : W.heap.size ≤ p.block) : Below W.heap.size W (y.setCell p v) := h.setCell hp v

theorem wpAnyH_cast {P : Program} {md : Region.Mode} {ops : Array Oper} {Q : Exit → Act → World → Prop} {S : World → Prop} {fuel : Nat} {l l' : Array Bool} {a : Act} {w : World} (e : l = l') (h : wpAnyH P md ops Q S fuel l' a w) : wpAnyH P md ops Q S fuel l a w := e ▸ h
theorem wpAnyH_world {P : Program} {md : Region.Mode} {ops : Array Oper} {Q : Exit → Act → World → Prop} {S : World → Prop} {fuel : Nat} {l : Array Bool} {a : Act} {w w' : World} (e : w = w') (h : wpAnyH P md ops Q S fuel l a w') : wpAnyH P md ops Q S fuel l a w := e ▸ h
theorem wpAnyH_named {P : Program} {md : Region.Mode} {ops : Array Oper} {Q : Exit → Act → World → Prop} {S : World → Prop} {fuel : Nat} {l : Array Bool} {a : Act} {w : World} (h : ∀ ops' Q', ops' = ops → Q' = Q → wpAnyH P md ops' Q' S fuel l a w) : wpAnyH P md ops Q S fuel l a w := h ops Q rfl rfl

/-- How much there is. -/
def Room (w : World) (b : Nat) (l : List Ent) (N : Nat) : Prop := (∃ n, w.ownsMap Tryz.prog 9 rv b n (DL l) ∧ n ≤ N) ∧ ∀ e ∈ l, e.c.vs.length ≤ N

theorem Vs.mapped {w w' : World} {b : Nat} {ao : Option Addr} {c : Nat} {vs : List Ver} (h : Vs w ao c vs) (hb : ∃ o : Obj, w.heap[b]? = some o ∧ o.isCells = false) (hg : w.grownBy w' (some b)) : Vs w' ao c vs :=
  ⟨h.le, h.cm, h.nil, fun i hi => by
    obtain ⟨g, o, e, hv⟩ := h.each i hi
    refine ⟨g, o, e, hv.block (hg.block g hv.lt fun e' => ?_)⟩
    obtain ⟨u, hu, huc⟩ := hb
    obtain ⟨u', hu', huc'⟩ := cells_of_cell hv.c0
    cases e'
    simp only at hu'
    rw [hu] at hu'
    cases hu'
    rw [huc] at huc'
    cases huc'⟩

theorem put_store {w : World} {a b N : Nat} {l : List Ent} {k : ByteArray} (h : Sto w a b l) (hr : Room w b l N) (hN : N < 1000000) (x : Ent) (hx : x.key = k) (hv : Vs w x.ao x.cap x.c.vs) (hkey : S5.keyB k = true) (hlen : x.c.vs.length ≤ N + 1) :
    ∃ w2, (Instr.mapUpdate 66 (.map (some b)) (.string k) x.v).run Tryz.prog w = .ok () w2 ∧ Sto w2 a b (setE l x) ∧ Room w2 b (setE l x) (N + 1) ∧ w.grownBy w2 (some b) := by
  subst hx
  obtain ⟨⟨n, hn, hnN⟩, hl⟩ := hr
  have hk8 := key_le hkey
  obtain ⟨w2, hrun, ho, hg⟩ := hn.update (t := 66) (e := 61) keyed Tryz.underlying66 (by unfold maxLen; omega) (keyOf_s (k := x.key) (by unfold maxLen; omega)) (val := x.v) (d := .held x.v) (ps := []) rfl
  have hc := ho.canon keyed
  rw [put_DL h.rise x hc] at ho
  have hb : ∃ o : Obj, w.heap[b]? = some o ∧ o.isCells = false := by
    obtain ⟨es, clock, hb, _⟩ := hn
    exact ⟨_, hb, rfl⟩
  have hmem : ∀ e, e ∈ setE l x → e = x ∨ e ∈ l := fun e he => by
    rcases (mem_setE h.rise).1 he with q | q
    · exact .inl q
    · exact .inr q.1
  refine ⟨w2, hrun, ⟨(hg.block a h.lta (fun e => h.ne (by cases e; rfl))).trans h.at_, ⟨n + 1, ho, by omega⟩, rise_setE h.rise, fun e he => ?_, fun e he => ?_, fun e he => ?_⟩, ⟨⟨n + 1, ho, by omega⟩, fun e he => ?_⟩, hg⟩
  · rcases hmem e he with rfl | q
    · exact hkey
    · exact h.keys e q
  · rcases hmem e he with rfl | q
    · exact hv.mapped hb hg
    · exact (h.vs e q).mapped hb hg
  · rcases hmem e he with rfl | q
    · omega
    · exact h.lim e q
  · rcases hmem e he with rfl | q
    · exact hlen
    · have := hl e q
      omega

theorem Room.later {w w' : World} {b N : Nat} {l : List Ent} (h : Room w b l N) (hb : Below w.heap.size w w') : Room w' b l N := by
  obtain ⟨⟨n, hn, hN⟩, hl⟩ := h
  exact ⟨⟨n, hn.kept (row := none) ⟨hb.os, hb.tape, hb.output, hb.size, fun k hk _ => hb.block k hk⟩ (by simp), hN⟩, hl⟩

theorem Sto.notb {w : World} {a b B : Nat} {l : List Ent} {cs : List Value} (h : Sto w a b l) (hB : Blk w B cs) (h0 : 0 < cs.length) : some B ≠ some b := fun e => by
  obtain ⟨n, ⟨es, clock, hb, _⟩, _⟩ := h.own
  have h1 := hB.c 0
  rw [List.getElem?_eq_getElem h0] at h1
  obtain ⟨u, hu, huc⟩ := cells_of_cell h1
  cases e
  simp only at hu
  rw [hb] at hu
  cases hu
  cases huc

theorem Sto.move {w w' : World} {a b : Nat} {l : List Ent} (h : Sto w a b l) (ha : w'.heap[a]? = w.heap[a]?) (hb : w'.heap[b]? = w.heap[b]?) (hv : ∀ e ∈ l, Vs w' e.ao e.cap e.c.vs) : Sto w' a b l := by
  obtain ⟨n, ⟨es, clock, hb0, r⟩, hn⟩ := h.own
  exact ⟨ha.trans h.at_, ⟨n, ⟨es, clock, hb.trans hb0, r⟩, hn⟩, h.rise, h.keys, hv, h.lim⟩
theorem Room.move {w w' : World} {b N : Nat} {l : List Ent} (h : Room w b l N) (hb : w'.heap[b]? = w.heap[b]?) : Room w' b l N := by
  obtain ⟨⟨n, ⟨es, clock, hb0, r⟩, hn⟩, hl⟩ := h
  exact ⟨⟨n, ⟨es, clock, hb.trans hb0, r⟩, hn⟩, hl⟩
theorem two {W : World} {b1 b2 : Nat} {c1 c2 : List Value} (h1 : Blk W b1 c1) (h2 : Blk W b2 c2) (r1 r2 : List Value) (l1 : r1.length = c1.length) (l2 : r2.length = c2.length) (n : b1 < b2) :
    Blk (setAll (setAll W b1 0 r1) b2 0 r2) b1 r1 ∧ Blk (setAll (setAll W b1 0 r1) b2 0 r2) b2 r2 :=
  ⟨Blk.others (by omega) r2 0 (h1.all r1 l1), (Blk.others (by omega) r1 0 h2).all r2 l2⟩
theorem grown_of_below {w w' : World} (hb : Below w.heap.size w w') (row : Option Nat) : w.grownBy w' row := ⟨hb.os, hb.tape, hb.output, hb.size, fun k hk _ => hb.block k hk⟩

theorem Sto.drew {w : World} {a b : Nat} {l : List Ent} (h : Sto w a b l) : Sto w.drew a b l := h.later ((Below.refl _ _).drew)
theorem Room.drew {w : World} {b N : Nat} {l : List Ent} (h : Room w b l N) : Room w.drew b l N := h.later ((Below.refl _ _).drew)
theorem grown_drew {w w' : World} {row : Option Nat} (h : w.grownBy w' row) : w.grownBy w'.drew row := ⟨h.os, h.tape, h.output, h.size, h.block⟩

theorem grown_all {w : World} {row : Option Nat} {b : Nat} (hb : w.heap.size ≤ b) : ∀ (cs : List Value) {X : World} (k : Nat), w.grownBy X row → w.grownBy (setAll X b k cs) row
  | [], _, _, h => h
  | c :: q, X, k, h => by rw [setAll]; exact grown_all hb q (k + 1) (h.andThen (grown_cell X ⟨b, k, none⟩ c) (fun j e => (by cases e; exact .inl hb)))

theorem put_any (a b N : Nat) (l : List Ent) (k : ByteArray) (i : Itn) (w : World) (h : Sto w a b l) (hroom : Room w b l N) (hN : N < 1000000) (hk : k.size ≤ 1000) :
    Calls Tryz.prog 10 #[.pointer (some ⟨a, 0, none⟩), .string k, (.agg #[.int .i64 i.txn.id, .int .i64 i.txn.ep, .string i.txn.anchor, .int .i64 i.txn.start.1, .int .i64 i.txn.start.2, .int .i64 i.seq, .int .i64 i.at_.1, .int .i64 i.at_.2, .string i.val, .bool i.gone])] w fun e w' => ∃ l', e = .returned (.tuple #[(.agg #[.int .i64 (putA l k i).1.1, .int .i64 (putA l k i).1.2]), (.agg #[.int .i64 (putA l k i).2.1.id, .int .i64 (putA l k i).2.1.ep, .string (putA l k i).2.1.anchor, .int .i64 (putA l k i).2.1.start.1, .int .i64 (putA l k i).2.1.start.2]), .int .i64 (putA l k i).2.2]) ∧ Sto w' a b l' ∧ Room w' b l' (N + 1) ∧ putL l l' k i ∧ w.grownBy w' (some b) := by
  have hroom' : Room w b l (N + 1) := ⟨by obtain ⟨n, h1, h2⟩ := hroom.1; exact ⟨n, h1, by omega⟩, fun e he => by have := hroom.2 e he; omega⟩
  obtain ⟨P, hP⟩ : ∃ P, putA l k i = P := ⟨_, rfl⟩
  rw [hP]
  unfold putA at hP
  have hKy := fun w' => S5.key_any k w'
  have hVl := fun w' => value_any i.val i.gone w'
  have I := ((Blk.new w #[.int .i64 i.txn.id, .int .i64 i.txn.ep, .string i.txn.anchor, .int .i64 i.txn.start.1, .int .i64 i.txn.start.2, .int .i64 i.seq, .int .i64 i.at_.1, .int .i64 i.at_.2, .string i.val, .bool i.gone] 42).alloc (.cells #[.int .i64 0, .int .i64 0] 36)).alloc (.cells #[.int .i64 0, .int .i64 0, .string ⟨#[]⟩, .int .i64 0, .int .i64 0] 38)
  have Q1 := (Blk.new (w.alloc (.cells #[.int .i64 i.txn.id, .int .i64 i.txn.ep, .string i.txn.anchor, .int .i64 i.txn.start.1, .int .i64 i.txn.start.2, .int .i64 i.seq, .int .i64 i.at_.1, .int .i64 i.at_.2, .string i.val, .bool i.gone] 42)) #[.int .i64 0, .int .i64 0] 36).alloc (.cells #[.int .i64 0, .int .i64 0, .string ⟨#[]⟩, .int .i64 0, .int .i64 0] 38)
  rw [show (w.alloc (.cells #[.int .i64 i.txn.id, .int .i64 i.txn.ep, .string i.txn.anchor, .int .i64 i.txn.start.1, .int .i64 i.txn.start.2, .int .i64 i.seq, .int .i64 i.at_.1, .int .i64 i.at_.2, .string i.val, .bool i.gone] 42)).heap.size = w.heap.size + 1 by simp] at Q1
  have Q2 := Blk.new ((w.alloc (.cells #[.int .i64 i.txn.id, .int .i64 i.txn.ep, .string i.txn.anchor, .int .i64 i.txn.start.1, .int .i64 i.txn.start.2, .int .i64 i.seq, .int .i64 i.at_.1, .int .i64 i.at_.2, .string i.val, .bool i.gone] 42)).alloc (.cells #[.int .i64 0, .int .i64 0] 36)) #[.int .i64 0, .int .i64 0, .string ⟨#[]⟩, .int .i64 0, .int .i64 0] 38
  rw [show ((w.alloc (.cells #[.int .i64 i.txn.id, .int .i64 i.txn.ep, .string i.txn.anchor, .int .i64 i.txn.start.1, .int .i64 i.txn.start.2, .int .i64 i.seq, .int .i64 i.at_.1, .int .i64 i.at_.2, .string i.val, .bool i.gone] 42)).alloc (.cells #[.int .i64 0, .int .i64 0] 36)).heap.size = w.heap.size + 1 + 1 by simp] at Q2
  have hB : Below w.heap.size w (((w.alloc (.cells #[.int .i64 i.txn.id, .int .i64 i.txn.ep, .string i.txn.anchor, .int .i64 i.txn.start.1, .int .i64 i.txn.start.2, .int .i64 i.seq, .int .i64 i.at_.1, .int .i64 i.at_.2, .string i.val, .bool i.gone] 42)).alloc (.cells #[.int .i64 0, .int .i64 0] 36)).alloc (.cells #[.int .i64 0, .int .i64 0, .string ⟨#[]⟩, .int .i64 0, .int .i64 0] 38)) := (((Below.refl w.heap.size w).alloc (Nat.le_refl _) _).alloc (by simp) _).alloc (by simp; omega) _
  by_cases h1 : S5.keyB k = true
  · by_cases h2 : valB i.val i.gone = true
    · rw [if_pos h1, if_pos h2] at hP
      rw [h1] at hKy
      rw [h2] at hVl
      obtain ⟨hv, hl⟩ := entAt_vs h k
      obtain ⟨E, hE⟩ : ∃ E, entAt l k = E := ⟨_, rfl⟩
      have hlk := fun w' (hb : Below w.heap.size w w') => look_one (h.later hb) hk
      rw [hE] at hv hl hP hlk
      obtain ⟨ky, ao, cap, ⟨vs, o, it⟩⟩ := E
      simp only at hv hl hP
      simp only [Ent.v, chV] at hlk
      have hWr := fun w' (hb : Below w.heap.size w w') => write_any ao cap vs o it i w' (hv.later hb) (by omega)
      obtain ⟨⟨⟨yv, yo, yi⟩, st, mt, er⟩, hX⟩ : ∃ X, writeC ⟨vs, o, it⟩ i = X := ⟨_, rfl⟩
      rw [hX] at hWr hP
      simp only at hWr hP
      subst hP
      obtain ⟨nv, hnv⟩ : ∃ nv, vs.length = nv := ⟨_, rfl⟩
      obtain ⟨ny, hny⟩ : ∃ ny, yv.length = ny := ⟨_, rfl⟩
      simp only [hnv, hny] at hlk hWr
      have hca := (h.later hB).cell
      go_enter Tryz.func10, Tryz.ntmps10
      go_wp2_with fail
      generalize ((w.alloc _).alloc _).alloc _ = W at *
      refine (hKy W).mono ?_
      rintro e w1 ⟨rfl, rfl⟩
      have I_0 := I.c 0; have I_1 := I.c 1; have I_2 := I.c 2; have I_3 := I.c 3; have I_4 := I.c 4; have I_5 := I.c 5; have I_6 := I.c 6; have I_7 := I.c 7; have I_8 := I.c 8; have I_9 := I.c 9; simp only [List.getElem?_cons_zero, List.getElem?_cons_succ] at I_0 I_1 I_2 I_3 I_4 I_5 I_6 I_7 I_8 I_9
      go_wp2_with fail
      refine (hVl w1).mono ?_
      rintro e w2 ⟨rfl, rfl⟩
      go_wp2_with fail
      have k0 : ∀ y, Below w2.heap.size w2 y → y.cell? ⟨a, 0, none⟩ = some (.map (some b)) := fun y hb => (hb.cell (World.block_lt_of_cell? w2 _ hca)).trans hca
      have hI : ∀ y, Below w2.heap.size w2 y → Blk y w.heap.size [.int .i64 i.txn.id, .int .i64 i.txn.ep, .string i.txn.anchor, .int .i64 i.txn.start.1, .int .i64 i.txn.start.2, .int .i64 i.seq, .int .i64 i.at_.1, .int .i64 i.at_.2, .string i.val, .bool i.gone] := fun y hb => I.later hb
      have ki0 := fun y hb => (hI y hb).c 0
      have ki1 := fun y hb => (hI y hb).c 1
      have ki2 := fun y hb => (hI y hb).c 2
      have ki3 := fun y hb => (hI y hb).c 3
      have ki4 := fun y hb => (hI y hb).c 4
      have ki5 := fun y hb => (hI y hb).c 5
      have ki6 := fun y hb => (hI y hb).c 6
      have ki7 := fun y hb => (hI y hb).c 7
      have ki8 := fun y hb => (hI y hb).c 8
      have ki9 := fun y hb => (hI y hb).c 9
      simp only [List.getElem?_cons_zero, List.getElem?_cons_succ] at ki0 ki1 ki2 ki3 ki4 ki5 ki6 ki7 ki8 ki9
      have kl : ∀ y, Below w2.heap.size w2 y → (Instr.lookup 66 (.map (some b)) (.string k) false).run Tryz.prog y = .ok (.agg #[.slice ao nv cap, .bool o, .int .i64 it.txn.id, .int .i64 it.txn.ep, .string it.txn.anchor, .int .i64 it.txn.start.1, .int .i64 it.txn.start.2, .int .i64 it.seq, .int .i64 it.at_.1, .int .i64 it.at_.2, .string it.val, .bool it.gone]) y := fun y hb => hlk y (hB.trans (hb.mono hB.size))
      have kw : ∀ y, Below w2.heap.size w2 y → _ := fun y hb => hWr y (hB.trans (hb.mono hB.size))
      clear hI hca I_0 I_1 I_2 I_3 I_4 I_5 I_6 I_7 I_8 I_9 hlk hKy hVl hWr
      refine wp_region_held_drew (S := fun y => Below w2.heap.size w2 y) (by kernel_rfl) ((Below.refl _ _).drew) (fun hS => ?_)
      generalize w2.drew = V0 at *
      refine held_take 0 31 rfl rfl (by kernel_rfl) (by kernel_rfl) (by kernel_rfl) (fun _ _ _ h => h) (by rfl) hS (v := ?_) ?_ ?_
      rotate_left
      · intro y hSy
        skip
        clear hSy
        go_simp
        with_reducible rfl
      simp only [Act.put, List.setIfInBounds_toArray, List.set_cons_zero, List.set_cons_succ]
      refine held_take 1 32 rfl rfl (by kernel_rfl) (by kernel_rfl) (by kernel_rfl) (fun _ _ _ h => h) (by rfl) hS (v := ?_) ?_ ?_
      rotate_left
      · intro y hSy
        skip
        clear hSy
        go_simp
        with_reducible rfl
      simp only [Act.put, List.setIfInBounds_toArray, List.set_cons_zero, List.set_cons_succ]
      refine held_take 2 33 rfl rfl (by kernel_rfl) (by kernel_rfl) (by kernel_rfl) (fun _ _ _ h => h) (by rfl) hS (v := ?_) ?_ ?_
      rotate_left
      · intro y hSy
        skip
        clear hSy
        go_simp
        with_reducible rfl
      simp only [Act.put, List.setIfInBounds_toArray, List.set_cons_zero, List.set_cons_succ]
      refine held_take 4 35 rfl rfl (by kernel_rfl) (by kernel_rfl) (by kernel_rfl) (fun _ _ _ h => h) (by rfl) hS (v := ?_) ?_ ?_
      rotate_left
      · intro y hSy
        skip
        clear hSy
        go_simp
        with_reducible rfl
      simp only [Act.put, List.setIfInBounds_toArray, List.set_cons_zero, List.set_cons_succ]
      refine held_take 3 34 rfl rfl (by kernel_rfl) (by kernel_rfl) (by kernel_rfl) (fun _ _ _ h => h) (by rfl) hS (v := ?_) ?_ ?_
      rotate_left
      · intro y hSy
        have z := k0 y hSy
        clear hSy
        go_simp
        with_reducible rfl
      simp only [Act.put, List.setIfInBounds_toArray, List.set_cons_zero, List.set_cons_succ]
      refine held_take 6 37 rfl rfl (by kernel_rfl) (by kernel_rfl) (by kernel_rfl) (fun _ _ _ h => h) (by rfl) hS (v := ?_) ?_ ?_
      rotate_left
      · intro y hSy
        have z0 := ki0 y hSy; have z1 := ki1 y hSy; have z2 := ki2 y hSy; have z3 := ki3 y hSy; have z4 := ki4 y hSy; have z5 := ki5 y hSy; have z6 := ki6 y hSy; have z7 := ki7 y hSy; have z8 := ki8 y hSy; have z9 := ki9 y hSy
        clear hSy
        go_simp
        with_reducible rfl
      simp only [Act.put, List.setIfInBounds_toArray, List.set_cons_zero, List.set_cons_succ]
      refine held_take 5 36 rfl rfl (by kernel_rfl) (by kernel_rfl) (by kernel_rfl) (fun _ _ _ h => h) (by rfl) hS (v := ?_) ?_ ?_
      rotate_left
      · intro y hSy
        have z := kl y hSy
        clear hSy
        go_simp
        with_reducible rfl
      simp only [Act.put, List.setIfInBounds_toArray, List.set_cons_zero, List.set_cons_succ]
      refine wpAnyH_cast (l' := #[true, true, true, true, true, true, true, false, false, false, false, false, false, false, false, false, false, false, false, false]) (by kernel_rfl) ?_
      refine wpAnyH_named ?_
      intro ops Q0 hops hQ0
      have Nc012 : ∀ (V : World) (B13 B14 B15 : Nat) (bo : Option Addr) (d : Nat), Below w2.heap.size w2 V → Blk V B13 [.slice none 0 0, .bool false, .int .i64 0, .int .i64 0, .string ⟨#[]⟩, .int .i64 0, .int .i64 0, .int .i64 0, .int .i64 0, .int .i64 0, .string ⟨#[]⟩, .bool false] → w2.heap.size ≤ B13 → Blk V B14 [.int .i64 0, .int .i64 0] → w2.heap.size ≤ B14 → Blk V B15 [.int .i64 0, .int .i64 0, .string ⟨#[]⟩, .int .i64 0, .int .i64 0] → w2.heap.size ≤ B15 → B13 ≠ B14 → B13 ≠ B15 → B14 ≠ B15 → VOwn w2.heap.size V bo d yv → (∀ g, (Value.slice bo yv.length d).ownBlock = some g → g ≠ B13) → (∀ g, (Value.slice bo yv.length d).ownBlock = some g → g ≠ B14) → (∀ g, (Value.slice bo yv.length d).ownBlock = some g → g ≠ B15) → wpAnyH Tryz.prog .any ops Q0 (fun y => Below w2.heap.size w2 y) 4 #[true, true, true, true, true, true, true, true, true, true, true, true, true, true, true, true, false, false, false, false] { tmps := #[.pointer (some ⟨a, 0, none⟩), .string k, .agg #[.int .i64 i.txn.id, .int .i64 i.txn.ep, .string i.txn.anchor, .int .i64 i.txn.start.fst, .int .i64 i.txn.start.snd, .int .i64 i.seq, .int .i64 i.at_.fst, .int .i64 i.at_.snd, .string i.val, .bool i.gone], undef, undef, .pointer (some ⟨w.heap.size, 0, none⟩), .pointer (some ⟨w.heap.size + 1, 0, none⟩), .pointer (some ⟨w.heap.size + 1 + 1, 0, none⟩), .int .i64 0, .pointer (some ⟨B13, 0, none⟩), .pointer (some ⟨B14, 0, none⟩), .pointer (some ⟨B15, 0, none⟩), undef, .pointer (some ⟨a, 0, none⟩), .bool false, undef, undef, .string k, .bool true, .bool false, undef, undef, .pointer (some ⟨w.heap.size, 8, none⟩), .string i.val, .pointer (some ⟨w.heap.size, 9, none⟩), .bool i.gone, .bool true, .bool false, undef, undef, .tuple #[.agg #[.slice bo ny d, .bool yo, .int .i64 yi.txn.id, .int .i64 yi.txn.ep, .string yi.txn.anchor, .int .i64 yi.txn.start.1, .int .i64 yi.txn.start.2, .int .i64 yi.seq, .int .i64 yi.at_.1, .int .i64 yi.at_.2, .string yi.val, .bool yi.gone], (.agg #[.int .i64 st.1, .int .i64 st.2]), (.agg #[.int .i64 mt.id, .int .i64 mt.ep, .string mt.anchor, .int .i64 mt.start.1, .int .i64 mt.start.2]), .int .i64 er], .pointer (some ⟨a, 0, none⟩), .pointer (some ⟨a, 0, none⟩), .pointer (some ⟨a, 0, none⟩), .map (some b), .string k, .agg #[.slice ao nv cap, .bool o, .int .i64 it.txn.id, .int .i64 it.txn.ep, .string it.txn.anchor, .int .i64 it.txn.start.fst, .int .i64 it.txn.start.snd, .int .i64 it.seq, .int .i64 it.at_.fst, .int .i64 it.at_.snd, .string it.val, .bool it.gone], .agg #[.int .i64 i.txn.id, .int .i64 i.txn.ep, .string i.txn.anchor, .int .i64 i.txn.start.fst, .int .i64 i.txn.start.snd, .int .i64 i.seq, .int .i64 i.at_.fst, .int .i64 i.at_.snd, .string i.val, .bool i.gone], .tuple #[.agg #[.slice bo ny d, .bool yo, .int .i64 yi.txn.id, .int .i64 yi.txn.ep, .string yi.txn.anchor, .int .i64 yi.txn.start.1, .int .i64 yi.txn.start.2, .int .i64 yi.seq, .int .i64 yi.at_.1, .int .i64 yi.at_.2, .string yi.val, .bool yi.gone], (.agg #[.int .i64 st.1, .int .i64 st.2]), (.agg #[.int .i64 mt.id, .int .i64 mt.ep, .string mt.anchor, .int .i64 mt.start.1, .int .i64 mt.start.2]), .int .i64 er], .agg #[.slice bo ny d, .bool yo, .int .i64 yi.txn.id, .int .i64 yi.txn.ep, .string yi.txn.anchor, .int .i64 yi.txn.start.1, .int .i64 yi.txn.start.2, .int .i64 yi.seq, .int .i64 yi.at_.1, .int .i64 yi.at_.2, .string yi.val, .bool yi.gone], (.agg #[.int .i64 st.1, .int .i64 st.2]), (.agg #[.int .i64 mt.id, .int .i64 mt.ep, .string mt.anchor, .int .i64 mt.start.1, .int .i64 mt.start.2]), .int .i64 er, undef, undef, undef, undef, undef, undef, undef, undef, undef, undef, undef], defers := [] } V := by
        intro V B13 B14 B15 bo d hV hB13 hl13 hB14 hl14 hB15 hl15 hn1314 hn1315 hn1415 hvy hd13 hd14 hd15
        subst hops
        subst hQ0
        have hS := hV
        have f13 := hB13.f
        have f14 := hB14.f
        have f15 := hB15.f
        have hB13' := hB13
        have hB14' := hB14
        have hB15' := hB15
        have hB13_0 := hB13'.c 0; have hB13_1 := hB13'.c 1; have hB13_2 := hB13'.c 2; have hB13_3 := hB13'.c 3; have hB13_4 := hB13'.c 4; have hB13_5 := hB13'.c 5; have hB13_6 := hB13'.c 6; have hB13_7 := hB13'.c 7; have hB13_8 := hB13'.c 8; have hB13_9 := hB13'.c 9; have hB13_10 := hB13'.c 10; have hB13_11 := hB13'.c 11; simp only [List.getElem?_cons_zero, List.getElem?_cons_succ] at hB13_0 hB13_1 hB13_2 hB13_3 hB13_4 hB13_5 hB13_6 hB13_7 hB13_8 hB13_9 hB13_10 hB13_11
        have hB14_0 := hB14'.c 0; have hB14_1 := hB14'.c 1; simp only [List.getElem?_cons_zero, List.getElem?_cons_succ] at hB14_0 hB14_1
        have hB15_0 := hB15'.c 0; have hB15_1 := hB15'.c 1; have hB15_2 := hB15'.c 2; have hB15_3 := hB15'.c 3; have hB15_4 := hB15'.c 4; simp only [List.getElem?_cons_zero, List.getElem?_cons_succ] at hB15_0 hB15_1 hB15_2 hB15_3 hB15_4
        refine wpAnyH_ready (rs := [16]) (by kernel_rfl) (by simp) ?_
        refine AllReadyH.cons rfl (fun K hK => ?_) AllReadyH.nil
        go_simp
        have hS1 := below_setAll hl13 [.slice bo ny d, .bool yo, .int .i64 yi.txn.id, .int .i64 yi.txn.ep, .string yi.txn.anchor, .int .i64 yi.txn.start.1, .int .i64 yi.txn.start.2, .int .i64 yi.seq, .int .i64 yi.at_.1, .int .i64 yi.at_.2, .string yi.val, .bool yi.gone] 0 hS
        refine hK.out _ _ hS1 (fun _ => ?_)
        clear hK K
        refine wpAnyH_ready (rs := [17]) (by kernel_rfl) (by simp) ?_
        refine AllReadyH.cons rfl (fun K hK => ?_) AllReadyH.nil
        go_simp
        have hS2 := below_setAll hl14 [.int .i64 st.1, .int .i64 st.2] 0 hS1
        refine hK.out _ _ hS2 (fun _ => ?_)
        clear hK K
        refine wpAnyH_ready (rs := [18]) (by kernel_rfl) (by simp) ?_
        refine AllReadyH.cons rfl (fun K hK => ?_) AllReadyH.nil
        go_simp
        have hS3 := below_setAll hl15 [.int .i64 mt.id, .int .i64 mt.ep, .string mt.anchor, .int .i64 mt.start.1, .int .i64 mt.start.2] 0 hS2
        refine hK.out _ _ hS3 (fun hS => ?_)
        clear hK K
        refine held_take 19 12 rfl rfl (by kernel_rfl) (by kernel_rfl) (by kernel_rfl) (fun _ _ _ h => h) (by rfl) hS (v := ?_) ?_ ?_
        rotate_left
        · intro y hSy
          skip
          clear hSy
          go_simp
          with_reducible rfl
        simp only [Act.put, List.setIfInBounds_toArray, List.set_cons_zero, List.set_cons_succ]
        refine wpAnyH_world (w' := setAll (setAll (setAll V B13 0 [.slice bo ny d, .bool yo, .int .i64 yi.txn.id, .int .i64 yi.txn.ep, .string yi.txn.anchor, .int .i64 yi.txn.start.1, .int .i64 yi.txn.start.2, .int .i64 yi.seq, .int .i64 yi.at_.1, .int .i64 yi.at_.2, .string yi.val, .bool yi.gone]) B14 0 [.int .i64 st.1, .int .i64 st.2]) B15 0 [.int .i64 mt.id, .int .i64 mt.ep, .string mt.anchor, .int .i64 mt.start.1, .int .i64 mt.start.2]) rfl ?_
        have C1 : Blk (setAll (setAll (setAll V B13 0 [.slice bo ny d, .bool yo, .int .i64 yi.txn.id, .int .i64 yi.txn.ep, .string yi.txn.anchor, .int .i64 yi.txn.start.1, .int .i64 yi.txn.start.2, .int .i64 yi.seq, .int .i64 yi.at_.1, .int .i64 yi.at_.2, .string yi.val, .bool yi.gone]) B14 0 [.int .i64 st.1, .int .i64 st.2]) B15 0 [.int .i64 mt.id, .int .i64 mt.ep, .string mt.anchor, .int .i64 mt.start.1, .int .i64 mt.start.2]) B13 [.slice bo ny d, .bool yo, .int .i64 yi.txn.id, .int .i64 yi.txn.ep, .string yi.txn.anchor, .int .i64 yi.txn.start.1, .int .i64 yi.txn.start.2, .int .i64 yi.seq, .int .i64 yi.at_.1, .int .i64 yi.at_.2, .string yi.val, .bool yi.gone] := Blk.others hn1315 _ 0 (Blk.others hn1314 _ 0 (hB13.all _ rfl))
        have C2 : Blk (setAll (setAll (setAll V B13 0 [.slice bo ny d, .bool yo, .int .i64 yi.txn.id, .int .i64 yi.txn.ep, .string yi.txn.anchor, .int .i64 yi.txn.start.1, .int .i64 yi.txn.start.2, .int .i64 yi.seq, .int .i64 yi.at_.1, .int .i64 yi.at_.2, .string yi.val, .bool yi.gone]) B14 0 [.int .i64 st.1, .int .i64 st.2]) B15 0 [.int .i64 mt.id, .int .i64 mt.ep, .string mt.anchor, .int .i64 mt.start.1, .int .i64 mt.start.2]) B14 [.int .i64 st.1, .int .i64 st.2] := Blk.others hn1415 _ 0 ((Blk.others (fun e => hn1314 e.symm) _ 0 hB14).all _ rfl)
        have C3 : Blk (setAll (setAll (setAll V B13 0 [.slice bo ny d, .bool yo, .int .i64 yi.txn.id, .int .i64 yi.txn.ep, .string yi.txn.anchor, .int .i64 yi.txn.start.1, .int .i64 yi.txn.start.2, .int .i64 yi.seq, .int .i64 yi.at_.1, .int .i64 yi.at_.2, .string yi.val, .bool yi.gone]) B14 0 [.int .i64 st.1, .int .i64 st.2]) B15 0 [.int .i64 mt.id, .int .i64 mt.ep, .string mt.anchor, .int .i64 mt.start.1, .int .i64 mt.start.2]) B15 [.int .i64 mt.id, .int .i64 mt.ep, .string mt.anchor, .int .i64 mt.start.1, .int .i64 mt.start.2] := (Blk.others (fun e => hn1415 e.symm) _ 0 (Blk.others (fun e => hn1315 e.symm) _ 0 hB15)).all _ rfl
        have hvv : Vs (setAll (setAll (setAll V B13 0 [.slice bo ny d, .bool yo, .int .i64 yi.txn.id, .int .i64 yi.txn.ep, .string yi.txn.anchor, .int .i64 yi.txn.start.1, .int .i64 yi.txn.start.2, .int .i64 yi.seq, .int .i64 yi.at_.1, .int .i64 yi.at_.2, .string yi.val, .bool yi.gone]) B14 0 [.int .i64 st.1, .int .i64 st.2]) B15 0 [.int .i64 mt.id, .int .i64 mt.ep, .string mt.anchor, .int .i64 mt.start.1, .int .i64 mt.start.2]) bo d yv := hvy.vs.kept fun g o e _ => by
          subst e
          exact (heap_all (hd15 g rfl) _ 0).trans ((heap_all (hd14 g rfl) _ 0).trans (heap_all (hd13 g rfl) _ 0))
        have hB7 := hB.trans (hS3.mono hB.size)
        have hB2l : w.heap.size + 1 + 1 < w2.heap.size := Q2.lt
        have x1 : B14 ≠ w.heap.size + 1 := by omega
        have x2 : B14 ≠ w.heap.size + 1 + 1 := by omega
        have x3 : B15 ≠ w.heap.size + 1 := by omega
        have x4 : B15 ≠ w.heap.size + 1 + 1 := by omega
        have y1 := x1.symm
        have y2 := x2.symm
        have y3 := x3.symm
        have y4 := x4.symm
        have hvb : ∀ g o, bo = some ⟨g, o, none⟩ → w.heap.size + 1 + 1 < g := fun g o e => by
          subst e
          have h3 := (hvy.lt g rfl).1
          have h4 := Q2.lt
          omega
        have D1 := Q1.later hS3
        have D2 := Q2.later hS3
        clear hB13 hB14 hB15 hB13' hB14' hB15' hvy hd13 hd14 hd15 hS hS1 hS2 f13 f14 f15 hB13_0 hB13_1 hB13_2 hB13_3 hB13_4 hB13_5 hB13_6 hB13_7 hB13_8 hB13_9 hB13_10 hB13_11 hB14_0 hB14_1 hB15_0 hB15_1 hB15_2 hB15_3 hB15_4
        clear hn1314 hn1315 hn1415 hl13 hl14 hl15
        generalize setAll (setAll (setAll V B13 0 [.slice bo ny d, .bool yo, .int .i64 yi.txn.id, .int .i64 yi.txn.ep, .string yi.txn.anchor, .int .i64 yi.txn.start.1, .int .i64 yi.txn.start.2, .int .i64 yi.seq, .int .i64 yi.at_.1, .int .i64 yi.at_.2, .string yi.val, .bool yi.gone]) B14 0 [.int .i64 st.1, .int .i64 st.2]) B15 0 [.int .i64 mt.id, .int .i64 mt.ep, .string mt.anchor, .int .i64 mt.start.1, .int .i64 mt.start.2] = X at *
        refine wpAnyH_done (by kernel_rfl) ?_ _
        by_cases h0 : er = 0
        · subst h0
          go_upto_region 9 with fail
          have hX2 : yv.length ≤ N + 1 := by
            have h5 := (writeC_vs hX)
            simp only at h5
            rw [h5]
            unfold entAt at hE
            cases hg : getE l k with
            | none => rw [hg] at hE; cases hE; simp
            | some e =>
              rw [hg] at hE
              have h6 := hroom.2 e (getE_some hg).1
              obtain rfl : e = ⟨ky, ao, cap, ⟨vs, o, it⟩⟩ := hE
              simp only at h6
              omega
          obtain ⟨V2, hrun, hs2, hr2, hg2⟩ := put_store (h.later hB7).drew (hroom.later hB7).drew hN ⟨k, bo, d, ⟨yv, yo, yi⟩⟩ rfl (hvv.later (Below.refl _ _).drew) h1 hX2
          simp only [Ent.v, chV, hny] at hrun
          have hcx : X.drew.cell? ⟨a, 0, none⟩ = some (.map (some b)) := (h.later hB7).cell
          refine wp_region_held_drew (S := fun y => y.cell? ⟨a, 0, none⟩ = some (.map (some b)) ∧ Blk y B13 [.slice bo ny d, .bool yo, .int .i64 yi.txn.id, .int .i64 yi.txn.ep, .string yi.txn.anchor, .int .i64 yi.txn.start.1, .int .i64 yi.txn.start.2, .int .i64 yi.seq, .int .i64 yi.at_.1, .int .i64 yi.at_.2, .string yi.val, .bool yi.gone]) (by kernel_rfl) ⟨hcx, C1.drew⟩ (fun hS => ?_)
          have D1' := D1.drew.grown hg2 ((h.later hB7).notb D1 (by simp))
          have D2' := D2.drew.grown hg2 ((h.later hB7).notb D2 (by simp))
          have C2' := C2.drew.grown hg2 ((h.later hB7).notb C2 (by simp))
          have C3' := C3.drew.grown hg2 ((h.later hB7).notb C3 (by simp))
          clear hcx
          refine held_take 0 45 rfl rfl (by kernel_rfl) (by kernel_rfl) (by kernel_rfl) (fun _ _ _ h => h) (by rfl) hS (v := ?_) ?_ ?_
          rotate_left
          · intro y hSy
            skip
            clear hSy
            go_simp
            with_reducible rfl
          simp only [Act.put, List.setIfInBounds_toArray, List.set_cons_zero, List.set_cons_succ]
          refine held_take 1 46 rfl rfl (by kernel_rfl) (by kernel_rfl) (by kernel_rfl) (fun _ _ _ h => h) (by rfl) hS (v := ?_) ?_ ?_
          rotate_left
          · intro y hSy
            skip
            clear hSy
            go_simp
            with_reducible rfl
          simp only [Act.put, List.setIfInBounds_toArray, List.set_cons_zero, List.set_cons_succ]
          refine held_take 2 47 rfl rfl (by kernel_rfl) (by kernel_rfl) (by kernel_rfl) (fun _ _ _ h => h) (by rfl) hS (v := ?_) ?_ ?_
          rotate_left
          · intro y hSy
            skip
            clear hSy
            go_simp
            with_reducible rfl
          simp only [Act.put, List.setIfInBounds_toArray, List.set_cons_zero, List.set_cons_succ]
          refine held_take 4 49 rfl rfl (by kernel_rfl) (by kernel_rfl) (by kernel_rfl) (fun _ _ _ h => h) (by rfl) hS (v := ?_) ?_ ?_
          rotate_left
          · intro y hSy
            skip
            clear hSy
            go_simp
            with_reducible rfl
          simp only [Act.put, List.setIfInBounds_toArray, List.set_cons_zero, List.set_cons_succ]
          refine held_take 3 48 rfl rfl (by kernel_rfl) (by kernel_rfl) (by kernel_rfl) (fun _ _ _ h => h) (by rfl) hS (v := ?_) ?_ ?_
          rotate_left
          · intro y hSy
            have z := hSy.1
            clear hSy
            go_simp
            with_reducible rfl
          simp only [Act.put, List.setIfInBounds_toArray, List.set_cons_zero, List.set_cons_succ]
          refine held_take 5 50 rfl rfl (by kernel_rfl) (by kernel_rfl) (by kernel_rfl) (fun _ _ _ h => h) (by rfl) hS (v := ?_) ?_ ?_
          rotate_left
          · intro y hSy
            have zz := hSy.2; have zz_0 := zz.c 0; have zz_1 := zz.c 1; have zz_2 := zz.c 2; have zz_3 := zz.c 3; have zz_4 := zz.c 4; have zz_5 := zz.c 5; have zz_6 := zz.c 6; have zz_7 := zz.c 7; have zz_8 := zz.c 8; have zz_9 := zz.c 9; have zz_10 := zz.c 10; have zz_11 := zz.c 11; simp only [List.getElem?_cons_zero, List.getElem?_cons_succ] at zz_0 zz_1 zz_2 zz_3 zz_4 zz_5 zz_6 zz_7 zz_8 zz_9 zz_10 zz_11
            clear hSy
            go_simp
            with_reducible rfl
          simp only [Act.put, List.setIfInBounds_toArray, List.set_cons_zero, List.set_cons_succ]
          refine wpAnyH_ready (rs := [6]) (by kernel_rfl) (by simp) ?_
          refine AllReadyH.cons rfl (fun K hK => ?_) AllReadyH.nil
          go_simp
          refine hK.out _ _ ⟨hs2.cell, C1.drew.grown hg2 ((h.later hB7).notb C1 (by simp))⟩ (fun _ => ?_)
          clear hK K hrun
          refine wpAnyH_done (by kernel_rfl) ?_ _
          have hgw : w.grownBy V2 (some b) := (grown_of_below hB7.drew (some b)).trans hg2
          have hvx : ∀ e ∈ setE l ⟨k, bo, d, ⟨yv, yo, yi⟩⟩, Vs (setAll (setAll V2 (w.heap.size + 1) 0 [.int .i64 st.1, .int .i64 st.2]) (w.heap.size + 1 + 1) 0 [.int .i64 mt.id, .int .i64 mt.ep, .string mt.anchor, .int .i64 mt.start.1, .int .i64 mt.start.2]) e.ao e.cap e.c.vs := fun e he => by
            have hq := hs2.vs e he
            rcases (mem_setE h.rise).1 he with rfl | ⟨hel, _⟩
            · exact hq.kept fun g o e0 _ => (heap_all (b := w.heap.size + 1 + 1) (by have := hvb g o e0; omega) [.int .i64 mt.id, .int .i64 mt.ep, .string mt.anchor, .int .i64 mt.start.1, .int .i64 mt.start.2] 0).trans (heap_all (b := w.heap.size + 1) (by have := hvb g o e0; omega) [.int .i64 st.1, .int .i64 st.2] 0)
            · refine ⟨hq.le, hq.cm, hq.nil, fun i hi => ?_⟩
              obtain ⟨g, o, e0, hv0⟩ := (h.vs e hel).each i hi
              have hlt := hv0.lt
              refine ⟨g, o, e0, hv0.block (w := w) ?_⟩
              have hgb : some g ≠ some b := fun e1 => by
                obtain ⟨n, ⟨es, clock, hb, _⟩, _⟩ := h.own
                obtain ⟨u, hu, huc⟩ := cells_of_cell hv0.c0
                cases e1
                simp only at hu
                rw [hb] at hu
                cases hu
                cases huc
              exact (heap_all (b := w.heap.size + 1 + 1) (by omega) [.int .i64 mt.id, .int .i64 mt.ep, .string mt.anchor, .int .i64 mt.start.1, .int .i64 mt.start.2] 0).trans ((heap_all (b := w.heap.size + 1) (by omega) [.int .i64 st.1, .int .i64 st.2] 0).trans (hgw.block g hlt hgb))
          have hab := h.lta
          have hbb := h.ltb
          have eA : (setAll (setAll V2 (w.heap.size + 1) 0 [.int .i64 st.1, .int .i64 st.2]) (w.heap.size + 1 + 1) 0 [.int .i64 mt.id, .int .i64 mt.ep, .string mt.anchor, .int .i64 mt.start.1, .int .i64 mt.start.2]).heap[a]? = V2.heap[a]? := (heap_all (b := w.heap.size + 1 + 1) (by omega) [.int .i64 mt.id, .int .i64 mt.ep, .string mt.anchor, .int .i64 mt.start.1, .int .i64 mt.start.2] 0).trans (heap_all (b := w.heap.size + 1) (by omega) [.int .i64 st.1, .int .i64 st.2] 0)
          have eB : (setAll (setAll V2 (w.heap.size + 1) 0 [.int .i64 st.1, .int .i64 st.2]) (w.heap.size + 1 + 1) 0 [.int .i64 mt.id, .int .i64 mt.ep, .string mt.anchor, .int .i64 mt.start.1, .int .i64 mt.start.2]).heap[b]? = V2.heap[b]? := (heap_all (b := w.heap.size + 1 + 1) (by omega) [.int .i64 mt.id, .int .i64 mt.ep, .string mt.anchor, .int .i64 mt.start.1, .int .i64 mt.start.2] 0).trans (heap_all (b := w.heap.size + 1) (by omega) [.int .i64 st.1, .int .i64 st.2] 0)
          have hgf : w.grownBy (setAll (setAll V2 (w.heap.size + 1) 0 [.int .i64 st.1, .int .i64 st.2]) (w.heap.size + 1 + 1) 0 [.int .i64 mt.id, .int .i64 mt.ep, .string mt.anchor, .int .i64 mt.start.1, .int .i64 mt.start.2]) (some b) := grown_all (by omega) [.int .i64 mt.id, .int .i64 mt.ep, .string mt.anchor, .int .i64 mt.start.1, .int .i64 mt.start.2] 0 (grown_all (by omega) [.int .i64 st.1, .int .i64 st.2] 0 hgw)
          have HF := hide (And.intro (hs2.move eA eB hvx).drew (And.intro (hr2.move eB).drew (grown_drew hgf)))
          obtain ⟨q1, q2⟩ := two D1' D2' [.int .i64 st.1, .int .i64 st.2] [.int .i64 mt.id, .int .i64 mt.ep, .string mt.anchor, .int .i64 mt.start.1, .int .i64 mt.start.2] rfl rfl (by omega)
          have g1 := q1.drew
          have g2 := q2.drew
          have HQ := hide (And.intro g1 g2)
          have D1_0 := D1'.c 0; have D1_1 := D1'.c 1; simp only [List.getElem?_cons_zero, List.getElem?_cons_succ] at D1_0 D1_1
          have D2_0 := D2'.c 0; have D2_1 := D2'.c 1; have D2_2 := D2'.c 2; have D2_3 := D2'.c 3; have D2_4 := D2'.c 4; simp only [List.getElem?_cons_zero, List.getElem?_cons_succ] at D2_0 D2_1 D2_2 D2_3 D2_4
          have C2_0 := C2'.c 0; have C2_1 := C2'.c 1; simp only [List.getElem?_cons_zero, List.getElem?_cons_succ] at C2_0 C2_1
          have C3_0 := C3'.c 0; have C3_1 := C3'.c 1; have C3_2 := C3'.c 2; have C3_3 := C3'.c 3; have C3_4 := C3'.c 4; simp only [List.getElem?_cons_zero, List.getElem?_cons_succ] at C3_0 C3_1 C3_2 C3_3 C3_4
          have fD1 := D1'.f
          have fD2 := D2'.f
          clear hvx eA eB hgf q1 q2 g1 g2 D1' D2' C2' C3' hgw hs2 hr2 hg2 C1 C2 C3 D1 D2 hvv hvb hS
          go_upto_region 10 with fail
          go_region
          go_wp2
          obtain ⟨f1, f2, f3⟩ := unhide HF
          refine bodyPost_ret (results_sme Tryz.results10 st mt rfl rfl rfl (unhide HQ).1 (unhide HQ).2) rfl ⟨_, rfl, f1, f2, ?_, f3⟩
          unfold putL
          rw [hE, if_pos ⟨h1, h2, by rw [hX]⟩, hX]
          exact ⟨bo, d, rfl⟩
        · have b0 : (er == 0) = false := by rw [beq_eq_false_iff_ne]; exact h0
          have hbf := below_setAll (C := w.heap.size + 1 + 1) (by omega) [.int .i64 mt.id, .int .i64 mt.ep, .string mt.anchor, .int .i64 mt.start.1, .int .i64 mt.start.2] 0 (below_setAll (C := w.heap.size + 1) (by omega) [.int .i64 st.1, .int .i64 st.2] 0 hB7)
          have HF := hide (And.intro (h.later hbf).drew (And.intro (hroom'.later hbf).drew (grown_drew (grown_of_below hbf (some b)))))
          obtain ⟨q1, q2⟩ := two D1 D2 [.int .i64 st.1, .int .i64 st.2] [.int .i64 mt.id, .int .i64 mt.ep, .string mt.anchor, .int .i64 mt.start.1, .int .i64 mt.start.2] rfl rfl (by omega)
          have g1 := q1.drew
          have g2 := q2.drew
          have HQ := hide (And.intro g1 g2)
          have D1_0 := D1.c 0; have D1_1 := D1.c 1; simp only [List.getElem?_cons_zero, List.getElem?_cons_succ] at D1_0 D1_1
          have D2_0 := D2.c 0; have D2_1 := D2.c 1; have D2_2 := D2.c 2; have D2_3 := D2.c 3; have D2_4 := D2.c 4; simp only [List.getElem?_cons_zero, List.getElem?_cons_succ] at D2_0 D2_1 D2_2 D2_3 D2_4
          have C2_0 := C2.c 0; have C2_1 := C2.c 1; simp only [List.getElem?_cons_zero, List.getElem?_cons_succ] at C2_0 C2_1
          have C3_0 := C3.c 0; have C3_1 := C3.c 1; have C3_2 := C3.c 2; have C3_3 := C3.c 3; have C3_4 := C3.c 4; simp only [List.getElem?_cons_zero, List.getElem?_cons_succ] at C3_0 C3_1 C3_2 C3_3 C3_4
          have fD1 := D1.f
          have fD2 := D2.f
          clear hbf q1 q2 g1 g2 C1 C2 C3 D1 D2 hvv hvb
          go_upto_region 10 with fail
          go_region
          go_wp2
          obtain ⟨f1, f2, f3⟩ := unhide HF
          refine bodyPost_ret (results_sme Tryz.results10 st mt rfl rfl rfl (unhide HQ).1 (unhide HQ).2) rfl ⟨_, rfl, f1, f2, ?_, f3⟩
          unfold putL
          rw [hE, if_neg (fun q => h0 (by have := q.2.2; rw [hX] at this; exact this))]
      have Nc01 : ∀ (V : World) (B13 B14 : Nat) (bo : Option Addr) (d : Nat), Below w2.heap.size w2 V → Blk V B13 [.slice none 0 0, .bool false, .int .i64 0, .int .i64 0, .string ⟨#[]⟩, .int .i64 0, .int .i64 0, .int .i64 0, .int .i64 0, .int .i64 0, .string ⟨#[]⟩, .bool false] → w2.heap.size ≤ B13 → Blk V B14 [.int .i64 0, .int .i64 0] → w2.heap.size ≤ B14 → B13 ≠ B14 → VOwn w2.heap.size V bo d yv → (∀ g, (Value.slice bo yv.length d).ownBlock = some g → g ≠ B13) → (∀ g, (Value.slice bo yv.length d).ownBlock = some g → g ≠ B14) → wpAnyH Tryz.prog .any ops Q0 (fun y => Below w2.heap.size w2 y) 5 #[true, true, true, true, true, true, true, true, true, true, true, true, true, true, true, false, false, false, false, false] { tmps := #[.pointer (some ⟨a, 0, none⟩), .string k, .agg #[.int .i64 i.txn.id, .int .i64 i.txn.ep, .string i.txn.anchor, .int .i64 i.txn.start.fst, .int .i64 i.txn.start.snd, .int .i64 i.seq, .int .i64 i.at_.fst, .int .i64 i.at_.snd, .string i.val, .bool i.gone], undef, undef, .pointer (some ⟨w.heap.size, 0, none⟩), .pointer (some ⟨w.heap.size + 1, 0, none⟩), .pointer (some ⟨w.heap.size + 1 + 1, 0, none⟩), .int .i64 0, .pointer (some ⟨B13, 0, none⟩), .pointer (some ⟨B14, 0, none⟩), undef, undef, .pointer (some ⟨a, 0, none⟩), .bool false, undef, undef, .string k, .bool true, .bool false, undef, undef, .pointer (some ⟨w.heap.size, 8, none⟩), .string i.val, .pointer (some ⟨w.heap.size, 9, none⟩), .bool i.gone, .bool true, .bool false, undef, undef, .tuple #[.agg #[.slice bo ny d, .bool yo, .int .i64 yi.txn.id, .int .i64 yi.txn.ep, .string yi.txn.anchor, .int .i64 yi.txn.start.1, .int .i64 yi.txn.start.2, .int .i64 yi.seq, .int .i64 yi.at_.1, .int .i64 yi.at_.2, .string yi.val, .bool yi.gone], (.agg #[.int .i64 st.1, .int .i64 st.2]), (.agg #[.int .i64 mt.id, .int .i64 mt.ep, .string mt.anchor, .int .i64 mt.start.1, .int .i64 mt.start.2]), .int .i64 er], .pointer (some ⟨a, 0, none⟩), .pointer (some ⟨a, 0, none⟩), .pointer (some ⟨a, 0, none⟩), .map (some b), .string k, .agg #[.slice ao nv cap, .bool o, .int .i64 it.txn.id, .int .i64 it.txn.ep, .string it.txn.anchor, .int .i64 it.txn.start.fst, .int .i64 it.txn.start.snd, .int .i64 it.seq, .int .i64 it.at_.fst, .int .i64 it.at_.snd, .string it.val, .bool it.gone], .agg #[.int .i64 i.txn.id, .int .i64 i.txn.ep, .string i.txn.anchor, .int .i64 i.txn.start.fst, .int .i64 i.txn.start.snd, .int .i64 i.seq, .int .i64 i.at_.fst, .int .i64 i.at_.snd, .string i.val, .bool i.gone], .tuple #[.agg #[.slice bo ny d, .bool yo, .int .i64 yi.txn.id, .int .i64 yi.txn.ep, .string yi.txn.anchor, .int .i64 yi.txn.start.1, .int .i64 yi.txn.start.2, .int .i64 yi.seq, .int .i64 yi.at_.1, .int .i64 yi.at_.2, .string yi.val, .bool yi.gone], (.agg #[.int .i64 st.1, .int .i64 st.2]), (.agg #[.int .i64 mt.id, .int .i64 mt.ep, .string mt.anchor, .int .i64 mt.start.1, .int .i64 mt.start.2]), .int .i64 er], .agg #[.slice bo ny d, .bool yo, .int .i64 yi.txn.id, .int .i64 yi.txn.ep, .string yi.txn.anchor, .int .i64 yi.txn.start.1, .int .i64 yi.txn.start.2, .int .i64 yi.seq, .int .i64 yi.at_.1, .int .i64 yi.at_.2, .string yi.val, .bool yi.gone], (.agg #[.int .i64 st.1, .int .i64 st.2]), (.agg #[.int .i64 mt.id, .int .i64 mt.ep, .string mt.anchor, .int .i64 mt.start.1, .int .i64 mt.start.2]), .int .i64 er, undef, undef, undef, undef, undef, undef, undef, undef, undef, undef, undef], defers := [] } V := by
        intro V B13 B14 bo d hV hB13 hl13 hB14 hl14 hn1314 hvy hd13 hd14
        rw [hops, hQ0]
        refine wpAnyH_ready (rs := [15]) (by kernel_rfl) (by simp) ?_
        refine AllReadyH.cons rfl (fun K hK => ?_) (AllReadyH.nil)
        · go_simp
          refine hK.out _ _ (keep_alloc hV _) (fun hS => ?_)
          clear hK K
          have n := Nc012 (V.alloc (.cells #[.int .i64 0, .int .i64 0, .string ⟨#[]⟩, .int .i64 0, .int .i64 0] 38)) B13 B14 V.heap.size bo d hS (hB13.alloc _) hl13 (hB14.alloc _) hl14 (Blk.new V #[.int .i64 0, .int .i64 0, .string ⟨#[]⟩, .int .i64 0, .int .i64 0] 38) hV.size hn1314 (by have := hB13.lt; omega) (by have := hB14.lt; omega) (hvy.later ((Below.refl _ _).alloc (Nat.le_refl _) _)) hd13 hd14 (fun g hg => by have := (hvy.lt g hg).2; omega)
          rw [hops, hQ0] at n
          exact n
      have Nc02 : ∀ (V : World) (B13 B15 : Nat) (bo : Option Addr) (d : Nat), Below w2.heap.size w2 V → Blk V B13 [.slice none 0 0, .bool false, .int .i64 0, .int .i64 0, .string ⟨#[]⟩, .int .i64 0, .int .i64 0, .int .i64 0, .int .i64 0, .int .i64 0, .string ⟨#[]⟩, .bool false] → w2.heap.size ≤ B13 → Blk V B15 [.int .i64 0, .int .i64 0, .string ⟨#[]⟩, .int .i64 0, .int .i64 0] → w2.heap.size ≤ B15 → B13 ≠ B15 → VOwn w2.heap.size V bo d yv → (∀ g, (Value.slice bo yv.length d).ownBlock = some g → g ≠ B13) → (∀ g, (Value.slice bo yv.length d).ownBlock = some g → g ≠ B15) → wpAnyH Tryz.prog .any ops Q0 (fun y => Below w2.heap.size w2 y) 5 #[true, true, true, true, true, true, true, true, true, true, true, true, true, true, false, true, false, false, false, false] { tmps := #[.pointer (some ⟨a, 0, none⟩), .string k, .agg #[.int .i64 i.txn.id, .int .i64 i.txn.ep, .string i.txn.anchor, .int .i64 i.txn.start.fst, .int .i64 i.txn.start.snd, .int .i64 i.seq, .int .i64 i.at_.fst, .int .i64 i.at_.snd, .string i.val, .bool i.gone], undef, undef, .pointer (some ⟨w.heap.size, 0, none⟩), .pointer (some ⟨w.heap.size + 1, 0, none⟩), .pointer (some ⟨w.heap.size + 1 + 1, 0, none⟩), .int .i64 0, .pointer (some ⟨B13, 0, none⟩), undef, .pointer (some ⟨B15, 0, none⟩), undef, .pointer (some ⟨a, 0, none⟩), .bool false, undef, undef, .string k, .bool true, .bool false, undef, undef, .pointer (some ⟨w.heap.size, 8, none⟩), .string i.val, .pointer (some ⟨w.heap.size, 9, none⟩), .bool i.gone, .bool true, .bool false, undef, undef, .tuple #[.agg #[.slice bo ny d, .bool yo, .int .i64 yi.txn.id, .int .i64 yi.txn.ep, .string yi.txn.anchor, .int .i64 yi.txn.start.1, .int .i64 yi.txn.start.2, .int .i64 yi.seq, .int .i64 yi.at_.1, .int .i64 yi.at_.2, .string yi.val, .bool yi.gone], (.agg #[.int .i64 st.1, .int .i64 st.2]), (.agg #[.int .i64 mt.id, .int .i64 mt.ep, .string mt.anchor, .int .i64 mt.start.1, .int .i64 mt.start.2]), .int .i64 er], .pointer (some ⟨a, 0, none⟩), .pointer (some ⟨a, 0, none⟩), .pointer (some ⟨a, 0, none⟩), .map (some b), .string k, .agg #[.slice ao nv cap, .bool o, .int .i64 it.txn.id, .int .i64 it.txn.ep, .string it.txn.anchor, .int .i64 it.txn.start.fst, .int .i64 it.txn.start.snd, .int .i64 it.seq, .int .i64 it.at_.fst, .int .i64 it.at_.snd, .string it.val, .bool it.gone], .agg #[.int .i64 i.txn.id, .int .i64 i.txn.ep, .string i.txn.anchor, .int .i64 i.txn.start.fst, .int .i64 i.txn.start.snd, .int .i64 i.seq, .int .i64 i.at_.fst, .int .i64 i.at_.snd, .string i.val, .bool i.gone], .tuple #[.agg #[.slice bo ny d, .bool yo, .int .i64 yi.txn.id, .int .i64 yi.txn.ep, .string yi.txn.anchor, .int .i64 yi.txn.start.1, .int .i64 yi.txn.start.2, .int .i64 yi.seq, .int .i64 yi.at_.1, .int .i64 yi.at_.2, .string yi.val, .bool yi.gone], (.agg #[.int .i64 st.1, .int .i64 st.2]), (.agg #[.int .i64 mt.id, .int .i64 mt.ep, .string mt.anchor, .int .i64 mt.start.1, .int .i64 mt.start.2]), .int .i64 er], .agg #[.slice bo ny d, .bool yo, .int .i64 yi.txn.id, .int .i64 yi.txn.ep, .string yi.txn.anchor, .int .i64 yi.txn.start.1, .int .i64 yi.txn.start.2, .int .i64 yi.seq, .int .i64 yi.at_.1, .int .i64 yi.at_.2, .string yi.val, .bool yi.gone], (.agg #[.int .i64 st.1, .int .i64 st.2]), (.agg #[.int .i64 mt.id, .int .i64 mt.ep, .string mt.anchor, .int .i64 mt.start.1, .int .i64 mt.start.2]), .int .i64 er, undef, undef, undef, undef, undef, undef, undef, undef, undef, undef, undef], defers := [] } V := by
        intro V B13 B15 bo d hV hB13 hl13 hB15 hl15 hn1315 hvy hd13 hd15
        rw [hops, hQ0]
        refine wpAnyH_ready (rs := [14]) (by kernel_rfl) (by simp) ?_
        refine AllReadyH.cons rfl (fun K hK => ?_) (AllReadyH.nil)
        · go_simp
          refine hK.out _ _ (keep_alloc hV _) (fun hS => ?_)
          clear hK K
          have n := Nc012 (V.alloc (.cells #[.int .i64 0, .int .i64 0] 36)) B13 V.heap.size B15 bo d hS (hB13.alloc _) hl13 (Blk.new V #[.int .i64 0, .int .i64 0] 36) hV.size (hB15.alloc _) hl15 (by have := hB13.lt; omega) hn1315 (by have := hB15.lt; omega) (hvy.later ((Below.refl _ _).alloc (Nat.le_refl _) _)) hd13 (fun g hg => by have := (hvy.lt g hg).2; omega) hd15
          rw [hops, hQ0] at n
          exact n
      have Nc12 : ∀ (V : World) (B14 B15 : Nat) (bo : Option Addr) (d : Nat), Below w2.heap.size w2 V → Blk V B14 [.int .i64 0, .int .i64 0] → w2.heap.size ≤ B14 → Blk V B15 [.int .i64 0, .int .i64 0, .string ⟨#[]⟩, .int .i64 0, .int .i64 0] → w2.heap.size ≤ B15 → B14 ≠ B15 → VOwn w2.heap.size V bo d yv → (∀ g, (Value.slice bo yv.length d).ownBlock = some g → g ≠ B14) → (∀ g, (Value.slice bo yv.length d).ownBlock = some g → g ≠ B15) → wpAnyH Tryz.prog .any ops Q0 (fun y => Below w2.heap.size w2 y) 5 #[true, true, true, true, true, true, true, true, true, true, true, true, true, false, true, true, false, false, false, false] { tmps := #[.pointer (some ⟨a, 0, none⟩), .string k, .agg #[.int .i64 i.txn.id, .int .i64 i.txn.ep, .string i.txn.anchor, .int .i64 i.txn.start.fst, .int .i64 i.txn.start.snd, .int .i64 i.seq, .int .i64 i.at_.fst, .int .i64 i.at_.snd, .string i.val, .bool i.gone], undef, undef, .pointer (some ⟨w.heap.size, 0, none⟩), .pointer (some ⟨w.heap.size + 1, 0, none⟩), .pointer (some ⟨w.heap.size + 1 + 1, 0, none⟩), .int .i64 0, undef, .pointer (some ⟨B14, 0, none⟩), .pointer (some ⟨B15, 0, none⟩), undef, .pointer (some ⟨a, 0, none⟩), .bool false, undef, undef, .string k, .bool true, .bool false, undef, undef, .pointer (some ⟨w.heap.size, 8, none⟩), .string i.val, .pointer (some ⟨w.heap.size, 9, none⟩), .bool i.gone, .bool true, .bool false, undef, undef, .tuple #[.agg #[.slice bo ny d, .bool yo, .int .i64 yi.txn.id, .int .i64 yi.txn.ep, .string yi.txn.anchor, .int .i64 yi.txn.start.1, .int .i64 yi.txn.start.2, .int .i64 yi.seq, .int .i64 yi.at_.1, .int .i64 yi.at_.2, .string yi.val, .bool yi.gone], (.agg #[.int .i64 st.1, .int .i64 st.2]), (.agg #[.int .i64 mt.id, .int .i64 mt.ep, .string mt.anchor, .int .i64 mt.start.1, .int .i64 mt.start.2]), .int .i64 er], .pointer (some ⟨a, 0, none⟩), .pointer (some ⟨a, 0, none⟩), .pointer (some ⟨a, 0, none⟩), .map (some b), .string k, .agg #[.slice ao nv cap, .bool o, .int .i64 it.txn.id, .int .i64 it.txn.ep, .string it.txn.anchor, .int .i64 it.txn.start.fst, .int .i64 it.txn.start.snd, .int .i64 it.seq, .int .i64 it.at_.fst, .int .i64 it.at_.snd, .string it.val, .bool it.gone], .agg #[.int .i64 i.txn.id, .int .i64 i.txn.ep, .string i.txn.anchor, .int .i64 i.txn.start.fst, .int .i64 i.txn.start.snd, .int .i64 i.seq, .int .i64 i.at_.fst, .int .i64 i.at_.snd, .string i.val, .bool i.gone], .tuple #[.agg #[.slice bo ny d, .bool yo, .int .i64 yi.txn.id, .int .i64 yi.txn.ep, .string yi.txn.anchor, .int .i64 yi.txn.start.1, .int .i64 yi.txn.start.2, .int .i64 yi.seq, .int .i64 yi.at_.1, .int .i64 yi.at_.2, .string yi.val, .bool yi.gone], (.agg #[.int .i64 st.1, .int .i64 st.2]), (.agg #[.int .i64 mt.id, .int .i64 mt.ep, .string mt.anchor, .int .i64 mt.start.1, .int .i64 mt.start.2]), .int .i64 er], .agg #[.slice bo ny d, .bool yo, .int .i64 yi.txn.id, .int .i64 yi.txn.ep, .string yi.txn.anchor, .int .i64 yi.txn.start.1, .int .i64 yi.txn.start.2, .int .i64 yi.seq, .int .i64 yi.at_.1, .int .i64 yi.at_.2, .string yi.val, .bool yi.gone], (.agg #[.int .i64 st.1, .int .i64 st.2]), (.agg #[.int .i64 mt.id, .int .i64 mt.ep, .string mt.anchor, .int .i64 mt.start.1, .int .i64 mt.start.2]), .int .i64 er, undef, undef, undef, undef, undef, undef, undef, undef, undef, undef, undef], defers := [] } V := by
        intro V B14 B15 bo d hV hB14 hl14 hB15 hl15 hn1415 hvy hd14 hd15
        rw [hops, hQ0]
        refine wpAnyH_ready (rs := [13]) (by kernel_rfl) (by simp) ?_
        refine AllReadyH.cons rfl (fun K hK => ?_) (AllReadyH.nil)
        · go_simp
          refine hK.out _ _ (keep_alloc hV _) (fun hS => ?_)
          clear hK K
          have n := Nc012 (V.alloc (.cells #[.slice none 0 0, .bool false, .int .i64 0, .int .i64 0, .string ⟨#[]⟩, .int .i64 0, .int .i64 0, .int .i64 0, .int .i64 0, .int .i64 0, .string ⟨#[]⟩, .bool false] 61)) V.heap.size B14 B15 bo d hS (Blk.new V #[.slice none 0 0, .bool false, .int .i64 0, .int .i64 0, .string ⟨#[]⟩, .int .i64 0, .int .i64 0, .int .i64 0, .int .i64 0, .int .i64 0, .string ⟨#[]⟩, .bool false] 61) hV.size (hB14.alloc _) hl14 (hB15.alloc _) hl15 (by have := hB14.lt; omega) (by have := hB15.lt; omega) hn1415 (hvy.later ((Below.refl _ _).alloc (Nat.le_refl _) _)) (fun g hg => by have := (hvy.lt g hg).2; omega) hd14 hd15
          rw [hops, hQ0] at n
          exact n
      have Nc0 : ∀ (V : World) (B13 : Nat) (bo : Option Addr) (d : Nat), Below w2.heap.size w2 V → Blk V B13 [.slice none 0 0, .bool false, .int .i64 0, .int .i64 0, .string ⟨#[]⟩, .int .i64 0, .int .i64 0, .int .i64 0, .int .i64 0, .int .i64 0, .string ⟨#[]⟩, .bool false] → w2.heap.size ≤ B13 → VOwn w2.heap.size V bo d yv → (∀ g, (Value.slice bo yv.length d).ownBlock = some g → g ≠ B13) → wpAnyH Tryz.prog .any ops Q0 (fun y => Below w2.heap.size w2 y) 6 #[true, true, true, true, true, true, true, true, true, true, true, true, true, true, false, false, false, false, false, false] { tmps := #[.pointer (some ⟨a, 0, none⟩), .string k, .agg #[.int .i64 i.txn.id, .int .i64 i.txn.ep, .string i.txn.anchor, .int .i64 i.txn.start.fst, .int .i64 i.txn.start.snd, .int .i64 i.seq, .int .i64 i.at_.fst, .int .i64 i.at_.snd, .string i.val, .bool i.gone], undef, undef, .pointer (some ⟨w.heap.size, 0, none⟩), .pointer (some ⟨w.heap.size + 1, 0, none⟩), .pointer (some ⟨w.heap.size + 1 + 1, 0, none⟩), .int .i64 0, .pointer (some ⟨B13, 0, none⟩), undef, undef, undef, .pointer (some ⟨a, 0, none⟩), .bool false, undef, undef, .string k, .bool true, .bool false, undef, undef, .pointer (some ⟨w.heap.size, 8, none⟩), .string i.val, .pointer (some ⟨w.heap.size, 9, none⟩), .bool i.gone, .bool true, .bool false, undef, undef, .tuple #[.agg #[.slice bo ny d, .bool yo, .int .i64 yi.txn.id, .int .i64 yi.txn.ep, .string yi.txn.anchor, .int .i64 yi.txn.start.1, .int .i64 yi.txn.start.2, .int .i64 yi.seq, .int .i64 yi.at_.1, .int .i64 yi.at_.2, .string yi.val, .bool yi.gone], (.agg #[.int .i64 st.1, .int .i64 st.2]), (.agg #[.int .i64 mt.id, .int .i64 mt.ep, .string mt.anchor, .int .i64 mt.start.1, .int .i64 mt.start.2]), .int .i64 er], .pointer (some ⟨a, 0, none⟩), .pointer (some ⟨a, 0, none⟩), .pointer (some ⟨a, 0, none⟩), .map (some b), .string k, .agg #[.slice ao nv cap, .bool o, .int .i64 it.txn.id, .int .i64 it.txn.ep, .string it.txn.anchor, .int .i64 it.txn.start.fst, .int .i64 it.txn.start.snd, .int .i64 it.seq, .int .i64 it.at_.fst, .int .i64 it.at_.snd, .string it.val, .bool it.gone], .agg #[.int .i64 i.txn.id, .int .i64 i.txn.ep, .string i.txn.anchor, .int .i64 i.txn.start.fst, .int .i64 i.txn.start.snd, .int .i64 i.seq, .int .i64 i.at_.fst, .int .i64 i.at_.snd, .string i.val, .bool i.gone], .tuple #[.agg #[.slice bo ny d, .bool yo, .int .i64 yi.txn.id, .int .i64 yi.txn.ep, .string yi.txn.anchor, .int .i64 yi.txn.start.1, .int .i64 yi.txn.start.2, .int .i64 yi.seq, .int .i64 yi.at_.1, .int .i64 yi.at_.2, .string yi.val, .bool yi.gone], (.agg #[.int .i64 st.1, .int .i64 st.2]), (.agg #[.int .i64 mt.id, .int .i64 mt.ep, .string mt.anchor, .int .i64 mt.start.1, .int .i64 mt.start.2]), .int .i64 er], .agg #[.slice bo ny d, .bool yo, .int .i64 yi.txn.id, .int .i64 yi.txn.ep, .string yi.txn.anchor, .int .i64 yi.txn.start.1, .int .i64 yi.txn.start.2, .int .i64 yi.seq, .int .i64 yi.at_.1, .int .i64 yi.at_.2, .string yi.val, .bool yi.gone], (.agg #[.int .i64 st.1, .int .i64 st.2]), (.agg #[.int .i64 mt.id, .int .i64 mt.ep, .string mt.anchor, .int .i64 mt.start.1, .int .i64 mt.start.2]), .int .i64 er, undef, undef, undef, undef, undef, undef, undef, undef, undef, undef, undef], defers := [] } V := by
        intro V B13 bo d hV hB13 hl13 hvy hd13
        rw [hops, hQ0]
        refine wpAnyH_ready (rs := [14, 15]) (by kernel_rfl) (by simp) ?_
        refine AllReadyH.cons rfl (fun K hK => ?_) (AllReadyH.cons rfl (fun K hK => ?_) (AllReadyH.nil))
        · go_simp
          refine hK.out _ _ (keep_alloc hV _) (fun hS => ?_)
          clear hK K
          have n := Nc01 (V.alloc (.cells #[.int .i64 0, .int .i64 0] 36)) B13 V.heap.size bo d hS (hB13.alloc _) hl13 (Blk.new V #[.int .i64 0, .int .i64 0] 36) hV.size (by have := hB13.lt; omega) (hvy.later ((Below.refl _ _).alloc (Nat.le_refl _) _)) hd13 (fun g hg => by have := (hvy.lt g hg).2; omega)
          rw [hops, hQ0] at n
          exact n
        · go_simp
          refine hK.out _ _ (keep_alloc hV _) (fun hS => ?_)
          clear hK K
          have n := Nc02 (V.alloc (.cells #[.int .i64 0, .int .i64 0, .string ⟨#[]⟩, .int .i64 0, .int .i64 0] 38)) B13 V.heap.size bo d hS (hB13.alloc _) hl13 (Blk.new V #[.int .i64 0, .int .i64 0, .string ⟨#[]⟩, .int .i64 0, .int .i64 0] 38) hV.size (by have := hB13.lt; omega) (hvy.later ((Below.refl _ _).alloc (Nat.le_refl _) _)) hd13 (fun g hg => by have := (hvy.lt g hg).2; omega)
          rw [hops, hQ0] at n
          exact n
      have Nc1 : ∀ (V : World) (B14 : Nat) (bo : Option Addr) (d : Nat), Below w2.heap.size w2 V → Blk V B14 [.int .i64 0, .int .i64 0] → w2.heap.size ≤ B14 → VOwn w2.heap.size V bo d yv → (∀ g, (Value.slice bo yv.length d).ownBlock = some g → g ≠ B14) → wpAnyH Tryz.prog .any ops Q0 (fun y => Below w2.heap.size w2 y) 6 #[true, true, true, true, true, true, true, true, true, true, true, true, true, false, true, false, false, false, false, false] { tmps := #[.pointer (some ⟨a, 0, none⟩), .string k, .agg #[.int .i64 i.txn.id, .int .i64 i.txn.ep, .string i.txn.anchor, .int .i64 i.txn.start.fst, .int .i64 i.txn.start.snd, .int .i64 i.seq, .int .i64 i.at_.fst, .int .i64 i.at_.snd, .string i.val, .bool i.gone], undef, undef, .pointer (some ⟨w.heap.size, 0, none⟩), .pointer (some ⟨w.heap.size + 1, 0, none⟩), .pointer (some ⟨w.heap.size + 1 + 1, 0, none⟩), .int .i64 0, undef, .pointer (some ⟨B14, 0, none⟩), undef, undef, .pointer (some ⟨a, 0, none⟩), .bool false, undef, undef, .string k, .bool true, .bool false, undef, undef, .pointer (some ⟨w.heap.size, 8, none⟩), .string i.val, .pointer (some ⟨w.heap.size, 9, none⟩), .bool i.gone, .bool true, .bool false, undef, undef, .tuple #[.agg #[.slice bo ny d, .bool yo, .int .i64 yi.txn.id, .int .i64 yi.txn.ep, .string yi.txn.anchor, .int .i64 yi.txn.start.1, .int .i64 yi.txn.start.2, .int .i64 yi.seq, .int .i64 yi.at_.1, .int .i64 yi.at_.2, .string yi.val, .bool yi.gone], (.agg #[.int .i64 st.1, .int .i64 st.2]), (.agg #[.int .i64 mt.id, .int .i64 mt.ep, .string mt.anchor, .int .i64 mt.start.1, .int .i64 mt.start.2]), .int .i64 er], .pointer (some ⟨a, 0, none⟩), .pointer (some ⟨a, 0, none⟩), .pointer (some ⟨a, 0, none⟩), .map (some b), .string k, .agg #[.slice ao nv cap, .bool o, .int .i64 it.txn.id, .int .i64 it.txn.ep, .string it.txn.anchor, .int .i64 it.txn.start.fst, .int .i64 it.txn.start.snd, .int .i64 it.seq, .int .i64 it.at_.fst, .int .i64 it.at_.snd, .string it.val, .bool it.gone], .agg #[.int .i64 i.txn.id, .int .i64 i.txn.ep, .string i.txn.anchor, .int .i64 i.txn.start.fst, .int .i64 i.txn.start.snd, .int .i64 i.seq, .int .i64 i.at_.fst, .int .i64 i.at_.snd, .string i.val, .bool i.gone], .tuple #[.agg #[.slice bo ny d, .bool yo, .int .i64 yi.txn.id, .int .i64 yi.txn.ep, .string yi.txn.anchor, .int .i64 yi.txn.start.1, .int .i64 yi.txn.start.2, .int .i64 yi.seq, .int .i64 yi.at_.1, .int .i64 yi.at_.2, .string yi.val, .bool yi.gone], (.agg #[.int .i64 st.1, .int .i64 st.2]), (.agg #[.int .i64 mt.id, .int .i64 mt.ep, .string mt.anchor, .int .i64 mt.start.1, .int .i64 mt.start.2]), .int .i64 er], .agg #[.slice bo ny d, .bool yo, .int .i64 yi.txn.id, .int .i64 yi.txn.ep, .string yi.txn.anchor, .int .i64 yi.txn.start.1, .int .i64 yi.txn.start.2, .int .i64 yi.seq, .int .i64 yi.at_.1, .int .i64 yi.at_.2, .string yi.val, .bool yi.gone], (.agg #[.int .i64 st.1, .int .i64 st.2]), (.agg #[.int .i64 mt.id, .int .i64 mt.ep, .string mt.anchor, .int .i64 mt.start.1, .int .i64 mt.start.2]), .int .i64 er, undef, undef, undef, undef, undef, undef, undef, undef, undef, undef, undef], defers := [] } V := by
        intro V B14 bo d hV hB14 hl14 hvy hd14
        rw [hops, hQ0]
        refine wpAnyH_ready (rs := [13, 15]) (by kernel_rfl) (by simp) ?_
        refine AllReadyH.cons rfl (fun K hK => ?_) (AllReadyH.cons rfl (fun K hK => ?_) (AllReadyH.nil))
        · go_simp
          refine hK.out _ _ (keep_alloc hV _) (fun hS => ?_)
          clear hK K
          have n := Nc01 (V.alloc (.cells #[.slice none 0 0, .bool false, .int .i64 0, .int .i64 0, .string ⟨#[]⟩, .int .i64 0, .int .i64 0, .int .i64 0, .int .i64 0, .int .i64 0, .string ⟨#[]⟩, .bool false] 61)) V.heap.size B14 bo d hS (Blk.new V #[.slice none 0 0, .bool false, .int .i64 0, .int .i64 0, .string ⟨#[]⟩, .int .i64 0, .int .i64 0, .int .i64 0, .int .i64 0, .int .i64 0, .string ⟨#[]⟩, .bool false] 61) hV.size (hB14.alloc _) hl14 (by have := hB14.lt; omega) (hvy.later ((Below.refl _ _).alloc (Nat.le_refl _) _)) (fun g hg => by have := (hvy.lt g hg).2; omega) hd14
          rw [hops, hQ0] at n
          exact n
        · go_simp
          refine hK.out _ _ (keep_alloc hV _) (fun hS => ?_)
          clear hK K
          have n := Nc12 (V.alloc (.cells #[.int .i64 0, .int .i64 0, .string ⟨#[]⟩, .int .i64 0, .int .i64 0] 38)) B14 V.heap.size bo d hS (hB14.alloc _) hl14 (Blk.new V #[.int .i64 0, .int .i64 0, .string ⟨#[]⟩, .int .i64 0, .int .i64 0] 38) hV.size (by have := hB14.lt; omega) (hvy.later ((Below.refl _ _).alloc (Nat.le_refl _) _)) hd14 (fun g hg => by have := (hvy.lt g hg).2; omega)
          rw [hops, hQ0] at n
          exact n
      have Nc2 : ∀ (V : World) (B15 : Nat) (bo : Option Addr) (d : Nat), Below w2.heap.size w2 V → Blk V B15 [.int .i64 0, .int .i64 0, .string ⟨#[]⟩, .int .i64 0, .int .i64 0] → w2.heap.size ≤ B15 → VOwn w2.heap.size V bo d yv → (∀ g, (Value.slice bo yv.length d).ownBlock = some g → g ≠ B15) → wpAnyH Tryz.prog .any ops Q0 (fun y => Below w2.heap.size w2 y) 6 #[true, true, true, true, true, true, true, true, true, true, true, true, true, false, false, true, false, false, false, false] { tmps := #[.pointer (some ⟨a, 0, none⟩), .string k, .agg #[.int .i64 i.txn.id, .int .i64 i.txn.ep, .string i.txn.anchor, .int .i64 i.txn.start.fst, .int .i64 i.txn.start.snd, .int .i64 i.seq, .int .i64 i.at_.fst, .int .i64 i.at_.snd, .string i.val, .bool i.gone], undef, undef, .pointer (some ⟨w.heap.size, 0, none⟩), .pointer (some ⟨w.heap.size + 1, 0, none⟩), .pointer (some ⟨w.heap.size + 1 + 1, 0, none⟩), .int .i64 0, undef, undef, .pointer (some ⟨B15, 0, none⟩), undef, .pointer (some ⟨a, 0, none⟩), .bool false, undef, undef, .string k, .bool true, .bool false, undef, undef, .pointer (some ⟨w.heap.size, 8, none⟩), .string i.val, .pointer (some ⟨w.heap.size, 9, none⟩), .bool i.gone, .bool true, .bool false, undef, undef, .tuple #[.agg #[.slice bo ny d, .bool yo, .int .i64 yi.txn.id, .int .i64 yi.txn.ep, .string yi.txn.anchor, .int .i64 yi.txn.start.1, .int .i64 yi.txn.start.2, .int .i64 yi.seq, .int .i64 yi.at_.1, .int .i64 yi.at_.2, .string yi.val, .bool yi.gone], (.agg #[.int .i64 st.1, .int .i64 st.2]), (.agg #[.int .i64 mt.id, .int .i64 mt.ep, .string mt.anchor, .int .i64 mt.start.1, .int .i64 mt.start.2]), .int .i64 er], .pointer (some ⟨a, 0, none⟩), .pointer (some ⟨a, 0, none⟩), .pointer (some ⟨a, 0, none⟩), .map (some b), .string k, .agg #[.slice ao nv cap, .bool o, .int .i64 it.txn.id, .int .i64 it.txn.ep, .string it.txn.anchor, .int .i64 it.txn.start.fst, .int .i64 it.txn.start.snd, .int .i64 it.seq, .int .i64 it.at_.fst, .int .i64 it.at_.snd, .string it.val, .bool it.gone], .agg #[.int .i64 i.txn.id, .int .i64 i.txn.ep, .string i.txn.anchor, .int .i64 i.txn.start.fst, .int .i64 i.txn.start.snd, .int .i64 i.seq, .int .i64 i.at_.fst, .int .i64 i.at_.snd, .string i.val, .bool i.gone], .tuple #[.agg #[.slice bo ny d, .bool yo, .int .i64 yi.txn.id, .int .i64 yi.txn.ep, .string yi.txn.anchor, .int .i64 yi.txn.start.1, .int .i64 yi.txn.start.2, .int .i64 yi.seq, .int .i64 yi.at_.1, .int .i64 yi.at_.2, .string yi.val, .bool yi.gone], (.agg #[.int .i64 st.1, .int .i64 st.2]), (.agg #[.int .i64 mt.id, .int .i64 mt.ep, .string mt.anchor, .int .i64 mt.start.1, .int .i64 mt.start.2]), .int .i64 er], .agg #[.slice bo ny d, .bool yo, .int .i64 yi.txn.id, .int .i64 yi.txn.ep, .string yi.txn.anchor, .int .i64 yi.txn.start.1, .int .i64 yi.txn.start.2, .int .i64 yi.seq, .int .i64 yi.at_.1, .int .i64 yi.at_.2, .string yi.val, .bool yi.gone], (.agg #[.int .i64 st.1, .int .i64 st.2]), (.agg #[.int .i64 mt.id, .int .i64 mt.ep, .string mt.anchor, .int .i64 mt.start.1, .int .i64 mt.start.2]), .int .i64 er, undef, undef, undef, undef, undef, undef, undef, undef, undef, undef, undef], defers := [] } V := by
        intro V B15 bo d hV hB15 hl15 hvy hd15
        rw [hops, hQ0]
        refine wpAnyH_ready (rs := [13, 14]) (by kernel_rfl) (by simp) ?_
        refine AllReadyH.cons rfl (fun K hK => ?_) (AllReadyH.cons rfl (fun K hK => ?_) (AllReadyH.nil))
        · go_simp
          refine hK.out _ _ (keep_alloc hV _) (fun hS => ?_)
          clear hK K
          have n := Nc02 (V.alloc (.cells #[.slice none 0 0, .bool false, .int .i64 0, .int .i64 0, .string ⟨#[]⟩, .int .i64 0, .int .i64 0, .int .i64 0, .int .i64 0, .int .i64 0, .string ⟨#[]⟩, .bool false] 61)) V.heap.size B15 bo d hS (Blk.new V #[.slice none 0 0, .bool false, .int .i64 0, .int .i64 0, .string ⟨#[]⟩, .int .i64 0, .int .i64 0, .int .i64 0, .int .i64 0, .int .i64 0, .string ⟨#[]⟩, .bool false] 61) hV.size (hB15.alloc _) hl15 (by have := hB15.lt; omega) (hvy.later ((Below.refl _ _).alloc (Nat.le_refl _) _)) (fun g hg => by have := (hvy.lt g hg).2; omega) hd15
          rw [hops, hQ0] at n
          exact n
        · go_simp
          refine hK.out _ _ (keep_alloc hV _) (fun hS => ?_)
          clear hK K
          have n := Nc12 (V.alloc (.cells #[.int .i64 0, .int .i64 0] 36)) V.heap.size B15 bo d hS (Blk.new V #[.int .i64 0, .int .i64 0] 36) hV.size (hB15.alloc _) hl15 (by have := hB15.lt; omega) (hvy.later ((Below.refl _ _).alloc (Nat.le_refl _) _)) (fun g hg => by have := (hvy.lt g hg).2; omega) hd15
          rw [hops, hQ0] at n
          exact n
      have Nc : ∀ (V : World) (bo : Option Addr) (d : Nat), Below w2.heap.size w2 V → VOwn w2.heap.size V bo d yv → wpAnyH Tryz.prog .any ops Q0 (fun y => Below w2.heap.size w2 y) 7 #[true, true, true, true, true, true, true, true, true, true, true, true, true, false, false, false, false, false, false, false] { tmps := #[.pointer (some ⟨a, 0, none⟩), .string k, .agg #[.int .i64 i.txn.id, .int .i64 i.txn.ep, .string i.txn.anchor, .int .i64 i.txn.start.fst, .int .i64 i.txn.start.snd, .int .i64 i.seq, .int .i64 i.at_.fst, .int .i64 i.at_.snd, .string i.val, .bool i.gone], undef, undef, .pointer (some ⟨w.heap.size, 0, none⟩), .pointer (some ⟨w.heap.size + 1, 0, none⟩), .pointer (some ⟨w.heap.size + 1 + 1, 0, none⟩), .int .i64 0, undef, undef, undef, undef, .pointer (some ⟨a, 0, none⟩), .bool false, undef, undef, .string k, .bool true, .bool false, undef, undef, .pointer (some ⟨w.heap.size, 8, none⟩), .string i.val, .pointer (some ⟨w.heap.size, 9, none⟩), .bool i.gone, .bool true, .bool false, undef, undef, .tuple #[.agg #[.slice bo ny d, .bool yo, .int .i64 yi.txn.id, .int .i64 yi.txn.ep, .string yi.txn.anchor, .int .i64 yi.txn.start.1, .int .i64 yi.txn.start.2, .int .i64 yi.seq, .int .i64 yi.at_.1, .int .i64 yi.at_.2, .string yi.val, .bool yi.gone], (.agg #[.int .i64 st.1, .int .i64 st.2]), (.agg #[.int .i64 mt.id, .int .i64 mt.ep, .string mt.anchor, .int .i64 mt.start.1, .int .i64 mt.start.2]), .int .i64 er], .pointer (some ⟨a, 0, none⟩), .pointer (some ⟨a, 0, none⟩), .pointer (some ⟨a, 0, none⟩), .map (some b), .string k, .agg #[.slice ao nv cap, .bool o, .int .i64 it.txn.id, .int .i64 it.txn.ep, .string it.txn.anchor, .int .i64 it.txn.start.fst, .int .i64 it.txn.start.snd, .int .i64 it.seq, .int .i64 it.at_.fst, .int .i64 it.at_.snd, .string it.val, .bool it.gone], .agg #[.int .i64 i.txn.id, .int .i64 i.txn.ep, .string i.txn.anchor, .int .i64 i.txn.start.fst, .int .i64 i.txn.start.snd, .int .i64 i.seq, .int .i64 i.at_.fst, .int .i64 i.at_.snd, .string i.val, .bool i.gone], .tuple #[.agg #[.slice bo ny d, .bool yo, .int .i64 yi.txn.id, .int .i64 yi.txn.ep, .string yi.txn.anchor, .int .i64 yi.txn.start.1, .int .i64 yi.txn.start.2, .int .i64 yi.seq, .int .i64 yi.at_.1, .int .i64 yi.at_.2, .string yi.val, .bool yi.gone], (.agg #[.int .i64 st.1, .int .i64 st.2]), (.agg #[.int .i64 mt.id, .int .i64 mt.ep, .string mt.anchor, .int .i64 mt.start.1, .int .i64 mt.start.2]), .int .i64 er], .agg #[.slice bo ny d, .bool yo, .int .i64 yi.txn.id, .int .i64 yi.txn.ep, .string yi.txn.anchor, .int .i64 yi.txn.start.1, .int .i64 yi.txn.start.2, .int .i64 yi.seq, .int .i64 yi.at_.1, .int .i64 yi.at_.2, .string yi.val, .bool yi.gone], (.agg #[.int .i64 st.1, .int .i64 st.2]), (.agg #[.int .i64 mt.id, .int .i64 mt.ep, .string mt.anchor, .int .i64 mt.start.1, .int .i64 mt.start.2]), .int .i64 er, undef, undef, undef, undef, undef, undef, undef, undef, undef, undef, undef], defers := [] } V := by
        intro V bo d hV hvy
        rw [hops, hQ0]
        refine wpAnyH_ready (rs := [13, 14, 15]) (by kernel_rfl) (by simp) ?_
        refine AllReadyH.cons rfl (fun K hK => ?_) (AllReadyH.cons rfl (fun K hK => ?_) (AllReadyH.cons rfl (fun K hK => ?_) (AllReadyH.nil)))
        · go_simp
          refine hK.out _ _ (keep_alloc hV _) (fun hS => ?_)
          clear hK K
          have n := Nc0 (V.alloc (.cells #[.slice none 0 0, .bool false, .int .i64 0, .int .i64 0, .string ⟨#[]⟩, .int .i64 0, .int .i64 0, .int .i64 0, .int .i64 0, .int .i64 0, .string ⟨#[]⟩, .bool false] 61)) V.heap.size bo d hS (Blk.new V #[.slice none 0 0, .bool false, .int .i64 0, .int .i64 0, .string ⟨#[]⟩, .int .i64 0, .int .i64 0, .int .i64 0, .int .i64 0, .int .i64 0, .string ⟨#[]⟩, .bool false] 61) hV.size (hvy.later ((Below.refl _ _).alloc (Nat.le_refl _) _)) (fun g hg => by have := (hvy.lt g hg).2; omega)
          rw [hops, hQ0] at n
          exact n
        · go_simp
          refine hK.out _ _ (keep_alloc hV _) (fun hS => ?_)
          clear hK K
          have n := Nc1 (V.alloc (.cells #[.int .i64 0, .int .i64 0] 36)) V.heap.size bo d hS (Blk.new V #[.int .i64 0, .int .i64 0] 36) hV.size (hvy.later ((Below.refl _ _).alloc (Nat.le_refl _) _)) (fun g hg => by have := (hvy.lt g hg).2; omega)
          rw [hops, hQ0] at n
          exact n
        · go_simp
          refine hK.out _ _ (keep_alloc hV _) (fun hS => ?_)
          clear hK K
          have n := Nc2 (V.alloc (.cells #[.int .i64 0, .int .i64 0, .string ⟨#[]⟩, .int .i64 0, .int .i64 0] 38)) V.heap.size bo d hS (Blk.new V #[.int .i64 0, .int .i64 0, .string ⟨#[]⟩, .int .i64 0, .int .i64 0] 38) hV.size (hvy.later ((Below.refl _ _).alloc (Nat.le_refl _) _)) (fun g hg => by have := (hvy.lt g hg).2; omega)
          rw [hops, hQ0] at n
          exact n
      have Nn012 : ∀ (V : World) (B13 B14 B15 : Nat), Below w2.heap.size w2 V → Blk V B13 [.slice none 0 0, .bool false, .int .i64 0, .int .i64 0, .string ⟨#[]⟩, .int .i64 0, .int .i64 0, .int .i64 0, .int .i64 0, .int .i64 0, .string ⟨#[]⟩, .bool false] → w2.heap.size ≤ B13 → Blk V B14 [.int .i64 0, .int .i64 0] → w2.heap.size ≤ B14 → Blk V B15 [.int .i64 0, .int .i64 0, .string ⟨#[]⟩, .int .i64 0, .int .i64 0] → w2.heap.size ≤ B15 → B13 ≠ B14 → B13 ≠ B15 → B14 ≠ B15 → wpAnyH Tryz.prog .any ops Q0 (fun y => Below w2.heap.size w2 y) 10 #[true, true, true, true, true, true, true, false, false, false, false, false, false, true, true, true, false, false, false, false] { tmps := #[.pointer (some ⟨a, 0, none⟩), .string k, .agg #[.int .i64 i.txn.id, .int .i64 i.txn.ep, .string i.txn.anchor, .int .i64 i.txn.start.fst, .int .i64 i.txn.start.snd, .int .i64 i.seq, .int .i64 i.at_.fst, .int .i64 i.at_.snd, .string i.val, .bool i.gone], undef, undef, .pointer (some ⟨w.heap.size, 0, none⟩), .pointer (some ⟨w.heap.size + 1, 0, none⟩), .pointer (some ⟨w.heap.size + 1 + 1, 0, none⟩), .int .i64 0, .pointer (some ⟨B13, 0, none⟩), .pointer (some ⟨B14, 0, none⟩), .pointer (some ⟨B15, 0, none⟩), undef, .pointer (some ⟨a, 0, none⟩), .bool false, undef, undef, .string k, .bool true, .bool false, undef, undef, .pointer (some ⟨w.heap.size, 8, none⟩), .string i.val, .pointer (some ⟨w.heap.size, 9, none⟩), .bool i.gone, .bool true, .bool false, undef, undef, undef, .pointer (some ⟨a, 0, none⟩), .pointer (some ⟨a, 0, none⟩), .pointer (some ⟨a, 0, none⟩), .map (some b), .string k, .agg #[.slice ao nv cap, .bool o, .int .i64 it.txn.id, .int .i64 it.txn.ep, .string it.txn.anchor, .int .i64 it.txn.start.fst, .int .i64 it.txn.start.snd, .int .i64 it.seq, .int .i64 it.at_.fst, .int .i64 it.at_.snd, .string it.val, .bool it.gone], .agg #[.int .i64 i.txn.id, .int .i64 i.txn.ep, .string i.txn.anchor, .int .i64 i.txn.start.fst, .int .i64 i.txn.start.snd, .int .i64 i.seq, .int .i64 i.at_.fst, .int .i64 i.at_.snd, .string i.val, .bool i.gone], undef, undef, undef, undef, undef, undef, undef, undef, undef, undef, undef, undef, undef, undef, undef, undef], defers := [] } V := by
        intro V B13 B14 B15 hV hB13 hl13 hB14 hl14 hB15 hl15 hn1314 hn1315 hn1415
        rw [hops, hQ0]
        refine wpAnyH_ready (rs := [7]) (by kernel_rfl) (by simp) ?_
        refine AllReadyH.cons rfl (fun K hK => ?_) (AllReadyH.nil)
        · go_simp
          refine (kw V hV).mono ?_
          rintro e w3 ⟨bo, d, rfl, ho, hb3⟩
          refine hK.out _ _ (keep_call hV hb3) (fun hS => ?_)
          clear hK K
          refine held_take 8 30 rfl rfl (by kernel_rfl) (by kernel_rfl) (by kernel_rfl) (fun _ _ _ h => h) (by rfl) hS (v := ?_) ?_ ?_
          rotate_left
          · intro y hSy
            skip
            clear hSy
            go_simp
            with_reducible rfl
          simp only [Act.put, List.setIfInBounds_toArray, List.set_cons_zero, List.set_cons_succ]
          refine held_take 9 39 rfl rfl (by kernel_rfl) (by kernel_rfl) (by kernel_rfl) (fun _ _ _ h => h) (by rfl) hS (v := ?_) ?_ ?_
          rotate_left
          · intro y hSy
            skip
            clear hSy
            go_simp
            with_reducible rfl
          simp only [Act.put, List.setIfInBounds_toArray, List.set_cons_zero, List.set_cons_succ]
          refine held_take 10 40 rfl rfl (by kernel_rfl) (by kernel_rfl) (by kernel_rfl) (fun _ _ _ h => h) (by rfl) hS (v := ?_) ?_ ?_
          rotate_left
          · intro y hSy
            skip
            clear hSy
            go_simp
            with_reducible rfl
          simp only [Act.put, List.setIfInBounds_toArray, List.set_cons_zero, List.set_cons_succ]
          refine held_take 11 41 rfl rfl (by kernel_rfl) (by kernel_rfl) (by kernel_rfl) (fun _ _ _ h => h) (by rfl) hS (v := ?_) ?_ ?_
          rotate_left
          · intro y hSy
            skip
            clear hSy
            go_simp
            with_reducible rfl
          simp only [Act.put, List.setIfInBounds_toArray, List.set_cons_zero, List.set_cons_succ]
          refine held_take 12 42 rfl rfl (by kernel_rfl) (by kernel_rfl) (by kernel_rfl) (fun _ _ _ h => h) (by rfl) hS (v := ?_) ?_ ?_
          rotate_left
          · intro y hSy
            skip
            clear hSy
            go_simp
            with_reducible rfl
          simp only [Act.put, List.setIfInBounds_toArray, List.set_cons_zero, List.set_cons_succ]
          have n := Nc012 w3 B13 B14 B15 bo d hS (hB13.later hb3) hl13 (hB14.later hb3) hl14 (hB15.later hb3) hl15 hn1314 hn1315 hn1415 (ho.mono hV.size) (fun g hg => by have h1 := (ho.lt g hg).1; have h2 := hB13.lt; omega) (fun g hg => by have h1 := (ho.lt g hg).1; have h2 := hB14.lt; omega) (fun g hg => by have h1 := (ho.lt g hg).1; have h2 := hB15.lt; omega)
          rw [hops, hQ0] at n
          exact n
      have Nn01 : ∀ (V : World) (B13 B14 : Nat), Below w2.heap.size w2 V → Blk V B13 [.slice none 0 0, .bool false, .int .i64 0, .int .i64 0, .string ⟨#[]⟩, .int .i64 0, .int .i64 0, .int .i64 0, .int .i64 0, .int .i64 0, .string ⟨#[]⟩, .bool false] → w2.heap.size ≤ B13 → Blk V B14 [.int .i64 0, .int .i64 0] → w2.heap.size ≤ B14 → B13 ≠ B14 → wpAnyH Tryz.prog .any ops Q0 (fun y => Below w2.heap.size w2 y) 11 #[true, true, true, true, true, true, true, false, false, false, false, false, false, true, true, false, false, false, false, false] { tmps := #[.pointer (some ⟨a, 0, none⟩), .string k, .agg #[.int .i64 i.txn.id, .int .i64 i.txn.ep, .string i.txn.anchor, .int .i64 i.txn.start.fst, .int .i64 i.txn.start.snd, .int .i64 i.seq, .int .i64 i.at_.fst, .int .i64 i.at_.snd, .string i.val, .bool i.gone], undef, undef, .pointer (some ⟨w.heap.size, 0, none⟩), .pointer (some ⟨w.heap.size + 1, 0, none⟩), .pointer (some ⟨w.heap.size + 1 + 1, 0, none⟩), .int .i64 0, .pointer (some ⟨B13, 0, none⟩), .pointer (some ⟨B14, 0, none⟩), undef, undef, .pointer (some ⟨a, 0, none⟩), .bool false, undef, undef, .string k, .bool true, .bool false, undef, undef, .pointer (some ⟨w.heap.size, 8, none⟩), .string i.val, .pointer (some ⟨w.heap.size, 9, none⟩), .bool i.gone, .bool true, .bool false, undef, undef, undef, .pointer (some ⟨a, 0, none⟩), .pointer (some ⟨a, 0, none⟩), .pointer (some ⟨a, 0, none⟩), .map (some b), .string k, .agg #[.slice ao nv cap, .bool o, .int .i64 it.txn.id, .int .i64 it.txn.ep, .string it.txn.anchor, .int .i64 it.txn.start.fst, .int .i64 it.txn.start.snd, .int .i64 it.seq, .int .i64 it.at_.fst, .int .i64 it.at_.snd, .string it.val, .bool it.gone], .agg #[.int .i64 i.txn.id, .int .i64 i.txn.ep, .string i.txn.anchor, .int .i64 i.txn.start.fst, .int .i64 i.txn.start.snd, .int .i64 i.seq, .int .i64 i.at_.fst, .int .i64 i.at_.snd, .string i.val, .bool i.gone], undef, undef, undef, undef, undef, undef, undef, undef, undef, undef, undef, undef, undef, undef, undef, undef], defers := [] } V := by
        intro V B13 B14 hV hB13 hl13 hB14 hl14 hn1314
        rw [hops, hQ0]
        refine wpAnyH_ready (rs := [7, 15]) (by kernel_rfl) (by simp) ?_
        refine AllReadyH.cons rfl (fun K hK => ?_) (AllReadyH.cons rfl (fun K hK => ?_) (AllReadyH.nil))
        · go_simp
          refine (kw V hV).mono ?_
          rintro e w3 ⟨bo, d, rfl, ho, hb3⟩
          refine hK.out _ _ (keep_call hV hb3) (fun hS => ?_)
          clear hK K
          refine held_take 8 30 rfl rfl (by kernel_rfl) (by kernel_rfl) (by kernel_rfl) (fun _ _ _ h => h) (by rfl) hS (v := ?_) ?_ ?_
          rotate_left
          · intro y hSy
            skip
            clear hSy
            go_simp
            with_reducible rfl
          simp only [Act.put, List.setIfInBounds_toArray, List.set_cons_zero, List.set_cons_succ]
          refine held_take 9 39 rfl rfl (by kernel_rfl) (by kernel_rfl) (by kernel_rfl) (fun _ _ _ h => h) (by rfl) hS (v := ?_) ?_ ?_
          rotate_left
          · intro y hSy
            skip
            clear hSy
            go_simp
            with_reducible rfl
          simp only [Act.put, List.setIfInBounds_toArray, List.set_cons_zero, List.set_cons_succ]
          refine held_take 10 40 rfl rfl (by kernel_rfl) (by kernel_rfl) (by kernel_rfl) (fun _ _ _ h => h) (by rfl) hS (v := ?_) ?_ ?_
          rotate_left
          · intro y hSy
            skip
            clear hSy
            go_simp
            with_reducible rfl
          simp only [Act.put, List.setIfInBounds_toArray, List.set_cons_zero, List.set_cons_succ]
          refine held_take 11 41 rfl rfl (by kernel_rfl) (by kernel_rfl) (by kernel_rfl) (fun _ _ _ h => h) (by rfl) hS (v := ?_) ?_ ?_
          rotate_left
          · intro y hSy
            skip
            clear hSy
            go_simp
            with_reducible rfl
          simp only [Act.put, List.setIfInBounds_toArray, List.set_cons_zero, List.set_cons_succ]
          refine held_take 12 42 rfl rfl (by kernel_rfl) (by kernel_rfl) (by kernel_rfl) (fun _ _ _ h => h) (by rfl) hS (v := ?_) ?_ ?_
          rotate_left
          · intro y hSy
            skip
            clear hSy
            go_simp
            with_reducible rfl
          simp only [Act.put, List.setIfInBounds_toArray, List.set_cons_zero, List.set_cons_succ]
          have n := Nc01 w3 B13 B14 bo d hS (hB13.later hb3) hl13 (hB14.later hb3) hl14 hn1314 (ho.mono hV.size) (fun g hg => by have h1 := (ho.lt g hg).1; have h2 := hB13.lt; omega) (fun g hg => by have h1 := (ho.lt g hg).1; have h2 := hB14.lt; omega)
          rw [hops, hQ0] at n
          exact n
        · go_simp
          refine hK.out _ _ (keep_alloc hV _) (fun hS => ?_)
          clear hK K
          have n := Nn012 (V.alloc (.cells #[.int .i64 0, .int .i64 0, .string ⟨#[]⟩, .int .i64 0, .int .i64 0] 38)) B13 B14 V.heap.size hS (hB13.alloc _) hl13 (hB14.alloc _) hl14 (Blk.new V #[.int .i64 0, .int .i64 0, .string ⟨#[]⟩, .int .i64 0, .int .i64 0] 38) hV.size hn1314 (by have := hB13.lt; omega) (by have := hB14.lt; omega)
          rw [hops, hQ0] at n
          exact n
      have Nn02 : ∀ (V : World) (B13 B15 : Nat), Below w2.heap.size w2 V → Blk V B13 [.slice none 0 0, .bool false, .int .i64 0, .int .i64 0, .string ⟨#[]⟩, .int .i64 0, .int .i64 0, .int .i64 0, .int .i64 0, .int .i64 0, .string ⟨#[]⟩, .bool false] → w2.heap.size ≤ B13 → Blk V B15 [.int .i64 0, .int .i64 0, .string ⟨#[]⟩, .int .i64 0, .int .i64 0] → w2.heap.size ≤ B15 → B13 ≠ B15 → wpAnyH Tryz.prog .any ops Q0 (fun y => Below w2.heap.size w2 y) 11 #[true, true, true, true, true, true, true, false, false, false, false, false, false, true, false, true, false, false, false, false] { tmps := #[.pointer (some ⟨a, 0, none⟩), .string k, .agg #[.int .i64 i.txn.id, .int .i64 i.txn.ep, .string i.txn.anchor, .int .i64 i.txn.start.fst, .int .i64 i.txn.start.snd, .int .i64 i.seq, .int .i64 i.at_.fst, .int .i64 i.at_.snd, .string i.val, .bool i.gone], undef, undef, .pointer (some ⟨w.heap.size, 0, none⟩), .pointer (some ⟨w.heap.size + 1, 0, none⟩), .pointer (some ⟨w.heap.size + 1 + 1, 0, none⟩), .int .i64 0, .pointer (some ⟨B13, 0, none⟩), undef, .pointer (some ⟨B15, 0, none⟩), undef, .pointer (some ⟨a, 0, none⟩), .bool false, undef, undef, .string k, .bool true, .bool false, undef, undef, .pointer (some ⟨w.heap.size, 8, none⟩), .string i.val, .pointer (some ⟨w.heap.size, 9, none⟩), .bool i.gone, .bool true, .bool false, undef, undef, undef, .pointer (some ⟨a, 0, none⟩), .pointer (some ⟨a, 0, none⟩), .pointer (some ⟨a, 0, none⟩), .map (some b), .string k, .agg #[.slice ao nv cap, .bool o, .int .i64 it.txn.id, .int .i64 it.txn.ep, .string it.txn.anchor, .int .i64 it.txn.start.fst, .int .i64 it.txn.start.snd, .int .i64 it.seq, .int .i64 it.at_.fst, .int .i64 it.at_.snd, .string it.val, .bool it.gone], .agg #[.int .i64 i.txn.id, .int .i64 i.txn.ep, .string i.txn.anchor, .int .i64 i.txn.start.fst, .int .i64 i.txn.start.snd, .int .i64 i.seq, .int .i64 i.at_.fst, .int .i64 i.at_.snd, .string i.val, .bool i.gone], undef, undef, undef, undef, undef, undef, undef, undef, undef, undef, undef, undef, undef, undef, undef, undef], defers := [] } V := by
        intro V B13 B15 hV hB13 hl13 hB15 hl15 hn1315
        rw [hops, hQ0]
        refine wpAnyH_ready (rs := [7, 14]) (by kernel_rfl) (by simp) ?_
        refine AllReadyH.cons rfl (fun K hK => ?_) (AllReadyH.cons rfl (fun K hK => ?_) (AllReadyH.nil))
        · go_simp
          refine (kw V hV).mono ?_
          rintro e w3 ⟨bo, d, rfl, ho, hb3⟩
          refine hK.out _ _ (keep_call hV hb3) (fun hS => ?_)
          clear hK K
          refine held_take 8 30 rfl rfl (by kernel_rfl) (by kernel_rfl) (by kernel_rfl) (fun _ _ _ h => h) (by rfl) hS (v := ?_) ?_ ?_
          rotate_left
          · intro y hSy
            skip
            clear hSy
            go_simp
            with_reducible rfl
          simp only [Act.put, List.setIfInBounds_toArray, List.set_cons_zero, List.set_cons_succ]
          refine held_take 9 39 rfl rfl (by kernel_rfl) (by kernel_rfl) (by kernel_rfl) (fun _ _ _ h => h) (by rfl) hS (v := ?_) ?_ ?_
          rotate_left
          · intro y hSy
            skip
            clear hSy
            go_simp
            with_reducible rfl
          simp only [Act.put, List.setIfInBounds_toArray, List.set_cons_zero, List.set_cons_succ]
          refine held_take 10 40 rfl rfl (by kernel_rfl) (by kernel_rfl) (by kernel_rfl) (fun _ _ _ h => h) (by rfl) hS (v := ?_) ?_ ?_
          rotate_left
          · intro y hSy
            skip
            clear hSy
            go_simp
            with_reducible rfl
          simp only [Act.put, List.setIfInBounds_toArray, List.set_cons_zero, List.set_cons_succ]
          refine held_take 11 41 rfl rfl (by kernel_rfl) (by kernel_rfl) (by kernel_rfl) (fun _ _ _ h => h) (by rfl) hS (v := ?_) ?_ ?_
          rotate_left
          · intro y hSy
            skip
            clear hSy
            go_simp
            with_reducible rfl
          simp only [Act.put, List.setIfInBounds_toArray, List.set_cons_zero, List.set_cons_succ]
          refine held_take 12 42 rfl rfl (by kernel_rfl) (by kernel_rfl) (by kernel_rfl) (fun _ _ _ h => h) (by rfl) hS (v := ?_) ?_ ?_
          rotate_left
          · intro y hSy
            skip
            clear hSy
            go_simp
            with_reducible rfl
          simp only [Act.put, List.setIfInBounds_toArray, List.set_cons_zero, List.set_cons_succ]
          have n := Nc02 w3 B13 B15 bo d hS (hB13.later hb3) hl13 (hB15.later hb3) hl15 hn1315 (ho.mono hV.size) (fun g hg => by have h1 := (ho.lt g hg).1; have h2 := hB13.lt; omega) (fun g hg => by have h1 := (ho.lt g hg).1; have h2 := hB15.lt; omega)
          rw [hops, hQ0] at n
          exact n
        · go_simp
          refine hK.out _ _ (keep_alloc hV _) (fun hS => ?_)
          clear hK K
          have n := Nn012 (V.alloc (.cells #[.int .i64 0, .int .i64 0] 36)) B13 V.heap.size B15 hS (hB13.alloc _) hl13 (Blk.new V #[.int .i64 0, .int .i64 0] 36) hV.size (hB15.alloc _) hl15 (by have := hB13.lt; omega) hn1315 (by have := hB15.lt; omega)
          rw [hops, hQ0] at n
          exact n
      have Nn12 : ∀ (V : World) (B14 B15 : Nat), Below w2.heap.size w2 V → Blk V B14 [.int .i64 0, .int .i64 0] → w2.heap.size ≤ B14 → Blk V B15 [.int .i64 0, .int .i64 0, .string ⟨#[]⟩, .int .i64 0, .int .i64 0] → w2.heap.size ≤ B15 → B14 ≠ B15 → wpAnyH Tryz.prog .any ops Q0 (fun y => Below w2.heap.size w2 y) 11 #[true, true, true, true, true, true, true, false, false, false, false, false, false, false, true, true, false, false, false, false] { tmps := #[.pointer (some ⟨a, 0, none⟩), .string k, .agg #[.int .i64 i.txn.id, .int .i64 i.txn.ep, .string i.txn.anchor, .int .i64 i.txn.start.fst, .int .i64 i.txn.start.snd, .int .i64 i.seq, .int .i64 i.at_.fst, .int .i64 i.at_.snd, .string i.val, .bool i.gone], undef, undef, .pointer (some ⟨w.heap.size, 0, none⟩), .pointer (some ⟨w.heap.size + 1, 0, none⟩), .pointer (some ⟨w.heap.size + 1 + 1, 0, none⟩), .int .i64 0, undef, .pointer (some ⟨B14, 0, none⟩), .pointer (some ⟨B15, 0, none⟩), undef, .pointer (some ⟨a, 0, none⟩), .bool false, undef, undef, .string k, .bool true, .bool false, undef, undef, .pointer (some ⟨w.heap.size, 8, none⟩), .string i.val, .pointer (some ⟨w.heap.size, 9, none⟩), .bool i.gone, .bool true, .bool false, undef, undef, undef, .pointer (some ⟨a, 0, none⟩), .pointer (some ⟨a, 0, none⟩), .pointer (some ⟨a, 0, none⟩), .map (some b), .string k, .agg #[.slice ao nv cap, .bool o, .int .i64 it.txn.id, .int .i64 it.txn.ep, .string it.txn.anchor, .int .i64 it.txn.start.fst, .int .i64 it.txn.start.snd, .int .i64 it.seq, .int .i64 it.at_.fst, .int .i64 it.at_.snd, .string it.val, .bool it.gone], .agg #[.int .i64 i.txn.id, .int .i64 i.txn.ep, .string i.txn.anchor, .int .i64 i.txn.start.fst, .int .i64 i.txn.start.snd, .int .i64 i.seq, .int .i64 i.at_.fst, .int .i64 i.at_.snd, .string i.val, .bool i.gone], undef, undef, undef, undef, undef, undef, undef, undef, undef, undef, undef, undef, undef, undef, undef, undef], defers := [] } V := by
        intro V B14 B15 hV hB14 hl14 hB15 hl15 hn1415
        rw [hops, hQ0]
        refine wpAnyH_ready (rs := [7, 13]) (by kernel_rfl) (by simp) ?_
        refine AllReadyH.cons rfl (fun K hK => ?_) (AllReadyH.cons rfl (fun K hK => ?_) (AllReadyH.nil))
        · go_simp
          refine (kw V hV).mono ?_
          rintro e w3 ⟨bo, d, rfl, ho, hb3⟩
          refine hK.out _ _ (keep_call hV hb3) (fun hS => ?_)
          clear hK K
          refine held_take 8 30 rfl rfl (by kernel_rfl) (by kernel_rfl) (by kernel_rfl) (fun _ _ _ h => h) (by rfl) hS (v := ?_) ?_ ?_
          rotate_left
          · intro y hSy
            skip
            clear hSy
            go_simp
            with_reducible rfl
          simp only [Act.put, List.setIfInBounds_toArray, List.set_cons_zero, List.set_cons_succ]
          refine held_take 9 39 rfl rfl (by kernel_rfl) (by kernel_rfl) (by kernel_rfl) (fun _ _ _ h => h) (by rfl) hS (v := ?_) ?_ ?_
          rotate_left
          · intro y hSy
            skip
            clear hSy
            go_simp
            with_reducible rfl
          simp only [Act.put, List.setIfInBounds_toArray, List.set_cons_zero, List.set_cons_succ]
          refine held_take 10 40 rfl rfl (by kernel_rfl) (by kernel_rfl) (by kernel_rfl) (fun _ _ _ h => h) (by rfl) hS (v := ?_) ?_ ?_
          rotate_left
          · intro y hSy
            skip
            clear hSy
            go_simp
            with_reducible rfl
          simp only [Act.put, List.setIfInBounds_toArray, List.set_cons_zero, List.set_cons_succ]
          refine held_take 11 41 rfl rfl (by kernel_rfl) (by kernel_rfl) (by kernel_rfl) (fun _ _ _ h => h) (by rfl) hS (v := ?_) ?_ ?_
          rotate_left
          · intro y hSy
            skip
            clear hSy
            go_simp
            with_reducible rfl
          simp only [Act.put, List.setIfInBounds_toArray, List.set_cons_zero, List.set_cons_succ]
          refine held_take 12 42 rfl rfl (by kernel_rfl) (by kernel_rfl) (by kernel_rfl) (fun _ _ _ h => h) (by rfl) hS (v := ?_) ?_ ?_
          rotate_left
          · intro y hSy
            skip
            clear hSy
            go_simp
            with_reducible rfl
          simp only [Act.put, List.setIfInBounds_toArray, List.set_cons_zero, List.set_cons_succ]
          have n := Nc12 w3 B14 B15 bo d hS (hB14.later hb3) hl14 (hB15.later hb3) hl15 hn1415 (ho.mono hV.size) (fun g hg => by have h1 := (ho.lt g hg).1; have h2 := hB14.lt; omega) (fun g hg => by have h1 := (ho.lt g hg).1; have h2 := hB15.lt; omega)
          rw [hops, hQ0] at n
          exact n
        · go_simp
          refine hK.out _ _ (keep_alloc hV _) (fun hS => ?_)
          clear hK K
          have n := Nn012 (V.alloc (.cells #[.slice none 0 0, .bool false, .int .i64 0, .int .i64 0, .string ⟨#[]⟩, .int .i64 0, .int .i64 0, .int .i64 0, .int .i64 0, .int .i64 0, .string ⟨#[]⟩, .bool false] 61)) V.heap.size B14 B15 hS (Blk.new V #[.slice none 0 0, .bool false, .int .i64 0, .int .i64 0, .string ⟨#[]⟩, .int .i64 0, .int .i64 0, .int .i64 0, .int .i64 0, .int .i64 0, .string ⟨#[]⟩, .bool false] 61) hV.size (hB14.alloc _) hl14 (hB15.alloc _) hl15 (by have := hB14.lt; omega) (by have := hB15.lt; omega) hn1415
          rw [hops, hQ0] at n
          exact n
      have Nn0 : ∀ (V : World) (B13 : Nat), Below w2.heap.size w2 V → Blk V B13 [.slice none 0 0, .bool false, .int .i64 0, .int .i64 0, .string ⟨#[]⟩, .int .i64 0, .int .i64 0, .int .i64 0, .int .i64 0, .int .i64 0, .string ⟨#[]⟩, .bool false] → w2.heap.size ≤ B13 → wpAnyH Tryz.prog .any ops Q0 (fun y => Below w2.heap.size w2 y) 12 #[true, true, true, true, true, true, true, false, false, false, false, false, false, true, false, false, false, false, false, false] { tmps := #[.pointer (some ⟨a, 0, none⟩), .string k, .agg #[.int .i64 i.txn.id, .int .i64 i.txn.ep, .string i.txn.anchor, .int .i64 i.txn.start.fst, .int .i64 i.txn.start.snd, .int .i64 i.seq, .int .i64 i.at_.fst, .int .i64 i.at_.snd, .string i.val, .bool i.gone], undef, undef, .pointer (some ⟨w.heap.size, 0, none⟩), .pointer (some ⟨w.heap.size + 1, 0, none⟩), .pointer (some ⟨w.heap.size + 1 + 1, 0, none⟩), .int .i64 0, .pointer (some ⟨B13, 0, none⟩), undef, undef, undef, .pointer (some ⟨a, 0, none⟩), .bool false, undef, undef, .string k, .bool true, .bool false, undef, undef, .pointer (some ⟨w.heap.size, 8, none⟩), .string i.val, .pointer (some ⟨w.heap.size, 9, none⟩), .bool i.gone, .bool true, .bool false, undef, undef, undef, .pointer (some ⟨a, 0, none⟩), .pointer (some ⟨a, 0, none⟩), .pointer (some ⟨a, 0, none⟩), .map (some b), .string k, .agg #[.slice ao nv cap, .bool o, .int .i64 it.txn.id, .int .i64 it.txn.ep, .string it.txn.anchor, .int .i64 it.txn.start.fst, .int .i64 it.txn.start.snd, .int .i64 it.seq, .int .i64 it.at_.fst, .int .i64 it.at_.snd, .string it.val, .bool it.gone], .agg #[.int .i64 i.txn.id, .int .i64 i.txn.ep, .string i.txn.anchor, .int .i64 i.txn.start.fst, .int .i64 i.txn.start.snd, .int .i64 i.seq, .int .i64 i.at_.fst, .int .i64 i.at_.snd, .string i.val, .bool i.gone], undef, undef, undef, undef, undef, undef, undef, undef, undef, undef, undef, undef, undef, undef, undef, undef], defers := [] } V := by
        intro V B13 hV hB13 hl13
        rw [hops, hQ0]
        refine wpAnyH_ready (rs := [7, 14, 15]) (by kernel_rfl) (by simp) ?_
        refine AllReadyH.cons rfl (fun K hK => ?_) (AllReadyH.cons rfl (fun K hK => ?_) (AllReadyH.cons rfl (fun K hK => ?_) (AllReadyH.nil)))
        · go_simp
          refine (kw V hV).mono ?_
          rintro e w3 ⟨bo, d, rfl, ho, hb3⟩
          refine hK.out _ _ (keep_call hV hb3) (fun hS => ?_)
          clear hK K
          refine held_take 8 30 rfl rfl (by kernel_rfl) (by kernel_rfl) (by kernel_rfl) (fun _ _ _ h => h) (by rfl) hS (v := ?_) ?_ ?_
          rotate_left
          · intro y hSy
            skip
            clear hSy
            go_simp
            with_reducible rfl
          simp only [Act.put, List.setIfInBounds_toArray, List.set_cons_zero, List.set_cons_succ]
          refine held_take 9 39 rfl rfl (by kernel_rfl) (by kernel_rfl) (by kernel_rfl) (fun _ _ _ h => h) (by rfl) hS (v := ?_) ?_ ?_
          rotate_left
          · intro y hSy
            skip
            clear hSy
            go_simp
            with_reducible rfl
          simp only [Act.put, List.setIfInBounds_toArray, List.set_cons_zero, List.set_cons_succ]
          refine held_take 10 40 rfl rfl (by kernel_rfl) (by kernel_rfl) (by kernel_rfl) (fun _ _ _ h => h) (by rfl) hS (v := ?_) ?_ ?_
          rotate_left
          · intro y hSy
            skip
            clear hSy
            go_simp
            with_reducible rfl
          simp only [Act.put, List.setIfInBounds_toArray, List.set_cons_zero, List.set_cons_succ]
          refine held_take 11 41 rfl rfl (by kernel_rfl) (by kernel_rfl) (by kernel_rfl) (fun _ _ _ h => h) (by rfl) hS (v := ?_) ?_ ?_
          rotate_left
          · intro y hSy
            skip
            clear hSy
            go_simp
            with_reducible rfl
          simp only [Act.put, List.setIfInBounds_toArray, List.set_cons_zero, List.set_cons_succ]
          refine held_take 12 42 rfl rfl (by kernel_rfl) (by kernel_rfl) (by kernel_rfl) (fun _ _ _ h => h) (by rfl) hS (v := ?_) ?_ ?_
          rotate_left
          · intro y hSy
            skip
            clear hSy
            go_simp
            with_reducible rfl
          simp only [Act.put, List.setIfInBounds_toArray, List.set_cons_zero, List.set_cons_succ]
          have n := Nc0 w3 B13 bo d hS (hB13.later hb3) hl13 (ho.mono hV.size) (fun g hg => by have h1 := (ho.lt g hg).1; have h2 := hB13.lt; omega)
          rw [hops, hQ0] at n
          exact n
        · go_simp
          refine hK.out _ _ (keep_alloc hV _) (fun hS => ?_)
          clear hK K
          have n := Nn01 (V.alloc (.cells #[.int .i64 0, .int .i64 0] 36)) B13 V.heap.size hS (hB13.alloc _) hl13 (Blk.new V #[.int .i64 0, .int .i64 0] 36) hV.size (by have := hB13.lt; omega)
          rw [hops, hQ0] at n
          exact n
        · go_simp
          refine hK.out _ _ (keep_alloc hV _) (fun hS => ?_)
          clear hK K
          have n := Nn02 (V.alloc (.cells #[.int .i64 0, .int .i64 0, .string ⟨#[]⟩, .int .i64 0, .int .i64 0] 38)) B13 V.heap.size hS (hB13.alloc _) hl13 (Blk.new V #[.int .i64 0, .int .i64 0, .string ⟨#[]⟩, .int .i64 0, .int .i64 0] 38) hV.size (by have := hB13.lt; omega)
          rw [hops, hQ0] at n
          exact n
      have Nn1 : ∀ (V : World) (B14 : Nat), Below w2.heap.size w2 V → Blk V B14 [.int .i64 0, .int .i64 0] → w2.heap.size ≤ B14 → wpAnyH Tryz.prog .any ops Q0 (fun y => Below w2.heap.size w2 y) 12 #[true, true, true, true, true, true, true, false, false, false, false, false, false, false, true, false, false, false, false, false] { tmps := #[.pointer (some ⟨a, 0, none⟩), .string k, .agg #[.int .i64 i.txn.id, .int .i64 i.txn.ep, .string i.txn.anchor, .int .i64 i.txn.start.fst, .int .i64 i.txn.start.snd, .int .i64 i.seq, .int .i64 i.at_.fst, .int .i64 i.at_.snd, .string i.val, .bool i.gone], undef, undef, .pointer (some ⟨w.heap.size, 0, none⟩), .pointer (some ⟨w.heap.size + 1, 0, none⟩), .pointer (some ⟨w.heap.size + 1 + 1, 0, none⟩), .int .i64 0, undef, .pointer (some ⟨B14, 0, none⟩), undef, undef, .pointer (some ⟨a, 0, none⟩), .bool false, undef, undef, .string k, .bool true, .bool false, undef, undef, .pointer (some ⟨w.heap.size, 8, none⟩), .string i.val, .pointer (some ⟨w.heap.size, 9, none⟩), .bool i.gone, .bool true, .bool false, undef, undef, undef, .pointer (some ⟨a, 0, none⟩), .pointer (some ⟨a, 0, none⟩), .pointer (some ⟨a, 0, none⟩), .map (some b), .string k, .agg #[.slice ao nv cap, .bool o, .int .i64 it.txn.id, .int .i64 it.txn.ep, .string it.txn.anchor, .int .i64 it.txn.start.fst, .int .i64 it.txn.start.snd, .int .i64 it.seq, .int .i64 it.at_.fst, .int .i64 it.at_.snd, .string it.val, .bool it.gone], .agg #[.int .i64 i.txn.id, .int .i64 i.txn.ep, .string i.txn.anchor, .int .i64 i.txn.start.fst, .int .i64 i.txn.start.snd, .int .i64 i.seq, .int .i64 i.at_.fst, .int .i64 i.at_.snd, .string i.val, .bool i.gone], undef, undef, undef, undef, undef, undef, undef, undef, undef, undef, undef, undef, undef, undef, undef, undef], defers := [] } V := by
        intro V B14 hV hB14 hl14
        rw [hops, hQ0]
        refine wpAnyH_ready (rs := [7, 13, 15]) (by kernel_rfl) (by simp) ?_
        refine AllReadyH.cons rfl (fun K hK => ?_) (AllReadyH.cons rfl (fun K hK => ?_) (AllReadyH.cons rfl (fun K hK => ?_) (AllReadyH.nil)))
        · go_simp
          refine (kw V hV).mono ?_
          rintro e w3 ⟨bo, d, rfl, ho, hb3⟩
          refine hK.out _ _ (keep_call hV hb3) (fun hS => ?_)
          clear hK K
          refine held_take 8 30 rfl rfl (by kernel_rfl) (by kernel_rfl) (by kernel_rfl) (fun _ _ _ h => h) (by rfl) hS (v := ?_) ?_ ?_
          rotate_left
          · intro y hSy
            skip
            clear hSy
            go_simp
            with_reducible rfl
          simp only [Act.put, List.setIfInBounds_toArray, List.set_cons_zero, List.set_cons_succ]
          refine held_take 9 39 rfl rfl (by kernel_rfl) (by kernel_rfl) (by kernel_rfl) (fun _ _ _ h => h) (by rfl) hS (v := ?_) ?_ ?_
          rotate_left
          · intro y hSy
            skip
            clear hSy
            go_simp
            with_reducible rfl
          simp only [Act.put, List.setIfInBounds_toArray, List.set_cons_zero, List.set_cons_succ]
          refine held_take 10 40 rfl rfl (by kernel_rfl) (by kernel_rfl) (by kernel_rfl) (fun _ _ _ h => h) (by rfl) hS (v := ?_) ?_ ?_
          rotate_left
          · intro y hSy
            skip
            clear hSy
            go_simp
            with_reducible rfl
          simp only [Act.put, List.setIfInBounds_toArray, List.set_cons_zero, List.set_cons_succ]
          refine held_take 11 41 rfl rfl (by kernel_rfl) (by kernel_rfl) (by kernel_rfl) (fun _ _ _ h => h) (by rfl) hS (v := ?_) ?_ ?_
          rotate_left
          · intro y hSy
            skip
            clear hSy
            go_simp
            with_reducible rfl
          simp only [Act.put, List.setIfInBounds_toArray, List.set_cons_zero, List.set_cons_succ]
          refine held_take 12 42 rfl rfl (by kernel_rfl) (by kernel_rfl) (by kernel_rfl) (fun _ _ _ h => h) (by rfl) hS (v := ?_) ?_ ?_
          rotate_left
          · intro y hSy
            skip
            clear hSy
            go_simp
            with_reducible rfl
          simp only [Act.put, List.setIfInBounds_toArray, List.set_cons_zero, List.set_cons_succ]
          have n := Nc1 w3 B14 bo d hS (hB14.later hb3) hl14 (ho.mono hV.size) (fun g hg => by have h1 := (ho.lt g hg).1; have h2 := hB14.lt; omega)
          rw [hops, hQ0] at n
          exact n
        · go_simp
          refine hK.out _ _ (keep_alloc hV _) (fun hS => ?_)
          clear hK K
          have n := Nn01 (V.alloc (.cells #[.slice none 0 0, .bool false, .int .i64 0, .int .i64 0, .string ⟨#[]⟩, .int .i64 0, .int .i64 0, .int .i64 0, .int .i64 0, .int .i64 0, .string ⟨#[]⟩, .bool false] 61)) V.heap.size B14 hS (Blk.new V #[.slice none 0 0, .bool false, .int .i64 0, .int .i64 0, .string ⟨#[]⟩, .int .i64 0, .int .i64 0, .int .i64 0, .int .i64 0, .int .i64 0, .string ⟨#[]⟩, .bool false] 61) hV.size (hB14.alloc _) hl14 (by have := hB14.lt; omega)
          rw [hops, hQ0] at n
          exact n
        · go_simp
          refine hK.out _ _ (keep_alloc hV _) (fun hS => ?_)
          clear hK K
          have n := Nn12 (V.alloc (.cells #[.int .i64 0, .int .i64 0, .string ⟨#[]⟩, .int .i64 0, .int .i64 0] 38)) B14 V.heap.size hS (hB14.alloc _) hl14 (Blk.new V #[.int .i64 0, .int .i64 0, .string ⟨#[]⟩, .int .i64 0, .int .i64 0] 38) hV.size (by have := hB14.lt; omega)
          rw [hops, hQ0] at n
          exact n
      have Nn2 : ∀ (V : World) (B15 : Nat), Below w2.heap.size w2 V → Blk V B15 [.int .i64 0, .int .i64 0, .string ⟨#[]⟩, .int .i64 0, .int .i64 0] → w2.heap.size ≤ B15 → wpAnyH Tryz.prog .any ops Q0 (fun y => Below w2.heap.size w2 y) 12 #[true, true, true, true, true, true, true, false, false, false, false, false, false, false, false, true, false, false, false, false] { tmps := #[.pointer (some ⟨a, 0, none⟩), .string k, .agg #[.int .i64 i.txn.id, .int .i64 i.txn.ep, .string i.txn.anchor, .int .i64 i.txn.start.fst, .int .i64 i.txn.start.snd, .int .i64 i.seq, .int .i64 i.at_.fst, .int .i64 i.at_.snd, .string i.val, .bool i.gone], undef, undef, .pointer (some ⟨w.heap.size, 0, none⟩), .pointer (some ⟨w.heap.size + 1, 0, none⟩), .pointer (some ⟨w.heap.size + 1 + 1, 0, none⟩), .int .i64 0, undef, undef, .pointer (some ⟨B15, 0, none⟩), undef, .pointer (some ⟨a, 0, none⟩), .bool false, undef, undef, .string k, .bool true, .bool false, undef, undef, .pointer (some ⟨w.heap.size, 8, none⟩), .string i.val, .pointer (some ⟨w.heap.size, 9, none⟩), .bool i.gone, .bool true, .bool false, undef, undef, undef, .pointer (some ⟨a, 0, none⟩), .pointer (some ⟨a, 0, none⟩), .pointer (some ⟨a, 0, none⟩), .map (some b), .string k, .agg #[.slice ao nv cap, .bool o, .int .i64 it.txn.id, .int .i64 it.txn.ep, .string it.txn.anchor, .int .i64 it.txn.start.fst, .int .i64 it.txn.start.snd, .int .i64 it.seq, .int .i64 it.at_.fst, .int .i64 it.at_.snd, .string it.val, .bool it.gone], .agg #[.int .i64 i.txn.id, .int .i64 i.txn.ep, .string i.txn.anchor, .int .i64 i.txn.start.fst, .int .i64 i.txn.start.snd, .int .i64 i.seq, .int .i64 i.at_.fst, .int .i64 i.at_.snd, .string i.val, .bool i.gone], undef, undef, undef, undef, undef, undef, undef, undef, undef, undef, undef, undef, undef, undef, undef, undef], defers := [] } V := by
        intro V B15 hV hB15 hl15
        rw [hops, hQ0]
        refine wpAnyH_ready (rs := [7, 13, 14]) (by kernel_rfl) (by simp) ?_
        refine AllReadyH.cons rfl (fun K hK => ?_) (AllReadyH.cons rfl (fun K hK => ?_) (AllReadyH.cons rfl (fun K hK => ?_) (AllReadyH.nil)))
        · go_simp
          refine (kw V hV).mono ?_
          rintro e w3 ⟨bo, d, rfl, ho, hb3⟩
          refine hK.out _ _ (keep_call hV hb3) (fun hS => ?_)
          clear hK K
          refine held_take 8 30 rfl rfl (by kernel_rfl) (by kernel_rfl) (by kernel_rfl) (fun _ _ _ h => h) (by rfl) hS (v := ?_) ?_ ?_
          rotate_left
          · intro y hSy
            skip
            clear hSy
            go_simp
            with_reducible rfl
          simp only [Act.put, List.setIfInBounds_toArray, List.set_cons_zero, List.set_cons_succ]
          refine held_take 9 39 rfl rfl (by kernel_rfl) (by kernel_rfl) (by kernel_rfl) (fun _ _ _ h => h) (by rfl) hS (v := ?_) ?_ ?_
          rotate_left
          · intro y hSy
            skip
            clear hSy
            go_simp
            with_reducible rfl
          simp only [Act.put, List.setIfInBounds_toArray, List.set_cons_zero, List.set_cons_succ]
          refine held_take 10 40 rfl rfl (by kernel_rfl) (by kernel_rfl) (by kernel_rfl) (fun _ _ _ h => h) (by rfl) hS (v := ?_) ?_ ?_
          rotate_left
          · intro y hSy
            skip
            clear hSy
            go_simp
            with_reducible rfl
          simp only [Act.put, List.setIfInBounds_toArray, List.set_cons_zero, List.set_cons_succ]
          refine held_take 11 41 rfl rfl (by kernel_rfl) (by kernel_rfl) (by kernel_rfl) (fun _ _ _ h => h) (by rfl) hS (v := ?_) ?_ ?_
          rotate_left
          · intro y hSy
            skip
            clear hSy
            go_simp
            with_reducible rfl
          simp only [Act.put, List.setIfInBounds_toArray, List.set_cons_zero, List.set_cons_succ]
          refine held_take 12 42 rfl rfl (by kernel_rfl) (by kernel_rfl) (by kernel_rfl) (fun _ _ _ h => h) (by rfl) hS (v := ?_) ?_ ?_
          rotate_left
          · intro y hSy
            skip
            clear hSy
            go_simp
            with_reducible rfl
          simp only [Act.put, List.setIfInBounds_toArray, List.set_cons_zero, List.set_cons_succ]
          have n := Nc2 w3 B15 bo d hS (hB15.later hb3) hl15 (ho.mono hV.size) (fun g hg => by have h1 := (ho.lt g hg).1; have h2 := hB15.lt; omega)
          rw [hops, hQ0] at n
          exact n
        · go_simp
          refine hK.out _ _ (keep_alloc hV _) (fun hS => ?_)
          clear hK K
          have n := Nn02 (V.alloc (.cells #[.slice none 0 0, .bool false, .int .i64 0, .int .i64 0, .string ⟨#[]⟩, .int .i64 0, .int .i64 0, .int .i64 0, .int .i64 0, .int .i64 0, .string ⟨#[]⟩, .bool false] 61)) V.heap.size B15 hS (Blk.new V #[.slice none 0 0, .bool false, .int .i64 0, .int .i64 0, .string ⟨#[]⟩, .int .i64 0, .int .i64 0, .int .i64 0, .int .i64 0, .int .i64 0, .string ⟨#[]⟩, .bool false] 61) hV.size (hB15.alloc _) hl15 (by have := hB15.lt; omega)
          rw [hops, hQ0] at n
          exact n
        · go_simp
          refine hK.out _ _ (keep_alloc hV _) (fun hS => ?_)
          clear hK K
          have n := Nn12 (V.alloc (.cells #[.int .i64 0, .int .i64 0] 36)) V.heap.size B15 hS (Blk.new V #[.int .i64 0, .int .i64 0] 36) hV.size (hB15.alloc _) hl15 (by have := hB15.lt; omega)
          rw [hops, hQ0] at n
          exact n
      have Nn : ∀ (V : World), Below w2.heap.size w2 V → wpAnyH Tryz.prog .any ops Q0 (fun y => Below w2.heap.size w2 y) 13 #[true, true, true, true, true, true, true, false, false, false, false, false, false, false, false, false, false, false, false, false] { tmps := #[.pointer (some ⟨a, 0, none⟩), .string k, .agg #[.int .i64 i.txn.id, .int .i64 i.txn.ep, .string i.txn.anchor, .int .i64 i.txn.start.fst, .int .i64 i.txn.start.snd, .int .i64 i.seq, .int .i64 i.at_.fst, .int .i64 i.at_.snd, .string i.val, .bool i.gone], undef, undef, .pointer (some ⟨w.heap.size, 0, none⟩), .pointer (some ⟨w.heap.size + 1, 0, none⟩), .pointer (some ⟨w.heap.size + 1 + 1, 0, none⟩), .int .i64 0, undef, undef, undef, undef, .pointer (some ⟨a, 0, none⟩), .bool false, undef, undef, .string k, .bool true, .bool false, undef, undef, .pointer (some ⟨w.heap.size, 8, none⟩), .string i.val, .pointer (some ⟨w.heap.size, 9, none⟩), .bool i.gone, .bool true, .bool false, undef, undef, undef, .pointer (some ⟨a, 0, none⟩), .pointer (some ⟨a, 0, none⟩), .pointer (some ⟨a, 0, none⟩), .map (some b), .string k, .agg #[.slice ao nv cap, .bool o, .int .i64 it.txn.id, .int .i64 it.txn.ep, .string it.txn.anchor, .int .i64 it.txn.start.fst, .int .i64 it.txn.start.snd, .int .i64 it.seq, .int .i64 it.at_.fst, .int .i64 it.at_.snd, .string it.val, .bool it.gone], .agg #[.int .i64 i.txn.id, .int .i64 i.txn.ep, .string i.txn.anchor, .int .i64 i.txn.start.fst, .int .i64 i.txn.start.snd, .int .i64 i.seq, .int .i64 i.at_.fst, .int .i64 i.at_.snd, .string i.val, .bool i.gone], undef, undef, undef, undef, undef, undef, undef, undef, undef, undef, undef, undef, undef, undef, undef, undef], defers := [] } V := by
        intro V hV
        rw [hops, hQ0]
        refine wpAnyH_ready (rs := [7, 13, 14, 15]) (by kernel_rfl) (by simp) ?_
        refine AllReadyH.cons rfl (fun K hK => ?_) (AllReadyH.cons rfl (fun K hK => ?_) (AllReadyH.cons rfl (fun K hK => ?_) (AllReadyH.cons rfl (fun K hK => ?_) (AllReadyH.nil))))
        · go_simp
          refine (kw V hV).mono ?_
          rintro e w3 ⟨bo, d, rfl, ho, hb3⟩
          refine hK.out _ _ (keep_call hV hb3) (fun hS => ?_)
          clear hK K
          refine held_take 8 30 rfl rfl (by kernel_rfl) (by kernel_rfl) (by kernel_rfl) (fun _ _ _ h => h) (by rfl) hS (v := ?_) ?_ ?_
          rotate_left
          · intro y hSy
            skip
            clear hSy
            go_simp
            with_reducible rfl
          simp only [Act.put, List.setIfInBounds_toArray, List.set_cons_zero, List.set_cons_succ]
          refine held_take 9 39 rfl rfl (by kernel_rfl) (by kernel_rfl) (by kernel_rfl) (fun _ _ _ h => h) (by rfl) hS (v := ?_) ?_ ?_
          rotate_left
          · intro y hSy
            skip
            clear hSy
            go_simp
            with_reducible rfl
          simp only [Act.put, List.setIfInBounds_toArray, List.set_cons_zero, List.set_cons_succ]
          refine held_take 10 40 rfl rfl (by kernel_rfl) (by kernel_rfl) (by kernel_rfl) (fun _ _ _ h => h) (by rfl) hS (v := ?_) ?_ ?_
          rotate_left
          · intro y hSy
            skip
            clear hSy
            go_simp
            with_reducible rfl
          simp only [Act.put, List.setIfInBounds_toArray, List.set_cons_zero, List.set_cons_succ]
          refine held_take 11 41 rfl rfl (by kernel_rfl) (by kernel_rfl) (by kernel_rfl) (fun _ _ _ h => h) (by rfl) hS (v := ?_) ?_ ?_
          rotate_left
          · intro y hSy
            skip
            clear hSy
            go_simp
            with_reducible rfl
          simp only [Act.put, List.setIfInBounds_toArray, List.set_cons_zero, List.set_cons_succ]
          refine held_take 12 42 rfl rfl (by kernel_rfl) (by kernel_rfl) (by kernel_rfl) (fun _ _ _ h => h) (by rfl) hS (v := ?_) ?_ ?_
          rotate_left
          · intro y hSy
            skip
            clear hSy
            go_simp
            with_reducible rfl
          simp only [Act.put, List.setIfInBounds_toArray, List.set_cons_zero, List.set_cons_succ]
          have n := Nc w3 bo d hS (ho.mono hV.size)
          rw [hops, hQ0] at n
          exact n
        · go_simp
          refine hK.out _ _ (keep_alloc hV _) (fun hS => ?_)
          clear hK K
          have n := Nn0 (V.alloc (.cells #[.slice none 0 0, .bool false, .int .i64 0, .int .i64 0, .string ⟨#[]⟩, .int .i64 0, .int .i64 0, .int .i64 0, .int .i64 0, .int .i64 0, .string ⟨#[]⟩, .bool false] 61)) V.heap.size hS (Blk.new V #[.slice none 0 0, .bool false, .int .i64 0, .int .i64 0, .string ⟨#[]⟩, .int .i64 0, .int .i64 0, .int .i64 0, .int .i64 0, .int .i64 0, .string ⟨#[]⟩, .bool false] 61) hV.size
          rw [hops, hQ0] at n
          exact n
        · go_simp
          refine hK.out _ _ (keep_alloc hV _) (fun hS => ?_)
          clear hK K
          have n := Nn1 (V.alloc (.cells #[.int .i64 0, .int .i64 0] 36)) V.heap.size hS (Blk.new V #[.int .i64 0, .int .i64 0] 36) hV.size
          rw [hops, hQ0] at n
          exact n
        · go_simp
          refine hK.out _ _ (keep_alloc hV _) (fun hS => ?_)
          clear hK K
          have n := Nn2 (V.alloc (.cells #[.int .i64 0, .int .i64 0, .string ⟨#[]⟩, .int .i64 0, .int .i64 0] 38)) V.heap.size hS (Blk.new V #[.int .i64 0, .int .i64 0, .string ⟨#[]⟩, .int .i64 0, .int .i64 0] 38) hV.size
          rw [hops, hQ0] at n
          exact n
      exact Nn V0 hS
    · rw [if_pos h1, if_neg h2] at hP
      subst hP
      rw [h1] at hKy
      rw [Bool.not_eq_true] at h2
      rw [h2] at hVl
      have hz := h.later hB
      go_enter Tryz.func10, Tryz.ntmps10
      go_wp2_with fail
      generalize ((w.alloc _).alloc _).alloc _ = W at *
      refine (hKy W).mono ?_
      rintro e w1 ⟨rfl, rfl⟩
      have I_0 := I.c 0; have I_1 := I.c 1; have I_2 := I.c 2; have I_3 := I.c 3; have I_4 := I.c 4; have I_5 := I.c 5; have I_6 := I.c 6; have I_7 := I.c 7; have I_8 := I.c 8; have I_9 := I.c 9; simp only [List.getElem?_cons_zero, List.getElem?_cons_succ] at I_0 I_1 I_2 I_3 I_4 I_5 I_6 I_7 I_8 I_9
      go_wp2_with fail
      refine (hVl w1).mono ?_
      rintro e w2 ⟨rfl, rfl⟩
      have hbf := below_setAll (C := w.heap.size + 1 + 1) (by omega) [.int .i64 0, .int .i64 0, .string ⟨#[]⟩, .int .i64 0, .int .i64 0] 0 (below_setAll (C := w.heap.size + 1) (by omega) [.int .i64 0, .int .i64 0] 0 hB)
      have HF := hide (And.intro (h.later hbf) (And.intro (hroom'.later hbf) (grown_of_below hbf (some b))))
      obtain ⟨q1, q2⟩ := two Q1 Q2 [.int .i64 0, .int .i64 0] [.int .i64 0, .int .i64 0, .string ⟨#[]⟩, .int .i64 0, .int .i64 0] rfl rfl (by omega)
      have HQ := hide (And.intro q1 q2)
      have Q1_0 := Q1.c 0; have Q1_1 := Q1.c 1; simp only [List.getElem?_cons_zero, List.getElem?_cons_succ] at Q1_0 Q1_1
      have Q2_0 := Q2.c 0; have Q2_1 := Q2.c 1; have Q2_2 := Q2.c 2; have Q2_3 := Q2.c 3; have Q2_4 := Q2.c 4; simp only [List.getElem?_cons_zero, List.getElem?_cons_succ] at Q2_0 Q2_1 Q2_2 Q2_3 Q2_4
      have fD1 := Q1.f
      have fD2 := Q2.f
      clear hbf q1 q2 Q1 Q2
      go_wp2
      obtain ⟨f1, f2, f3⟩ := unhide HF
      refine bodyPost_ret (results_sme Tryz.results10 (0, 0) Met.zero rfl rfl rfl (unhide HQ).1 (unhide HQ).2) rfl ⟨_, rfl, f1, f2, ?_, f3⟩
      unfold putL
      rw [if_neg (fun q => by have := q.2.1; rw [h2] at this; cases this)]
  · rw [if_neg h1] at hP
    subst hP
    rw [Bool.not_eq_true] at h1
    rw [h1] at hKy
    go_enter Tryz.func10, Tryz.ntmps10
    go_wp2_with fail
    generalize ((w.alloc _).alloc _).alloc _ = W at *
    refine (hKy W).mono ?_
    rintro e w1 ⟨rfl, rfl⟩
    have hbf := below_setAll (C := w.heap.size + 1 + 1) (by omega) [.int .i64 0, .int .i64 0, .string ⟨#[]⟩, .int .i64 0, .int .i64 0] 0 (below_setAll (C := w.heap.size + 1) (by omega) [.int .i64 0, .int .i64 0] 0 hB)
    have HF := hide (And.intro (h.later hbf) (And.intro (hroom'.later hbf) (grown_of_below hbf (some b))))
    obtain ⟨q1, q2⟩ := two Q1 Q2 [.int .i64 0, .int .i64 0] [.int .i64 0, .int .i64 0, .string ⟨#[]⟩, .int .i64 0, .int .i64 0] rfl rfl (by omega)
    have HQ := hide (And.intro q1 q2)
    have Q1_0 := Q1.c 0; have Q1_1 := Q1.c 1; simp only [List.getElem?_cons_zero, List.getElem?_cons_succ] at Q1_0 Q1_1
    have Q2_0 := Q2.c 0; have Q2_1 := Q2.c 1; have Q2_2 := Q2.c 2; have Q2_3 := Q2.c 3; have Q2_4 := Q2.c 4; simp only [List.getElem?_cons_zero, List.getElem?_cons_succ] at Q2_0 Q2_1 Q2_2 Q2_3 Q2_4
    have fD1 := Q1.f
    have fD2 := Q2.f
    clear hbf q1 q2 Q1 Q2
    go_wp2
    obtain ⟨f1, f2, f3⟩ := unhide HF
    refine bodyPost_ret (results_sme Tryz.results10 (0, 0) Met.zero rfl rfl rfl (unhide HQ).1 (unhide HQ).2) rfl ⟨_, rfl, f1, f2, ?_, f3⟩
    unfold putL
    rw [if_neg (fun q => by have := q.1; rw [h1] at this; cases this)]

theorem put_nil (k : ByteArray) (i : Itn) (w : World) :
    Calls Tryz.prog 10 #[.pointer none, .string k, (.agg #[.int .i64 i.txn.id, .int .i64 i.txn.ep, .string i.txn.anchor, .int .i64 i.txn.start.1, .int .i64 i.txn.start.2, .int .i64 i.seq, .int .i64 i.at_.1, .int .i64 i.at_.2, .string i.val, .bool i.gone])] w fun e w' => e = .returned (.tuple #[(.agg #[.int .i64 ((0 : Int), (0 : Int)).1, .int .i64 ((0 : Int), (0 : Int)).2]), (.agg #[.int .i64 Met.zero.id, .int .i64 Met.zero.ep, .string Met.zero.anchor, .int .i64 Met.zero.start.1, .int .i64 Met.zero.start.2]), .int .i64 1]) ∧ Below w.heap.size w w' := by
  have I := ((Blk.new w #[.int .i64 i.txn.id, .int .i64 i.txn.ep, .string i.txn.anchor, .int .i64 i.txn.start.1, .int .i64 i.txn.start.2, .int .i64 i.seq, .int .i64 i.at_.1, .int .i64 i.at_.2, .string i.val, .bool i.gone] 42).alloc (.cells #[.int .i64 0, .int .i64 0] 36)).alloc (.cells #[.int .i64 0, .int .i64 0, .string ⟨#[]⟩, .int .i64 0, .int .i64 0] 38)
  have Q1 := (Blk.new (w.alloc (.cells #[.int .i64 i.txn.id, .int .i64 i.txn.ep, .string i.txn.anchor, .int .i64 i.txn.start.1, .int .i64 i.txn.start.2, .int .i64 i.seq, .int .i64 i.at_.1, .int .i64 i.at_.2, .string i.val, .bool i.gone] 42)) #[.int .i64 0, .int .i64 0] 36).alloc (.cells #[.int .i64 0, .int .i64 0, .string ⟨#[]⟩, .int .i64 0, .int .i64 0] 38)
  rw [show (w.alloc (.cells #[.int .i64 i.txn.id, .int .i64 i.txn.ep, .string i.txn.anchor, .int .i64 i.txn.start.1, .int .i64 i.txn.start.2, .int .i64 i.seq, .int .i64 i.at_.1, .int .i64 i.at_.2, .string i.val, .bool i.gone] 42)).heap.size = w.heap.size + 1 by simp] at Q1
  have Q2 := Blk.new ((w.alloc (.cells #[.int .i64 i.txn.id, .int .i64 i.txn.ep, .string i.txn.anchor, .int .i64 i.txn.start.1, .int .i64 i.txn.start.2, .int .i64 i.seq, .int .i64 i.at_.1, .int .i64 i.at_.2, .string i.val, .bool i.gone] 42)).alloc (.cells #[.int .i64 0, .int .i64 0] 36)) #[.int .i64 0, .int .i64 0, .string ⟨#[]⟩, .int .i64 0, .int .i64 0] 38
  rw [show ((w.alloc (.cells #[.int .i64 i.txn.id, .int .i64 i.txn.ep, .string i.txn.anchor, .int .i64 i.txn.start.1, .int .i64 i.txn.start.2, .int .i64 i.seq, .int .i64 i.at_.1, .int .i64 i.at_.2, .string i.val, .bool i.gone] 42)).alloc (.cells #[.int .i64 0, .int .i64 0] 36)).heap.size = w.heap.size + 1 + 1 by simp] at Q2
  have hB : Below w.heap.size w (((w.alloc (.cells #[.int .i64 i.txn.id, .int .i64 i.txn.ep, .string i.txn.anchor, .int .i64 i.txn.start.1, .int .i64 i.txn.start.2, .int .i64 i.seq, .int .i64 i.at_.1, .int .i64 i.at_.2, .string i.val, .bool i.gone] 42)).alloc (.cells #[.int .i64 0, .int .i64 0] 36)).alloc (.cells #[.int .i64 0, .int .i64 0, .string ⟨#[]⟩, .int .i64 0, .int .i64 0] 38)) := (((Below.refl w.heap.size w).alloc (Nat.le_refl _) _).alloc (by simp) _).alloc (by simp; omega) _
  have Q1_0 := Q1.c 0; have Q1_1 := Q1.c 1; simp only [List.getElem?_cons_zero, List.getElem?_cons_succ] at Q1_0 Q1_1
  have Q2_0 := Q2.c 0; have Q2_1 := Q2.c 1; have Q2_2 := Q2.c 2; have Q2_3 := Q2.c 3; have Q2_4 := Q2.c 4; simp only [List.getElem?_cons_zero, List.getElem?_cons_succ] at Q2_0 Q2_1 Q2_2 Q2_3 Q2_4
  have f1 := Q1.f
  have f2 := Q2.f
  have HQ := hide (And.intro Q1 Q2)
  have HB := hide hB
  clear Q1 Q2 I hB
  go_enter Tryz.func10, Tryz.ntmps10
  go_wp2
  refine bodyPost_ret (results_sme Tryz.results10 (0, 0) Met.zero rfl rfl rfl (unhide HQ).1 (unhide HQ).2) rfl ⟨rfl, unhide HB⟩
end
end Go.Proofs.YtcdehnghggleoaaGreat
