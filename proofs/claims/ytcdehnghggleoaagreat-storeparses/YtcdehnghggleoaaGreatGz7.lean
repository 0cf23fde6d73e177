/-
  St6, SOps, Vt4: one behind the other. No law is proved here.
-/
import Derived.Test.YtcdehnghggleoaaGreatSt5
import Derived.Test.YtcdehnghggleoaaGreatGz4
import Derived.Test.YtcdehnghggleoaaGreatVs9
import Derived.Test.YtcdehnghggleoaaGreatGz6
/-
  A region within a round; what a caller's variables are while a loop goes on. No law is proved here.
-/
namespace Go.Proofs.YtcdehnghggleoaaGreat
open Go.RowKit Go.Maps
set_option linter.unusedVariables false

/-- Is an operation no defer? -/
def noDefer (o : Oper) : Bool := match o.op with | .defer _ => false | _ => true
theorem noDefer_spec {o : Oper} (h : noDefer o = true) : ∀ c, o.op ≠ .defer c := fun c e => by unfold noDefer at h; rw [e] at h; cases h

/-- An operation in a round that may call whatever. -/
theorem op_round {l n : Nat} {P : Program} {o : Oper} {a : Act} {w : World} {K : Act → World → Prop} {Q : Exit → Act → World → Prop} (hd : ∀ c, o.op ≠ .defer c) (h : Oper.wp P o a w K Q) : Oper.wpIn (Fence.wide.inRound l) n P o a w K Q := by
  unfold Oper.wp at h
  refine ⟨fun _ _ => trivial, ?_⟩
  rw [show (Fence.wide.inRound l).round = some l from rfl, Oper.semAt_some l _ _ hd]
  generalize (execOp a.eval o).run P w = r at *
  cases r with
  | ok x w' =>
    cases x
    all_goals
      first
        | exact h
        | exact h.elim
        | exact ⟨fun e => (by cases e), CallsIn.inRound l (callsIn_wide.2 h)⟩
        | exact ⟨fun e => (by cases e), fun c cs _ => (by obtain ⟨v, w2, r, s⟩ := h c cs; exact ⟨v, w2, r, stepsIn_wide.2 s⟩)⟩
  | halt x w' => cases x <;> first | exact h | exact h.elim

theorem wpOp_round {l n : Nat} {P : Program} {ops : Array Oper} {Q : Exit → Act → World → Prop} (hd : ops.toList.all noDefer = true) (hq : ¬ LetsOut Q) {i : Nat} {K : Act → World → Prop} {a : Act} {w : World} (h : wpOp P ops Q i K a w) : wpOpIn (Fence.wide.inRound l) n P ops Q i K a w := by
  unfold wpOp at h
  unfold wpOpIn
  cases ho : ops[i]? with
  | none => rw [ho] at h; exact h
  | some o =>
    rw [ho] at h
    simp only at h ⊢
    have hdo : noDefer o = true := List.all_eq_true.1 hd o (by
      obtain ⟨hi, e⟩ := Array.getElem?_eq_some_iff.1 ho
      rw [← e]
      simp)
    split at h
    · rename_i hw
      rw [if_pos hw]
      exact op_round (noDefer_spec hdo) (h.resolve_right fun x => hq x.2)
    · rename_i hw
      rw [if_neg hw]
      exact ⟨fun _ _ => trivial, h⟩

theorem wpAny_round {l n : Nat} {P : Program} {md : Region.Mode} {ops : Array Oper} {Q : Exit → Act → World → Prop} (hd : ops.toList.all noDefer = true) (hq : ¬ LetsOut Q) : ∀ (fuel : Nat) (listed : Array Bool) (a : Act) (w : World), wpAny P md ops Q fuel listed a w → wpAnyIn (Fence.wide.inRound l) n P md ops Q fuel listed a w
  | 0, _, _, _, h => h
  | fuel + 1, listed, a, w, h => ⟨h.1, fun i hi => wpOp_round hd hq (wpOp_mono (fun a' w' h' => wpAny_round hd hq fuel _ a' w' h') (h.2 i hi))⟩

/-- A region that draws its order, in a round: as outside of one. -/
theorem region_round {l n : Nat} {ops : Array Oper} {Q : Exit → Act → World → Prop} {a : Act} {w : World} {S : World → Prop} {id : Nat} (hd : ops.toList.all noDefer = true) (hq : ¬ LetsOut Q)
    (h : wpAnyH Tryz.prog .any ops Q S ops.size (Array.replicate ops.size false) a w.drew) : (Code.region id ops true).wpIn (Fence.wide.inRound l) n Tryz.prog Q a w :=
  wpIn_region_any (by kernel_rfl) (wpAny_round hd hq _ _ _ _ (wpAny_of_held _ _ _ _ h))

theorem below_turn {n0 : Nat} {a W W' : World} {row : Option Nat} {B : Nat} (h : Below n0 a W) (hn : n0 ≤ B) (ha : n0 ≤ W.heap.size) (hg : W.grownBy W' row) (hr : ∀ r, row = some r → B ≤ r ∧ ∃ o : Obj, W.heap[r]? = some o ∧ o.isCells = false) : Below n0 a W' :=
  h.grown hg ha (fun k e => Nat.le_trans hn (hr k e).1)

/-- A block of cells stays while the loop's own are turned. -/
theorem Blk.turn {W W' : World} {b : Nat} {cs : List Value} {row : Option Nat} (h : Blk W b cs) (h0 : 0 < cs.length) (hg : W.grownBy W' row) (hr : ∀ r, row = some r → ∃ o : Obj, W.heap[r]? = some o ∧ o.isCells = false) : Blk W' b cs := by
  have hne : some b ≠ row := fun e => by
    obtain ⟨o, ho, hc⟩ := hr b e.symm
    have h1 := h.c 0
    rw [List.getElem?_eq_getElem h0] at h1
    obtain ⟨u, hu, huc⟩ := cells_of_cell h1
    simp only at hu
    rw [ho] at hu
    cases hu
    rw [hc] at huc
    cases huc
  have hb := hg.block b h.lt hne
  exact ⟨fun j => (World.cell?_of_block (a := ⟨b, j, none⟩) hb).trans (h.c j), fun j => (World.frozen?_of_block (a := ⟨b, j, none⟩) hb).trans (h.f j), Nat.lt_of_lt_of_le h.lt hg.size⟩

theorem row_turn {W W' : World} {base : Nat} {e : TypeId} {size : Nat} {v : Value} {k : Nat} {xs : List Value} {row : Option Nat} (h : W.ownsRow base e size v k xs) (hg : W.grownBy W' row) (hr : ∀ r, row = some r → ∃ o : Obj, W.heap[r]? = some o ∧ o.isCells = false) : W'.ownsRow base e size v k xs := by
  refine h.kept hg ?_
  rcases h.2 with ⟨rfl, _⟩ | ⟨g, cap, cur, rfl, _, hgb, _⟩
  · exact .inl rfl
  · refine .inr fun e' => ?_
    obtain ⟨o, ho, hc⟩ := hr g (by simpa [Value.ownBlock] using e'.symm)
    rw [hgb] at ho; cases ho; cases hc

/-- What a round may have turned since W: the blocks from B0 to B1, and the row r. -/
structure Out (B0 B1 : Nat) (r : Option Nat) (W W' : World) : Prop where
  os : W'.os = W.os
  tape : W'.tape = W.tape
  output : W'.output = W.output
  size : W.heap.size ≤ W'.heap.size
  blk : ∀ i, i < W.heap.size → (i < B0 ∨ B1 ≤ i) → some i ≠ r → W'.heap[i]? = W.heap[i]?

theorem Out.refl (B0 B1 : Nat) (r : Option Nat) (W : World) : Out B0 B1 r W W := ⟨rfl, rfl, rfl, Nat.le_refl _, fun _ _ _ _ => rfl⟩
theorem Out.below {B0 B1 : Nat} {r : Option Nat} {W W' W'' : World} (h : Out B0 B1 r W W') (hb : Below W'.heap.size W' W'') : Out B0 B1 r W W'' :=
  ⟨hb.os.trans h.os, hb.tape.trans h.tape, hb.output.trans h.output, Nat.le_trans h.size hb.size, fun i hi hr hn => (hb.block i (Nat.lt_of_lt_of_le hi h.size)).trans (h.blk i hi hr hn)⟩
theorem Out.alloc {B0 B1 : Nat} {r : Option Nat} {W W' : World} (h : Out B0 B1 r W W') (o : Obj) : Out B0 B1 r W (W'.alloc o) := h.below ((Below.refl _ _).alloc (Nat.le_refl _) o)
theorem Out.drew {B0 B1 : Nat} {r : Option Nat} {W W' : World} (h : Out B0 B1 r W W') : Out B0 B1 r W W'.drew := ⟨h.os, h.tape, h.output, h.size, h.blk⟩
theorem Out.cell {B0 B1 : Nat} {r : Option Nat} {W W' : World} (h : Out B0 B1 r W W') {p : Addr} (hp : (B0 ≤ p.block ∧ p.block < B1) ∨ W.heap.size ≤ p.block) (v : Value) : Out B0 B1 r W (W'.setCell p v) :=
  ⟨h.os, h.tape, h.output, by simp [World.setCell]; exact h.size, fun i hi hr hn => (Below.heap_setCell _ _ _ i (by omega)).trans (h.blk i hi hr hn)⟩
theorem Out.all {B0 B1 : Nat} {r : Option Nat} {W : World} {b : Nat} (hp : (B0 ≤ b ∧ b < B1) ∨ W.heap.size ≤ b) : ∀ (cs : List Value) {W' : World} (k : Nat), Out B0 B1 r W W' → Out B0 B1 r W (setAll W' b k cs)
  | [], _, _, h => h
  | c :: q, _, k, h => by rw [setAll]; exact Out.all hp q (k + 1) (h.cell (p := ⟨b, k, none⟩) hp c)
theorem Out.grown {B0 B1 : Nat} {r : Option Nat} {W W' W'' : World} {row : Option Nat} (h : Out B0 B1 r W W') (hg : W'.grownBy W'' row) (hr : ∀ k, row = some k → some k = r ∨ W.heap.size ≤ k) : Out B0 B1 r W W'' :=
  ⟨hg.os.trans h.os, hg.tape.trans h.tape, hg.output.trans h.output, Nat.le_trans h.size hg.size, fun i hi hi2 hn => (hg.block i (Nat.lt_of_lt_of_le hi h.size) (fun e => by
    rcases hr i e.symm with q | q
    · exact hn q
    · omega)).trans (h.blk i hi hi2 hn)⟩
theorem Out.bel {B0 B1 : Nat} {r : Option Nat} {W W' : World} (h : Out B0 B1 r W W') (hB : B0 ≤ W.heap.size) (hr : ∀ k, r = some k → B0 ≤ k) : Below B0 W W' :=
  ⟨h.os, h.tape, h.output, h.size, fun i hi => h.blk i (by omega) (.inl hi) (fun e => by have := hr i e.symm; omega)⟩
/-- What is no cells lies as it lay. -/
theorem Out.keeps {B0 B1 C : Nat} {r : Option Nat} {W W' : World} (h : Out B0 B1 r W W') (hC : B1 ≤ C) (hr : ∀ k, r = some k → ∃ o : Obj, W.heap[k]? = some o ∧ o.isCells = true) : KeepsFrom C W W' :=
  ⟨h.size, fun k o hk ho hc => (h.blk k (Array.getElem?_eq_some_iff.1 ho).1 (.inr (by omega)) (fun e => by
    obtain ⟨u, hu, huc⟩ := hr k e.symm
    rw [ho] at hu
    cases hu
    rw [hc] at huc
    cases huc)).trans ho⟩
/-- The iterator's own lies as it lay. -/
theorem Out.turn {B0 B1 Bp : Nat} {W W' : World} {v v' : Value} (h : Out B0 B1 v.ownBlock W W') (hB : B0 ≤ W.heap.size) (hr : ∀ k, v.ownBlock = some k → B0 ≤ k) (hv : W.cell? ⟨Bp, 0, none⟩ = some v) (hv' : W'.cell? ⟨Bp, 0, none⟩ = some v') (hf : ∀ k, v.ownBlock = some k → ∃ n c, v = .slice (some ⟨k, 0, none⟩) n c) (hn : ∀ k, v'.ownBlock = some k → v.ownBlock = some k ∨ W.heap.size ≤ k) : Turn B0 B1 Bp true W W' := by
  refine ⟨h.os, h.tape, h.output, h.size, (h.bel hB hr).block, fun i o hi h1 hnr => ?_⟩
  have hlt := (Array.getElem?_eq_some_iff.1 hi).1
  have hne : some i ≠ v.ownBlock := fun e => by
    obtain ⟨n, c, rfl⟩ := hf i e.symm
    exact hnr n c hv
  refine ⟨.inr ((h.blk i hlt (.inr h1) hne).trans hi), fun n c e => ?_⟩
  rw [hv'] at e
  cases e
  rcases hn i rfl with q | q
  · exact hne q.symm
  · omega

theorem row_form {W : World} {base : Nat} {e : TypeId} {size : Nat} {v : Value} {k : Nat} {xs : List Value} (h : W.ownsRow base e size v k xs) : ∀ g, v.ownBlock = some g → base ≤ g ∧ g < W.heap.size ∧ (∃ n c, v = .slice (some ⟨g, 0, none⟩) n c) ∧ ∃ o : Obj, W.heap[g]? = some o ∧ o.isCells = true := by
  intro g hg
  rcases h.2 with ⟨rfl, _⟩ | ⟨g', cap, cur, rfl, hb, hgb, _⟩
  · cases hg
  · cases hg
    exact ⟨hb, (Array.getElem?_eq_some_iff.1 hgb).1, ⟨_, _, rfl⟩, _, hgb, rfl⟩

theorem Turn.later {B0 B1 Bp : Nat} {W W' : World} (hb : Below W.heap.size W W') (hB : B0 ≤ W.heap.size) (hp : Bp < W.heap.size) : Turn B0 B1 Bp true W W' :=
  ⟨hb.os, hb.tape, hb.output, hb.size, fun i hi => hb.block i (by omega), fun i o hi _ hn => ⟨.inr ((hb.block i (Array.getElem?_eq_some_iff.1 hi).1).trans hi), hn.below hb hp⟩⟩
theorem keeps_later {W W' : World} (hb : Below W.heap.size W W') (C : Nat) : KeepsFrom C W W' := ⟨hb.size, fun k o _ hk _ => (hb.block k (Array.getElem?_eq_some_iff.1 hk).1).trans hk⟩
theorem Blk.head {W : World} {b : Nat} {v : Value} {r : List Value} (h : Blk W b (v :: r)) : W.cell? ⟨b, 0, none⟩ = some v := h.c 0
theorem held_mono {P : Program} {md : Region.Mode} {ops : Array Oper} {Q : Exit → Act → World → Prop} {S S' : World → Prop} (h : ∀ w, S' w → S w) :
    ∀ (fuel : Nat) (listed : Array Bool) (a : Act) (w : World), wpAnyH P md ops Q S' fuel listed a w → wpAnyH P md ops Q S fuel listed a w
  | 0, _, _, _, k => k
  | fuel + 1, _, _, _, k => ⟨k.1, fun i hi => wpOp_mono (fun a' w' k' => ⟨h w' k'.1, held_mono h fuel _ a' w' k'.2⟩) (k.2 i hi)⟩

/-- Operation number i is taken first; its slot is named. -/
theorem held_take {P : Program} {md : Region.Mode} {ops : Array Oper} {Q : Exit → Act → World → Prop} {S : World → Prop} (i d : Nat) {oi : Oper} {v : Value} {fuel : Nat} {listed : Array Bool} {a : Act} {w : World} (hi : ops[i]? = some oi) (hd : oi.dst = some d)
    (hs : Region.noSelect ops = true) (hf : Region.free md ops listed i = true) (hr : (Region.ready md ops listed).contains i = true)
    (hQ : ∀ c a w, Q (.panic c) (a.put (some d) v) w → Q (.panic c) a w) (hw : Region.wanted oi (yielded ops a.tmps) = true) (hS : S w) (hy : ∀ y, S y → (execOp a.eval oi).run P y = .ok (.value v) y)
    (h : wpAnyH P md ops Q S fuel (listed.setIfInBounds i true) (a.put (some d) v) w) : wpAnyH P md ops Q S (fuel + 1) listed a w :=
  wpAnyH_take hi hs hf hr (by rw [hd]; exact hQ) (Or.inl ⟨hw, hy⟩) hS (by rw [hd]; exact h)

end Go.Proofs.YtcdehnghggleoaaGreat

/-
  What is read of a span, by lists. Of no program's memory. No law is proved here.
-/
namespace Go.Proofs.YtcdehnghggleoaaGreat
open Go.RowKit
set_option linter.unusedVariables false

abbrev Pr := ByteArray × ByteArray
/-- While it is read: the pairs, the greatest stamp in doubt, the error that is kept. -/
structure RdS where
  ps : List Pr
  u : Stp
  r : Int
def RdS.zero : RdS := ⟨[], (0, 0), 0⟩
def finR (s : RdS) : List Pr × Stp × Met × Int := if s.r = 0 then (s.ps, (0, 0), Met.zero, 0) else ([], s.u, Met.zero, s.r)
def stepR (a l : Stp) (id ep : Int) (s : RdS) (e : Ent) : RdS :=
  ⟨if (readR e.c.vs e.c.opn e.c.itn a l id ep).2.1 = true then s.ps ++ [(e.key, (readR e.c.vs e.c.opn e.c.itn a l id ep).1.val)] else s.ps,
   if (readR e.c.vs e.c.opn e.c.itn a l id ep).2.2.2 = 0 then s.u else maxS s.u (readR e.c.vs e.c.opn e.c.itn a l id ep).1.at_,
   if (readR e.c.vs e.c.opn e.c.itn a l id ep).2.2.2 = 0 then s.r else (readR e.c.vs e.c.opn e.c.itn a l id ep).2.2.2⟩
def goR (a l : Stp) (id ep : Int) : RdS → List Ent → List Pr × Stp × Met × Int
  | s, [] => finR s
  | s, e :: r =>
    if (readR e.c.vs e.c.opn e.c.itn a l id ep).2.2.2 = 81 then ([], (0, 0), (readR e.c.vs e.c.opn e.c.itn a l id ep).2.2.1, 81)
    else if (stepR a l id ep s e).ps.length = 50 then finR (stepR a l id ep s e) else goR a l id ep (stepR a l id ep s e) r
/-- What is read of a store. -/
def readS (f t : ByteArray) (a l : Stp) (id ep : Int) (L : List Ent) : List Pr × Stp × Met × Int :=
  if S5.rightB f t = true then goR a l id ep RdS.zero (inE f t L) else ([], (0, 0), Met.zero, 51)

/-- The cells of pairs. -/
def pcs (ps : List Pr) : List Value := ps.flatMap fun p => [.string p.1, .string p.2]
theorem pcs_len (ps : List Pr) : (pcs ps).length = ps.length * 2 := by
  induction ps with
  | nil => rfl
  | cons p r ih =>
    unfold pcs at ih ⊢
    rw [List.flatMap_cons, List.length_append, ih]
    simp only [List.length_cons, List.length_nil]
    omega
theorem pcs_snoc (ps : List Pr) (p : Pr) : pcs (ps ++ [p]) = pcs ps ++ [.string p.1, .string p.2] := by unfold pcs; simp
/-- Pairs behind an address. -/
def PsAt (w : World) (po : Option Addr) (ps : List Pr) : Prop := 0 < ps.length → ∃ b o, po = some ⟨b, o, none⟩ ∧ ∀ j, (h : j < ps.length) → w.cell? ⟨b, o + j * 2, none⟩ = some (.string ps[j].1) ∧ w.cell? ⟨b, o + j * 2 + 1, none⟩ = some (.string ps[j].2)
theorem PsAt.later {w w' : World} {po : Option Addr} {ps : List Pr} (h : PsAt w po ps) (hb : Below w.heap.size w w') : PsAt w' po ps := fun h0 => by
  obtain ⟨b, o, e, hc⟩ := h h0
  exact ⟨b, o, e, fun j hj => ⟨(hb.cell (World.block_lt_of_cell? w _ (hc j hj).1)).trans (hc j hj).1, (hb.cell (World.block_lt_of_cell? w _ (hc j hj).2)).trans (hc j hj).2⟩⟩

end Go.Proofs.YtcdehnghggleoaaGreat

/-
  The contract of version.place. No law is proved here.
-/
namespace Go.Proofs.YtcdehnghggleoaaGreat
open Go.RowKit
set_option linter.unusedVariables false

/-- The stamp of an intent behind an intent in whose place it comes. -/
def stepP (o : Bool) (i : Itn) (b : Stp) : Stp := if o = true then maxS b i.at_ else b
/-- A stamp, if it is right. -/
def finP (x : Stp) : Stp × Int := if okS x = true then (x, 0) else ((0, 0), 31)
def preP (vs : List Ver) (a : Stp) : Option Stp := match lastS vs with | none => some a | some s => (nextS s).map (maxS a)
def placeR (vs : List Ver) (o : Bool) (i : Itn) (a : Stp) : Stp × Int := match preP vs a with | none => ((0, 0), 31) | some b => finP (stepP o i b)

theorem results_se {fn : Func} {k u : Nat} (hf : fn.results = #[.cell k 36, .tmp u]) {tmps : Array Value} {w : World} {B : Nat} (s : Stp) {e : Value} (hk : tmps[k]? = some (.pointer (some ⟨B, 0, none⟩))) (hu : tmps[u]? = some e)
    (h : Blk w B [.int .i64 s.1, .int .i64 s.2]) : (results fn tmps).run Tryz.prog w = .ok (.tuple #[(.agg #[.int .i64 s.1, .int .i64 s.2]), e]) w := by
  simp [results, hf, go_sem, h.c, hk, hu]

section
set_option maxRecDepth 100000
set_option maxHeartbeats 1000000

theorem max_s (a b : Stp) (w : World) : Calls Tryz.prog 39 #[(.agg #[.int .i64 a.1, .int .i64 a.2]), (.agg #[.int .i64 b.1, .int .i64 b.2])] w fun e w' => e = .returned (.agg #[.int .i64 (maxS a b).1, .int .i64 (maxS a b).2]) ∧ Below w.heap.size w w' := by
  have h := max_any a.1 a.2 b.1 b.2 w
  rw [less_eq] at h
  unfold maxS
  cases hq : ltB a b
  · rw [hq] at h; simpa using h
  · rw [hq] at h; simpa using h

theorem next_s (a : Stp) (w : World) : Calls Tryz.prog 98 #[(.agg #[.int .i64 a.1, .int .i64 a.2])] w fun e w' =>
    e = .returned (match nextS a with | some n => .tuple #[(.agg #[.int .i64 n.1, .int .i64 n.2]), .int .i64 0] | none => .tuple #[.agg #[.int .i64 0, .int .i64 0], .int .i64 31]) ∧ Below w.heap.size w w' := by
  have h := next_any a.1 a.2 w
  rw [nxt_eq] at h
  cases hq : nextS a with
  | none => rw [hq] at h; exact h
  | some n => rw [hq] at h; exact h

theorem place_any (ao : Option Addr) (c : Nat) (vs : List Ver) (o : Bool) (i : Itn) (a : Stp) (w : World) (hv : Vs w ao c vs) :
    Calls Tryz.prog 71 #[(.agg #[.slice ao vs.length c, .bool o, .int .i64 i.txn.id, .int .i64 i.txn.ep, .string i.txn.anchor, .int .i64 i.txn.start.1, .int .i64 i.txn.start.2, .int .i64 i.seq, .int .i64 i.at_.1, .int .i64 i.at_.2, .string i.val, .bool i.gone]), (.agg #[.int .i64 a.1, .int .i64 a.2])] w fun e w' => e = .returned (.tuple #[(.agg #[.int .i64 (placeR vs o i a).1.1, .int .i64 (placeR vs o i a).1.2]), .int .i64 (placeR vs o i a).2]) ∧ Below w.heap.size w w' := by
  have l1 := hv.len
  simp only [maxLen] at l1
  obtain ⟨P, hP⟩ : ∃ P, placeR vs o i a = P := ⟨_, rfl⟩
  rw [hP]
  unfold placeR preP at hP
  rcases Nat.eq_zero_or_pos vs.length with h0 | h0
  · have e : vs = [] := List.eq_nil_of_length_eq_zero h0
    subst e
    replace hP : finP (stepP o i a) = P := hP
    have C := ((Blk.new w #[.slice ao 0 c, .bool o, .int .i64 i.txn.id, .int .i64 i.txn.ep, .string i.txn.anchor, .int .i64 i.txn.start.1, .int .i64 i.txn.start.2, .int .i64 i.seq, .int .i64 i.at_.1, .int .i64 i.at_.2, .string i.val, .bool i.gone] 61).alloc (.cells #[.int .i64 a.1, .int .i64 a.2] 36)).alloc (.cells #[.int .i64 0, .int .i64 0] 36)
    have A := (Blk.new (w.alloc (.cells #[.slice ao 0 c, .bool o, .int .i64 i.txn.id, .int .i64 i.txn.ep, .string i.txn.anchor, .int .i64 i.txn.start.1, .int .i64 i.txn.start.2, .int .i64 i.seq, .int .i64 i.at_.1, .int .i64 i.at_.2, .string i.val, .bool i.gone] 61)) #[.int .i64 a.1, .int .i64 a.2] 36).alloc (.cells #[.int .i64 0, .int .i64 0] 36)
    rw [show (w.alloc (.cells #[.slice ao 0 c, .bool o, .int .i64 i.txn.id, .int .i64 i.txn.ep, .string i.txn.anchor, .int .i64 i.txn.start.1, .int .i64 i.txn.start.2, .int .i64 i.seq, .int .i64 i.at_.1, .int .i64 i.at_.2, .string i.val, .bool i.gone] 61)).heap.size = w.heap.size + 1 by simp] at A
    have R := Blk.new ((w.alloc (.cells #[.slice ao 0 c, .bool o, .int .i64 i.txn.id, .int .i64 i.txn.ep, .string i.txn.anchor, .int .i64 i.txn.start.1, .int .i64 i.txn.start.2, .int .i64 i.seq, .int .i64 i.at_.1, .int .i64 i.at_.2, .string i.val, .bool i.gone] 61)).alloc (.cells #[.int .i64 a.1, .int .i64 a.2] 36)) #[.int .i64 0, .int .i64 0] 36
    rw [show ((w.alloc (.cells #[.slice ao 0 c, .bool o, .int .i64 i.txn.id, .int .i64 i.txn.ep, .string i.txn.anchor, .int .i64 i.txn.start.1, .int .i64 i.txn.start.2, .int .i64 i.seq, .int .i64 i.at_.1, .int .i64 i.at_.2, .string i.val, .bool i.gone] 61)).alloc (.cells #[.int .i64 a.1, .int .i64 a.2] 36)).heap.size = w.heap.size + 1 + 1 by simp] at R
    have hB : Below w.heap.size w (((w.alloc (.cells #[.slice ao 0 c, .bool o, .int .i64 i.txn.id, .int .i64 i.txn.ep, .string i.txn.anchor, .int .i64 i.txn.start.1, .int .i64 i.txn.start.2, .int .i64 i.seq, .int .i64 i.at_.1, .int .i64 i.at_.2, .string i.val, .bool i.gone] 61)).alloc (.cells #[.int .i64 a.1, .int .i64 a.2] 36)).alloc (.cells #[.int .i64 0, .int .i64 0] 36)) := (((Below.refl w.heap.size w).alloc (Nat.le_refl _) _).alloc (by simp) _).alloc (by simp; omega) _
    clear hv h0 l1
    go_enter Tryz.func71, Tryz.ntmps71
    generalize hW : ((w.alloc _).alloc _).alloc _ = W at C A R hB
    subst hW
    cases o
    · have HP : Hid (finP a = P) := hide hP
      clear hP
      have C_0 := C.c 0; have C_1 := C.c 1; have C_2 := C.c 2; have C_3 := C.c 3; have C_4 := C.c 4; have C_5 := C.c 5; have C_6 := C.c 6; have C_7 := C.c 7; have C_8 := C.c 8; have C_9 := C.c 9; have C_10 := C.c 10; have C_11 := C.c 11; simp only [List.getElem?_cons_zero, List.getElem?_cons_succ] at C_0 C_1 C_2 C_3 C_4 C_5 C_6 C_7 C_8 C_9 C_10 C_11
      have A_0 := A.c 0; have A_1 := A.c 1; simp only [List.getElem?_cons_zero, List.getElem?_cons_succ] at A_0 A_1
      have hR := fun w => right_any (a).1 (a).2 w
      rw [right_eq] at hR
      go_wp2_with fail
      refine (hR _).mono ?_
      rintro e wr ⟨rfl, hbr⟩
      replace A := A.later hbr
      replace R := R.later hbr
      have HB := hide (hB.trans (hbr.mono hB.size))
      clear hbr hB hR
      have A_0 := A.c 0; have A_1 := A.c 1; simp only [List.getElem?_cons_zero, List.getElem?_cons_succ] at A_0 A_1
      have R_0 := R.c 0; have R_1 := R.c 1; simp only [List.getElem?_cons_zero, List.getElem?_cons_succ] at R_0 R_1
      have Rf := R.f
      cases hok : okS a
      · obtain rfl : P = ((0, 0), 31) := by rw [← unhide HP]; unfold finP; rw [hok]; rfl
        clear hok
        go_wp2
        exact bodyPost_ret (results_se Tryz.results71 (0, 0) rfl rfl (R.all [.int .i64 0, .int .i64 0] rfl)) rfl ⟨rfl, below_setAll (by omega) [.int .i64 0, .int .i64 0] 0 (unhide HB)⟩
      · obtain rfl : P = (a, 0) := by rw [← unhide HP]; unfold finP; rw [hok]; rfl
        clear hok
        go_wp2
        exact bodyPost_ret (results_se Tryz.results71 a rfl rfl (R.all [.int .i64 a.1, .int .i64 a.2] rfl)) rfl ⟨rfl, below_setAll (by omega) [.int .i64 a.1, .int .i64 a.2] 0 (unhide HB)⟩
    · have hM := fun w => max_s a i.at_ w
      obtain ⟨b', hb'⟩ : ∃ b', maxS a i.at_ = b' := ⟨_, rfl⟩
      have HP : Hid (finP b' = P) := hide (by rw [← hb']; exact hP)
      rw [hb'] at hM
      clear hP hb'
      have C_0 := C.c 0; have C_1 := C.c 1; have C_2 := C.c 2; have C_3 := C.c 3; have C_4 := C.c 4; have C_5 := C.c 5; have C_6 := C.c 6; have C_7 := C.c 7; have C_8 := C.c 8; have C_9 := C.c 9; have C_10 := C.c 10; have C_11 := C.c 11; simp only [List.getElem?_cons_zero, List.getElem?_cons_succ] at C_0 C_1 C_2 C_3 C_4 C_5 C_6 C_7 C_8 C_9 C_10 C_11
      have A_0 := A.c 0; have A_1 := A.c 1; simp only [List.getElem?_cons_zero, List.getElem?_cons_succ] at A_0 A_1
      have Af := A.f
      go_wp2_with fail
      refine (hM _).mono ?_
      rintro e wm ⟨rfl, hbm⟩
      replace C := C.later hbm
      replace A := A.later hbm
      replace R := R.later hbm
      replace hB := hB.trans (hbm.mono hB.size)
      clear C_0 C_1 C_2 C_3 C_4 C_5 C_6 C_7 C_8 C_9 C_10 C_11 A_0 A_1
      clear hbm hM Af
      have A_0 := A.c 0; have A_1 := A.c 1; simp only [List.getElem?_cons_zero, List.getElem?_cons_succ] at A_0 A_1
      have Af := A.f
      replace R := Blk.others (by omega) [.int .i64 (b').1, .int .i64 (b').2] (C := w.heap.size + 1) 0 R
      have A2 := A.all [.int .i64 (b').1, .int .i64 (b').2] rfl
      replace hB := below_setAll (C := w.heap.size + 1) (by omega) [.int .i64 (b').1, .int .i64 (b').2] 0 hB
      simp only [setAll, Nat.zero_add] at A2 R hB
      clear C
      have hR := fun w => right_any b'.1 b'.2 w
      rw [right_eq] at hR
      have g0 := A2.c 0
      have g1 := A2.c 1
      simp only [List.getElem?_cons_zero, List.getElem?_cons_succ] at g0 g1
      go_wp2_with fail
      clear A A_0 A_1 Af g0 g1
      have A := A2
      clear A2
      refine (hR _).mono ?_
      rintro e wr ⟨rfl, hbr⟩
      replace A := A.later hbr
      replace R := R.later hbr
      have HB := hide (hB.trans (hbr.mono hB.size))
      clear hbr hB hR
      have A_0 := A.c 0; have A_1 := A.c 1; simp only [List.getElem?_cons_zero, List.getElem?_cons_succ] at A_0 A_1
      have R_0 := R.c 0; have R_1 := R.c 1; simp only [List.getElem?_cons_zero, List.getElem?_cons_succ] at R_0 R_1
      have Rf := R.f
      cases hok : okS b'
      · obtain rfl : P = ((0, 0), 31) := by rw [← unhide HP]; unfold finP; rw [hok]; rfl
        clear hok
        go_wp2
        exact bodyPost_ret (results_se Tryz.results71 (0, 0) rfl rfl (R.all [.int .i64 0, .int .i64 0] rfl)) rfl ⟨rfl, below_setAll (by omega) [.int .i64 0, .int .i64 0] 0 (unhide HB)⟩
      · obtain rfl : P = (b', 0) := by rw [← unhide HP]; unfold finP; rw [hok]; rfl
        clear hok
        go_wp2
        exact bodyPost_ret (results_se Tryz.results71 b' rfl rfl (R.all [.int .i64 (b').1, .int .i64 (b').2] rfl)) rfl ⟨rfl, below_setAll (by omega) [.int .i64 (b').1, .int .i64 (b').2] 0 (unhide HB)⟩
  · obtain ⟨m, hm⟩ : ∃ m, vs.length = m + 1 := ⟨vs.length - 1, by omega⟩
    rw [lastS_at vs m hm] at hP
    obtain ⟨b, q, rfl, x⟩ := hv.each m (by omega)
    obtain ⟨v, hv0⟩ : ∃ v, vs[m]'(by omega) = v := ⟨_, rfl⟩
    rw [hv0] at x hP
    rw [hm] at l1 ⊢
    have C := ((Blk.new w #[.slice (some ⟨b, q, none⟩) (m + 1) c, .bool o, .int .i64 i.txn.id, .int .i64 i.txn.ep, .string i.txn.anchor, .int .i64 i.txn.start.1, .int .i64 i.txn.start.2, .int .i64 i.seq, .int .i64 i.at_.1, .int .i64 i.at_.2, .string i.val, .bool i.gone] 61).alloc (.cells #[.int .i64 a.1, .int .i64 a.2] 36)).alloc (.cells #[.int .i64 0, .int .i64 0] 36)
    have A := (Blk.new (w.alloc (.cells #[.slice (some ⟨b, q, none⟩) (m + 1) c, .bool o, .int .i64 i.txn.id, .int .i64 i.txn.ep, .string i.txn.anchor, .int .i64 i.txn.start.1, .int .i64 i.txn.start.2, .int .i64 i.seq, .int .i64 i.at_.1, .int .i64 i.at_.2, .string i.val, .bool i.gone] 61)) #[.int .i64 a.1, .int .i64 a.2] 36).alloc (.cells #[.int .i64 0, .int .i64 0] 36)
    rw [show (w.alloc (.cells #[.slice (some ⟨b, q, none⟩) (m + 1) c, .bool o, .int .i64 i.txn.id, .int .i64 i.txn.ep, .string i.txn.anchor, .int .i64 i.txn.start.1, .int .i64 i.txn.start.2, .int .i64 i.seq, .int .i64 i.at_.1, .int .i64 i.at_.2, .string i.val, .bool i.gone] 61)).heap.size = w.heap.size + 1 by simp] at A
    have R := Blk.new ((w.alloc (.cells #[.slice (some ⟨b, q, none⟩) (m + 1) c, .bool o, .int .i64 i.txn.id, .int .i64 i.txn.ep, .string i.txn.anchor, .int .i64 i.txn.start.1, .int .i64 i.txn.start.2, .int .i64 i.seq, .int .i64 i.at_.1, .int .i64 i.at_.2, .string i.val, .bool i.gone] 61)).alloc (.cells #[.int .i64 a.1, .int .i64 a.2] 36)) #[.int .i64 0, .int .i64 0] 36
    rw [show ((w.alloc (.cells #[.slice (some ⟨b, q, none⟩) (m + 1) c, .bool o, .int .i64 i.txn.id, .int .i64 i.txn.ep, .string i.txn.anchor, .int .i64 i.txn.start.1, .int .i64 i.txn.start.2, .int .i64 i.seq, .int .i64 i.at_.1, .int .i64 i.at_.2, .string i.val, .bool i.gone] 61)).alloc (.cells #[.int .i64 a.1, .int .i64 a.2] 36)).heap.size = w.heap.size + 1 + 1 by simp] at R
    have hB : Below w.heap.size w (((w.alloc (.cells #[.slice (some ⟨b, q, none⟩) (m + 1) c, .bool o, .int .i64 i.txn.id, .int .i64 i.txn.ep, .string i.txn.anchor, .int .i64 i.txn.start.1, .int .i64 i.txn.start.2, .int .i64 i.seq, .int .i64 i.at_.1, .int .i64 i.at_.2, .string i.val, .bool i.gone] 61)).alloc (.cells #[.int .i64 a.1, .int .i64 a.2] 36)).alloc (.cells #[.int .i64 0, .int .i64 0] 36)) := (((Below.refl w.heap.size w).alloc (Nat.le_refl _) _).alloc (by simp) _).alloc (by simp; omega) _
    replace x := x.block (hB.block _ x.lt)
    have x0 := x.c0
    have x1 := x.c1
    have hN := fun w => next_s v.at_ w
    have hm0 : (0 : Int) < (m : Int) + 1 := by omega
    clear hv h0 hv0 hm x
    go_enter Tryz.func71, Tryz.ntmps71
    go_wp2_with fail
    generalize ((w.alloc _).alloc _).alloc _ = W at *
    refine (hN _).mono ?_
    rintro e w1 ⟨rfl, hb1⟩
    cases hn : nextS v.at_ with
    | none =>
      rw [hn] at hP
      obtain rfl : P = ((0, 0), 31) := hP.symm
      replace R := R.later hb1
      replace hB := hB.trans (hb1.mono hB.size)
      clear hb1 hN C A
      have R_0 := fun o => (R.alloc o).c 0; have R_1 := fun o => (R.alloc o).c 1; simp only [List.getElem?_cons_zero, List.getElem?_cons_succ] at R_0 R_1; have Rf := fun o => (R.alloc o).f
      have HB := hide hB
      clear hB
      simp only
      go_wp2
      exact bodyPost_ret (results_se Tryz.results71 (0, 0) rfl rfl ((R.alloc _).all [.int .i64 0, .int .i64 0] rfl)) rfl ⟨rfl, below_setAll (by omega) [.int .i64 0, .int .i64 0] 0 ((unhide HB).alloc (unhide HB).size _)⟩
    | some nn =>
      rw [hn] at hP
      replace hP : finP (stepP o i (maxS a nn)) = P := hP
      have D := Blk.new w1 #[.int .i64 nn.1, .int .i64 nn.2] 36
      replace C := (C.later hb1).alloc (.cells #[.int .i64 nn.1, .int .i64 nn.2] 36)
      replace A := (A.later hb1).alloc (.cells #[.int .i64 nn.1, .int .i64 nn.2] 36)
      replace R := (R.later hb1).alloc (.cells #[.int .i64 nn.1, .int .i64 nn.2] 36)
      replace hB := (hB.trans (hb1.mono hB.size)).alloc (hB.trans (hb1.mono hB.size)).size (.cells #[.int .i64 nn.1, .int .i64 nn.2] 36)
      have hM1 := fun w => max_s a nn w
      obtain ⟨bb, hbb⟩ : ∃ bb, maxS a nn = bb := ⟨_, rfl⟩
      rw [hbb] at hM1 hP
      clear hb1 hN hbb hn x0 x1
      have A_0 := A.c 0; have A_1 := A.c 1; simp only [List.getElem?_cons_zero, List.getElem?_cons_succ] at A_0 A_1
      simp only
      go_wp2_with fail
      generalize w1.alloc _ = W1 at *
      refine (hM1 _).mono ?_
      rintro e w2 ⟨rfl, hb2⟩
      clear A_0 A_1
      replace C := C.later hb2
      replace A := A.later hb2
      replace R := R.later hb2
      replace hB := hB.trans (hb2.mono hB.size)
      clear hb2 hM1 D
      replace C := Blk.others (by omega) [.int .i64 bb.1, .int .i64 bb.2] (C := w.heap.size + 1) 0 C
      replace R := Blk.others (by omega) [.int .i64 bb.1, .int .i64 bb.2] (C := w.heap.size + 1) 0 R
      have hB2 := below_setAll (C := w.heap.size + 1) (by omega) [.int .i64 bb.1, .int .i64 bb.2] 0 hB
      have A2 := A.all [.int .i64 bb.1, .int .i64 bb.2] rfl
      simp only [setAll, Nat.zero_add] at A2 C R hB2
      have A_0 := A.c 0; have A_1 := A.c 1; simp only [List.getElem?_cons_zero, List.getElem?_cons_succ] at A_0 A_1
      have Af := A.f
      clear A
      have A := A2
      clear A2
      replace hB := hB2
      clear hB2
      cases o
      · have HP : Hid (finP bb = P) := hide hP
        clear hP
        have C_0 := C.c 0; have C_1 := C.c 1; have C_2 := C.c 2; have C_3 := C.c 3; have C_4 := C.c 4; have C_5 := C.c 5; have C_6 := C.c 6; have C_7 := C.c 7; have C_8 := C.c 8; have C_9 := C.c 9; have C_10 := C.c 10; have C_11 := C.c 11; simp only [List.getElem?_cons_zero, List.getElem?_cons_succ] at C_0 C_1 C_2 C_3 C_4 C_5 C_6 C_7 C_8 C_9 C_10 C_11
        have A_0 := A.c 0; have A_1 := A.c 1; simp only [List.getElem?_cons_zero, List.getElem?_cons_succ] at A_0 A_1
        have hR := fun w => right_any (bb).1 (bb).2 w
        rw [right_eq] at hR
        go_wp2_with fail
        refine (hR _).mono ?_
        rintro e wr ⟨rfl, hbr⟩
        replace A := A.later hbr
        replace R := R.later hbr
        have HB := hide (hB.trans (hbr.mono hB.size))
        clear hbr hB hR
        have A_0 := A.c 0; have A_1 := A.c 1; simp only [List.getElem?_cons_zero, List.getElem?_cons_succ] at A_0 A_1
        have R_0 := R.c 0; have R_1 := R.c 1; simp only [List.getElem?_cons_zero, List.getElem?_cons_succ] at R_0 R_1
        have Rf := R.f
        cases hok : okS bb
        · obtain rfl : P = ((0, 0), 31) := by rw [← unhide HP]; unfold finP; rw [hok]; rfl
          clear hok
          go_wp2
          exact bodyPost_ret (results_se Tryz.results71 (0, 0) rfl rfl (R.all [.int .i64 0, .int .i64 0] rfl)) rfl ⟨rfl, below_setAll (by omega) [.int .i64 0, .int .i64 0] 0 (unhide HB)⟩
        · obtain rfl : P = (bb, 0) := by rw [← unhide HP]; unfold finP; rw [hok]; rfl
          clear hok
          go_wp2
          exact bodyPost_ret (results_se Tryz.results71 bb rfl rfl (R.all [.int .i64 bb.1, .int .i64 bb.2] rfl)) rfl ⟨rfl, below_setAll (by omega) [.int .i64 bb.1, .int .i64 bb.2] 0 (unhide HB)⟩
      · have hM := fun w => max_s bb i.at_ w
        obtain ⟨b', hb'⟩ : ∃ b', maxS bb i.at_ = b' := ⟨_, rfl⟩
        have HP : Hid (finP b' = P) := hide (by rw [← hb']; exact hP)
        rw [hb'] at hM
        clear hP hb'
        have C_0 := C.c 0; have C_1 := C.c 1; have C_2 := C.c 2; have C_3 := C.c 3; have C_4 := C.c 4; have C_5 := C.c 5; have C_6 := C.c 6; have C_7 := C.c 7; have C_8 := C.c 8; have C_9 := C.c 9; have C_10 := C.c 10; have C_11 := C.c 11; simp only [List.getElem?_cons_zero, List.getElem?_cons_succ] at C_0 C_1 C_2 C_3 C_4 C_5 C_6 C_7 C_8 C_9 C_10 C_11
        have A_0 := A.c 0; have A_1 := A.c 1; simp only [List.getElem?_cons_zero, List.getElem?_cons_succ] at A_0 A_1
        have Af := A.f
        go_wp2_with fail
        refine (hM _).mono ?_
        rintro e wm ⟨rfl, hbm⟩
        replace C := C.later hbm
        replace A := A.later hbm
        replace R := R.later hbm
        replace hB := hB.trans (hbm.mono hB.size)
        clear C_0 C_1 C_2 C_3 C_4 C_5 C_6 C_7 C_8 C_9 C_10 C_11 A_0 A_1
        clear hbm hM Af
        have A_0 := A.c 0; have A_1 := A.c 1; simp only [List.getElem?_cons_zero, List.getElem?_cons_succ] at A_0 A_1
        have Af := A.f
        replace R := Blk.others (by omega) [.int .i64 (b').1, .int .i64 (b').2] (C := w.heap.size + 1) 0 R
        have A2 := A.all [.int .i64 (b').1, .int .i64 (b').2] rfl
        replace hB := below_setAll (C := w.heap.size + 1) (by omega) [.int .i64 (b').1, .int .i64 (b').2] 0 hB
        simp only [setAll, Nat.zero_add] at A2 R hB
        clear C
        have hR := fun w => right_any b'.1 b'.2 w
        rw [right_eq] at hR
        have g0 := A2.c 0
        have g1 := A2.c 1
        simp only [List.getElem?_cons_zero, List.getElem?_cons_succ] at g0 g1
        go_wp2_with fail
        clear A A_0 A_1 Af g0 g1
        have A := A2
        clear A2
        refine (hR _).mono ?_
        rintro e wr ⟨rfl, hbr⟩
        replace A := A.later hbr
        replace R := R.later hbr
        have HB := hide (hB.trans (hbr.mono hB.size))
        clear hbr hB hR
        have A_0 := A.c 0; have A_1 := A.c 1; simp only [List.getElem?_cons_zero, List.getElem?_cons_succ] at A_0 A_1
        have R_0 := R.c 0; have R_1 := R.c 1; simp only [List.getElem?_cons_zero, List.getElem?_cons_succ] at R_0 R_1
        have Rf := R.f
        cases hok : okS b'
        · obtain rfl : P = ((0, 0), 31) := by rw [← unhide HP]; unfold finP; rw [hok]; rfl
          clear hok
          go_wp2
          exact bodyPost_ret (results_se Tryz.results71 (0, 0) rfl rfl (R.all [.int .i64 0, .int .i64 0] rfl)) rfl ⟨rfl, below_setAll (by omega) [.int .i64 0, .int .i64 0] 0 (unhide HB)⟩
        · obtain rfl : P = (b', 0) := by rw [← unhide HP]; unfold finP; rw [hok]; rfl
          clear hok
          go_wp2
          exact bodyPost_ret (results_se Tryz.results71 b' rfl rfl (R.all [.int .i64 (b').1, .int .i64 (b').2] rfl)) rfl ⟨rfl, below_setAll (by omega) [.int .i64 (b').1, .int .i64 (b').2] 0 (unhide HB)⟩
end

end Go.Proofs.YtcdehnghggleoaaGreat
