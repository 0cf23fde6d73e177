/-
  The laws' acts: how they lie in memory; what one does with a clock. No law is proved here.
-/
import Derived.Test.YtjjnejknmgipiaaAlive
import Derived.Test.YtjjnejknmgipiaaFlat
namespace Go.Proofs.Ytjjnejknmgipiaa
open Go.RowKit Go.ChangeShapes Go.WideShapes
set_option linter.unusedVariables false

/-- An act of a script. -/
structure ActV where
  kind : Int
  x : Int
  c : Int
  d : Int

/-- An act, by value. -/
structure ActIs (v : Value) (z : ActV) : Prop where
  eq : v = .agg #[.int .i64 z.kind, .int .i64 z.x, .int .i64 z.c, .int .i64 z.d]
  c0 : -9223372036854775808 ≤ z.c
  c1 : z.c ≤ 9223372036854775807

/-- A list of acts as it lies in memory. -/
def Acts (w : World) (v : Value) (xs : List ActV) : Prop :=
  ∃ ao c, v = .slice ao xs.length c ∧ xs.length ≤ c ∧ c ≤ maxLen ∧
    ∀ i (h : i < xs.length), ∃ b o, ao = some ⟨b, o, none⟩ ∧ w.cell? ⟨b, o + i * 4, none⟩ = some (.int .i64 xs[i].kind) ∧
      w.cell? ⟨b, o + i * 4 + 1, none⟩ = some (.int .i64 xs[i].x) ∧ w.cell? ⟨b, o + i * 4 + 2, none⟩ = some (.int .i64 xs[i].c) ∧ w.cell? ⟨b, o + i * 4 + 3, none⟩ = some (.int .i64 xs[i].d)

theorem Acts.below {B : Nat} {w w' : World} {v : Value} {xs : List ActV} (h : Acts w v xs) (hb : Below B w w') (hB : w.heap.size ≤ B) : Acts w' v xs := by
  obtain ⟨ao, c, rfl, h1, h2, h3⟩ := h
  refine ⟨ao, c, rfl, h1, h2, fun i hi => ?_⟩
  obtain ⟨b, o, h6, c0, c1, c2, c3⟩ := h3 i hi
  have hlt : b < B := Nat.lt_of_lt_of_le (World.block_lt_of_cell? w _ c0) hB
  exact ⟨b, o, h6, (hb.cell (p := ⟨b, o + i * 4, none⟩) hlt).trans c0, (hb.cell (p := ⟨b, o + i * 4 + 1, none⟩) hlt).trans c1, (hb.cell (p := ⟨b, o + i * 4 + 2, none⟩) hlt).trans c2, (hb.cell (p := ⟨b, o + i * 4 + 3, none⟩) hlt).trans c3⟩

theorem Try.flatAct : flat Try.prog 4 34 = some [3, 3, 3, 3] := by kernel_rfl
theorem Try.flatStp : flat Try.prog 4 32 = some [3, 3] := by kernel_rfl
theorem Try.cellsAct : Try.prog.cellsOf 34 = 4 := by kernel_rfl
theorem Try.cellsStp : Try.prog.cellsOf 32 = 2 := by kernel_rfl

/-- A stamp, by value. -/
structure Stm (v : Value) (z : Int × Int) : Prop where
  eq : v = .agg #[.int .i64 z.1, .int .i64 z.2]

section
variable {H : Type} {enc : TypeId × Value → H} {w : World} {base : Nat} {spare : Nat → Bool} {held : Bool}

theorem act_of {cs : List Value} (h : Leaves enc Try.prog w base spare held [3, 3, 3, 3] cs) :
    ∃ a : ActV, cs = [.int .i64 a.kind, .int .i64 a.x, .int .i64 a.c, .int .i64 a.d] ∧ -9223372036854775808 ≤ a.c ∧ a.c ≤ 9223372036854775807 := by
  obtain ⟨hl, hc⟩ := h
  match cs, hl with
  | [c0, c1, c2, c3], _ =>
    obtain ⟨u0, m0, y0, e0, t0⟩ := hc 0 _ rfl
    obtain ⟨u1, m1, y1, e1, t1⟩ := hc 1 _ rfl
    obtain ⟨u2, m2, y2, e2, t2⟩ := hc 2 _ rfl
    obtain ⟨u3, m3, y3, e3, t3⟩ := hc 3 _ rfl
    obtain ⟨k, ek, _, _⟩ := DataW.trod_int Try.underlying3 t0
    obtain ⟨n, en, _, wn⟩ := DataW.trod_int Try.underlying3 t1
    obtain ⟨f, ef, _, wf⟩ := DataW.trod_int Try.underlying3 t2
    obtain ⟨s, es, _, ws⟩ := DataW.trod_int Try.underlying3 t3
    simp at e0 e1 e2 e3 ek en ef es
    subst e0 e1 e2 e3 ek en ef es
    exact ⟨⟨k, n, f, s⟩, rfl, (bounds_i64 wf).1, (bounds_i64 wf).2⟩

theorem view_act {r : Reach} {b0 : Nat} {v : Value} {d : DataW H} {p : List MemPlace} (hv : Value.okWide Try.prog w r b0 34 v)
    (h : DataW.Trod enc Try.prog w base spare held 34 v d p) : ∃ z, ActIs v z := by
  obtain ⟨cs, rfl, hsz⟩ := okWide_struct Try.underlying34 hv
  rw [Try.cellsAct] at hsz
  obtain ⟨fuel, hf⟩ := h
  have hL := leaves_of 4 _ _ fuel _ _ Try.flatAct hf (by simp [Value.cells, hsz])
  obtain ⟨a, ha, h0, h1⟩ := act_of hL
  refine ⟨a, ?_, h0, h1⟩
  obtain ⟨l⟩ := cs
  simp [Value.cells] at ha
  rw [ha]

theorem view_stp {r : Reach} {b0 : Nat} {v : Value} {d : DataW H} {p : List MemPlace} (hv : Value.okWide Try.prog w r b0 32 v)
    (h : DataW.Trod enc Try.prog w base spare held 32 v d p) : ∃ z, Stm v z := by
  obtain ⟨cs, rfl, hsz⟩ := okWide_struct Try.underlying32 hv
  rw [Try.cellsStp] at hsz
  obtain ⟨fuel, hf⟩ := h
  obtain ⟨hl, hc⟩ := leaves_of 4 _ _ fuel _ _ Try.flatStp hf (by simp [Value.cells, hsz])
  obtain ⟨l⟩ := cs
  match l, hsz with
  | [c0, c1], _ =>
    obtain ⟨u0, m0, y0, e0, t0⟩ := hc 0 _ rfl
    obtain ⟨u1, m1, y1, e1, t1⟩ := hc 1 _ rfl
    obtain ⟨k, ek, _, _⟩ := DataW.trod_int Try.underlying3 t0
    obtain ⟨n, en, _, wn⟩ := DataW.trod_int Try.underlying3 t1
    simp [Value.cells] at e0 e1 ek en
    subst e0 e1 ek en
    exact ⟨(k, n), ⟨rfl⟩⟩

theorem view_acts {fuel : Nat} {a : Option Addr} {len cap : Nat} {x : DataW H × List MemPlace} (h : DataW.trod enc Try.prog w base spare held fuel 22 (Value.cells (.slice a len cap)).toList = some x) : ∃ l, Acts w (.slice a len cap) l := by
  rcases rows_of Try.underlying22 Try.flatAct h with h0 | ⟨a', len', cap', e, h1, h2, hel⟩
  · injection h0 with e1 e2 e3
    subst e1 e2 e3
    exact ⟨[], none, 0, rfl, Nat.le_refl _, Nat.zero_le _, fun i hi => by cases hi⟩
  · injection e with e1 e2 e3
    subst e1 e2 e3
    have inh : Inhabited ActV := ⟨⟨0, 0, 0, 0⟩⟩
    obtain ⟨f, hf⟩ := Deep.choose_lt (n := len) (p := fun i (b : ActV) => w.cell? (a'.add (i * 4)) = some (.int .i64 b.kind) ∧
        w.cell? (a'.add (i * 4 + 1)) = some (.int .i64 b.x) ∧ w.cell? (a'.add (i * 4 + 2)) = some (.int .i64 b.c) ∧ w.cell? (a'.add (i * 4 + 3)) = some (.int .i64 b.d)) (fun i hi => by
      obtain ⟨cs, hL, hcell⟩ := hel i hi
      obtain ⟨b, rfl, _, _⟩ := act_of hL
      exact ⟨b, hcell 0 (by simp), hcell 1 (by simp), hcell 2 (by simp), hcell 3 (by simp)⟩)
    refine ⟨(List.range len).map f, some a', cap, by simp, by simpa using h1, h2, fun i hi => ?_⟩
    have hi' : i < len := by simpa using hi
    obtain ⟨c0, c1, c2, c3⟩ := hf i hi'
    have e : ((List.range len).map f)[i] = f i := by simp
    rw [e]
    obtain ⟨b, o, sp⟩ := a'
    have hsp : sp = none := by
      have h00 := (hf 0 (by omega)).1
      have := World.cell?_spot h00
      simpa [Addr.add] using this
    subst hsp
    rw [Addr.add_lit] at c0 c1 c2 c3
    exact ⟨b, o, rfl, c0, c1, c2, c3⟩
end

/-- A clock's numbers are as they may be. -/
structure Good (o p a b : Int) : Prop where
  o0 : 0 ≤ o
  o1 : o ≤ 1099511627776
  p0 : 0 ≤ p
  p1 : p ≤ 1099511627776
  a0 : 0 ≤ a
  a1 : a ≤ 1099511627776
  b0 : 0 ≤ b
  b1 : b ≤ 65535

theorem Good.set {o p a b : Int} (h : Good o p a b) (x : Int) : Good o (setP p x) a b := by
  obtain ⟨h0, h1, h2, h3, h4, h5, h6, h7⟩ := h
  unfold setP
  split <;> (refine ⟨?_, ?_, ?_, ?_, ?_, ?_, ?_, ?_⟩ <;> omega)
theorem Good.hear {o p a b : Int} (h : Good o p a b) (c d : Int) : Good o p (hearL o p a b c d).1 (hearL o p a b c d).2 := by
  have h' := h
  obtain ⟨h0, h1, h2, h3, h4, h5, h6, h7⟩ := h
  unfold hearL
  split
  · rename_i he
    split
    · unfold hearE at he
      split at he
      · rename_i hr
        have := (right_iff _ _).1 hr
        refine ⟨?_, ?_, ?_, ?_, ?_, ?_, ?_, ?_⟩ <;> (try simp only []) <;> omega
      · cases he
    · exact h'
  · exact h'
theorem Good.now {o p a b : Int} (h : Good o p a b) : Good o p (nowL p a b).1 (nowL p a b).2 := by
  have h' := h
  obtain ⟨h0, h1, h2, h3, h4, h5, h6, h7⟩ := h
  unfold nowL
  split
  · rename_i he
    unfold nowS at *
    split at he
    · rename_i hl
      rw [if_pos hl]
      refine ⟨?_, ?_, ?_, ?_, ?_, ?_, ?_, ?_⟩ <;> (try simp only []) <;> omega
    · rename_i hl
      rw [if_neg hl]
      split at he
      · rename_i hz
        rw [if_pos hz]
        rcases nxt_cases a b with ⟨_, hn⟩ | ⟨_, _, hn⟩ | ⟨_, x, y, hn, hr, _⟩
        · rw [hn] at hz; cases hz
        · rw [hn] at hz; cases hz
        · rw [hn]
          have := (right_iff _ _).1 hr
          refine ⟨?_, ?_, ?_, ?_, ?_, ?_, ?_, ?_⟩ <;> (try simp only []) <;> omega
      · cases he
  · exact h'

/-- A clock's state: the physical time, the last stamp. -/
structure St where
  p : Int
  a : Int
  b : Int
/-- Behind an act. -/
def St.step (o : Int) (s : St) (z : ActV) : St :=
  if z.kind = 1 then ⟨setP s.p z.x, s.a, s.b⟩ else if z.kind = 2 then ⟨s.p, (nowL s.p s.a s.b).1, (nowL s.p s.a s.b).2⟩
  else if z.kind = 3 then ⟨s.p, (hearL o s.p s.a s.b z.c z.d).1, (hearL o s.p s.a s.b z.c z.d).2⟩ else s
/-- A clock lies in block B. -/
structure Ck (w : World) (B : Nat) (o : Int) (s : St) : Prop where
  at' : Four w B o s.p s.a s.b
  good : Good o s.p s.a s.b

theorem Ck.mv {w w' : World} {B M : Nat} {o : Int} {s : St} (h : Ck w B o s) (hm : Mv M w w') (hn : B ≠ M) : Ck w' B o s := ⟨h.at'.mv hm hn, h.good⟩
theorem Ck.later {w w' : World} {B : Nat} {o : Int} {s : St} (h : Ck w B o s) (hb : Below w.heap.size w w') : Ck w' B o s := ⟨h.at'.later hb, h.good⟩
theorem Ck.lt {w : World} {B : Nat} {o : Int} {s : St} (h : Ck w B o s) : B < w.heap.size := h.at'.lt

section
set_option maxRecDepth 100000
set_option maxHeartbeats 1000000 in
theorem do_any (B : Nat) (o : Int) (s : St) (z : ActV) (w : World) (h : Ck w B o s) :
    Calls Try.prog 22 #[.agg #[.int .i64 z.kind, .int .i64 z.x, .int .i64 z.c, .int .i64 z.d], .pointer (some ⟨B, 0, none⟩)] w fun e w' =>
      e = .returned (.tuple #[]) ∧ Ck w' B o (s.step o z) ∧ Mv B w w' := by
  obtain ⟨kind, x, c, d⟩ := z
  obtain ⟨p, a, b⟩ := s
  obtain ⟨h, hg⟩ := h
  simp only at h hg
  have hh := h.alloc (.cells #[.int .i64 kind, .int .i64 x, .int .i64 c, .int .i64 d] 34)
  have m0 := (Mv.refl B w).alloc (.cells #[.int .i64 kind, .int .i64 x, .int .i64 c, .int .i64 d] 34)
  clear h
  by_cases h1 : kind = 1
  · have e : St.step o ⟨p, a, b⟩ ⟨kind, x, c, d⟩ = ⟨setP p x, a, b⟩ := by unfold St.step; rw [if_pos h1]
    rw [e]
    clear e
    have k1 : (kind == 1) = true := by simpa using h1
    clear h1
    have G := hide (hg.set x)
    go_enter Try.func22, Try.ntmps22
    go_wp2_with fail
    refine (set_any _ _ _ _ _ x _ hh).mono ?_
    rintro e w1 ⟨rfl, h1, m1⟩
    have H1 := hide h1
    have M1 := hide (m0.trans m1)
    clear m0 m1 h1 hh
    go_wp2
    go_end0
    exact ⟨rfl, ⟨unhide H1, unhide G⟩, unhide M1⟩
  · have k1 : (kind == 1) = false := by simpa using h1
    by_cases h2 : kind = 2
    · have e : St.step o ⟨p, a, b⟩ ⟨kind, x, c, d⟩ = ⟨p, (nowL p a b).1, (nowL p a b).2⟩ := by unfold St.step; rw [if_neg h1, if_pos h2]
      rw [e]
      clear e
      have k2 : (kind == 2) = true := by simpa using h2
      clear h1 h2
      have G := hide hg.now
      go_enter Try.func22, Try.ntmps22
      go_wp2_with fail
      refine (now_any _ _ _ _ _ _ hh hg.b0).mono ?_
      rintro e w1 ⟨rfl, h1, m1⟩
      have H1 := hide h1
      have M1 := hide (m0.trans m1)
      clear m0 m1 h1 hh
      go_wp2
      go_end0
      exact ⟨rfl, ⟨unhide H1, unhide G⟩, unhide M1⟩
    · have k2 : (kind == 2) = false := by simpa using h2
      by_cases h3 : kind = 3
      · have e : St.step o ⟨p, a, b⟩ ⟨kind, x, c, d⟩ = ⟨p, (hearL o p a b c d).1, (hearL o p a b c d).2⟩ := by unfold St.step; rw [if_neg h1, if_neg h2, if_pos h3]
        rw [e]
        clear e
        have k3 : (kind == 3) = true := by simpa using h3
        clear h1 h2 h3
        have G := hide (hg.hear c d)
        go_enter Try.func22, Try.ntmps22
        go_wp2_with fail
        refine (hear_any _ _ _ _ _ c d _ hh ⟨hg.o0, hg.o1⟩ ⟨hg.p0, hg.p1⟩).mono ?_
        rintro e w1 ⟨rfl, h1, m1⟩
        have H1 := hide h1
        have M1 := hide (m0.trans m1)
        clear m0 m1 h1 hh
        go_wp2
        go_end0
        exact ⟨rfl, ⟨unhide H1, unhide G⟩, unhide M1⟩
      · have k3 : (kind == 3) = false := by simpa using h3
        have e : St.step o ⟨p, a, b⟩ ⟨kind, x, c, d⟩ = ⟨p, a, b⟩ := by unfold St.step; rw [if_neg h1, if_neg h2, if_neg h3]
        rw [e]
        clear e h1 h2 h3
        have H1 := hide hh
        have M1 := hide m0
        clear m0 hh
        go_enter Try.func22, Try.ntmps22
        go_wp2
        go_end0
        exact ⟨rfl, ⟨unhide H1, hg⟩, unhide M1⟩
end

end Go.Proofs.Ytjjnejknmgipiaa
