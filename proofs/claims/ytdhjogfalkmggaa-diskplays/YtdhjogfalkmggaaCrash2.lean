/-
  The contract of disk's Crash. No law is proved here.
-/
import Derived.Test.YtdhjogfalkmggaaCrash
import Derived.Deep.RegionHeld
namespace Go.Proofs.Ytdhjogfalkmggaa
open Go.RowKit
set_option linter.unusedVariables false

/-- The cell that a crash leaves. -/
def cel (nc sc : List UInt8) (cell : Bool) : List UInt8 := if cell = true then nc else sc

/-- Two cells in block N, and they may be written. -/
structure Var (w : World) (N : Nat) (x y : Value) : Prop where
  c0 : w.cell? ⟨N, 0, none⟩ = some x
  c1 : w.cell? ⟨N, 1, none⟩ = some y
  f0 : w.frozen? ⟨N, 0, none⟩ = false
  f1 : w.frozen? ⟨N, 1, none⟩ = false

theorem Var.lt {w : World} {N : Nat} {x y : Value} (h : Var w N x y) : N < w.heap.size := World.block_lt_of_cell? w _ h.c0
theorem Var.later {w w' : World} {N : Nat} {x y : Value} (h : Var w N x y) (hb : Below w.heap.size w w') : Var w' N x y :=
  ⟨(hb.cell h.lt).trans h.c0, (hb.cell h.lt).trans h.c1, (hb.frozen h.lt).trans h.f0, (hb.frozen h.lt).trans h.f1⟩
theorem Var.new (w : World) (x y : Value) (t : TypeId) : Var (w.alloc (.cells #[x, y] t)) w.heap.size x y := ⟨by simp, by simp, by simp, by simp⟩
theorem Var.put {w : World} {N : Nat} {x y : Value} (h : Var w N x y) (u v : Value) : Var ((w.setCell ⟨N, 0, none⟩ u).setCell ⟨N, 1, none⟩ v) N u v :=
  ⟨(World.cell?_setCell_other _ _ _ _ (by simp)).trans (World.cell?_setCell_same w _ _ h.c0), World.cell?_setCell_same _ _ _ ((World.cell?_setCell_other _ _ _ _ (by simp)).trans h.c1), by simpa using h.f0, by simpa using h.f1⟩
theorem Var.put1 {w : World} {N : Nat} {x y : Value} (h : Var w N x y) (v : Value) : Var (w.setCell ⟨N, 1, none⟩ v) N x v :=
  ⟨(World.cell?_setCell_other _ _ _ _ (by simp)).trans h.c0, World.cell?_setCell_same w _ _ h.c1, by simpa using h.f0, by simpa using h.f1⟩

theorem below_new (w : World) (o : Obj) : Below w.heap.size w (w.alloc o) := (Below.refl _ _).alloc (Nat.le_refl _) o

/-- What stands in Crash when the left content is laid in its variable. -/
structure Mid (S : Nat → Prop) (w0 w : World) (B N g1 n1 g2 n2 : Nat) (v0 v1 v2 v3 : Value) (nf nc sf sc L : List UInt8) : Prop where
  q : Q4 S w B v0 v1 v2 v3 nf nc sf sc
  l : Own w0.heap.size w (.slice (some ⟨g1, 0, none⟩) n1 n1) L
  c : Own w0.heap.size w (.slice (some ⟨g2, 0, none⟩) n2 n2) sc
  v : Var w N (.slice (some ⟨g1, 0, none⟩) n1 n1) (.slice (some ⟨g2, 0, none⟩) n2 n2)
  n1 : g1 ≠ N
  n2 : g2 ≠ N
  lo : w0.heap.size ≤ N
  b : Below w0.heap.size w0 w

section
variable {S : Nat → Prop} {w0 w : World} {B N g1 n1 g2 n2 : Nat} {v0 v1 v2 v3 x y : Value} {nf nc sf sc L : List UInt8}

theorem mid_put (q : ∀ y, Below w0.heap.size w0 y → Q4 S y B v0 v1 v2 v3 nf nc sf sc) (b : Below w0.heap.size w0 w) (l : Own w0.heap.size w (.slice (some ⟨g1, 0, none⟩) n1 n1) L) (c : Own w0.heap.size w (.slice (some ⟨g2, 0, none⟩) n2 n2) sc)
    (v : Var w N x y) (h1 : g1 ≠ N) (h2 : g2 ≠ N) (lo : w0.heap.size ≤ N) : Mid S w0 ((w.setCell ⟨N, 0, none⟩ (.slice (some ⟨g1, 0, none⟩) n1 n1)).setCell ⟨N, 1, none⟩ (.slice (some ⟨g2, 0, none⟩) n2 n2)) B N g1 n1 g2 n2 v0 v1 v2 v3 nf nc sf sc L := by
  have b' := (b.setCell (p := ⟨N, 0, none⟩) lo (.slice (some ⟨g1, 0, none⟩) n1 n1)).setCell (p := ⟨N, 1, none⟩) lo (.slice (some ⟨g2, 0, none⟩) n2 n2)
  refine ⟨q _ b', ?_, ?_, v.put _ _, h1, h2, lo, b'⟩
  · refine l.frame fun k hk _ => ?_
    have : k = g1 := by simpa [Value.ownBlock] using hk.symm
    rw [Below.heap_setCell _ _ _ _ (by rw [this]; exact h1), Below.heap_setCell _ _ _ _ (by rw [this]; exact h1)]
  · refine c.frame fun k hk _ => ?_
    have : k = g2 := by simpa [Value.ownBlock] using hk.symm
    rw [Below.heap_setCell _ _ _ _ (by rw [this]; exact h2), Below.heap_setCell _ _ _ _ (by rw [this]; exact h2)]

theorem mid_new (q : ∀ y, Below w0.heap.size w0 y → Q4 S y B v0 v1 v2 v3 nf nc sf sc) (b : Below w0.heap.size w0 w) (l : Own w0.heap.size w (.slice (some ⟨g1, 0, none⟩) n1 n1) L) (c : Own w0.heap.size w (.slice (some ⟨g2, 0, none⟩) n2 n2) sc) (t : TypeId) :
    Mid S w0 (w.alloc (.cells #[.slice (some ⟨g1, 0, none⟩) n1 n1, .slice (some ⟨g2, 0, none⟩) n2 n2] t)) B w.heap.size g1 n1 g2 n2 v0 v1 v2 v3 nf nc sf sc L := by
  have b' := b.alloc b.size (.cells #[.slice (some ⟨g1, 0, none⟩) n1 n1, .slice (some ⟨g2, 0, none⟩) n2 n2] t)
  have k1 := World.ownsRow.lt l g1 rfl
  have k2 := World.ownsRow.lt c g2 rfl
  exact ⟨q _ b', l.later (below_new _ _), c.later (below_new _ _), Var.new _ _ _ _, by omega, by omega, b.size, b'⟩

theorem Own.inn {W : World} {g n : Nat} {l : List UInt8} (h : Own w0.heap.size W (.slice (some ⟨g, 0, none⟩) n n) l) : ∀ k, (Value.slice (some ⟨g, 0, none⟩) n n).ownBlock = some k → (fun k => w0.heap.size ≤ k) k ∧ k < W.heap.size := fun k hk => World.ownsRow.lt h k hk

theorem Mid.fin (h : Mid S w0 w B N g1 n1 g2 n2 v0 v1 v2 v3 nf nc sf sc L) (hL : L.length ≤ 16777216) (t : TypeId) :
    Dk (fun k => w0.heap.size ≤ k) (w.alloc (.cells #[.slice (some ⟨g1, 0, none⟩) n1 n1, .slice (some ⟨g2, 0, none⟩) n2 n2, .slice (some ⟨g1, 0, none⟩) n1 n1, .slice (some ⟨g2, 0, none⟩) n2 n2] t)) w.heap.size L sc L sc ∧
      Below w0.heap.size w0 (w.alloc (.cells #[.slice (some ⟨g1, 0, none⟩) n1 n1, .slice (some ⟨g2, 0, none⟩) n2 n2, .slice (some ⟨g1, 0, none⟩) n1 n1, .slice (some ⟨g2, 0, none⟩) n2 n2] t)) :=
  ⟨⟨_, _, _, _, Q4.new w _ _ _ _ L sc L sc t h.l.sl h.c.sl h.l.sl h.c.sl h.l.inn h.c.inn h.l.inn h.c.inn hL h.q.b3 hL h.q.b3 h.b.size, .inl ⟨_, _, rfl⟩⟩, h.b.alloc h.b.size _⟩

/-- The same with the cell as it is now. -/
theorem Mid.fin2 (h : Mid S w0 w B N g1 n1 g2 n2 v0 v1 v2 v3 nf nc sf sc L) (hL : L.length ≤ 16777216) (t : TypeId) {w1 : World} {g3 n3 : Nat} (hb : Below w.heap.size w w1) (ho : Own w.heap.size w1 (.slice (some ⟨g3, 0, none⟩) n3 n3) nc) :
    Var w1 N (.slice (some ⟨g1, 0, none⟩) n1 n1) (.slice (some ⟨g2, 0, none⟩) n2 n2) ∧
    Dk (fun k => w0.heap.size ≤ k) ((w1.setCell ⟨N, 1, none⟩ (.slice (some ⟨g3, 0, none⟩) n3 n3)).alloc (.cells #[.slice (some ⟨g1, 0, none⟩) n1 n1, .slice (some ⟨g3, 0, none⟩) n3 n3, .slice (some ⟨g1, 0, none⟩) n1 n1, .slice (some ⟨g3, 0, none⟩) n3 n3] t)) w1.heap.size L nc L nc ∧
      Below w0.heap.size w0 ((w1.setCell ⟨N, 1, none⟩ (.slice (some ⟨g3, 0, none⟩) n3 n3)).alloc (.cells #[.slice (some ⟨g1, 0, none⟩) n1 n1, .slice (some ⟨g3, 0, none⟩) n3 n3, .slice (some ⟨g1, 0, none⟩) n1 n1, .slice (some ⟨g3, 0, none⟩) n3 n3] t)) := by
  have b1 : Below w0.heap.size w0 w1 := h.b.trans (hb.mono h.b.size)
  have b2 := b1.setCell (p := ⟨N, 1, none⟩) h.lo (.slice (some ⟨g3, 0, none⟩) n3 n3)
  have hlt := h.v.lt
  have k3 := World.ownsRow.lt ho g3 rfl
  have l2 : Own w0.heap.size (w1.setCell ⟨N, 1, none⟩ (.slice (some ⟨g3, 0, none⟩) n3 n3)) (.slice (some ⟨g1, 0, none⟩) n1 n1) L := (h.l.later hb).frame fun k hk _ => by
    have : k = g1 := by simpa [Value.ownBlock] using hk.symm
    exact Below.heap_setCell _ _ _ _ (by rw [this]; exact h.n1)
  have c2 : Own w0.heap.size (w1.setCell ⟨N, 1, none⟩ (.slice (some ⟨g3, 0, none⟩) n3 n3)) (.slice (some ⟨g3, 0, none⟩) n3 n3) nc := (ho.mono h.b.size).frame fun k hk _ => by
    have : k = g3 := by simpa [Value.ownBlock] using hk.symm
    exact Below.heap_setCell _ _ _ _ (by rw [this]; simp only; omega)
  have e : (w1.setCell ⟨N, 1, none⟩ (.slice (some ⟨g3, 0, none⟩) n3 n3)).heap.size = w1.heap.size := by simp [World.setCell]
  refine ⟨h.v.later hb, ?_, b2.alloc b2.size _⟩
  have := Q4.new (S := fun k => w0.heap.size ≤ k) (w1.setCell ⟨N, 1, none⟩ (.slice (some ⟨g3, 0, none⟩) n3 n3)) _ _ _ _ L nc L nc t l2.sl c2.sl l2.sl c2.sl l2.inn c2.inn l2.inn c2.inn hL h.q.b1 hL h.q.b1 b2.size
  rw [e] at this
  exact ⟨_, _, _, _, this, .inl ⟨_, _, rfl⟩⟩
end

section
set_option maxRecDepth 100000
variable {S : Nat → Prop}

set_option maxHeartbeats 2000000 in
theorem crash_ok (B : Nat) (nf nc sf sc : List UInt8) (keep : Int) (torn cell : Bool) (w : World) (h : Dk S w B nf nc sf sc) (hk : keep ≤ 9223372036854775807) :
    Calls Try.prog 18 #[.pointer (some ⟨B, 0, none⟩), .int .i64 keep, .bool torn, .bool cell] w fun e w' =>
      ∃ B', e = .returned (.pointer (some ⟨B', 0, none⟩)) ∧ Dk (fun k => w.heap.size ≤ k) w' B' (left sf nf keep torn) (cel nc sc cell) (left sf nf keep torn) (cel nc sc cell) ∧ Below w.heap.size w w' := by
  have hb4 : (left sf nf keep torn).length ≤ 16777216 := by obtain ⟨_, _, _, _, hq, _⟩ := h; exact left_length sf nf keep torn _ hq.b2 hq.b0
  have hF := hide (fun y (hy : Below w.heap.size w y) => left_ok (S := S) B nf nc sf sc keep torn y (h.later hy) hk)
  generalize left sf nf keep torn = L at *
  obtain ⟨v0, v1, v2, v3, hq, hg⟩ := h
  have HQ := hide (fun y (hy : Below w.heap.size w y) => hq.frame (w' := y) hy.size (fun k hk _ => hy.block k hk))
  have b1 := hq.b1
  have b3 := hq.b3
  obtain ⟨bo, dp, rfl, _, hdp, _⟩ := id hq.s1
  obtain ⟨yo, yp, rfl, _, hyp, _⟩ := id hq.s3
  have c3 := hq.c3
  have hBn := World.new_ne w ⟨B, 3, none⟩ hq.c3
  have hBlt := hq.lt
  clear hq hg
  go_enter Try.func18, Try.ntmps18
  go_wp2_with fail
  go_region_held (fun w' => w'.cell? ⟨B, 3, none⟩ = some (.slice yo sc.length yp)) (go_keep)
    (first | (go_at_call 26; refine (unhide hF _ (by first | exact (Below.refl _ _).drew | exact (Below.refl _ _).drew.alloc (Nat.le_refl _) _)).mono ?_; rintro e w3 ⟨g1, n1, rfl, ho1, hb1⟩; have HP1 := hide (World.ownsRow.lt ho1 g1 rfl); have HO1 := hide ho1; have HB1 := hide hb1; have HB := hide (show Below w.heap.size w w3 from Below.trans (by first | exact (Below.refl _ _).drew | exact (Below.refl _ _).drew.alloc (Nat.le_refl _) _) (hb1.mono (by simp))); have c3 := (unhide HQ w3 (unhide HB)).c3; have hBn3 := World.new_ne w3 ⟨B, 3, none⟩ c3; (first | have HV : Hid (Var w3 w.heap.size _ _) := hide ((Var.new w.drew _ _ _).later hb1) | skip); clear hb1 ho1) | (go_at_call 25; refine (copied_any _ sc _ (unhide HQ _ (by first | exact unhide HB | exact (unhide HB).alloc (unhide HB).size _)).s3 (by omega)).mono ?_; rintro e w4 ⟨rfl, ho2, hb2⟩; have HP2 := hide (World.ownsRow.lt ho2 _ rfl); have HO2 := hide ho2; have HB2 := hide hb2; have HB := hide (show Below w.heap.size w w4 from Below.trans (by first | exact unhide HB | exact (unhide HB).alloc (unhide HB).size _) (hb2.mono (by have := (unhide HB).size; simp; omega))); have c3 := (unhide HQ w4 (unhide HB)).c3; have hBn4 := World.new_ne w4 ⟨B, 3, none⟩ c3; (first | have HV := hide ((Var.new _ _ _ _).later hb2) | have HV := hide ((unhide HV).later hb2) | skip); (first | (have y0 := (unhide HV).c0; have y1 := (unhide HV).c1; have z0 := (unhide HV).f0; have z1 := (unhide HV).f1) | skip); clear hb2 ho2))
  · have hM := hide (mid_new (unhide HQ) (unhide HB) (((unhide HO1).later (unhide HB2))) ((unhide HO2).mono (Nat.le_trans (unhide HB1).size (Nat.le_refl _))) 46)
    generalize w4.alloc (.cells #[.slice (some ⟨g1, 0, none⟩) n1 n1, .slice (some ⟨w3.heap.size, 0, none⟩) sc.length sc.length] 46) = W at *
    generalize w3.heap.size = g2 at *
    generalize w4.heap.size = N at *
    clear HO1 HB1 HO2 HB2 HB HQ hF HP1 HP2
    cases cell
    · have d0 := (unhide hM).v.c0
      have d1 := (unhide hM).v.c1
      have F := hide ((unhide hM).fin hb4 48)
      clear hM
      go_wp2
      go_ret
      exact ⟨_, rfl, (unhide F).1, (unhide F).2⟩
    · have c1 := (unhide hM).q.c1
      go_wp2_with fail
      refine (copied_any _ nc _ (unhide hM).q.s1 (by omega)).mono ?_
      rintro e w5 ⟨rfl, ho, hb⟩
      obtain ⟨hv, hd⟩ := (unhide hM).fin2 hb4 48 hb ho
      have F := hide hd
      obtain ⟨d0, d1, d2, d3⟩ := hv
      clear hd hM ho hb c1
      generalize W.heap.size = g3 at *
      go_wp2
      go_ret
      exact ⟨_, rfl, (unhide F).1, (unhide F).2⟩
  · have hM := hide (mid_put (unhide HQ) (unhide HB) (((unhide HO1).later (below_new _ _)).later (unhide HB2)) ((unhide HO2).mono (by have := (unhide HB1).size; simp at this ⊢; omega)) (unhide HV) (by have := unhide HP1; omega) (by simp) (by have := (unhide HB1).size; simpa using this))
    simp only [World.size_alloc] at hM
    generalize (w4.setCell ⟨w3.heap.size, 0, none⟩ (.slice (some ⟨g1, 0, none⟩) n1 n1)).setCell ⟨w3.heap.size, 1, none⟩ (.slice (some ⟨w3.heap.size + 1, 0, none⟩) sc.length sc.length) = W at *
    generalize w3.heap.size + 1 = g2 at *
    generalize w3.heap.size = N at *
    clear HO1 HB1 HO2 HB2 HB HQ hF HP1 HP2
    cases cell
    · have d0 := (unhide hM).v.c0
      have d1 := (unhide hM).v.c1
      have F := hide ((unhide hM).fin hb4 48)
      clear hM
      go_wp2
      go_ret
      exact ⟨_, rfl, (unhide F).1, (unhide F).2⟩
    · have c1 := (unhide hM).q.c1
      go_wp2_with fail
      refine (copied_any _ nc _ (unhide hM).q.s1 (by omega)).mono ?_
      rintro e w5 ⟨rfl, ho, hb⟩
      obtain ⟨hv, hd⟩ := (unhide hM).fin2 hb4 48 hb ho
      have F := hide hd
      obtain ⟨d0, d1, d2, d3⟩ := hv
      clear hd hM ho hb c1
      generalize W.heap.size = g3 at *
      go_wp2
      go_ret
      exact ⟨_, rfl, (unhide F).1, (unhide F).2⟩
  · have hM := hide (mid_put (unhide HQ) (unhide HB) (((unhide HO1).mono (by simp)).later (unhide HB2)) ((unhide HO2).mono (by have := (unhide HB1).size; simp at this ⊢; omega)) (unhide HV) (by have := unhide HP1; simp at this; omega) (by have := (unhide HB1).size; simp at this; omega) (Nat.le_refl _))
    generalize (w4.setCell ⟨w.heap.size, 0, none⟩ (.slice (some ⟨g1, 0, none⟩) n1 n1)).setCell ⟨w.heap.size, 1, none⟩ (.slice (some ⟨w3.heap.size, 0, none⟩) sc.length sc.length) = W at *
    generalize w3.heap.size = g2 at *
    clear HO1 HB1 HO2 HB2 HB HQ hF HP1 HP2
    cases cell
    · have d0 := (unhide hM).v.c0
      have d1 := (unhide hM).v.c1
      have F := hide ((unhide hM).fin hb4 48)
      clear hM
      go_wp2
      go_ret
      exact ⟨_, rfl, (unhide F).1, (unhide F).2⟩
    · have c1 := (unhide hM).q.c1
      go_wp2_with fail
      refine (copied_any _ nc _ (unhide hM).q.s1 (by omega)).mono ?_
      rintro e w5 ⟨rfl, ho, hb⟩
      obtain ⟨hv, hd⟩ := (unhide hM).fin2 hb4 48 hb ho
      have F := hide hd
      obtain ⟨d0, d1, d2, d3⟩ := hv
      clear hd hM ho hb c1
      generalize W.heap.size = g3 at *
      go_wp2
      go_ret
      exact ⟨_, rfl, (unhide F).1, (unhide F).2⟩
end

end Go.Proofs.Ytdhjogfalkmggaa
