/-
  Cmp, Next, OrderMath, RefS, VLaws, Vd, Sd, S5Fits, S5Ref: one behind the other. No law is proved here.
-/
import Derived.Test.YtcdehnghggleoaaGn1
import Derived.Deep.RegionHeld
import Derived.Handy
import Derived.Laws.StructEq
import Derived.Maps.OwnIn
import Derived.Maps.Ext
import Derived.Maps.RangeWalk
import Derived.Sort.MapsRangeIn
import Derived.Sort.KeysCollected
import Derived.StringKeys
/-
  Contracts of cmp.Or, stamp.Compare, stamp.Less, stamp.Max. No law is proved here.
-/
namespace Go.Proofs.Ytcdehnghggleoaa
open Go.RowKit
set_option linter.unusedVariables false

/-- A stamp lies at block B. -/
structure At (w : World) (B : Nat) (a b : Int) : Prop where
  c0 : w.cell? ⟨B, 0, none⟩ = some (.int .i64 a)
  c1 : w.cell? ⟨B, 1, none⟩ = some (.int .i64 b)

theorem At.lt {w : World} {B : Nat} {a b : Int} (h : At w B a b) : B < w.heap.size := World.block_lt_of_cell? w _ h.c0
theorem At.below {w w' : World} {B C : Nat} {a b : Int} (h : At w B a b) (hb : Below C w w') (hC : w.heap.size ≤ C) : At w' B a b :=
  ⟨(hb.cell (p := ⟨B, 0, none⟩) (Nat.lt_of_lt_of_le h.lt hC)).trans h.c0, (hb.cell (p := ⟨B, 1, none⟩) (Nat.lt_of_lt_of_le h.lt hC)).trans h.c1⟩
theorem At.alloc {w : World} {B : Nat} {a b : Int} (h : At w B a b) (o : Obj) : At (w.alloc o) B a b := h.below ((Below.refl _ _).alloc (Nat.le_refl _) o) (Nat.le_refl _)
theorem At.new (w : World) (a b : Int) (t : TypeId) : At (w.alloc (.cells #[.int .i64 a, .int .i64 b] t)) w.heap.size a b := ⟨by simp, by simp⟩

/-- A stamp behind a pointer, stored anew. -/
theorem set2 (w : World) (B : Nat) (x0 y0 x y : Value) (h0 : w.cell? ⟨B, 0, none⟩ = some x0) (h1 : w.cell? ⟨B, 1, none⟩ = some y0) :
    ((w.setCell ⟨B, 0, none⟩ x).setCell ⟨B, 1, none⟩ y).cell? ⟨B, 0, none⟩ = some x ∧ ((w.setCell ⟨B, 0, none⟩ x).setCell ⟨B, 1, none⟩ y).cell? ⟨B, 1, none⟩ = some y := by
  have h0' : (w.setCell ⟨B, 0, none⟩ x).cell? ⟨B, 0, none⟩ = some x := World.cell?_setCell_same w _ _ h0
  have h1' : (w.setCell ⟨B, 0, none⟩ x).cell? ⟨B, 1, none⟩ = some y0 := (World.cell?_setCell_other w _ _ _ (by simp)).trans h1
  exact ⟨(World.cell?_setCell_other _ _ _ _ (by simp)).trans h0', World.cell?_setCell_same _ _ _ h1'⟩

/-- What a function hands back whose result is a stamp in a variable. -/
theorem results_stp {fn : Func} {k : Nat} (hf : fn.results = #[.cell k 28]) {tmps : Array Value} {w : World} {B : Nat} {a b : Int} (hk : tmps[k]? = some (.pointer (some ⟨B, 0, none⟩)))
    (h0 : w.cell? ⟨B, 0, none⟩ = some (.int .i64 a)) (h1 : w.cell? ⟨B, 1, none⟩ = some (.int .i64 b)) : (results fn tmps).run Try.prog w = .ok (.agg #[.int .i64 a, .int .i64 b]) w := by
  simp [results, hf, go_sem, h0, h1, hk]

theorem results_stp2 {fn : Func} {k u : Nat} (hf : fn.results = #[.cell k 28, .tmp u]) {tmps : Array Value} {w : World} {B : Nat} {a b : Int} {e : Value} (hk : tmps[k]? = some (.pointer (some ⟨B, 0, none⟩))) (hu : tmps[u]? = some e)
    (h0 : w.cell? ⟨B, 0, none⟩ = some (.int .i64 a)) (h1 : w.cell? ⟨B, 1, none⟩ = some (.int .i64 b)) : (results fn tmps).run Try.prog w = .ok (.tuple #[(.agg #[.int .i64 a, .int .i64 b]), e]) w := by
  simp [results, hf, go_sem, h0, h1, hk, hu]

section
set_option maxRecDepth 100000
theorem or_any (g : Nat) (x y : Int) (w : World) (hx : w.cell? ⟨g, 0, none⟩ = some (.int .i64 x)) (hy : w.cell? ⟨g, 1, none⟩ = some (.int .i64 y)) :
    Calls Try.prog 94 #[.slice (some ⟨g, 0, none⟩) 2 2] w fun e w' => e = .returned (.int .i64 (orI x y)) ∧ w' = w := by
  unfold orI
  by_cases h0 : x = 0
  · rw [if_pos h0]
    subst h0
    go_enter Try.func94, Try.ntmps94
    go_wp2
    go_loop [8] (fun i => ∃ k : Nat, i = .int .i64 k ∧ k ≤ 2 ∧ (1 < k → Hid (y = 0))) (fun i => 2 - (intOf i).toNat)
    case atStart => exact ⟨0, rfl, by decide, fun h => absurd h (by decide)⟩
    case round =>
      obtain ⟨k, rfl, hk, hz⟩ := hrel
      match k, hk, hz with
      | 0, _, _ =>
        go_wp2
        go_round
        case rel => exact ⟨1, by go_num, by decide, fun h => absurd h (by decide)⟩
        case measure => simp [intOf]
      | 1, _, _ =>
        by_cases h1 : y = 0
        · subst h1
          go_wp2
          go_round
          case rel => exact ⟨2, by go_num, by decide, fun _ => True.intro⟩
          case measure => simp [intOf]
        · have h1' : (y == 0) = false := by simpa using h1
          go_wp2
          go_ret
          exact ⟨rfl, rfl⟩
      | 2, _, hz =>
        have hz := unhide (hz (by decide))
        subst hz
        go_wp2
        go_ret
        exact ⟨rfl, rfl⟩
  · rw [if_neg h0]
    have h0' : (x == 0) = false := by simpa using h0
    go_enter Try.func94, Try.ntmps94
    go_wp2
    go_loop [8] (fun i => i = .int .i64 0) (fun i => 2 - (intOf i).toNat)
    case atStart => rfl
    case round =>
      subst hrel
      go_wp2
      go_ret
      exact ⟨rfl, rfl⟩

theorem compare_any (a b c d : Int) (w : World) : Calls Try.prog 79 #[(.agg #[.int .i64 a, .int .i64 b]), (.agg #[.int .i64 c, .int .i64 d])] w fun e w' => e = .returned (.int .i64 (cmpS a b c d)) ∧ Below w.heap.size w w' := by
  go_enter Try.func79, Try.ntmps79
  go_wp2_with fail
  go_region_held (fun w' => w'.cell? ⟨w.heap.size, 0, none⟩ = some (.int .i64 a) ∧ w'.cell? ⟨w.heap.size, 1, none⟩ = some (.int .i64 b) ∧ w'.cell? ⟨w.heap.size + 1, 0, none⟩ = some (.int .i64 c) ∧ w'.cell? ⟨w.heap.size + 1, 1, none⟩ = some (.int .i64 d)) (go_keep)
    (first | (go_at_call 94; refine (or_any _ (cmpI a c) (cmpI b d) _ ?_ ?_).mono ?_; (go_simp); (go_simp); rintro e w' ⟨rfl, rfl⟩) | (go_at_call 95; refine (cmpc_any _ _ _).mono ?_; rintro e w' ⟨rfl, rfl⟩))
  go_wp2
  go_ret
  exact ⟨rfl, (((Below.refl _ _).alloc (Nat.le_refl _) _).alloc (by simp) _).drew.alloc (by simp; omega) _⟩

theorem less_any (a b c d : Int) (w : World) : Calls Try.prog 62 #[(.agg #[.int .i64 a, .int .i64 b]), (.agg #[.int .i64 c, .int .i64 d])] w fun e w' => e = .returned (.bool (lessB a b c d)) ∧ Below w.heap.size w w' := by
  go_enter Try.func62, Try.ntmps62
  go_wp2_with fail
  refine (compare_any _ _ _ _ _).mono ?_
  rintro e w1 ⟨rfl, hb1⟩
  go_wp2
  go_ret
  exact ⟨rfl, (((Below.refl _ _).alloc (Nat.le_refl _) _).alloc (by simp) _).trans (hb1.mono (by simp; omega))⟩

theorem max_any (a b c d : Int) (w : World) : Calls Try.prog 38 #[(.agg #[.int .i64 a, .int .i64 b]), (.agg #[.int .i64 c, .int .i64 d])] w fun e w' => e = .returned (if lessB a b c d then (.agg #[.int .i64 c, .int .i64 d]) else (.agg #[.int .i64 a, .int .i64 b])) ∧ Below w.heap.size w w' := by
  have h1 := fun w => less_any a b c d w
  generalize lessB a b c d = x at *
  have hB := (((Below.refl w.heap.size w).alloc (Nat.le_refl _) (.cells #[.int .i64 a, .int .i64 b] 28)).alloc (by simp) (.cells #[.int .i64 c, .int .i64 d] 28)).alloc (by simp; omega) (.cells #[.int .i64 0, .int .i64 0] 28)
  cases x
  all_goals
    go_enter Try.func38, Try.ntmps38
    go_wp2_with fail
    refine (h1 _).mono ?_
    rintro e w1 ⟨rfl, hb1⟩
    have k0 : w1.cell? ⟨w.heap.size, 0, none⟩ = some (.int .i64 a) := (hb1.cell (by simp; omega)).trans (by go_simp)
    have k1 : w1.cell? ⟨w.heap.size, 1, none⟩ = some (.int .i64 b) := (hb1.cell (by simp; omega)).trans (by go_simp)
    have k2 : w1.cell? ⟨w.heap.size + 1, 0, none⟩ = some (.int .i64 c) := (hb1.cell (by simp)).trans (by go_simp)
    have k3 : w1.cell? ⟨w.heap.size + 1, 1, none⟩ = some (.int .i64 d) := (hb1.cell (by simp)).trans (by go_simp)
    have k4 : w1.cell? ⟨w.heap.size + 1 + 1, 0, none⟩ = some (.int .i64 0) := (hb1.cell (by simp)).trans (by go_simp)
    have k5 : w1.cell? ⟨w.heap.size + 1 + 1, 1, none⟩ = some (.int .i64 0) := (hb1.cell (by simp)).trans (by go_simp)
    have k6 : w1.frozen? ⟨w.heap.size + 1 + 1, 0, none⟩ = false := (hb1.frozen (by simp)).trans (by go_simp)
    have k7 : w1.frozen? ⟨w.heap.size + 1 + 1, 1, none⟩ = false := (hb1.frozen (by simp)).trans (by go_simp)
    have R := hide (hB.trans (hb1.mono (by simp; omega)))
    clear hB hb1
    go_wp2
    obtain ⟨c0, c1⟩ := set2 w1 (w.heap.size + 1 + 1) _ _ (.int .i64 _) (.int .i64 _) k4 k5
    refine bodyPost_ret (results_stp Try.results38 rfl c0 c1) rfl ?_
    exact ⟨rfl, ((unhide R).setCell (by simp; omega) _).setCell (by simp; omega) _⟩
end

end Go.Proofs.Ytcdehnghggleoaa

/-
  Contracts of stamp.Next, stamp.Plus. No law is proved here.
-/
namespace Go.Proofs.Ytcdehnghggleoaa
open Go.RowKit
set_option linter.unusedVariables false

/-- The next stamp, and the error. -/
def nxt (a b : Int) : Int × Int × Int :=
  if rightB a b then if b = 65535 then (if a < 1099511627776 then (a + 1, 0, 0) else (0, 0, 31)) else (a, b + 1, 0) else (0, 0, 31)

theorem frozen_alloc_lt {w : World} {p : Addr} {o : Obj} (h : p.block < w.heap.size) : (w.alloc o).frozen? p = w.frozen? p :=
  ((Below.refl w.heap.size w).alloc (Nat.le_refl _) o).frozen h

section
set_option maxRecDepth 100000

set_option maxHeartbeats 1000000 in
theorem next_any (a b : Int) (w : World) : Calls Try.prog 67 #[(.agg #[.int .i64 a, .int .i64 b])] w fun e w' =>
    e = .returned (.tuple #[(.agg #[.int .i64 (nxt a b).1, .int .i64 (nxt a b).2.1]), .int .i64 (nxt a b).2.2]) ∧ Below w.heap.size w w' := by
  have h1 := fun w => right_any a b w
  have n1 : rightB a b = false → nxt a b = (0, 0, 31) := fun h => by unfold nxt; simp [h]
  have n2 : rightB a b = true → b = 65535 → a < 1099511627776 → nxt a b = (a + 1, 0, 0) := fun h h2 h3 => by unfold nxt; rw [if_pos h, if_pos h2, if_pos h3]
  have n3 : rightB a b = true → b = 65535 → ¬ a < 1099511627776 → nxt a b = (0, 0, 31) := fun h h2 h3 => by unfold nxt; rw [if_pos h, if_pos h2, if_neg h3]
  have n4 : rightB a b = true → b ≠ 65535 → nxt a b = (a, b + 1, 0) := fun h h2 => by unfold nxt; simp [h, h2]
  have r : rightB a b = true → 0 ≤ a ∧ a ≤ 1099511627776 ∧ 0 ≤ b ∧ b ≤ 65535 := fun h => by
    unfold rightB at h
    simp at h
    omega
  have r1 : 0 ≤ a → a < 1099511627776 → rightB (a + 1) 0 = true := fun h h2 => by unfold rightB; simp; omega
  have r2 : ¬ a < 1099511627776 → rightB (a + 1) 0 = false := fun h => by unfold rightB; simp; omega
  have r3 : 0 ≤ a → a ≤ 1099511627776 → 0 ≤ b → b ≤ 65535 → b ≠ 65535 → rightB a (b + 1) = true := fun h1 h2 h3 h4 h5 => by unfold rightB; simp; omega
  have hB := ((Below.refl w.heap.size w).alloc (Nat.le_refl _) (.cells #[.int .i64 a, .int .i64 b] 28)).alloc (by simp) (.cells #[.int .i64 0, .int .i64 0] 28)
  have main : ∀ x : Bool, rightB a b = x → Calls Try.prog 67 #[(.agg #[.int .i64 a, .int .i64 b])] w fun e w' =>
      e = .returned (.tuple #[(.agg #[.int .i64 (nxt a b).1, .int .i64 (nxt a b).2.1]), .int .i64 (nxt a b).2.2]) ∧ Below w.heap.size w w' := by
    intro x hx
    rw [hx] at h1 n1 n2 n3 n4 r
    cases x
    · rw [n1 rfl]
      clear n1 n2 n3 n4 r r1 r2 r3 hx
      go_enter Try.func67, Try.ntmps67
      go_wp2_with fail
      refine (h1 _).mono ?_
      rintro e w1 ⟨rfl, hb1⟩
      have k2 : w1.cell? ⟨w.heap.size + 1, 0, none⟩ = some (.int .i64 0) := (hb1.cell (by simp)).trans (by go_simp)
      have k3 : w1.cell? ⟨w.heap.size + 1, 1, none⟩ = some (.int .i64 0) := (hb1.cell (by simp)).trans (by go_simp)
      have f2 : w1.frozen? ⟨w.heap.size + 1, 0, none⟩ = false := (hb1.frozen (by simp)).trans (by go_simp)
      have f3 : w1.frozen? ⟨w.heap.size + 1, 1, none⟩ = false := (hb1.frozen (by simp)).trans (by go_simp)
      have R := hide (hB.trans (hb1.mono (by simp; omega)))
      clear hb1 hB
      go_wp2
      obtain ⟨c0, c1⟩ := set2 w1 (w.heap.size + 1) _ _ (.int .i64 0) (.int .i64 0) k2 k3
      refine bodyPost_ret (results_stp2 Try.results67 rfl rfl c0 c1) rfl ?_
      exact ⟨rfl, ((unhide R).setCell (by simp) _).setCell (by simp) _⟩
    · obtain ⟨ra, rb, rc, rd⟩ := r rfl
      by_cases hb : b = 65535
      · by_cases ha : a < 1099511627776
        · rw [n2 rfl hb ha]
          have h2 := fun w => right_any (a + 1) 0 w
          rw [r1 ra ha] at h2
          clear n1 n2 n3 n4 r r1 r2 r3 hx
          have hbb : (b == 65535) = true := by simpa using hb
          clear hb
          go_enter Try.func67, Try.ntmps67
          go_wp2_with fail
          refine (h1 _).mono ?_
          rintro e w1 ⟨rfl, hb1⟩
          have k0 : w1.cell? ⟨w.heap.size, 0, none⟩ = some (.int .i64 a) := (hb1.cell (by simp; omega)).trans (by go_simp)
          have k1 : w1.cell? ⟨w.heap.size, 1, none⟩ = some (.int .i64 b) := (hb1.cell (by simp; omega)).trans (by go_simp)
          have k2 : w1.cell? ⟨w.heap.size + 1, 0, none⟩ = some (.int .i64 0) := (hb1.cell (by simp)).trans (by go_simp)
          have k3 : w1.cell? ⟨w.heap.size + 1, 1, none⟩ = some (.int .i64 0) := (hb1.cell (by simp)).trans (by go_simp)
          have f2 : w1.frozen? ⟨w.heap.size + 1, 0, none⟩ = false := (hb1.frozen (by simp)).trans (by go_simp)
          have f3 : w1.frozen? ⟨w.heap.size + 1, 1, none⟩ = false := (hb1.frozen (by simp)).trans (by go_simp)
          have hsz : w.heap.size + 1 + 1 ≤ w1.heap.size := by have := hb1.size; simpa using this
          have R := hide (hB.trans (hb1.mono (by simp; omega)))
          clear hb1 hB
          have g0 : ∀ o, (w1.alloc o).cell? ⟨w.heap.size, 0, none⟩ = some (.int .i64 a) := fun o => (World.cell?_alloc_lt _ _ _ (by simp; omega)).trans k0
          have g1 : ∀ o, (w1.alloc o).cell? ⟨w.heap.size, 1, none⟩ = some (.int .i64 b) := fun o => (World.cell?_alloc_lt _ _ _ (by simp; omega)).trans k1
          go_wp2_with fail
          refine (h2 _).mono ?_
          rintro e w2 ⟨rfl, hb2⟩
          have m0 : w2.cell? ⟨w1.heap.size, 0, none⟩ = some (.int .i64 (a + 1)) := (hb2.cell (by simp)).trans (by go_simp)
          have m1 : w2.cell? ⟨w1.heap.size, 1, none⟩ = some (.int .i64 (0)) := (hb2.cell (by simp)).trans (by go_simp)
          have m2 : w2.cell? ⟨w.heap.size + 1, 0, none⟩ = some (.int .i64 0) := ((hb2.cell (by simp; omega)).trans (World.cell?_alloc_lt _ _ _ (by simp; omega))).trans k2
          have m3 : w2.cell? ⟨w.heap.size + 1, 1, none⟩ = some (.int .i64 0) := ((hb2.cell (by simp; omega)).trans (World.cell?_alloc_lt _ _ _ (by simp; omega))).trans k3
          have e2 : w2.frozen? ⟨w.heap.size + 1, 0, none⟩ = false := ((hb2.frozen (by simp; omega)).trans (frozen_alloc_lt (by simp; omega))).trans f2
          have e3 : w2.frozen? ⟨w.heap.size + 1, 1, none⟩ = false := ((hb2.frozen (by simp; omega)).trans (frozen_alloc_lt (by simp; omega))).trans f3
          have R2 := hide (((unhide R).alloc (by omega) _).trans (hb2.mono (by simp; omega)))
          clear hb2 g0 g1 k0 k1 k2 k3 f2 f3
          go_wp2
          obtain ⟨c0, c1⟩ := set2 w2 (w.heap.size + 1) _ _ (.int .i64 (a + 1)) (.int .i64 (0)) m2 m3
          refine bodyPost_ret (results_stp2 Try.results67 rfl rfl c0 c1) rfl ?_
          exact ⟨rfl, ((unhide R2).setCell (by simp) _).setCell (by simp) _⟩
        · rw [n3 rfl hb ha]
          have h2 := fun w => right_any (a + 1) 0 w
          rw [r2 ha] at h2
          clear n1 n2 n3 n4 r r1 r2 r3 hx
          have hbb : (b == 65535) = true := by simpa using hb
          clear hb
          go_enter Try.func67, Try.ntmps67
          go_wp2_with fail
          refine (h1 _).mono ?_
          rintro e w1 ⟨rfl, hb1⟩
          have k0 : w1.cell? ⟨w.heap.size, 0, none⟩ = some (.int .i64 a) := (hb1.cell (by simp; omega)).trans (by go_simp)
          have k1 : w1.cell? ⟨w.heap.size, 1, none⟩ = some (.int .i64 b) := (hb1.cell (by simp; omega)).trans (by go_simp)
          have k2 : w1.cell? ⟨w.heap.size + 1, 0, none⟩ = some (.int .i64 0) := (hb1.cell (by simp)).trans (by go_simp)
          have k3 : w1.cell? ⟨w.heap.size + 1, 1, none⟩ = some (.int .i64 0) := (hb1.cell (by simp)).trans (by go_simp)
          have f2 : w1.frozen? ⟨w.heap.size + 1, 0, none⟩ = false := (hb1.frozen (by simp)).trans (by go_simp)
          have f3 : w1.frozen? ⟨w.heap.size + 1, 1, none⟩ = false := (hb1.frozen (by simp)).trans (by go_simp)
          have hsz : w.heap.size + 1 + 1 ≤ w1.heap.size := by have := hb1.size; simpa using this
          have R := hide (hB.trans (hb1.mono (by simp; omega)))
          clear hb1 hB
          have g0 : ∀ o, (w1.alloc o).cell? ⟨w.heap.size, 0, none⟩ = some (.int .i64 a) := fun o => (World.cell?_alloc_lt _ _ _ (by simp; omega)).trans k0
          have g1 : ∀ o, (w1.alloc o).cell? ⟨w.heap.size, 1, none⟩ = some (.int .i64 b) := fun o => (World.cell?_alloc_lt _ _ _ (by simp; omega)).trans k1
          go_wp2_with fail
          refine (h2 _).mono ?_
          rintro e w2 ⟨rfl, hb2⟩
          have m0 : w2.cell? ⟨w1.heap.size, 0, none⟩ = some (.int .i64 (a + 1)) := (hb2.cell (by simp)).trans (by go_simp)
          have m1 : w2.cell? ⟨w1.heap.size, 1, none⟩ = some (.int .i64 (0)) := (hb2.cell (by simp)).trans (by go_simp)
          have m2 : w2.cell? ⟨w.heap.size + 1, 0, none⟩ = some (.int .i64 0) := ((hb2.cell (by simp; omega)).trans (World.cell?_alloc_lt _ _ _ (by simp; omega))).trans k2
          have m3 : w2.cell? ⟨w.heap.size + 1, 1, none⟩ = some (.int .i64 0) := ((hb2.cell (by simp; omega)).trans (World.cell?_alloc_lt _ _ _ (by simp; omega))).trans k3
          have e2 : w2.frozen? ⟨w.heap.size + 1, 0, none⟩ = false := ((hb2.frozen (by simp; omega)).trans (frozen_alloc_lt (by simp; omega))).trans f2
          have e3 : w2.frozen? ⟨w.heap.size + 1, 1, none⟩ = false := ((hb2.frozen (by simp; omega)).trans (frozen_alloc_lt (by simp; omega))).trans f3
          have R2 := hide (((unhide R).alloc (by omega) _).trans (hb2.mono (by simp; omega)))
          clear hb2 g0 g1 k0 k1 k2 k3 f2 f3
          go_wp2
          obtain ⟨c0, c1⟩ := set2 w2 (w.heap.size + 1) _ _ (.int .i64 (0)) (.int .i64 (0)) m2 m3
          refine bodyPost_ret (results_stp2 Try.results67 rfl rfl c0 c1) rfl ?_
          exact ⟨rfl, ((unhide R2).setCell (by simp) _).setCell (by simp) _⟩
      · rw [n4 rfl hb]
        have h2 := fun w => right_any a (b + 1) w
        rw [r3 ra rb rc rd hb] at h2
        clear n1 n2 n3 n4 r r1 r2 r3 hx
        have hbb : (b == 65535) = false := by simpa using hb
        clear hb
        go_enter Try.func67, Try.ntmps67
        go_wp2_with fail
        refine (h1 _).mono ?_
        rintro e w1 ⟨rfl, hb1⟩
        have k0 : w1.cell? ⟨w.heap.size, 0, none⟩ = some (.int .i64 a) := (hb1.cell (by simp; omega)).trans (by go_simp)
        have k1 : w1.cell? ⟨w.heap.size, 1, none⟩ = some (.int .i64 b) := (hb1.cell (by simp; omega)).trans (by go_simp)
        have k2 : w1.cell? ⟨w.heap.size + 1, 0, none⟩ = some (.int .i64 0) := (hb1.cell (by simp)).trans (by go_simp)
        have k3 : w1.cell? ⟨w.heap.size + 1, 1, none⟩ = some (.int .i64 0) := (hb1.cell (by simp)).trans (by go_simp)
        have f2 : w1.frozen? ⟨w.heap.size + 1, 0, none⟩ = false := (hb1.frozen (by simp)).trans (by go_simp)
        have f3 : w1.frozen? ⟨w.heap.size + 1, 1, none⟩ = false := (hb1.frozen (by simp)).trans (by go_simp)
        have hsz : w.heap.size + 1 + 1 ≤ w1.heap.size := by have := hb1.size; simpa using this
        have R := hide (hB.trans (hb1.mono (by simp; omega)))
        clear hb1 hB
        have g0 : ∀ o, (w1.alloc o).cell? ⟨w.heap.size, 0, none⟩ = some (.int .i64 a) := fun o => (World.cell?_alloc_lt _ _ _ (by simp; omega)).trans k0
        have g1 : ∀ o, (w1.alloc o).cell? ⟨w.heap.size, 1, none⟩ = some (.int .i64 b) := fun o => (World.cell?_alloc_lt _ _ _ (by simp; omega)).trans k1
        go_wp2_with fail
        refine (h2 _).mono ?_
        rintro e w2 ⟨rfl, hb2⟩
        have m0 : w2.cell? ⟨w1.heap.size, 0, none⟩ = some (.int .i64 (a)) := (hb2.cell (by simp)).trans (by go_simp)
        have m1 : w2.cell? ⟨w1.heap.size, 1, none⟩ = some (.int .i64 (b + 1)) := (hb2.cell (by simp)).trans (by go_simp)
        have m2 : w2.cell? ⟨w.heap.size + 1, 0, none⟩ = some (.int .i64 0) := ((hb2.cell (by simp; omega)).trans (World.cell?_alloc_lt _ _ _ (by simp; omega))).trans k2
        have m3 : w2.cell? ⟨w.heap.size + 1, 1, none⟩ = some (.int .i64 0) := ((hb2.cell (by simp; omega)).trans (World.cell?_alloc_lt _ _ _ (by simp; omega))).trans k3
        have e2 : w2.frozen? ⟨w.heap.size + 1, 0, none⟩ = false := ((hb2.frozen (by simp; omega)).trans (frozen_alloc_lt (by simp; omega))).trans f2
        have e3 : w2.frozen? ⟨w.heap.size + 1, 1, none⟩ = false := ((hb2.frozen (by simp; omega)).trans (frozen_alloc_lt (by simp; omega))).trans f3
        have R2 := hide (((unhide R).alloc (by omega) _).trans (hb2.mono (by simp; omega)))
        clear hb2 g0 g1 k0 k1 k2 k3 f2 f3
        go_wp2
        obtain ⟨c0, c1⟩ := set2 w2 (w.heap.size + 1) _ _ (.int .i64 (a)) (.int .i64 (b + 1)) m2 m3
        refine bodyPost_ret (results_stp2 Try.results67 rfl rfl c0 c1) rfl ?_
        exact ⟨rfl, ((unhide R2).setCell (by simp) _).setCell (by simp) _⟩
  exact main _ rfl
end

end Go.Proofs.Ytcdehnghggleoaa

/-
  Of the order of stamps, as numbers. No law is proved here.
-/
namespace Go.Proofs.Ytcdehnghggleoaa
open Go.RowKit
set_option linter.unusedVariables false

theorem less_iff (a b c d : Int) : lessB a b c d = true ↔ (a < c ∨ a = c ∧ b < d) := by
  unfold lessB cmpS orI cmpI
  simp
  split <;> (try split) <;> (try split) <;> (try split) <;> omega

theorem less_not (a b c d : Int) : lessB a b c d = false ↔ ¬ (a < c ∨ a = c ∧ b < d) := by
  rw [← less_iff]; simp

theorem right_iff (a b : Int) : rightB a b = true ↔ (0 ≤ a ∧ a ≤ 1099511627776 ∧ 0 ≤ b ∧ b ≤ 65535) := by
  unfold rightB; simp; omega

theorem right_not (a b : Int) : rightB a b = false ↔ ¬ (0 ≤ a ∧ a ≤ 1099511627776 ∧ 0 ≤ b ∧ b ≤ 65535) := by
  rw [← right_iff]; simp

theorem cmpS_lt {a b c d : Int} (h : a < c ∨ a = c ∧ b < d) : cmpS a b c d = -1 := by
  unfold cmpS orI cmpI
  split <;> (try split) <;> (try split) <;> (try split) <;> omega
theorem cmpS_gt {a b c d : Int} (h : c < a ∨ c = a ∧ d < b) : cmpS a b c d = 1 := by
  unfold cmpS orI cmpI
  split <;> (try split) <;> (try split) <;> (try split) <;> omega
theorem cmpS_same (a b : Int) : cmpS a b a b = 0 := by
  unfold cmpS orI cmpI
  simp

theorem ne_pair {a b c d : Int} (h : ¬ (a = c ∧ b = d)) : (a == c && b == d) = false := by
  rw [Bool.eq_false_iff]
  simpa using h

theorem nxt_cases (a b : Int) : (rightB a b = false ∧ nxt a b = (0, 0, 31)) ∨ (rightB a b = true ∧ a = 1099511627776 ∧ nxt a b = (0, 0, 31)) ∨
    (rightB a b = true ∧ ∃ x y, nxt a b = (x, y, 0) ∧ rightB x y = true ∧ lessB a b x y = true ∧ ∀ c d, rightB c d = true → lessB a b c d = true → lessB c d x y = false) := by
  cases h : rightB a b
  · exact .inl ⟨rfl, by unfold nxt; rw [h]; rfl⟩
  · have hr := (right_iff a b).1 h
    by_cases hb : b = 65535
    · by_cases ha : a < 1099511627776
      · refine .inr (.inr ⟨rfl, a + 1, 0, by unfold nxt; rw [if_pos h, if_pos hb, if_pos ha], (right_iff _ _).2 (by omega), (less_iff _ _ _ _).2 (by omega), fun c d h1 h2 => (less_not _ _ _ _).2 ?_⟩)
        have h1 := (right_iff _ _).1 h1
        have h2 := (less_iff _ _ _ _).1 h2
        omega
      · exact .inr (.inl ⟨rfl, by omega, by unfold nxt; rw [if_pos h, if_pos hb, if_neg ha]⟩)
    · refine .inr (.inr ⟨rfl, a, b + 1, by unfold nxt; rw [if_pos h, if_neg hb], (right_iff _ _).2 (by omega), (less_iff _ _ _ _).2 (by omega), fun c d h1 h2 => (less_not _ _ _ _).2 ?_⟩)
      have h1 := (right_iff _ _).1 h1
      have h2 := (less_iff _ _ _ _).1 h2
      omega

end Go.Proofs.Ytcdehnghggleoaa

/-
  Contracts of the document's own answers for stamps: Less, Right, Max, Next, Plus. No law is proved here.
-/
namespace Go.Proofs.Ytcdehnghggleoaa
open Go.RowKit
set_option linter.unusedVariables false

section
set_option maxRecDepth 100000

set_option maxHeartbeats 1000000 in
theorem refright_any (a b : Int) (w : World) : Calls Try.prog 23 #[.agg #[.int .i64 a, .int .i64 b]] w fun e w' => e = .returned (.bool (rightB a b)) ∧ Below w.heap.size w w' := by
  by_cases h1 : a < 0
  · rw [(right_not a b).2 (by omega)]
    go_enter Try.func23, Try.ntmps23
    go_wp2
    go_ret
    exact ⟨rfl, by go_grown⟩
  · have h1' : 0 ≤ a := by omega
    by_cases h2 : 1099511627776 < a
    · rw [(right_not a b).2 (by omega)]
      go_enter Try.func23, Try.ntmps23
      go_wp2
      go_ret
      exact ⟨rfl, by go_grown⟩
    · have h2' : a ≤ 1099511627776 := by omega
      by_cases h3 : b < 0
      · rw [(right_not a b).2 (by omega)]
        go_enter Try.func23, Try.ntmps23
        go_wp2
        go_ret
        exact ⟨rfl, by go_grown⟩
      · have h3' : 0 ≤ b := by omega
        by_cases h4 : 65535 < b
        · rw [(right_not a b).2 (by omega)]
          go_enter Try.func23, Try.ntmps23
          go_wp2
          go_ret
          refine ⟨?_, by go_grown⟩
          first | rfl | (simp; omega)
        · have h4' : b ≤ 65535 := by omega
          rw [(right_iff a b).2 (by omega)]
          go_enter Try.func23, Try.ntmps23
          go_wp2
          go_ret
          exact ⟨rfl, by go_grown⟩

end

end Go.Proofs.Ytcdehnghggleoaa

/-
  What the laws of chains ask, by lists: what is written is seen; once; what was stays; right stays. Of no program. No law is proved here.
-/
namespace Go.Proofs.Ytcdehnghggleoaa
set_option linter.unusedVariables false

/-- Behind a write the intent is there, at its stamp, which is right and above the last version's. -/
theorem writeC_there {c x : Chn} {i : Itn} {a : Stp} {m : Met} (hr : rightC c) (h : writeC c i = (x, a, m, 0)) :
    x.vs = c.vs ∧ x.opn = true ∧ x.itn.txn.id = i.txn.id ∧ x.itn.txn.ep = i.txn.ep ∧ i.seq ≤ x.itn.seq ∧ x.itn.at_ = a ∧ okS a = true ∧ (∀ s, lastS c.vs = some s → ltB s a = true) ∧ ∀ v ∈ c.vs, v.by_ ≠ i.txn.id := by
  obtain ⟨_, hid, hby, hx⟩ := writeC_ok h
  rcases hx with ⟨rfl, rfl, h1, h2, h3⟩ | ⟨h1, h2, rfl⟩
  · have := hr.2.1 h1
    exact ⟨rfl, h1, hid h1, h2, h3, rfl, this.1, this.2, hby⟩
  · exact ⟨rfl, rfl, rfl, rfl, Int.le_refl _, rfl, h2, (atC_above h1).2.1, hby⟩

/-- Laid again it is as it was. -/
theorem writeC_again {c x : Chn} {i : Itn} {a : Stp} {m : Met} (hr : rightC c) (h : writeC c i = (x, a, m, 0)) : writeC x i = (x, a, Met.zero, 0) := by
  obtain ⟨h1, h2, h3, h4, h5, h6, _, _, h9⟩ := writeC_there hr h
  unfold writeC
  rw [if_neg (fun k => k.2 h3), if_neg, if_neg (fun k => by have := k.2; omega), if_pos ⟨h2, h4, h5⟩, h6]
  rw [h1]
  intro k
  obtain ⟨v, hv, e⟩ := List.any_eq_true.1 k
  exact h9 v hv (by simpa using e)

/-- Decided, to commit. -/
theorem resolveC_commit {x : Chn} {id ep : Int} {a : Stp} (h1 : x.opn = true) (h2 : x.itn.txn.id = id) (h3 : x.itn.txn.ep = ep) (h4 : okS a = true) (h5 : ∀ s, lastS x.vs = some s → ltB s a = true) :
    resolveC x id ep true a = (⟨x.vs ++ [⟨a, x.itn.val, x.itn.gone, id⟩], false, Itn.zero⟩, 0) := by
  unfold resolveC
  rw [if_neg (fun k => by
    rcases k with k | k
    · rw [h1] at k; cases k
    · exact k h2), if_neg (fun k => by cases k.1), if_pos ⟨rfl, h3⟩, if_pos ⟨h4, h5⟩]

/-- Decided, not to commit. -/
theorem resolveC_drop {x : Chn} {id ep : Int} {a : Stp} (h1 : x.opn = true) (h2 : x.itn.txn.id = id) (h3 : x.itn.txn.ep = ep) :
    resolveC x id ep false a = (⟨x.vs, false, Itn.zero⟩, 0) := by
  unfold resolveC
  rw [if_neg (fun k => by
    rcases k with k | k
    · rw [h1] at k; cases k
    · exact k h2), if_neg (fun k => by have := k.2; omega), if_neg (fun k => by cases k.1)]

/-- Decided already: nothing changes. -/
theorem resolveC_closed {x : Chn} (id ep : Int) (commit : Bool) (a : Stp) (h : x.opn = false) : resolveC x id ep commit a = (x, 0) := by
  unfold resolveC
  rw [if_pos (.inl h)]

/-- A transaction that has a version lays none. -/
theorem writeC_done {vs : List Ver} {i : Itn} {v : Ver} (hv : v ∈ vs) (hb : v.by_ = i.txn.id) : writeC ⟨vs, false, Itn.zero⟩ i = (Chn.zero, (0, 0), Met.zero, 83) := by
  unfold writeC
  rw [if_neg (fun k => by cases k.1), if_pos (List.any_eq_true.2 ⟨v, hv, by simp [hb]⟩)]

/-- Read by its own transaction, at its epoch. -/
theorem readC_own {x : Chn} {id ep : Int} {a l : Stp} (h1 : x.opn = true) (h2 : x.itn.txn.id = id) (h3 : x.itn.txn.ep = ep) (h4 : x.itn.gone = false) : readC x a l id ep = (⟨x.itn.at_, x.itn.val, false, id⟩, true, Met.zero, 0) := by
  unfold readC
  rw [if_pos ⟨h1, h2, h3⟩, if_neg (by rw [h4]; simp)]

/-- Told to another one, up to its stamp. -/
theorem readC_other {x : Chn} {id ep : Int} {a l : Stp} (h1 : x.opn = true) (h2 : x.itn.txn.id ≠ id) (h3 : upB x.itn.at_ l = true) : readC x a l id ep = (Ver.zero, false, x.itn.txn, 81) := by
  unfold readC
  rw [if_neg (fun k => h2 k.2.1), if_pos ⟨h1, h2, h3⟩]

theorem seenV_last (vs : List Ver) (v : Ver) (a : Stp) (h : upB v.at_ a = true) (hg : v.gone = false) : seenV (vs ++ [v]) a = (v, true, Met.zero, 0) := by
  unfold seenV
  rw [bestV_snoc, if_pos h]
  simp only
  rw [if_neg (by rw [hg]; simp)]

/-- A chain that nobody wrote at a stamp, or below, since, and that somebody else may have an intent in, above it. -/
def Quiet (c : Chn) (a : Stp) : Prop := c.opn = true → c.itn.txn.id ≠ -1 ∧ upB c.itn.at_ a = false

theorem quiet_read {c : Chn} {a : Stp} (h : Quiet c a) : readC c a a (-1) 0 = seenV c.vs a := readC_self h

theorem not_up {a b : Stp} (h : ltB a b = true) : upB b a = false := by
  rw [ltB_iff] at h
  rw [upB_not]
  exact h

theorem quiet_write {c x : Chn} {i : Itn} {a b : Stp} {m : Met} (hq : Quiet c a) (hi : ltB a i.at_ = true) (hid : i.txn.id ≠ -1) (h : writeC c i = (x, b, m, 0)) : Quiet x a ∧ x.vs = c.vs := by
  obtain ⟨_, hid', _, hx⟩ := writeC_ok h
  rcases hx with ⟨rfl, rfl, h1, h2, h3⟩ | ⟨h1, h2, rfl⟩
  · exact ⟨hq, rfl⟩
  · exact ⟨fun _ => ⟨hid, not_up (lt_up hi (atC_above h1).1)⟩, rfl⟩

theorem quiet_resolve {c x : Chn} {id ep : Int} {commit : Bool} {a b : Stp} (hq : Quiet c a) (hb : ltB a b = true) (h : resolveC c id ep commit b = (x, 0)) : Quiet x a ∧ seenV x.vs a = seenV c.vs a := by
  rcases resolveC_ok h with ⟨rfl, _⟩ | ⟨_, _, ⟨_, _, _, _, rfl⟩ | ⟨_, rfl⟩⟩
  · exact ⟨hq, rfl⟩
  · exact ⟨fun h => (by cases h), seenV_snoc _ _ _ hb⟩
  · exact ⟨fun h => (by cases h), rfl⟩

/-- Behind a write the versions are as they were; behind a decision there may be one more, which is the intent's that was there, and then none is open. -/
theorem writeC_vs {c x : Chn} {i : Itn} {a : Stp} {m : Met} (h : writeC c i = (x, a, m, 0)) : x.vs = c.vs := by
  obtain ⟨_, _, _, hx⟩ := writeC_ok h
  rcases hx with ⟨rfl, _⟩ | ⟨_, _, rfl⟩ <;> rfl

theorem resolveC_vs {c x : Chn} {id ep : Int} {commit : Bool} {a : Stp} (h : resolveC c id ep commit a = (x, 0)) : x.vs = c.vs ∨ (c.opn = true ∧ x.opn = false ∧ ∃ v, x.vs = c.vs ++ [v] ∧ v.by_ = c.itn.txn.id) := by
  rcases resolveC_ok h with ⟨rfl, _⟩ | ⟨h1, h2, ⟨_, _, _, _, rfl⟩ | ⟨_, rfl⟩⟩
  · exact .inl rfl
  · exact .inr ⟨h1, rfl, _, rfl, h2.symm⟩
  · exact .inl rfl

end Go.Proofs.Ytcdehnghggleoaa

/-
  Versions and chains as they lie in memory. No law is proved here.
-/
namespace Go.Proofs.Ytcdehnghggleoaa
open Go.RowKit
set_option linter.unusedVariables false

/-- The block B has these cells, and may be written. -/
structure Blk (w : World) (B : Nat) (cs : List Value) : Prop where
  c : ∀ j, w.cell? ⟨B, j, none⟩ = cs[j]?
  f : ∀ j, w.frozen? ⟨B, j, none⟩ = false
  lt : B < w.heap.size

theorem Blk.below {w w' : World} {B C : Nat} {cs : List Value} (h : Blk w B cs) (hb : Below C w w') (hC : B < C) : Blk w' B cs :=
  ⟨fun j => (hb.cell (p := ⟨B, j, none⟩) hC).trans (h.c j), fun j => (hb.frozen (p := ⟨B, j, none⟩) hC).trans (h.f j), Nat.lt_of_lt_of_le h.lt hb.size⟩
theorem Blk.later {w w' : World} {B : Nat} {cs : List Value} (h : Blk w B cs) (hb : Below w.heap.size w w') : Blk w' B cs := h.below hb h.lt
theorem Blk.alloc {w : World} {B : Nat} {cs : List Value} (h : Blk w B cs) (o : Obj) : Blk (w.alloc o) B cs := h.later ((Below.refl _ _).alloc (Nat.le_refl _) o)
theorem Blk.new (w : World) (cs : Array Value) (t : TypeId) : Blk (w.alloc (.cells cs t)) w.heap.size cs.toList :=
  ⟨fun j => by simp, fun j => by simp, by simp⟩
theorem Blk.other {w : World} {B : Nat} {cs : List Value} (h : Blk w B cs) {q : Addr} (hq : q.block ≠ B) (v : Value) : Blk (w.setCell q v) B cs := by
  have n : ∀ k, q ≠ ⟨B, k, none⟩ := fun k e => hq (by rw [e])
  exact ⟨fun j => (World.cell?_setCell_other w _ _ _ (n j)).trans (h.c j), fun j => by simpa using h.f j, by simpa [World.setCell] using h.lt⟩
theorem Blk.set {w : World} {B : Nat} {cs : List Value} (h : Blk w B cs) (k : Nat) (hk : k < cs.length) (v : Value) : Blk (w.setCell ⟨B, k, none⟩ v) B (cs.set k v) := by
  refine ⟨fun j => ?_, fun j => by simpa using h.f j, by simpa [World.setCell] using h.lt⟩
  by_cases e : j = k
  · subst e
    rw [World.cell?_setCell_same w _ _ ((h.c j).trans (List.getElem?_eq_getElem hk)), List.getElem?_set_self hk]
  · rw [World.cell?_setCell_other w _ _ _ (fun h => e (by injection h with _ h; exact h.symm)), h.c j]
    rw [List.getElem?_set_ne (by omega)]

/-- Cells of block B, one behind the other from k on, written. -/
def setAll (w : World) (B : Nat) : Nat → List Value → World
  | _, [] => w
  | k, c :: r => setAll (w.setCell ⟨B, k, none⟩ c) B (k + 1) r

theorem setAll_size (B : Nat) : ∀ (r : List Value) (w : World) (k : Nat), (setAll w B k r).heap.size = w.heap.size
  | [], w, k => rfl
  | c :: r, w, k => by rw [setAll, setAll_size B r]; simp [World.setCell]

theorem Blk.setAll_at {B : Nat} : ∀ (r : List Value) (w : World) (p q : List Value) (k : Nat), Blk w B (p ++ q) → p.length = k → r.length = q.length → Blk (setAll w B k r) B (p ++ r)
  | [], w, p, q, k, h, hp, hq => by
    have : q = [] := List.eq_nil_of_length_eq_zero (by simpa using hq.symm)
    subst this
    exact h
  | c :: r, w, p, q, k, h, hp, hq => by
    match q, hq with
    | d :: q, hq =>
      have h1 := h.set k (by simp; omega) c
      have e : (p ++ d :: q).set k c = p ++ c :: q := by
        subst hp
        simp
      rw [e] at h1
      have := Blk.setAll_at r (w.setCell ⟨B, k, none⟩ c) (p ++ [c]) q (k + 1) (by simpa using h1) (by simp; omega) (by simpa using hq)
      rw [setAll]
      simpa using this
theorem Blk.all {w : World} {B : Nat} {cs : List Value} (h : Blk w B cs) (r : List Value) (hr : r.length = cs.length) : Blk (setAll w B 0 r) B r :=
  Blk.setAll_at r w [] cs 0 h rfl hr
theorem Blk.others {B C : Nat} (hn : B ≠ C) : ∀ (r : List Value) {w : World} {cs : List Value} (k : Nat), Blk w B cs → Blk (setAll w C k r) B cs
  | [], w, cs, k, h => h
  | c :: r, w, cs, k, h => by rw [setAll]; exact Blk.others hn r (k + 1) (h.other (fun e => hn e.symm) c)
theorem below_setAll {B C : Nat} {w : World} (hB : B ≤ C) : ∀ (r : List Value) {w1 : World} (k : Nat), Below B w w1 → Below B w (setAll w1 C k r)
  | [], w1, k, h => h
  | c :: r, w1, k, h => by rw [setAll]; exact below_setAll hB r (k + 1) (h.setCell (p := ⟨C, k, none⟩) hB c)

/-- A version lies behind an address. -/
structure VAt (w : World) (b o : Nat) (v : Ver) : Prop where
  c0 : w.cell? ⟨b, o, none⟩ = some (.int .i64 v.at_.1)
  c1 : w.cell? ⟨b, o + 1, none⟩ = some (.int .i64 v.at_.2)
  c2 : w.cell? ⟨b, o + 2, none⟩ = some (.string v.val)
  c3 : w.cell? ⟨b, o + 3, none⟩ = some (.bool v.gone)
  c4 : w.cell? ⟨b, o + 4, none⟩ = some (.int .i64 v.by_)

theorem VAt.lt {w : World} {b o : Nat} {v : Ver} (h : VAt w b o v) : b < w.heap.size := World.block_lt_of_cell? w _ h.c0
theorem VAt.block {w w' : World} {b o : Nat} {v : Ver} (h : VAt w b o v) (hk : w'.heap[b]? = w.heap[b]?) : VAt w' b o v :=
  ⟨(World.cell?_of_block (w := w) hk).trans h.c0, (World.cell?_of_block (w := w) hk).trans h.c1, (World.cell?_of_block (w := w) hk).trans h.c2, (World.cell?_of_block (w := w) hk).trans h.c3, (World.cell?_of_block (w := w) hk).trans h.c4⟩

/-- The versions of a slice, as they lie in memory. -/
structure Vs (w : World) (ao : Option Addr) (c : Nat) (vs : List Ver) : Prop where
  le : vs.length ≤ c
  cm : c ≤ maxLen
  nil : ao = none → c = 0
  each : ∀ i (h : i < vs.length), ∃ b o, ao = some ⟨b, o, none⟩ ∧ VAt w b (o + i * 5) vs[i]

theorem Vs.zero (w : World) : Vs w none 0 [] := ⟨Nat.le_refl _, Nat.zero_le _, fun _ => rfl, fun i h => absurd h (Nat.not_lt_zero _)⟩
theorem Vs.kept {w w' : World} {ao : Option Addr} {c : Nat} {vs : List Ver} (h : Vs w ao c vs) (hk : ∀ b o, ao = some ⟨b, o, none⟩ → b < w.heap.size → w'.heap[b]? = w.heap[b]?) : Vs w' ao c vs :=
  ⟨h.le, h.cm, h.nil, fun i hi => by
    obtain ⟨b, o, e, hv⟩ := h.each i hi
    exact ⟨b, o, e, hv.block (hk b o e hv.lt)⟩⟩
theorem Vs.below {w w' : World} {C : Nat} {ao : Option Addr} {c : Nat} {vs : List Ver} (h : Vs w ao c vs) (hb : Below C w w') (hC : w.heap.size ≤ C) : Vs w' ao c vs :=
  h.kept fun b o _ hl => hb.block b (by omega)
theorem Vs.later {w w' : World} {ao : Option Addr} {c : Nat} {vs : List Ver} (h : Vs w ao c vs) (hb : Below w.heap.size w w') : Vs w' ao c vs := h.below hb (Nat.le_refl _)
theorem Vs.alloc {w : World} {ao : Option Addr} {c : Nat} {vs : List Ver} (h : Vs w ao c vs) (o : Obj) : Vs (w.alloc o) ao c vs := h.later ((Below.refl _ _).alloc (Nat.le_refl _) o)
theorem Vs.len {w : World} {ao : Option Addr} {c : Nat} {vs : List Ver} (h : Vs w ao c vs) : vs.length ≤ maxLen := Nat.le_trans h.le h.cm
/-- A slice of a part of it. -/
theorem Vs.take {w : World} {ao : Option Addr} {c : Nat} {vs : List Ver} (h : Vs w ao c vs) (k : Nat) (hk : k ≤ vs.length) : Vs w ao c (vs.take k) :=
  ⟨by rw [List.length_take]; have := h.le; omega, h.cm, h.nil, fun i hi => by
    rw [List.length_take] at hi
    obtain ⟨b, o, e, hv⟩ := h.each i (by omega)
    exact ⟨b, o, e, by rw [List.getElem_take]; exact hv⟩⟩

/-- Drawing changes no memory. -/
theorem bdn {B : Nat} {a w : World} (h : Below B a w) (n : Nat) : Below B a (w.drewN n) := h.trans ⟨rfl, rfl, rfl, Nat.le_refl _, fun _ _ => rfl⟩

theorem less_eq (a b : Stp) : lessB a.1 a.2 b.1 b.2 = ltB a b := by
  rw [Bool.eq_iff_iff, less_iff, ltB_iff]
theorem right_eq (a : Stp) : rightB a.1 a.2 = okS a := by
  unfold okS
  rw [Bool.eq_iff_iff, right_iff]; simp
theorem nxt_eq (a : Stp) : nxt a.1 a.2 = (match nextS a with | some n => (n.1, n.2, 0) | none => (0, 0, 31)) := by
  unfold nxt nextS
  rw [right_eq]
  split
  · split
    · split <;> rfl
    · rfl
  · rfl

end Go.Proofs.Ytcdehnghggleoaa

/-
  A store as it lies in memory. No law is proved here.
-/
namespace Go.Proofs.Ytcdehnghggleoaa
open Go.RowKit Go.Maps
set_option linter.unusedVariables false

/-- An element of the map, as it is. -/
def rv (v : Value) : Option (DataW Value × List MemPlace) := some (.held v, [])
abbrev keyL (k : ByteArray) : Lit := .string k.data.toList
theorem keyL_inj {a b : ByteArray} (h : keyL a = keyL b) : a = b := by
  injection h with h
  exact ByteArray.ext (Array.toList_inj.1 h)
abbrev chV (ao : Option Addr) (cap : Nat) (c : Chn) : Value := (.agg #[.slice ao c.vs.length cap, .bool c.opn, .int .i64 c.itn.txn.id, .int .i64 c.itn.txn.ep, .string c.itn.txn.anchor, .int .i64 c.itn.txn.start.1, .int .i64 c.itn.txn.start.2, .int .i64 c.itn.seq, .int .i64 c.itn.at_.1, .int .i64 c.itn.at_.2, .string c.itn.val, .bool c.itn.gone])
abbrev Ent.v (e : Ent) : Value := chV e.ao e.cap e.c
/-- The map's reading. -/
def DL (l : List Ent) : DataW Value := .map (l.map fun e => (keyL e.key, .held e.v))

theorem keyed : Keyed Try.prog 9 := string_keyed Try.underlying9
theorem keyOf_s {k : ByteArray} (h : k.size ≤ maxLen) : keyOf Try.prog 9 (.string k) = some (keyL k) := Go.WideMaps.keyOf_string_mk Try.underlying9 h
theorem isKeyLit (k : ByteArray) : WideAt.IsKeyLit (keyL k) := trivial

theorem same_s (a b : ByteArray) : (keyL a).sameKey (keyL b) = decide (a = b) := by
  by_cases h : a = b
  · subst h; simp [Lit.sameKey]
  · rw [sameKey_ne (fun e => h (keyL_inj e))]; simp [h]

theorem find_map {l : List Ent} (k : ByteArray) : (l.map fun e => (keyL e.key, DataW.held e.v)).find? (fun p => p.1.sameKey (keyL k)) = (getE l k).map fun e => (keyL e.key, DataW.held e.v) := by
  induction l with
  | nil => rfl
  | cons e r ih =>
    rw [List.map_cons, List.find?_cons, getE_cons]
    simp only [same_s]
    by_cases h : e.key = k
    · simp [h]
    · simp [h, ih]

theorem has_DL (l : List Ent) (k : ByteArray) : has (DL l) (keyL k) = (getE l k).isSome := by
  have h := find_map (l := l) k
  unfold DL
  rw [has_eq, Bool.eq_iff_iff, List.any_eq_true, ← List.find?_isSome, h]
  cases getE l k <;> simp
theorem at_DL (l : List Ent) (k : ByteArray) (z : DataW Value) : (DL l).atKey (keyL k) z = match getE l k with | some e => .held e.v | none => z := by
  have h := find_map (l := l) k
  unfold DL DataW.atKey
  simp only [h]
  cases getE l k <;> rfl
theorem has_DL_other (l : List Ent) (kl : Lit) (h : has (DL l) kl = true) : ∃ e ∈ l, kl = keyL e.key := by
  obtain ⟨p, hp, hs⟩ := List.any_eq_true.1 h
  obtain ⟨e, he, rfl⟩ := List.mem_map.1 hp
  exact ⟨e, he, (WideAt.sameKey_eq hs).symm⟩

theorem before_s {a b : ByteArray} (h : S5.L a b) : (keyL a).before (keyL b) = true := by
  have h' : S5.ltB a b = true := h
  unfold S5.ltB at h'
  rw [ByteArray.toList_eq, ByteArray.toList_eq] at h'
  show bytesBefore a.data.toList b.data.toList = true
  have key : ∀ x y : List UInt8, Op.bytesLess x y = bytesBefore x y := by
    intro x
    induction x with
    | nil => intro y; cases y <;> rfl
    | cons p r ih =>
      intro y
      cases y with
      | nil => rfl
      | cons q s => simp only [Op.bytesLess, bytesBefore, ih]
  rw [← key]
  exact h'
theorem canon_DL {l : List Ent} (h : riseE l) : Canon (DL l) := by
  refine ⟨_, rfl, ?_, fun p hp => ?_⟩
  · exact List.pairwise_map.2 (h.imp fun q => before_s q)
  · obtain ⟨e, _, rfl⟩ := List.mem_map.1 hp
    exact isKeyLit _

/-- What is laid at a key. -/
theorem put_DL {l : List Ent} (h : riseE l) (x : Ent) (hc : Canon ((DL l).put (keyL x.key) (.held x.v))) : (DL l).put (keyL x.key) (.held x.v) = DL (setE l x) := by
  have hm : IsMap (DL l) := ⟨_, rfl⟩
  have hs : ∀ kl, has ((DL l).put (keyL x.key) (.held x.v)) kl = has (DL (setE l x)) kl := fun kl => by
    by_cases e : kl = keyL x.key
    · subst e
      rw [has_put_same hm (isKeyLit _), has_DL, getE_setE h]
      simp
    · rw [has_put_other e]
      rw [Bool.eq_iff_iff]
      constructor
      · intro hk
        obtain ⟨z, hz, rfl⟩ := has_DL_other _ _ hk
        rw [has_DL, getE_setE h, if_neg (fun e' => e (by rw [e']))]
        rw [has_DL] at hk
        exact hk
      · intro hk
        obtain ⟨z, hz, rfl⟩ := has_DL_other _ _ hk
        rw [has_DL, getE_setE h, if_neg (fun e' => e (by rw [e']))] at hk
        rw [has_DL]
        exact hk
  refine ext hc (canon_DL (rise_setE h)) hs fun kl z hk => ?_
  by_cases e : kl = keyL x.key
  · subst e
    rw [atKey_put_same hm (isKeyLit _), at_DL, getE_setE h, if_pos rfl]
  · rw [atKey_put_other e]
    rw [has_put_other e] at hk
    obtain ⟨y, hy, rfl⟩ := has_DL_other _ _ hk
    rw [at_DL, at_DL, getE_setE h, if_neg (fun e' => e (by rw [e']))]

theorem nil_DL : DL [] = .map [] := rfl
theorem size_DL (l : List Ent) : Maps.size (DL l) = l.length := by simp [Maps.size, DL]

/-- A store: its place, its map's block, its entries. -/
structure Sto (w : World) (a b : Nat) (l : List Ent) : Prop where
  at_ : w.heap[a]? = some (.cells #[.map (some b)] 65 (0, 0))
  own : ∃ n, w.ownsMap Try.prog 9 rv b n (DL l) ∧ n ≤ 1000000
  rise : riseE l
  keys : ∀ e ∈ l, S5.keyB e.key = true
  vs : ∀ e ∈ l, Vs w e.ao e.cap e.c.vs
  lim : ∀ e ∈ l, e.c.vs.length ≤ 1000000

theorem Sto.lta {w : World} {a b : Nat} {l : List Ent} (h : Sto w a b l) : a < w.heap.size := (Array.getElem?_eq_some_iff.1 h.at_).1
theorem Sto.ltb {w : World} {a b : Nat} {l : List Ent} (h : Sto w a b l) : b < w.heap.size := by
  obtain ⟨n, hn, _⟩ := h.own
  exact hn.lt
theorem Sto.ne {w : World} {a b : Nat} {l : List Ent} (h : Sto w a b l) : a ≠ b := by
  obtain ⟨n, hn, _⟩ := h.own
  obtain ⟨es, clock, hb, _⟩ := hn
  rintro rfl
  rw [h.at_] at hb
  cases hb
theorem Sto.cell {w : World} {a b : Nat} {l : List Ent} (h : Sto w a b l) : w.cell? ⟨a, 0, none⟩ = some (.map (some b)) := by simp [World.cell?, h.at_]
theorem Sto.len {w : World} {a b : Nat} {l : List Ent} (h : Sto w a b l) : l.length ≤ 1000000 := by
  obtain ⟨n, hn, hl⟩ := h.own
  have := hn.size_le
  rw [size_DL] at this
  omega

/-- It stays while other memory is written. -/
theorem Sto.kept {w w' : World} {a b : Nat} {l : List Ent} (h : Sto w a b l) {row : Option Nat} (hg : w.grownBy w' row) (ha : some a ≠ row) (hb : some b ≠ row) (hv : ∀ e ∈ l, ∀ g o, e.ao = some ⟨g, o, none⟩ → g < w.heap.size → some g ≠ row) : Sto w' a b l := by
  obtain ⟨n, hn, hl⟩ := h.own
  exact ⟨(hg.block a h.lta ha).trans h.at_, ⟨n, hn.kept hg hb, hl⟩, h.rise, h.keys, fun e he => (h.vs e he).kept fun g o e1 hlt => hg.block g hlt (hv e he g o e1 hlt), h.lim⟩
theorem Sto.below {w w' : World} {a b : Nat} {l : List Ent} (h : Sto w a b l) {C : Nat} (hb : Below C w w') (hC : w.heap.size ≤ C) : Sto w' a b l := by
  refine h.kept (row := none) ⟨hb.os, hb.tape, hb.output, hb.size, fun k hk _ => hb.block k (by omega)⟩ (by simp) (by simp) (by simp)
theorem Sto.later {w w' : World} {a b : Nat} {l : List Ent} (h : Sto w a b l) (hb : Below w.heap.size w w') : Sto w' a b l := h.below hb (Nat.le_refl _)
theorem Sto.alloc {w : World} {a b : Nat} {l : List Ent} (h : Sto w a b l) (o : Obj) : Sto (w.alloc o) a b l := h.later ((Below.refl _ _).alloc (Nat.le_refl _) o)

end Go.Proofs.Ytcdehnghggleoaa

/-
  Whether a span is asked about. No law is proved here.
-/
namespace Go.Proofs.Ytcdehnghggleoaa.S5
open Go.RowKit
set_option linter.unusedVariables false

def fitsB (f t : ByteArray) : Bool := decide (f.size ≤ 200) && decide (t.size ≤ 200)
theorem fitsB_iff (f t : ByteArray) : fitsB f t = true ↔ f.size ≤ 200 ∧ t.size ≤ 200 := by
  unfold fitsB; simp

theorem bstep {w w1 w2 : World} (h : Below w.heap.size w w1) (k : Below w1.heap.size w1 w2) : Below w.heap.size w w2 := h.trans (k.mono h.size)

section
set_option maxRecDepth 100000
set_option maxHeartbeats 1000000

end

end Go.Proofs.Ytcdehnghggleoaa.S5

/-
  The document's answers: Right, Has, Meet, Clip. No law is proved here.
-/
namespace Go.Proofs.Ytcdehnghggleoaa.S5
open Go.RowKit
set_option linter.unusedVariables false

section
set_option maxRecDepth 100000
set_option maxHeartbeats 2000000

theorem refRight_any (f t : ByteArray) (w : World) (hf : f.size ≤ 9223372036854775807) (ht : t.size ≤ 9223372036854775807) : Calls Try.prog 20 #[.agg #[.string f, .string t]] w fun e w' => e = .returned (.bool (rightB f t)) ∧ Below w.heap.size w w' := by
  have hB : ∀ o, Hid (Below w.heap.size w (w.alloc o)) := fun o => (Below.refl _ _).alloc (Nat.le_refl _) o
  have Hr : Hid (rightB f t = (keyB f && (eqB t emp || (eqB t brace || keyB t) && !(ltB t f || eqB t f)))) := Eq.refl (rightB f t)
  have e0' : (t.toList == []) = eqB t emp := by unfold eqB; rw [emp_toList]
  have e1' : (t.toList == [123]) = eqB t brace := by unfold eqB; rw [brace_toList]
  have e2' : Op.bytesLess t.toList f.toList = ltB t f := rfl
  have e3' : (t.toList == f.toList) = eqB t f := rfl
  generalize rightB f t = r at Hr ⊢
  generalize eqB t emp = e0 at *
  generalize eqB t brace = e1 at *
  generalize ltB t f = e2 at *
  generalize eqB t f = e3 at *
  cases hkf : keyB f <;> rw [hkf] at Hr
  · go_enter Try.func20, Try.ntmps20
    go_wp2_with (go_at_call 22; refine (refKey_any _ _ (by assumption)).mono ?_; rintro e w' ⟨rfl, rfl⟩)
    go_ret
    rw [unhide Hr]
    refine ⟨?_, unhide (hB _)⟩
    first | rfl | (cases e2 <;> cases e3 <;> rfl)
  · cases e0
    · cases hkt : keyB t <;> rw [hkt] at Hr
      · cases e1
        · go_enter Try.func20, Try.ntmps20
          go_wp2_with (go_at_call 22; refine (refKey_any _ _ (by assumption)).mono ?_; rintro e w' ⟨rfl, rfl⟩)
          go_ret
          rw [unhide Hr]
          refine ⟨?_, unhide (hB _)⟩
          first | rfl | (cases e2 <;> cases e3 <;> rfl)
        · go_enter Try.func20, Try.ntmps20
          go_wp2_with (go_at_call 22; refine (refKey_any _ _ (by assumption)).mono ?_; rintro e w' ⟨rfl, rfl⟩)
          go_ret
          rw [unhide Hr]
          refine ⟨?_, unhide (hB _)⟩
          first | rfl | (cases e2 <;> cases e3 <;> rfl)
      · cases e1
        · go_enter Try.func20, Try.ntmps20
          go_wp2_with (go_at_call 22; refine (refKey_any _ _ (by assumption)).mono ?_; rintro e w' ⟨rfl, rfl⟩)
          go_ret
          rw [unhide Hr]
          refine ⟨?_, unhide (hB _)⟩
          first | rfl | (cases e2 <;> cases e3 <;> rfl)
        · go_enter Try.func20, Try.ntmps20
          go_wp2_with (go_at_call 22; refine (refKey_any _ _ (by assumption)).mono ?_; rintro e w' ⟨rfl, rfl⟩)
          go_ret
          rw [unhide Hr]
          refine ⟨?_, unhide (hB _)⟩
          first | rfl | (cases e2 <;> cases e3 <;> rfl)
    · go_enter Try.func20, Try.ntmps20
      go_wp2_with (go_at_call 22; refine (refKey_any _ _ (by assumption)).mono ?_; rintro e w' ⟨rfl, rfl⟩)
      go_ret
      rw [unhide Hr]
      refine ⟨?_, unhide (hB _)⟩
      first | rfl | (cases e2 <;> cases e3 <;> rfl)

theorem refHas_any (f t k : ByteArray) (w : World) (hf : f.size ≤ 9223372036854775807) (ht : t.size ≤ 9223372036854775807) (hk : k.size ≤ 9223372036854775807) : Calls Try.prog 12 #[.agg #[.string f, .string t], .string k] w fun e w' => e = .returned (.bool (hasB f t k)) ∧ Below w.heap.size w w' := by
  have HS : ∀ {w'}, Below (w.alloc (.cells #[.string f, .string t] 26)).heap.size (w.alloc (.cells #[.string f, .string t] 26)) w' → Hid (Sp w' w.heap.size f t ∧ Below w.heap.size w w') := fun hb => ⟨(Sp.new w f t _).later hb, below_alloc _ hb⟩
  have Hr : Hid (hasB f t k = (rightB f t && keyB k && cond (eqB t emp) (eqB k f) (!ltB k f && ltB k t))) := Eq.refl (hasB f t k)
  have e0' : (t.toList == []) = eqB t emp := by unfold eqB; rw [emp_toList]
  have e1' : (k.toList == f.toList) = eqB k f := rfl
  have e2' : Op.bytesLess k.toList f.toList = ltB k f := rfl
  have e3' : Op.bytesLess k.toList t.toList = ltB k t := rfl
  generalize hasB f t k = r at Hr ⊢
  generalize eqB t emp = e0 at *
  generalize eqB k f = e1 at *
  generalize ltB k f = e2 at *
  generalize ltB k t = e3 at *
  cases hr : rightB f t <;> rw [hr] at Hr
  · cases e0
    · go_enter Try.func12, Try.ntmps12
      go_wp2_with (first
        | (go_at_call 20; refine (refRight_any _ _ _ hf ht).mono ?_; rintro e w' ⟨rfl, hb⟩; obtain ⟨⟨c0, c1, f0, f1⟩, hb'⟩ := unhide (HS hb); replace hb := hide hb'; clear hb')
        | (go_at_call 22; refine (refKey_any _ _ hk).mono ?_; rintro e w' ⟨rfl, rfl⟩))
      go_ret
      rw [unhide Hr]
      exact ⟨rfl, unhide hb⟩
    · go_enter Try.func12, Try.ntmps12
      go_wp2_with (first
        | (go_at_call 20; refine (refRight_any _ _ _ hf ht).mono ?_; rintro e w' ⟨rfl, hb⟩; obtain ⟨⟨c0, c1, f0, f1⟩, hb'⟩ := unhide (HS hb); replace hb := hide hb'; clear hb')
        | (go_at_call 22; refine (refKey_any _ _ hk).mono ?_; rintro e w' ⟨rfl, rfl⟩))
      go_ret
      rw [unhide Hr]
      exact ⟨rfl, unhide hb⟩
  · cases hk' : keyB k <;> rw [hk'] at Hr
    · cases e0
      · go_enter Try.func12, Try.ntmps12
        go_wp2_with (first
          | (go_at_call 20; refine (refRight_any _ _ _ hf ht).mono ?_; rintro e w' ⟨rfl, hb⟩; obtain ⟨⟨c0, c1, f0, f1⟩, hb'⟩ := unhide (HS hb); replace hb := hide hb'; clear hb')
          | (go_at_call 22; refine (refKey_any _ _ hk).mono ?_; rintro e w' ⟨rfl, rfl⟩))
        go_ret
        rw [unhide Hr]
        exact ⟨rfl, unhide hb⟩
      · go_enter Try.func12, Try.ntmps12
        go_wp2_with (first
          | (go_at_call 20; refine (refRight_any _ _ _ hf ht).mono ?_; rintro e w' ⟨rfl, hb⟩; obtain ⟨⟨c0, c1, f0, f1⟩, hb'⟩ := unhide (HS hb); replace hb := hide hb'; clear hb')
          | (go_at_call 22; refine (refKey_any _ _ hk).mono ?_; rintro e w' ⟨rfl, rfl⟩))
        go_ret
        rw [unhide Hr]
        exact ⟨rfl, unhide hb⟩
    · cases e0
      · cases e2
        · go_enter Try.func12, Try.ntmps12
          go_wp2_with (first
            | (go_at_call 20; refine (refRight_any _ _ _ hf ht).mono ?_; rintro e w' ⟨rfl, hb⟩; obtain ⟨⟨c0, c1, f0, f1⟩, hb'⟩ := unhide (HS hb); replace hb := hide hb'; clear hb')
            | (go_at_call 22; refine (refKey_any _ _ hk).mono ?_; rintro e w' ⟨rfl, rfl⟩))
          go_ret
          rw [unhide Hr]
          exact ⟨rfl, unhide hb⟩
        · go_enter Try.func12, Try.ntmps12
          go_wp2_with (first
            | (go_at_call 20; refine (refRight_any _ _ _ hf ht).mono ?_; rintro e w' ⟨rfl, hb⟩; obtain ⟨⟨c0, c1, f0, f1⟩, hb'⟩ := unhide (HS hb); replace hb := hide hb'; clear hb')
            | (go_at_call 22; refine (refKey_any _ _ hk).mono ?_; rintro e w' ⟨rfl, rfl⟩))
          go_ret
          rw [unhide Hr]
          exact ⟨rfl, unhide hb⟩
      · go_enter Try.func12, Try.ntmps12
        go_wp2_with (first
          | (go_at_call 20; refine (refRight_any _ _ _ hf ht).mono ?_; rintro e w' ⟨rfl, hb⟩; obtain ⟨⟨c0, c1, f0, f1⟩, hb'⟩ := unhide (HS hb); replace hb := hide hb'; clear hb')
          | (go_at_call 22; refine (refKey_any _ _ hk).mono ?_; rintro e w' ⟨rfl, rfl⟩))
        go_ret
        rw [unhide Hr]
        exact ⟨rfl, unhide hb⟩

/-- Two spans lie in new memory. -/
structure Pair (w w' : World) (af at' bf bt : ByteArray) : Prop where
  a : Sp w' w.heap.size af at'
  b : Sp w' (w.heap.size + 1) bf bt
  below : Below w.heap.size w w'
theorem Pair.new (w : World) (af at' bf bt : ByteArray) (T : TypeId) :
    Pair w ((w.alloc (.cells #[.string af, .string at'] T)).alloc (.cells #[.string bf, .string bt] T)) af at' bf bt :=
  ⟨(Sp.new w af at' T).alloc _, by have := (Sp.new (w.alloc (.cells #[.string af, .string at'] T)) bf bt T); simpa using this,
    ((Below.refl _ w).alloc (Nat.le_refl _) _).alloc (by simp) _⟩
theorem Pair.later {w w1 w2 : World} {af at' bf bt : ByteArray} (h : Pair w w1 af at' bf bt) (hb : Below w1.heap.size w1 w2) : Pair w w2 af at' bf bt :=
  ⟨h.a.later hb, h.b.later hb, h.below.trans (hb.mono h.below.size)⟩

end

end Go.Proofs.Ytcdehnghggleoaa.S5
