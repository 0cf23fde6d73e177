/-
  Contracts of cmp.Or, stamp.Compare, stamp.Less, stamp.Max. No law is proved here.
-/
import Derived.Test.YtcahmnpoajnmpaaSmall
import Derived.Deep.RegionHeld
import Derived.Handy
namespace Go.Proofs.Ytcahmnpoajnmpaa
open Go.RowKit
set_option linter.unusedVariables false

/-- A stamp lies at block B. -/
structure At (w : World) (B : Nat) (a b : Int) : Prop where
  c0 : w.cell? ⟨B, 0, none⟩ = some (.int .i64 a)
  c1 : w.cell? ⟨B, 1, none⟩ = some (.int .i64 b)

theorem At.lt {w : World} {B : Nat} {a b : Int} (h : At w B a b) : B < w.heap.size := World.block_lt_of_cell? w _ h.c0
theorem At.below {w w' : World} {B C : Nat} {a b : Int} (h : At w B a b) (hb : Below C w w') (hC : w.heap.size ≤ C) : At w' B a b :=
  ⟨(hb.cell (p := ⟨B, 0, none⟩) (Nat.lt_of_lt_of_le h.lt hC)).trans h.c0, (hb.cell (p := ⟨B, 1, none⟩) (Nat.lt_of_lt_of_le h.lt hC)).trans h.c1⟩
theorem At.alloc {w : World} {B : Nat} {a b : Int} (h : At w B a b) (o : Obj) : At (w.alloc o) B a b := h.below ((Below.refl _ _).alloc (Nat.le_refl _) o) (Nat.le_refl _)
theorem At.new (w : World) (a b : Int) (t : TypeId) : At (w.alloc (.cells #[.int .i64 a, .int .i64 b] t)) w.heap.size a b := ⟨by simp, by simp⟩

/-- A stamp behind a pointer, stored anew. -/
theorem set2 (w : World) (B : Nat) (x0 y0 x y : Value) (h0 : w.cell? ⟨B, 0, none⟩ = some x0) (h1 : w.cell? ⟨B, 1, none⟩ = some y0) :
    ((w.setCell ⟨B, 0, none⟩ x).setCell ⟨B, 1, none⟩ y).cell? ⟨B, 0, none⟩ = some x ∧ ((w.setCell ⟨B, 0, none⟩ x).setCell ⟨B, 1, none⟩ y).cell? ⟨B, 1, none⟩ = some y := by
  have h0' : (w.setCell ⟨B, 0, none⟩ x).cell? ⟨B, 0, none⟩ = some x := World.cell?_setCell_same w _ _ h0
  have h1' : (w.setCell ⟨B, 0, none⟩ x).cell? ⟨B, 1, none⟩ = some y0 := (World.cell?_setCell_other w _ _ _ (by simp)).trans h1
  exact ⟨(World.cell?_setCell_other _ _ _ _ (by simp)).trans h0', World.cell?_setCell_same _ _ _ h1'⟩

/-- What a function hands back whose result is a stamp in a variable. -/
theorem results_stp {fn : Func} {k : Nat} (hf : fn.results = #[.cell k 24]) {tmps : Array Value} {w : World} {B : Nat} {a b : Int} (hk : tmps[k]? = some (.pointer (some ⟨B, 0, none⟩)))
    (h0 : w.cell? ⟨B, 0, none⟩ = some (.int .i64 a)) (h1 : w.cell? ⟨B, 1, none⟩ = some (.int .i64 b)) : (results fn tmps).run Try.prog w = .ok (.agg #[.int .i64 a, .int .i64 b]) w := by
  simp [results, hf, go_sem, h0, h1, hk]

theorem results_stp2 {fn : Func} {k u : Nat} (hf : fn.results = #[.cell k 24, .tmp u]) {tmps : Array Value} {w : World} {B : Nat} {a b : Int} {e : Value} (hk : tmps[k]? = some (.pointer (some ⟨B, 0, none⟩))) (hu : tmps[u]? = some e)
    (h0 : w.cell? ⟨B, 0, none⟩ = some (.int .i64 a)) (h1 : w.cell? ⟨B, 1, none⟩ = some (.int .i64 b)) : (results fn tmps).run Try.prog w = .ok (.tuple #[(.agg #[.int .i64 a, .int .i64 b]), e]) w := by
  simp [results, hf, go_sem, h0, h1, hk, hu]

section
set_option maxRecDepth 100000
theorem or_any (g : Nat) (x y : Int) (w : World) (hx : w.cell? ⟨g, 0, none⟩ = some (.int .i64 x)) (hy : w.cell? ⟨g, 1, none⟩ = some (.int .i64 y)) :
    Calls Try.prog 56 #[.slice (some ⟨g, 0, none⟩) 2 2] w fun e w' => e = .returned (.int .i64 (orI x y)) ∧ w' = w := by
  unfold orI
  by_cases h0 : x = 0
  · rw [if_pos h0]
    subst h0
    go_enter Try.func56, Try.ntmps56
    go_wp2
    go_loop [8] (fun i => ∃ k : Nat, i = .int .i64 k ∧ k ≤ 2 ∧ (1 < k → Hid (y = 0))) (fun i => 2 - (intOf i).toNat)
    case atStart => exact ⟨0, rfl, by decide, fun h => absurd h (by decide)⟩
    case round =>
      obtain ⟨k, rfl, hk, hz⟩ := hrel
      match k, hk, hz with
      | 0, _, _ =>
        go_wp2
        go_round
        case rel => exact ⟨1, by go_num, by decide, fun h => absurd h (by decide)⟩
        case measure => simp [intOf]
      | 1, _, _ =>
        by_cases h1 : y = 0
        · subst h1
          go_wp2
          go_round
          case rel => exact ⟨2, by go_num, by decide, fun _ => True.intro⟩
          case measure => simp [intOf]
        · have h1' : (y == 0) = false := by simpa using h1
          go_wp2
          go_ret
          exact ⟨rfl, rfl⟩
      | 2, _, hz =>
        have hz := unhide (hz (by decide))
        subst hz
        go_wp2
        go_ret
        exact ⟨rfl, rfl⟩
  · rw [if_neg h0]
    have h0' : (x == 0) = false := by simpa using h0
    go_enter Try.func56, Try.ntmps56
    go_wp2
    go_loop [8] (fun i => i = .int .i64 0) (fun i => 2 - (intOf i).toNat)
    case atStart => rfl
    case round =>
      subst hrel
      go_wp2
      go_ret
      exact ⟨rfl, rfl⟩

theorem compare_any (a b c d : Int) (w : World) : Calls Try.prog 49 #[(.agg #[.int .i64 a, .int .i64 b]), (.agg #[.int .i64 c, .int .i64 d])] w fun e w' => e = .returned (.int .i64 (cmpS a b c d)) ∧ Below w.heap.size w w' := by
  go_enter Try.func49, Try.ntmps49
  go_wp2_with fail
  go_region_held (fun w' => w'.cell? ⟨w.heap.size, 0, none⟩ = some (.int .i64 a) ∧ w'.cell? ⟨w.heap.size, 1, none⟩ = some (.int .i64 b) ∧ w'.cell? ⟨w.heap.size + 1, 0, none⟩ = some (.int .i64 c) ∧ w'.cell? ⟨w.heap.size + 1, 1, none⟩ = some (.int .i64 d)) (go_keep)
    (first | (go_at_call 56; refine (or_any _ (cmpI a c) (cmpI b d) _ ?_ ?_).mono ?_; (go_simp); (go_simp); rintro e w' ⟨rfl, rfl⟩) | (go_at_call 57; refine (cmpc_any _ _ _).mono ?_; rintro e w' ⟨rfl, rfl⟩))
  go_wp2
  go_ret
  exact ⟨rfl, (((Below.refl _ _).alloc (Nat.le_refl _) _).alloc (by simp) _).drew.alloc (by simp; omega) _⟩

theorem less_any (a b c d : Int) (w : World) : Calls Try.prog 29 #[(.agg #[.int .i64 a, .int .i64 b]), (.agg #[.int .i64 c, .int .i64 d])] w fun e w' => e = .returned (.bool (lessB a b c d)) ∧ Below w.heap.size w w' := by
  go_enter Try.func29, Try.ntmps29
  go_wp2_with fail
  refine (compare_any _ _ _ _ _).mono ?_
  rintro e w1 ⟨rfl, hb1⟩
  go_wp2
  go_ret
  exact ⟨rfl, (((Below.refl _ _).alloc (Nat.le_refl _) _).alloc (by simp) _).trans (hb1.mono (by simp; omega))⟩

theorem max_any (a b c d : Int) (w : World) : Calls Try.prog 55 #[(.agg #[.int .i64 a, .int .i64 b]), (.agg #[.int .i64 c, .int .i64 d])] w fun e w' => e = .returned (if lessB a b c d then (.agg #[.int .i64 c, .int .i64 d]) else (.agg #[.int .i64 a, .int .i64 b])) ∧ Below w.heap.size w w' := by
  have h1 := fun w => less_any a b c d w
  generalize lessB a b c d = x at *
  have hB := (((Below.refl w.heap.size w).alloc (Nat.le_refl _) (.cells #[.int .i64 a, .int .i64 b] 24)).alloc (by simp) (.cells #[.int .i64 c, .int .i64 d] 24)).alloc (by simp; omega) (.cells #[.int .i64 0, .int .i64 0] 24)
  cases x
  all_goals
    go_enter Try.func55, Try.ntmps55
    go_wp2_with fail
    refine (h1 _).mono ?_
    rintro e w1 ⟨rfl, hb1⟩
    have k0 : w1.cell? ⟨w.heap.size, 0, none⟩ = some (.int .i64 a) := (hb1.cell (by simp; omega)).trans (by go_simp)
    have k1 : w1.cell? ⟨w.heap.size, 1, none⟩ = some (.int .i64 b) := (hb1.cell (by simp; omega)).trans (by go_simp)
    have k2 : w1.cell? ⟨w.heap.size + 1, 0, none⟩ = some (.int .i64 c) := (hb1.cell (by simp)).trans (by go_simp)
    have k3 : w1.cell? ⟨w.heap.size + 1, 1, none⟩ = some (.int .i64 d) := (hb1.cell (by simp)).trans (by go_simp)
    have k4 : w1.cell? ⟨w.heap.size + 1 + 1, 0, none⟩ = some (.int .i64 0) := (hb1.cell (by simp)).trans (by go_simp)
    have k5 : w1.cell? ⟨w.heap.size + 1 + 1, 1, none⟩ = some (.int .i64 0) := (hb1.cell (by simp)).trans (by go_simp)
    have k6 : w1.frozen? ⟨w.heap.size + 1 + 1, 0, none⟩ = false := (hb1.frozen (by simp)).trans (by go_simp)
    have k7 : w1.frozen? ⟨w.heap.size + 1 + 1, 1, none⟩ = false := (hb1.frozen (by simp)).trans (by go_simp)
    have R := hide (hB.trans (hb1.mono (by simp; omega)))
    clear hB hb1
    go_wp2
    obtain ⟨c0, c1⟩ := set2 w1 (w.heap.size + 1 + 1) _ _ (.int .i64 _) (.int .i64 _) k4 k5
    refine bodyPost_ret (results_stp Try.results55 rfl c0 c1) rfl ?_
    exact ⟨rfl, ((unhide R).setCell (by simp; omega) _).setCell (by simp; omega) _⟩
end

end Go.Proofs.Ytcahmnpoajnmpaa
