/-
  The law DiskNil: its walk.
-/
import Derived.Test.YtdhjogfalkmggaaAct
namespace Go.Proofs.Ytdhjogfalkmggaa
open Go.RowKit
set_option linter.unusedVariables false

section
set_option maxRecDepth 100000

theorem append_nil (v : Value) (w : World) : Calls Try.prog 10 #[.pointer none, v] w fun e w' => e = .returned (.int .i64 1) ∧ w' = w := by
  go_enter Try.func10, Try.ntmps10
  go_wp2
  go_ret
  exact ⟨rfl, rfl⟩
theorem cut_nil (n : Int) (w : World) : Calls Try.prog 12 #[.pointer none, .int .i64 n] w fun e w' => e = .returned (.int .i64 1) ∧ w' = w := by
  go_enter Try.func12, Try.ntmps12
  go_wp2
  go_ret
  exact ⟨rfl, rfl⟩
theorem set_nil (v : Value) (w : World) : Calls Try.prog 14 #[.pointer none, v] w fun e w' => e = .returned (.int .i64 1) ∧ w' = w := by
  go_enter Try.func14, Try.ntmps14
  go_wp2
  go_ret
  exact ⟨rfl, rfl⟩
theorem sync_nil (w : World) : Calls Try.prog 17 #[.pointer none] w fun e w' => e = .returned (.int .i64 1) ∧ w' = w := by
  go_enter Try.func17, Try.ntmps17
  go_wp2
  go_ret
  exact ⟨rfl, rfl⟩
theorem file_nil (w : World) : Calls Try.prog 20 #[.pointer none] w fun e w' => e = .returned (.slice none 0 0) ∧ w' = w := by
  go_enter Try.func20, Try.ntmps20
  go_wp2
  go_ret
  exact ⟨rfl, rfl⟩
theorem cell_nil (w : World) : Calls Try.prog 21 #[.pointer none] w fun e w' => e = .returned (.slice none 0 0) ∧ w' = w := by
  go_enter Try.func21, Try.ntmps21
  go_wp2
  go_ret
  exact ⟨rfl, rfl⟩
theorem dirty_nil (w : World) : Calls Try.prog 22 #[.pointer none] w fun e w' => e = .returned (.bool false) ∧ w' = w := by
  go_enter Try.func22, Try.ntmps22
  go_wp2
  go_ret
  exact ⟨rfl, rfl⟩
theorem crash_nil (n : Int) (a b : Bool) (w : World) : Calls Try.prog 18 #[.pointer none, .int .i64 n, .bool a, .bool b] w fun e w' => e = .returned (.pointer none) ∧ w' = w := by
  go_enter Try.func18, Try.ntmps18
  go_wp2
  go_ret
  exact ⟨rfl, rfl⟩

/-- An act in a block of its own. -/
structure ActAt (w : World) (B : Nat) (z : ActV) : Prop where
  c0 : w.cell? ⟨B, 0, none⟩ = some (.int .i64 z.kind)
  c1 : w.cell? ⟨B, 1, none⟩ = some (.int .i64 z.n)
  c2 : w.cell? ⟨B, 2, none⟩ = some z.v
  c3 : w.cell? ⟨B, 3, none⟩ = some (.bool z.torn)
  c4 : w.cell? ⟨B, 4, none⟩ = some (.bool z.cell)

theorem ActAt.lt {w : World} {B : Nat} {z : ActV} (h : ActAt w B z) : B < w.heap.size := World.block_lt_of_cell? w _ h.c0
theorem ActAt.later {w w' : World} {B : Nat} {z : ActV} (h : ActAt w B z) (hb : Below w.heap.size w w') : ActAt w' B z :=
  ⟨(hb.cell h.lt).trans h.c0, (hb.cell h.lt).trans h.c1, (hb.cell h.lt).trans h.c2, (hb.cell h.lt).trans h.c3, (hb.cell h.lt).trans h.c4⟩
theorem ActAt.other {S : Nat → Prop} {w w' : World} {B : Nat} {z : ActV} (h : ActAt w B z) (hf : Fr S w w') (hn : ¬ S B) : ActAt w' B z := by
  have e := hf.block B h.lt hn
  have hc : ∀ j, w'.cell? ⟨B, j, none⟩ = w.cell? ⟨B, j, none⟩ := fun j => World.cell?_of_block (w := w) e
  exact ⟨(hc 0).trans h.c0, (hc 1).trans h.c1, (hc 2).trans h.c2, (hc 3).trans h.c3, (hc 4).trans h.c4⟩
theorem ActAt.new (w : World) (z : ActV) (t : TypeId) : ActAt (w.alloc (.cells #[.int .i64 z.kind, .int .i64 z.n, z.v, .bool z.torn, .bool z.cell] t)) w.heap.size z := ⟨by simp, by simp, by simp, by simp, by simp⟩

set_option maxHeartbeats 2000000 in
theorem walkDiskNil {w : World} (v : Value) (z : ActV) (hz : ActIs w v z) :
    Calls Try.prog 6 #[v] w fun e w' => e = .returned (.bool true) ∧ Below w.heap.size w w' := by
  obtain ⟨rfl, hok⟩ := hz
  obtain ⟨kind, n, vv, b, torn, cell⟩ := z
  obtain ⟨n0, n1, hs⟩ := hok
  simp only at n0 n1 hs
  obtain ⟨ao, c, rfl, hc1, hc2, _⟩ := hs
  unfold maxLen at hc2
  simp only
  have hA := ActAt.new w ⟨kind, n, .slice ao b.length c, b, torn, cell⟩ 30
  have hb := below_new w (.cells #[.int .i64 kind, .int .i64 n, .slice ao b.length c, .bool torn, .bool cell] 30)
  have HA := hide hA
  have HB := hide hb
  clear hA hb
  by_cases hl : 200 < b.length
  all_goals
    go_enter Try.func6, Try.ntmps6
    go_wp2_with fail
    refine (alive_any _).mono ?_
    rintro e w1 ⟨rfl, hb1⟩
    obtain ⟨c0, c1, c2, c3, c4⟩ := (unhide HA).later hb1
    replace HB := hide ((unhide HB).trans (hb1.mono (unhide HB).size))
    clear hb1 HA
    simp only at c0 c1 c2 c3 c4
  · go_wp2
    go_ret
    exact ⟨rfl, unhide HB⟩
  · go_wp2_with fail
    refine (append_nil _ _).mono ?_
    rintro e w2 ⟨rfl, rfl⟩
    go_wp2_with fail
    refine (cut_nil _ _).mono ?_
    rintro e w2 ⟨rfl, rfl⟩
    go_wp2_with fail
    refine (set_nil _ _).mono ?_
    rintro e w2 ⟨rfl, rfl⟩
    go_wp2_with fail
    refine (sync_nil _).mono ?_
    rintro e w2 ⟨rfl, rfl⟩
    go_wp2_with fail
    refine (file_nil _).mono ?_
    rintro e w2 ⟨rfl, rfl⟩
    go_wp2_with fail
    refine (cell_nil _).mono ?_
    rintro e w2 ⟨rfl, rfl⟩
    go_wp2_with fail
    refine (dirty_nil _).mono ?_
    rintro e w2 ⟨rfl, rfl⟩
    go_wp2_with fail
    refine (crash_nil _ _ _ _).mono ?_
    rintro e w2 ⟨rfl, rfl⟩
    go_wp2
    go_ret
    exact ⟨rfl, unhide HB⟩
end

end Go.Proofs.Ytdhjogfalkmggaa
