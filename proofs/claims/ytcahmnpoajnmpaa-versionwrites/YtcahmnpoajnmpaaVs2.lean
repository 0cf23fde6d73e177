/-
  Contracts of version's found, decided, slices.Equal over versions; struct equality. No law is proved here.
-/
import Derived.Test.YtcahmnpoajnmpaaVs1
namespace Go.Proofs.Ytcahmnpoajnmpaa
open Go.RowKit
set_option linter.unusedVariables false

section
set_option maxRecDepth 100000
set_option maxHeartbeats 1000000

/-- The version that an intent makes at a stamp. -/
def mkV (i : Itn) (a : Stp) : Ver := ⟨a, i.val, i.gone, i.txn.id⟩
/-- What Read answers where it ends at a version. -/
def foundV (v : Ver) : Ver × Bool × Met × Int := if v.gone = true then (Ver.zero, false, Met.zero, 0) else (v, true, Met.zero, 0)

theorem results_v {fn : Func} {k : Nat} (hf : fn.results = #[.cell k 37]) {tmps : Array Value} {w : World} {B : Nat} (v : Ver) (hk : tmps[k]? = some (.pointer (some ⟨B, 0, none⟩)))
    (h : Blk w B [.int .i64 v.at_.1, .int .i64 v.at_.2, .string v.val, .bool v.gone, .int .i64 v.by_]) : (results fn tmps).run Try.prog w = .ok (.agg #[.int .i64 v.at_.1, .int .i64 v.at_.2, .string v.val, .bool v.gone, .int .i64 v.by_]) w := by
  simp [results, hf, go_sem, h.c, hk]

theorem results_vbme {fn : Func} {k1 k2 k3 k4 : Nat} (hf : fn.results = #[.cell k1 37, .tmp k2, .cell k3 26, .tmp k4]) {tmps : Array Value} {w : World} {B C : Nat} (v : Ver) (m : Met) {x y : Value}
    (hk1 : tmps[k1]? = some (.pointer (some ⟨B, 0, none⟩))) (hk2 : tmps[k2]? = some x) (hk3 : tmps[k3]? = some (.pointer (some ⟨C, 0, none⟩))) (hk4 : tmps[k4]? = some y)
    (h : Blk w B [.int .i64 v.at_.1, .int .i64 v.at_.2, .string v.val, .bool v.gone, .int .i64 v.by_]) (k : Blk w C [.int .i64 m.id, .int .i64 m.ep, .string m.anchor, .int .i64 m.start.1, .int .i64 m.start.2]) : (results fn tmps).run Try.prog w = .ok (.tuple #[(.agg #[.int .i64 v.at_.1, .int .i64 v.at_.2, .string v.val, .bool v.gone, .int .i64 v.by_]), x, (.agg #[.int .i64 m.id, .int .i64 m.ep, .string m.anchor, .int .i64 m.start.1, .int .i64 m.start.2]), y]) w := by
  simp [results, hf, go_sem, h.c, k.c, hk1, hk2, hk3, hk4]

theorem results_me {fn : Func} {k3 k4 : Nat} (hf : fn.results = #[.cell k3 26, .tmp k4]) {tmps : Array Value} {w : World} {C : Nat} (m : Met) {y : Value}
    (hk3 : tmps[k3]? = some (.pointer (some ⟨C, 0, none⟩))) (hk4 : tmps[k4]? = some y) (k : Blk w C [.int .i64 m.id, .int .i64 m.ep, .string m.anchor, .int .i64 m.start.1, .int .i64 m.start.2]) : (results fn tmps).run Try.prog w = .ok (.tuple #[(.agg #[.int .i64 m.id, .int .i64 m.ep, .string m.anchor, .int .i64 m.start.1, .int .i64 m.start.2]), y]) w := by
  simp [results, hf, go_sem, k.c, hk3, hk4]

theorem decided_any (i : Itn) (a : Stp) (w : World) : Calls Try.prog 38 #[(.agg #[.int .i64 i.txn.id, .int .i64 i.txn.ep, .string i.txn.anchor, .int .i64 i.txn.start.1, .int .i64 i.txn.start.2, .int .i64 i.seq, .int .i64 i.at_.1, .int .i64 i.at_.2, .string i.val, .bool i.gone]), (.agg #[.int .i64 a.1, .int .i64 a.2])] w fun e w' => e = .returned (.agg #[.int .i64 (mkV i a).at_.1, .int .i64 (mkV i a).at_.2, .string (mkV i a).val, .bool (mkV i a).gone, .int .i64 (mkV i a).by_]) ∧ Below w.heap.size w w' := by
  go_enter Try.func38, Try.ntmps38
  go_wp2
  refine bodyPost_ret (v := (.agg #[.int .i64 (mkV i a).at_.1, .int .i64 (mkV i a).at_.2, .string (mkV i a).val, .bool (mkV i a).gone, .int .i64 (mkV i a).by_])) (by simp [results, Try.results38, go_sem, mkV]) rfl ⟨rfl, ?_⟩
  exact (((Below.refl _ _).alloc (Nat.le_refl _) _).alloc (by simp) _).alloc (by simp; omega) _

theorem found_any (v : Ver) (w : World) : Calls Try.prog 37 #[(.agg #[.int .i64 v.at_.1, .int .i64 v.at_.2, .string v.val, .bool v.gone, .int .i64 v.by_])] w fun e w' => e = .returned (.tuple #[(.agg #[.int .i64 (foundV v).1.at_.1, .int .i64 (foundV v).1.at_.2, .string (foundV v).1.val, .bool (foundV v).1.gone, .int .i64 (foundV v).1.by_]), .bool (foundV v).2.1, (.agg #[.int .i64 (foundV v).2.2.1.id, .int .i64 (foundV v).2.2.1.ep, .string (foundV v).2.2.1.anchor, .int .i64 (foundV v).2.2.1.start.1, .int .i64 (foundV v).2.2.1.start.2]), .int .i64 (foundV v).2.2.2]) ∧ Below w.heap.size w w' := by
  cases hg : v.gone
  · have e : foundV v = (v, true, Met.zero, 0) := by unfold foundV; rw [if_neg (by simp [hg])]
    rw [e]
    go_enter Try.func37, Try.ntmps37
    go_wp2
    refine bodyPost_ret (v := .tuple #[(.agg #[.int .i64 v.at_.1, .int .i64 v.at_.2, .string v.val, .bool v.gone, .int .i64 v.by_]), .bool true, (.agg #[.int .i64 Met.zero.id, .int .i64 Met.zero.ep, .string Met.zero.anchor, .int .i64 Met.zero.start.1, .int .i64 Met.zero.start.2]), .int .i64 0]) (by simp [results, Try.results37, go_sem, Met.zero, hg]) rfl ⟨rfl, ?_⟩
    exact (((Below.refl _ _).alloc (Nat.le_refl _) _).alloc (by simp) _).alloc (by simp; omega) _
  · have e : foundV v = (Ver.zero, false, Met.zero, 0) := by unfold foundV; rw [if_pos hg]
    rw [e]
    go_enter Try.func37, Try.ntmps37
    go_wp2
    refine bodyPost_ret (v := .tuple #[(.agg #[.int .i64 Ver.zero.at_.1, .int .i64 Ver.zero.at_.2, .string Ver.zero.val, .bool Ver.zero.gone, .int .i64 Ver.zero.by_]), .bool false, (.agg #[.int .i64 Met.zero.id, .int .i64 Met.zero.ep, .string Met.zero.anchor, .int .i64 Met.zero.start.1, .int .i64 Met.zero.start.2]), .int .i64 0]) (by simp [results, Try.results37, go_sem, Met.zero, Ver.zero]) rfl ⟨rfl, ?_⟩
    exact (((Below.refl _ _).alloc (Nat.le_refl _) _).alloc (by simp) _).alloc (by simp; omega) _

end

/-- Whether two versions are alike. -/
def sameV (u v : Ver) : Bool := decide (u.at_.1 = v.at_.1 ∧ u.at_.2 = v.at_.2 ∧ u.val.toList = v.val.toList ∧ u.gone = v.gone ∧ u.by_ = v.by_)

theorem eqlV (u v : Ver) (w : World) : (binOp .eql 37 (.agg #[.int .i64 u.at_.1, .int .i64 u.at_.2, .string u.val, .bool u.gone, .int .i64 u.by_]) (.agg #[.int .i64 v.at_.1, .int .i64 v.at_.2, .string v.val, .bool v.gone, .int .i64 v.by_])).run Try.prog w = .ok (.bool (sameV u v)) w := by
  unfold sameV
  by_cases h0 : u.at_.1 = v.at_.1 <;> by_cases h1 : u.at_.2 = v.at_.2 <;> by_cases h2 : u.val.toList = v.val.toList <;> by_cases h3 : u.gone = v.gone <;> by_cases h4 : u.by_ = v.by_ <;> simp [go_sem, h0, h1, h2, h3, h4]

end Go.Proofs.Ytcahmnpoajnmpaa
