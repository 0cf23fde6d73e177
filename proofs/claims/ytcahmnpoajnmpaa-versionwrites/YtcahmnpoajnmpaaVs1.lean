/-
  Contracts of version's small functions. No law is proved here.
-/
import Derived.Test.YtcahmnpoajnmpaaVd
namespace Go.Proofs.Ytcahmnpoajnmpaa
open Go.RowKit
set_option linter.unusedVariables false

section
set_option maxRecDepth 100000
set_option maxHeartbeats 1000000

theorem isown_any (ao : Option Addr) (n c : Nat) (o : Bool) (i : Itn) (id : Int) (w : World) :
    Calls Try.prog 36 #[(.agg #[.slice ao n c, .bool o, .int .i64 i.txn.id, .int .i64 i.txn.ep, .string i.txn.anchor, .int .i64 i.txn.start.1, .int .i64 i.txn.start.2, .int .i64 i.seq, .int .i64 i.at_.1, .int .i64 i.at_.2, .string i.val, .bool i.gone]), .int .i64 id] w fun e w' => e = .returned (.bool (o && decide (i.txn.id = id))) ∧ Below w.heap.size w w' := by
  cases o
  · go_enter Try.func36, Try.ntmps36
    go_wp2
    go_ret
    exact ⟨rfl, by go_grown⟩
  · go_enter Try.func36, Try.ntmps36
    go_wp2
    go_ret
    exact ⟨by simp [BEq.beq], by go_grown⟩

theorem isothers_any (ao : Option Addr) (n c : Nat) (o : Bool) (i : Itn) (id : Int) (w : World) :
    Calls Try.prog 42 #[(.agg #[.slice ao n c, .bool o, .int .i64 i.txn.id, .int .i64 i.txn.ep, .string i.txn.anchor, .int .i64 i.txn.start.1, .int .i64 i.txn.start.2, .int .i64 i.seq, .int .i64 i.at_.1, .int .i64 i.at_.2, .string i.val, .bool i.gone]), .int .i64 id] w fun e w' => e = .returned (.bool (o && decide (i.txn.id ≠ id))) ∧ Below w.heap.size w w' := by
  cases o
  · go_enter Try.func42, Try.ntmps42
    go_wp2
    go_ret
    exact ⟨rfl, by go_grown⟩
  · go_enter Try.func42, Try.ntmps42
    go_wp2
    go_ret
    exact ⟨by simp [bne, BEq.beq], by go_grown⟩

theorem upto_any (a b : Stp) (w : World) : Calls Try.prog 41 #[(.agg #[.int .i64 a.1, .int .i64 a.2]), (.agg #[.int .i64 b.1, .int .i64 b.2])] w fun e w' => e = .returned (.bool (upB a b)) ∧ Below w.heap.size w w' := by
  have h := fun w => refless_any b.1 b.2 a.1 a.2 w
  rw [less_eq] at h
  unfold upB
  go_enter Try.func41, Try.ntmps41
  go_wp2_with fail
  refine (h _).mono ?_
  rintro e w1 ⟨rfl, hb⟩
  go_wp2
  go_ret
  exact ⟨rfl, (((Below.refl _ _).alloc (Nat.le_refl _) _).alloc (by simp) _).trans (hb.mono (by simp; omega))⟩
end

end Go.Proofs.Ytcahmnpoajnmpaa
