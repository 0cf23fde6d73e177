/-
  Struct equality: stamps, who a transaction is, intents, versions. No law is proved here.
-/
import Derived.Test.YtcahmnpoajnmpaaVs2
namespace Go.Proofs.Ytcahmnpoajnmpaa
open Go.RowKit
set_option linter.unusedVariables false

section
set_option maxRecDepth 100000
set_option maxHeartbeats 1000000

/-- Alike. -/
def sameS (u v : Stp) : Bool := decide (u.1 = v.1 ∧ u.2 = v.2)
/-- Alike. -/
def sameM (u v : Met) : Bool := decide (u.id = v.id ∧ u.ep = v.ep ∧ u.anchor.toList = v.anchor.toList ∧ u.start.1 = v.start.1 ∧ u.start.2 = v.start.2)
/-- Alike. -/
def sameI (u v : Itn) : Bool := decide (u.txn.id = v.txn.id ∧ u.txn.ep = v.txn.ep ∧ u.txn.anchor.toList = v.txn.anchor.toList ∧ u.txn.start.1 = v.txn.start.1 ∧ u.txn.start.2 = v.txn.start.2 ∧ u.seq = v.seq ∧ u.at_.1 = v.at_.1 ∧ u.at_.2 = v.at_.2 ∧ u.val.toList = v.val.toList ∧ u.gone = v.gone)

theorem eqlS (u v : Stp) (w : World) : (binOp .eql 24 (.agg #[.int .i64 u.1, .int .i64 u.2]) (.agg #[.int .i64 v.1, .int .i64 v.2])).run Try.prog w = .ok (.bool (sameS u v)) w := by
  unfold sameS
  by_cases h0 : u.1 = v.1
  case neg => simp [go_sem, h0]
  by_cases h1 : u.2 = v.2
  case neg => simp [go_sem, h0, h1]
  case pos => simp [go_sem, h0, h1]

theorem neqS (u v : Stp) (w : World) : (binOp .neq 24 (.agg #[.int .i64 u.1, .int .i64 u.2]) (.agg #[.int .i64 v.1, .int .i64 v.2])).run Try.prog w = .ok (.bool (!sameS u v)) w := by
  unfold sameS
  by_cases h0 : u.1 = v.1
  case neg => simp [go_sem, h0]
  by_cases h1 : u.2 = v.2
  case neg => simp [go_sem, h0, h1]
  case pos => simp [go_sem, h0, h1]

theorem eqlM (u v : Met) (w : World) : (binOp .eql 26 (.agg #[.int .i64 u.id, .int .i64 u.ep, .string u.anchor, .int .i64 u.start.1, .int .i64 u.start.2]) (.agg #[.int .i64 v.id, .int .i64 v.ep, .string v.anchor, .int .i64 v.start.1, .int .i64 v.start.2])).run Try.prog w = .ok (.bool (sameM u v)) w := by
  unfold sameM
  by_cases h0 : u.id = v.id
  case neg => simp [go_sem, h0]
  by_cases h1 : u.ep = v.ep
  case neg => simp [go_sem, h0, h1]
  by_cases h2 : u.anchor.toList = v.anchor.toList
  case neg => simp [go_sem, h0, h1, h2]
  by_cases h3 : u.start.1 = v.start.1
  case neg => simp [go_sem, h0, h1, h2, h3]
  by_cases h4 : u.start.2 = v.start.2
  case neg => simp [go_sem, h0, h1, h2, h3, h4]
  case pos => simp [go_sem, h0, h1, h2, h3, h4]

theorem neqM (u v : Met) (w : World) : (binOp .neq 26 (.agg #[.int .i64 u.id, .int .i64 u.ep, .string u.anchor, .int .i64 u.start.1, .int .i64 u.start.2]) (.agg #[.int .i64 v.id, .int .i64 v.ep, .string v.anchor, .int .i64 v.start.1, .int .i64 v.start.2])).run Try.prog w = .ok (.bool (!sameM u v)) w := by
  unfold sameM
  by_cases h0 : u.id = v.id
  case neg => simp [go_sem, h0]
  by_cases h1 : u.ep = v.ep
  case neg => simp [go_sem, h0, h1]
  by_cases h2 : u.anchor.toList = v.anchor.toList
  case neg => simp [go_sem, h0, h1, h2]
  by_cases h3 : u.start.1 = v.start.1
  case neg => simp [go_sem, h0, h1, h2, h3]
  by_cases h4 : u.start.2 = v.start.2
  case neg => simp [go_sem, h0, h1, h2, h3, h4]
  case pos => simp [go_sem, h0, h1, h2, h3, h4]

theorem eqlI (u v : Itn) (w : World) : (binOp .eql 28 (.agg #[.int .i64 u.txn.id, .int .i64 u.txn.ep, .string u.txn.anchor, .int .i64 u.txn.start.1, .int .i64 u.txn.start.2, .int .i64 u.seq, .int .i64 u.at_.1, .int .i64 u.at_.2, .string u.val, .bool u.gone]) (.agg #[.int .i64 v.txn.id, .int .i64 v.txn.ep, .string v.txn.anchor, .int .i64 v.txn.start.1, .int .i64 v.txn.start.2, .int .i64 v.seq, .int .i64 v.at_.1, .int .i64 v.at_.2, .string v.val, .bool v.gone])).run Try.prog w = .ok (.bool (sameI u v)) w := by
  unfold sameI
  by_cases h0 : u.txn.id = v.txn.id
  case neg => simp [go_sem, h0]
  by_cases h1 : u.txn.ep = v.txn.ep
  case neg => simp [go_sem, h0, h1]
  by_cases h2 : u.txn.anchor.toList = v.txn.anchor.toList
  case neg => simp [go_sem, h0, h1, h2]
  by_cases h3 : u.txn.start.1 = v.txn.start.1
  case neg => simp [go_sem, h0, h1, h2, h3]
  by_cases h4 : u.txn.start.2 = v.txn.start.2
  case neg => simp [go_sem, h0, h1, h2, h3, h4]
  by_cases h5 : u.seq = v.seq
  case neg => simp [go_sem, h0, h1, h2, h3, h4, h5]
  by_cases h6 : u.at_.1 = v.at_.1
  case neg => simp [go_sem, h0, h1, h2, h3, h4, h5, h6]
  by_cases h7 : u.at_.2 = v.at_.2
  case neg => simp [go_sem, h0, h1, h2, h3, h4, h5, h6, h7]
  by_cases h8 : u.val.toList = v.val.toList
  case neg => simp [go_sem, h0, h1, h2, h3, h4, h5, h6, h7, h8]
  by_cases h9 : u.gone = v.gone
  case neg => simp [go_sem, h0, h1, h2, h3, h4, h5, h6, h7, h8, h9]
  case pos => simp [go_sem, h0, h1, h2, h3, h4, h5, h6, h7, h8, h9]

theorem neqI (u v : Itn) (w : World) : (binOp .neq 28 (.agg #[.int .i64 u.txn.id, .int .i64 u.txn.ep, .string u.txn.anchor, .int .i64 u.txn.start.1, .int .i64 u.txn.start.2, .int .i64 u.seq, .int .i64 u.at_.1, .int .i64 u.at_.2, .string u.val, .bool u.gone]) (.agg #[.int .i64 v.txn.id, .int .i64 v.txn.ep, .string v.txn.anchor, .int .i64 v.txn.start.1, .int .i64 v.txn.start.2, .int .i64 v.seq, .int .i64 v.at_.1, .int .i64 v.at_.2, .string v.val, .bool v.gone])).run Try.prog w = .ok (.bool (!sameI u v)) w := by
  unfold sameI
  by_cases h0 : u.txn.id = v.txn.id
  case neg => simp [go_sem, h0]
  by_cases h1 : u.txn.ep = v.txn.ep
  case neg => simp [go_sem, h0, h1]
  by_cases h2 : u.txn.anchor.toList = v.txn.anchor.toList
  case neg => simp [go_sem, h0, h1, h2]
  by_cases h3 : u.txn.start.1 = v.txn.start.1
  case neg => simp [go_sem, h0, h1, h2, h3]
  by_cases h4 : u.txn.start.2 = v.txn.start.2
  case neg => simp [go_sem, h0, h1, h2, h3, h4]
  by_cases h5 : u.seq = v.seq
  case neg => simp [go_sem, h0, h1, h2, h3, h4, h5]
  by_cases h6 : u.at_.1 = v.at_.1
  case neg => simp [go_sem, h0, h1, h2, h3, h4, h5, h6]
  by_cases h7 : u.at_.2 = v.at_.2
  case neg => simp [go_sem, h0, h1, h2, h3, h4, h5, h6, h7]
  by_cases h8 : u.val.toList = v.val.toList
  case neg => simp [go_sem, h0, h1, h2, h3, h4, h5, h6, h7, h8]
  by_cases h9 : u.gone = v.gone
  case neg => simp [go_sem, h0, h1, h2, h3, h4, h5, h6, h7, h8, h9]
  case pos => simp [go_sem, h0, h1, h2, h3, h4, h5, h6, h7, h8, h9]

theorem neqV (u v : Ver) (w : World) : (binOp .neq 37 (.agg #[.int .i64 u.at_.1, .int .i64 u.at_.2, .string u.val, .bool u.gone, .int .i64 u.by_]) (.agg #[.int .i64 v.at_.1, .int .i64 v.at_.2, .string v.val, .bool v.gone, .int .i64 v.by_])).run Try.prog w = .ok (.bool (!sameV u v)) w := by
  unfold sameV
  by_cases h0 : u.at_.1 = v.at_.1
  case neg => simp [go_sem, h0]
  by_cases h1 : u.at_.2 = v.at_.2
  case neg => simp [go_sem, h0, h1]
  by_cases h2 : u.val.toList = v.val.toList
  case neg => simp [go_sem, h0, h1, h2]
  by_cases h3 : u.gone = v.gone
  case neg => simp [go_sem, h0, h1, h2, h3]
  by_cases h4 : u.by_ = v.by_
  case neg => simp [go_sem, h0, h1, h2, h3, h4]
  case pos => simp [go_sem, h0, h1, h2, h3, h4]

end

theorem bytes_eq {a b : ByteArray} (h : a.toList = b.toList) : a = b := by
  rw [ByteArray.toList_eq, ByteArray.toList_eq] at h
  obtain ⟨⟨x⟩⟩ := a
  obtain ⟨⟨y⟩⟩ := b
  simp at h
  rw [h]

theorem sameS_iff (u v : Stp) : sameS u v = true ↔ u = v := by
  unfold sameS
  obtain ⟨a, b⟩ := u
  obtain ⟨c, d⟩ := v
  simp
theorem sameM_iff (u v : Met) : sameM u v = true ↔ u = v := by
  unfold sameM
  obtain ⟨a, b, c, d, e⟩ := u
  obtain ⟨a', b', c', d', e'⟩ := v
  simp only [decide_eq_true_eq, Met.mk.injEq, Prod.mk.injEq]
  constructor
  · rintro ⟨h1, h2, h3, h4, h5⟩; exact ⟨h1, h2, bytes_eq h3, h4, h5⟩
  · rintro ⟨h1, h2, h3, h4, h5⟩; exact ⟨h1, h2, by rw [h3], h4, h5⟩
theorem sameI_iff (u v : Itn) : sameI u v = true ↔ u = v := by
  have hm := sameM_iff u.txn v.txn
  unfold sameM at hm
  unfold sameI
  obtain ⟨t, s, a, b, c⟩ := u
  obtain ⟨t', s', a', b', c'⟩ := v
  simp only [decide_eq_true_eq, Itn.mk.injEq] at *
  rw [← hm]
  constructor
  · rintro ⟨h1, h2, h3, h4, h5, h6, h7, h8, h9, h10⟩; exact ⟨⟨h1, h2, h3, h4, h5⟩, h6, Prod.ext h7 h8, bytes_eq h9, h10⟩
  · rintro ⟨⟨h1, h2, h3, h4, h5⟩, h6, h7, h9, h10⟩; exact ⟨h1, h2, h3, h4, h5, h6, by rw [h7], by rw [h7], by rw [h9], h10⟩
theorem sameV_iff (u v : Ver) : sameV u v = true ↔ u = v := by
  unfold sameV
  obtain ⟨a, b, c, d⟩ := u
  obtain ⟨a', b', c', d'⟩ := v
  simp only [decide_eq_true_eq, Ver.mk.injEq]
  constructor
  · rintro ⟨h1, h2, h3, h4, h5⟩; exact ⟨Prod.ext h1 h2, bytes_eq h3, h4, h5⟩
  · rintro ⟨h1, h2, h3, h4⟩; exact ⟨by rw [h1], by rw [h1], by rw [h2], h3, h4⟩
theorem sameI_self (u : Itn) : sameI u u = true := (sameI_iff u u).2 rfl
theorem sameM_self (u : Met) : sameM u u = true := (sameM_iff u u).2 rfl
theorem sameS_self (u : Stp) : sameS u u = true := (sameS_iff u u).2 rfl
theorem sameV_self (u : Ver) : sameV u u = true := (sameV_iff u u).2 rfl

/-- Two rows of versions are alike. -/
def sameVs : List Ver → List Ver → Bool
  | [], [] => true
  | u :: us, v :: vs => sameV u v && sameVs us vs
  | _, _ => false
theorem sameVs_iff : ∀ (us vs : List Ver), sameVs us vs = true ↔ us = vs
  | [], [] => by simp [sameVs]
  | [], _ :: _ => by simp [sameVs]
  | _ :: _, [] => by simp [sameVs]
  | u :: us, v :: vs => by rw [sameVs, Bool.and_eq_true, sameV_iff, sameVs_iff us vs]; simp
/-- They differ where a place differs. -/
theorem sameVs_not {us vs : List Ver} (k : Nat) (h1 : k < us.length) (h2 : k < vs.length) (h : sameV us[k] vs[k] = false) : sameVs us vs = false := by
  cases hh : sameVs us vs
  · rfl
  · have := (sameVs_iff us vs).1 hh
    subst this
    rw [sameV_self] at h
    cases h
theorem sameVs_len {us vs : List Ver} (h : us.length ≠ vs.length) : sameVs us vs = false := by
  cases hh : sameVs us vs
  · rfl
  · have := (sameVs_iff us vs).1 hh
    subst this
    exact absurd rfl h
/-- They are alike where all places are. -/
theorem sameVs_all {us vs : List Ver} (hl : us.length = vs.length) (h : ∀ k (h1 : k < us.length) (h2 : k < vs.length), sameV us[k] vs[k] = true) : sameVs us vs = true := by
  rw [sameVs_iff]
  exact List.ext_getElem hl fun k h1 h2 => (sameV_iff _ _).1 (h k h1 h2)
/-- Two chains are alike. -/
def sameC (a b : Chn) : Bool := (a.opn == b.opn) && sameI a.itn b.itn && sameVs a.vs b.vs
theorem sameC_iff (a b : Chn) : sameC a b = true ↔ a = b := by
  unfold sameC
  rw [Bool.and_eq_true, Bool.and_eq_true, sameVs_iff, sameI_iff]
  obtain ⟨x, y, z⟩ := a
  obtain ⟨x', y', z'⟩ := b
  simp
  constructor
  · rintro ⟨⟨h1, h2⟩, h3⟩; exact ⟨h3, h1, h2⟩
  · rintro ⟨h3, h1, h2⟩; exact ⟨⟨h1, h2⟩, h3⟩

end Go.Proofs.Ytcahmnpoajnmpaa
