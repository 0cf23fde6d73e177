/-
  The law's acts of layer 9: which are gone through. No law is proved here.
-/
import Derived.Test.YtcdehnghggleoaaSz
namespace Go.Proofs.Ytcdehnghggleoaa
open Go.RowKit Go.Maps
set_option linter.unusedVariables false

/-- An act of a script. -/
structure ActS where
  kind : Int
  id : Int
  ep : Int
  key : ByteArray
  f : ByteArray
  t : ByteArray
  itn : Itn
  commit : Bool
  a0 : Stp
  a1 : Stp

section
set_option maxRecDepth 100000
def fits9B (z : ActS) : Bool := decide (z.key.size ≤ 60) && decide (z.f.size ≤ 60) && decide (z.t.size ≤ 60) && decide (z.itn.val.size ≤ 60) && decide (z.itn.txn.anchor.size ≤ 60) && decide (0 ≤ z.itn.txn.id) && decide (z.itn.txn.id ≤ 1099511627776) && decide (0 ≤ z.itn.txn.ep) && decide (z.itn.txn.ep ≤ 1099511627776) && decide (0 ≤ z.itn.seq) && decide (z.itn.seq ≤ 1099511627776) && S5.keyB z.itn.txn.anchor && rightB z.itn.txn.start.1 z.itn.txn.start.2
set_option maxHeartbeats 60000000 in
theorem fits9_any (z : ActS) (w : World) : Calls Try.prog 7 #[(.agg #[.int .i64 z.kind, .int .i64 z.id, .int .i64 z.ep, .string z.key, .string z.f, .string z.t, .int .i64 z.itn.txn.id, .int .i64 z.itn.txn.ep, .string z.itn.txn.anchor, .int .i64 z.itn.txn.start.1, .int .i64 z.itn.txn.start.2, .int .i64 z.itn.seq, .int .i64 z.itn.at_.1, .int .i64 z.itn.at_.2, .string z.itn.val, .bool z.itn.gone, .bool z.commit, .int .i64 z.a0.1, .int .i64 z.a0.2, .int .i64 z.a1.1, .int .i64 z.a1.2])] w fun e w' => e = .returned (.bool (fits9B z)) ∧ Below w.heap.size w w' := by
  have Z := Blk.new w #[.int .i64 z.kind, .int .i64 z.id, .int .i64 z.ep, .string z.key, .string z.f, .string z.t, .int .i64 z.itn.txn.id, .int .i64 z.itn.txn.ep, .string z.itn.txn.anchor, .int .i64 z.itn.txn.start.1, .int .i64 z.itn.txn.start.2, .int .i64 z.itn.seq, .int .i64 z.itn.at_.1, .int .i64 z.itn.at_.2, .string z.itn.val, .bool z.itn.gone, .bool z.commit, .int .i64 z.a0.1, .int .i64 z.a0.2, .int .i64 z.a1.1, .int .i64 z.a1.2] 35
  have hB : Below w.heap.size w (w.alloc (.cells #[.int .i64 z.kind, .int .i64 z.id, .int .i64 z.ep, .string z.key, .string z.f, .string z.t, .int .i64 z.itn.txn.id, .int .i64 z.itn.txn.ep, .string z.itn.txn.anchor, .int .i64 z.itn.txn.start.1, .int .i64 z.itn.txn.start.2, .int .i64 z.itn.seq, .int .i64 z.itn.at_.1, .int .i64 z.itn.at_.2, .string z.itn.val, .bool z.itn.gone, .bool z.commit, .int .i64 z.a0.1, .int .i64 z.a0.2, .int .i64 z.a1.1, .int .i64 z.a1.2] 35)) := (Below.refl w.heap.size w).alloc (Nat.le_refl _) _
  have Z_0 := Z.c 0; have Z_1 := Z.c 1; have Z_2 := Z.c 2; have Z_3 := Z.c 3; have Z_4 := Z.c 4; have Z_5 := Z.c 5; have Z_6 := Z.c 6; have Z_7 := Z.c 7; have Z_8 := Z.c 8; have Z_9 := Z.c 9; have Z_10 := Z.c 10; have Z_11 := Z.c 11; have Z_12 := Z.c 12; have Z_13 := Z.c 13; have Z_14 := Z.c 14; have Z_15 := Z.c 15; have Z_16 := Z.c 16; have Z_17 := Z.c 17; have Z_18 := Z.c 18; have Z_19 := Z.c 19; have Z_20 := Z.c 20; simp only [List.getElem?_cons_zero, List.getElem?_cons_succ] at Z_0 Z_1 Z_2 Z_3 Z_4 Z_5 Z_6 Z_7 Z_8 Z_9 Z_10 Z_11 Z_12 Z_13 Z_14 Z_15 Z_16 Z_17 Z_18 Z_19 Z_20
  obtain ⟨kind, id, ep, key, f, t, ⟨⟨tid, tep, anc, ⟨s1, s2⟩⟩, seq, ⟨b1, b2⟩, val, gone⟩, commit, ⟨c1, c2⟩, ⟨d1, d2⟩⟩ := z
  simp only at *
  by_cases h0 : key.size ≤ 60
  case neg =>
    have Hk := hide (show fits9B ⟨kind, id, ep, key, f, t, ⟨⟨tid, tep, anc, ⟨s1, s2⟩⟩, seq, ⟨b1, b2⟩, val, gone⟩, commit, ⟨c1, c2⟩, ⟨d1, d2⟩⟩ = false by unfold fits9B; simp [h0])
    go_enter Try.func7, Try.ntmps7
    go_wp2
    go_ret
    rw [unhide Hk]
    exact ⟨by simp, hB⟩
  by_cases h1 : f.size ≤ 60
  case neg =>
    have Hk := hide (show fits9B ⟨kind, id, ep, key, f, t, ⟨⟨tid, tep, anc, ⟨s1, s2⟩⟩, seq, ⟨b1, b2⟩, val, gone⟩, commit, ⟨c1, c2⟩, ⟨d1, d2⟩⟩ = false by unfold fits9B; simp [h1])
    go_enter Try.func7, Try.ntmps7
    go_wp2
    go_ret
    rw [unhide Hk]
    exact ⟨by simp, hB⟩
  by_cases h2 : t.size ≤ 60
  case neg =>
    have Hk := hide (show fits9B ⟨kind, id, ep, key, f, t, ⟨⟨tid, tep, anc, ⟨s1, s2⟩⟩, seq, ⟨b1, b2⟩, val, gone⟩, commit, ⟨c1, c2⟩, ⟨d1, d2⟩⟩ = false by unfold fits9B; simp [h2])
    go_enter Try.func7, Try.ntmps7
    go_wp2
    go_ret
    rw [unhide Hk]
    exact ⟨by simp, hB⟩
  by_cases h3 : val.size ≤ 60
  case neg =>
    have Hk := hide (show fits9B ⟨kind, id, ep, key, f, t, ⟨⟨tid, tep, anc, ⟨s1, s2⟩⟩, seq, ⟨b1, b2⟩, val, gone⟩, commit, ⟨c1, c2⟩, ⟨d1, d2⟩⟩ = false by unfold fits9B; simp [h3])
    go_enter Try.func7, Try.ntmps7
    go_wp2
    go_ret
    rw [unhide Hk]
    exact ⟨by simp, hB⟩
  by_cases h4 : anc.size ≤ 60
  case neg =>
    have Hk := hide (show fits9B ⟨kind, id, ep, key, f, t, ⟨⟨tid, tep, anc, ⟨s1, s2⟩⟩, seq, ⟨b1, b2⟩, val, gone⟩, commit, ⟨c1, c2⟩, ⟨d1, d2⟩⟩ = false by unfold fits9B; simp [h4])
    go_enter Try.func7, Try.ntmps7
    go_wp2
    go_ret
    rw [unhide Hk]
    exact ⟨by simp, hB⟩
  by_cases h5 : 0 ≤ tid
  case neg =>
    have Hk := hide (show fits9B ⟨kind, id, ep, key, f, t, ⟨⟨tid, tep, anc, ⟨s1, s2⟩⟩, seq, ⟨b1, b2⟩, val, gone⟩, commit, ⟨c1, c2⟩, ⟨d1, d2⟩⟩ = false by unfold fits9B; simp [h5])
    have h5' : tid < 0 := by omega
    go_enter Try.func7, Try.ntmps7
    go_wp2
    go_ret
    rw [unhide Hk]
    exact ⟨by simp, hB⟩
  by_cases h6 : tid ≤ 1099511627776
  case neg =>
    have Hk := hide (show fits9B ⟨kind, id, ep, key, f, t, ⟨⟨tid, tep, anc, ⟨s1, s2⟩⟩, seq, ⟨b1, b2⟩, val, gone⟩, commit, ⟨c1, c2⟩, ⟨d1, d2⟩⟩ = false by unfold fits9B; simp [h6])
    have h6' : 1099511627776 < tid := by omega
    go_enter Try.func7, Try.ntmps7
    go_wp2
    go_ret
    rw [unhide Hk]
    exact ⟨by simp, hB⟩
  by_cases h7 : 0 ≤ tep
  case neg =>
    have Hk := hide (show fits9B ⟨kind, id, ep, key, f, t, ⟨⟨tid, tep, anc, ⟨s1, s2⟩⟩, seq, ⟨b1, b2⟩, val, gone⟩, commit, ⟨c1, c2⟩, ⟨d1, d2⟩⟩ = false by unfold fits9B; simp [h7])
    have h7' : tep < 0 := by omega
    go_enter Try.func7, Try.ntmps7
    go_wp2
    go_ret
    rw [unhide Hk]
    exact ⟨by simp, hB⟩
  by_cases h8 : tep ≤ 1099511627776
  case neg =>
    have Hk := hide (show fits9B ⟨kind, id, ep, key, f, t, ⟨⟨tid, tep, anc, ⟨s1, s2⟩⟩, seq, ⟨b1, b2⟩, val, gone⟩, commit, ⟨c1, c2⟩, ⟨d1, d2⟩⟩ = false by unfold fits9B; simp [h8])
    have h8' : 1099511627776 < tep := by omega
    go_enter Try.func7, Try.ntmps7
    go_wp2
    go_ret
    rw [unhide Hk]
    exact ⟨by simp, hB⟩
  by_cases h9 : 0 ≤ seq
  case neg =>
    have Hk := hide (show fits9B ⟨kind, id, ep, key, f, t, ⟨⟨tid, tep, anc, ⟨s1, s2⟩⟩, seq, ⟨b1, b2⟩, val, gone⟩, commit, ⟨c1, c2⟩, ⟨d1, d2⟩⟩ = false by unfold fits9B; simp [h9])
    have h9' : seq < 0 := by omega
    go_enter Try.func7, Try.ntmps7
    go_wp2
    go_ret
    rw [unhide Hk]
    exact ⟨by simp, hB⟩
  by_cases h10 : seq ≤ 1099511627776
  case neg =>
    have Hk := hide (show fits9B ⟨kind, id, ep, key, f, t, ⟨⟨tid, tep, anc, ⟨s1, s2⟩⟩, seq, ⟨b1, b2⟩, val, gone⟩, commit, ⟨c1, c2⟩, ⟨d1, d2⟩⟩ = false by unfold fits9B; simp [h10])
    have h10' : 1099511627776 < seq := by omega
    go_enter Try.func7, Try.ntmps7
    go_wp2
    go_ret
    rw [unhide Hk]
    exact ⟨by simp, hB⟩
  have Hk := hide (show fits9B ⟨kind, id, ep, key, f, t, ⟨⟨tid, tep, anc, ⟨s1, s2⟩⟩, seq, ⟨b1, b2⟩, val, gone⟩, commit, ⟨c1, c2⟩, ⟨d1, d2⟩⟩ = (S5.keyB anc && rightB s1 s2) by unfold fits9B; simp [h0, h1, h2, h3, h4, h5, h6, h7, h8, h9, h10])
  have hKy := fun w' => S5.refKey_any anc w' (by omega)
  have hRt := fun w' => refright_any s1 s2 w'
  generalize S5.keyB anc = k at *
  generalize rightB s1 s2 = r at *
  cases k
  · go_enter Try.func7, Try.ntmps7
    go_wp2_with (go_at_call 22; refine (hKy _).mono ?_; rintro e w' ⟨rfl, rfl⟩)
    go_ret
    rw [unhide Hk]
    exact ⟨rfl, hB⟩
  · go_enter Try.func7, Try.ntmps7
    go_wp2_with fail
    refine (hKy _).mono ?_
    rintro e w' ⟨rfl, rfl⟩
    go_wp2_with fail
    refine (hRt _).mono ?_
    rintro e w' ⟨rfl, hb⟩
    have HB := hide hb
    clear hb
    clear h0 h1 h2 h3 h4 h5 h6 h7 h8 h9 h10 hKy hRt

    go_wp2
    go_ret
    rw [unhide Hk]
    exact ⟨by simp, hB.trans ((unhide HB).mono hB.size)⟩
end

end Go.Proofs.Ytcdehnghggleoaa
