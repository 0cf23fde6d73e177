/-
  VersionTells returns true. No statement is proved here: the lifted text has it.
-/
import Derived.Test.YtcahmnpoajnmpaaVt7
import Derived.Test.YtcahmnpoajnmpaaViewC
namespace Go.Proofs.Ytcahmnpoajnmpaa
open Go.RowKit
set_option linter.unusedVariables false

section
set_option maxRecDepth 100000
set_option maxHeartbeats 20000000

theorem walkVersionTells {w : World} (a : Value) (x : Chn) (ha : ChV w a x) (b : Value) (y : Chn) (hb : ChV w b y) : Calls Try.prog 3 #[a, b] w fun e w' => e = .returned (.bool true) ∧ Below w.heap.size w w' := by
  obtain ⟨⟨ao, c, rfl, hv⟩, hl⟩ := ha
  obtain ⟨⟨bo, d, rfl, hu⟩, hm⟩ := hb
  obtain ⟨vs, o, i⟩ := x
  obtain ⟨us, p, j⟩ := y
  simp only at hv hu hl hm ⊢
  have hA := fun w => alive_any w
  have hR := fun w' (hb : Below w.heap.size w w') => right_c ao c vs o i w' (hv.later hb)
  have hRR := fun w' (hb : Below w.heap.size w w') => refright_c ao c vs o i w' (hv.later hb)
  have hS := fun w' (hb : Below w.heap.size w w') => same_any ao bo c d vs us o p i j w' (hv.later hb) (hu.later hb)
  have hRS := fun w' (hb : Below w.heap.size w w') => refsame_any ao bo c d vs us o p i j w' (hv.later hb) (hu.later hb)
  have hSS := fun w' (hb : Below w.heap.size w w') => same_any ao ao c c vs vs o o i i w' (hv.later hb) (hv.later hb)
  rw [(sameC_iff ⟨vs, o, i⟩ ⟨vs, o, i⟩).2 rfl] at hSS
  generalize rightCB ⟨vs, o, i⟩ = z at *
  generalize sameC ⟨vs, o, i⟩ ⟨us, p, j⟩ = z2 at *
  obtain ⟨n, hn⟩ : ∃ n, vs.length = n := ⟨_, rfl⟩
  obtain ⟨m, hm2⟩ : ∃ m, us.length = m := ⟨_, rfl⟩
  simp only [hn, hm2] at hR hRR hS hRS hSS hl hm ⊢
  have C := (Blk.new w #[.slice ao n c, .bool o, .int .i64 i.txn.id, .int .i64 i.txn.ep, .string i.txn.anchor, .int .i64 i.txn.start.1, .int .i64 i.txn.start.2, .int .i64 i.seq, .int .i64 i.at_.1, .int .i64 i.at_.2, .string i.val, .bool i.gone] 30).alloc (.cells #[.slice bo m d, .bool p, .int .i64 j.txn.id, .int .i64 j.txn.ep, .string j.txn.anchor, .int .i64 j.txn.start.1, .int .i64 j.txn.start.2, .int .i64 j.seq, .int .i64 j.at_.1, .int .i64 j.at_.2, .string j.val, .bool j.gone] 30)
  have D := Blk.new (w.alloc (.cells #[.slice ao n c, .bool o, .int .i64 i.txn.id, .int .i64 i.txn.ep, .string i.txn.anchor, .int .i64 i.txn.start.1, .int .i64 i.txn.start.2, .int .i64 i.seq, .int .i64 i.at_.1, .int .i64 i.at_.2, .string i.val, .bool i.gone] 30)) #[.slice bo m d, .bool p, .int .i64 j.txn.id, .int .i64 j.txn.ep, .string j.txn.anchor, .int .i64 j.txn.start.1, .int .i64 j.txn.start.2, .int .i64 j.seq, .int .i64 j.at_.1, .int .i64 j.at_.2, .string j.val, .bool j.gone] 30
  rw [show (w.alloc (.cells #[.slice ao n c, .bool o, .int .i64 i.txn.id, .int .i64 i.txn.ep, .string i.txn.anchor, .int .i64 i.txn.start.1, .int .i64 i.txn.start.2, .int .i64 i.seq, .int .i64 i.at_.1, .int .i64 i.at_.2, .string i.val, .bool i.gone] 30)).heap.size = w.heap.size + 1 by simp] at D
  have hB : Below w.heap.size w ((w.alloc (.cells #[.slice ao n c, .bool o, .int .i64 i.txn.id, .int .i64 i.txn.ep, .string i.txn.anchor, .int .i64 i.txn.start.1, .int .i64 i.txn.start.2, .int .i64 i.seq, .int .i64 i.at_.1, .int .i64 i.at_.2, .string i.val, .bool i.gone] 30)).alloc (.cells #[.slice bo m d, .bool p, .int .i64 j.txn.id, .int .i64 j.txn.ep, .string j.txn.anchor, .int .i64 j.txn.start.1, .int .i64 j.txn.start.2, .int .i64 j.seq, .int .i64 j.at_.1, .int .i64 j.at_.2, .string j.val, .bool j.gone] 30)) := ((Below.refl w.heap.size w).alloc (Nat.le_refl _) _).alloc (by simp) _
  clear hv hu hn hm2
  by_cases h1 : (60 : Int) < (n : Int)
  · go_enter Try.func3, Try.ntmps3
    go_wp2_with fail
    generalize (w.alloc _).alloc _ = W at *
    refine (hA _).mono ?_
    rintro e w1 ⟨rfl, hb1⟩
    have HB := hide (hB.trans (hb1.mono hB.size))
    clear hb1 hB
    go_wp2
    go_ret
    exact ⟨rfl, unhide HB⟩
  by_cases h2 : (60 : Int) < (m : Int)
  · go_enter Try.func3, Try.ntmps3
    go_wp2_with fail
    generalize (w.alloc _).alloc _ = W at *
    refine (hA _).mono ?_
    rintro e w1 ⟨rfl, hb1⟩
    have HB := hide (hB.trans (hb1.mono hB.size))
    clear hb1 hB
    go_wp2
    go_ret
    exact ⟨rfl, unhide HB⟩
  have Hh := hide (And.intro h1 h2)
  go_enter Try.func3, Try.ntmps3
  go_wp2_with fail
  generalize (w.alloc _).alloc _ = W at *
  have C_0 := fun x : Later W => (C.later x.below).c 0; have C_1 := fun x : Later W => (C.later x.below).c 1; have C_2 := fun x : Later W => (C.later x.below).c 2; have C_3 := fun x : Later W => (C.later x.below).c 3; have C_4 := fun x : Later W => (C.later x.below).c 4; have C_5 := fun x : Later W => (C.later x.below).c 5; have C_6 := fun x : Later W => (C.later x.below).c 6; have C_7 := fun x : Later W => (C.later x.below).c 7; have C_8 := fun x : Later W => (C.later x.below).c 8; have C_9 := fun x : Later W => (C.later x.below).c 9; have C_10 := fun x : Later W => (C.later x.below).c 10; have C_11 := fun x : Later W => (C.later x.below).c 11; simp only [List.getElem?_cons_zero, List.getElem?_cons_succ] at C_0 C_1 C_2 C_3 C_4 C_5 C_6 C_7 C_8 C_9 C_10 C_11
  have D_0 := fun x : Later W => (D.later x.below).c 0; have D_1 := fun x : Later W => (D.later x.below).c 1; have D_2 := fun x : Later W => (D.later x.below).c 2; have D_3 := fun x : Later W => (D.later x.below).c 3; have D_4 := fun x : Later W => (D.later x.below).c 4; have D_5 := fun x : Later W => (D.later x.below).c 5; have D_6 := fun x : Later W => (D.later x.below).c 6; have D_7 := fun x : Later W => (D.later x.below).c 7; have D_8 := fun x : Later W => (D.later x.below).c 8; have D_9 := fun x : Later W => (D.later x.below).c 9; have D_10 := fun x : Later W => (D.later x.below).c 10; have D_11 := fun x : Later W => (D.later x.below).c 11; simp only [List.getElem?_cons_zero, List.getElem?_cons_succ] at D_0 D_1 D_2 D_3 D_4 D_5 D_6 D_7 D_8 D_9 D_10 D_11
  have hR' := fun x : Later W => hR x.val (hB.trans (x.below.mono hB.size))
  have hRR' := fun x : Later W => hRR x.val (hB.trans (x.below.mono hB.size))
  have hS' := fun x : Later W => hS x.val (hB.trans (x.below.mono hB.size))
  have hRS' := fun x : Later W => hRS x.val (hB.trans (x.below.mono hB.size))
  have hSS' := fun x : Later W => hSS x.val (hB.trans (x.below.mono hB.size))
  have ii : Nonempty (Later W) := ⟨⟨W, Below.refl _ _⟩⟩
  have hzz : (z == z) = true := by simp
  have hzz2 : (z2 == z2) = true := by simp
  clear hR hRR hS hRS hSS
  refine wp_region_later (by kernel_rfl) (by kernel_rfl) ?_
  repeat (first
    | go_big_quiet_step ((first | (go_at_call 11; with_reducible exact calls_later (hA _)) | (go_at_call 12; with_reducible exact calls_later (hR' _)) | (go_at_call 13; with_reducible exact calls_later (hRR' _)) | (go_at_call 14; first | with_reducible exact calls_later (hS' _) | with_reducible exact calls_later (hSS' _)) | (go_at_call 15; with_reducible exact calls_later (hRS' _))))
    | quiet_step (fail))
  refine wpQuiet_nil ?_
  intro w' hw'
  obtain ⟨⟨W3, hb3⟩, rfl⟩ := hw'
  have HB := hide (hB.trans (hb3.mono hB.size))
  clear C_0 C_1 C_2 C_3 C_4 C_5 C_6 C_7 C_8 C_9 C_10 C_11 D_0 D_1 D_2 D_3 D_4 D_5 D_6 D_7 D_8 D_9 D_10 D_11
  clear hb3 hB C D ii hA hR' hRR' hS' hRS' hSS'
  go_wp2
  go_ret
  exact ⟨by simp, unhide HB⟩
end

end Go.Proofs.Ytcahmnpoajnmpaa
