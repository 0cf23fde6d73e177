/-
  StoreNil returns true. No statement is proved here: the lifted text has it.
-/
import Derived.Test.YtcdehnghggleoaaViewA9
namespace Go.Proofs.Ytcdehnghggleoaa
open Go.RowKit
set_option linter.unusedVariables false

section
set_option maxRecDepth 100000
set_option maxHeartbeats 4000000

theorem fld9 (w : World) : (Instr.field 48 (.agg #[.slice none 0 0, .bool false, .int .i64 0, .int .i64 0, .string ⟨#[]⟩, .int .i64 0, .int .i64 0, .int .i64 0, .int .i64 0, .int .i64 0, .string ⟨#[]⟩, .bool false]) 1).run Try.prog w = .ok (.bool false) w := by
  first | kernel_rfl | (simp [Instr.field, go_sem, Try.underlying48])

theorem put9_nil (k : ByteArray) (i : Itn) (w : World) :
    Calls Try.prog 9 #[.pointer none, .string k, (.agg #[.int .i64 i.txn.id, .int .i64 i.txn.ep, .string i.txn.anchor, .int .i64 i.txn.start.1, .int .i64 i.txn.start.2, .int .i64 i.seq, .int .i64 i.at_.1, .int .i64 i.at_.2, .string i.val, .bool i.gone])] w fun e w' => e = .returned (.tuple #[.agg #[.int .i64 0, .int .i64 0], .agg #[.int .i64 0, .int .i64 0, .string ⟨#[]⟩, .int .i64 0, .int .i64 0], .int .i64 1]) ∧ Below w.heap.size w w' := put_nil k i w

theorem chain9_nil (k : ByteArray) (w : World) :
    Calls Try.prog 14 #[.pointer none, .string k] w fun e w' => e = .returned (.agg #[.slice none 0 0, .bool false, .int .i64 0, .int .i64 0, .string ⟨#[]⟩, .int .i64 0, .int .i64 0, .int .i64 0, .int .i64 0, .int .i64 0, .string ⟨#[]⟩, .bool false]) ∧ Below w.heap.size w w' := chain_nil k w

set_option maxHeartbeats 40000000 in
theorem walkStoreNil {w : World} (a0 : Value) (z : ActS) (ha : AcV9 a0 z) :
    Calls Try.prog 4 #[a0] w fun e w' => e = .returned (.bool true) ∧ Below w.heap.size w w' := by
  obtain ⟨rfl⟩ := ha
  have hF := fun w => fits9_any z w
  generalize fits9B z = ok at *
  have Z := Blk.new w #[.int .i64 z.kind, .int .i64 z.id, .int .i64 z.ep, .string z.key, .string z.f, .string z.t, .int .i64 z.itn.txn.id, .int .i64 z.itn.txn.ep, .string z.itn.txn.anchor, .int .i64 z.itn.txn.start.1, .int .i64 z.itn.txn.start.2, .int .i64 z.itn.seq, .int .i64 z.itn.at_.1, .int .i64 z.itn.at_.2, .string z.itn.val, .bool z.itn.gone, .bool z.commit, .int .i64 z.a0.1, .int .i64 z.a0.2, .int .i64 z.a1.1, .int .i64 z.a1.2] 35
  have hB : Below w.heap.size w (w.alloc (.cells #[.int .i64 z.kind, .int .i64 z.id, .int .i64 z.ep, .string z.key, .string z.f, .string z.t, .int .i64 z.itn.txn.id, .int .i64 z.itn.txn.ep, .string z.itn.txn.anchor, .int .i64 z.itn.txn.start.1, .int .i64 z.itn.txn.start.2, .int .i64 z.itn.seq, .int .i64 z.itn.at_.1, .int .i64 z.itn.at_.2, .string z.itn.val, .bool z.itn.gone, .bool z.commit, .int .i64 z.a0.1, .int .i64 z.a0.2, .int .i64 z.a1.1, .int .i64 z.a1.2] 35)) := (Below.refl w.heap.size w).alloc (Nat.le_refl _) _
  go_enter Try.func4, Try.ntmps4
  have hgW : (w.alloc (.cells #[.int .i64 z.kind, .int .i64 z.id, .int .i64 z.ep, .string z.key, .string z.f, .string z.t, .int .i64 z.itn.txn.id, .int .i64 z.itn.txn.ep, .string z.itn.txn.anchor, .int .i64 z.itn.txn.start.1, .int .i64 z.itn.txn.start.2, .int .i64 z.itn.seq, .int .i64 z.itn.at_.1, .int .i64 z.itn.at_.2, .string z.itn.val, .bool z.itn.gone, .bool z.commit, .int .i64 z.a0.1, .int .i64 z.a0.2, .int .i64 z.a1.1, .int .i64 z.a1.2] 35)).heap[w.heap.size]? = some (.cells #[.int .i64 z.kind, .int .i64 z.id, .int .i64 z.ep, .string z.key, .string z.f, .string z.t, .int .i64 z.itn.txn.id, .int .i64 z.itn.txn.ep, .string z.itn.txn.anchor, .int .i64 z.itn.txn.start.1, .int .i64 z.itn.txn.start.2, .int .i64 z.itn.seq, .int .i64 z.itn.at_.1, .int .i64 z.itn.at_.2, .string z.itn.val, .bool z.itn.gone, .bool z.commit, .int .i64 z.a0.1, .int .i64 z.a0.2, .int .i64 z.a1.1, .int .i64 z.a1.2] 35 (0, 0)) := World.alloc_heap_new w _
  go_wp2_with (refine wpList_load_row rfl 35 _ rfl w.heap.size rfl 35 _ (0, 0) _ hgW Try.underlying35 rfl (by kernel_rfl) ?_)
  clear hgW
  generalize w.alloc _ = W at *
  refine (hF _).mono ?_
  rintro e w1 ⟨rfl, hb1⟩
  replace Z := Z.later hb1
  replace hB := hB.trans (hb1.mono hB.size)
  clear hb1
  clear hF
  cases ok
  · go_wp2_with fail
    refine (alive9_any _).mono ?_
    rintro e w2 ⟨rfl, hb2⟩
    go_wp2
    go_ret
    exact ⟨rfl, hB.trans (hb2.mono hB.size)⟩
  · have Z_0 := Z.c 0; have Z_1 := Z.c 1; have Z_2 := Z.c 2; have Z_3 := Z.c 3; have Z_4 := Z.c 4; have Z_5 := Z.c 5; have Z_6 := Z.c 6; have Z_7 := Z.c 7; have Z_8 := Z.c 8; have Z_9 := Z.c 9; have Z_10 := Z.c 10; have Z_11 := Z.c 11; have Z_12 := Z.c 12; have Z_13 := Z.c 13; have Z_14 := Z.c 14; have Z_15 := Z.c 15; have Z_16 := Z.c 16; have Z_17 := Z.c 17; have Z_18 := Z.c 18; have Z_19 := Z.c 19; have Z_20 := Z.c 20; simp only [List.getElem?_cons_zero, List.getElem?_cons_succ] at Z_0 Z_1 Z_2 Z_3 Z_4 Z_5 Z_6 Z_7 Z_8 Z_9 Z_10 Z_11 Z_12 Z_13 Z_14 Z_15 Z_16 Z_17 Z_18 Z_19 Z_20
    go_wp2_with fail
    refine (read9_nil z.f z.t z.a0 z.a1 z.id z.ep _).mono ?_
    rintro e w2 ⟨rfl, hb2⟩
    clear Z_0 Z_1 Z_2 Z_3 Z_4 Z_5 Z_6 Z_7 Z_8 Z_9 Z_10 Z_11 Z_12 Z_13 Z_14 Z_15 Z_16 Z_17 Z_18 Z_19 Z_20
    replace Z := Z.later hb2
    replace hB := hB.trans (hb2.mono hB.size)
    clear hb2
    have hBw := hB
    clear hB
    have R1 := (Blk.new w2 #[.int .i64 0, .int .i64 0] 28).alloc (.cells #[.int .i64 0, .int .i64 0, .string ⟨#[]⟩, .int .i64 0, .int .i64 0] 30)
    have R2 := Blk.new (w2.alloc (.cells #[.int .i64 0, .int .i64 0] 28)) #[.int .i64 0, .int .i64 0, .string ⟨#[]⟩, .int .i64 0, .int .i64 0] 30
    rw [show (w2.alloc (.cells #[.int .i64 0, .int .i64 0] 28)).heap.size = w2.heap.size + 1 by simp] at R2
    have hB : Below w2.heap.size w2 ((w2.alloc (.cells #[.int .i64 0, .int .i64 0] 28)).alloc (.cells #[.int .i64 0, .int .i64 0, .string ⟨#[]⟩, .int .i64 0, .int .i64 0] 30)) := ((Below.refl w2.heap.size w2).alloc (Nat.le_refl _) _).alloc (by simp) _
    replace Z := Z.later hB
    replace hB := hBw.trans (hB.mono hBw.size)
    clear hBw
    have Z_0 := Z.c 0; have Z_1 := Z.c 1; have Z_2 := Z.c 2; have Z_3 := Z.c 3; have Z_4 := Z.c 4; have Z_5 := Z.c 5; have Z_6 := Z.c 6; have Z_7 := Z.c 7; have Z_8 := Z.c 8; have Z_9 := Z.c 9; have Z_10 := Z.c 10; have Z_11 := Z.c 11; have Z_12 := Z.c 12; have Z_13 := Z.c 13; have Z_14 := Z.c 14; have Z_15 := Z.c 15; have Z_16 := Z.c 16; have Z_17 := Z.c 17; have Z_18 := Z.c 18; have Z_19 := Z.c 19; have Z_20 := Z.c 20; simp only [List.getElem?_cons_zero, List.getElem?_cons_succ] at Z_0 Z_1 Z_2 Z_3 Z_4 Z_5 Z_6 Z_7 Z_8 Z_9 Z_10 Z_11 Z_12 Z_13 Z_14 Z_15 Z_16 Z_17 Z_18 Z_19 Z_20
    clear R1 R2
    go_wp2_with fail
    generalize (w2.alloc _).alloc _ = w3 at *
    refine (put9_nil z.key z.itn _).mono ?_
    rintro e w4 ⟨rfl, hb4⟩
    clear Z_0 Z_1 Z_2 Z_3 Z_4 Z_5 Z_6 Z_7 Z_8 Z_9 Z_10 Z_11 Z_12 Z_13 Z_14 Z_15 Z_16 Z_17 Z_18 Z_19 Z_20
    replace Z := Z.later hb4
    replace hB := hB.trans (hb4.mono hB.size)
    clear hb4
    have hBw := hB
    clear hB
    have R1 := (Blk.new w4 #[.int .i64 0, .int .i64 0] 28).alloc (.cells #[.int .i64 0, .int .i64 0, .string ⟨#[]⟩, .int .i64 0, .int .i64 0] 30)
    have R2 := Blk.new (w4.alloc (.cells #[.int .i64 0, .int .i64 0] 28)) #[.int .i64 0, .int .i64 0, .string ⟨#[]⟩, .int .i64 0, .int .i64 0] 30
    rw [show (w4.alloc (.cells #[.int .i64 0, .int .i64 0] 28)).heap.size = w4.heap.size + 1 by simp] at R2
    have hB : Below w4.heap.size w4 ((w4.alloc (.cells #[.int .i64 0, .int .i64 0] 28)).alloc (.cells #[.int .i64 0, .int .i64 0, .string ⟨#[]⟩, .int .i64 0, .int .i64 0] 30)) := ((Below.refl w4.heap.size w4).alloc (Nat.le_refl _) _).alloc (by simp) _
    replace Z := Z.later hB
    replace hB := hBw.trans (hB.mono hBw.size)
    clear hBw
    have Z_0 := Z.c 0; have Z_1 := Z.c 1; have Z_2 := Z.c 2; have Z_3 := Z.c 3; have Z_4 := Z.c 4; have Z_5 := Z.c 5; have Z_6 := Z.c 6; have Z_7 := Z.c 7; have Z_8 := Z.c 8; have Z_9 := Z.c 9; have Z_10 := Z.c 10; have Z_11 := Z.c 11; have Z_12 := Z.c 12; have Z_13 := Z.c 13; have Z_14 := Z.c 14; have Z_15 := Z.c 15; have Z_16 := Z.c 16; have Z_17 := Z.c 17; have Z_18 := Z.c 18; have Z_19 := Z.c 19; have Z_20 := Z.c 20; simp only [List.getElem?_cons_zero, List.getElem?_cons_succ] at Z_0 Z_1 Z_2 Z_3 Z_4 Z_5 Z_6 Z_7 Z_8 Z_9 Z_10 Z_11 Z_12 Z_13 Z_14 Z_15 Z_16 Z_17 Z_18 Z_19 Z_20
    clear R1 R2
    go_wp2_with fail
    generalize (w4.alloc _).alloc _ = w5 at *
    refine (resolve9_nil z.f z.t z.id z.ep z.commit z.a0 _).mono ?_
    rintro e w6 ⟨rfl, hb6⟩
    clear Z_0 Z_1 Z_2 Z_3 Z_4 Z_5 Z_6 Z_7 Z_8 Z_9 Z_10 Z_11 Z_12 Z_13 Z_14 Z_15 Z_16 Z_17 Z_18 Z_19 Z_20
    replace Z := Z.later hb6
    replace hB := hB.trans (hb6.mono hB.size)
    clear hb6
    have Z_0 := Z.c 0; have Z_1 := Z.c 1; have Z_2 := Z.c 2; have Z_3 := Z.c 3; have Z_4 := Z.c 4; have Z_5 := Z.c 5; have Z_6 := Z.c 6; have Z_7 := Z.c 7; have Z_8 := Z.c 8; have Z_9 := Z.c 9; have Z_10 := Z.c 10; have Z_11 := Z.c 11; have Z_12 := Z.c 12; have Z_13 := Z.c 13; have Z_14 := Z.c 14; have Z_15 := Z.c 15; have Z_16 := Z.c 16; have Z_17 := Z.c 17; have Z_18 := Z.c 18; have Z_19 := Z.c 19; have Z_20 := Z.c 20; simp only [List.getElem?_cons_zero, List.getElem?_cons_succ] at Z_0 Z_1 Z_2 Z_3 Z_4 Z_5 Z_6 Z_7 Z_8 Z_9 Z_10 Z_11 Z_12 Z_13 Z_14 Z_15 Z_16 Z_17 Z_18 Z_19 Z_20
    go_wp2_with fail
    refine (refresh9_nil z.f z.t z.id z.a0 z.a1 _).mono ?_
    rintro e w7 ⟨rfl, hb7⟩
    clear Z_0 Z_1 Z_2 Z_3 Z_4 Z_5 Z_6 Z_7 Z_8 Z_9 Z_10 Z_11 Z_12 Z_13 Z_14 Z_15 Z_16 Z_17 Z_18 Z_19 Z_20
    replace Z := Z.later hb7
    replace hB := hB.trans (hb7.mono hB.size)
    clear hb7
    have hBw := hB
    clear hB
    have R2 := Blk.new w7 #[.int .i64 0, .int .i64 0, .string ⟨#[]⟩, .int .i64 0, .int .i64 0] 30
    have hB : Below w7.heap.size w7 (w7.alloc (.cells #[.int .i64 0, .int .i64 0, .string ⟨#[]⟩, .int .i64 0, .int .i64 0] 30)) := (Below.refl w7.heap.size w7).alloc (Nat.le_refl _) _
    replace Z := Z.later hB
    replace hB := hBw.trans (hB.mono hBw.size)
    clear hBw
    have Z_0 := Z.c 0; have Z_1 := Z.c 1; have Z_2 := Z.c 2; have Z_3 := Z.c 3; have Z_4 := Z.c 4; have Z_5 := Z.c 5; have Z_6 := Z.c 6; have Z_7 := Z.c 7; have Z_8 := Z.c 8; have Z_9 := Z.c 9; have Z_10 := Z.c 10; have Z_11 := Z.c 11; have Z_12 := Z.c 12; have Z_13 := Z.c 13; have Z_14 := Z.c 14; have Z_15 := Z.c 15; have Z_16 := Z.c 16; have Z_17 := Z.c 17; have Z_18 := Z.c 18; have Z_19 := Z.c 19; have Z_20 := Z.c 20; simp only [List.getElem?_cons_zero, List.getElem?_cons_succ] at Z_0 Z_1 Z_2 Z_3 Z_4 Z_5 Z_6 Z_7 Z_8 Z_9 Z_10 Z_11 Z_12 Z_13 Z_14 Z_15 Z_16 Z_17 Z_18 Z_19 Z_20
    clear R2
    go_wp2_with fail
    generalize w7.alloc _ = w8 at *
    refine (alive9_any _).mono ?_
    rintro e w9 ⟨rfl, hb9⟩
    clear Z_0 Z_1 Z_2 Z_3 Z_4 Z_5 Z_6 Z_7 Z_8 Z_9 Z_10 Z_11 Z_12 Z_13 Z_14 Z_15 Z_16 Z_17 Z_18 Z_19 Z_20
    replace Z := Z.later hb9
    replace hB := hB.trans (hb9.mono hB.size)
    clear hb9
    have Z_0 := Z.c 0; have Z_1 := Z.c 1; have Z_2 := Z.c 2; have Z_3 := Z.c 3; have Z_4 := Z.c 4; have Z_5 := Z.c 5; have Z_6 := Z.c 6; have Z_7 := Z.c 7; have Z_8 := Z.c 8; have Z_9 := Z.c 9; have Z_10 := Z.c 10; have Z_11 := Z.c 11; have Z_12 := Z.c 12; have Z_13 := Z.c 13; have Z_14 := Z.c 14; have Z_15 := Z.c 15; have Z_16 := Z.c 16; have Z_17 := Z.c 17; have Z_18 := Z.c 18; have Z_19 := Z.c 19; have Z_20 := Z.c 20; simp only [List.getElem?_cons_zero, List.getElem?_cons_succ] at Z_0 Z_1 Z_2 Z_3 Z_4 Z_5 Z_6 Z_7 Z_8 Z_9 Z_10 Z_11 Z_12 Z_13 Z_14 Z_15 Z_16 Z_17 Z_18 Z_19 Z_20
    go_wp2_with fail
    refine (query9_nil z.key z.id z.ep 0 z.a0 _).mono ?_
    rintro e w10 ⟨rfl, hb10⟩
    clear Z_0 Z_1 Z_2 Z_3 Z_4 Z_5 Z_6 Z_7 Z_8 Z_9 Z_10 Z_11 Z_12 Z_13 Z_14 Z_15 Z_16 Z_17 Z_18 Z_19 Z_20
    replace Z := Z.later hb10
    replace hB := hB.trans (hb10.mono hB.size)
    clear hb10
    have Z_0 := Z.c 0; have Z_1 := Z.c 1; have Z_2 := Z.c 2; have Z_3 := Z.c 3; have Z_4 := Z.c 4; have Z_5 := Z.c 5; have Z_6 := Z.c 6; have Z_7 := Z.c 7; have Z_8 := Z.c 8; have Z_9 := Z.c 9; have Z_10 := Z.c 10; have Z_11 := Z.c 11; have Z_12 := Z.c 12; have Z_13 := Z.c 13; have Z_14 := Z.c 14; have Z_15 := Z.c 15; have Z_16 := Z.c 16; have Z_17 := Z.c 17; have Z_18 := Z.c 18; have Z_19 := Z.c 19; have Z_20 := Z.c 20; simp only [List.getElem?_cons_zero, List.getElem?_cons_succ] at Z_0 Z_1 Z_2 Z_3 Z_4 Z_5 Z_6 Z_7 Z_8 Z_9 Z_10 Z_11 Z_12 Z_13 Z_14 Z_15 Z_16 Z_17 Z_18 Z_19 Z_20
    go_wp2_with fail
    refine (keysm_nil _).mono ?_
    rintro e w11 ⟨rfl, hb11⟩
    clear Z_0 Z_1 Z_2 Z_3 Z_4 Z_5 Z_6 Z_7 Z_8 Z_9 Z_10 Z_11 Z_12 Z_13 Z_14 Z_15 Z_16 Z_17 Z_18 Z_19 Z_20
    replace Z := Z.later hb11
    replace hB := hB.trans (hb11.mono hB.size)
    clear hb11
    have Z_0 := Z.c 0; have Z_1 := Z.c 1; have Z_2 := Z.c 2; have Z_3 := Z.c 3; have Z_4 := Z.c 4; have Z_5 := Z.c 5; have Z_6 := Z.c 6; have Z_7 := Z.c 7; have Z_8 := Z.c 8; have Z_9 := Z.c 9; have Z_10 := Z.c 10; have Z_11 := Z.c 11; have Z_12 := Z.c 12; have Z_13 := Z.c 13; have Z_14 := Z.c 14; have Z_15 := Z.c 15; have Z_16 := Z.c 16; have Z_17 := Z.c 17; have Z_18 := Z.c 18; have Z_19 := Z.c 19; have Z_20 := Z.c 20; simp only [List.getElem?_cons_zero, List.getElem?_cons_succ] at Z_0 Z_1 Z_2 Z_3 Z_4 Z_5 Z_6 Z_7 Z_8 Z_9 Z_10 Z_11 Z_12 Z_13 Z_14 Z_15 Z_16 Z_17 Z_18 Z_19 Z_20
    go_wp2_with fail
    have hfl := fld9
    refine (chain9_nil z.key _).mono ?_
    rintro e w12 ⟨rfl, hb12⟩
    clear Z_0 Z_1 Z_2 Z_3 Z_4 Z_5 Z_6 Z_7 Z_8 Z_9 Z_10 Z_11 Z_12 Z_13 Z_14 Z_15 Z_16 Z_17 Z_18 Z_19 Z_20
    replace Z := Z.later hb12
    replace hB := hB.trans (hb12.mono hB.size)
    clear hb12
    go_wp2_with fail
    refine (bytes9_nil _).mono ?_
    rintro e w13 ⟨rfl, hb13⟩
    replace Z := Z.later hb13
    replace hB := hB.trans (hb13.mono hB.size)
    clear hb13
    go_wp2_with fail
    refine (copy9_nil _).mono ?_
    rintro e w14 ⟨rfl, hb14⟩
    replace Z := Z.later hb14
    replace hB := hB.trans (hb14.mono hB.size)
    clear hb14
    go_wp2
    go_ret
    exact ⟨rfl, hB⟩
end

end Go.Proofs.Ytcdehnghggleoaa
