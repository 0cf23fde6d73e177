/-
  No store. No law is proved here.
-/
import Derived.Test.YtcdehnghggleoaaGn8
namespace Go.Proofs.Ytcdehnghggleoaa
open Go.RowKit Go.Maps
set_option linter.unusedVariables false

section
set_option maxRecDepth 100000
set_option maxHeartbeats 2000000
theorem read9_nil (f t : ByteArray) (at' li : Stp) (id ep : Int) (w : World) :
    Calls Try.prog 16 #[.pointer none, .agg #[.string f, .string t], (.agg #[.int .i64 (at').1, .int .i64 (at').2]), (.agg #[.int .i64 li.1, .int .i64 li.2]), .int .i64 id, .int .i64 ep] w fun e w' => e = .returned (.tuple #[.slice none 0 0, .agg #[.int .i64 0, .int .i64 0], .agg #[.int .i64 0, .int .i64 0, .string ⟨#[]⟩, .int .i64 0, .int .i64 0], .int .i64 1]) ∧ Below w.heap.size w w' := by
  have hM := fun w' => maygo_nil f t w'
  have QX := ((((((((Blk.new w #[.string f, .string t] 26).alloc (.cells #[.int .i64 (at').1, .int .i64 (at').2] 28)).alloc (.cells #[.int .i64 li.1, .int .i64 li.2] 28)).alloc (.cells #[.int .i64 id] 3)).alloc (.cells #[.int .i64 ep] 3)).alloc (.cells #[.slice none 0 0] 51)).alloc (.cells #[.int .i64 0, .int .i64 0] 28)).alloc (.cells #[.int .i64 0, .int .i64 0, .string ⟨#[]⟩, .int .i64 0, .int .i64 0] 30)).alloc (.cells #[.int .i64 0] 37)
  have QA := (((((((Blk.new (w.alloc (.cells #[.string f, .string t] 26)) #[.int .i64 (at').1, .int .i64 (at').2] 28).alloc (.cells #[.int .i64 li.1, .int .i64 li.2] 28)).alloc (.cells #[.int .i64 id] 3)).alloc (.cells #[.int .i64 ep] 3)).alloc (.cells #[.slice none 0 0] 51)).alloc (.cells #[.int .i64 0, .int .i64 0] 28)).alloc (.cells #[.int .i64 0, .int .i64 0, .string ⟨#[]⟩, .int .i64 0, .int .i64 0] 30)).alloc (.cells #[.int .i64 0] 37)
  rw [show (w.alloc (.cells #[.string f, .string t] 26)).heap.size = w.heap.size + 1 by simp] at QA
  have QL := ((((((Blk.new ((w.alloc (.cells #[.string f, .string t] 26)).alloc (.cells #[.int .i64 (at').1, .int .i64 (at').2] 28)) #[.int .i64 li.1, .int .i64 li.2] 28).alloc (.cells #[.int .i64 id] 3)).alloc (.cells #[.int .i64 ep] 3)).alloc (.cells #[.slice none 0 0] 51)).alloc (.cells #[.int .i64 0, .int .i64 0] 28)).alloc (.cells #[.int .i64 0, .int .i64 0, .string ⟨#[]⟩, .int .i64 0, .int .i64 0] 30)).alloc (.cells #[.int .i64 0] 37)
  rw [show ((w.alloc (.cells #[.string f, .string t] 26)).alloc (.cells #[.int .i64 (at').1, .int .i64 (at').2] 28)).heap.size = w.heap.size + 1 + 1 by simp] at QL
  have QI := (((((Blk.new (((w.alloc (.cells #[.string f, .string t] 26)).alloc (.cells #[.int .i64 (at').1, .int .i64 (at').2] 28)).alloc (.cells #[.int .i64 li.1, .int .i64 li.2] 28)) #[.int .i64 id] 3).alloc (.cells #[.int .i64 ep] 3)).alloc (.cells #[.slice none 0 0] 51)).alloc (.cells #[.int .i64 0, .int .i64 0] 28)).alloc (.cells #[.int .i64 0, .int .i64 0, .string ⟨#[]⟩, .int .i64 0, .int .i64 0] 30)).alloc (.cells #[.int .i64 0] 37)
  rw [show (((w.alloc (.cells #[.string f, .string t] 26)).alloc (.cells #[.int .i64 (at').1, .int .i64 (at').2] 28)).alloc (.cells #[.int .i64 li.1, .int .i64 li.2] 28)).heap.size = w.heap.size + 1 + 1 + 1 by simp] at QI
  have QE := ((((Blk.new ((((w.alloc (.cells #[.string f, .string t] 26)).alloc (.cells #[.int .i64 (at').1, .int .i64 (at').2] 28)).alloc (.cells #[.int .i64 li.1, .int .i64 li.2] 28)).alloc (.cells #[.int .i64 id] 3)) #[.int .i64 ep] 3).alloc (.cells #[.slice none 0 0] 51)).alloc (.cells #[.int .i64 0, .int .i64 0] 28)).alloc (.cells #[.int .i64 0, .int .i64 0, .string ⟨#[]⟩, .int .i64 0, .int .i64 0] 30)).alloc (.cells #[.int .i64 0] 37)
  rw [show ((((w.alloc (.cells #[.string f, .string t] 26)).alloc (.cells #[.int .i64 (at').1, .int .i64 (at').2] 28)).alloc (.cells #[.int .i64 li.1, .int .i64 li.2] 28)).alloc (.cells #[.int .i64 id] 3)).heap.size = w.heap.size + 1 + 1 + 1 + 1 by simp] at QE
  have QP := (((Blk.new (((((w.alloc (.cells #[.string f, .string t] 26)).alloc (.cells #[.int .i64 (at').1, .int .i64 (at').2] 28)).alloc (.cells #[.int .i64 li.1, .int .i64 li.2] 28)).alloc (.cells #[.int .i64 id] 3)).alloc (.cells #[.int .i64 ep] 3)) #[.slice none 0 0] 51).alloc (.cells #[.int .i64 0, .int .i64 0] 28)).alloc (.cells #[.int .i64 0, .int .i64 0, .string ⟨#[]⟩, .int .i64 0, .int .i64 0] 30)).alloc (.cells #[.int .i64 0] 37)
  rw [show (((((w.alloc (.cells #[.string f, .string t] 26)).alloc (.cells #[.int .i64 (at').1, .int .i64 (at').2] 28)).alloc (.cells #[.int .i64 li.1, .int .i64 li.2] 28)).alloc (.cells #[.int .i64 id] 3)).alloc (.cells #[.int .i64 ep] 3)).heap.size = w.heap.size + 1 + 1 + 1 + 1 + 1 by simp] at QP
  have QS := ((Blk.new ((((((w.alloc (.cells #[.string f, .string t] 26)).alloc (.cells #[.int .i64 (at').1, .int .i64 (at').2] 28)).alloc (.cells #[.int .i64 li.1, .int .i64 li.2] 28)).alloc (.cells #[.int .i64 id] 3)).alloc (.cells #[.int .i64 ep] 3)).alloc (.cells #[.slice none 0 0] 51)) #[.int .i64 0, .int .i64 0] 28).alloc (.cells #[.int .i64 0, .int .i64 0, .string ⟨#[]⟩, .int .i64 0, .int .i64 0] 30)).alloc (.cells #[.int .i64 0] 37)
  rw [show ((((((w.alloc (.cells #[.string f, .string t] 26)).alloc (.cells #[.int .i64 (at').1, .int .i64 (at').2] 28)).alloc (.cells #[.int .i64 li.1, .int .i64 li.2] 28)).alloc (.cells #[.int .i64 id] 3)).alloc (.cells #[.int .i64 ep] 3)).alloc (.cells #[.slice none 0 0] 51)).heap.size = w.heap.size + 1 + 1 + 1 + 1 + 1 + 1 by simp] at QS
  have QM := (Blk.new (((((((w.alloc (.cells #[.string f, .string t] 26)).alloc (.cells #[.int .i64 (at').1, .int .i64 (at').2] 28)).alloc (.cells #[.int .i64 li.1, .int .i64 li.2] 28)).alloc (.cells #[.int .i64 id] 3)).alloc (.cells #[.int .i64 ep] 3)).alloc (.cells #[.slice none 0 0] 51)).alloc (.cells #[.int .i64 0, .int .i64 0] 28)) #[.int .i64 0, .int .i64 0, .string ⟨#[]⟩, .int .i64 0, .int .i64 0] 30).alloc (.cells #[.int .i64 0] 37)
  rw [show (((((((w.alloc (.cells #[.string f, .string t] 26)).alloc (.cells #[.int .i64 (at').1, .int .i64 (at').2] 28)).alloc (.cells #[.int .i64 li.1, .int .i64 li.2] 28)).alloc (.cells #[.int .i64 id] 3)).alloc (.cells #[.int .i64 ep] 3)).alloc (.cells #[.slice none 0 0] 51)).alloc (.cells #[.int .i64 0, .int .i64 0] 28)).heap.size = w.heap.size + 1 + 1 + 1 + 1 + 1 + 1 + 1 by simp] at QM
  have QR := Blk.new ((((((((w.alloc (.cells #[.string f, .string t] 26)).alloc (.cells #[.int .i64 (at').1, .int .i64 (at').2] 28)).alloc (.cells #[.int .i64 li.1, .int .i64 li.2] 28)).alloc (.cells #[.int .i64 id] 3)).alloc (.cells #[.int .i64 ep] 3)).alloc (.cells #[.slice none 0 0] 51)).alloc (.cells #[.int .i64 0, .int .i64 0] 28)).alloc (.cells #[.int .i64 0, .int .i64 0, .string ⟨#[]⟩, .int .i64 0, .int .i64 0] 30)) #[.int .i64 0] 37
  rw [show ((((((((w.alloc (.cells #[.string f, .string t] 26)).alloc (.cells #[.int .i64 (at').1, .int .i64 (at').2] 28)).alloc (.cells #[.int .i64 li.1, .int .i64 li.2] 28)).alloc (.cells #[.int .i64 id] 3)).alloc (.cells #[.int .i64 ep] 3)).alloc (.cells #[.slice none 0 0] 51)).alloc (.cells #[.int .i64 0, .int .i64 0] 28)).alloc (.cells #[.int .i64 0, .int .i64 0, .string ⟨#[]⟩, .int .i64 0, .int .i64 0] 30)).heap.size = w.heap.size + 1 + 1 + 1 + 1 + 1 + 1 + 1 + 1 by simp] at QR
  have hB : Below w.heap.size w (((((((((w.alloc (.cells #[.string f, .string t] 26)).alloc (.cells #[.int .i64 (at').1, .int .i64 (at').2] 28)).alloc (.cells #[.int .i64 li.1, .int .i64 li.2] 28)).alloc (.cells #[.int .i64 id] 3)).alloc (.cells #[.int .i64 ep] 3)).alloc (.cells #[.slice none 0 0] 51)).alloc (.cells #[.int .i64 0, .int .i64 0] 28)).alloc (.cells #[.int .i64 0, .int .i64 0, .string ⟨#[]⟩, .int .i64 0, .int .i64 0] 30)).alloc (.cells #[.int .i64 0] 37)) := (((((((((Below.refl w.heap.size w).alloc (Nat.le_refl _) _).alloc (by simp) _).alloc (by simp; omega) _).alloc (by simp; omega) _).alloc (by simp; omega) _).alloc (by simp; omega) _).alloc (by simp; omega) _).alloc (by simp; omega) _).alloc (by simp; omega) _
  refine (callsIn_wide (n := 6)).1 ?_
  refine callsIn_of_wp_marks Try.func16 rfl trivial ?_ rfl
  simp only [Try.ntmps16, List.size_toArray, List.length_cons, List.length_nil, Nat.reduceAdd, Nat.reduceSub, Array.replicate_succ, Array.replicate_zero, List.push_toArray, List.append_toArray, List.nil_append, List.cons_append]
  gi_wp2_with fail
  generalize ((((((((w.alloc _).alloc _).alloc _).alloc _).alloc _).alloc _).alloc _).alloc _).alloc _ = W at *
  refine ⟨trivial, (callsIn_wide.2 (hM _)).mono ?_⟩
  rintro e W1 ⟨rfl, hb1⟩
  replace hB := hB.trans (hb1.mono hB.size)
  replace QP := QP.later hb1
  replace QS := QS.later hb1
  replace QM := QM.later hb1
  replace QR := QR.later hb1
  clear hb1 hM QX QA QL QI QE
  have QM_0 := QM.c 0; have QM_1 := QM.c 1; have QM_2 := QM.c 2; have QM_3 := QM.c 3; have QM_4 := QM.c 4; simp only [List.getElem?_cons_zero, List.getElem?_cons_succ] at QM_0 QM_1 QM_2 QM_3 QM_4
  have QS_0 := QS.c 0; have QS_1 := QS.c 1; simp only [List.getElem?_cons_zero, List.getElem?_cons_succ] at QS_0 QS_1
  have QP_0 := QP.c 0; simp only [List.getElem?_cons_zero] at QP_0
  have QR_0 := QR.c 0; simp only [List.getElem?_cons_zero] at QR_0
  have QMf := QM.f
  have QSf := QS.f
  have QPf := QP.f
  have QRf := QR.f
  have HB := hide hB
  clear hB
  have HH := hide (And.intro QP (And.intro QS (And.intro QM QR)))
  clear QP QS QM QR
  gi_wp2
  obtain ⟨QP, QS, QM, QR⟩ := unhide HH
  obtain ⟨q1, q2, q3, q4⟩ := four QP QS QM QR [.slice none 0 0] [.int .i64 0, .int .i64 0] [.int .i64 0, .int .i64 0, .string ⟨#[]⟩, .int .i64 0, .int .i64 0] [.int .i64 1] rfl rfl rfl rfl ⟨by omega, by omega, by omega⟩
  exact ⟨_, results_r4 Try.results16 (.slice none 0 0) rfl (0, 0) Met.zero 1 rfl rfl rfl rfl q1 q2 q3 q4, rfl,
    below_setAll (by omega) [.int .i64 1] 0 (below_setAll (by omega) [.int .i64 0, .int .i64 0, .string ⟨#[]⟩, .int .i64 0, .int .i64 0] 0 (below_setAll (by omega) [.int .i64 0, .int .i64 0] 0 (below_setAll (by omega) [.slice none 0 0] 0 (unhide HB))))⟩

theorem resolve9_nil (f t : ByteArray) (id ep : Int) (cm : Bool) (at' : Stp) (w : World) :
    Calls Try.prog 10 #[.pointer none, .agg #[.string f, .string t], .int .i64 id, .int .i64 ep, .bool cm, (.agg #[.int .i64 (at').1, .int .i64 (at').2])] w fun e w' => e = .returned (.tuple #[.int .i64 0, .int .i64 1]) ∧ Below w.heap.size w w' := by
  have hM := fun w' => maygo_nil f t w'
  have QX := ((((((Blk.new w #[.string f, .string t] 26).alloc (.cells #[.int .i64 id] 3)).alloc (.cells #[.int .i64 ep] 3)).alloc (.cells #[.bool cm] 4)).alloc (.cells #[.int .i64 (at').1, .int .i64 (at').2] 28)).alloc (.cells #[.int .i64 0] 3)).alloc (.cells #[.int .i64 0] 37)
  have QI := (((((Blk.new (w.alloc (.cells #[.string f, .string t] 26)) #[.int .i64 id] 3).alloc (.cells #[.int .i64 ep] 3)).alloc (.cells #[.bool cm] 4)).alloc (.cells #[.int .i64 (at').1, .int .i64 (at').2] 28)).alloc (.cells #[.int .i64 0] 3)).alloc (.cells #[.int .i64 0] 37)
  rw [show (w.alloc (.cells #[.string f, .string t] 26)).heap.size = w.heap.size + 1 by simp] at QI
  have QE := ((((Blk.new ((w.alloc (.cells #[.string f, .string t] 26)).alloc (.cells #[.int .i64 id] 3)) #[.int .i64 ep] 3).alloc (.cells #[.bool cm] 4)).alloc (.cells #[.int .i64 (at').1, .int .i64 (at').2] 28)).alloc (.cells #[.int .i64 0] 3)).alloc (.cells #[.int .i64 0] 37)
  rw [show ((w.alloc (.cells #[.string f, .string t] 26)).alloc (.cells #[.int .i64 id] 3)).heap.size = w.heap.size + 1 + 1 by simp] at QE
  have QC := (((Blk.new (((w.alloc (.cells #[.string f, .string t] 26)).alloc (.cells #[.int .i64 id] 3)).alloc (.cells #[.int .i64 ep] 3)) #[.bool cm] 4).alloc (.cells #[.int .i64 (at').1, .int .i64 (at').2] 28)).alloc (.cells #[.int .i64 0] 3)).alloc (.cells #[.int .i64 0] 37)
  rw [show (((w.alloc (.cells #[.string f, .string t] 26)).alloc (.cells #[.int .i64 id] 3)).alloc (.cells #[.int .i64 ep] 3)).heap.size = w.heap.size + 1 + 1 + 1 by simp] at QC
  have QA := ((Blk.new ((((w.alloc (.cells #[.string f, .string t] 26)).alloc (.cells #[.int .i64 id] 3)).alloc (.cells #[.int .i64 ep] 3)).alloc (.cells #[.bool cm] 4)) #[.int .i64 (at').1, .int .i64 (at').2] 28).alloc (.cells #[.int .i64 0] 3)).alloc (.cells #[.int .i64 0] 37)
  rw [show ((((w.alloc (.cells #[.string f, .string t] 26)).alloc (.cells #[.int .i64 id] 3)).alloc (.cells #[.int .i64 ep] 3)).alloc (.cells #[.bool cm] 4)).heap.size = w.heap.size + 1 + 1 + 1 + 1 by simp] at QA
  have Q1 := (Blk.new (((((w.alloc (.cells #[.string f, .string t] 26)).alloc (.cells #[.int .i64 id] 3)).alloc (.cells #[.int .i64 ep] 3)).alloc (.cells #[.bool cm] 4)).alloc (.cells #[.int .i64 (at').1, .int .i64 (at').2] 28)) #[.int .i64 0] 3).alloc (.cells #[.int .i64 0] 37)
  rw [show (((((w.alloc (.cells #[.string f, .string t] 26)).alloc (.cells #[.int .i64 id] 3)).alloc (.cells #[.int .i64 ep] 3)).alloc (.cells #[.bool cm] 4)).alloc (.cells #[.int .i64 (at').1, .int .i64 (at').2] 28)).heap.size = w.heap.size + 1 + 1 + 1 + 1 + 1 by simp] at Q1
  have Q2 := Blk.new ((((((w.alloc (.cells #[.string f, .string t] 26)).alloc (.cells #[.int .i64 id] 3)).alloc (.cells #[.int .i64 ep] 3)).alloc (.cells #[.bool cm] 4)).alloc (.cells #[.int .i64 (at').1, .int .i64 (at').2] 28)).alloc (.cells #[.int .i64 0] 3)) #[.int .i64 0] 37
  rw [show ((((((w.alloc (.cells #[.string f, .string t] 26)).alloc (.cells #[.int .i64 id] 3)).alloc (.cells #[.int .i64 ep] 3)).alloc (.cells #[.bool cm] 4)).alloc (.cells #[.int .i64 (at').1, .int .i64 (at').2] 28)).alloc (.cells #[.int .i64 0] 3)).heap.size = w.heap.size + 1 + 1 + 1 + 1 + 1 + 1 by simp] at Q2
  have hB : Below w.heap.size w (((((((w.alloc (.cells #[.string f, .string t] 26)).alloc (.cells #[.int .i64 id] 3)).alloc (.cells #[.int .i64 ep] 3)).alloc (.cells #[.bool cm] 4)).alloc (.cells #[.int .i64 (at').1, .int .i64 (at').2] 28)).alloc (.cells #[.int .i64 0] 3)).alloc (.cells #[.int .i64 0] 37)) := (((((((Below.refl w.heap.size w).alloc (Nat.le_refl _) _).alloc (by simp) _).alloc (by simp; omega) _).alloc (by simp; omega) _).alloc (by simp; omega) _).alloc (by simp; omega) _).alloc (by simp; omega) _
  refine (callsIn_wide (n := 6)).1 ?_
  refine callsIn_of_wp_marks Try.func10 rfl trivial ?_ rfl
  simp only [Try.ntmps10, List.size_toArray, List.length_cons, List.length_nil, Nat.reduceAdd, Nat.reduceSub, Array.replicate_succ, Array.replicate_zero, List.push_toArray, List.append_toArray, List.nil_append, List.cons_append]
  gi_wp2_with fail
  generalize ((((((w.alloc _).alloc _).alloc _).alloc _).alloc _).alloc _).alloc _ = W at *
  refine ⟨trivial, (callsIn_wide.2 (hM _)).mono ?_⟩
  rintro e W1 ⟨rfl, hb1⟩
  replace hB := hB.trans (hb1.mono hB.size)
  replace Q1 := Q1.later hb1
  replace Q2 := Q2.later hb1
  clear hb1 hM QX QI QE QC QA
  have Q1_0 := Q1.c 0; simp only [List.getElem?_cons_zero] at Q1_0
  have Q2_0 := Q2.c 0; simp only [List.getElem?_cons_zero] at Q2_0
  have Q1f := Q1.f
  have Q2f := Q2.f
  have HB := hide hB
  clear hB
  have HH := hide (And.intro Q1 Q2)
  clear Q1 Q2
  gi_wp2
  obtain ⟨Q1, Q2⟩ := unhide HH
  obtain ⟨q1, q2⟩ := two Q1 Q2 [.int .i64 0] [.int .i64 1] rfl rfl (by omega)
  have hb := below_setAll (C := w.heap.size + 1 + 1 + 1 + 1 + 1 + 1) (by omega) [.int .i64 1] 0 (below_setAll (C := w.heap.size + 1 + 1 + 1 + 1 + 1) (by omega) [.int .i64 0] 0 (unhide HB))
  exact ⟨_, results_r2 Try.results10 0 1 rfl rfl q1 q2, rfl, hb⟩

theorem refresh9_nil (f t : ByteArray) (id : Int) (fr to : Stp) (w : World) :
    Calls Try.prog 17 #[.pointer none, .agg #[.string f, .string t], .int .i64 id, (.agg #[.int .i64 fr.1, .int .i64 fr.2]), (.agg #[.int .i64 to.1, .int .i64 to.2])] w fun e w' => e = .returned (.tuple #[.agg #[.int .i64 0, .int .i64 0, .string ⟨#[]⟩, .int .i64 0, .int .i64 0], .int .i64 1]) ∧ Below w.heap.size w w' := by
  have hM := fun w' => maygo_nil f t w'
  have QX := (((((Blk.new w #[.string f, .string t] 26).alloc (.cells #[.int .i64 id] 3)).alloc (.cells #[.int .i64 fr.1, .int .i64 fr.2] 28)).alloc (.cells #[.int .i64 to.1, .int .i64 to.2] 28)).alloc (.cells #[.int .i64 0, .int .i64 0, .string ⟨#[]⟩, .int .i64 0, .int .i64 0] 30)).alloc (.cells #[.int .i64 0] 37)
  have QI := ((((Blk.new (w.alloc (.cells #[.string f, .string t] 26)) #[.int .i64 id] 3).alloc (.cells #[.int .i64 fr.1, .int .i64 fr.2] 28)).alloc (.cells #[.int .i64 to.1, .int .i64 to.2] 28)).alloc (.cells #[.int .i64 0, .int .i64 0, .string ⟨#[]⟩, .int .i64 0, .int .i64 0] 30)).alloc (.cells #[.int .i64 0] 37)
  rw [show (w.alloc (.cells #[.string f, .string t] 26)).heap.size = w.heap.size + 1 by simp] at QI
  have QF := (((Blk.new ((w.alloc (.cells #[.string f, .string t] 26)).alloc (.cells #[.int .i64 id] 3)) #[.int .i64 fr.1, .int .i64 fr.2] 28).alloc (.cells #[.int .i64 to.1, .int .i64 to.2] 28)).alloc (.cells #[.int .i64 0, .int .i64 0, .string ⟨#[]⟩, .int .i64 0, .int .i64 0] 30)).alloc (.cells #[.int .i64 0] 37)
  rw [show ((w.alloc (.cells #[.string f, .string t] 26)).alloc (.cells #[.int .i64 id] 3)).heap.size = w.heap.size + 1 + 1 by simp] at QF
  have QT := ((Blk.new (((w.alloc (.cells #[.string f, .string t] 26)).alloc (.cells #[.int .i64 id] 3)).alloc (.cells #[.int .i64 fr.1, .int .i64 fr.2] 28)) #[.int .i64 to.1, .int .i64 to.2] 28).alloc (.cells #[.int .i64 0, .int .i64 0, .string ⟨#[]⟩, .int .i64 0, .int .i64 0] 30)).alloc (.cells #[.int .i64 0] 37)
  rw [show (((w.alloc (.cells #[.string f, .string t] 26)).alloc (.cells #[.int .i64 id] 3)).alloc (.cells #[.int .i64 fr.1, .int .i64 fr.2] 28)).heap.size = w.heap.size + 1 + 1 + 1 by simp] at QT
  have QM := (Blk.new ((((w.alloc (.cells #[.string f, .string t] 26)).alloc (.cells #[.int .i64 id] 3)).alloc (.cells #[.int .i64 fr.1, .int .i64 fr.2] 28)).alloc (.cells #[.int .i64 to.1, .int .i64 to.2] 28)) #[.int .i64 0, .int .i64 0, .string ⟨#[]⟩, .int .i64 0, .int .i64 0] 30).alloc (.cells #[.int .i64 0] 37)
  rw [show ((((w.alloc (.cells #[.string f, .string t] 26)).alloc (.cells #[.int .i64 id] 3)).alloc (.cells #[.int .i64 fr.1, .int .i64 fr.2] 28)).alloc (.cells #[.int .i64 to.1, .int .i64 to.2] 28)).heap.size = w.heap.size + 1 + 1 + 1 + 1 by simp] at QM
  have QR := Blk.new (((((w.alloc (.cells #[.string f, .string t] 26)).alloc (.cells #[.int .i64 id] 3)).alloc (.cells #[.int .i64 fr.1, .int .i64 fr.2] 28)).alloc (.cells #[.int .i64 to.1, .int .i64 to.2] 28)).alloc (.cells #[.int .i64 0, .int .i64 0, .string ⟨#[]⟩, .int .i64 0, .int .i64 0] 30)) #[.int .i64 0] 37
  rw [show (((((w.alloc (.cells #[.string f, .string t] 26)).alloc (.cells #[.int .i64 id] 3)).alloc (.cells #[.int .i64 fr.1, .int .i64 fr.2] 28)).alloc (.cells #[.int .i64 to.1, .int .i64 to.2] 28)).alloc (.cells #[.int .i64 0, .int .i64 0, .string ⟨#[]⟩, .int .i64 0, .int .i64 0] 30)).heap.size = w.heap.size + 1 + 1 + 1 + 1 + 1 by simp] at QR
  have hB : Below w.heap.size w ((((((w.alloc (.cells #[.string f, .string t] 26)).alloc (.cells #[.int .i64 id] 3)).alloc (.cells #[.int .i64 fr.1, .int .i64 fr.2] 28)).alloc (.cells #[.int .i64 to.1, .int .i64 to.2] 28)).alloc (.cells #[.int .i64 0, .int .i64 0, .string ⟨#[]⟩, .int .i64 0, .int .i64 0] 30)).alloc (.cells #[.int .i64 0] 37)) := ((((((Below.refl w.heap.size w).alloc (Nat.le_refl _) _).alloc (by simp) _).alloc (by simp; omega) _).alloc (by simp; omega) _).alloc (by simp; omega) _).alloc (by simp; omega) _
  refine (callsIn_wide (n := 6)).1 ?_
  refine callsIn_of_wp_marks Try.func17 rfl trivial ?_ rfl
  simp only [Try.ntmps17, List.size_toArray, List.length_cons, List.length_nil, Nat.reduceAdd, Nat.reduceSub, Array.replicate_succ, Array.replicate_zero, List.push_toArray, List.append_toArray, List.nil_append, List.cons_append]
  gi_wp2_with fail
  generalize (((((w.alloc _).alloc _).alloc _).alloc _).alloc _).alloc _ = W at *
  refine ⟨trivial, (callsIn_wide.2 (hM _)).mono ?_⟩
  rintro e W1 ⟨rfl, hb1⟩
  replace hB := hB.trans (hb1.mono hB.size)
  replace QM := QM.later hb1
  replace QR := QR.later hb1
  clear hb1 hM QX QI QF QT
  have hSW := QR.lt
  have hB0 := hB
  clear hB
  have VR := Blk.new W1 #[.int .i64 1] 37
  have hB : Below W1.heap.size W1 (W1.alloc (.cells #[.int .i64 1] 37)) := (Below.refl W1.heap.size W1).alloc (Nat.le_refl _) _
  replace QM := QM.later hB
  replace QR := QR.later hB
  have hB2 := hB0.trans (hB.mono hB0.size)
  clear hB hB0
  have VR_0 := VR.c 0; simp only [List.getElem?_cons_zero] at VR_0
  have QM_0 := QM.c 0; have QM_1 := QM.c 1; have QM_2 := QM.c 2; have QM_3 := QM.c 3; have QM_4 := QM.c 4; simp only [List.getElem?_cons_zero, List.getElem?_cons_succ] at QM_0 QM_1 QM_2 QM_3 QM_4
  have QR_0 := QR.c 0; simp only [List.getElem?_cons_zero] at QR_0
  have QMf := QM.f
  have QRf := QR.f
  have VRf := VR.f
  gi_upto_region 3 with fail
  generalize W1.alloc _ = W2 at *
  have HB := hide hB2
  have HH := hide (And.intro QM QR)
  clear hB2 QM QR
  refine wpIn_wide.2 ?_
  go_region
  gi_wp2
  obtain ⟨QM, QR⟩ := unhide HH
  obtain ⟨q1, q2⟩ := two QM QR [.int .i64 0, .int .i64 0, .string ⟨#[]⟩, .int .i64 0, .int .i64 0] [.int .i64 1] rfl rfl (by omega)
  have hb := below_setAll (C := w.heap.size + 1 + 1 + 1 + 1 + 1) (by omega) [.int .i64 1] 0 (below_setAll (C := w.heap.size + 1 + 1 + 1 + 1) (by omega) [.int .i64 0, .int .i64 0, .string ⟨#[]⟩, .int .i64 0, .int .i64 0] 0 (unhide HB))
  exact ⟨_, results_me9 Try.results17 Met.zero 1 rfl rfl q1.drew q2.drew, rfl, hb.drew⟩

theorem bytes9_nil (w : World) : Calls Try.prog 19 #[.pointer none] w fun e w' => e = .returned (.slice none 0 0) ∧ Below w.heap.size w w' := by
  go_enter Try.func19, Try.ntmps19
  go_wp2
  go_ret
  exact ⟨rfl, Below.refl _ _⟩

theorem copy9_nil (w : World) : Calls Try.prog 8 #[.pointer none] w fun e w' => e = .returned (.pointer none) ∧ Below w.heap.size w w' := by
  go_enter Try.func8, Try.ntmps8
  go_wp2
  go_ret
  exact ⟨rfl, Below.refl _ _⟩

theorem query9_nil (k : ByteArray) (id ep sq : Int) (a : Stp) (w : World) :
    Calls Try.prog 18 #[.pointer none, .string k, .int .i64 id, .int .i64 ep, .int .i64 sq, (.agg #[.int .i64 a.1, .int .i64 a.2])] w fun e w' => e = .returned (.bool false) ∧ Below w.heap.size w w' := by
  have hC := fun w' => chain_nil k w'
  have hq0 : queryC ⟨[], false, Itn.zero⟩ id ep sq a = false := rfl
  have hQ := fun w' => query_any none 0 0 false Itn.zero id ep sq a w'
  rw [hq0] at hQ
  clear hq0
  have A := Blk.new w #[.int .i64 a.1, .int .i64 a.2] 28
  have hB : Below w.heap.size w (w.alloc (.cells #[.int .i64 a.1, .int .i64 a.2] 28)) := (Below.refl w.heap.size w).alloc (Nat.le_refl _) _
  go_enter Try.func18, Try.ntmps18
  go_wp2_with fail
  generalize w.alloc _ = W at *
  have h0 := A.c 0
  have h1 := A.c 1
  simp only [List.getElem?_cons_zero, List.getElem?_cons_succ] at h0 h1
  have hlt := A.lt
  go_region_held (fun y => y.cell? ⟨w.heap.size, 0, none⟩ = some (.int .i64 a.1) ∧ y.cell? ⟨w.heap.size, 1, none⟩ = some (.int .i64 a.2)) (first | (refine ⟨?_, ?_⟩ <;> assumption) | go_keep) (first
    | (go_at_call 14; refine (hC _).mono ?_; rintro e Wc ⟨rfl, hbc⟩; have y1 := (hbc.cell (p := ⟨w.heap.size, 0, none⟩) hlt).trans h0; have y2 := (hbc.cell (p := ⟨w.heap.size, 1, none⟩) hlt).trans h1; have hltc := Nat.lt_of_lt_of_le hlt hbc.size; have HC := hide hbc; clear hbc)
    | (go_at_call 40; refine (hQ _).mono ?_; rintro e We ⟨rfl, hbe⟩; have z1 := (hbe.cell (p := ⟨w.heap.size, 0, none⟩) hltc).trans y1; have z2 := (hbe.cell (p := ⟨w.heap.size, 1, none⟩) hltc).trans y2; have HE := hide hbe; clear hbe))
  go_wp2
  go_ret
  have hb1 := hB.trans (Below.refl _ W).drew
  exact ⟨rfl, (hb1.trans ((unhide HC).mono hb1.size)).trans ((unhide HE).mono (Nat.le_trans hb1.size (unhide HC).size))⟩
end

end Go.Proofs.Ytcdehnghggleoaa
