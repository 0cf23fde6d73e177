/-
  Sr2, Sf, Sa0, Pf3, ViewP9: one behind the other. No law is proved here.
-/
import Derived.Test.YtcdehnghggleoaaGreatGz8
import Derived.Test.YtcdehnghggleoaaGreatGz10
import Derived.Conc.MuLone
import Derived.Deep.RegionHeld
import Derived.BigQuiet
import Derived.Deep.DeepCutAuto
import Derived.Test.YtcdehnghggleoaaGreatGz1
import Derived.ProofKit
import Derived.OpenShut
/-
  The contract of Resolve. No law is proved here.
-/
namespace Go.Proofs.YtcdehnghggleoaaGreat
open Go.RowKit Go.Maps
set_option linter.unusedVariables false
attribute [local go_sem] Oper.semAt_some

theorem absL_snoc (l : List Ent) (x : Ent) : absL (l ++ [x]) = absL l ++ [(x.key, x.c)] := by simp [absL]
theorem own_move {W W' : World} {b n : Nat} {D : DataW Value} (h : W.ownsMap Tryz.prog 9 rv b n D) (hb : W'.heap[b]? = W.heap[b]?) : W'.ownsMap Tryz.prog 9 rv b n D := by
  obtain ⟨es, clock, hb0, r⟩ := h
  exact ⟨es, clock, hb.trans hb0, r⟩
/-- Left at its end, and no otherwise. -/
def OnlyN (Q : Exit → Act → World → Prop) : Exit → Act → World → Prop
  | .normal, a, w => Q .normal a w
  | _, _, _ => False
theorem OnlyN.out {Q : Exit → Act → World → Prop} : ∀ e a w, OnlyN Q e a w → Q e a w := fun e a w h => by
  cases e <;> first | exact h | exact h.elim
theorem OnlyN.in {Q : Exit → Act → World → Prop} {a : Act} {w : World} (h : Q .normal a w) : OnlyN Q .normal a w := h
/-- After some rounds. -/
def RvP (w : World) (S1 N : Nat) (f t : ByteArray) (id ep : Int) (cm : Bool) (at' : Stp) (L : List Ent) (pre : List {e : Ent // e ∈ L}) (W : World) : Prop :=
  ∃ Ds : List Ent, (pre.map (·.1) <+: inE f t L → ∀ r, goV id ep cm at' [] (pre.map (·.1) ++ r) = goV id ep cm at' (absL Ds) r) ∧ (∀ z ∈ Ds, ∃ e ∈ pre.map (·.1), e.key = z.key) ∧ riseE Ds ∧ (∀ z ∈ Ds, z.c.vs.length ≤ N + 1) ∧ Ds.length ≤ pre.length ∧ RvI w S1 id ep cm at' Ds W
/-- A round has left for good. -/
def RvXP (w : World) (f t : ByteArray) (id ep : Int) (cm : Bool) (at' : Stp) (L : List Ent) (pre : List {e : Ent // e ∈ L}) (W : World) : Prop :=
  ∃ er, (pre.map (·.1) <+: inE f t L → ∀ r, goV id ep cm at' [] (pre.map (·.1) ++ r) = ([], er)) ∧ RvX w er W

section
set_option maxRecDepth 100000
set_option maxHeartbeats 2000000
/-- What Resolve answers, and what the store has then. -/
def RvAns (w : World) (a b N : Nat) (L : List Ent) (R : List KC × Int) (e : Ending) (w' : World) : Prop :=
  ∃ L', e = .returned (.tuple #[.int .i64 R.1.length, .int .i64 R.2]) ∧ Sto w' a b L' ∧ Room w' b L' (N + 1) ∧ resL L L' R.1 ∧ w.grownBy w' (some b)

theorem resolve9_any (a b N : Nat) (L : List Ent) (f t : ByteArray) (id ep : Int) (cm : Bool) (at' : Stp) (w : World) (h : Sto w a b L) (hroom : Room w b L N) (hN : N < 1000000) :
    Calls Tryz.prog 12 #[.pointer (some ⟨a, 0, none⟩), .agg #[.string f, .string t], .int .i64 id, .int .i64 ep, .bool cm, (.agg #[.int .i64 (at').1, .int .i64 (at').2])] w (RvAns w a b N L (resA f t id ep cm at' L)) := by
  have hM := fun w' => maygo_any ⟨a, 0, none⟩ f t w'
  have hroom' : Room w b L (N + 1) := ⟨by obtain ⟨n, h1, h2⟩ := hroom.1; exact ⟨n, h1, by omega⟩, fun e he => by have := hroom.2 e he; omega⟩
  obtain ⟨R, hR⟩ : ∃ R, resA f t id ep cm at' L = R := ⟨_, rfl⟩
  rw [hR]
  have HR := hide hR
  clear hR
  generalize hz : S5.rightB f t = z at *
  have QX := ((((((Blk.new w #[.string f, .string t] 47).alloc (.cells #[.int .i64 id] 3)).alloc (.cells #[.int .i64 ep] 3)).alloc (.cells #[.bool cm] 4)).alloc (.cells #[.int .i64 (at').1, .int .i64 (at').2] 36)).alloc (.cells #[.int .i64 0] 3)).alloc (.cells #[.int .i64 0] 25)
  have QI := (((((Blk.new (w.alloc (.cells #[.string f, .string t] 47)) #[.int .i64 id] 3).alloc (.cells #[.int .i64 ep] 3)).alloc (.cells #[.bool cm] 4)).alloc (.cells #[.int .i64 (at').1, .int .i64 (at').2] 36)).alloc (.cells #[.int .i64 0] 3)).alloc (.cells #[.int .i64 0] 25)
  rw [show (w.alloc (.cells #[.string f, .string t] 47)).heap.size = w.heap.size + 1 by simp] at QI
  have QE := ((((Blk.new ((w.alloc (.cells #[.string f, .string t] 47)).alloc (.cells #[.int .i64 id] 3)) #[.int .i64 ep] 3).alloc (.cells #[.bool cm] 4)).alloc (.cells #[.int .i64 (at').1, .int .i64 (at').2] 36)).alloc (.cells #[.int .i64 0] 3)).alloc (.cells #[.int .i64 0] 25)
  rw [show ((w.alloc (.cells #[.string f, .string t] 47)).alloc (.cells #[.int .i64 id] 3)).heap.size = w.heap.size + 1 + 1 by simp] at QE
  have QC := (((Blk.new (((w.alloc (.cells #[.string f, .string t] 47)).alloc (.cells #[.int .i64 id] 3)).alloc (.cells #[.int .i64 ep] 3)) #[.bool cm] 4).alloc (.cells #[.int .i64 (at').1, .int .i64 (at').2] 36)).alloc (.cells #[.int .i64 0] 3)).alloc (.cells #[.int .i64 0] 25)
  rw [show (((w.alloc (.cells #[.string f, .string t] 47)).alloc (.cells #[.int .i64 id] 3)).alloc (.cells #[.int .i64 ep] 3)).heap.size = w.heap.size + 1 + 1 + 1 by simp] at QC
  have QA := ((Blk.new ((((w.alloc (.cells #[.string f, .string t] 47)).alloc (.cells #[.int .i64 id] 3)).alloc (.cells #[.int .i64 ep] 3)).alloc (.cells #[.bool cm] 4)) #[.int .i64 (at').1, .int .i64 (at').2] 36).alloc (.cells #[.int .i64 0] 3)).alloc (.cells #[.int .i64 0] 25)
  rw [show ((((w.alloc (.cells #[.string f, .string t] 47)).alloc (.cells #[.int .i64 id] 3)).alloc (.cells #[.int .i64 ep] 3)).alloc (.cells #[.bool cm] 4)).heap.size = w.heap.size + 1 + 1 + 1 + 1 by simp] at QA
  have Q1 := (Blk.new (((((w.alloc (.cells #[.string f, .string t] 47)).alloc (.cells #[.int .i64 id] 3)).alloc (.cells #[.int .i64 ep] 3)).alloc (.cells #[.bool cm] 4)).alloc (.cells #[.int .i64 (at').1, .int .i64 (at').2] 36)) #[.int .i64 0] 3).alloc (.cells #[.int .i64 0] 25)
  rw [show (((((w.alloc (.cells #[.string f, .string t] 47)).alloc (.cells #[.int .i64 id] 3)).alloc (.cells #[.int .i64 ep] 3)).alloc (.cells #[.bool cm] 4)).alloc (.cells #[.int .i64 (at').1, .int .i64 (at').2] 36)).heap.size = w.heap.size + 1 + 1 + 1 + 1 + 1 by simp] at Q1
  have Q2 := Blk.new ((((((w.alloc (.cells #[.string f, .string t] 47)).alloc (.cells #[.int .i64 id] 3)).alloc (.cells #[.int .i64 ep] 3)).alloc (.cells #[.bool cm] 4)).alloc (.cells #[.int .i64 (at').1, .int .i64 (at').2] 36)).alloc (.cells #[.int .i64 0] 3)) #[.int .i64 0] 25
  rw [show ((((((w.alloc (.cells #[.string f, .string t] 47)).alloc (.cells #[.int .i64 id] 3)).alloc (.cells #[.int .i64 ep] 3)).alloc (.cells #[.bool cm] 4)).alloc (.cells #[.int .i64 (at').1, .int .i64 (at').2] 36)).alloc (.cells #[.int .i64 0] 3)).heap.size = w.heap.size + 1 + 1 + 1 + 1 + 1 + 1 by simp] at Q2
  have hB : Below w.heap.size w (((((((w.alloc (.cells #[.string f, .string t] 47)).alloc (.cells #[.int .i64 id] 3)).alloc (.cells #[.int .i64 ep] 3)).alloc (.cells #[.bool cm] 4)).alloc (.cells #[.int .i64 (at').1, .int .i64 (at').2] 36)).alloc (.cells #[.int .i64 0] 3)).alloc (.cells #[.int .i64 0] 25)) := (((((((Below.refl w.heap.size w).alloc (Nat.le_refl _) _).alloc (by simp) _).alloc (by simp; omega) _).alloc (by simp; omega) _).alloc (by simp; omega) _).alloc (by simp; omega) _).alloc (by simp; omega) _
  have hsto := h.later hB
  refine (callsIn_wide (n := 6)).1 ?_
  refine callsIn_of_wp_marks Tryz.func12 rfl trivial ?_ rfl
  simp only [Tryz.ntmps12, List.size_toArray, List.length_cons, List.length_nil, Nat.reduceAdd, Nat.reduceSub, Array.replicate_succ, Array.replicate_zero, List.push_toArray, List.append_toArray, List.nil_append, List.cons_append]
  gi_wp2_with fail
  generalize ((((((w.alloc _).alloc _).alloc _).alloc _).alloc _).alloc _).alloc _ = W at *
  refine ⟨trivial, (callsIn_wide.2 (hM _)).mono ?_⟩
  rintro e W1 ⟨rfl, hb1⟩
  have hsto1 := hsto.later hb1
  replace hB := hB.trans (hb1.mono hB.size)
  replace QX := QX.later hb1
  replace QI := QI.later hb1
  replace QE := QE.later hb1
  replace QC := QC.later hb1
  replace QA := QA.later hb1
  replace Q1 := Q1.later hb1
  replace Q2 := Q2.later hb1
  clear hb1 hsto hM
  cases z
  · have Q1_0 := Q1.c 0; simp only [List.getElem?_cons_zero] at Q1_0
    have Q2_0 := Q2.c 0; simp only [List.getElem?_cons_zero] at Q2_0
    have Q1f := Q1.f
    have Q2f := Q2.f
    have HB := hide hB
    clear hB
    have HH := hide (And.intro Q1 Q2)
    have hRe : R = ([], 51) := by
      rw [← unhide HR]
      unfold resA
      rw [hz, if_neg (by simp)]
    subst hRe
    clear Q1 Q2 HR
    gi_wp2
    obtain ⟨Q1, Q2⟩ := unhide HH
    obtain ⟨q1, q2⟩ := two Q1 Q2 [.int .i64 0] [.int .i64 51] rfl rfl (by omega)
    have hb := below_setAll (C := w.heap.size + 1 + 1 + 1 + 1 + 1 + 1) (by omega) [.int .i64 51] 0 (below_setAll (C := w.heap.size + 1 + 1 + 1 + 1 + 1) (by omega) [.int .i64 0] 0 (unhide HB))
    exact ⟨_, results_r2 Tryz.results12 0 51 rfl rfl q1 q2, L, rfl, h.later hb, hroom'.later hb, by unfold resL; rw [if_pos rfl], grown_of_below hb _⟩
  · have hSW : w.heap.size + 1 + 1 + 1 + 1 + 1 + 1 < W1.heap.size := Q2.lt
    have hRe : R = goV id ep cm at' [] (inE f t L) := by
      rw [← unhide HR]
      unfold resA
      rw [hz, if_pos rfl]
    have HR := hide hRe
    clear hRe
    have hmm := @run_makeMap Tryz.prog
    gi_upto_region 5 with fail
    have hbm : Below W1.heap.size W1 ((W1.alloc (.map #[] 0)).alloc (.cells #[.map (some W1.heap.size)] 66)) := ((Below.refl _ _).alloc (Nat.le_refl _) _).alloc (by simp) _
    have QT : Blk ((W1.alloc (.map #[] 0)).alloc (.cells #[.map (some W1.heap.size)] 66)) (W1.heap.size + 1) [.map (some W1.heap.size)] := by
      have := Blk.new (W1.alloc (.map #[] 0)) #[.map (some W1.heap.size)] 66
      rwa [World.size_alloc] at this
    have QM : ((W1.alloc (.map #[] 0)).alloc (.cells #[.map (some W1.heap.size)] 66)).ownsMap Tryz.prog 9 rv W1.heap.size 0 (DL []) := by
      rw [nil_DL]
      exact (World.ownsMap_made W1 _ _ _).alloc _
    have hsz2 : ((W1.alloc (.map #[] 0)).alloc (.cells #[.map (some W1.heap.size)] 66)).heap.size = W1.heap.size + 2 := by simp
    have hsto2 := hsto1.later hbm
    replace QX := QX.later hbm
    replace QI := QI.later hbm
    replace QE := QE.later hbm
    replace QC := QC.later hbm
    replace QA := QA.later hbm
    replace Q1 := Q1.later hbm
    replace Q2 := Q2.later hbm
    have hB2 := hB.trans (hbm.mono hB.size)
    clear hB hsto1 hbm hmm
    generalize (W1.alloc _).alloc _ = W2 at *
    have QX_0 := QX.c 0; have QX_1 := QX.c 1; simp only [List.getElem?_cons_zero, List.getElem?_cons_succ] at QX_0 QX_1
    gi_wp2_with fail
    refine ⟨trivial, (callsIn_wide.2 (in_any ⟨a, 0, none⟩ f t W2)).mono ?_⟩
    rintro e W3 ⟨rfl, rfl⟩
    have hb3 : Below W2.heap.size W2 ((W2.alloc (.cells #[.pointer (some ⟨a, 0, none⟩)] 24)).alloc (.cells #[.string f, .string t] 47)) := ((Below.refl _ _).alloc (Nat.le_refl _) _).alloc (by simp) _
    have hsz3 : ((W2.alloc (.cells #[.pointer (some ⟨a, 0, none⟩)] 24)).alloc (.cells #[.string f, .string t] 47)).heap.size = W1.heap.size + 4 := by simp; omega
    have hST : Still w ((W2.alloc (.cells #[.pointer (some ⟨a, 0, none⟩)] 24)).alloc (.cells #[.string f, .string t] 47)) a b L f t (W1.heap.size + 2 + 1) (W1.heap.size + 2) := by
      refine ⟨hsto2.later hb3, hB2.trans (hb3.mono hB2.size), ?_, ?_⟩
      · have := World.alloc_heap_new (W2.alloc (.cells #[.pointer (some ⟨a, 0, none⟩)] 24)) (.cells #[.string f, .string t] 47)
        rwa [World.size_alloc, hsz2] at this
      · have := World.alloc_heap_new W2 (.cells #[.pointer (some ⟨a, 0, none⟩)] 24)
        rw [hsz2] at this
        exact (Below.heap_alloc _ _ _ (by simp; omega)).trans this
    have hrd0 : RvI w W1.heap.size id ep cm at' [] ((W2.alloc (.cells #[.pointer (some ⟨a, 0, none⟩)] 24)).alloc (.cells #[.string f, .string t] 47)) :=
      ⟨hB2.trans (hb3.mono hB2.size), QI.later hb3, QE.later hb3, QC.later hb3, QA.later hb3, Q1.later hb3, Q2.later hb3, QT.later hb3, QM.kept (grown_of_below hb3 none) (by simp), fun e he => (by cases he)⟩
    have hvp := (QI.later hb3).head
    clear QI QE QC QA Q1 Q2 QT QM QX hsto2 hB2 hb3 QX_0 QX_1
    gi_wp2
    generalize (W2.alloc _).alloc _ = W3 at *
    clear hsz2
    have hmix : Tryz.prog.follows .mixedOrders = true := by kernel_rfl
    refine wpIn_rangeFunc_ownH rfl (by omega) (gf := 73) (lb := lbIn (W1.heap.size + 2 + 1) (W1.heap.size + 2)) rfl trivial (enters_of Tryz.func73 (by kernel_rfl) rfl)
      (in1_stops 5 (by omega) a b L f t hz (W1.heap.size + 2 + 1) (W1.heap.size + 2) (W1.heap.size + 2) (w.heap.size + 1) w W3 h hST (by omega) (by omega) (by omega) (by omega) (fun i n c => by rw [hvp]; simp))
      (fun h k => h.trans k) (fun W l o o' hl ho hc hw => Turn.book (C := W3.heap.size) (by omega) (by omega) W l o o' hl ho hc hw) (Below.refl _ _) (fun _ => rfl)
      (fun pre W => RvP w W1.heap.size N f t id ep cm at' L pre W)
      (fun c pre W => match c with
        | .ret => RvXP w f t id ep cm at' L pre W
        | _ => False)
      (fun pre W W' row hI hg hr => by obtain ⟨Ds, h1, h2, h3, h4, h5, h6⟩ := hI; exact ⟨Ds, h1, h2, h3, h4, h5, h6.own (B := W3.heap.size) (by omega) (by omega) hg hr⟩)
      (fun c pre W W' row hI hg hr => by
        cases c with
        | ret => obtain ⟨er, h1, h3⟩ := hI; exact ⟨er, h1, h3.own (B := W3.heap.size) (by omega) hg hr⟩
        | _ => exact hI.elim)
      ⟨[], fun _ r => rfl, fun z hz => (by cases hz), List.Pairwise.nil, fun z hz => (by cases hz), Nat.le_refl _, hrd0⟩
      (fun x a' W => ∃ Bc, W1.heap.size + 2 ≤ Bc ∧ Blk W Bc [.slice x.1.ao x.1.c.vs.length x.1.cap, .bool x.1.c.opn, .int .i64 x.1.c.itn.txn.id, .int .i64 x.1.c.itn.txn.ep, .string x.1.c.itn.txn.anchor, .int .i64 x.1.c.itn.txn.start.1, .int .i64 x.1.c.itn.txn.start.2, .int .i64 x.1.c.itn.seq, .int .i64 x.1.c.itn.at_.1, .int .i64 x.1.c.itn.at_.2, .string x.1.c.itn.val, .bool x.1.c.itn.gone] ∧ a' = { tmps := #[.pointer (some ⟨a, 0, none⟩), .agg #[.string f, .string t], .int .i64 id, .int .i64 ep, .bool cm, .agg #[.int .i64 at'.fst, .int .i64 at'.snd], undef, .pointer (some ⟨w.heap.size, 0, none⟩), .pointer (some ⟨w.heap.size + 1, 0, none⟩), .pointer (some ⟨w.heap.size + 1 + 1, 0, none⟩), .pointer (some ⟨w.heap.size + 1 + 1 + 1, 0, none⟩), .pointer (some ⟨w.heap.size + 1 + 1 + 1 + 1, 0, none⟩), .pointer (some ⟨w.heap.size + 1 + 1 + 1 + 1 + 1, 0, none⟩), .pointer (some ⟨w.heap.size + 1 + 1 + 1 + 1 + 1 + 1, 0, none⟩), .int .i64 0, .pointer (some ⟨W1.heap.size + 1, 0, none⟩), .string x.1.key, .pointer (some ⟨Bc, 0, none⟩), undef, undef, .pointer (some ⟨a, 0, none⟩), .agg #[.string f, .string t], .int .i64 0, .int .i64 0, .bool false, undef, .map (some W1.heap.size), .pointer (some ⟨a, 0, none⟩), .agg #[.string f, .string t], .func (.func 73) #[] #[.pointer (some ⟨W1.heap.size + 2 + 1, 0, none⟩), .pointer (some ⟨W1.heap.size + 2, 0, none⟩)], .string x.1.key, .agg #[.slice x.1.ao x.1.c.vs.length x.1.cap, .bool x.1.c.opn, .int .i64 x.1.c.itn.txn.id, .int .i64 x.1.c.itn.txn.ep, .string x.1.c.itn.txn.anchor, .int .i64 x.1.c.itn.txn.start.1, .int .i64 x.1.c.itn.txn.start.2, .int .i64 x.1.c.itn.seq, .int .i64 x.1.c.itn.at_.1, .int .i64 x.1.c.itn.at_.2, .string x.1.c.itn.val, .bool x.1.c.itn.gone], undef, undef, undef, undef, undef, undef, undef, undef, undef, undef, undef, undef, undef, undef, undef, undef, undef, undef, undef, undef, undef, undef, undef, undef, undef, undef, undef, undef, undef, undef, undef, undef, undef, undef, undef, undef, undef, undef], defers := [] })
      (fun x a' _ W W' row hI hg hr => by obtain ⟨Bc, h1, h2, h3⟩ := hI; exact ⟨Bc, h1, h2.turn (by simp) hg (fun r e => (hr r e).2), h3⟩)
      ?assign ?body ?done ?stop
    case assign =>
      rintro l pre x W K ⟨Ds, hs1, hs2, hs3, hs4, hs5, hI⟩ hK
      have hlt := hI.T.lt
      have hbw : Below W.heap.size W (W.alloc (.cells #[.slice x.1.ao x.1.c.vs.length x.1.cap, .bool x.1.c.opn, .int .i64 x.1.c.itn.txn.id, .int .i64 x.1.c.itn.txn.ep, .string x.1.c.itn.txn.anchor, .int .i64 x.1.c.itn.txn.start.1, .int .i64 x.1.c.itn.txn.start.2, .int .i64 x.1.c.itn.seq, .int .i64 x.1.c.itn.at_.1, .int .i64 x.1.c.itn.at_.2, .string x.1.c.itn.val, .bool x.1.c.itn.gone] 61)) := (Below.refl _ _).alloc (Nat.le_refl _) _
      have hI2 := hI.later hbw
      have hN := Blk.new W #[.slice x.1.ao x.1.c.vs.length x.1.cap, .bool x.1.c.opn, .int .i64 x.1.c.itn.txn.id, .int .i64 x.1.c.itn.txn.ep, .string x.1.c.itn.txn.anchor, .int .i64 x.1.c.itn.txn.start.1, .int .i64 x.1.c.itn.txn.start.2, .int .i64 x.1.c.itn.seq, .int .i64 x.1.c.itn.at_.1, .int .i64 x.1.c.itn.at_.2, .string x.1.c.itn.val, .bool x.1.c.itn.gone] 61
      gi_wp2
      exact hK _ _ (keeps_later hbw _) (Turn.later hbw (by omega) (by omega)) ⟨Ds, hs1, hs2, hs3, hs4, hs5, hI2⟩ ⟨W.heap.size, by omega, hN, rfl⟩
    case body =>
      rintro l pre x a' W hl ⟨r0, hr0⟩ ⟨Ds, hs1, hs2, hs3, hs4, hs5, hI⟩ ⟨Bc, hBc, hC, rfl⟩ hlt
      have hx := x.2
      have hvs := (h.below hI.bel (Nat.le_refl _)).vs x.1 hx
      have hvl := hroom.2 x.1 hx
      have hkx := key_le (h.keys x.1 hx)
      have hmp : (pre ++ [x]).map (·.1) = pre.map (·.1) ++ [x.1] := by rw [List.map_append]; rfl
      have hpf : (pre ++ [x]).map (·.1) <+: inE f t L → pre.map (·.1) <+: inE f t L ∧ ∀ z ∈ Ds, S5.L z.key x.1.key := fun hp => by
        rw [hmp] at hp
        obtain ⟨r1, hr1⟩ := hp
        refine ⟨⟨[x.1] ++ r1, by rw [← List.append_assoc]; exact hr1⟩, fun z hz => ?_⟩
        obtain ⟨e, he, hk⟩ := hs2 z hz
        rw [← hk]
        exact before_in (rise_inE h.rise f t) hr1 e he
      have hLl := h.len
      have hs2' : ∀ z ∈ Ds, ∃ e ∈ (pre ++ [x]).map (·.1), e.key = z.key := fun z hz => by
        obtain ⟨e, he, hk⟩ := hs2 z hz
        exact ⟨e, by rw [hmp]; exact List.mem_append_left _ he, hk⟩
      have hsx : ∃ e ∈ (pre ++ [x]).map (·.1), e.key = x.1.key := ⟨x.1, by rw [hmp]; simp, rfl⟩
      have hln : (pre ++ [x]).length = pre.length + 1 := by simp
      obtain ⟨e, he⟩ : ∃ e, x.1 = e := ⟨_, rfl⟩
      rw [he] at hmp hpf hsx
      simp only [he] at hvs hvl hC hkx ⊢
      clear hx he
      obtain ⟨key, ao, cap, vs, q, i⟩ := e
      have HMp := hide hmp
      clear hmp
      simp only at hvs hvl hC hkx hpf hsx ⊢
      have hRc := fun w' (hb : Below W.heap.size W w') => resolve_any ao cap vs q i id ep cm at' w' (hvs.later hb) (by omega)
      have hGo := fun hp r => hs1 hp (⟨key, ao, cap, ⟨vs, q, i⟩⟩ :: r)
      have hLn := resolveC_len ⟨vs, q, i⟩ id ep cm at'
      simp only [goV] at hGo
      obtain ⟨⟨⟨yv, yo, yi⟩, er⟩, hQ⟩ : ∃ Q, resolveC ⟨vs, q, i⟩ id ep cm at' = Q := ⟨_, rfl⟩
      rw [hQ] at hRc hLn
      simp only [hQ] at hRc hGo hLn
      clear hQ
      obtain ⟨nv, hnv⟩ : ∃ nv, vs.length = nv := ⟨_, rfl⟩
      obtain ⟨ny, hny⟩ : ∃ ny, yv.length = ny := ⟨_, rfl⟩
      simp only [hnv, hny] at hRc hC hLn hvl
      have cI := hI.I
      have cE := hI.E
      have cC := hI.C
      have cA := hI.A
      have cI_0 := cI.c 0; simp only [List.getElem?_cons_zero] at cI_0
      have cE_0 := cE.c 0; simp only [List.getElem?_cons_zero] at cE_0
      have cC_0 := cC.c 0; simp only [List.getElem?_cons_zero] at cC_0
      have cA_0 := cA.c 0; have cA_1 := cA.c 1; simp only [List.getElem?_cons_zero, List.getElem?_cons_succ] at cA_0 cA_1
      have hC_0 := hC.c 0; have hC_1 := hC.c 1; have hC_2 := hC.c 2; have hC_3 := hC.c 3; have hC_4 := hC.c 4; have hC_5 := hC.c 5; have hC_6 := hC.c 6; have hC_7 := hC.c 7; have hC_8 := hC.c 8; have hC_9 := hC.c 9; have hC_10 := hC.c 10; have hC_11 := hC.c 11; simp only [List.getElem?_cons_zero, List.getElem?_cons_succ] at hC_0 hC_1 hC_2 hC_3 hC_4 hC_5 hC_6 hC_7 hC_8 hC_9 hC_10 hC_11
      gi_wp2_with fail
      refine ⟨trivial, (CallsIn.inRound l (callsIn_wide.2 (hRc W (Below.refl _ _)))).mono ?_⟩
      rintro e W4 ⟨bo, d, rfl, hown4, hb4⟩
      have hI4 := hI.later hb4
      have hO4 := (Out.refl w.heap.size (W1.heap.size + 2) none W).below hb4
      have hC4 := hC.later hb4
      clear hRc hvs cI cE cC cA hC
      have Y := Blk.new W4 #[.slice bo ny d, .bool yo, .int .i64 yi.txn.id, .int .i64 yi.txn.ep, .string yi.txn.anchor, .int .i64 yi.txn.start.1, .int .i64 yi.txn.start.2, .int .i64 yi.seq, .int .i64 yi.at_.1, .int .i64 yi.at_.2, .string yi.val, .bool yi.gone] 61
      have hB : Below W4.heap.size W4 (W4.alloc (.cells #[.slice bo ny d, .bool yo, .int .i64 yi.txn.id, .int .i64 yi.txn.ep, .string yi.txn.anchor, .int .i64 yi.txn.start.1, .int .i64 yi.txn.start.2, .int .i64 yi.seq, .int .i64 yi.at_.1, .int .i64 yi.at_.2, .string yi.val, .bool yi.gone] 61)) := (Below.refl W4.heap.size W4).alloc (Nat.le_refl _) _
      have hI5 := hI4.later hB
      have hO5 := hO4.below hB
      have hC5 := hC4.later hB
      have hown5 := hown4.later hB
      have hW4l : W1.heap.size + 1 < W4.heap.size := hI4.T.lt
      gi_upto_region 9 with fail
      generalize W4.alloc _ = W5 at *
      clear hB hI4 hO4 hb4 hC4 hown4 cI_0 cE_0 cC_0 cA_0 cA_1 hC_0 hC_1 hC_2 hC_3 hC_4 hC_5 hC_6 hC_7 hC_8 hC_9 hC_10 hC_11
      have cT := hI5.T
      have hsame : ∀ {W' : World}, Out w.heap.size (W1.heap.size + 2) none W W' → RvI w W1.heap.size id ep cm at' Ds W' → (List.map (fun x => x.val) (pre ++ [x]) <+: inE f t L → ∀ (r : List Ent), goV id ep cm at' [] (List.map (fun x => x.val) (pre ++ [x]) ++ r) = goV id ep cm at' (absL Ds) r) →
          KeepsFrom (W1.heap.size + 4) W W' ∧ Turn w.heap.size (W1.heap.size + 2) (w.heap.size + 1) true W W' ∧ RvP w W1.heap.size N f t id ep cm at' L (pre ++ [x]) W' := fun {W'} hO hI' hg =>
        ⟨hO.keeps (by omega) (fun k e => (by cases e)), hO.turn (v := .int .i64 id) (v' := .int .i64 id) hI.bel.size (fun k e => (by cases e)) hI.I.head hI'.I.head (fun k e => (by cases e)) (fun k e => (by cases e)), Ds, hg, hs2', hs3, hs4, by omega, hI'⟩
      by_cases h0 : er = 0
      · subst h0
        have hLn := hLn rfl
        simp only [if_true] at hGo
        have hno : (q && !yo) = false → List.map (fun x => x.val) (pre ++ [x]) <+: inE f t L → ∀ (r : List Ent), goV id ep cm at' [] (List.map (fun x => x.val) (pre ++ [x]) ++ r) = goV id ep cm at' (absL Ds) r := fun hq hp r => by
          have := hGo (hpf hp).1 r
          rw [hq, if_neg (by simp)] at this
          rw [← this, unhide HMp, List.append_assoc]
          rfl
        cases q
        · have hend := hide (hsame hO5 hI5 (hno rfl))
          have hC5_0 := hC5.c 0; have hC5_1 := hC5.c 1; have hC5_2 := hC5.c 2; have hC5_3 := hC5.c 3; have hC5_4 := hC5.c 4; have hC5_5 := hC5.c 5; have hC5_6 := hC5.c 6; have hC5_7 := hC5.c 7; have hC5_8 := hC5.c 8; have hC5_9 := hC5.c 9; have hC5_10 := hC5.c 10; have hC5_11 := hC5.c 11; simp only [List.getElem?_cons_zero, List.getElem?_cons_succ] at hC5_0 hC5_1 hC5_2 hC5_3 hC5_4 hC5_5 hC5_6 hC5_7 hC5_8 hC5_9 hC5_10 hC5_11
          clear hsame hno hGo hI5 hO5 Y hown5 hI
          gi_wp2
          have hend := unhide hend
          exact hend
        · cases yo
          · have hyes : List.map (fun x => x.val) (pre ++ [x]) <+: inE f t L → ∀ (r : List Ent), goV id ep cm at' [] (List.map (fun x => x.val) (pre ++ [x]) ++ r) = goV id ep cm at' (absL (setE Ds ⟨key, bo, d, ⟨yv, false, yi⟩⟩)) r := fun hp r => by
              have := hGo (hpf hp).1 r
              rw [if_pos (by rfl)] at this
              rw [setE_snoc (hpf hp).2, absL_snoc]
              rw [unhide HMp, List.append_assoc]
              exact this
            have HO5 := hide hO5
            have HI5 := hide hI5
            have hM5 := hI5.M
            have hlW0 := hI.T.lt
            have Hown := hide (hown5.mono (B' := W1.heap.size + 2) (by omega))
            have hlW : W1.heap.size < W5.heap.size := by have := cT.lt; omega
            have hC5_0 := hC5.c 0; have hC5_1 := hC5.c 1; have hC5_2 := hC5.c 2; have hC5_3 := hC5.c 3; have hC5_4 := hC5.c 4; have hC5_5 := hC5.c 5; have hC5_6 := hC5.c 6; have hC5_7 := hC5.c 7; have hC5_8 := hC5.c 8; have hC5_9 := hC5.c 9; have hC5_10 := hC5.c 10; have hC5_11 := hC5.c 11; simp only [List.getElem?_cons_zero, List.getElem?_cons_succ] at hC5_0 hC5_1 hC5_2 hC5_3 hC5_4 hC5_5 hC5_6 hC5_7 hC5_8 hC5_9 hC5_10 hC5_11
            have Y_0 := Y.c 0; have Y_1 := Y.c 1; have Y_2 := Y.c 2; have Y_3 := Y.c 3; have Y_4 := Y.c 4; have Y_5 := Y.c 5; have Y_6 := Y.c 6; have Y_7 := Y.c 7; have Y_8 := Y.c 8; have Y_9 := Y.c 9; have Y_10 := Y.c 10; have Y_11 := Y.c 11; simp only [List.getElem?_cons_zero, List.getElem?_cons_succ] at Y_0 Y_1 Y_2 Y_3 Y_4 Y_5 Y_6 Y_7 Y_8 Y_9 Y_10 Y_11
            have cT_0 := cT.c 0; simp only [List.getElem?_cons_zero] at cT_0
            have hNl := hny
            subst hNl
            have Hs := And.intro hs2' hs3
            clear hsame hno hGo hI5 hO5 Y hown5 hpf hs1
            gi_wp2_with (first
              | (gi_at_mapUpdate; refine wpListIn_mapUpdate_own W5 rfl _ _ _ 66 rfl 9 61 keyed Tryz.underlying66 rv W1.heap.size _ _ rfl hM5 (by unfold maxLen; omega) (.string key) _ (keyL key) rfl rfl (keyOf_s (by unfold maxLen; omega)) (.held _) [] rfl ?_; intro w6 hown6 hg6)
              | gi_in)
            have hO6 := (unhide HO5).grown_in hg6 ⟨by omega, by omega⟩
            have hI6 := (unhide HI5).put (x := ⟨key, bo, d, ⟨yv, false, yi⟩⟩) (by omega) hs3 (unhide Hown) hown6 hg6
            have hlE := len_setE Ds ⟨key, bo, d, ⟨yv, false, yi⟩⟩
            refine ⟨hO6.keeps (by omega) (fun k e => (by cases e)), hO6.turn (v := .int .i64 id) (v' := .int .i64 id) hI.bel.size (fun k e => (by cases e)) hI.I.head hI6.I.head (fun k e => (by cases e)) (fun k e => (by cases e)), setE Ds ⟨key, bo, d, ⟨yv, false, yi⟩⟩, hyes, fun z hz => ?_, rise_setE hs3, fun z hz => ?_, by omega, hI6⟩
            · rcases (mem_setE hs3).1 hz with rfl | y
              · exact hsx
              · exact hs2' z y.1
            · rcases (mem_setE hs3).1 hz with rfl | y
              · simp only; omega
              · exact hs4 z y.1
          · have hend := hide (hsame hO5 hI5 (hno rfl))
            have hC5_0 := hC5.c 0; have hC5_1 := hC5.c 1; have hC5_2 := hC5.c 2; have hC5_3 := hC5.c 3; have hC5_4 := hC5.c 4; have hC5_5 := hC5.c 5; have hC5_6 := hC5.c 6; have hC5_7 := hC5.c 7; have hC5_8 := hC5.c 8; have hC5_9 := hC5.c 9; have hC5_10 := hC5.c 10; have hC5_11 := hC5.c 11; simp only [List.getElem?_cons_zero, List.getElem?_cons_succ] at hC5_0 hC5_1 hC5_2 hC5_3 hC5_4 hC5_5 hC5_6 hC5_7 hC5_8 hC5_9 hC5_10 hC5_11
            have Y_0 := Y.c 0; have Y_1 := Y.c 1; have Y_2 := Y.c 2; have Y_3 := Y.c 3; have Y_4 := Y.c 4; have Y_5 := Y.c 5; have Y_6 := Y.c 6; have Y_7 := Y.c 7; have Y_8 := Y.c 8; have Y_9 := Y.c 9; have Y_10 := Y.c 10; have Y_11 := Y.c 11; simp only [List.getElem?_cons_zero, List.getElem?_cons_succ] at Y_0 Y_1 Y_2 Y_3 Y_4 Y_5 Y_6 Y_7 Y_8 Y_9 Y_10 Y_11
            clear hsame hno hGo hI5 hO5 Y hown5 hI
            gi_wp2
            have hend := unhide hend
            exact hend
      · have b0 : (er == 0) = false := by rw [beq_eq_false_iff_ne]; exact h0
        have hX : List.map (fun x => x.val) (pre ++ [x]) <+: inE f t L → ∀ (r : List Ent), goV id ep cm at' [] (List.map (fun x => x.val) (pre ++ [x]) ++ r) = ([], er) := fun hp r => by
          have := hGo (hpf hp).1 r
          rw [if_neg h0] at this
          rw [← this, unhide HMp, List.append_assoc]
          rfl
        have HX := hide hX
        have c1 := hI5.Q1
        have c2 := hI5.Q2
        have f1 := c1.f
        have f2 := c2.f
        have c1_0 := c1.c 0; simp only [List.getElem?_cons_zero] at c1_0
        have c2_0 := c2.c 0; simp only [List.getElem?_cons_zero] at c2_0
        have HH := hide (And.intro c1 c2)
        have HB := hide hI5.bel
        have HO5 := hide hO5
        clear hX hGo hsame hI5 hO5 Y hown5 hC5 hs1 c1 c2
        gi_wp2
        obtain ⟨c1, c2⟩ := unhide HH
        obtain ⟨q1, q2⟩ := two c1 c2 [.int .i64 0] [.int .i64 er] rfl rfl (by omega)
        have hb7 := below_setAll (C := w.heap.size + 1 + 1 + 1 + 1 + 1 + 1) (by omega) [.int .i64 er] 0 (below_setAll (C := w.heap.size + 1 + 1 + 1 + 1 + 1) (by omega) [.int .i64 0] 0 (unhide HB))
        have hO7 := Out.all (b := w.heap.size + 1 + 1 + 1 + 1 + 1 + 1) (.inl ⟨by omega, by omega⟩) [.int .i64 er] 0 (Out.all (b := w.heap.size + 1 + 1 + 1 + 1 + 1) (.inl ⟨by omega, by omega⟩) [.int .i64 0] 0 (unhide HO5))
        exact ⟨hO7.keeps (by omega) (fun k e => (by cases e)), er, unhide HX, ⟨hb7, q1, q2⟩⟩
    case done =>
      rintro D xs W hD hxs ⟨Ds, hs1, hs2, hs3, hs4, hs5, hI⟩ hK
      have hRf : R = (absL Ds, 0) := by
        rw [unhide HR, ← hxs, ← List.append_nil (xs.map (·.1)), hs1 (by rw [hxs]; exact List.prefix_refl _) []]
        rfl
      subst hRf
      have hLl := h.len
      have hil : (inE f t L).length ≤ L.length := List.length_filter_le _ _
      have hxl : xs.length = (inE f t L).length := by rw [← hxs, List.length_map]
      have hin : ∀ e ∈ Ds, ∃ z ∈ L, z.key = e.key := fun e he => by
        obtain ⟨z, hz, hk⟩ := hs2 e he
        rw [hxs] at hz
        exact ⟨z, (List.mem_filter.1 hz).1, hk⟩
      have hSt := h.below hI.bel (Nat.le_refl _)
      clear HR hs1 hs2 hxs
      have cT := hI.T
      have c1 := hI.Q1
      have c2 := hI.Q2
      have hM := hI.M
      have hsz := size_DL Ds
      have hal : (absL Ds).length = Ds.length := by unfold absL; rw [List.length_map]
      obtain ⟨m, hm⟩ : ∃ m, Ds.length = m := ⟨_, rfl⟩
      rw [hm] at hM hsz hal hs5
      by_cases h0 : m = 0
      · subst h0
        have hD0 : Ds = [] := List.eq_nil_of_length_eq_zero hm
        have f1 := c1.f
        have f2 := c2.f
        have cT_0 := cT.c 0; simp only [List.getElem?_cons_zero] at cT_0
        have c1_0 := c1.c 0; simp only [List.getElem?_cons_zero] at c1_0
        have c2_0 := c2.c 0; simp only [List.getElem?_cons_zero] at c2_0
        have HH := hide (And.intro c1 c2)
        have HI := hide hI
        have HST := hide hSt
        have HK := hide hK
        clear hI c1 c2 hSt
        have hlen : (Builtin.len_ #[66] 3 #[.map (some W1.heap.size)]).run Tryz.prog W = .ok (.int .i64 0) W := (hM.len Tryz.underlying66 _).trans (by rw [hsz]; rfl)
        gi_wp2
        obtain ⟨c1, c2⟩ := unhide HH
        have hI := unhide HI
        obtain ⟨q1, q2⟩ := two c1 c2 [.int .i64 0] [.int .i64 0] rfl rfl (by omega)
        have hb7 := below_setAll (C := w.heap.size + 1 + 1 + 1 + 1 + 1 + 1) (by omega) [.int .i64 0] 0 (below_setAll (C := w.heap.size + 1 + 1 + 1 + 1 + 1) (by omega) [.int .i64 0] 0 hI.bel)
        have hK4 := put_all (b := w.heap.size + 1 + 1 + 1 + 1 + 1 + 1) [.int .i64 0] 0 (put_all (b := w.heap.size + 1 + 1 + 1 + 1 + 1) [.int .i64 0] 0 (unhide HK))
        have hb8 := hb7.grown (grownBy_putObj' _ D (.deferred none)) hb7.size (fun k e => (by cases e; omega))
        refine ⟨by simp, .inl ⟨_, _, rfl, run_takeDeferred hK4, ⟨_, results_r2 Tryz.results12 0 0 rfl rfl (q1.put (by simp) hK4 rfl _) (q2.put (by simp) hK4 rfl _), ?_⟩⟩⟩
        exact ⟨L, by rw [hal]; rfl, h.later hb8, hroom'.later hb8, by unfold resL; rw [if_pos (by rw [hD0]; rfl)], grown_of_below hb8 _⟩
      · have hDn : absL Ds ≠ [] := fun e => h0 (by rw [← hal, e]; rfl)
        have hlen : ∀ {W' : World}, W'.ownsMap Tryz.prog 9 rv W1.heap.size m (DL Ds) → (Builtin.len_ #[66] 3 #[.map (some W1.heap.size)]).run Tryz.prog W' = .ok (.int .i64 m) W' := fun hM' => (hM'.len Tryz.underlying66 _).trans (by rw [hsz])
        have hl0 := hlen hM
        have hgt : decide ((m : Int) > 0) = true := by rw [decide_eq_true_eq]; omega
        have cT_0 := cT.c 0; simp only [List.getElem?_cons_zero] at cT_0
        have HH := hide (And.intro c1 c2)
        have HI := hide hI
        have HST := hide hSt
        have HK := hide hK
        clear hI c1 c2
        gi_upto_region 14 with fail
        refine wpIn_wide.2 ?_
        refine Code.wp_mono OnlyN.out ?_
        have hbS : b < W1.heap.size := by have := h.ltb; omega
        have haS : a < W1.heap.size := by have := h.lta; omega
        have hab := h.ne
        have hWl := cT.lt
        have z1 := hSt.drew.cell
        obtain ⟨nL, hnL, hnl⟩ := hSt.drew.own
        have hMd : W.drew.ownsMap Tryz.prog 9 rv W1.heap.size m (DL Ds) := hM.kept (grown_of_below (Below.refl _ _).drew none) (by simp)
        have cTd := cT.drew
        have hmc := mcopy_any b W1.heap.size nL m L Ds W.drew hnL hMd (by omega) (by omega)
        have zT := cTd.head
        have hk8 : ∀ e ∈ L, e.key.size ≤ maxLen := fun e he => by have := key_le (h.keys e he); unfold maxLen; omega
        rw [merge_DL h.rise hk8 (fun e he => by obtain ⟨z, hz, hk⟩ := hin e he; rw [← hk]; exact hk8 z hz)] at hmc
        have hszW : W.drew.heap.size = W.heap.size := rfl
        have HId := hide ((unhide HI).later ((Below.refl _ _).drew))
        have hKd := put_drew (unhide HK)
        have hcA : ∀ {Wc : World}, W.drew.grownBy Wc (some b) → Wc.cell? ⟨a, 0, none⟩ = some (.map (some b)) ∧ Wc.cell? ⟨W1.heap.size + 1, 0, none⟩ = some (.map (some W1.heap.size)) := fun hg =>
          ⟨(World.cell?_of_block (a := ⟨a, 0, none⟩) (hg.block a (by rw [hszW]; omega) (fun e => hab (by cases e; rfl)))).trans z1, (World.cell?_of_block (a := ⟨W1.heap.size + 1, 0, none⟩) (hg.block (W1.heap.size + 1) (by rw [hszW]; exact hWl) (fun e => by have := Option.some.inj e; omega))).trans zT⟩
        clear hnL hMd hSt
        refine wp_region_held_drew (S := fun w' => w'.cell? ⟨a, 0, none⟩ = some (.map (some b)) ∧ w'.cell? ⟨W1.heap.size + 1, 0, none⟩ = some (.map (some W1.heap.size))) (by kernel_rfl) ⟨z1, zT⟩ (fun hSS => ?_)
        generalize W.drew = Wd at *
        refine held_take 0 57 rfl rfl (by kernel_rfl) (by kernel_rfl) (by kernel_rfl) (fun _ _ _ h => h) (by rfl) hSS (v := ?_) ?_ ?_
        rotate_left
        · intro y hSy
          obtain ⟨hy1, hy2⟩ := hSy
          go_simp
          with_reducible rfl
        simp only [Act.put, List.setIfInBounds_toArray, List.set_cons_zero, List.set_cons_succ]
        refine held_take 1 58 rfl rfl (by kernel_rfl) (by kernel_rfl) (by kernel_rfl) (fun _ _ _ h => h) (by rfl) hSS (v := ?_) ?_ ?_
        rotate_left
        · intro y hSy
          obtain ⟨hy1, hy2⟩ := hSy
          go_simp
          with_reducible rfl
        simp only [Act.put, List.setIfInBounds_toArray, List.set_cons_zero, List.set_cons_succ]
        refine held_take 2 59 rfl rfl (by kernel_rfl) (by kernel_rfl) (by kernel_rfl) (fun _ _ _ h => h) (by rfl) hSS (v := ?_) ?_ ?_
        rotate_left
        · intro y hSy
          obtain ⟨hy1, hy2⟩ := hSy
          go_simp
          with_reducible rfl
        simp only [Act.put, List.setIfInBounds_toArray, List.set_cons_zero, List.set_cons_succ]
        refine held_take 3 60 rfl rfl (by kernel_rfl) (by kernel_rfl) (by kernel_rfl) (fun _ _ _ h => h) (by rfl) hSS (v := ?_) ?_ ?_
        rotate_left
        · intro y hSy
          obtain ⟨hy1, hy2⟩ := hSy
          go_simp
          with_reducible rfl
        simp only [Act.put, List.setIfInBounds_toArray, List.set_cons_zero, List.set_cons_succ]
        refine held_take 4 61 rfl rfl (by kernel_rfl) (by kernel_rfl) (by kernel_rfl) (fun _ _ _ h => h) (by rfl) hSS (v := ?_) ?_ ?_
        rotate_left
        · intro y hSy
          obtain ⟨hy1, hy2⟩ := hSy
          go_simp
          with_reducible rfl
        simp only [Act.put, List.setIfInBounds_toArray, List.set_cons_zero, List.set_cons_succ]
        refine wpAnyH_ready (rs := [5]) (by kernel_rfl) (by simp) ?_
        refine AllReadyH.cons rfl (fun K hK => ?_) AllReadyH.nil
        go_wp2_with (go_at_call 41; refine hmc.mono ?_; rintro e Wc ⟨rfl, hoc, hgc⟩; obtain ⟨y1, y2⟩ := hcA hgc; have Hoc := hide hoc; have Hgc := hide hgc; clear hoc hgc)
        refine hK.out _ _ ⟨y1, y2⟩ (fun _ => ?_)
        clear hK K
        refine wpAnyH_done (by kernel_rfl) ?_ _
        refine OnlyN.in ?_
        gi_wp2_with fail
        refine ⟨trivial, (callsIn_wide.2 (mdelete_any b _ (Ds.foldl setE L) (rise_fold h.rise) Wc (unhide Hoc) #[] rfl)).mono ?_⟩
        rintro e Wv ⟨rfl, hov, hgv⟩
        have hIb := unhide HId
        have hgV : Wd.grownBy Wv (some b) := (unhide Hgc).andThen hgv (fun j hj => .inr hj)
        have hnc : ∀ r, some b = some r → ∃ o : Obj, Wd.heap[r]? = some o ∧ o.isCells = false := fun r e => by
          cases e
          have hsd := h.below hIb.bel (Nat.le_refl _)
          obtain ⟨_, ho, _⟩ := hsd.own
          exact own_cells ho
        have c1 := hIb.Q1.turn (by simp) hgV hnc
        have c2 := hIb.Q2.turn (by simp) hgV hnc
        have cTv := hIb.T.turn (by simp) hgV hnc
        have hMv : Wv.ownsMap Tryz.prog 9 rv W1.heap.size Ds.length (DL Ds) := hIb.M.kept hgV (fun e => by have := Option.some.inj e; omega)
        rw [hm] at hMv
        have hvv : ∀ e ∈ Ds, VOwn (W1.heap.size + 2) Wv e.ao e.cap e.c.vs := fun e he => row_turn (hIb.vs e he) hgV hnc
        have hKv : Wv.heap[D]? = some (.deferred (some [])) := (hgV.block D (Array.getElem?_eq_some_iff.1 hKd).1 (fun e => by have := Option.some.inj e; omega)).trans hKd
        have hgw : w.grownBy Wv (some b) := (grown_of_below hIb.bel (some b)).andThen hgV (fun j hj => .inr hj)
        have hl1 := hlen hMv
        have f1 := c1.f
        have f2 := c2.f
        have cTv_0 := cTv.c 0; simp only [List.getElem?_cons_zero] at cTv_0
        have c1_0 := c1.c 0; simp only [List.getElem?_cons_zero] at c1_0
        have c2_0 := c2.c 0; simp only [List.getElem?_cons_zero] at c2_0
        have HH := hide (And.intro c1 c2)
        have Hov := hide hov
        have Hgw := hide hgw
        have HK2 := hide hKv
        clear c1 c2 hIb hgV hnc cTv hMv hov hgw hKv hgv y1 y2 hmc hcA hKd HId Hgc Hoc hl0
        gi_wp2
        obtain ⟨c1, c2⟩ := unhide HH
        obtain ⟨q1, q2⟩ := two c1 c2 [.int .i64 m] [.int .i64 0] rfl rfl (by omega)
        have hK4 := put_all (b := w.heap.size + 1 + 1 + 1 + 1 + 1 + 1) [.int .i64 0] 0 (put_all (b := w.heap.size + 1 + 1 + 1 + 1 + 1) [.int .i64 m] 0 (unhide HK2))
        have hg8 := (grown_all (b := w.heap.size + 1 + 1 + 1 + 1 + 1 + 1) (by omega) [.int .i64 0] 0 (grown_all (b := w.heap.size + 1 + 1 + 1 + 1 + 1) (by omega) [.int .i64 m] 0 (unhide Hgw))).andThen (grownBy_putObj' _ D (.deferred none)) (fun j hj => .inl (by cases hj; omega))
        refine ⟨by simp, .inl ⟨_, _, rfl, run_takeDeferred hK4, ⟨_, results_r2 Tryz.results12 m 0 rfl rfl (q1.put (by simp) hK4 rfl _) (q2.put (by simp) hK4 rfl _), ?_⟩⟩⟩
        have hbw := h.ltb
        obtain ⟨es, clock, hb0, hrest⟩ := unhide Hov
        have ho8 := own_move (W' := (setAll (setAll Wv (w.heap.size + 1 + 1 + 1 + 1 + 1) 0 [.int .i64 m]) (w.heap.size + 1 + 1 + 1 + 1 + 1 + 1) 0 [.int .i64 0]).putObj D (.deferred none)) (unhide Hov) ((World.putObj_heap_other (by omega)).trans ((heap_all (b := w.heap.size + 1 + 1 + 1 + 1 + 1 + 1) (by omega) [.int .i64 0] 0).trans (heap_all (b := w.heap.size + 1 + 1 + 1 + 1 + 1) (by omega) [.int .i64 m] 0)))
        have hv8 : ∀ e ∈ Ds, Vs ((setAll (setAll Wv (w.heap.size + 1 + 1 + 1 + 1 + 1) 0 [.int .i64 m]) (w.heap.size + 1 + 1 + 1 + 1 + 1 + 1) 0 [.int .i64 0]).putObj D (.deferred none)) e.ao e.cap e.c.vs := fun e he =>
          VOwn.vs (row_turn (VOwn.others (C := w.heap.size + 1 + 1 + 1 + 1 + 1 + 1) (by omega) [.int .i64 0] 0 (VOwn.others (C := w.heap.size + 1 + 1 + 1 + 1 + 1) (by omega) [.int .i64 m] 0 (hvv e he))) (grownBy_putObj' _ D _) (fun r e => by cases e; exact ⟨_, hK4, rfl⟩))
        obtain ⟨s1, s2⟩ := resolved h hroom hN hg8 ho8 hin hv8 hs4
        exact ⟨_, by rw [hal], s1, s2, by unfold resL; rw [if_neg hDn]; exact ⟨Ds, rfl, rfl⟩, hg8⟩
    case stop =>
      rintro D c pre W hD hpre hIx hK
      cases c with
      | ret =>
        obtain ⟨er, hX, hI⟩ := hIx
        obtain ⟨rest, hrest⟩ := hpre
        have hRf : R = ([], er) := by rw [unhide HR, ← hrest, hX ⟨rest, hrest⟩ rest]
        subst hRf
        clear HR hX hrest
        gi_wp2
        have hb8 := hI.bel.grown (grownBy_putObj' _ D (.deferred none)) hI.bel.size (fun k e => (by cases e; omega))
        refine ⟨by simp, .inl ⟨_, _, rfl, run_takeDeferred hK, ⟨_, results_r2 Tryz.results12 0 er rfl rfl (hI.Q1.put (by simp) hK rfl _) (hI.Q2.put (by simp) hK rfl _), ?_⟩⟩⟩
        exact ⟨L, rfl, h.later hb8, hroom'.later hb8, by unfold resL; rw [if_pos rfl], grown_of_below hb8 _⟩
      | _ => exact hIx.elim
end

end Go.Proofs.YtcdehnghggleoaaGreat

/-
  The contract of Refresh. No law is proved here.
-/
namespace Go.Proofs.YtcdehnghggleoaaGreat
open Go.RowKit Go.Maps
set_option linter.unusedVariables false
attribute [local go_sem] Oper.semAt_some

/-- A span's chains, refreshed: the transaction that is in the way, or the last error. -/
def goF (id : Int) (fr upt : Stp) : Int → List Ent → Met × Int
  | r, [] => (Met.zero, r)
  | r, e :: l => if (refR e.c.vs e.c.opn e.c.itn id fr upt).2 = 81 then ((refR e.c.vs e.c.opn e.c.itn id fr upt).1, 81) else goF id fr upt (if (refR e.c.vs e.c.opn e.c.itn id fr upt).2 = 0 then r else (refR e.c.vs e.c.opn e.c.itn id fr upt).2) l
def refS (f t : ByteArray) (id : Int) (fr upt : Stp) (L : List Ent) : Met × Int :=
  if S5.rightB f t = true then goF id fr upt 0 (inE f t L) else (Met.zero, 51)

/-- While a span is refreshed: the caller's variables. -/
structure FrI (w : World) (S1 : Nat) (id : Int) (fr upt : Stp) (r : Int) (W : World) : Prop where
  bel : Below w.heap.size w W
  I : Blk W (w.heap.size + 1) [.int .i64 id]
  F : Blk W (w.heap.size + 1 + 1) [.int .i64 fr.1, .int .i64 fr.2]
  T : Blk W (w.heap.size + 1 + 1 + 1) [.int .i64 upt.1, .int .i64 upt.2]
  M : Blk W (w.heap.size + 1 + 1 + 1 + 1) [.int .i64 0, .int .i64 0, .string ⟨#[]⟩, .int .i64 0, .int .i64 0]
  R : Blk W (w.heap.size + 1 + 1 + 1 + 1 + 1) [.int .i64 0]
  V : Blk W S1 [.int .i64 r]
theorem FrI.own {w : World} {S1 B : Nat} (hB : w.heap.size ≤ B) {id : Int} {fr upt : Stp} {r : Int} {W W' : World} {row : Option Nat} (h : FrI w S1 id fr upt r W) (hg : W.grownBy W' row) (hr : ∀ r, row = some r → B ≤ r ∧ ∃ o : Obj, W.heap[r]? = some o ∧ o.isCells = false) : FrI w S1 id fr upt r W' := by
  have hr' : ∀ r, row = some r → ∃ o : Obj, W.heap[r]? = some o ∧ o.isCells = false := fun r e => (hr r e).2
  exact ⟨below_turn h.bel hB h.bel.size hg hr, h.I.turn (by simp) hg hr', h.F.turn (by simp) hg hr', h.T.turn (by simp) hg hr', h.M.turn (by simp) hg hr', h.R.turn (by simp) hg hr', h.V.turn (by simp) hg hr'⟩
theorem FrI.later {w : World} {S1 : Nat} {id : Int} {fr upt : Stp} {r : Int} {W W' : World} (h : FrI w S1 id fr upt r W) (hb : Below W.heap.size W W') : FrI w S1 id fr upt r W' :=
  ⟨h.bel.trans (hb.mono h.bel.size), h.I.later hb, h.F.later hb, h.T.later hb, h.M.later hb, h.R.later hb, h.V.later hb⟩
theorem FrI.put {w : World} {S1 : Nat} {id : Int} {fr upt : Stp} {r r' : Int} {W : World} (hs : w.heap.size + 1 + 1 + 1 + 1 + 1 < S1) (h : FrI w S1 id fr upt r W) : FrI w S1 id fr upt r' (setAll W S1 0 [.int .i64 r']) := by
  have k : ∀ {b : Nat} {cs : List Value}, Blk W b cs → b ≠ S1 → Blk (setAll W S1 0 [.int .i64 r']) b cs := fun hb n1 => Blk.others n1 _ 0 hb
  exact ⟨below_setAll (by omega) _ 0 h.bel, k h.I (by omega), k h.F (by omega), k h.T (by omega), k h.M (by omega), k h.R (by omega), h.V.all _ rfl⟩
structure FrX (w : World) (R : Met × Int) (W : World) : Prop where
  bel : Below w.heap.size w W
  M : Blk W (w.heap.size + 1 + 1 + 1 + 1) [.int .i64 R.1.id, .int .i64 R.1.ep, .string R.1.anchor, .int .i64 R.1.start.1, .int .i64 R.1.start.2]
  R : Blk W (w.heap.size + 1 + 1 + 1 + 1 + 1) [.int .i64 R.2]
theorem FrX.own {w : World} {B : Nat} (hB : w.heap.size ≤ B) {R : Met × Int} {W W' : World} {row : Option Nat} (h : FrX w R W) (hg : W.grownBy W' row) (hr : ∀ r, row = some r → B ≤ r ∧ ∃ o : Obj, W.heap[r]? = some o ∧ o.isCells = false) : FrX w R W' := by
  have hr' : ∀ r, row = some r → ∃ o : Obj, W.heap[r]? = some o ∧ o.isCells = false := fun r e => (hr r e).2
  exact ⟨below_turn h.bel hB h.bel.size hg hr, h.M.turn (by simp) hg hr', h.R.turn (by simp) hg hr'⟩
theorem results_me9 {fn : Func} {k1 k2 : Nat} (hf : fn.results = #[.cell k1 38, .cell k2 25]) {tmps : Array Value} {w : World} {B1 B2 : Nat} (m : Met) (e : Int)
    (hk1 : tmps[k1]? = some (.pointer (some ⟨B1, 0, none⟩))) (hk2 : tmps[k2]? = some (.pointer (some ⟨B2, 0, none⟩)))
    (h1 : Blk w B1 [.int .i64 m.id, .int .i64 m.ep, .string m.anchor, .int .i64 m.start.1, .int .i64 m.start.2]) (h2 : Blk w B2 [.int .i64 e]) : (results fn tmps).run Tryz.prog w = .ok (.tuple #[(.agg #[.int .i64 m.id, .int .i64 m.ep, .string m.anchor, .int .i64 m.start.1, .int .i64 m.start.2]), .int .i64 e]) w := by
  simp [results, hf, go_sem, h1.c, h2.c, hk1, hk2]

end Go.Proofs.YtcdehnghggleoaaGreat

/-
  What the live question comes to, by lists. No law is proved here.
-/
namespace Go.Proofs.YtcdehnghggleoaaGreat
open Go.RowKit Go.Maps
set_option linter.unusedVariables false
set_option maxRecDepth 100000

abbrev kK : ByteArray := ⟨#[107]⟩
abbrev kV : ByteArray := ⟨#[118]⟩
abbrev kA : ByteArray := ⟨#[97]⟩
abbrev kZ : ByteArray := ⟨#[123]⟩
def itK : Itn := ⟨⟨3, 0, kK, (0, 0)⟩, 0, (4, 0), kV, false⟩
def chK1 : Chn := ⟨[], true, itK⟩
def chK2 : Chn := ⟨[⟨(4, 0), kV, false, 3⟩], false, Itn.zero⟩
theorem tl9 (l : List UInt8) : (ByteArray.mk l.toArray).toList = l := ByteArray.toList_mk l
theorem kb : S5.keyB kK = true := by
  simp only [S5.keyB, tl9]; decide
theorem vb : valB kV false = true := by
  simp only [valB, tl9]; decide
theorem rb1 : S5.rightB kA kZ = true := by
  simp only [S5.rightB, S5.keyB, S5.eqB, S5.ltB, S5.emp, S5.brace, tl9]; decide
theorem rb2 : S5.rightB kK ⟨#[]⟩ = true := by
  simp only [S5.rightB, S5.keyB, S5.eqB, S5.ltB, S5.emp, S5.brace, tl9]; decide
theorem hb1 : S5.hasB kA kZ kK = true := by
  simp only [S5.hasB, S5.rightB, S5.keyB, S5.eqB, S5.ltB, S5.emp, S5.brace, tl9]; decide
theorem hb2 : S5.hasB kK ⟨#[]⟩ kK = true := by
  simp only [S5.hasB, S5.rightB, S5.keyB, S5.eqB, S5.ltB, S5.emp, S5.brace, tl9]; decide
theorem wr0 : writeC Chn.zero itK = (chK1, (4, 0), Met.zero, 0) := by kernel_rfl
theorem rd1 : readR chK1.vs chK1.opn chK1.itn (9, 0) (9, 0) 0 0 = (⟨(0, 0), ⟨#[]⟩, false, 0⟩, false, itK.txn, 81) := by kernel_rfl
theorem rs1 : resolveC chK1 3 0 true (4, 0) = (chK2, 0) := by kernel_rfl
theorem rd2 : readR chK2.vs chK2.opn chK2.itn (9, 0) (9, 0) 0 0 = (⟨(4, 0), kV, false, 3⟩, true, Met.zero, 0) := by kernel_rfl

theorem ent0 : (entAt [] kK).c = Chn.zero := rfl
theorem inE1 {f t : ByteArray} (x : Ent) (h : S5.hasB f t x.key = true) : inE f t [x] = [x] := by
  unfold inE; simp [h]
theorem putA0 : putA [] kK itK = ((4, 0), ⟨0, 0, ⟨#[]⟩, (0, 0)⟩, 0) := by
  unfold putA
  rw [if_pos kb, if_pos (show valB itK.val itK.gone = true from vb), ent0, wr0]
  rfl
theorem putL0 {l' : List Ent} (h : putL [] l' kK itK) : ∃ ao cap, l' = [⟨kK, ao, cap, chK1⟩] := by
  unfold putL at h
  rw [if_pos ⟨kb, vb, by rw [ent0, wr0]⟩, ent0, wr0] at h
  exact h
theorem readS1 (ao : Option Addr) (cap : Nat) : readS kA kZ (9, 0) (9, 0) 0 0 [⟨kK, ao, cap, chK1⟩] = ([], (0, 0), ⟨3, 0, kK, (0, 0)⟩, 81) := by
  unfold readS
  rw [if_pos rb1, inE1 _ hb1]
  unfold goR
  simp only [rd1, if_true]
  rfl
theorem readS2 (ao : Option Addr) (cap : Nat) : readS kA kZ (9, 0) (9, 0) 0 0 [⟨kK, ao, cap, chK2⟩] = ([(kK, kV)], (0, 0), ⟨0, 0, ⟨#[]⟩, (0, 0)⟩, 0) := by
  unfold readS
  rw [if_pos rb1, inE1 _ hb1]
  unfold goR
  simp only [rd2]
  rw [if_neg (by decide), if_neg (by simp [stepR, RdS.zero, rd2])]
  simp [goR, finR, stepR, RdS.zero, rd2, Met.zero]
theorem resA1 (ao : Option Addr) (cap : Nat) : resA kK ⟨#[]⟩ 3 0 true (4, 0) [⟨kK, ao, cap, chK1⟩] = ([(kK, chK2)], 0) := by
  unfold resA
  rw [if_pos rb2, inE1 _ hb2]
  unfold goV
  simp only [rs1, if_true]
  rfl
theorem resL1 (ao : Option Addr) (cap : Nat) {l' : List Ent} (h : resL [⟨kK, ao, cap, chK1⟩] l' [(kK, chK2)]) : ∃ ao cap, l' = [⟨kK, ao, cap, chK2⟩] := by
  unfold resL at h
  rw [if_neg (by simp)] at h
  obtain ⟨Ds, hD, rfl⟩ := h
  unfold absL at hD
  obtain ⟨d, r, rfl, h1, h2⟩ := List.map_eq_cons_iff.1 hD
  obtain rfl := List.map_eq_nil_iff.1 h2
  obtain ⟨k, ao', cap', c⟩ := d
  simp only [Prod.mk.injEq] at h1
  obtain ⟨rfl, rfl⟩ := h1
  refine ⟨ao', cap', ?_⟩
  rw [List.foldl_cons, List.foldl_nil]
  unfold setE
  rw [if_pos rfl, List.filter_cons_of_pos (by rfl), List.filter_nil]

section
set_option maxHeartbeats 2000000
theorem alive9_any (w : World) : Calls Tryz.prog 4 #[] w fun e w' => e = .returned (.bool true) ∧ Below w.heap.size w w' := by
  go_enter Tryz.func4, Tryz.ntmps4
  go_wp2_with fail
  refine (new_any w).mono ?_
  rintro e w1 ⟨a, b, rfl, hs1, ha, hb, hb1⟩
  have hr1 : Room w1 b [] 0 := by
    obtain ⟨n, hn, _⟩ := hs1.own
    exact ⟨⟨0, own_tight hn, Nat.le_refl _⟩, fun e he => (by cases he)⟩
  go_wp2_with fail
  refine (put_any a b 0 [] kK itK w1 hs1 hr1 (by omega) (by decide)).mono ?_
  rintro e w2 ⟨l', he, hs2, hr2, hl2, hg2⟩
  rw [putA0] at he
  subst he
  obtain ⟨ao, cap, rfl⟩ := putL0 hl2
  have HB2 := hide (hb1.grown hg2 hb1.size (fun k e => by cases e; exact hb))
  clear hs1 hr1 hl2 hg2 hb1
  have QS := (Blk.new w2 #[.int .i64 4, .int .i64 0] 36).alloc (.cells #[.int .i64 0, .int .i64 0, .string ⟨#[]⟩, .int .i64 0, .int .i64 0] 38)
  have QM := Blk.new (w2.alloc (.cells #[.int .i64 4, .int .i64 0] 36)) #[.int .i64 0, .int .i64 0, .string ⟨#[]⟩, .int .i64 0, .int .i64 0] 38
  rw [show (w2.alloc (.cells #[.int .i64 4, .int .i64 0] 36)).heap.size = w2.heap.size + 1 by simp] at QM
  have hB : Below w2.heap.size w2 ((w2.alloc (.cells #[.int .i64 4, .int .i64 0] 36)).alloc (.cells #[.int .i64 0, .int .i64 0, .string ⟨#[]⟩, .int .i64 0, .int .i64 0] 38)) := ((Below.refl w2.heap.size w2).alloc (Nat.le_refl _) _).alloc (by simp) _
  have hs3 := hs2.later hB
  have hr3 := hr2.later hB
  replace HB2 := hide ((unhide HB2).trans (hB.mono (unhide HB2).size))
  clear hs2 hr2 hB QM
  go_wp2_with fail
  generalize (w2.alloc _).alloc _ = w3 at *
  have hR := read9_any a b [⟨kK, ao, cap, chK1⟩] kA kZ (9, 0) (9, 0) 0 0 w3 hs3
  rw [readS1] at hR
  refine hR.mono ?_
  rintro e w4 ⟨po, c, rfl, _, hb4⟩
  have hs4 := hs3.later hb4
  have hr4 := hr3.later hb4
  replace QS := QS.later hb4
  replace HB2 := hide ((unhide HB2).trans (hb4.mono (unhide HB2).size))
  clear hs3 hr3 hb4 hR
  have R1 := (Blk.new w4 #[.int .i64 0, .int .i64 0] 36).alloc (.cells #[.int .i64 3, .int .i64 0, .string kK, .int .i64 0, .int .i64 0] 38)
  have QM := Blk.new (w4.alloc (.cells #[.int .i64 0, .int .i64 0] 36)) #[.int .i64 3, .int .i64 0, .string kK, .int .i64 0, .int .i64 0] 38
  rw [show (w4.alloc (.cells #[.int .i64 0, .int .i64 0] 36)).heap.size = w4.heap.size + 1 by simp] at QM
  have hB : Below w4.heap.size w4 ((w4.alloc (.cells #[.int .i64 0, .int .i64 0] 36)).alloc (.cells #[.int .i64 3, .int .i64 0, .string kK, .int .i64 0, .int .i64 0] 38)) := ((Below.refl w4.heap.size w4).alloc (Nat.le_refl _) _).alloc (by simp) _
  have hs5 := hs4.later hB
  have hr5 := hr4.later hB
  replace QS := QS.later hB
  replace HB2 := hide ((unhide HB2).trans (hB.mono (unhide HB2).size))
  clear hs4 hr4 hB R1
  have QS_0 := QS.c 0; have QS_1 := QS.c 1; simp only [List.getElem?_cons_zero, List.getElem?_cons_succ] at QS_0 QS_1
  go_wp2_with fail
  generalize (w4.alloc _).alloc _ = w5 at *
  have hR := resolve9_any a b 1 [⟨kK, ao, cap, chK1⟩] kK ⟨#[]⟩ 3 0 true (4, 0) w5 hs5 hr5 (by omega)
  rw [resA1] at hR
  refine hR.mono ?_
  rintro e w6 ⟨L', rfl, hs6, hr6, hl6, hg6⟩
  obtain ⟨ao2, cap2, rfl⟩ := resL1 _ _ hl6
  replace QM := QM.turn (by simp) hg6 (fun r e => by cases e; obtain ⟨_, ho, _⟩ := hs5.own; exact own_cells ho)
  replace HB2 := hide ((unhide HB2).grown hg6 (unhide HB2).size (fun k e => by cases e; exact hb))
  clear hs5 hr5 hl6 hg6 hR QS QS_0 QS_1
  go_wp2_with fail
  have hR := read9_any a b [⟨kK, ao2, cap2, chK2⟩] kA kZ (9, 0) (9, 0) 0 0 w6 hs6
  rw [readS2] at hR
  refine hR.mono ?_
  rintro e w8 ⟨po2, c2, rfl, hps, hb8⟩
  obtain ⟨g, o, rfl, hc⟩ := hps (by simp)
  replace QM := QM.later hb8
  replace HB2 := hide ((unhide HB2).trans (hb8.mono (unhide HB2).size))
  have hz := (hc 0 (by simp)).2
  simp only [Nat.zero_mul, Nat.add_zero, List.getElem_cons_zero] at hz
  clear hR hc hps hb8 hs6 hr6
  have R1 := (Blk.new w8 #[.int .i64 0, .int .i64 0] 36).alloc (.cells #[.int .i64 0, .int .i64 0, .string ⟨#[]⟩, .int .i64 0, .int .i64 0] 38)
  have R2 := Blk.new (w8.alloc (.cells #[.int .i64 0, .int .i64 0] 36)) #[.int .i64 0, .int .i64 0, .string ⟨#[]⟩, .int .i64 0, .int .i64 0] 38
  rw [show (w8.alloc (.cells #[.int .i64 0, .int .i64 0] 36)).heap.size = w8.heap.size + 1 by simp] at R2
  have hB : Below w8.heap.size w8 ((w8.alloc (.cells #[.int .i64 0, .int .i64 0] 36)).alloc (.cells #[.int .i64 0, .int .i64 0, .string ⟨#[]⟩, .int .i64 0, .int .i64 0] 38)) := ((Below.refl w8.heap.size w8).alloc (Nat.le_refl _) _).alloc (by simp) _
  replace QM := QM.later hB
  replace HB2 := hide ((unhide HB2).trans (hB.mono (unhide HB2).size))
  have hz2 := (hB.cell (World.block_lt_of_cell? _ _ hz)).trans hz
  clear hz hB R1 R2
  have QM_0 := QM.c 0; have QM_1 := QM.c 1; have QM_2 := QM.c 2; have QM_3 := QM.c 3; have QM_4 := QM.c 4; simp only [List.getElem?_cons_zero, List.getElem?_cons_succ] at QM_0 QM_1 QM_2 QM_3 QM_4
  go_wp2
  go_ret
  exact ⟨rfl, unhide HB2⟩
end

end Go.Proofs.YtcdehnghggleoaaGreat

/-
  The law's same: a store and the document's. No law is proved here.
-/
namespace Go.Proofs.YtcdehnghggleoaaGreat
open Go.RowKit Go.Maps
set_option linter.unusedVariables false

theorem enter_same9 (args : Array Value) (w : World) : (callFunc 29 args).run Tryz.prog w = .ok (.enter 29 args) w :=
  MuLone.run_callFunc_enter Tryz.func29 (by kernel_rfl) rfl args w
theorem enter_chain9 (args : Array Value) (w : World) : (callFunc 30 args).run Tryz.prog w = .ok (.enter 30 args) w :=
  MuLone.run_callFunc_enter Tryz.func30 (by kernel_rfl) rfl args w
/-- A call of two arguments that answers a value. -/
theorem wp_call_two {o : Oper} {a : Act} {w : World} {K : Act → World → Prop} {Q : Exit → Act → World → Prop} {f : FuncId} {x y : Operand} {ts : Array TypeId} {u v : Value} {R : Value → World → Prop}
    (he : ∀ args w, (callFunc f args).run Tryz.prog w = .ok (.enter f args) w) (ho : o.op = .call { callee := .value (.func f), args := #[x, y], argTypes := ts }) (hx : a.eval x = u) (hy : a.eval y = v)
    (h : Calls Tryz.prog f #[u, v] w fun e w' => ∃ v, e = .returned v ∧ R v w') (hK : ∀ v w', R v w' → K (a.put o.dst v) w') : o.wp Tryz.prog a w K Q := by
  have hr : (execOp a.eval o).run Tryz.prog w = .ok (.enter f #[u, v]) w := by
    obtain ⟨d, op, ty, ps, af, g⟩ := o
    simp only at ho
    subst ho
    rw [execOp_call_go, show #[] ++ #[x, y].map a.eval ++ #[] = #[u, v] by simp [hx, hy]]
    exact he _ w
  unfold Oper.wp
  rw [hr, Oper.upon_enter]
  refine h.mono ?_
  rintro e w' ⟨v, rfl, hr⟩
  exact hK v w' hr

/-- A chain as a value. -/
def ChV (w : World) (V : Value) (c : Chn) : Prop := ∃ bo d, V = chV bo d c ∧ Vs w bo d c.vs
theorem ChV.later {w w' : World} {V : Value} {c : Chn} (h : ChV w V c) (hb : Below w.heap.size w w') : ChV w' V c := by
  obtain ⟨bo, d, e, hv⟩ := h
  exact ⟨bo, d, e, hv.later hb⟩
theorem chain_9 {a b : Nat} {l : List Ent} {k : Nat} {w : World} (h : Sto w a b l) (hk : k < l.length) :
    Calls Tryz.prog 30 #[.pointer (some ⟨a, 0, none⟩), .string l[k].key] w fun e w' => ∃ V, e = .returned V ∧ ChV w' V l[k].c ∧ Below w.heap.size w w' := by
  have hkey := key_le (h.keys l[k] (List.getElem_mem hk))
  refine (chain_any a b l l[k].key w h (by omega)).mono ?_
  rintro e w' ⟨bo, d, rfl, hv, hb⟩
  have e1 : entAt l l[k].key = l[k] := by
    unfold entAt
    rw [getE_mem h.rise (List.getElem_mem hk)]
  rw [e1] at hv ⊢
  exact ⟨_, rfl, ⟨bo, d, rfl, hv⟩, hb⟩
theorem same_9 {w : World} {V1 V2 : Value} {c1 c2 : Chn} (h1 : ChV w V1 c1) (h2 : ChV w V2 c2) :
    Calls Tryz.prog 29 #[V1, V2] w fun e w' => e = .returned (.bool (sameC c1 c2)) ∧ Below w.heap.size w w' := by
  obtain ⟨bo1, d1, rfl, hv1⟩ := h1
  obtain ⟨bo2, d2, rfl, hv2⟩ := h2
  obtain ⟨v1, o1, i1⟩ := c1
  obtain ⟨v2, o2, i2⟩ := c2
  exact refsame_any bo1 bo2 d1 d2 v1 v2 o1 o2 i1 i2 w hv1 hv2
theorem abs_at {L R : List Ent} (h : absL L = absL R) (k : Nat) (h1 : k < L.length) (h2 : k < R.length) : L[k].key = R[k].key ∧ L[k].c = R[k].c := by
  have e : (absL L)[k]'(by unfold absL; simpa using h1) = (absL R)[k]'(by unfold absL; simpa using h2) := by simp only [h]
  unfold absL at e
  rw [List.getElem_map, List.getElem_map] at e
  injection e with e1 e2
  exact ⟨e1, e2⟩

section
set_option maxRecDepth 100000
set_option maxHeartbeats 4000000

theorem same9_any (a b : Nat) (L : List Ent) (w : World) (h : Sto w a b L) (m B : Nat) (ro : Option Addr) (cap n : Nat) (R : List Ent) (hm : w.cell? ⟨m, 0, none⟩ = some (.slice ro n cap)) (hn : R.length = n) (hR : ROwn B w ro cap R) (hD : absL L = absL R) :
    Calls Tryz.prog 7 #[.pointer (some ⟨a, 0, none⟩), .pointer (some ⟨m, 0, none⟩)] w fun e w' => e = .returned (.bool true) ∧ Below w.heap.size w w' := by
  have hl : L.length = n := by
    have := congrArg List.length hD
    unfold absL at this
    rw [List.length_map, List.length_map] at this
    omega
  have HK := keysm_any a b L w h
  have hlen := hR.len
  rw [hn] at hlen
  unfold maxLen at hlen
  rw [hl] at HK
  have Hs := hide (And.intro h hR)
  have Hl := hide hl
  have Hn := hide hn
  clear h hR hl hn
  go_enter Tryz.func7, Tryz.ntmps7
  go_wp2_with fail
  refine HK.mono ?_
  clear HK
  rintro e w2 ⟨ao, c, rfl, hst, hb2⟩
  have Hst := hide hst
  have hm2 := (hb2.cell (World.block_lt_of_cell? _ _ hm)).trans hm
  have Hb2 := hide hb2
  clear hst hb2 hm
  go_wp2
  go_loopw [6] (fun vk wr => ∃ (k : Nat), vk = .int .i64 (k : Int) ∧ k ≤ n ∧ Hid (Below w2.heap.size w2 wr)) (fun vk _ => n - (intOf vk).toNat)
  case atStart => exact ⟨0, rfl, Nat.zero_le _, Below.refl _ _⟩
  case round =>
    obtain ⟨k, rfl, hk, Hb⟩ := hrel
    have hmr := ((unhide Hb).cell (World.block_lt_of_cell? _ _ hm2)).trans hm2
    by_cases hlt : k < n
    · have hki : (k : Int) < (n : Int) := by omega
      have h1 : k < L.length := by have := unhide Hl; omega
      have h2 : k < R.length := by have := unhide Hn; omega
      obtain ⟨ek, ec⟩ := abs_at hD k h1 h2
      have hB := (unhide Hb2).trans ((unhide Hb).mono (unhide Hb2).size)
      have S := (unhide Hs).1.later hB
      have V := (unhide Hs).2.later hB
      have hC1 := fun w' (hb : Below wr.heap.size wr w') => chain_9 (S.later hb) h1
      obtain ⟨kb, ko, rfl, hck⟩ := (unhide Hst) (by simp; omega)
      have hck := hck k (by simpa using h1)
      rw [List.getElem_map] at hck
      replace hck := ((unhide Hb).cell (World.block_lt_of_cell? _ _ hck)).trans hck
      obtain ⟨rb, rq, rfl, hrow⟩ := V.at_ (n := 0) h2
      have hv2 := (V.2 R[k] (List.getElem_mem h2)).vs
      generalize hE : R[k] = E at *
      rw [ek] at hck
      simp only [ek, ec] at hC1
      obtain ⟨key, eo, cc, ch⟩ := E
      simp only at hck hC1 hv2
      obtain ⟨vl, hvl⟩ : ∃ vl, ch.vs.length = vl := ⟨_, rfl⟩
      have r0 := hrow 0 (by omega)
      have r1 := hrow 1 (by omega)
      have r2 := hrow 2 (by omega)
      have r3 := hrow 3 (by omega)
      have r4 := hrow 4 (by omega)
      have r5 := hrow 5 (by omega)
      have r6 := hrow 6 (by omega)
      have r7 := hrow 7 (by omega)
      have r8 := hrow 8 (by omega)
      have r9 := hrow 9 (by omega)
      have r10 := hrow 10 (by omega)
      have r11 := hrow 11 (by omega)
      have r12 := hrow 12 (by omega)
      unfold rc at r0 r1 r2 r3 r4 r5 r6 r7 r8 r9 r10 r11 r12
      simp only [List.getElem?_cons_zero, List.getElem?_cons_succ, hvl, Nat.add_zero] at r0 r1 r2 r3 r4 r5 r6 r7 r8 r9 r10 r11 r12
      have HV2 : Hid (ChV wr (.agg #[.slice eo vl cc, .bool ch.opn, .int .i64 ch.itn.txn.id, .int .i64 ch.itn.txn.ep, .string ch.itn.txn.anchor, .int .i64 ch.itn.txn.start.1, .int .i64 ch.itn.txn.start.2, .int .i64 ch.itn.seq, .int .i64 ch.itn.at_.1, .int .i64 ch.itn.at_.2, .string ch.itn.val, .bool ch.itn.gone]) ch) := ⟨eo, cc, by unfold chV; rw [hvl], hv2⟩
      have L0 := fun w' (hb : Below wr.heap.size wr w') {q : Addr} {z : Value} (hz : wr.cell? q = some z) => (hb.cell (World.block_lt_of_cell? _ _ hz)).trans hz
      have hSK1 := fun w' hb => L0 w' hb hck
      have hSK2 := fun w' hb => L0 w' hb hmr
      have hSK3 := fun w' hb => And.intro (L0 w' hb r1) (And.intro (L0 w' hb r2) (And.intro (L0 w' hb r3) (And.intro (L0 w' hb r4) (And.intro (L0 w' hb r5) (And.intro (L0 w' hb r6) (And.intro (L0 w' hb r7) (And.intro (L0 w' hb r8) (And.intro (L0 w' hb r9) (And.intro (L0 w' hb r10) (And.intro (L0 w' hb r11) (L0 w' hb r12)))))))))))
      have hSK4 := fun w' hb => L0 w' hb r0
      clear S V hB hrow hv2 hE ek ec h1 h2 L0
      go_upto_region 7 with fail
      go_cut [7] (fun u wx => u = .bool true ∧ Hid (Below wr.heap.size wr wx))
      case first =>
        refine wp_region_held_drew (S := fun w' => Below wr.heap.size wr w') (by kernel_rfl) (Below.refl _ _).drew (fun hSS => ?_)
        generalize wr.drew = Wd at *
        refine held_take 0 24 rfl rfl (by kernel_rfl) (by kernel_rfl) (by kernel_rfl) (fun _ _ _ h => h) (by rfl) hSS (v := ?_) ?_ ?_
        rotate_left
        · intro y hSy
          skip
          go_simp
          with_reducible rfl
        simp only [Act.put, List.setIfInBounds_toArray, List.set_cons_zero, List.set_cons_succ]
        refine held_take 1 25 rfl rfl (by kernel_rfl) (by kernel_rfl) (by kernel_rfl) (fun _ _ _ h => h) (by rfl) hSS (v := ?_) ?_ ?_
        rotate_left
        · intro y hSy
          skip
          go_simp
          with_reducible rfl
        simp only [Act.put, List.setIfInBounds_toArray, List.set_cons_zero, List.set_cons_succ]
        refine held_take 2 26 rfl rfl (by kernel_rfl) (by kernel_rfl) (by kernel_rfl) (fun _ _ _ h => h) (by rfl) hSS (v := ?_) ?_ ?_
        rotate_left
        · intro y hSy
          skip
          go_simp
          with_reducible rfl
        simp only [Act.put, List.setIfInBounds_toArray, List.set_cons_zero, List.set_cons_succ]
        refine held_take 3 27 rfl rfl (by kernel_rfl) (by kernel_rfl) (by kernel_rfl) (fun _ _ _ h => h) (by rfl) hSS (v := ?_) ?_ ?_
        rotate_left
        · intro y hSy
          skip
          go_simp
          with_reducible rfl
        simp only [Act.put, List.setIfInBounds_toArray, List.set_cons_zero, List.set_cons_succ]
        refine held_take 4 28 rfl rfl (by kernel_rfl) (by kernel_rfl) (by kernel_rfl) (fun _ _ _ h => h) (by rfl) hSS (v := ?_) ?_ ?_
        rotate_left
        · intro y hSy
          have hy0 := hSK1 y hSy
          go_simp
          with_reducible rfl
        simp only [Act.put, List.setIfInBounds_toArray, List.set_cons_zero, List.set_cons_succ]
        refine held_take 6 30 rfl rfl (by kernel_rfl) (by kernel_rfl) (by kernel_rfl) (fun _ _ _ h => h) (by rfl) hSS (v := ?_) ?_ ?_
        rotate_left
        · intro y hSy
          skip
          go_simp
          with_reducible rfl
        simp only [Act.put, List.setIfInBounds_toArray, List.set_cons_zero, List.set_cons_succ]
        refine held_take 7 31 rfl rfl (by kernel_rfl) (by kernel_rfl) (by kernel_rfl) (fun _ _ _ h => h) (by rfl) hSS (v := ?_) ?_ ?_
        rotate_left
        · intro y hSy
          skip
          go_simp
          with_reducible rfl
        simp only [Act.put, List.setIfInBounds_toArray, List.set_cons_zero, List.set_cons_succ]
        refine held_take 8 32 rfl rfl (by kernel_rfl) (by kernel_rfl) (by kernel_rfl) (fun _ _ _ h => h) (by rfl) hSS (v := ?_) ?_ ?_
        rotate_left
        · intro y hSy
          skip
          go_simp
          with_reducible rfl
        simp only [Act.put, List.setIfInBounds_toArray, List.set_cons_zero, List.set_cons_succ]
        refine held_take 9 33 rfl rfl (by kernel_rfl) (by kernel_rfl) (by kernel_rfl) (fun _ _ _ h => h) (by rfl) hSS (v := ?_) ?_ ?_
        rotate_left
        · intro y hSy
          have hy0 := hSK2 y hSy
          go_simp
          with_reducible rfl
        simp only [Act.put, List.setIfInBounds_toArray, List.set_cons_zero, List.set_cons_succ]
        refine held_take 10 34 rfl rfl (by kernel_rfl) (by kernel_rfl) (by kernel_rfl) (fun _ _ _ h => h) (by rfl) hSS (v := ?_) ?_ ?_
        rotate_left
        · intro y hSy
          skip
          go_simp
          with_reducible rfl
        simp only [Act.put, List.setIfInBounds_toArray, List.set_cons_zero, List.set_cons_succ]
        refine held_take 11 35 rfl rfl (by kernel_rfl) (by kernel_rfl) (by kernel_rfl) (fun _ _ _ h => h) (by rfl) hSS (v := ?_) ?_ ?_
        rotate_left
        · intro y hSy
          skip
          go_simp
          with_reducible rfl
        simp only [Act.put, List.setIfInBounds_toArray, List.set_cons_zero, List.set_cons_succ]
        refine held_take 12 36 rfl rfl (by kernel_rfl) (by kernel_rfl) (by kernel_rfl) (fun _ _ _ h => h) (by rfl) hSS (v := ?_) ?_ ?_
        rotate_left
        · intro y hSy
          skip
          go_simp
          with_reducible rfl
        simp only [Act.put, List.setIfInBounds_toArray, List.set_cons_zero, List.set_cons_succ]
        refine held_take 13 37 rfl rfl (by kernel_rfl) (by kernel_rfl) (by kernel_rfl) (fun _ _ _ h => h) (by rfl) hSS (v := ?_) ?_ ?_
        rotate_left
        · intro y hSy
          obtain ⟨y1, y2, y3, y4, y5, y6, y7, y8, y9, y10, y11, y12⟩ := hSK3 y hSy
          go_simp
          with_reducible rfl
        simp only [Act.put, List.setIfInBounds_toArray, List.set_cons_zero, List.set_cons_succ]
        refine wpAnyH_ready (rs := [5]) (by kernel_rfl) (by simp) ?_
        refine AllReadyH.cons rfl (fun K hK => ?_) AllReadyH.nil
        rw [if_pos (by rfl)]
        refine wp_call_two enter_chain9 rfl rfl rfl (hC1 _ hSS) ?_
        rintro V1 w9 ⟨hv1, hb9⟩
        replace hSS := hSS.trans (hb9.mono hSS.size)
        clear hC1 hb9
        refine hK.out _ _ hSS (fun _ => ?_)
        clear hK K
        simp only [Act.put]
        have hS := same_9 hv1 ((unhide HV2).later hSS)
        rw [show sameC ch ch = true from (sameC_iff _ _).2 rfl] at hS
        clear hv1
        refine wpAnyH_ready (rs := [14]) (by kernel_rfl) (by simp) ?_
        refine AllReadyH.cons rfl (fun K hK => ?_) AllReadyH.nil
        rw [if_pos (by rfl)]
        refine wp_call_two (R := fun v w' => v = .bool true ∧ Below w9.heap.size w9 w') enter_same9 rfl rfl rfl (hS.mono fun e w' h => ⟨_, h.1, rfl, h.2⟩) ?_
        rintro V3 w6 ⟨rfl, hb9⟩
        replace hSS := hSS.trans (hb9.mono hSS.size)
        clear hS hb9
        refine hK.out _ _ hSS (fun _ => ?_)
        clear hK K
        simp only [Act.put]
        refine wpAnyH_ready (rs := [15]) (by kernel_rfl) (by simp) ?_
        refine AllReadyH.cons rfl (fun K hK => ?_) AllReadyH.nil
        go_simp
        refine hK.out _ _ hSS (fun _ => ?_)
        clear hK K
        refine wpAnyH_done (by kernel_rfl) ?_ _
        go_wp2
        go_meet
        exact ⟨rfl, hSS⟩
      case rest =>
        obtain ⟨rfl, Hc⟩ := hcut
        have Hb3 := hide ((unhide Hb).trans ((unhide Hc).mono (unhide Hb).size))
        have c1 := hSK1 _ (unhide Hc)
        have c2 := hSK2 _ (unhide Hc)
        have c3 := hSK4 _ (unhide Hc)
        clear hSK1 hSK2 hSK3 hSK4 hck hmr r0 r1 r2 r3 r4 r5 r6 r7 r8 r9 r10 r11 r12 HV2 hC1 Hb Hc
        go_upto_region 8 with fail
        go_quiet (fail)
        go_wp2
        go_roundw
        case rel => exact ⟨k + 1, by go_num, hlt, bdn (unhide Hb3) _⟩
        case measure => simp [intOf]; omega
    · obtain rfl : k = n := by omega
      have hki : ¬ (k : Int) < (k : Int) := by omega
      go_wp2
      go_ret
      exact ⟨rfl, (unhide Hb2).trans ((unhide Hb).mono (unhide Hb2).size)⟩
end

end Go.Proofs.YtcdehnghggleoaaGreat

/-
  Bytes that came in. No law is proved here.
-/
namespace Go.Proofs.YtcdehnghggleoaaGreat
open Go.RowKit Go.ChangeShapes Go.WideShapes
set_option maxRecDepth 100000
set_option linter.unusedVariables false

section
variable {H : Type} {enc : TypeId × Value → H} {w : World} {base : Nat} {spare : Nat → Bool} {held : Bool}

/-- A slice of bytes that came in. -/
theorem view_bytes {fuel : Nat} {a : Option Addr} {len cap : Nat} {x : DataW H × List MemPlace} (h : DataW.trod enc Tryz.prog w base spare held fuel 22 (Value.cells (.slice a len cap)).toList = some x) : ∃ l, P1.Sl w (.slice a len cap) l := by
  rcases ChangeShapes.open_ints Tryz.underlying22 Tryz.underlying5 (by kernel_rfl) h with ⟨hcs, _⟩ | ⟨a', len', cap', zs, hcs, _, hl, hm, hz, _, hcell, hwz⟩
  · simp [Value.cells] at hcs
    obtain ⟨rfl, rfl, rfl⟩ := hcs
    exact ⟨[], P1.Sl.nil w⟩
  · simp [Value.cells] at hcs
    obtain ⟨rfl, rfl, rfl⟩ := hcs
    have hlz : len ≤ zs.length := by rw [hz]; split <;> omega
    have hlen : ((zs.take len).map fun z => UInt8.ofNat z.toNat).length = len := by simp; omega
    refine ⟨(zs.take len).map fun z => UInt8.ofNat z.toNat, some a', cap, by rw [hlen], by rw [hlen]; exact hl, hm, fun e => (by cases e), fun a ha j u hu => ?_⟩
    cases ha
    rw [P1.bc_get, List.getElem?_map] at hu
    have hj : j < len := by
      rcases Nat.lt_or_ge j len with h | h
      · exact h
      · rw [List.getElem?_take, if_neg (by omega)] at hu; cases hu
    rw [List.getElem?_take, if_pos hj, List.getElem?_eq_getElem (by omega)] at hu
    simp only [Option.map_some, Option.some.injEq] at hu
    rw [hcell j (by omega), ← hu, List.getD_eq_getElem?_getD, List.getElem?_eq_getElem (by omega)]
    have hb := bounds_u8 (hwz zs[j] (List.getElem_mem _))
    simp only [Option.getD_some]
    congr 2
    rw [UInt8.toNat_ofNat']
    omega

theorem view_pb {r : Reach} {b0 : Nat} {v : Value} {d : DataW H} {p : List MemPlace} (hv : Value.okWide Tryz.prog w r b0 22 v)
    (h : DataW.Trod enc Tryz.prog w base spare held 22 v d p) : ∃ z, P1.Sl w v z := by
  obtain ⟨a, n, c, rfl⟩ := okWide_slice Tryz.underlying22 hv
  obtain ⟨fuel, hf⟩ := h
  exact view_bytes hf

end

end Go.Proofs.YtcdehnghggleoaaGreat
