/-
  The contract of Resolve. No law is proved here.
-/
import Derived.Test.YtcdehnghggleoaaGn7
namespace Go.Proofs.Ytcdehnghggleoaa
open Go.RowKit Go.Maps
set_option linter.unusedVariables false
attribute [local go_sem] Oper.semAt_some

theorem absL_snoc (l : List Ent) (x : Ent) : absL (l ++ [x]) = absL l ++ [(x.key, x.c)] := by simp [absL]
theorem own_move {W W' : World} {b n : Nat} {D : DataW Value} (h : W.ownsMap Try.prog 9 rv b n D) (hb : W'.heap[b]? = W.heap[b]?) : W'.ownsMap Try.prog 9 rv b n D := by
  obtain ⟨es, clock, hb0, r⟩ := h
  exact ⟨es, clock, hb.trans hb0, r⟩
/-- Left at its end, and no otherwise. -/
def OnlyN (Q : Exit → Act → World → Prop) : Exit → Act → World → Prop
  | .normal, a, w => Q .normal a w
  | _, _, _ => False
theorem OnlyN.out {Q : Exit → Act → World → Prop} : ∀ e a w, OnlyN Q e a w → Q e a w := fun e a w h => by
  cases e <;> first | exact h | exact h.elim
theorem OnlyN.in {Q : Exit → Act → World → Prop} {a : Act} {w : World} (h : Q .normal a w) : OnlyN Q .normal a w := h
/-- After some rounds. -/
def RvP (w : World) (S1 N : Nat) (f t : ByteArray) (id ep : Int) (cm : Bool) (at' : Stp) (L : List Ent) (pre : List {e : Ent // e ∈ L}) (W : World) : Prop :=
  ∃ Ds : List Ent, (pre.map (·.1) <+: inE f t L → ∀ r, goV id ep cm at' [] (pre.map (·.1) ++ r) = goV id ep cm at' (absL Ds) r) ∧ (∀ z ∈ Ds, ∃ e ∈ pre.map (·.1), e.key = z.key) ∧ riseE Ds ∧ (∀ z ∈ Ds, z.c.vs.length ≤ N + 1) ∧ Ds.length ≤ pre.length ∧ RvI w S1 id ep cm at' Ds W
/-- A round has left for good. -/
def RvXP (w : World) (f t : ByteArray) (id ep : Int) (cm : Bool) (at' : Stp) (L : List Ent) (pre : List {e : Ent // e ∈ L}) (W : World) : Prop :=
  ∃ er, (pre.map (·.1) <+: inE f t L → ∀ r, goV id ep cm at' [] (pre.map (·.1) ++ r) = ([], er)) ∧ RvX w er W

section
set_option maxRecDepth 100000
set_option maxHeartbeats 2000000
/-- What Resolve answers, and what the store has then. -/
def RvAns (w : World) (a b N : Nat) (L : List Ent) (R : List KC × Int) (e : Ending) (w' : World) : Prop :=
  ∃ L', e = .returned (.tuple #[.int .i64 R.1.length, .int .i64 R.2]) ∧ Sto w' a b L' ∧ Room w' b L' (N + 1) ∧ resL L L' R.1 ∧ w.grownBy w' (some b)

theorem resolve9_any (a b N : Nat) (L : List Ent) (f t : ByteArray) (id ep : Int) (cm : Bool) (at' : Stp) (w : World) (h : Sto w a b L) (hroom : Room w b L N) (hN : N < 1000000) :
    Calls Try.prog 10 #[.pointer (some ⟨a, 0, none⟩), .agg #[.string f, .string t], .int .i64 id, .int .i64 ep, .bool cm, (.agg #[.int .i64 (at').1, .int .i64 (at').2])] w (RvAns w a b N L (resA f t id ep cm at' L)) := by
  have hM := fun w' => maygo_any ⟨a, 0, none⟩ f t w'
  have hroom' : Room w b L (N + 1) := ⟨by obtain ⟨n, h1, h2⟩ := hroom.1; exact ⟨n, h1, by omega⟩, fun e he => by have := hroom.2 e he; omega⟩
  obtain ⟨R, hR⟩ : ∃ R, resA f t id ep cm at' L = R := ⟨_, rfl⟩
  rw [hR]
  have HR := hide hR
  clear hR
  generalize hz : S5.rightB f t = z at *
  have QX := ((((((Blk.new w #[.string f, .string t] 26).alloc (.cells #[.int .i64 id] 3)).alloc (.cells #[.int .i64 ep] 3)).alloc (.cells #[.bool cm] 4)).alloc (.cells #[.int .i64 (at').1, .int .i64 (at').2] 28)).alloc (.cells #[.int .i64 0] 3)).alloc (.cells #[.int .i64 0] 37)
  have QI := (((((Blk.new (w.alloc (.cells #[.string f, .string t] 26)) #[.int .i64 id] 3).alloc (.cells #[.int .i64 ep] 3)).alloc (.cells #[.bool cm] 4)).alloc (.cells #[.int .i64 (at').1, .int .i64 (at').2] 28)).alloc (.cells #[.int .i64 0] 3)).alloc (.cells #[.int .i64 0] 37)
  rw [show (w.alloc (.cells #[.string f, .string t] 26)).heap.size = w.heap.size + 1 by simp] at QI
  have QE := ((((Blk.new ((w.alloc (.cells #[.string f, .string t] 26)).alloc (.cells #[.int .i64 id] 3)) #[.int .i64 ep] 3).alloc (.cells #[.bool cm] 4)).alloc (.cells #[.int .i64 (at').1, .int .i64 (at').2] 28)).alloc (.cells #[.int .i64 0] 3)).alloc (.cells #[.int .i64 0] 37)
  rw [show ((w.alloc (.cells #[.string f, .string t] 26)).alloc (.cells #[.int .i64 id] 3)).heap.size = w.heap.size + 1 + 1 by simp] at QE
  have QC := (((Blk.new (((w.alloc (.cells #[.string f, .string t] 26)).alloc (.cells #[.int .i64 id] 3)).alloc (.cells #[.int .i64 ep] 3)) #[.bool cm] 4).alloc (.cells #[.int .i64 (at').1, .int .i64 (at').2] 28)).alloc (.cells #[.int .i64 0] 3)).alloc (.cells #[.int .i64 0] 37)
  rw [show (((w.alloc (.cells #[.string f, .string t] 26)).alloc (.cells #[.int .i64 id] 3)).alloc (.cells #[.int .i64 ep] 3)).heap.size = w.heap.size + 1 + 1 + 1 by simp] at QC
  have QA := ((Blk.new ((((w.alloc (.cells #[.string f, .string t] 26)).alloc (.cells #[.int .i64 id] 3)).alloc (.cells #[.int .i64 ep] 3)).alloc (.cells #[.bool cm] 4)) #[.int .i64 (at').1, .int .i64 (at').2] 28).alloc (.cells #[.int .i64 0] 3)).alloc (.cells #[.int .i64 0] 37)
  rw [show ((((w.alloc (.cells #[.string f, .string t] 26)).alloc (.cells #[.int .i64 id] 3)).alloc (.cells #[.int .i64 ep] 3)).alloc (.cells #[.bool cm] 4)).heap.size = w.heap.size + 1 + 1 + 1 + 1 by simp] at QA
  have Q1 := (Blk.new (((((w.alloc (.cells #[.string f, .string t] 26)).alloc (.cells #[.int .i64 id] 3)).alloc (.cells #[.int .i64 ep] 3)).alloc (.cells #[.bool cm] 4)).alloc (.cells #[.int .i64 (at').1, .int .i64 (at').2] 28)) #[.int .i64 0] 3).alloc (.cells #[.int .i64 0] 37)
  rw [show (((((w.alloc (.cells #[.string f, .string t] 26)).alloc (.cells #[.int .i64 id] 3)).alloc (.cells #[.int .i64 ep] 3)).alloc (.cells #[.bool cm] 4)).alloc (.cells #[.int .i64 (at').1, .int .i64 (at').2] 28)).heap.size = w.heap.size + 1 + 1 + 1 + 1 + 1 by simp] at Q1
  have Q2 := Blk.new ((((((w.alloc (.cells #[.string f, .string t] 26)).alloc (.cells #[.int .i64 id] 3)).alloc (.cells #[.int .i64 ep] 3)).alloc (.cells #[.bool cm] 4)).alloc (.cells #[.int .i64 (at').1, .int .i64 (at').2] 28)).alloc (.cells #[.int .i64 0] 3)) #[.int .i64 0] 37
  rw [show ((((((w.alloc (.cells #[.string f, .string t] 26)).alloc (.cells #[.int .i64 id] 3)).alloc (.cells #[.int .i64 ep] 3)).alloc (.cells #[.bool cm] 4)).alloc (.cells #[.int .i64 (at').1, .int .i64 (at').2] 28)).alloc (.cells #[.int .i64 0] 3)).heap.size = w.heap.size + 1 + 1 + 1 + 1 + 1 + 1 by simp] at Q2
  have hB : Below w.heap.size w (((((((w.alloc (.cells #[.string f, .string t] 26)).alloc (.cells #[.int .i64 id] 3)).alloc (.cells #[.int .i64 ep] 3)).alloc (.cells #[.bool cm] 4)).alloc (.cells #[.int .i64 (at').1, .int .i64 (at').2] 28)).alloc (.cells #[.int .i64 0] 3)).alloc (.cells #[.int .i64 0] 37)) := (((((((Below.refl w.heap.size w).alloc (Nat.le_refl _) _).alloc (by simp) _).alloc (by simp; omega) _).alloc (by simp; omega) _).alloc (by simp; omega) _).alloc (by simp; omega) _).alloc (by simp; omega) _
  have hsto := h.later hB
  refine (callsIn_wide (n := 6)).1 ?_
  refine callsIn_of_wp_marks Try.func10 rfl trivial ?_ rfl
  simp only [Try.ntmps10, List.size_toArray, List.length_cons, List.length_nil, Nat.reduceAdd, Nat.reduceSub, Array.replicate_succ, Array.replicate_zero, List.push_toArray, List.append_toArray, List.nil_append, List.cons_append]
  gi_wp2_with fail
  generalize ((((((w.alloc _).alloc _).alloc _).alloc _).alloc _).alloc _).alloc _ = W at *
  refine ⟨trivial, (callsIn_wide.2 (hM _)).mono ?_⟩
  rintro e W1 ⟨rfl, hb1⟩
  have hsto1 := hsto.later hb1
  replace hB := hB.trans (hb1.mono hB.size)
  replace QX := QX.later hb1
  replace QI := QI.later hb1
  replace QE := QE.later hb1
  replace QC := QC.later hb1
  replace QA := QA.later hb1
  replace Q1 := Q1.later hb1
  replace Q2 := Q2.later hb1
  clear hb1 hsto hM
  cases z
  · have Q1_0 := Q1.c 0; simp only [List.getElem?_cons_zero] at Q1_0
    have Q2_0 := Q2.c 0; simp only [List.getElem?_cons_zero] at Q2_0
    have Q1f := Q1.f
    have Q2f := Q2.f
    have HB := hide hB
    clear hB
    have HH := hide (And.intro Q1 Q2)
    have hRe : R = ([], 51) := by
      rw [← unhide HR]
      unfold resA
      rw [hz, if_neg (by simp)]
    subst hRe
    clear Q1 Q2 HR
    gi_wp2
    obtain ⟨Q1, Q2⟩ := unhide HH
    obtain ⟨q1, q2⟩ := two Q1 Q2 [.int .i64 0] [.int .i64 51] rfl rfl (by omega)
    have hb := below_setAll (C := w.heap.size + 1 + 1 + 1 + 1 + 1 + 1) (by omega) [.int .i64 51] 0 (below_setAll (C := w.heap.size + 1 + 1 + 1 + 1 + 1) (by omega) [.int .i64 0] 0 (unhide HB))
    exact ⟨_, results_r2 Try.results10 0 51 rfl rfl q1 q2, L, rfl, h.later hb, hroom'.later hb, by unfold resL; rw [if_pos rfl], grown_of_below hb _⟩
  · have hSW : w.heap.size + 1 + 1 + 1 + 1 + 1 + 1 < W1.heap.size := Q2.lt
    have hRe : R = goV id ep cm at' [] (inE f t L) := by
      rw [← unhide HR]
      unfold resA
      rw [hz, if_pos rfl]
    have HR := hide hRe
    clear hRe
    have hmm := @run_makeMap Try.prog
    gi_upto_region 5 with fail
    have hbm : Below W1.heap.size W1 ((W1.alloc (.map #[] 0)).alloc (.cells #[.map (some W1.heap.size)] 63)) := ((Below.refl _ _).alloc (Nat.le_refl _) _).alloc (by simp) _
    have QT : Blk ((W1.alloc (.map #[] 0)).alloc (.cells #[.map (some W1.heap.size)] 63)) (W1.heap.size + 1) [.map (some W1.heap.size)] := by
      have := Blk.new (W1.alloc (.map #[] 0)) #[.map (some W1.heap.size)] 63
      rwa [World.size_alloc] at this
    have QM : ((W1.alloc (.map #[] 0)).alloc (.cells #[.map (some W1.heap.size)] 63)).ownsMap Try.prog 9 rv W1.heap.size 0 (DL []) := by
      rw [nil_DL]
      exact (World.ownsMap_made W1 _ _ _).alloc _
    have hsz2 : ((W1.alloc (.map #[] 0)).alloc (.cells #[.map (some W1.heap.size)] 63)).heap.size = W1.heap.size + 2 := by simp
    have hsto2 := hsto1.later hbm
    replace QX := QX.later hbm
    replace QI := QI.later hbm
    replace QE := QE.later hbm
    replace QC := QC.later hbm
    replace QA := QA.later hbm
    replace Q1 := Q1.later hbm
    replace Q2 := Q2.later hbm
    have hB2 := hB.trans (hbm.mono hB.size)
    clear hB hsto1 hbm hmm
    generalize (W1.alloc _).alloc _ = W2 at *
    have QX_0 := QX.c 0; have QX_1 := QX.c 1; simp only [List.getElem?_cons_zero, List.getElem?_cons_succ] at QX_0 QX_1
    gi_wp2_with fail
    refine ⟨trivial, (callsIn_wide.2 (in_any ⟨a, 0, none⟩ f t W2)).mono ?_⟩
    rintro e W3 ⟨rfl, rfl⟩
    have hb3 : Below W2.heap.size W2 ((W2.alloc (.cells #[.pointer (some ⟨a, 0, none⟩)] 23)).alloc (.cells #[.string f, .string t] 26)) := ((Below.refl _ _).alloc (Nat.le_refl _) _).alloc (by simp) _
    have hsz3 : ((W2.alloc (.cells #[.pointer (some ⟨a, 0, none⟩)] 23)).alloc (.cells #[.string f, .string t] 26)).heap.size = W1.heap.size + 4 := by simp; omega
    have hST : Still w ((W2.alloc (.cells #[.pointer (some ⟨a, 0, none⟩)] 23)).alloc (.cells #[.string f, .string t] 26)) a b L f t (W1.heap.size + 2 + 1) (W1.heap.size + 2) := by
      refine ⟨hsto2.later hb3, hB2.trans (hb3.mono hB2.size), ?_, ?_⟩
      · have := World.alloc_heap_new (W2.alloc (.cells #[.pointer (some ⟨a, 0, none⟩)] 23)) (.cells #[.string f, .string t] 26)
        rwa [World.size_alloc, hsz2] at this
      · have := World.alloc_heap_new W2 (.cells #[.pointer (some ⟨a, 0, none⟩)] 23)
        rw [hsz2] at this
        exact (Below.heap_alloc _ _ _ (by simp; omega)).trans this
    have hrd0 : RvI w W1.heap.size id ep cm at' [] ((W2.alloc (.cells #[.pointer (some ⟨a, 0, none⟩)] 23)).alloc (.cells #[.string f, .string t] 26)) :=
      ⟨hB2.trans (hb3.mono hB2.size), QI.later hb3, QE.later hb3, QC.later hb3, QA.later hb3, Q1.later hb3, Q2.later hb3, QT.later hb3, QM.kept (grown_of_below hb3 none) (by simp), fun e he => (by cases he)⟩
    have hvp := (QI.later hb3).head
    clear QI QE QC QA Q1 Q2 QT QM QX hsto2 hB2 hb3 QX_0 QX_1
    gi_wp2
    generalize (W2.alloc _).alloc _ = W3 at *
    clear hsz2
    have hmix : Try.prog.follows .mixedOrders = true := by kernel_rfl
    refine wpIn_rangeFunc_ownH rfl (by omega) (gf := 50) (lb := lbIn (W1.heap.size + 2 + 1) (W1.heap.size + 2)) rfl trivial (enters_of Try.func50 (by kernel_rfl) rfl)
      (in1_stops 5 (by omega) a b L f t hz (W1.heap.size + 2 + 1) (W1.heap.size + 2) (W1.heap.size + 2) (w.heap.size + 1) w W3 h hST (by omega) (by omega) (by omega) (by omega) (fun i n c => by rw [hvp]; simp))
      (fun h k => h.trans k) (fun W l o o' hl ho hc hw => Turn.book (C := W3.heap.size) (by omega) (by omega) W l o o' hl ho hc hw) (Below.refl _ _) (fun _ => rfl)
      (fun pre W => RvP w W1.heap.size N f t id ep cm at' L pre W)
      (fun c pre W => match c with
        | .ret => RvXP w f t id ep cm at' L pre W
        | _ => False)
      (fun pre W W' row hI hg hr => by obtain ⟨Ds, h1, h2, h3, h4, h5, h6⟩ := hI; exact ⟨Ds, h1, h2, h3, h4, h5, h6.own (B := W3.heap.size) (by omega) (by omega) hg hr⟩)
      (fun c pre W W' row hI hg hr => by
        cases c with
        | ret => obtain ⟨er, h1, h3⟩ := hI; exact ⟨er, h1, h3.own (B := W3.heap.size) (by omega) hg hr⟩
        | _ => exact hI.elim)
      ⟨[], fun _ r => rfl, fun z hz => (by cases hz), List.Pairwise.nil, fun z hz => (by cases hz), Nat.le_refl _, hrd0⟩
      (fun x a' W => ∃ Bc, W1.heap.size + 2 ≤ Bc ∧ Blk W Bc [.slice x.1.ao x.1.c.vs.length x.1.cap, .bool x.1.c.opn, .int .i64 x.1.c.itn.txn.id, .int .i64 x.1.c.itn.txn.ep, .string x.1.c.itn.txn.anchor, .int .i64 x.1.c.itn.txn.start.1, .int .i64 x.1.c.itn.txn.start.2, .int .i64 x.1.c.itn.seq, .int .i64 x.1.c.itn.at_.1, .int .i64 x.1.c.itn.at_.2, .string x.1.c.itn.val, .bool x.1.c.itn.gone] ∧ a' = { tmps := #[.pointer (some ⟨a, 0, none⟩), .agg #[.string f, .string t], .int .i64 id, .int .i64 ep, .bool cm, .agg #[.int .i64 at'.fst, .int .i64 at'.snd], undef, .pointer (some ⟨w.heap.size, 0, none⟩), .pointer (some ⟨w.heap.size + 1, 0, none⟩), .pointer (some ⟨w.heap.size + 1 + 1, 0, none⟩), .pointer (some ⟨w.heap.size + 1 + 1 + 1, 0, none⟩), .pointer (some ⟨w.heap.size + 1 + 1 + 1 + 1, 0, none⟩), .pointer (some ⟨w.heap.size + 1 + 1 + 1 + 1 + 1, 0, none⟩), .pointer (some ⟨w.heap.size + 1 + 1 + 1 + 1 + 1 + 1, 0, none⟩), .int .i64 0, .pointer (some ⟨W1.heap.size + 1, 0, none⟩), .string x.1.key, .pointer (some ⟨Bc, 0, none⟩), undef, undef, .pointer (some ⟨a, 0, none⟩), .agg #[.string f, .string t], .int .i64 0, .int .i64 0, .bool false, undef, .map (some W1.heap.size), .pointer (some ⟨a, 0, none⟩), .agg #[.string f, .string t], .func (.func 50) #[] #[.pointer (some ⟨W1.heap.size + 2 + 1, 0, none⟩), .pointer (some ⟨W1.heap.size + 2, 0, none⟩)], .string x.1.key, .agg #[.slice x.1.ao x.1.c.vs.length x.1.cap, .bool x.1.c.opn, .int .i64 x.1.c.itn.txn.id, .int .i64 x.1.c.itn.txn.ep, .string x.1.c.itn.txn.anchor, .int .i64 x.1.c.itn.txn.start.1, .int .i64 x.1.c.itn.txn.start.2, .int .i64 x.1.c.itn.seq, .int .i64 x.1.c.itn.at_.1, .int .i64 x.1.c.itn.at_.2, .string x.1.c.itn.val, .bool x.1.c.itn.gone], undef, undef, undef, undef, undef, undef, undef, undef, undef, undef, undef, undef, undef, undef, undef, undef, undef, undef, undef, undef, undef, undef, undef, undef, undef, undef, undef, undef, undef, undef, undef, undef, undef, undef, undef, undef, undef, undef], defers := [] })
      (fun x a' _ W W' row hI hg hr => by obtain ⟨Bc, h1, h2, h3⟩ := hI; exact ⟨Bc, h1, h2.turn (by simp) hg (fun r e => (hr r e).2), h3⟩)
      ?assign ?body ?done ?stop
    case assign =>
      rintro l pre x W K ⟨Ds, hs1, hs2, hs3, hs4, hs5, hI⟩ hK
      have hlt := hI.T.lt
      have hbw : Below W.heap.size W (W.alloc (.cells #[.slice x.1.ao x.1.c.vs.length x.1.cap, .bool x.1.c.opn, .int .i64 x.1.c.itn.txn.id, .int .i64 x.1.c.itn.txn.ep, .string x.1.c.itn.txn.anchor, .int .i64 x.1.c.itn.txn.start.1, .int .i64 x.1.c.itn.txn.start.2, .int .i64 x.1.c.itn.seq, .int .i64 x.1.c.itn.at_.1, .int .i64 x.1.c.itn.at_.2, .string x.1.c.itn.val, .bool x.1.c.itn.gone] 48)) := (Below.refl _ _).alloc (Nat.le_refl _) _
      have hI2 := hI.later hbw
      have hN := Blk.new W #[.slice x.1.ao x.1.c.vs.length x.1.cap, .bool x.1.c.opn, .int .i64 x.1.c.itn.txn.id, .int .i64 x.1.c.itn.txn.ep, .string x.1.c.itn.txn.anchor, .int .i64 x.1.c.itn.txn.start.1, .int .i64 x.1.c.itn.txn.start.2, .int .i64 x.1.c.itn.seq, .int .i64 x.1.c.itn.at_.1, .int .i64 x.1.c.itn.at_.2, .string x.1.c.itn.val, .bool x.1.c.itn.gone] 48
      gi_wp2
      exact hK _ _ (keeps_later hbw _) (Turn.later hbw (by omega) (by omega)) ⟨Ds, hs1, hs2, hs3, hs4, hs5, hI2⟩ ⟨W.heap.size, by omega, hN, rfl⟩
    case body =>
      rintro l pre x a' W hl ⟨r0, hr0⟩ ⟨Ds, hs1, hs2, hs3, hs4, hs5, hI⟩ ⟨Bc, hBc, hC, rfl⟩ hlt
      have hx := x.2
      have hvs := (h.below hI.bel (Nat.le_refl _)).vs x.1 hx
      have hvl := hroom.2 x.1 hx
      have hkx := key_le (h.keys x.1 hx)
      have hmp : (pre ++ [x]).map (·.1) = pre.map (·.1) ++ [x.1] := by rw [List.map_append]; rfl
      have hpf : (pre ++ [x]).map (·.1) <+: inE f t L → pre.map (·.1) <+: inE f t L ∧ ∀ z ∈ Ds, S5.L z.key x.1.key := fun hp => by
        rw [hmp] at hp
        obtain ⟨r1, hr1⟩ := hp
        refine ⟨⟨[x.1] ++ r1, by rw [← List.append_assoc]; exact hr1⟩, fun z hz => ?_⟩
        obtain ⟨e, he, hk⟩ := hs2 z hz
        rw [← hk]
        exact before_in (rise_inE h.rise f t) hr1 e he
      have hLl := h.len
      have hs2' : ∀ z ∈ Ds, ∃ e ∈ (pre ++ [x]).map (·.1), e.key = z.key := fun z hz => by
        obtain ⟨e, he, hk⟩ := hs2 z hz
        exact ⟨e, by rw [hmp]; exact List.mem_append_left _ he, hk⟩
      have hsx : ∃ e ∈ (pre ++ [x]).map (·.1), e.key = x.1.key := ⟨x.1, by rw [hmp]; simp, rfl⟩
      have hln : (pre ++ [x]).length = pre.length + 1 := by simp
      obtain ⟨e, he⟩ : ∃ e, x.1 = e := ⟨_, rfl⟩
      rw [he] at hmp hpf hsx
      simp only [he] at hvs hvl hC hkx ⊢
      clear hx he
      obtain ⟨key, ao, cap, vs, q, i⟩ := e
      have HMp := hide hmp
      clear hmp
      simp only at hvs hvl hC hkx hpf hsx ⊢
      have hRc := fun w' (hb : Below W.heap.size W w') => resolve_any ao cap vs q i id ep cm at' w' (hvs.later hb) (by omega)
      have hGo := fun hp r => hs1 hp (⟨key, ao, cap, ⟨vs, q, i⟩⟩ :: r)
      have hLn := resolveC_len ⟨vs, q, i⟩ id ep cm at'
      simp only [goV] at hGo
      obtain ⟨⟨⟨yv, yo, yi⟩, er⟩, hQ⟩ : ∃ Q, resolveC ⟨vs, q, i⟩ id ep cm at' = Q := ⟨_, rfl⟩
      rw [hQ] at hRc hLn
      simp only [hQ] at hRc hGo hLn
      clear hQ
      obtain ⟨nv, hnv⟩ : ∃ nv, vs.length = nv := ⟨_, rfl⟩
      obtain ⟨ny, hny⟩ : ∃ ny, yv.length = ny := ⟨_, rfl⟩
      simp only [hnv, hny] at hRc hC hLn hvl
      have cI := hI.I
      have cE := hI.E
      have cC := hI.C
      have cA := hI.A
      have cI_0 := cI.c 0; simp only [List.getElem?_cons_zero] at cI_0
      have cE_0 := cE.c 0; simp only [List.getElem?_cons_zero] at cE_0
      have cC_0 := cC.c 0; simp only [List.getElem?_cons_zero] at cC_0
      have cA_0 := cA.c 0; have cA_1 := cA.c 1; simp only [List.getElem?_cons_zero, List.getElem?_cons_succ] at cA_0 cA_1
      have hC_0 := hC.c 0; have hC_1 := hC.c 1; have hC_2 := hC.c 2; have hC_3 := hC.c 3; have hC_4 := hC.c 4; have hC_5 := hC.c 5; have hC_6 := hC.c 6; have hC_7 := hC.c 7; have hC_8 := hC.c 8; have hC_9 := hC.c 9; have hC_10 := hC.c 10; have hC_11 := hC.c 11; simp only [List.getElem?_cons_zero, List.getElem?_cons_succ] at hC_0 hC_1 hC_2 hC_3 hC_4 hC_5 hC_6 hC_7 hC_8 hC_9 hC_10 hC_11
      gi_wp2_with fail
      refine ⟨trivial, (CallsIn.inRound l (callsIn_wide.2 (hRc W (Below.refl _ _)))).mono ?_⟩
      rintro e W4 ⟨bo, d, rfl, hown4, hb4⟩
      have hI4 := hI.later hb4
      have hO4 := (Out.refl w.heap.size (W1.heap.size + 2) none W).below hb4
      have hC4 := hC.later hb4
      clear hRc hvs cI cE cC cA hC
      have Y := Blk.new W4 #[.slice bo ny d, .bool yo, .int .i64 yi.txn.id, .int .i64 yi.txn.ep, .string yi.txn.anchor, .int .i64 yi.txn.start.1, .int .i64 yi.txn.start.2, .int .i64 yi.seq, .int .i64 yi.at_.1, .int .i64 yi.at_.2, .string yi.val, .bool yi.gone] 48
      have hB : Below W4.heap.size W4 (W4.alloc (.cells #[.slice bo ny d, .bool yo, .int .i64 yi.txn.id, .int .i64 yi.txn.ep, .string yi.txn.anchor, .int .i64 yi.txn.start.1, .int .i64 yi.txn.start.2, .int .i64 yi.seq, .int .i64 yi.at_.1, .int .i64 yi.at_.2, .string yi.val, .bool yi.gone] 48)) := (Below.refl W4.heap.size W4).alloc (Nat.le_refl _) _
      have hI5 := hI4.later hB
      have hO5 := hO4.below hB
      have hC5 := hC4.later hB
      have hown5 := hown4.later hB
      have hW4l : W1.heap.size + 1 < W4.heap.size := hI4.T.lt
      gi_upto_region 9 with fail
      generalize W4.alloc _ = W5 at *
      clear hB hI4 hO4 hb4 hC4 hown4 cI_0 cE_0 cC_0 cA_0 cA_1 hC_0 hC_1 hC_2 hC_3 hC_4 hC_5 hC_6 hC_7 hC_8 hC_9 hC_10 hC_11
      have cT := hI5.T
      have hsame : ∀ {W' : World}, Out w.heap.size (W1.heap.size + 2) none W W' → RvI w W1.heap.size id ep cm at' Ds W' → (List.map (fun x => x.val) (pre ++ [x]) <+: inE f t L → ∀ (r : List Ent), goV id ep cm at' [] (List.map (fun x => x.val) (pre ++ [x]) ++ r) = goV id ep cm at' (absL Ds) r) →
          KeepsFrom (W1.heap.size + 4) W W' ∧ Turn w.heap.size (W1.heap.size + 2) (w.heap.size + 1) true W W' ∧ RvP w W1.heap.size N f t id ep cm at' L (pre ++ [x]) W' := fun {W'} hO hI' hg =>
        ⟨hO.keeps (by omega) (fun k e => (by cases e)), hO.turn (v := .int .i64 id) (v' := .int .i64 id) hI.bel.size (fun k e => (by cases e)) hI.I.head hI'.I.head (fun k e => (by cases e)) (fun k e => (by cases e)), Ds, hg, hs2', hs3, hs4, by omega, hI'⟩
      by_cases h0 : er = 0
      · subst h0
        have hLn := hLn rfl
        simp only [if_true] at hGo
        have hno : (q && !yo) = false → List.map (fun x => x.val) (pre ++ [x]) <+: inE f t L → ∀ (r : List Ent), goV id ep cm at' [] (List.map (fun x => x.val) (pre ++ [x]) ++ r) = goV id ep cm at' (absL Ds) r := fun hq hp r => by
          have := hGo (hpf hp).1 r
          rw [hq, if_neg (by simp)] at this
          rw [← this, unhide HMp, List.append_assoc]
          rfl
        cases q
        · have hend := hide (hsame hO5 hI5 (hno rfl))
          have hC5_0 := hC5.c 0; have hC5_1 := hC5.c 1; have hC5_2 := hC5.c 2; have hC5_3 := hC5.c 3; have hC5_4 := hC5.c 4; have hC5_5 := hC5.c 5; have hC5_6 := hC5.c 6; have hC5_7 := hC5.c 7; have hC5_8 := hC5.c 8; have hC5_9 := hC5.c 9; have hC5_10 := hC5.c 10; have hC5_11 := hC5.c 11; simp only [List.getElem?_cons_zero, List.getElem?_cons_succ] at hC5_0 hC5_1 hC5_2 hC5_3 hC5_4 hC5_5 hC5_6 hC5_7 hC5_8 hC5_9 hC5_10 hC5_11
          clear hsame hno hGo hI5 hO5 Y hown5 hI
          gi_wp2
          have hend := unhide hend
          exact hend
        · cases yo
          · have hyes : List.map (fun x => x.val) (pre ++ [x]) <+: inE f t L → ∀ (r : List Ent), goV id ep cm at' [] (List.map (fun x => x.val) (pre ++ [x]) ++ r) = goV id ep cm at' (absL (setE Ds ⟨key, bo, d, ⟨yv, false, yi⟩⟩)) r := fun hp r => by
              have := hGo (hpf hp).1 r
              rw [if_pos (by rfl)] at this
              rw [setE_snoc (hpf hp).2, absL_snoc]
              rw [unhide HMp, List.append_assoc]
              exact this
            have HO5 := hide hO5
            have HI5 := hide hI5
            have hM5 := hI5.M
            have hlW0 := hI.T.lt
            have Hown := hide (hown5.mono (B' := W1.heap.size + 2) (by omega))
            have hlW : W1.heap.size < W5.heap.size := by have := cT.lt; omega
            have hC5_0 := hC5.c 0; have hC5_1 := hC5.c 1; have hC5_2 := hC5.c 2; have hC5_3 := hC5.c 3; have hC5_4 := hC5.c 4; have hC5_5 := hC5.c 5; have hC5_6 := hC5.c 6; have hC5_7 := hC5.c 7; have hC5_8 := hC5.c 8; have hC5_9 := hC5.c 9; have hC5_10 := hC5.c 10; have hC5_11 := hC5.c 11; simp only [List.getElem?_cons_zero, List.getElem?_cons_succ] at hC5_0 hC5_1 hC5_2 hC5_3 hC5_4 hC5_5 hC5_6 hC5_7 hC5_8 hC5_9 hC5_10 hC5_11
            have Y_0 := Y.c 0; have Y_1 := Y.c 1; have Y_2 := Y.c 2; have Y_3 := Y.c 3; have Y_4 := Y.c 4; have Y_5 := Y.c 5; have Y_6 := Y.c 6; have Y_7 := Y.c 7; have Y_8 := Y.c 8; have Y_9 := Y.c 9; have Y_10 := Y.c 10; have Y_11 := Y.c 11; simp only [List.getElem?_cons_zero, List.getElem?_cons_succ] at Y_0 Y_1 Y_2 Y_3 Y_4 Y_5 Y_6 Y_7 Y_8 Y_9 Y_10 Y_11
            have cT_0 := cT.c 0; simp only [List.getElem?_cons_zero] at cT_0
            have hNl := hny
            subst hNl
            have Hs := And.intro hs2' hs3
            clear hsame hno hGo hI5 hO5 Y hown5 hpf hs1
            gi_wp2_with (first
              | (gi_at_mapUpdate; refine wpListIn_mapUpdate_own W5 rfl _ _ _ 63 rfl 9 48 keyed Try.underlying63 rv W1.heap.size _ _ rfl hM5 (by unfold maxLen; omega) (.string key) _ (keyL key) rfl rfl (keyOf_s (by unfold maxLen; omega)) (.held _) [] rfl ?_; intro w6 hown6 hg6)
              | gi_in)
            have hO6 := (unhide HO5).grown_in hg6 ⟨by omega, by omega⟩
            have hI6 := (unhide HI5).put (x := ⟨key, bo, d, ⟨yv, false, yi⟩⟩) (by omega) hs3 (unhide Hown) hown6 hg6
            have hlE := len_setE Ds ⟨key, bo, d, ⟨yv, false, yi⟩⟩
            refine ⟨hO6.keeps (by omega) (fun k e => (by cases e)), hO6.turn (v := .int .i64 id) (v' := .int .i64 id) hI.bel.size (fun k e => (by cases e)) hI.I.head hI6.I.head (fun k e => (by cases e)) (fun k e => (by cases e)), setE Ds ⟨key, bo, d, ⟨yv, false, yi⟩⟩, hyes, fun z hz => ?_, rise_setE hs3, fun z hz => ?_, by omega, hI6⟩
            · rcases (mem_setE hs3).1 hz with rfl | y
              · exact hsx
              · exact hs2' z y.1
            · rcases (mem_setE hs3).1 hz with rfl | y
              · simp only; omega
              · exact hs4 z y.1
          · have hend := hide (hsame hO5 hI5 (hno rfl))
            have hC5_0 := hC5.c 0; have hC5_1 := hC5.c 1; have hC5_2 := hC5.c 2; have hC5_3 := hC5.c 3; have hC5_4 := hC5.c 4; have hC5_5 := hC5.c 5; have hC5_6 := hC5.c 6; have hC5_7 := hC5.c 7; have hC5_8 := hC5.c 8; have hC5_9 := hC5.c 9; have hC5_10 := hC5.c 10; have hC5_11 := hC5.c 11; simp only [List.getElem?_cons_zero, List.getElem?_cons_succ] at hC5_0 hC5_1 hC5_2 hC5_3 hC5_4 hC5_5 hC5_6 hC5_7 hC5_8 hC5_9 hC5_10 hC5_11
            have Y_0 := Y.c 0; have Y_1 := Y.c 1; have Y_2 := Y.c 2; have Y_3 := Y.c 3; have Y_4 := Y.c 4; have Y_5 := Y.c 5; have Y_6 := Y.c 6; have Y_7 := Y.c 7; have Y_8 := Y.c 8; have Y_9 := Y.c 9; have Y_10 := Y.c 10; have Y_11 := Y.c 11; simp only [List.getElem?_cons_zero, List.getElem?_cons_succ] at Y_0 Y_1 Y_2 Y_3 Y_4 Y_5 Y_6 Y_7 Y_8 Y_9 Y_10 Y_11
            clear hsame hno hGo hI5 hO5 Y hown5 hI
            gi_wp2
            have hend := unhide hend
            exact hend
      · have b0 : (er == 0) = false := by rw [beq_eq_false_iff_ne]; exact h0
        have hX : List.map (fun x => x.val) (pre ++ [x]) <+: inE f t L → ∀ (r : List Ent), goV id ep cm at' [] (List.map (fun x => x.val) (pre ++ [x]) ++ r) = ([], er) := fun hp r => by
          have := hGo (hpf hp).1 r
          rw [if_neg h0] at this
          rw [← this, unhide HMp, List.append_assoc]
          rfl
        have HX := hide hX
        have c1 := hI5.Q1
        have c2 := hI5.Q2
        have f1 := c1.f
        have f2 := c2.f
        have c1_0 := c1.c 0; simp only [List.getElem?_cons_zero] at c1_0
        have c2_0 := c2.c 0; simp only [List.getElem?_cons_zero] at c2_0
        have HH := hide (And.intro c1 c2)
        have HB := hide hI5.bel
        have HO5 := hide hO5
        clear hX hGo hsame hI5 hO5 Y hown5 hC5 hs1 c1 c2
        gi_wp2
        obtain ⟨c1, c2⟩ := unhide HH
        obtain ⟨q1, q2⟩ := two c1 c2 [.int .i64 0] [.int .i64 er] rfl rfl (by omega)
        have hb7 := below_setAll (C := w.heap.size + 1 + 1 + 1 + 1 + 1 + 1) (by omega) [.int .i64 er] 0 (below_setAll (C := w.heap.size + 1 + 1 + 1 + 1 + 1) (by omega) [.int .i64 0] 0 (unhide HB))
        have hO7 := Out.all (b := w.heap.size + 1 + 1 + 1 + 1 + 1 + 1) (.inl ⟨by omega, by omega⟩) [.int .i64 er] 0 (Out.all (b := w.heap.size + 1 + 1 + 1 + 1 + 1) (.inl ⟨by omega, by omega⟩) [.int .i64 0] 0 (unhide HO5))
        exact ⟨hO7.keeps (by omega) (fun k e => (by cases e)), er, unhide HX, ⟨hb7, q1, q2⟩⟩
    case done =>
      rintro D xs W hD hxs ⟨Ds, hs1, hs2, hs3, hs4, hs5, hI⟩ hK
      have hRf : R = (absL Ds, 0) := by
        rw [unhide HR, ← hxs, ← List.append_nil (xs.map (·.1)), hs1 (by rw [hxs]; exact List.prefix_refl _) []]
        rfl
      subst hRf
      have hLl := h.len
      have hil : (inE f t L).length ≤ L.length := List.length_filter_le _ _
      have hxl : xs.length = (inE f t L).length := by rw [← hxs, List.length_map]
      have hin : ∀ e ∈ Ds, ∃ z ∈ L, z.key = e.key := fun e he => by
        obtain ⟨z, hz, hk⟩ := hs2 e he
        rw [hxs] at hz
        exact ⟨z, (List.mem_filter.1 hz).1, hk⟩
      have hSt := h.below hI.bel (Nat.le_refl _)
      clear HR hs1 hs2 hxs
      have cT := hI.T
      have c1 := hI.Q1
      have c2 := hI.Q2
      have hM := hI.M
      have hsz := size_DL Ds
      have hal : (absL Ds).length = Ds.length := by unfold absL; rw [List.length_map]
      obtain ⟨m, hm⟩ : ∃ m, Ds.length = m := ⟨_, rfl⟩
      rw [hm] at hM hsz hal hs5
      by_cases h0 : m = 0
      · subst h0
        have hD0 : Ds = [] := List.eq_nil_of_length_eq_zero hm
        have f1 := c1.f
        have f2 := c2.f
        have cT_0 := cT.c 0; simp only [List.getElem?_cons_zero] at cT_0
        have c1_0 := c1.c 0; simp only [List.getElem?_cons_zero] at c1_0
        have c2_0 := c2.c 0; simp only [List.getElem?_cons_zero] at c2_0
        have HH := hide (And.intro c1 c2)
        have HI := hide hI
        have HST := hide hSt
        have HK := hide hK
        clear hI c1 c2 hSt
        have hlen : (Builtin.len_ #[63] 3 #[.map (some W1.heap.size)]).run Try.prog W = .ok (.int .i64 0) W := (hM.len Try.underlying63 _).trans (by rw [hsz]; rfl)
        gi_wp2
        obtain ⟨c1, c2⟩ := unhide HH
        have hI := unhide HI
        obtain ⟨q1, q2⟩ := two c1 c2 [.int .i64 0] [.int .i64 0] rfl rfl (by omega)
        have hb7 := below_setAll (C := w.heap.size + 1 + 1 + 1 + 1 + 1 + 1) (by omega) [.int .i64 0] 0 (below_setAll (C := w.heap.size + 1 + 1 + 1 + 1 + 1) (by omega) [.int .i64 0] 0 hI.bel)
        have hK4 := put_all (b := w.heap.size + 1 + 1 + 1 + 1 + 1 + 1) [.int .i64 0] 0 (put_all (b := w.heap.size + 1 + 1 + 1 + 1 + 1) [.int .i64 0] 0 (unhide HK))
        have hb8 := hb7.grown (grownBy_putObj' _ D (.deferred none)) hb7.size (fun k e => (by cases e; omega))
        refine ⟨by simp, .inl ⟨_, _, rfl, run_takeDeferred hK4, ⟨_, results_r2 Try.results10 0 0 rfl rfl (q1.put (by simp) hK4 rfl _) (q2.put (by simp) hK4 rfl _), ?_⟩⟩⟩
        exact ⟨L, by rw [hal]; rfl, h.later hb8, hroom'.later hb8, by unfold resL; rw [if_pos (by rw [hD0]; rfl)], grown_of_below hb8 _⟩
      · have hDn : absL Ds ≠ [] := fun e => h0 (by rw [← hal, e]; rfl)
        have hlen : ∀ {W' : World}, W'.ownsMap Try.prog 9 rv W1.heap.size m (DL Ds) → (Builtin.len_ #[63] 3 #[.map (some W1.heap.size)]).run Try.prog W' = .ok (.int .i64 m) W' := fun hM' => (hM'.len Try.underlying63 _).trans (by rw [hsz])
        have hl0 := hlen hM
        have hgt : decide ((m : Int) > 0) = true := by rw [decide_eq_true_eq]; omega
        have cT_0 := cT.c 0; simp only [List.getElem?_cons_zero] at cT_0
        have HH := hide (And.intro c1 c2)
        have HI := hide hI
        have HST := hide hSt
        have HK := hide hK
        clear hI c1 c2
        gi_upto_region 14 with fail
        refine wpIn_wide.2 ?_
        refine Code.wp_mono OnlyN.out ?_
        have hbS : b < W1.heap.size := by have := h.ltb; omega
        have haS : a < W1.heap.size := by have := h.lta; omega
        have hab := h.ne
        have hWl := cT.lt
        have z1 := hSt.drew.cell
        obtain ⟨nL, hnL, hnl⟩ := hSt.drew.own
        have hMd : W.drew.ownsMap Try.prog 9 rv W1.heap.size m (DL Ds) := hM.kept (grown_of_below (Below.refl _ _).drew none) (by simp)
        have cTd := cT.drew
        have hmc := mcopy_any b W1.heap.size nL m L Ds W.drew hnL hMd (by omega) (by omega)
        have zT := cTd.head
        have hk8 : ∀ e ∈ L, e.key.size ≤ maxLen := fun e he => by have := key_le (h.keys e he); unfold maxLen; omega
        rw [merge_DL h.rise hk8 (fun e he => by obtain ⟨z, hz, hk⟩ := hin e he; rw [← hk]; exact hk8 z hz)] at hmc
        have hszW : W.drew.heap.size = W.heap.size := rfl
        have HId := hide ((unhide HI).later ((Below.refl _ _).drew))
        have hKd := put_drew (unhide HK)
        have hcA : ∀ {Wc : World}, W.drew.grownBy Wc (some b) → Wc.cell? ⟨a, 0, none⟩ = some (.map (some b)) ∧ Wc.cell? ⟨W1.heap.size + 1, 0, none⟩ = some (.map (some W1.heap.size)) := fun hg =>
          ⟨(World.cell?_of_block (a := ⟨a, 0, none⟩) (hg.block a (by rw [hszW]; omega) (fun e => hab (by cases e; rfl)))).trans z1, (World.cell?_of_block (a := ⟨W1.heap.size + 1, 0, none⟩) (hg.block (W1.heap.size + 1) (by rw [hszW]; exact hWl) (fun e => by have := Option.some.inj e; omega))).trans zT⟩
        clear hnL hMd hSt
        refine wp_region_held_drew (S := fun w' => w'.cell? ⟨a, 0, none⟩ = some (.map (some b)) ∧ w'.cell? ⟨W1.heap.size + 1, 0, none⟩ = some (.map (some W1.heap.size))) (by kernel_rfl) ⟨z1, zT⟩ (fun hSS => ?_)
        generalize W.drew = Wd at *
        refine held_take 0 57 rfl rfl (by kernel_rfl) (by kernel_rfl) (by kernel_rfl) (fun _ _ _ h => h) (by rfl) hSS (v := ?_) ?_ ?_
        rotate_left
        · intro y hSy
          obtain ⟨hy1, hy2⟩ := hSy
          go_simp
          with_reducible rfl
        simp only [Act.put, List.setIfInBounds_toArray, List.set_cons_zero, List.set_cons_succ]
        refine held_take 1 58 rfl rfl (by kernel_rfl) (by kernel_rfl) (by kernel_rfl) (fun _ _ _ h => h) (by rfl) hSS (v := ?_) ?_ ?_
        rotate_left
        · intro y hSy
          obtain ⟨hy1, hy2⟩ := hSy
          go_simp
          with_reducible rfl
        simp only [Act.put, List.setIfInBounds_toArray, List.set_cons_zero, List.set_cons_succ]
        refine held_take 2 59 rfl rfl (by kernel_rfl) (by kernel_rfl) (by kernel_rfl) (fun _ _ _ h => h) (by rfl) hSS (v := ?_) ?_ ?_
        rotate_left
        · intro y hSy
          obtain ⟨hy1, hy2⟩ := hSy
          go_simp
          with_reducible rfl
        simp only [Act.put, List.setIfInBounds_toArray, List.set_cons_zero, List.set_cons_succ]
        refine held_take 3 60 rfl rfl (by kernel_rfl) (by kernel_rfl) (by kernel_rfl) (fun _ _ _ h => h) (by rfl) hSS (v := ?_) ?_ ?_
        rotate_left
        · intro y hSy
          obtain ⟨hy1, hy2⟩ := hSy
          go_simp
          with_reducible rfl
        simp only [Act.put, List.setIfInBounds_toArray, List.set_cons_zero, List.set_cons_succ]
        refine held_take 4 61 rfl rfl (by kernel_rfl) (by kernel_rfl) (by kernel_rfl) (fun _ _ _ h => h) (by rfl) hSS (v := ?_) ?_ ?_
        rotate_left
        · intro y hSy
          obtain ⟨hy1, hy2⟩ := hSy
          go_simp
          with_reducible rfl
        simp only [Act.put, List.setIfInBounds_toArray, List.set_cons_zero, List.set_cons_succ]
        refine wpAnyH_ready (rs := [5]) (by kernel_rfl) (by simp) ?_
        refine AllReadyH.cons rfl (fun K hK => ?_) AllReadyH.nil
        go_wp2_with (go_at_call 30; refine hmc.mono ?_; rintro e Wc ⟨rfl, hoc, hgc⟩; obtain ⟨y1, y2⟩ := hcA hgc; have Hoc := hide hoc; have Hgc := hide hgc; clear hoc hgc)
        refine hK.out _ _ ⟨y1, y2⟩ (fun _ => ?_)
        clear hK K
        refine wpAnyH_done (by kernel_rfl) ?_ _
        refine OnlyN.in ?_
        gi_wp2_with fail
        refine ⟨trivial, (callsIn_wide.2 (mdelete_any b _ (Ds.foldl setE L) (rise_fold h.rise) Wc (unhide Hoc) #[] rfl)).mono ?_⟩
        rintro e Wv ⟨rfl, hov, hgv⟩
        have hIb := unhide HId
        have hgV : Wd.grownBy Wv (some b) := (unhide Hgc).andThen hgv (fun j hj => .inr hj)
        have hnc : ∀ r, some b = some r → ∃ o : Obj, Wd.heap[r]? = some o ∧ o.isCells = false := fun r e => by
          cases e
          have hsd := h.below hIb.bel (Nat.le_refl _)
          obtain ⟨_, ho, _⟩ := hsd.own
          exact own_cells ho
        have c1 := hIb.Q1.turn (by simp) hgV hnc
        have c2 := hIb.Q2.turn (by simp) hgV hnc
        have cTv := hIb.T.turn (by simp) hgV hnc
        have hMv : Wv.ownsMap Try.prog 9 rv W1.heap.size Ds.length (DL Ds) := hIb.M.kept hgV (fun e => by have := Option.some.inj e; omega)
        rw [hm] at hMv
        have hvv : ∀ e ∈ Ds, VOwn (W1.heap.size + 2) Wv e.ao e.cap e.c.vs := fun e he => row_turn (hIb.vs e he) hgV hnc
        have hKv : Wv.heap[D]? = some (.deferred (some [])) := (hgV.block D (Array.getElem?_eq_some_iff.1 hKd).1 (fun e => by have := Option.some.inj e; omega)).trans hKd
        have hgw : w.grownBy Wv (some b) := (grown_of_below hIb.bel (some b)).andThen hgV (fun j hj => .inr hj)
        have hl1 := hlen hMv
        have f1 := c1.f
        have f2 := c2.f
        have cTv_0 := cTv.c 0; simp only [List.getElem?_cons_zero] at cTv_0
        have c1_0 := c1.c 0; simp only [List.getElem?_cons_zero] at c1_0
        have c2_0 := c2.c 0; simp only [List.getElem?_cons_zero] at c2_0
        have HH := hide (And.intro c1 c2)
        have Hov := hide hov
        have Hgw := hide hgw
        have HK2 := hide hKv
        clear c1 c2 hIb hgV hnc cTv hMv hov hgw hKv hgv y1 y2 hmc hcA hKd HId Hgc Hoc hl0
        gi_wp2
        obtain ⟨c1, c2⟩ := unhide HH
        obtain ⟨q1, q2⟩ := two c1 c2 [.int .i64 m] [.int .i64 0] rfl rfl (by omega)
        have hK4 := put_all (b := w.heap.size + 1 + 1 + 1 + 1 + 1 + 1) [.int .i64 0] 0 (put_all (b := w.heap.size + 1 + 1 + 1 + 1 + 1) [.int .i64 m] 0 (unhide HK2))
        have hg8 := (grown_all (b := w.heap.size + 1 + 1 + 1 + 1 + 1 + 1) (by omega) [.int .i64 0] 0 (grown_all (b := w.heap.size + 1 + 1 + 1 + 1 + 1) (by omega) [.int .i64 m] 0 (unhide Hgw))).andThen (grownBy_putObj' _ D (.deferred none)) (fun j hj => .inl (by cases hj; omega))
        refine ⟨by simp, .inl ⟨_, _, rfl, run_takeDeferred hK4, ⟨_, results_r2 Try.results10 m 0 rfl rfl (q1.put (by simp) hK4 rfl _) (q2.put (by simp) hK4 rfl _), ?_⟩⟩⟩
        have hbw := h.ltb
        obtain ⟨es, clock, hb0, hrest⟩ := unhide Hov
        have ho8 := own_move (W' := (setAll (setAll Wv (w.heap.size + 1 + 1 + 1 + 1 + 1) 0 [.int .i64 m]) (w.heap.size + 1 + 1 + 1 + 1 + 1 + 1) 0 [.int .i64 0]).putObj D (.deferred none)) (unhide Hov) ((World.putObj_heap_other (by omega)).trans ((heap_all (b := w.heap.size + 1 + 1 + 1 + 1 + 1 + 1) (by omega) [.int .i64 0] 0).trans (heap_all (b := w.heap.size + 1 + 1 + 1 + 1 + 1) (by omega) [.int .i64 m] 0)))
        have hv8 : ∀ e ∈ Ds, Vs ((setAll (setAll Wv (w.heap.size + 1 + 1 + 1 + 1 + 1) 0 [.int .i64 m]) (w.heap.size + 1 + 1 + 1 + 1 + 1 + 1) 0 [.int .i64 0]).putObj D (.deferred none)) e.ao e.cap e.c.vs := fun e he =>
          VOwn.vs (row_turn (VOwn.others (C := w.heap.size + 1 + 1 + 1 + 1 + 1 + 1) (by omega) [.int .i64 0] 0 (VOwn.others (C := w.heap.size + 1 + 1 + 1 + 1 + 1) (by omega) [.int .i64 m] 0 (hvv e he))) (grownBy_putObj' _ D _) (fun r e => by cases e; exact ⟨_, hK4, rfl⟩))
        obtain ⟨s1, s2⟩ := resolved h hroom hN hg8 ho8 hin hv8 hs4
        exact ⟨_, by rw [hal], s1, s2, by unfold resL; rw [if_neg hDn]; exact ⟨Ds, rfl, rfl⟩, hg8⟩
    case stop =>
      rintro D c pre W hD hpre hIx hK
      cases c with
      | ret =>
        obtain ⟨er, hX, hI⟩ := hIx
        obtain ⟨rest, hrest⟩ := hpre
        have hRf : R = ([], er) := by rw [unhide HR, ← hrest, hX ⟨rest, hrest⟩ rest]
        subst hRf
        clear HR hX hrest
        gi_wp2
        have hb8 := hI.bel.grown (grownBy_putObj' _ D (.deferred none)) hI.bel.size (fun k e => (by cases e; omega))
        refine ⟨by simp, .inl ⟨_, _, rfl, run_takeDeferred hK, ⟨_, results_r2 Try.results10 0 er rfl rfl (hI.Q1.put (by simp) hK rfl _) (hI.Q2.put (by simp) hK rfl _), ?_⟩⟩⟩
        exact ⟨L, rfl, h.later hb8, hroom'.later hb8, by unfold resL; rw [if_pos rfl], grown_of_below hb8 _⟩
      | _ => exact hIx.elim
end

end Go.Proofs.Ytcdehnghggleoaa
