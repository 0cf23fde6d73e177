/-
  The contract of the document's Read. No law is proved here.
-/
import Derived.Test.YtcahmnpoajnmpaaVs9
import Derived.Deep.Cut
import Derived.BigRegion
namespace Go.Proofs.Ytcahmnpoajnmpaa
open Go.RowKit
set_option linter.unusedVariables false

/-- What the loop has found so far: the last version not above the stamp; the last one in doubt. -/
structure Sofar (vs : List Ver) (a l : Stp) (p q : Bool) (b t : Ver) : Prop where
  best : bestV vs a = if p = true then some b else none
  yes : q = true → ∃ u, doubtV vs a l = some u ∧ t = bare u
  no : q = false → doubtV vs a l = none
theorem Sofar.zero (a l : Stp) (b t : Ver) : Sofar [] a l false false b t := ⟨rfl, fun h => (by cases h), fun _ => rfl⟩
theorem Sofar.put {vs : List Ver} {a l : Stp} {p q : Bool} {b t : Ver} {k : Nat} (h : Sofar (vs.take k) a l p q b t) (hk : k < vs.length) {v : Ver} (hv : vs[k] = v) (hu : upB v.at_ a = true) : Sofar (vs.take (k + 1)) a l true q v t := by
  rw [List.take_succ_eq_append_getElem hk, hv]
  refine ⟨by rw [bestV_snoc, if_pos hu, if_pos rfl], ?_, ?_⟩
  · rw [doubtV_snoc, if_neg (fun e => by rw [hu] at e; cases e.1)]; exact h.yes
  · rw [doubtV_snoc, if_neg (fun e => by rw [hu] at e; cases e.1)]; exact h.no
theorem Sofar.doubt {vs : List Ver} {a l : Stp} {p q : Bool} {b t : Ver} {k : Nat} (h : Sofar (vs.take k) a l p q b t) (hk : k < vs.length) {v : Ver} (hv : vs[k] = v) (hu : upB v.at_ a = false) (hl : upB v.at_ l = true) : Sofar (vs.take (k + 1)) a l p true b (bare v) := by
  rw [List.take_succ_eq_append_getElem hk, hv]
  refine ⟨by rw [bestV_snoc, if_neg (by rw [hu]; simp)]; exact h.best, fun _ => ⟨v, by rw [doubtV_snoc, if_pos ⟨hu, hl⟩], rfl⟩, fun e => by cases e⟩
theorem Sofar.pass {vs : List Ver} {a l : Stp} {p q : Bool} {b t : Ver} {k : Nat} (h : Sofar (vs.take k) a l p q b t) (hk : k < vs.length) {v : Ver} (hv : vs[k] = v) (hu : upB v.at_ a = false) (hl : upB v.at_ l = false) : Sofar (vs.take (k + 1)) a l p q b t := by
  rw [List.take_succ_eq_append_getElem hk, hv]
  refine ⟨by rw [bestV_snoc, if_neg (by rw [hu]; simp)]; exact h.best, ?_, ?_⟩
  · rw [doubtV_snoc, if_neg (fun e => by rw [hl] at e; cases e.2)]; exact h.yes
  · rw [doubtV_snoc, if_neg (fun e => by rw [hl] at e; cases e.2)]; exact h.no

/-- What is answered where no intent is in the way. -/
def restC (vs : List Ver) (a l : Stp) : Ver × Bool × Met × Int := match doubtV vs a l with
  | some v => (⟨v.at_, ⟨#[]⟩, false, 0⟩, false, Met.zero, 82)
  | none => match bestV vs a with
    | some v => if v.gone = true then (Ver.zero, false, Met.zero, 0) else (v, true, Met.zero, 0)
    | none => (Ver.zero, false, Met.zero, 0)
theorem Sofar.unsure {vs : List Ver} {a l : Stp} {p : Bool} {b t : Ver} (h : Sofar vs a l p true b t) : restC vs a l = (t, false, Met.zero, 82) := by
  obtain ⟨u, e, rfl⟩ := h.yes rfl
  unfold restC
  rw [e]
  rfl
theorem Sofar.none {vs : List Ver} {a l : Stp} {b t : Ver} (h : Sofar vs a l false false b t) : restC vs a l = (Ver.zero, false, Met.zero, 0) := by
  unfold restC
  rw [h.no rfl, h.best, if_neg (by simp)]
theorem Sofar.gone {vs : List Ver} {a l : Stp} {b t : Ver} (h : Sofar vs a l true false b t) (hg : b.gone = true) : restC vs a l = (Ver.zero, false, Met.zero, 0) := by
  unfold restC
  rw [h.no rfl, h.best, if_pos rfl]
  simp only
  rw [if_pos hg]
theorem Sofar.some {vs : List Ver} {a l : Stp} {b t : Ver} (h : Sofar vs a l true false b t) (hg : b.gone = false) : restC vs a l = (b, true, Met.zero, 0) := by
  unfold restC
  rw [h.no rfl, h.best, if_pos rfl]
  simp only
  rw [if_neg (by rw [hg]; simp)]

theorem Blk.drw {w : World} {B : Nat} {cs : List Value} (h : Blk w B cs) : Blk w.drew B cs := h.later (Below.refl w.heap.size w).drew

section
set_option maxRecDepth 100000
set_option maxHeartbeats 20000000

theorem refread_any (ao : Option Addr) (c : Nat) (vs : List Ver) (o : Bool) (i : Itn) (a l : Stp) (id ep : Int) (w : World) (hv : Vs w ao c vs) :
    Calls Try.prog 18 #[(.agg #[.slice ao vs.length c, .bool o, .int .i64 i.txn.id, .int .i64 i.txn.ep, .string i.txn.anchor, .int .i64 i.txn.start.1, .int .i64 i.txn.start.2, .int .i64 i.seq, .int .i64 i.at_.1, .int .i64 i.at_.2, .string i.val, .bool i.gone]), (.agg #[.int .i64 a.1, .int .i64 a.2]), (.agg #[.int .i64 l.1, .int .i64 l.2]), .int .i64 id, .int .i64 ep] w fun e w' => e = .returned (.tuple #[(.agg #[.int .i64 (readC ⟨vs, o, i⟩ a l id ep).1.at_.1, .int .i64 (readC ⟨vs, o, i⟩ a l id ep).1.at_.2, .string (readC ⟨vs, o, i⟩ a l id ep).1.val, .bool (readC ⟨vs, o, i⟩ a l id ep).1.gone, .int .i64 (readC ⟨vs, o, i⟩ a l id ep).1.by_]), .bool (readC ⟨vs, o, i⟩ a l id ep).2.1, (.agg #[.int .i64 (readC ⟨vs, o, i⟩ a l id ep).2.2.1.id, .int .i64 (readC ⟨vs, o, i⟩ a l id ep).2.2.1.ep, .string (readC ⟨vs, o, i⟩ a l id ep).2.2.1.anchor, .int .i64 (readC ⟨vs, o, i⟩ a l id ep).2.2.1.start.1, .int .i64 (readC ⟨vs, o, i⟩ a l id ep).2.2.1.start.2]), .int .i64 (readC ⟨vs, o, i⟩ a l id ep).2.2.2]) ∧ Below w.heap.size w w' := by
  have l1 := hv.len
  simp only [maxLen] at l1
  obtain ⟨R, e⟩ : ∃ R, readC ⟨vs, o, i⟩ a l id ep = R := ⟨_, rfl⟩
  rw [e]
  unfold readC at e
  simp only at e
  have Hv := hide hv
  obtain ⟨n, hn⟩ : ∃ n, vs.length = n := ⟨_, rfl⟩
  have Hn := hide hn
  simp only [hn] at l1 ⊢
  have C := (((((Blk.new w #[.slice ao n c, .bool o, .int .i64 i.txn.id, .int .i64 i.txn.ep, .string i.txn.anchor, .int .i64 i.txn.start.1, .int .i64 i.txn.start.2, .int .i64 i.seq, .int .i64 i.at_.1, .int .i64 i.at_.2, .string i.val, .bool i.gone] 30).alloc (.cells #[.int .i64 a.1, .int .i64 a.2] 24)).alloc (.cells #[.int .i64 l.1, .int .i64 l.2] 24)).alloc (.cells #[.int .i64 0, .int .i64 0, .string ⟨#[]⟩, .bool false, .int .i64 0] 37)).alloc (.cells #[.int .i64 0, .int .i64 0, .string ⟨#[]⟩, .int .i64 0, .int .i64 0] 26)).alloc (.cells #[.int .i64 i.txn.id, .int .i64 i.txn.ep, .string i.txn.anchor, .int .i64 i.txn.start.1, .int .i64 i.txn.start.2, .int .i64 i.seq, .int .i64 i.at_.1, .int .i64 i.at_.2, .string i.val, .bool i.gone] 28)
  have A := ((((Blk.new (w.alloc (.cells #[.slice ao n c, .bool o, .int .i64 i.txn.id, .int .i64 i.txn.ep, .string i.txn.anchor, .int .i64 i.txn.start.1, .int .i64 i.txn.start.2, .int .i64 i.seq, .int .i64 i.at_.1, .int .i64 i.at_.2, .string i.val, .bool i.gone] 30)) #[.int .i64 a.1, .int .i64 a.2] 24).alloc (.cells #[.int .i64 l.1, .int .i64 l.2] 24)).alloc (.cells #[.int .i64 0, .int .i64 0, .string ⟨#[]⟩, .bool false, .int .i64 0] 37)).alloc (.cells #[.int .i64 0, .int .i64 0, .string ⟨#[]⟩, .int .i64 0, .int .i64 0] 26)).alloc (.cells #[.int .i64 i.txn.id, .int .i64 i.txn.ep, .string i.txn.anchor, .int .i64 i.txn.start.1, .int .i64 i.txn.start.2, .int .i64 i.seq, .int .i64 i.at_.1, .int .i64 i.at_.2, .string i.val, .bool i.gone] 28)
  rw [show (w.alloc (.cells #[.slice ao n c, .bool o, .int .i64 i.txn.id, .int .i64 i.txn.ep, .string i.txn.anchor, .int .i64 i.txn.start.1, .int .i64 i.txn.start.2, .int .i64 i.seq, .int .i64 i.at_.1, .int .i64 i.at_.2, .string i.val, .bool i.gone] 30)).heap.size = w.heap.size + 1 by simp] at A
  have L := (((Blk.new ((w.alloc (.cells #[.slice ao n c, .bool o, .int .i64 i.txn.id, .int .i64 i.txn.ep, .string i.txn.anchor, .int .i64 i.txn.start.1, .int .i64 i.txn.start.2, .int .i64 i.seq, .int .i64 i.at_.1, .int .i64 i.at_.2, .string i.val, .bool i.gone] 30)).alloc (.cells #[.int .i64 a.1, .int .i64 a.2] 24)) #[.int .i64 l.1, .int .i64 l.2] 24).alloc (.cells #[.int .i64 0, .int .i64 0, .string ⟨#[]⟩, .bool false, .int .i64 0] 37)).alloc (.cells #[.int .i64 0, .int .i64 0, .string ⟨#[]⟩, .int .i64 0, .int .i64 0] 26)).alloc (.cells #[.int .i64 i.txn.id, .int .i64 i.txn.ep, .string i.txn.anchor, .int .i64 i.txn.start.1, .int .i64 i.txn.start.2, .int .i64 i.seq, .int .i64 i.at_.1, .int .i64 i.at_.2, .string i.val, .bool i.gone] 28)
  rw [show ((w.alloc (.cells #[.slice ao n c, .bool o, .int .i64 i.txn.id, .int .i64 i.txn.ep, .string i.txn.anchor, .int .i64 i.txn.start.1, .int .i64 i.txn.start.2, .int .i64 i.seq, .int .i64 i.at_.1, .int .i64 i.at_.2, .string i.val, .bool i.gone] 30)).alloc (.cells #[.int .i64 a.1, .int .i64 a.2] 24)).heap.size = w.heap.size + 1 + 1 by simp] at L
  have V := ((Blk.new (((w.alloc (.cells #[.slice ao n c, .bool o, .int .i64 i.txn.id, .int .i64 i.txn.ep, .string i.txn.anchor, .int .i64 i.txn.start.1, .int .i64 i.txn.start.2, .int .i64 i.seq, .int .i64 i.at_.1, .int .i64 i.at_.2, .string i.val, .bool i.gone] 30)).alloc (.cells #[.int .i64 a.1, .int .i64 a.2] 24)).alloc (.cells #[.int .i64 l.1, .int .i64 l.2] 24)) #[.int .i64 0, .int .i64 0, .string ⟨#[]⟩, .bool false, .int .i64 0] 37).alloc (.cells #[.int .i64 0, .int .i64 0, .string ⟨#[]⟩, .int .i64 0, .int .i64 0] 26)).alloc (.cells #[.int .i64 i.txn.id, .int .i64 i.txn.ep, .string i.txn.anchor, .int .i64 i.txn.start.1, .int .i64 i.txn.start.2, .int .i64 i.seq, .int .i64 i.at_.1, .int .i64 i.at_.2, .string i.val, .bool i.gone] 28)
  rw [show (((w.alloc (.cells #[.slice ao n c, .bool o, .int .i64 i.txn.id, .int .i64 i.txn.ep, .string i.txn.anchor, .int .i64 i.txn.start.1, .int .i64 i.txn.start.2, .int .i64 i.seq, .int .i64 i.at_.1, .int .i64 i.at_.2, .string i.val, .bool i.gone] 30)).alloc (.cells #[.int .i64 a.1, .int .i64 a.2] 24)).alloc (.cells #[.int .i64 l.1, .int .i64 l.2] 24)).heap.size = w.heap.size + 1 + 1 + 1 by simp] at V
  have M := (Blk.new ((((w.alloc (.cells #[.slice ao n c, .bool o, .int .i64 i.txn.id, .int .i64 i.txn.ep, .string i.txn.anchor, .int .i64 i.txn.start.1, .int .i64 i.txn.start.2, .int .i64 i.seq, .int .i64 i.at_.1, .int .i64 i.at_.2, .string i.val, .bool i.gone] 30)).alloc (.cells #[.int .i64 a.1, .int .i64 a.2] 24)).alloc (.cells #[.int .i64 l.1, .int .i64 l.2] 24)).alloc (.cells #[.int .i64 0, .int .i64 0, .string ⟨#[]⟩, .bool false, .int .i64 0] 37)) #[.int .i64 0, .int .i64 0, .string ⟨#[]⟩, .int .i64 0, .int .i64 0] 26).alloc (.cells #[.int .i64 i.txn.id, .int .i64 i.txn.ep, .string i.txn.anchor, .int .i64 i.txn.start.1, .int .i64 i.txn.start.2, .int .i64 i.seq, .int .i64 i.at_.1, .int .i64 i.at_.2, .string i.val, .bool i.gone] 28)
  rw [show ((((w.alloc (.cells #[.slice ao n c, .bool o, .int .i64 i.txn.id, .int .i64 i.txn.ep, .string i.txn.anchor, .int .i64 i.txn.start.1, .int .i64 i.txn.start.2, .int .i64 i.seq, .int .i64 i.at_.1, .int .i64 i.at_.2, .string i.val, .bool i.gone] 30)).alloc (.cells #[.int .i64 a.1, .int .i64 a.2] 24)).alloc (.cells #[.int .i64 l.1, .int .i64 l.2] 24)).alloc (.cells #[.int .i64 0, .int .i64 0, .string ⟨#[]⟩, .bool false, .int .i64 0] 37)).heap.size = w.heap.size + 1 + 1 + 1 + 1 by simp] at M
  have J := Blk.new (((((w.alloc (.cells #[.slice ao n c, .bool o, .int .i64 i.txn.id, .int .i64 i.txn.ep, .string i.txn.anchor, .int .i64 i.txn.start.1, .int .i64 i.txn.start.2, .int .i64 i.seq, .int .i64 i.at_.1, .int .i64 i.at_.2, .string i.val, .bool i.gone] 30)).alloc (.cells #[.int .i64 a.1, .int .i64 a.2] 24)).alloc (.cells #[.int .i64 l.1, .int .i64 l.2] 24)).alloc (.cells #[.int .i64 0, .int .i64 0, .string ⟨#[]⟩, .bool false, .int .i64 0] 37)).alloc (.cells #[.int .i64 0, .int .i64 0, .string ⟨#[]⟩, .int .i64 0, .int .i64 0] 26)) #[.int .i64 i.txn.id, .int .i64 i.txn.ep, .string i.txn.anchor, .int .i64 i.txn.start.1, .int .i64 i.txn.start.2, .int .i64 i.seq, .int .i64 i.at_.1, .int .i64 i.at_.2, .string i.val, .bool i.gone] 28
  rw [show (((((w.alloc (.cells #[.slice ao n c, .bool o, .int .i64 i.txn.id, .int .i64 i.txn.ep, .string i.txn.anchor, .int .i64 i.txn.start.1, .int .i64 i.txn.start.2, .int .i64 i.seq, .int .i64 i.at_.1, .int .i64 i.at_.2, .string i.val, .bool i.gone] 30)).alloc (.cells #[.int .i64 a.1, .int .i64 a.2] 24)).alloc (.cells #[.int .i64 l.1, .int .i64 l.2] 24)).alloc (.cells #[.int .i64 0, .int .i64 0, .string ⟨#[]⟩, .bool false, .int .i64 0] 37)).alloc (.cells #[.int .i64 0, .int .i64 0, .string ⟨#[]⟩, .int .i64 0, .int .i64 0] 26)).heap.size = w.heap.size + 1 + 1 + 1 + 1 + 1 by simp] at J
  have hB : Below w.heap.size w ((((((w.alloc (.cells #[.slice ao n c, .bool o, .int .i64 i.txn.id, .int .i64 i.txn.ep, .string i.txn.anchor, .int .i64 i.txn.start.1, .int .i64 i.txn.start.2, .int .i64 i.seq, .int .i64 i.at_.1, .int .i64 i.at_.2, .string i.val, .bool i.gone] 30)).alloc (.cells #[.int .i64 a.1, .int .i64 a.2] 24)).alloc (.cells #[.int .i64 l.1, .int .i64 l.2] 24)).alloc (.cells #[.int .i64 0, .int .i64 0, .string ⟨#[]⟩, .bool false, .int .i64 0] 37)).alloc (.cells #[.int .i64 0, .int .i64 0, .string ⟨#[]⟩, .int .i64 0, .int .i64 0] 26)).alloc (.cells #[.int .i64 i.txn.id, .int .i64 i.txn.ep, .string i.txn.anchor, .int .i64 i.txn.start.1, .int .i64 i.txn.start.2, .int .i64 i.seq, .int .i64 i.at_.1, .int .i64 i.at_.2, .string i.val, .bool i.gone] 28)) := ((((((Below.refl w.heap.size w).alloc (Nat.le_refl _) _).alloc (by simp) _).alloc (by simp; omega) _).alloc (by simp; omega) _).alloc (by simp; omega) _).alloc (by simp; omega) _
  clear hv hn
  by_cases hown : o = true ∧ i.txn.id = id ∧ i.txn.ep = ep
  · rw [if_pos hown] at e
    obtain ⟨rfl, rfl, rfl⟩ := hown
    have t1 : (i.txn.id == i.txn.id) = true := by simp
    have t2 : (i.txn.ep == i.txn.ep) = true := by simp
    clear A L
    have He := hide e
    clear e
    go_enter Try.func18, Try.ntmps18
    go_upto_region 2 with fail
    generalize (((((w.alloc _).alloc _).alloc _).alloc _).alloc _).alloc _ = W at *
    by_cases hg : i.gone = true
    · obtain rfl : R = (Ver.zero, false, Met.zero, 0) := by rw [← unhide He, if_pos hg]
      rw [hg] at J
      have HB := hide hB
      have C_0 := C.c 0; have C_1 := C.c 1; have C_2 := C.c 2; have C_3 := C.c 3; have C_4 := C.c 4; have C_5 := C.c 5; have C_6 := C.c 6; have C_7 := C.c 7; have C_8 := C.c 8; have C_9 := C.c 9; have C_10 := C.c 10; have C_11 := C.c 11; simp only [List.getElem?_cons_zero, List.getElem?_cons_succ] at C_0 C_1 C_2 C_3 C_4 C_5 C_6 C_7 C_8 C_9 C_10 C_11
      have V_0 := V.c 0; have V_1 := V.c 1; have V_2 := V.c 2; have V_3 := V.c 3; have V_4 := V.c 4; simp only [List.getElem?_cons_zero, List.getElem?_cons_succ] at V_0 V_1 V_2 V_3 V_4
      have M_0 := M.c 0; have M_1 := M.c 1; have M_2 := M.c 2; have M_3 := M.c 3; have M_4 := M.c 4; simp only [List.getElem?_cons_zero, List.getElem?_cons_succ] at M_0 M_1 M_2 M_3 M_4
      have J_0 := J.c 0; have J_1 := J.c 1; have J_2 := J.c 2; have J_3 := J.c 3; have J_4 := J.c 4; have J_5 := J.c 5; have J_6 := J.c 6; have J_7 := J.c 7; have J_8 := J.c 8; have J_9 := J.c 9; simp only [List.getElem?_cons_zero, List.getElem?_cons_succ] at J_0 J_1 J_2 J_3 J_4 J_5 J_6 J_7 J_8 J_9
      have Vf := V.f
      have Mf := M.f
      clear hg C J hB He
      go_wp2
      have q1 := Blk.others (by omega) [.int .i64 Met.zero.id, .int .i64 Met.zero.ep, .string Met.zero.anchor, .int .i64 Met.zero.start.1, .int .i64 Met.zero.start.2] (C := w.heap.size + 1 + 1 + 1 + 1) 0 (V.all [.int .i64 Ver.zero.at_.1, .int .i64 Ver.zero.at_.2, .string Ver.zero.val, .bool Ver.zero.gone, .int .i64 Ver.zero.by_] rfl)
      have q2 := (Blk.others (by omega) [.int .i64 Ver.zero.at_.1, .int .i64 Ver.zero.at_.2, .string Ver.zero.val, .bool Ver.zero.gone, .int .i64 Ver.zero.by_] (C := w.heap.size + 1 + 1 + 1) 0 M).all [.int .i64 Met.zero.id, .int .i64 Met.zero.ep, .string Met.zero.anchor, .int .i64 Met.zero.start.1, .int .i64 Met.zero.start.2] rfl
      exact bodyPost_ret (results_vbme Try.results18 Ver.zero Met.zero rfl rfl rfl rfl q1 q2) rfl ⟨rfl, below_setAll (by omega) [.int .i64 Met.zero.id, .int .i64 Met.zero.ep, .string Met.zero.anchor, .int .i64 Met.zero.start.1, .int .i64 Met.zero.start.2] 0 (below_setAll (by omega) [.int .i64 Ver.zero.at_.1, .int .i64 Ver.zero.at_.2, .string Ver.zero.val, .bool Ver.zero.gone, .int .i64 Ver.zero.by_] 0 (unhide HB))⟩
    · obtain rfl : R = (⟨i.at_, i.val, false, i.txn.id⟩, true, Met.zero, 0) := by rw [← unhide He, if_neg hg]
      replace hg : i.gone = false := by simpa using hg
      rw [hg] at J
      have HB := hide hB
      have C_0 := C.c 0; have C_1 := C.c 1; have C_2 := C.c 2; have C_3 := C.c 3; have C_4 := C.c 4; have C_5 := C.c 5; have C_6 := C.c 6; have C_7 := C.c 7; have C_8 := C.c 8; have C_9 := C.c 9; have C_10 := C.c 10; have C_11 := C.c 11; simp only [List.getElem?_cons_zero, List.getElem?_cons_succ] at C_0 C_1 C_2 C_3 C_4 C_5 C_6 C_7 C_8 C_9 C_10 C_11
      have V_0 := V.c 0; have V_1 := V.c 1; have V_2 := V.c 2; have V_3 := V.c 3; have V_4 := V.c 4; simp only [List.getElem?_cons_zero, List.getElem?_cons_succ] at V_0 V_1 V_2 V_3 V_4
      have M_0 := M.c 0; have M_1 := M.c 1; have M_2 := M.c 2; have M_3 := M.c 3; have M_4 := M.c 4; simp only [List.getElem?_cons_zero, List.getElem?_cons_succ] at M_0 M_1 M_2 M_3 M_4
      have J_0 := J.c 0; have J_1 := J.c 1; have J_2 := J.c 2; have J_3 := J.c 3; have J_4 := J.c 4; have J_5 := J.c 5; have J_6 := J.c 6; have J_7 := J.c 7; have J_8 := J.c 8; have J_9 := J.c 9; simp only [List.getElem?_cons_zero, List.getElem?_cons_succ] at J_0 J_1 J_2 J_3 J_4 J_5 J_6 J_7 J_8 J_9
      have Vf := V.f
      have Mf := M.f
      clear hg C J hB He
      obtain ⟨u, hu⟩ : ∃ u : Ver, u = ⟨i.at_, i.val, false, i.txn.id⟩ := ⟨_, rfl⟩
      have Hu := hide hu
      clear hu
      go_wp2
      have q1 := Blk.others (by omega) [.int .i64 Met.zero.id, .int .i64 Met.zero.ep, .string Met.zero.anchor, .int .i64 Met.zero.start.1, .int .i64 Met.zero.start.2] (C := w.heap.size + 1 + 1 + 1 + 1) 0 (V.all [.int .i64 u.at_.1, .int .i64 u.at_.2, .string u.val, .bool u.gone, .int .i64 u.by_] rfl)
      have q2 := (Blk.others (by omega) [.int .i64 u.at_.1, .int .i64 u.at_.2, .string u.val, .bool u.gone, .int .i64 u.by_] (C := w.heap.size + 1 + 1 + 1) 0 M).all [.int .i64 Met.zero.id, .int .i64 Met.zero.ep, .string Met.zero.anchor, .int .i64 Met.zero.start.1, .int .i64 Met.zero.start.2] rfl
      rw [unhide Hu] at q1 q2
      exact bodyPost_ret (results_vbme Try.results18 ⟨i.at_, i.val, false, i.txn.id⟩ Met.zero rfl rfl rfl rfl q1 q2) rfl ⟨rfl, below_setAll (by omega) [.int .i64 Met.zero.id, .int .i64 Met.zero.ep, .string Met.zero.anchor, .int .i64 Met.zero.start.1, .int .i64 Met.zero.start.2] 0 (below_setAll (by omega) [.int .i64 i.at_.1, .int .i64 i.at_.2, .string i.val, .bool false, .int .i64 i.txn.id] 0 (unhide HB))⟩
  · rw [if_neg hown] at e
    by_cases hw : o = true ∧ i.txn.id ≠ id ∧ upB i.at_ l = true
    · rw [if_pos hw] at e
      subst e
      obtain ⟨rfl, h1, h2⟩ := hw
      have t1 : (i.txn.id == id) = false := by simpa using h1
      have t2 : (i.txn.id != id) = true := by simpa using h1
      have hU := fun w => upto_any i.at_ l w
      rw [h2] at hU
      clear h1 h2 A hown
      go_enter Try.func18, Try.ntmps18
      go_upto_region 2 with fail
      generalize (((((w.alloc _).alloc _).alloc _).alloc _).alloc _).alloc _ = W at *
      have C_0 := C.c 0; have C_1 := C.c 1; have C_2 := C.c 2; have C_3 := C.c 3; have C_4 := C.c 4; have C_5 := C.c 5; have C_6 := C.c 6; have C_7 := C.c 7; have C_8 := C.c 8; have C_9 := C.c 9; have C_10 := C.c 10; have C_11 := C.c 11; simp only [List.getElem?_cons_zero, List.getElem?_cons_succ] at C_0 C_1 C_2 C_3 C_4 C_5 C_6 C_7 C_8 C_9 C_10 C_11
      have J_0 := J.c 0; have J_1 := J.c 1; have J_2 := J.c 2; have J_3 := J.c 3; have J_4 := J.c 4; have J_5 := J.c 5; have J_6 := J.c 6; have J_7 := J.c 7; have J_8 := J.c 8; have J_9 := J.c 9; simp only [List.getElem?_cons_zero, List.getElem?_cons_succ] at J_0 J_1 J_2 J_3 J_4 J_5 J_6 J_7 J_8 J_9
      have L_0 := L.c 0; have L_1 := L.c 1; simp only [List.getElem?_cons_zero, List.getElem?_cons_succ] at L_0 L_1
      go_wp2_with fail
      refine (hU _).mono ?_
      rintro e w1 ⟨rfl, hb1⟩
      clear C_0 C_1 C_2 C_3 C_4 C_5 C_6 C_7 C_8 C_9 C_10 C_11 J_0 J_1 J_2 J_3 J_4 J_5 J_6 J_7 J_8 J_9 L_0 L_1
      replace V := V.later hb1
      replace M := M.later hb1
      replace J := J.later hb1
      have HB := hide (hB.trans (hb1.mono hB.size))
      clear hb1 hU hB C L
      have V_0 := V.c 0; have V_1 := V.c 1; have V_2 := V.c 2; have V_3 := V.c 3; have V_4 := V.c 4; simp only [List.getElem?_cons_zero, List.getElem?_cons_succ] at V_0 V_1 V_2 V_3 V_4
      have M_0 := M.c 0; have M_1 := M.c 1; have M_2 := M.c 2; have M_3 := M.c 3; have M_4 := M.c 4; simp only [List.getElem?_cons_zero, List.getElem?_cons_succ] at M_0 M_1 M_2 M_3 M_4
      have J_0 := J.c 0; have J_1 := J.c 1; have J_2 := J.c 2; have J_3 := J.c 3; have J_4 := J.c 4; have J_5 := J.c 5; have J_6 := J.c 6; have J_7 := J.c 7; have J_8 := J.c 8; have J_9 := J.c 9; simp only [List.getElem?_cons_zero, List.getElem?_cons_succ] at J_0 J_1 J_2 J_3 J_4 J_5 J_6 J_7 J_8 J_9
      have Vf := V.f
      have Mf := M.f
      go_upto_region 7 with fail
      go_region
      go_wp2
      have q1 := Blk.others (by omega) [.int .i64 i.txn.id, .int .i64 i.txn.ep, .string i.txn.anchor, .int .i64 i.txn.start.1, .int .i64 i.txn.start.2] (C := w.heap.size + 1 + 1 + 1 + 1) 0 (V.all [.int .i64 Ver.zero.at_.1, .int .i64 Ver.zero.at_.2, .string Ver.zero.val, .bool Ver.zero.gone, .int .i64 Ver.zero.by_] rfl)
      have q2 := (Blk.others (by omega) [.int .i64 Ver.zero.at_.1, .int .i64 Ver.zero.at_.2, .string Ver.zero.val, .bool Ver.zero.gone, .int .i64 Ver.zero.by_] (C := w.heap.size + 1 + 1 + 1) 0 M).all [.int .i64 i.txn.id, .int .i64 i.txn.ep, .string i.txn.anchor, .int .i64 i.txn.start.1, .int .i64 i.txn.start.2] rfl
      exact bodyPost_ret (results_vbme Try.results18 Ver.zero i.txn rfl rfl rfl rfl q1.drw q2.drw) rfl ⟨rfl, (below_setAll (by omega) [.int .i64 i.txn.id, .int .i64 i.txn.ep, .string i.txn.anchor, .int .i64 i.txn.start.1, .int .i64 i.txn.start.2] 0 (below_setAll (by omega) [.int .i64 Ver.zero.at_.1, .int .i64 Ver.zero.at_.2, .string Ver.zero.val, .bool Ver.zero.gone, .int .i64 Ver.zero.by_] 0 (unhide HB))).drew⟩
    · rw [if_neg hw] at e
      have HE : Hid (restC vs a l = R) := hide e
      clear e
      have hcs : o = false ∨ (o = true ∧ (i.txn.id == id) = false ∧ (i.txn.id != id) = true ∧ upB i.at_ l = false) ∨ (o = true ∧ (i.txn.id == id) = true ∧ (i.txn.id != id) = false ∧ (i.txn.ep == ep) = false) := by
        cases o
        · exact .inl rfl
        · by_cases h1 : i.txn.id = id
          · refine .inr (.inr ⟨rfl, by simpa using h1, by simpa using h1, ?_⟩)
            have : ¬ i.txn.ep = ep := fun h2 => hown ⟨rfl, h1, h2⟩
            simpa using this
          · refine .inr (.inl ⟨rfl, by simpa using h1, by simpa using h1, ?_⟩)
            cases h2 : upB i.at_ l
            · rfl
            · exact absurd ⟨rfl, h1, h2⟩ hw
      have hUi := fun w => upto_any i.at_ l w
      clear hown hw
      go_enter Try.func18, Try.ntmps18
      go_upto_region 2 with fail
      generalize (((((w.alloc _).alloc _).alloc _).alloc _).alloc _).alloc _ = W at *
      have C_0 := C.c 0; have C_1 := C.c 1; have C_2 := C.c 2; have C_3 := C.c 3; have C_4 := C.c 4; have C_5 := C.c 5; have C_6 := C.c 6; have C_7 := C.c 7; have C_8 := C.c 8; have C_9 := C.c 9; have C_10 := C.c 10; have C_11 := C.c 11; simp only [List.getElem?_cons_zero, List.getElem?_cons_succ] at C_0 C_1 C_2 C_3 C_4 C_5 C_6 C_7 C_8 C_9 C_10 C_11
      have J_0 := J.c 0; have J_1 := J.c 1; have J_2 := J.c 2; have J_3 := J.c 3; have J_4 := J.c 4; have J_5 := J.c 5; have J_6 := J.c 6; have J_7 := J.c 7; have J_8 := J.c 8; have J_9 := J.c 9; simp only [List.getElem?_cons_zero, List.getElem?_cons_succ] at J_0 J_1 J_2 J_3 J_4 J_5 J_6 J_7 J_8 J_9
      rcases hcs with rfl | ⟨rfl, t1, t2, t3⟩ | ⟨rfl, t1, t2, t3⟩
      · clear hUi
        go_upto_region 8 with fail
        clear C_0 C_1 C_2 C_3 C_4 C_5 C_6 C_7 C_8 C_9 C_10 C_11 J_0 J_1 J_2 J_3 J_4 J_5 J_6 J_7 J_8 J_9
        clear J
        have HW := hide (And.intro hB (And.intro C (And.intro A (And.intro L (And.intro V M)))))
        clear hB C A L V M
        have B := (Blk.new W #[.int .i64 0, .int .i64 0, .string ⟨#[]⟩, .bool false, .int .i64 0] 37).alloc (.cells #[.int .i64 0, .int .i64 0, .string ⟨#[]⟩, .bool false, .int .i64 0] 37)
        have U := Blk.new (W.alloc (.cells #[.int .i64 0, .int .i64 0, .string ⟨#[]⟩, .bool false, .int .i64 0] 37)) #[.int .i64 0, .int .i64 0, .string ⟨#[]⟩, .bool false, .int .i64 0] 37
        rw [show (W.alloc (.cells #[.int .i64 0, .int .i64 0, .string ⟨#[]⟩, .bool false, .int .i64 0] 37)).heap.size = W.heap.size + 1 by simp] at U
        have hB : Below W.heap.size W ((W.alloc (.cells #[.int .i64 0, .int .i64 0, .string ⟨#[]⟩, .bool false, .int .i64 0] 37)).alloc (.cells #[.int .i64 0, .int .i64 0, .string ⟨#[]⟩, .bool false, .int .i64 0] 37)) := ((Below.refl W.heap.size W).alloc (Nat.le_refl _) _).alloc (by simp) _
        have HBU := hide (And.intro B (And.intro U hB))
        clear B U hB
        go_wp2
        go_loopw [17, 18, 19] (fun x y u wr => ∃ (k : Nat) (p q : Bool) (b t : Ver), u = .int .i64 k ∧ k ≤ n ∧ x = .bool p ∧ y = .bool q ∧ Hid (Sofar (vs.take k) a l p q b t) ∧ Hid (Blk wr W.heap.size [.int .i64 b.at_.1, .int .i64 b.at_.2, .string b.val, .bool b.gone, .int .i64 b.by_] ∧ Blk wr (W.heap.size + 1) [.int .i64 t.at_.1, .int .i64 t.at_.2, .string t.val, .bool t.gone, .int .i64 t.by_]) ∧ Hid (Below W.heap.size W wr)) (fun _ _ u _ => n - (intOf u).toNat)
        case atStart => exact ⟨0, false, false, Ver.zero, Ver.zero, rfl, by omega, rfl, rfl, Sofar.zero a l _ _, ⟨(unhide HBU).1, (unhide HBU).2.1⟩, (unhide HBU).2.2⟩
        case round =>
          obtain ⟨k, p, q, b, t, rfl, hk, rfl, rfl, Hs, Hbu, Hb⟩ := hrel
          obtain ⟨hB, C, A, L, V, M⟩ := unhide HW
          obtain ⟨B, U⟩ := unhide Hbu
          have hltM := M.lt
          have hne1 : w.heap.size + 1 + 1 + 1 ≠ W.heap.size := by omega
          replace hB := hB.trans ((unhide Hb).mono hB.size)
          replace C := C.later (unhide Hb)
          replace A := A.later (unhide Hb)
          replace L := L.later (unhide Hb)
          replace V := V.later (unhide Hb)
          replace M := M.later (unhide Hb)
          by_cases hlt : k < n
          · have h1 : k < vs.length := by have := unhide Hn; omega
            obtain ⟨bb, oo, rfl, x⟩ := (unhide Hv).each k h1
            obtain ⟨v, hv0⟩ : ∃ v, vs[k] = v := ⟨_, rfl⟩
            rw [hv0] at x
            replace x := x.block (hB.block _ x.lt)
            have Hv0 := hide (And.intro h1 hv0)
            have x0 := x.c0
            have x1 := x.c1
            have x2 := x.c2
            have x3 := x.c3
            have x4 := x.c4
            have hU := fun w => upto_any v.at_ a w
            have hL := fun w => upto_any v.at_ l w
            have C_0 := C.c 0; simp only [List.getElem?_cons_zero] at C_0
            have E := Blk.new wr #[.int .i64 v.at_.1, .int .i64 v.at_.2, .string v.val, .bool v.gone, .int .i64 v.by_] 37
            have neB : W.heap.size ≠ wr.heap.size := Nat.ne_of_lt B.lt
            have neU : W.heap.size + 1 ≠ wr.heap.size := Nat.ne_of_lt U.lt
            have ltU := U.lt
            replace B := B.alloc (.cells #[.int .i64 v.at_.1, .int .i64 v.at_.2, .string v.val, .bool v.gone, .int .i64 v.by_] 37)
            replace U := U.alloc (.cells #[.int .i64 v.at_.1, .int .i64 v.at_.2, .string v.val, .bool v.gone, .int .i64 v.by_] 37)
            replace A := A.alloc (.cells #[.int .i64 v.at_.1, .int .i64 v.at_.2, .string v.val, .bool v.gone, .int .i64 v.by_] 37)
            replace L := L.alloc (.cells #[.int .i64 v.at_.1, .int .i64 v.at_.2, .string v.val, .bool v.gone, .int .i64 v.by_] 37)
            have Hbr := hide ((unhide Hb).alloc (unhide Hb).size (.cells #[.int .i64 v.at_.1, .int .i64 v.at_.2, .string v.val, .bool v.gone, .int .i64 v.by_] 37))
            clear x V M hB hv0 C Hb Hbu
            have E_0 := E.c 0; have E_1 := E.c 1; have E_2 := E.c 2; have E_3 := E.c 3; have E_4 := E.c 4; simp only [List.getElem?_cons_zero, List.getElem?_cons_succ] at E_0 E_1 E_2 E_3 E_4
            have A_0 := A.c 0; have A_1 := A.c 1; simp only [List.getElem?_cons_zero, List.getElem?_cons_succ] at A_0 A_1
            go_wp2_with fail
            clear E_0 E_1 E_2 E_3 E_4 A_0 A_1
            clear C_0 x0 x1 x2 x3 x4
            generalize wr.alloc _ = W1 at *
            refine (hU _).mono ?_
            rintro e w2 ⟨rfl, hb2⟩
            replace E := E.later hb2
            replace B := B.later hb2
            replace U := U.later hb2
            replace L := L.later hb2
            replace Hbr := hide ((unhide Hbr).trans (hb2.mono (unhide Hbr).size))
            clear hb2 hU A
            cases ha : upB v.at_ a
            · have E_0 := E.c 0; have E_1 := E.c 1; have E_2 := E.c 2; have E_3 := E.c 3; have E_4 := E.c 4; simp only [List.getElem?_cons_zero, List.getElem?_cons_succ] at E_0 E_1 E_2 E_3 E_4
              have L_0 := L.c 0; have L_1 := L.c 1; simp only [List.getElem?_cons_zero, List.getElem?_cons_succ] at L_0 L_1
              go_wp2_with fail
              clear E_0 E_1 E_2 E_3 E_4 L_0 L_1
              refine (hL _).mono ?_
              rintro e w3 ⟨rfl, hb3⟩
              replace E := E.later hb3
              replace B := B.later hb3
              replace U := U.later hb3
              replace L := L.later hb3
              replace Hbr := hide ((unhide Hbr).trans (hb3.mono (unhide Hbr).size))
              clear hb3 hL L
              cases hl : upB v.at_ l
              · have Hs' := hide ((unhide Hs).pass (unhide Hv0).1 (unhide Hv0).2 ha hl)
                have Hend := hide (And.intro B U)
                clear ha hl B U E Hs
                go_wp2
                go_roundw
                case rel => exact ⟨k + 1, p, q, b, t, by go_num, by omega, rfl, rfl, unhide Hs', unhide Hend, unhide Hbr⟩
                case measure => simp [intOf]; omega
              · have Hs' := hide ((unhide Hs).doubt (unhide Hv0).1 (unhide Hv0).2 ha hl)
                have E_0 := E.c 0; have E_1 := E.c 1; have E_2 := E.c 2; have E_3 := E.c 3; have E_4 := E.c 4; simp only [List.getElem?_cons_zero, List.getElem?_cons_succ] at E_0 E_1 E_2 E_3 E_4
                have U_0 := U.c 0; have U_1 := U.c 1; have U_2 := U.c 2; have U_3 := U.c 3; have U_4 := U.c 4; simp only [List.getElem?_cons_zero, List.getElem?_cons_succ] at U_0 U_1 U_2 U_3 U_4
                have Uf := U.f
                have Hend := hide (And.intro (Blk.others (by omega) [.int .i64 (bare v).at_.1, .int .i64 (bare v).at_.2, .string (bare v).val, .bool (bare v).gone, .int .i64 (bare v).by_] (C := W.heap.size + 1) 0 B) (And.intro (U.all [.int .i64 (bare v).at_.1, .int .i64 (bare v).at_.2, .string (bare v).val, .bool (bare v).gone, .int .i64 (bare v).by_] rfl) (below_setAll (C := W.heap.size + 1) (by omega) [.int .i64 (bare v).at_.1, .int .i64 (bare v).at_.2, .string (bare v).val, .bool (bare v).gone, .int .i64 (bare v).by_] 0 (unhide Hbr))))
                clear ha hl B E U Hs Hbr
                go_wp2
                go_roundw
                case rel => exact ⟨k + 1, p, true, b, bare v, by go_num, by omega, rfl, rfl, unhide Hs', ⟨(unhide Hend).1, (unhide Hend).2.1⟩, (unhide Hend).2.2⟩
                case measure => simp [intOf]; omega
            · have Hs' := hide ((unhide Hs).put (unhide Hv0).1 (unhide Hv0).2 ha)
              have E_0 := E.c 0; have E_1 := E.c 1; have E_2 := E.c 2; have E_3 := E.c 3; have E_4 := E.c 4; simp only [List.getElem?_cons_zero, List.getElem?_cons_succ] at E_0 E_1 E_2 E_3 E_4
              have B_0 := B.c 0; have B_1 := B.c 1; have B_2 := B.c 2; have B_3 := B.c 3; have B_4 := B.c 4; simp only [List.getElem?_cons_zero, List.getElem?_cons_succ] at B_0 B_1 B_2 B_3 B_4
              have Bf := B.f
              have Hend := hide (And.intro (B.all [.int .i64 v.at_.1, .int .i64 v.at_.2, .string v.val, .bool v.gone, .int .i64 v.by_] rfl) (And.intro (Blk.others (by omega) [.int .i64 v.at_.1, .int .i64 v.at_.2, .string v.val, .bool v.gone, .int .i64 v.by_] (C := W.heap.size) 0 U) (below_setAll (C := W.heap.size) (Nat.le_refl _) [.int .i64 v.at_.1, .int .i64 v.at_.2, .string v.val, .bool v.gone, .int .i64 v.by_] 0 (unhide Hbr))))
              clear ha B E U Hs Hbr hL L
              go_wp2
              go_roundw
              case rel => exact ⟨k + 1, true, q, v, t, by go_num, by omega, rfl, rfl, unhide Hs', ⟨(unhide Hend).1, (unhide Hend).2.1⟩, (unhide Hend).2.2⟩
              case measure => simp [intOf]; omega
          · have hkn : k = n := by omega
            have Hs' : Hid (Sofar vs a l p q b t) := by
              have := unhide Hs
              rwa [List.take_of_length_le (by have := unhide Hn; omega)] at this
            have hne2 := hltM
            have C_0 := C.c 0; simp only [List.getElem?_cons_zero] at C_0
            have V_0 := V.c 0; have V_1 := V.c 1; have V_2 := V.c 2; have V_3 := V.c 3; have V_4 := V.c 4; simp only [List.getElem?_cons_zero, List.getElem?_cons_succ] at V_0 V_1 V_2 V_3 V_4
            have M_0 := M.c 0; have M_1 := M.c 1; have M_2 := M.c 2; have M_3 := M.c 3; have M_4 := M.c 4; simp only [List.getElem?_cons_zero, List.getElem?_cons_succ] at M_0 M_1 M_2 M_3 M_4
            have B_0 := B.c 0; have B_1 := B.c 1; have B_2 := B.c 2; have B_3 := B.c 3; have B_4 := B.c 4; simp only [List.getElem?_cons_zero, List.getElem?_cons_succ] at B_0 B_1 B_2 B_3 B_4
            have U_0 := U.c 0; have U_1 := U.c 1; have U_2 := U.c 2; have U_3 := U.c 3; have U_4 := U.c 4; simp only [List.getElem?_cons_zero, List.getElem?_cons_succ] at U_0 U_1 U_2 U_3 U_4
            have Vf := V.f
            have Mf := M.f
            have HB := hide hB
            clear hB A L C hkn Hs Hbu
            cases q
            · cases p
              · obtain rfl : R = (Ver.zero, false, Met.zero, 0) := by rw [← unhide HE, (unhide Hs').none]
                clear B U
                go_wp2
                have q1 := Blk.others (by omega) [.int .i64 Met.zero.id, .int .i64 Met.zero.ep, .string Met.zero.anchor, .int .i64 Met.zero.start.1, .int .i64 Met.zero.start.2] (C := w.heap.size + 1 + 1 + 1 + 1) 0 (V.all [.int .i64 Ver.zero.at_.1, .int .i64 Ver.zero.at_.2, .string Ver.zero.val, .bool Ver.zero.gone, .int .i64 Ver.zero.by_] rfl)
                have q2 := (Blk.others (by omega) [.int .i64 Ver.zero.at_.1, .int .i64 Ver.zero.at_.2, .string Ver.zero.val, .bool Ver.zero.gone, .int .i64 Ver.zero.by_] (C := w.heap.size + 1 + 1 + 1) 0 M).all [.int .i64 Met.zero.id, .int .i64 Met.zero.ep, .string Met.zero.anchor, .int .i64 Met.zero.start.1, .int .i64 Met.zero.start.2] rfl
                exact bodyPost_ret (results_vbme Try.results18 Ver.zero Met.zero rfl rfl rfl rfl q1 q2) rfl ⟨rfl, below_setAll (by omega) [.int .i64 Met.zero.id, .int .i64 Met.zero.ep, .string Met.zero.anchor, .int .i64 Met.zero.start.1, .int .i64 Met.zero.start.2] 0 (below_setAll (by omega) [.int .i64 Ver.zero.at_.1, .int .i64 Ver.zero.at_.2, .string Ver.zero.val, .bool Ver.zero.gone, .int .i64 Ver.zero.by_] 0 (unhide HB))⟩
              · obtain ⟨b1, b2, b3, b4⟩ := b
                try simp only at B_0 B_1 B_2 B_3 B_4
                cases b3
                · obtain rfl : R = (⟨b1, b2, false, b4⟩, true, Met.zero, 0) := by rw [← unhide HE, (unhide Hs').some rfl]
                  clear B U
                  go_wp2
                  have q1 := Blk.others (by omega) [.int .i64 Met.zero.id, .int .i64 Met.zero.ep, .string Met.zero.anchor, .int .i64 Met.zero.start.1, .int .i64 Met.zero.start.2] (C := w.heap.size + 1 + 1 + 1 + 1) 0 (V.all [.int .i64 (⟨b1, b2, false, b4⟩ : Ver).at_.1, .int .i64 (⟨b1, b2, false, b4⟩ : Ver).at_.2, .string (⟨b1, b2, false, b4⟩ : Ver).val, .bool (⟨b1, b2, false, b4⟩ : Ver).gone, .int .i64 (⟨b1, b2, false, b4⟩ : Ver).by_] rfl)
                  have q2 := (Blk.others (by omega) [.int .i64 (⟨b1, b2, false, b4⟩ : Ver).at_.1, .int .i64 (⟨b1, b2, false, b4⟩ : Ver).at_.2, .string (⟨b1, b2, false, b4⟩ : Ver).val, .bool (⟨b1, b2, false, b4⟩ : Ver).gone, .int .i64 (⟨b1, b2, false, b4⟩ : Ver).by_] (C := w.heap.size + 1 + 1 + 1) 0 M).all [.int .i64 Met.zero.id, .int .i64 Met.zero.ep, .string Met.zero.anchor, .int .i64 Met.zero.start.1, .int .i64 Met.zero.start.2] rfl
                  exact bodyPost_ret (results_vbme Try.results18 (⟨b1, b2, false, b4⟩ : Ver) Met.zero rfl rfl rfl rfl q1 q2) rfl ⟨rfl, below_setAll (by omega) [.int .i64 Met.zero.id, .int .i64 Met.zero.ep, .string Met.zero.anchor, .int .i64 Met.zero.start.1, .int .i64 Met.zero.start.2] 0 (below_setAll (by omega) [.int .i64 (⟨b1, b2, false, b4⟩ : Ver).at_.1, .int .i64 (⟨b1, b2, false, b4⟩ : Ver).at_.2, .string (⟨b1, b2, false, b4⟩ : Ver).val, .bool (⟨b1, b2, false, b4⟩ : Ver).gone, .int .i64 (⟨b1, b2, false, b4⟩ : Ver).by_] 0 (unhide HB))⟩
                · obtain rfl : R = (Ver.zero, false, Met.zero, 0) := by rw [← unhide HE, (unhide Hs').gone rfl]
                  clear B U
                  go_wp2
                  have q1 := Blk.others (by omega) [.int .i64 Met.zero.id, .int .i64 Met.zero.ep, .string Met.zero.anchor, .int .i64 Met.zero.start.1, .int .i64 Met.zero.start.2] (C := w.heap.size + 1 + 1 + 1 + 1) 0 (V.all [.int .i64 Ver.zero.at_.1, .int .i64 Ver.zero.at_.2, .string Ver.zero.val, .bool Ver.zero.gone, .int .i64 Ver.zero.by_] rfl)
                  have q2 := (Blk.others (by omega) [.int .i64 Ver.zero.at_.1, .int .i64 Ver.zero.at_.2, .string Ver.zero.val, .bool Ver.zero.gone, .int .i64 Ver.zero.by_] (C := w.heap.size + 1 + 1 + 1) 0 M).all [.int .i64 Met.zero.id, .int .i64 Met.zero.ep, .string Met.zero.anchor, .int .i64 Met.zero.start.1, .int .i64 Met.zero.start.2] rfl
                  exact bodyPost_ret (results_vbme Try.results18 Ver.zero Met.zero rfl rfl rfl rfl q1 q2) rfl ⟨rfl, below_setAll (by omega) [.int .i64 Met.zero.id, .int .i64 Met.zero.ep, .string Met.zero.anchor, .int .i64 Met.zero.start.1, .int .i64 Met.zero.start.2] 0 (below_setAll (by omega) [.int .i64 Ver.zero.at_.1, .int .i64 Ver.zero.at_.2, .string Ver.zero.val, .bool Ver.zero.gone, .int .i64 Ver.zero.by_] 0 (unhide HB))⟩
            · obtain rfl : R = (t, false, Met.zero, 82) := by rw [← unhide HE, (unhide Hs').unsure]
              clear B U
              go_wp2
              have q1 := Blk.others (by omega) [.int .i64 Met.zero.id, .int .i64 Met.zero.ep, .string Met.zero.anchor, .int .i64 Met.zero.start.1, .int .i64 Met.zero.start.2] (C := w.heap.size + 1 + 1 + 1 + 1) 0 (V.all [.int .i64 t.at_.1, .int .i64 t.at_.2, .string t.val, .bool t.gone, .int .i64 t.by_] rfl)
              have q2 := (Blk.others (by omega) [.int .i64 t.at_.1, .int .i64 t.at_.2, .string t.val, .bool t.gone, .int .i64 t.by_] (C := w.heap.size + 1 + 1 + 1) 0 M).all [.int .i64 Met.zero.id, .int .i64 Met.zero.ep, .string Met.zero.anchor, .int .i64 Met.zero.start.1, .int .i64 Met.zero.start.2] rfl
              exact bodyPost_ret (results_vbme Try.results18 t Met.zero rfl rfl rfl rfl q1 q2) rfl ⟨rfl, below_setAll (by omega) [.int .i64 Met.zero.id, .int .i64 Met.zero.ep, .string Met.zero.anchor, .int .i64 Met.zero.start.1, .int .i64 Met.zero.start.2] 0 (below_setAll (by omega) [.int .i64 t.at_.1, .int .i64 t.at_.2, .string t.val, .bool t.gone, .int .i64 t.by_] 0 (unhide HB))⟩
      · rw [t3] at hUi
        clear t3
        have L_0 := L.c 0; have L_1 := L.c 1; simp only [List.getElem?_cons_zero, List.getElem?_cons_succ] at L_0 L_1
        go_wp2_with fail
        refine (hUi _).mono ?_
        rintro e w1 ⟨rfl, hb1⟩
        clear C_0 C_1 C_2 C_3 C_4 C_5 C_6 C_7 C_8 C_9 C_10 C_11 J_0 J_1 J_2 J_3 J_4 J_5 J_6 J_7 J_8 J_9 L_0 L_1
        replace C := C.later hb1
        replace A := A.later hb1
        replace L := L.later hb1
        replace V := V.later hb1
        replace M := M.later hb1
        replace hB := hB.trans (hb1.mono hB.size)
        clear hb1 hUi J
        go_upto_region 8 with fail
        have HW := hide (And.intro hB (And.intro C (And.intro A (And.intro L (And.intro V M)))))
        clear hB C A L V M
        have B := (Blk.new w1 #[.int .i64 0, .int .i64 0, .string ⟨#[]⟩, .bool false, .int .i64 0] 37).alloc (.cells #[.int .i64 0, .int .i64 0, .string ⟨#[]⟩, .bool false, .int .i64 0] 37)
        have U := Blk.new (w1.alloc (.cells #[.int .i64 0, .int .i64 0, .string ⟨#[]⟩, .bool false, .int .i64 0] 37)) #[.int .i64 0, .int .i64 0, .string ⟨#[]⟩, .bool false, .int .i64 0] 37
        rw [show (w1.alloc (.cells #[.int .i64 0, .int .i64 0, .string ⟨#[]⟩, .bool false, .int .i64 0] 37)).heap.size = w1.heap.size + 1 by simp] at U
        have hB : Below w1.heap.size w1 ((w1.alloc (.cells #[.int .i64 0, .int .i64 0, .string ⟨#[]⟩, .bool false, .int .i64 0] 37)).alloc (.cells #[.int .i64 0, .int .i64 0, .string ⟨#[]⟩, .bool false, .int .i64 0] 37)) := ((Below.refl w1.heap.size w1).alloc (Nat.le_refl _) _).alloc (by simp) _
        have HBU := hide (And.intro B (And.intro U hB))
        clear B U hB
        go_wp2
        go_loopw [17, 18, 19] (fun x y u wr => ∃ (k : Nat) (p q : Bool) (b t : Ver), u = .int .i64 k ∧ k ≤ n ∧ x = .bool p ∧ y = .bool q ∧ Hid (Sofar (vs.take k) a l p q b t) ∧ Hid (Blk wr w1.heap.size [.int .i64 b.at_.1, .int .i64 b.at_.2, .string b.val, .bool b.gone, .int .i64 b.by_] ∧ Blk wr (w1.heap.size + 1) [.int .i64 t.at_.1, .int .i64 t.at_.2, .string t.val, .bool t.gone, .int .i64 t.by_]) ∧ Hid (Below w1.heap.size w1 wr)) (fun _ _ u _ => n - (intOf u).toNat)
        case atStart => exact ⟨0, false, false, Ver.zero, Ver.zero, rfl, by omega, rfl, rfl, Sofar.zero a l _ _, ⟨(unhide HBU).1, (unhide HBU).2.1⟩, (unhide HBU).2.2⟩
        case round =>
          obtain ⟨k, p, q, b, t, rfl, hk, rfl, rfl, Hs, Hbu, Hb⟩ := hrel
          obtain ⟨hB, C, A, L, V, M⟩ := unhide HW
          obtain ⟨B, U⟩ := unhide Hbu
          have hltM := M.lt
          have hne1 : w.heap.size + 1 + 1 + 1 ≠ w1.heap.size := by omega
          replace hB := hB.trans ((unhide Hb).mono hB.size)
          replace C := C.later (unhide Hb)
          replace A := A.later (unhide Hb)
          replace L := L.later (unhide Hb)
          replace V := V.later (unhide Hb)
          replace M := M.later (unhide Hb)
          by_cases hlt : k < n
          · have h1 : k < vs.length := by have := unhide Hn; omega
            obtain ⟨bb, oo, rfl, x⟩ := (unhide Hv).each k h1
            obtain ⟨v, hv0⟩ : ∃ v, vs[k] = v := ⟨_, rfl⟩
            rw [hv0] at x
            replace x := x.block (hB.block _ x.lt)
            have Hv0 := hide (And.intro h1 hv0)
            have x0 := x.c0
            have x1 := x.c1
            have x2 := x.c2
            have x3 := x.c3
            have x4 := x.c4
            have hU := fun w => upto_any v.at_ a w
            have hL := fun w => upto_any v.at_ l w
            have C_0 := C.c 0; simp only [List.getElem?_cons_zero] at C_0
            have E := Blk.new wr #[.int .i64 v.at_.1, .int .i64 v.at_.2, .string v.val, .bool v.gone, .int .i64 v.by_] 37
            have neB : w1.heap.size ≠ wr.heap.size := Nat.ne_of_lt B.lt
            have neU : w1.heap.size + 1 ≠ wr.heap.size := Nat.ne_of_lt U.lt
            have ltU := U.lt
            replace B := B.alloc (.cells #[.int .i64 v.at_.1, .int .i64 v.at_.2, .string v.val, .bool v.gone, .int .i64 v.by_] 37)
            replace U := U.alloc (.cells #[.int .i64 v.at_.1, .int .i64 v.at_.2, .string v.val, .bool v.gone, .int .i64 v.by_] 37)
            replace A := A.alloc (.cells #[.int .i64 v.at_.1, .int .i64 v.at_.2, .string v.val, .bool v.gone, .int .i64 v.by_] 37)
            replace L := L.alloc (.cells #[.int .i64 v.at_.1, .int .i64 v.at_.2, .string v.val, .bool v.gone, .int .i64 v.by_] 37)
            have Hbr := hide ((unhide Hb).alloc (unhide Hb).size (.cells #[.int .i64 v.at_.1, .int .i64 v.at_.2, .string v.val, .bool v.gone, .int .i64 v.by_] 37))
            clear x V M hB hv0 C Hb Hbu
            have E_0 := E.c 0; have E_1 := E.c 1; have E_2 := E.c 2; have E_3 := E.c 3; have E_4 := E.c 4; simp only [List.getElem?_cons_zero, List.getElem?_cons_succ] at E_0 E_1 E_2 E_3 E_4
            have A_0 := A.c 0; have A_1 := A.c 1; simp only [List.getElem?_cons_zero, List.getElem?_cons_succ] at A_0 A_1
            go_wp2_with fail
            clear E_0 E_1 E_2 E_3 E_4 A_0 A_1
            clear C_0 x0 x1 x2 x3 x4
            generalize wr.alloc _ = W1 at *
            refine (hU _).mono ?_
            rintro e w2 ⟨rfl, hb2⟩
            replace E := E.later hb2
            replace B := B.later hb2
            replace U := U.later hb2
            replace L := L.later hb2
            replace Hbr := hide ((unhide Hbr).trans (hb2.mono (unhide Hbr).size))
            clear hb2 hU A
            cases ha : upB v.at_ a
            · have E_0 := E.c 0; have E_1 := E.c 1; have E_2 := E.c 2; have E_3 := E.c 3; have E_4 := E.c 4; simp only [List.getElem?_cons_zero, List.getElem?_cons_succ] at E_0 E_1 E_2 E_3 E_4
              have L_0 := L.c 0; have L_1 := L.c 1; simp only [List.getElem?_cons_zero, List.getElem?_cons_succ] at L_0 L_1
              go_wp2_with fail
              clear E_0 E_1 E_2 E_3 E_4 L_0 L_1
              refine (hL _).mono ?_
              rintro e w3 ⟨rfl, hb3⟩
              replace E := E.later hb3
              replace B := B.later hb3
              replace U := U.later hb3
              replace L := L.later hb3
              replace Hbr := hide ((unhide Hbr).trans (hb3.mono (unhide Hbr).size))
              clear hb3 hL L
              cases hl : upB v.at_ l
              · have Hs' := hide ((unhide Hs).pass (unhide Hv0).1 (unhide Hv0).2 ha hl)
                have Hend := hide (And.intro B U)
                clear ha hl B U E Hs
                go_wp2
                go_roundw
                case rel => exact ⟨k + 1, p, q, b, t, by go_num, by omega, rfl, rfl, unhide Hs', unhide Hend, unhide Hbr⟩
                case measure => simp [intOf]; omega
              · have Hs' := hide ((unhide Hs).doubt (unhide Hv0).1 (unhide Hv0).2 ha hl)
                have E_0 := E.c 0; have E_1 := E.c 1; have E_2 := E.c 2; have E_3 := E.c 3; have E_4 := E.c 4; simp only [List.getElem?_cons_zero, List.getElem?_cons_succ] at E_0 E_1 E_2 E_3 E_4
                have U_0 := U.c 0; have U_1 := U.c 1; have U_2 := U.c 2; have U_3 := U.c 3; have U_4 := U.c 4; simp only [List.getElem?_cons_zero, List.getElem?_cons_succ] at U_0 U_1 U_2 U_3 U_4
                have Uf := U.f
                have Hend := hide (And.intro (Blk.others (by omega) [.int .i64 (bare v).at_.1, .int .i64 (bare v).at_.2, .string (bare v).val, .bool (bare v).gone, .int .i64 (bare v).by_] (C := w1.heap.size + 1) 0 B) (And.intro (U.all [.int .i64 (bare v).at_.1, .int .i64 (bare v).at_.2, .string (bare v).val, .bool (bare v).gone, .int .i64 (bare v).by_] rfl) (below_setAll (C := w1.heap.size + 1) (by omega) [.int .i64 (bare v).at_.1, .int .i64 (bare v).at_.2, .string (bare v).val, .bool (bare v).gone, .int .i64 (bare v).by_] 0 (unhide Hbr))))
                clear ha hl B E U Hs Hbr
                go_wp2
                go_roundw
                case rel => exact ⟨k + 1, p, true, b, bare v, by go_num, by omega, rfl, rfl, unhide Hs', ⟨(unhide Hend).1, (unhide Hend).2.1⟩, (unhide Hend).2.2⟩
                case measure => simp [intOf]; omega
            · have Hs' := hide ((unhide Hs).put (unhide Hv0).1 (unhide Hv0).2 ha)
              have E_0 := E.c 0; have E_1 := E.c 1; have E_2 := E.c 2; have E_3 := E.c 3; have E_4 := E.c 4; simp only [List.getElem?_cons_zero, List.getElem?_cons_succ] at E_0 E_1 E_2 E_3 E_4
              have B_0 := B.c 0; have B_1 := B.c 1; have B_2 := B.c 2; have B_3 := B.c 3; have B_4 := B.c 4; simp only [List.getElem?_cons_zero, List.getElem?_cons_succ] at B_0 B_1 B_2 B_3 B_4
              have Bf := B.f
              have Hend := hide (And.intro (B.all [.int .i64 v.at_.1, .int .i64 v.at_.2, .string v.val, .bool v.gone, .int .i64 v.by_] rfl) (And.intro (Blk.others (by omega) [.int .i64 v.at_.1, .int .i64 v.at_.2, .string v.val, .bool v.gone, .int .i64 v.by_] (C := w1.heap.size) 0 U) (below_setAll (C := w1.heap.size) (Nat.le_refl _) [.int .i64 v.at_.1, .int .i64 v.at_.2, .string v.val, .bool v.gone, .int .i64 v.by_] 0 (unhide Hbr))))
              clear ha B E U Hs Hbr hL L
              go_wp2
              go_roundw
              case rel => exact ⟨k + 1, true, q, v, t, by go_num, by omega, rfl, rfl, unhide Hs', ⟨(unhide Hend).1, (unhide Hend).2.1⟩, (unhide Hend).2.2⟩
              case measure => simp [intOf]; omega
          · have hkn : k = n := by omega
            have Hs' : Hid (Sofar vs a l p q b t) := by
              have := unhide Hs
              rwa [List.take_of_length_le (by have := unhide Hn; omega)] at this
            have hne2 := hltM
            have C_0 := C.c 0; simp only [List.getElem?_cons_zero] at C_0
            have V_0 := V.c 0; have V_1 := V.c 1; have V_2 := V.c 2; have V_3 := V.c 3; have V_4 := V.c 4; simp only [List.getElem?_cons_zero, List.getElem?_cons_succ] at V_0 V_1 V_2 V_3 V_4
            have M_0 := M.c 0; have M_1 := M.c 1; have M_2 := M.c 2; have M_3 := M.c 3; have M_4 := M.c 4; simp only [List.getElem?_cons_zero, List.getElem?_cons_succ] at M_0 M_1 M_2 M_3 M_4
            have B_0 := B.c 0; have B_1 := B.c 1; have B_2 := B.c 2; have B_3 := B.c 3; have B_4 := B.c 4; simp only [List.getElem?_cons_zero, List.getElem?_cons_succ] at B_0 B_1 B_2 B_3 B_4
            have U_0 := U.c 0; have U_1 := U.c 1; have U_2 := U.c 2; have U_3 := U.c 3; have U_4 := U.c 4; simp only [List.getElem?_cons_zero, List.getElem?_cons_succ] at U_0 U_1 U_2 U_3 U_4
            have Vf := V.f
            have Mf := M.f
            have HB := hide hB
            clear hB A L C hkn Hs Hbu
            cases q
            · cases p
              · obtain rfl : R = (Ver.zero, false, Met.zero, 0) := by rw [← unhide HE, (unhide Hs').none]
                clear B U
                go_wp2
                have q1 := Blk.others (by omega) [.int .i64 Met.zero.id, .int .i64 Met.zero.ep, .string Met.zero.anchor, .int .i64 Met.zero.start.1, .int .i64 Met.zero.start.2] (C := w.heap.size + 1 + 1 + 1 + 1) 0 (V.all [.int .i64 Ver.zero.at_.1, .int .i64 Ver.zero.at_.2, .string Ver.zero.val, .bool Ver.zero.gone, .int .i64 Ver.zero.by_] rfl)
                have q2 := (Blk.others (by omega) [.int .i64 Ver.zero.at_.1, .int .i64 Ver.zero.at_.2, .string Ver.zero.val, .bool Ver.zero.gone, .int .i64 Ver.zero.by_] (C := w.heap.size + 1 + 1 + 1) 0 M).all [.int .i64 Met.zero.id, .int .i64 Met.zero.ep, .string Met.zero.anchor, .int .i64 Met.zero.start.1, .int .i64 Met.zero.start.2] rfl
                exact bodyPost_ret (results_vbme Try.results18 Ver.zero Met.zero rfl rfl rfl rfl q1 q2) rfl ⟨rfl, below_setAll (by omega) [.int .i64 Met.zero.id, .int .i64 Met.zero.ep, .string Met.zero.anchor, .int .i64 Met.zero.start.1, .int .i64 Met.zero.start.2] 0 (below_setAll (by omega) [.int .i64 Ver.zero.at_.1, .int .i64 Ver.zero.at_.2, .string Ver.zero.val, .bool Ver.zero.gone, .int .i64 Ver.zero.by_] 0 (unhide HB))⟩
              · obtain ⟨b1, b2, b3, b4⟩ := b
                try simp only at B_0 B_1 B_2 B_3 B_4
                cases b3
                · obtain rfl : R = (⟨b1, b2, false, b4⟩, true, Met.zero, 0) := by rw [← unhide HE, (unhide Hs').some rfl]
                  clear B U
                  go_wp2
                  have q1 := Blk.others (by omega) [.int .i64 Met.zero.id, .int .i64 Met.zero.ep, .string Met.zero.anchor, .int .i64 Met.zero.start.1, .int .i64 Met.zero.start.2] (C := w.heap.size + 1 + 1 + 1 + 1) 0 (V.all [.int .i64 (⟨b1, b2, false, b4⟩ : Ver).at_.1, .int .i64 (⟨b1, b2, false, b4⟩ : Ver).at_.2, .string (⟨b1, b2, false, b4⟩ : Ver).val, .bool (⟨b1, b2, false, b4⟩ : Ver).gone, .int .i64 (⟨b1, b2, false, b4⟩ : Ver).by_] rfl)
                  have q2 := (Blk.others (by omega) [.int .i64 (⟨b1, b2, false, b4⟩ : Ver).at_.1, .int .i64 (⟨b1, b2, false, b4⟩ : Ver).at_.2, .string (⟨b1, b2, false, b4⟩ : Ver).val, .bool (⟨b1, b2, false, b4⟩ : Ver).gone, .int .i64 (⟨b1, b2, false, b4⟩ : Ver).by_] (C := w.heap.size + 1 + 1 + 1) 0 M).all [.int .i64 Met.zero.id, .int .i64 Met.zero.ep, .string Met.zero.anchor, .int .i64 Met.zero.start.1, .int .i64 Met.zero.start.2] rfl
                  exact bodyPost_ret (results_vbme Try.results18 (⟨b1, b2, false, b4⟩ : Ver) Met.zero rfl rfl rfl rfl q1 q2) rfl ⟨rfl, below_setAll (by omega) [.int .i64 Met.zero.id, .int .i64 Met.zero.ep, .string Met.zero.anchor, .int .i64 Met.zero.start.1, .int .i64 Met.zero.start.2] 0 (below_setAll (by omega) [.int .i64 (⟨b1, b2, false, b4⟩ : Ver).at_.1, .int .i64 (⟨b1, b2, false, b4⟩ : Ver).at_.2, .string (⟨b1, b2, false, b4⟩ : Ver).val, .bool (⟨b1, b2, false, b4⟩ : Ver).gone, .int .i64 (⟨b1, b2, false, b4⟩ : Ver).by_] 0 (unhide HB))⟩
                · obtain rfl : R = (Ver.zero, false, Met.zero, 0) := by rw [← unhide HE, (unhide Hs').gone rfl]
                  clear B U
                  go_wp2
                  have q1 := Blk.others (by omega) [.int .i64 Met.zero.id, .int .i64 Met.zero.ep, .string Met.zero.anchor, .int .i64 Met.zero.start.1, .int .i64 Met.zero.start.2] (C := w.heap.size + 1 + 1 + 1 + 1) 0 (V.all [.int .i64 Ver.zero.at_.1, .int .i64 Ver.zero.at_.2, .string Ver.zero.val, .bool Ver.zero.gone, .int .i64 Ver.zero.by_] rfl)
                  have q2 := (Blk.others (by omega) [.int .i64 Ver.zero.at_.1, .int .i64 Ver.zero.at_.2, .string Ver.zero.val, .bool Ver.zero.gone, .int .i64 Ver.zero.by_] (C := w.heap.size + 1 + 1 + 1) 0 M).all [.int .i64 Met.zero.id, .int .i64 Met.zero.ep, .string Met.zero.anchor, .int .i64 Met.zero.start.1, .int .i64 Met.zero.start.2] rfl
                  exact bodyPost_ret (results_vbme Try.results18 Ver.zero Met.zero rfl rfl rfl rfl q1 q2) rfl ⟨rfl, below_setAll (by omega) [.int .i64 Met.zero.id, .int .i64 Met.zero.ep, .string Met.zero.anchor, .int .i64 Met.zero.start.1, .int .i64 Met.zero.start.2] 0 (below_setAll (by omega) [.int .i64 Ver.zero.at_.1, .int .i64 Ver.zero.at_.2, .string Ver.zero.val, .bool Ver.zero.gone, .int .i64 Ver.zero.by_] 0 (unhide HB))⟩
            · obtain rfl : R = (t, false, Met.zero, 82) := by rw [← unhide HE, (unhide Hs').unsure]
              clear B U
              go_wp2
              have q1 := Blk.others (by omega) [.int .i64 Met.zero.id, .int .i64 Met.zero.ep, .string Met.zero.anchor, .int .i64 Met.zero.start.1, .int .i64 Met.zero.start.2] (C := w.heap.size + 1 + 1 + 1 + 1) 0 (V.all [.int .i64 t.at_.1, .int .i64 t.at_.2, .string t.val, .bool t.gone, .int .i64 t.by_] rfl)
              have q2 := (Blk.others (by omega) [.int .i64 t.at_.1, .int .i64 t.at_.2, .string t.val, .bool t.gone, .int .i64 t.by_] (C := w.heap.size + 1 + 1 + 1) 0 M).all [.int .i64 Met.zero.id, .int .i64 Met.zero.ep, .string Met.zero.anchor, .int .i64 Met.zero.start.1, .int .i64 Met.zero.start.2] rfl
              exact bodyPost_ret (results_vbme Try.results18 t Met.zero rfl rfl rfl rfl q1 q2) rfl ⟨rfl, below_setAll (by omega) [.int .i64 Met.zero.id, .int .i64 Met.zero.ep, .string Met.zero.anchor, .int .i64 Met.zero.start.1, .int .i64 Met.zero.start.2] 0 (below_setAll (by omega) [.int .i64 t.at_.1, .int .i64 t.at_.2, .string t.val, .bool t.gone, .int .i64 t.by_] 0 (unhide HB))⟩
      · clear hUi
        go_upto_region 8 with fail
        clear C_0 C_1 C_2 C_3 C_4 C_5 C_6 C_7 C_8 C_9 C_10 C_11 J_0 J_1 J_2 J_3 J_4 J_5 J_6 J_7 J_8 J_9
        clear J
        have HW := hide (And.intro hB (And.intro C (And.intro A (And.intro L (And.intro V M)))))
        clear hB C A L V M
        have B := (Blk.new W #[.int .i64 0, .int .i64 0, .string ⟨#[]⟩, .bool false, .int .i64 0] 37).alloc (.cells #[.int .i64 0, .int .i64 0, .string ⟨#[]⟩, .bool false, .int .i64 0] 37)
        have U := Blk.new (W.alloc (.cells #[.int .i64 0, .int .i64 0, .string ⟨#[]⟩, .bool false, .int .i64 0] 37)) #[.int .i64 0, .int .i64 0, .string ⟨#[]⟩, .bool false, .int .i64 0] 37
        rw [show (W.alloc (.cells #[.int .i64 0, .int .i64 0, .string ⟨#[]⟩, .bool false, .int .i64 0] 37)).heap.size = W.heap.size + 1 by simp] at U
        have hB : Below W.heap.size W ((W.alloc (.cells #[.int .i64 0, .int .i64 0, .string ⟨#[]⟩, .bool false, .int .i64 0] 37)).alloc (.cells #[.int .i64 0, .int .i64 0, .string ⟨#[]⟩, .bool false, .int .i64 0] 37)) := ((Below.refl W.heap.size W).alloc (Nat.le_refl _) _).alloc (by simp) _
        have HBU := hide (And.intro B (And.intro U hB))
        clear B U hB
        go_wp2
        go_loopw [17, 18, 19] (fun x y u wr => ∃ (k : Nat) (p q : Bool) (b t : Ver), u = .int .i64 k ∧ k ≤ n ∧ x = .bool p ∧ y = .bool q ∧ Hid (Sofar (vs.take k) a l p q b t) ∧ Hid (Blk wr W.heap.size [.int .i64 b.at_.1, .int .i64 b.at_.2, .string b.val, .bool b.gone, .int .i64 b.by_] ∧ Blk wr (W.heap.size + 1) [.int .i64 t.at_.1, .int .i64 t.at_.2, .string t.val, .bool t.gone, .int .i64 t.by_]) ∧ Hid (Below W.heap.size W wr)) (fun _ _ u _ => n - (intOf u).toNat)
        case atStart => exact ⟨0, false, false, Ver.zero, Ver.zero, rfl, by omega, rfl, rfl, Sofar.zero a l _ _, ⟨(unhide HBU).1, (unhide HBU).2.1⟩, (unhide HBU).2.2⟩
        case round =>
          obtain ⟨k, p, q, b, t, rfl, hk, rfl, rfl, Hs, Hbu, Hb⟩ := hrel
          obtain ⟨hB, C, A, L, V, M⟩ := unhide HW
          obtain ⟨B, U⟩ := unhide Hbu
          have hltM := M.lt
          have hne1 : w.heap.size + 1 + 1 + 1 ≠ W.heap.size := by omega
          replace hB := hB.trans ((unhide Hb).mono hB.size)
          replace C := C.later (unhide Hb)
          replace A := A.later (unhide Hb)
          replace L := L.later (unhide Hb)
          replace V := V.later (unhide Hb)
          replace M := M.later (unhide Hb)
          by_cases hlt : k < n
          · have h1 : k < vs.length := by have := unhide Hn; omega
            obtain ⟨bb, oo, rfl, x⟩ := (unhide Hv).each k h1
            obtain ⟨v, hv0⟩ : ∃ v, vs[k] = v := ⟨_, rfl⟩
            rw [hv0] at x
            replace x := x.block (hB.block _ x.lt)
            have Hv0 := hide (And.intro h1 hv0)
            have x0 := x.c0
            have x1 := x.c1
            have x2 := x.c2
            have x3 := x.c3
            have x4 := x.c4
            have hU := fun w => upto_any v.at_ a w
            have hL := fun w => upto_any v.at_ l w
            have C_0 := C.c 0; simp only [List.getElem?_cons_zero] at C_0
            have E := Blk.new wr #[.int .i64 v.at_.1, .int .i64 v.at_.2, .string v.val, .bool v.gone, .int .i64 v.by_] 37
            have neB : W.heap.size ≠ wr.heap.size := Nat.ne_of_lt B.lt
            have neU : W.heap.size + 1 ≠ wr.heap.size := Nat.ne_of_lt U.lt
            have ltU := U.lt
            replace B := B.alloc (.cells #[.int .i64 v.at_.1, .int .i64 v.at_.2, .string v.val, .bool v.gone, .int .i64 v.by_] 37)
            replace U := U.alloc (.cells #[.int .i64 v.at_.1, .int .i64 v.at_.2, .string v.val, .bool v.gone, .int .i64 v.by_] 37)
            replace A := A.alloc (.cells #[.int .i64 v.at_.1, .int .i64 v.at_.2, .string v.val, .bool v.gone, .int .i64 v.by_] 37)
            replace L := L.alloc (.cells #[.int .i64 v.at_.1, .int .i64 v.at_.2, .string v.val, .bool v.gone, .int .i64 v.by_] 37)
            have Hbr := hide ((unhide Hb).alloc (unhide Hb).size (.cells #[.int .i64 v.at_.1, .int .i64 v.at_.2, .string v.val, .bool v.gone, .int .i64 v.by_] 37))
            clear x V M hB hv0 C Hb Hbu
            have E_0 := E.c 0; have E_1 := E.c 1; have E_2 := E.c 2; have E_3 := E.c 3; have E_4 := E.c 4; simp only [List.getElem?_cons_zero, List.getElem?_cons_succ] at E_0 E_1 E_2 E_3 E_4
            have A_0 := A.c 0; have A_1 := A.c 1; simp only [List.getElem?_cons_zero, List.getElem?_cons_succ] at A_0 A_1
            go_wp2_with fail
            clear E_0 E_1 E_2 E_3 E_4 A_0 A_1
            clear C_0 x0 x1 x2 x3 x4
            generalize wr.alloc _ = W1 at *
            refine (hU _).mono ?_
            rintro e w2 ⟨rfl, hb2⟩
            replace E := E.later hb2
            replace B := B.later hb2
            replace U := U.later hb2
            replace L := L.later hb2
            replace Hbr := hide ((unhide Hbr).trans (hb2.mono (unhide Hbr).size))
            clear hb2 hU A
            cases ha : upB v.at_ a
            · have E_0 := E.c 0; have E_1 := E.c 1; have E_2 := E.c 2; have E_3 := E.c 3; have E_4 := E.c 4; simp only [List.getElem?_cons_zero, List.getElem?_cons_succ] at E_0 E_1 E_2 E_3 E_4
              have L_0 := L.c 0; have L_1 := L.c 1; simp only [List.getElem?_cons_zero, List.getElem?_cons_succ] at L_0 L_1
              go_wp2_with fail
              clear E_0 E_1 E_2 E_3 E_4 L_0 L_1
              refine (hL _).mono ?_
              rintro e w3 ⟨rfl, hb3⟩
              replace E := E.later hb3
              replace B := B.later hb3
              replace U := U.later hb3
              replace L := L.later hb3
              replace Hbr := hide ((unhide Hbr).trans (hb3.mono (unhide Hbr).size))
              clear hb3 hL L
              cases hl : upB v.at_ l
              · have Hs' := hide ((unhide Hs).pass (unhide Hv0).1 (unhide Hv0).2 ha hl)
                have Hend := hide (And.intro B U)
                clear ha hl B U E Hs
                go_wp2
                go_roundw
                case rel => exact ⟨k + 1, p, q, b, t, by go_num, by omega, rfl, rfl, unhide Hs', unhide Hend, unhide Hbr⟩
                case measure => simp [intOf]; omega
              · have Hs' := hide ((unhide Hs).doubt (unhide Hv0).1 (unhide Hv0).2 ha hl)
                have E_0 := E.c 0; have E_1 := E.c 1; have E_2 := E.c 2; have E_3 := E.c 3; have E_4 := E.c 4; simp only [List.getElem?_cons_zero, List.getElem?_cons_succ] at E_0 E_1 E_2 E_3 E_4
                have U_0 := U.c 0; have U_1 := U.c 1; have U_2 := U.c 2; have U_3 := U.c 3; have U_4 := U.c 4; simp only [List.getElem?_cons_zero, List.getElem?_cons_succ] at U_0 U_1 U_2 U_3 U_4
                have Uf := U.f
                have Hend := hide (And.intro (Blk.others (by omega) [.int .i64 (bare v).at_.1, .int .i64 (bare v).at_.2, .string (bare v).val, .bool (bare v).gone, .int .i64 (bare v).by_] (C := W.heap.size + 1) 0 B) (And.intro (U.all [.int .i64 (bare v).at_.1, .int .i64 (bare v).at_.2, .string (bare v).val, .bool (bare v).gone, .int .i64 (bare v).by_] rfl) (below_setAll (C := W.heap.size + 1) (by omega) [.int .i64 (bare v).at_.1, .int .i64 (bare v).at_.2, .string (bare v).val, .bool (bare v).gone, .int .i64 (bare v).by_] 0 (unhide Hbr))))
                clear ha hl B E U Hs Hbr
                go_wp2
                go_roundw
                case rel => exact ⟨k + 1, p, true, b, bare v, by go_num, by omega, rfl, rfl, unhide Hs', ⟨(unhide Hend).1, (unhide Hend).2.1⟩, (unhide Hend).2.2⟩
                case measure => simp [intOf]; omega
            · have Hs' := hide ((unhide Hs).put (unhide Hv0).1 (unhide Hv0).2 ha)
              have E_0 := E.c 0; have E_1 := E.c 1; have E_2 := E.c 2; have E_3 := E.c 3; have E_4 := E.c 4; simp only [List.getElem?_cons_zero, List.getElem?_cons_succ] at E_0 E_1 E_2 E_3 E_4
              have B_0 := B.c 0; have B_1 := B.c 1; have B_2 := B.c 2; have B_3 := B.c 3; have B_4 := B.c 4; simp only [List.getElem?_cons_zero, List.getElem?_cons_succ] at B_0 B_1 B_2 B_3 B_4
              have Bf := B.f
              have Hend := hide (And.intro (B.all [.int .i64 v.at_.1, .int .i64 v.at_.2, .string v.val, .bool v.gone, .int .i64 v.by_] rfl) (And.intro (Blk.others (by omega) [.int .i64 v.at_.1, .int .i64 v.at_.2, .string v.val, .bool v.gone, .int .i64 v.by_] (C := W.heap.size) 0 U) (below_setAll (C := W.heap.size) (Nat.le_refl _) [.int .i64 v.at_.1, .int .i64 v.at_.2, .string v.val, .bool v.gone, .int .i64 v.by_] 0 (unhide Hbr))))
              clear ha B E U Hs Hbr hL L
              go_wp2
              go_roundw
              case rel => exact ⟨k + 1, true, q, v, t, by go_num, by omega, rfl, rfl, unhide Hs', ⟨(unhide Hend).1, (unhide Hend).2.1⟩, (unhide Hend).2.2⟩
              case measure => simp [intOf]; omega
          · have hkn : k = n := by omega
            have Hs' : Hid (Sofar vs a l p q b t) := by
              have := unhide Hs
              rwa [List.take_of_length_le (by have := unhide Hn; omega)] at this
            have hne2 := hltM
            have C_0 := C.c 0; simp only [List.getElem?_cons_zero] at C_0
            have V_0 := V.c 0; have V_1 := V.c 1; have V_2 := V.c 2; have V_3 := V.c 3; have V_4 := V.c 4; simp only [List.getElem?_cons_zero, List.getElem?_cons_succ] at V_0 V_1 V_2 V_3 V_4
            have M_0 := M.c 0; have M_1 := M.c 1; have M_2 := M.c 2; have M_3 := M.c 3; have M_4 := M.c 4; simp only [List.getElem?_cons_zero, List.getElem?_cons_succ] at M_0 M_1 M_2 M_3 M_4
            have B_0 := B.c 0; have B_1 := B.c 1; have B_2 := B.c 2; have B_3 := B.c 3; have B_4 := B.c 4; simp only [List.getElem?_cons_zero, List.getElem?_cons_succ] at B_0 B_1 B_2 B_3 B_4
            have U_0 := U.c 0; have U_1 := U.c 1; have U_2 := U.c 2; have U_3 := U.c 3; have U_4 := U.c 4; simp only [List.getElem?_cons_zero, List.getElem?_cons_succ] at U_0 U_1 U_2 U_3 U_4
            have Vf := V.f
            have Mf := M.f
            have HB := hide hB
            clear hB A L C hkn Hs Hbu
            cases q
            · cases p
              · obtain rfl : R = (Ver.zero, false, Met.zero, 0) := by rw [← unhide HE, (unhide Hs').none]
                clear B U
                go_wp2
                have q1 := Blk.others (by omega) [.int .i64 Met.zero.id, .int .i64 Met.zero.ep, .string Met.zero.anchor, .int .i64 Met.zero.start.1, .int .i64 Met.zero.start.2] (C := w.heap.size + 1 + 1 + 1 + 1) 0 (V.all [.int .i64 Ver.zero.at_.1, .int .i64 Ver.zero.at_.2, .string Ver.zero.val, .bool Ver.zero.gone, .int .i64 Ver.zero.by_] rfl)
                have q2 := (Blk.others (by omega) [.int .i64 Ver.zero.at_.1, .int .i64 Ver.zero.at_.2, .string Ver.zero.val, .bool Ver.zero.gone, .int .i64 Ver.zero.by_] (C := w.heap.size + 1 + 1 + 1) 0 M).all [.int .i64 Met.zero.id, .int .i64 Met.zero.ep, .string Met.zero.anchor, .int .i64 Met.zero.start.1, .int .i64 Met.zero.start.2] rfl
                exact bodyPost_ret (results_vbme Try.results18 Ver.zero Met.zero rfl rfl rfl rfl q1 q2) rfl ⟨rfl, below_setAll (by omega) [.int .i64 Met.zero.id, .int .i64 Met.zero.ep, .string Met.zero.anchor, .int .i64 Met.zero.start.1, .int .i64 Met.zero.start.2] 0 (below_setAll (by omega) [.int .i64 Ver.zero.at_.1, .int .i64 Ver.zero.at_.2, .string Ver.zero.val, .bool Ver.zero.gone, .int .i64 Ver.zero.by_] 0 (unhide HB))⟩
              · obtain ⟨b1, b2, b3, b4⟩ := b
                try simp only at B_0 B_1 B_2 B_3 B_4
                cases b3
                · obtain rfl : R = (⟨b1, b2, false, b4⟩, true, Met.zero, 0) := by rw [← unhide HE, (unhide Hs').some rfl]
                  clear B U
                  go_wp2
                  have q1 := Blk.others (by omega) [.int .i64 Met.zero.id, .int .i64 Met.zero.ep, .string Met.zero.anchor, .int .i64 Met.zero.start.1, .int .i64 Met.zero.start.2] (C := w.heap.size + 1 + 1 + 1 + 1) 0 (V.all [.int .i64 (⟨b1, b2, false, b4⟩ : Ver).at_.1, .int .i64 (⟨b1, b2, false, b4⟩ : Ver).at_.2, .string (⟨b1, b2, false, b4⟩ : Ver).val, .bool (⟨b1, b2, false, b4⟩ : Ver).gone, .int .i64 (⟨b1, b2, false, b4⟩ : Ver).by_] rfl)
                  have q2 := (Blk.others (by omega) [.int .i64 (⟨b1, b2, false, b4⟩ : Ver).at_.1, .int .i64 (⟨b1, b2, false, b4⟩ : Ver).at_.2, .string (⟨b1, b2, false, b4⟩ : Ver).val, .bool (⟨b1, b2, false, b4⟩ : Ver).gone, .int .i64 (⟨b1, b2, false, b4⟩ : Ver).by_] (C := w.heap.size + 1 + 1 + 1) 0 M).all [.int .i64 Met.zero.id, .int .i64 Met.zero.ep, .string Met.zero.anchor, .int .i64 Met.zero.start.1, .int .i64 Met.zero.start.2] rfl
                  exact bodyPost_ret (results_vbme Try.results18 (⟨b1, b2, false, b4⟩ : Ver) Met.zero rfl rfl rfl rfl q1 q2) rfl ⟨rfl, below_setAll (by omega) [.int .i64 Met.zero.id, .int .i64 Met.zero.ep, .string Met.zero.anchor, .int .i64 Met.zero.start.1, .int .i64 Met.zero.start.2] 0 (below_setAll (by omega) [.int .i64 (⟨b1, b2, false, b4⟩ : Ver).at_.1, .int .i64 (⟨b1, b2, false, b4⟩ : Ver).at_.2, .string (⟨b1, b2, false, b4⟩ : Ver).val, .bool (⟨b1, b2, false, b4⟩ : Ver).gone, .int .i64 (⟨b1, b2, false, b4⟩ : Ver).by_] 0 (unhide HB))⟩
                · obtain rfl : R = (Ver.zero, false, Met.zero, 0) := by rw [← unhide HE, (unhide Hs').gone rfl]
                  clear B U
                  go_wp2
                  have q1 := Blk.others (by omega) [.int .i64 Met.zero.id, .int .i64 Met.zero.ep, .string Met.zero.anchor, .int .i64 Met.zero.start.1, .int .i64 Met.zero.start.2] (C := w.heap.size + 1 + 1 + 1 + 1) 0 (V.all [.int .i64 Ver.zero.at_.1, .int .i64 Ver.zero.at_.2, .string Ver.zero.val, .bool Ver.zero.gone, .int .i64 Ver.zero.by_] rfl)
                  have q2 := (Blk.others (by omega) [.int .i64 Ver.zero.at_.1, .int .i64 Ver.zero.at_.2, .string Ver.zero.val, .bool Ver.zero.gone, .int .i64 Ver.zero.by_] (C := w.heap.size + 1 + 1 + 1) 0 M).all [.int .i64 Met.zero.id, .int .i64 Met.zero.ep, .string Met.zero.anchor, .int .i64 Met.zero.start.1, .int .i64 Met.zero.start.2] rfl
                  exact bodyPost_ret (results_vbme Try.results18 Ver.zero Met.zero rfl rfl rfl rfl q1 q2) rfl ⟨rfl, below_setAll (by omega) [.int .i64 Met.zero.id, .int .i64 Met.zero.ep, .string Met.zero.anchor, .int .i64 Met.zero.start.1, .int .i64 Met.zero.start.2] 0 (below_setAll (by omega) [.int .i64 Ver.zero.at_.1, .int .i64 Ver.zero.at_.2, .string Ver.zero.val, .bool Ver.zero.gone, .int .i64 Ver.zero.by_] 0 (unhide HB))⟩
            · obtain rfl : R = (t, false, Met.zero, 82) := by rw [← unhide HE, (unhide Hs').unsure]
              clear B U
              go_wp2
              have q1 := Blk.others (by omega) [.int .i64 Met.zero.id, .int .i64 Met.zero.ep, .string Met.zero.anchor, .int .i64 Met.zero.start.1, .int .i64 Met.zero.start.2] (C := w.heap.size + 1 + 1 + 1 + 1) 0 (V.all [.int .i64 t.at_.1, .int .i64 t.at_.2, .string t.val, .bool t.gone, .int .i64 t.by_] rfl)
              have q2 := (Blk.others (by omega) [.int .i64 t.at_.1, .int .i64 t.at_.2, .string t.val, .bool t.gone, .int .i64 t.by_] (C := w.heap.size + 1 + 1 + 1) 0 M).all [.int .i64 Met.zero.id, .int .i64 Met.zero.ep, .string Met.zero.anchor, .int .i64 Met.zero.start.1, .int .i64 Met.zero.start.2] rfl
              exact bodyPost_ret (results_vbme Try.results18 t Met.zero rfl rfl rfl rfl q1 q2) rfl ⟨rfl, below_setAll (by omega) [.int .i64 Met.zero.id, .int .i64 Met.zero.ep, .string Met.zero.anchor, .int .i64 Met.zero.start.1, .int .i64 Met.zero.start.2] 0 (below_setAll (by omega) [.int .i64 t.at_.1, .int .i64 t.at_.2, .string t.val, .bool t.gone, .int .i64 t.by_] 0 (unhide HB))⟩
end

end Go.Proofs.Ytcahmnpoajnmpaa
