/-
  The contract of version.Write. No law is proved here.
-/
import Derived.Test.YtcdehnghggleoaaGreatGz7
import Derived.BigRegion
namespace Go.Proofs.YtcdehnghggleoaaGreat
open Go.RowKit
set_option linter.unusedVariables false

theorem results_cste {fn : Func} {k1 k2 k3 k4 : Nat} (hf : fn.results = #[.cell k1 61, .cell k2 36, .cell k3 38, .tmp k4]) {tmps : Array Value} {w : World} {B1 B2 B3 : Nat} (ao : Option Addr) (n c : Nat) (o : Bool) (i : Itn) (s : Stp) (m : Met) {y : Value}
    (hk1 : tmps[k1]? = some (.pointer (some ⟨B1, 0, none⟩))) (hk2 : tmps[k2]? = some (.pointer (some ⟨B2, 0, none⟩))) (hk3 : tmps[k3]? = some (.pointer (some ⟨B3, 0, none⟩))) (hk4 : tmps[k4]? = some y)
    (h1 : Blk w B1 [.slice ao n c, .bool o, .int .i64 i.txn.id, .int .i64 i.txn.ep, .string i.txn.anchor, .int .i64 i.txn.start.1, .int .i64 i.txn.start.2, .int .i64 i.seq, .int .i64 i.at_.1, .int .i64 i.at_.2, .string i.val, .bool i.gone]) (h2 : Blk w B2 [.int .i64 s.1, .int .i64 s.2]) (h3 : Blk w B3 [.int .i64 m.id, .int .i64 m.ep, .string m.anchor, .int .i64 m.start.1, .int .i64 m.start.2]) : (results fn tmps).run Tryz.prog w = .ok (.tuple #[(.agg #[.slice ao n c, .bool o, .int .i64 i.txn.id, .int .i64 i.txn.ep, .string i.txn.anchor, .int .i64 i.txn.start.1, .int .i64 i.txn.start.2, .int .i64 i.seq, .int .i64 i.at_.1, .int .i64 i.at_.2, .string i.val, .bool i.gone]), (.agg #[.int .i64 s.1, .int .i64 s.2]), (.agg #[.int .i64 m.id, .int .i64 m.ep, .string m.anchor, .int .i64 m.start.1, .int .i64 m.start.2]), y]) w := by
  simp [results, hf, go_sem, h1.c, h2.c, h3.c, hk1, hk2, hk3, hk4]

theorem three {w : World} {B1 B2 B3 : Nat} {c1 c2 c3 : List Value} (R : Blk w B1 c1) (S : Blk w B2 c2) (M : Blk w B3 c3) (h12 : B1 ≠ B2) (h13 : B1 ≠ B3) (h23 : B2 ≠ B3) (r1 r2 r3 : List Value) (l1 : r1.length = c1.length) (l2 : r2.length = c2.length) (l3 : r3.length = c3.length) :
    Blk (setAll (setAll (setAll w B1 0 r1) B2 0 r2) B3 0 r3) B1 r1 ∧ Blk (setAll (setAll (setAll w B1 0 r1) B2 0 r2) B3 0 r3) B2 r2 ∧ Blk (setAll (setAll (setAll w B1 0 r1) B2 0 r2) B3 0 r3) B3 r3 :=
  ⟨Blk.others h13 r3 0 (Blk.others h12 r2 0 (R.all r1 l1)), Blk.others h23 r3 0 ((Blk.others h12.symm r1 0 S).all r2 l2), (Blk.others h23.symm r2 0 (Blk.others h13.symm r1 0 M)).all r3 l3⟩

theorem VOwn.drew {B : Nat} {w : World} {ao : Option Addr} {c : Nat} {vs : List Ver} (h : VOwn B w ao c vs) : VOwn B w.drew ao c vs := h.later (Below.refl w.heap.size w).drew

theorem atC_pre (c : Chn) (j : Itn) : atC c j = (preP c.vs j.at_).map (stepP c.opn c.itn) := rfl
/-- What Write answers where it comes to lay the intent. -/
def tailW (vs : List Ver) (j : Itn) (p : Stp × Int) : Chn × Stp × Met × Int := if p.2 = 0 then (⟨vs, true, { j with at_ := p.1 }⟩, p.1, Met.zero, 0) else (Chn.zero, (0, 0), Met.zero, 31)
theorem tailW_eq (vs : List Ver) (o : Bool) (i j : Itn) : (match atC ⟨vs, o, i⟩ j with
    | none => (Chn.zero, (0, 0), Met.zero, 31)
    | some a => if okS a = true then (⟨vs, true, { j with at_ := a }⟩, a, Met.zero, 0) else (Chn.zero, (0, 0), Met.zero, 31)) = tailW vs j (placeR vs o i j.at_) := by
  rw [atC_pre]
  unfold tailW placeR
  cases preP vs j.at_ with
  | none => rfl
  | some b =>
    simp only [Option.map_some]
    unfold finP
    split
    · rfl
    · rfl
theorem writeC_form (vs : List Ver) (o : Bool) (i j : Itn) : writeC ⟨vs, o, i⟩ j =
    if o = true ∧ i.txn.id ≠ j.txn.id then (Chn.zero, (0, 0), i.txn, 81)
    else if (vs.any fun v => decide (v.by_ = j.txn.id)) = true then (Chn.zero, (0, 0), Met.zero, 83)
    else if o = true ∧ j.txn.ep < i.txn.ep then (Chn.zero, (0, 0), Met.zero, 84)
    else if o = true ∧ i.txn.ep = j.txn.ep ∧ j.seq ≤ i.seq then (⟨vs, o, i⟩, i.at_, Met.zero, 0)
    else tailW vs j (placeR vs o i j.at_) := by
  rw [← tailW_eq]
  rfl
theorem placeR_cases (vs : List Ver) (o : Bool) (i : Itn) (a : Stp) : placeR vs o i a = ((0, 0), 31) ∨ ∃ s, placeR vs o i a = (s, 0) := by
  unfold placeR finP
  split
  · exact .inl rfl
  · split
    · exact .inr ⟨_, rfl⟩
    · exact .inl rfl

section
set_option maxRecDepth 100000
set_option maxHeartbeats 20000000

theorem write_any (ao : Option Addr) (c : Nat) (vs : List Ver) (o : Bool) (i j : Itn) (w : World) (hv : Vs w ao c vs) (hlim : vs.length ≤ 2932031007400) :
    Calls Tryz.prog 35 #[(.agg #[.slice ao vs.length c, .bool o, .int .i64 i.txn.id, .int .i64 i.txn.ep, .string i.txn.anchor, .int .i64 i.txn.start.1, .int .i64 i.txn.start.2, .int .i64 i.seq, .int .i64 i.at_.1, .int .i64 i.at_.2, .string i.val, .bool i.gone]), (.agg #[.int .i64 j.txn.id, .int .i64 j.txn.ep, .string j.txn.anchor, .int .i64 j.txn.start.1, .int .i64 j.txn.start.2, .int .i64 j.seq, .int .i64 j.at_.1, .int .i64 j.at_.2, .string j.val, .bool j.gone])] w fun e w' => ∃ bo d, e = .returned (.tuple #[(.agg #[.slice bo (writeC ⟨vs, o, i⟩ j).1.vs.length d, .bool (writeC ⟨vs, o, i⟩ j).1.opn, .int .i64 (writeC ⟨vs, o, i⟩ j).1.itn.txn.id, .int .i64 (writeC ⟨vs, o, i⟩ j).1.itn.txn.ep, .string (writeC ⟨vs, o, i⟩ j).1.itn.txn.anchor, .int .i64 (writeC ⟨vs, o, i⟩ j).1.itn.txn.start.1, .int .i64 (writeC ⟨vs, o, i⟩ j).1.itn.txn.start.2, .int .i64 (writeC ⟨vs, o, i⟩ j).1.itn.seq, .int .i64 (writeC ⟨vs, o, i⟩ j).1.itn.at_.1, .int .i64 (writeC ⟨vs, o, i⟩ j).1.itn.at_.2, .string (writeC ⟨vs, o, i⟩ j).1.itn.val, .bool (writeC ⟨vs, o, i⟩ j).1.itn.gone]), (.agg #[.int .i64 (writeC ⟨vs, o, i⟩ j).2.1.1, .int .i64 (writeC ⟨vs, o, i⟩ j).2.1.2]), (.agg #[.int .i64 (writeC ⟨vs, o, i⟩ j).2.2.1.id, .int .i64 (writeC ⟨vs, o, i⟩ j).2.2.1.ep, .string (writeC ⟨vs, o, i⟩ j).2.2.1.anchor, .int .i64 (writeC ⟨vs, o, i⟩ j).2.2.1.start.1, .int .i64 (writeC ⟨vs, o, i⟩ j).2.2.1.start.2]), .int .i64 (writeC ⟨vs, o, i⟩ j).2.2.2]) ∧ VOwn w.heap.size w' bo d (writeC ⟨vs, o, i⟩ j).1.vs ∧ Below w.heap.size w w' := by
  have hmf : ∀ (fn : Fn) (first cap : Array Value) (w : World), (Instr.makeFunc fn first cap).run Tryz.prog w = .ok (.func fn first cap) w := fun _ _ _ _ => rfl
  obtain ⟨X, hX⟩ : ∃ X, writeC ⟨vs, o, i⟩ j = X := ⟨_, rfl⟩
  rw [hX]
  rw [writeC_form] at hX
  have hP := fun w' (hb : Below w.heap.size w w') => place_any ao c vs o i j.at_ w' (hv.later hb)
  have hCo := fun w' (hb : Below w.heap.size w w') => copied_any ao c vs o i w' (hv.later hb) hlim
  have hCt := fun w' (hb : Below w.heap.size w w') I (hI : Blk w' I [.int .i64 j.txn.id, .int .i64 j.txn.ep, .string j.txn.anchor, .int .i64 j.txn.start.1, .int .i64 j.txn.start.2, .int .i64 j.seq, .int .i64 j.at_.1, .int .i64 j.at_.2, .string j.val, .bool j.gone]) => contains_any I c ao vs j w' hI (hv.later hb)
  have hpc := placeR_cases vs o i j.at_
  generalize placeR vs o i j.at_ = p at *
  generalize (vs.any fun v => decide (v.by_ = j.txn.id)) = z at *
  have hO := fun w => isothers_any ao vs.length c o i j.txn.id w
  obtain ⟨n, hn⟩ : ∃ n, vs.length = n := ⟨_, rfl⟩
  have Hn := hide hn
  simp only [hn] at hP hCo hCt hO ⊢
  have C := ((((Blk.new w #[.slice ao n c, .bool o, .int .i64 i.txn.id, .int .i64 i.txn.ep, .string i.txn.anchor, .int .i64 i.txn.start.1, .int .i64 i.txn.start.2, .int .i64 i.seq, .int .i64 i.at_.1, .int .i64 i.at_.2, .string i.val, .bool i.gone] 61).alloc (.cells #[.int .i64 j.txn.id, .int .i64 j.txn.ep, .string j.txn.anchor, .int .i64 j.txn.start.1, .int .i64 j.txn.start.2, .int .i64 j.seq, .int .i64 j.at_.1, .int .i64 j.at_.2, .string j.val, .bool j.gone] 42)).alloc (.cells #[.slice none 0 0, .bool false, .int .i64 0, .int .i64 0, .string ⟨#[]⟩, .int .i64 0, .int .i64 0, .int .i64 0, .int .i64 0, .int .i64 0, .string ⟨#[]⟩, .bool false] 61)).alloc (.cells #[.int .i64 0, .int .i64 0] 36)).alloc (.cells #[.int .i64 0, .int .i64 0, .string ⟨#[]⟩, .int .i64 0, .int .i64 0] 38)
  have I := (((Blk.new (w.alloc (.cells #[.slice ao n c, .bool o, .int .i64 i.txn.id, .int .i64 i.txn.ep, .string i.txn.anchor, .int .i64 i.txn.start.1, .int .i64 i.txn.start.2, .int .i64 i.seq, .int .i64 i.at_.1, .int .i64 i.at_.2, .string i.val, .bool i.gone] 61)) #[.int .i64 j.txn.id, .int .i64 j.txn.ep, .string j.txn.anchor, .int .i64 j.txn.start.1, .int .i64 j.txn.start.2, .int .i64 j.seq, .int .i64 j.at_.1, .int .i64 j.at_.2, .string j.val, .bool j.gone] 42).alloc (.cells #[.slice none 0 0, .bool false, .int .i64 0, .int .i64 0, .string ⟨#[]⟩, .int .i64 0, .int .i64 0, .int .i64 0, .int .i64 0, .int .i64 0, .string ⟨#[]⟩, .bool false] 61)).alloc (.cells #[.int .i64 0, .int .i64 0] 36)).alloc (.cells #[.int .i64 0, .int .i64 0, .string ⟨#[]⟩, .int .i64 0, .int .i64 0] 38)
  rw [show (w.alloc (.cells #[.slice ao n c, .bool o, .int .i64 i.txn.id, .int .i64 i.txn.ep, .string i.txn.anchor, .int .i64 i.txn.start.1, .int .i64 i.txn.start.2, .int .i64 i.seq, .int .i64 i.at_.1, .int .i64 i.at_.2, .string i.val, .bool i.gone] 61)).heap.size = w.heap.size + 1 by simp] at I
  have R := ((Blk.new ((w.alloc (.cells #[.slice ao n c, .bool o, .int .i64 i.txn.id, .int .i64 i.txn.ep, .string i.txn.anchor, .int .i64 i.txn.start.1, .int .i64 i.txn.start.2, .int .i64 i.seq, .int .i64 i.at_.1, .int .i64 i.at_.2, .string i.val, .bool i.gone] 61)).alloc (.cells #[.int .i64 j.txn.id, .int .i64 j.txn.ep, .string j.txn.anchor, .int .i64 j.txn.start.1, .int .i64 j.txn.start.2, .int .i64 j.seq, .int .i64 j.at_.1, .int .i64 j.at_.2, .string j.val, .bool j.gone] 42)) #[.slice none 0 0, .bool false, .int .i64 0, .int .i64 0, .string ⟨#[]⟩, .int .i64 0, .int .i64 0, .int .i64 0, .int .i64 0, .int .i64 0, .string ⟨#[]⟩, .bool false] 61).alloc (.cells #[.int .i64 0, .int .i64 0] 36)).alloc (.cells #[.int .i64 0, .int .i64 0, .string ⟨#[]⟩, .int .i64 0, .int .i64 0] 38)
  rw [show ((w.alloc (.cells #[.slice ao n c, .bool o, .int .i64 i.txn.id, .int .i64 i.txn.ep, .string i.txn.anchor, .int .i64 i.txn.start.1, .int .i64 i.txn.start.2, .int .i64 i.seq, .int .i64 i.at_.1, .int .i64 i.at_.2, .string i.val, .bool i.gone] 61)).alloc (.cells #[.int .i64 j.txn.id, .int .i64 j.txn.ep, .string j.txn.anchor, .int .i64 j.txn.start.1, .int .i64 j.txn.start.2, .int .i64 j.seq, .int .i64 j.at_.1, .int .i64 j.at_.2, .string j.val, .bool j.gone] 42)).heap.size = w.heap.size + 1 + 1 by simp] at R
  have S := (Blk.new (((w.alloc (.cells #[.slice ao n c, .bool o, .int .i64 i.txn.id, .int .i64 i.txn.ep, .string i.txn.anchor, .int .i64 i.txn.start.1, .int .i64 i.txn.start.2, .int .i64 i.seq, .int .i64 i.at_.1, .int .i64 i.at_.2, .string i.val, .bool i.gone] 61)).alloc (.cells #[.int .i64 j.txn.id, .int .i64 j.txn.ep, .string j.txn.anchor, .int .i64 j.txn.start.1, .int .i64 j.txn.start.2, .int .i64 j.seq, .int .i64 j.at_.1, .int .i64 j.at_.2, .string j.val, .bool j.gone] 42)).alloc (.cells #[.slice none 0 0, .bool false, .int .i64 0, .int .i64 0, .string ⟨#[]⟩, .int .i64 0, .int .i64 0, .int .i64 0, .int .i64 0, .int .i64 0, .string ⟨#[]⟩, .bool false] 61)) #[.int .i64 0, .int .i64 0] 36).alloc (.cells #[.int .i64 0, .int .i64 0, .string ⟨#[]⟩, .int .i64 0, .int .i64 0] 38)
  rw [show (((w.alloc (.cells #[.slice ao n c, .bool o, .int .i64 i.txn.id, .int .i64 i.txn.ep, .string i.txn.anchor, .int .i64 i.txn.start.1, .int .i64 i.txn.start.2, .int .i64 i.seq, .int .i64 i.at_.1, .int .i64 i.at_.2, .string i.val, .bool i.gone] 61)).alloc (.cells #[.int .i64 j.txn.id, .int .i64 j.txn.ep, .string j.txn.anchor, .int .i64 j.txn.start.1, .int .i64 j.txn.start.2, .int .i64 j.seq, .int .i64 j.at_.1, .int .i64 j.at_.2, .string j.val, .bool j.gone] 42)).alloc (.cells #[.slice none 0 0, .bool false, .int .i64 0, .int .i64 0, .string ⟨#[]⟩, .int .i64 0, .int .i64 0, .int .i64 0, .int .i64 0, .int .i64 0, .string ⟨#[]⟩, .bool false] 61)).heap.size = w.heap.size + 1 + 1 + 1 by simp] at S
  have M := Blk.new ((((w.alloc (.cells #[.slice ao n c, .bool o, .int .i64 i.txn.id, .int .i64 i.txn.ep, .string i.txn.anchor, .int .i64 i.txn.start.1, .int .i64 i.txn.start.2, .int .i64 i.seq, .int .i64 i.at_.1, .int .i64 i.at_.2, .string i.val, .bool i.gone] 61)).alloc (.cells #[.int .i64 j.txn.id, .int .i64 j.txn.ep, .string j.txn.anchor, .int .i64 j.txn.start.1, .int .i64 j.txn.start.2, .int .i64 j.seq, .int .i64 j.at_.1, .int .i64 j.at_.2, .string j.val, .bool j.gone] 42)).alloc (.cells #[.slice none 0 0, .bool false, .int .i64 0, .int .i64 0, .string ⟨#[]⟩, .int .i64 0, .int .i64 0, .int .i64 0, .int .i64 0, .int .i64 0, .string ⟨#[]⟩, .bool false] 61)).alloc (.cells #[.int .i64 0, .int .i64 0] 36)) #[.int .i64 0, .int .i64 0, .string ⟨#[]⟩, .int .i64 0, .int .i64 0] 38
  rw [show ((((w.alloc (.cells #[.slice ao n c, .bool o, .int .i64 i.txn.id, .int .i64 i.txn.ep, .string i.txn.anchor, .int .i64 i.txn.start.1, .int .i64 i.txn.start.2, .int .i64 i.seq, .int .i64 i.at_.1, .int .i64 i.at_.2, .string i.val, .bool i.gone] 61)).alloc (.cells #[.int .i64 j.txn.id, .int .i64 j.txn.ep, .string j.txn.anchor, .int .i64 j.txn.start.1, .int .i64 j.txn.start.2, .int .i64 j.seq, .int .i64 j.at_.1, .int .i64 j.at_.2, .string j.val, .bool j.gone] 42)).alloc (.cells #[.slice none 0 0, .bool false, .int .i64 0, .int .i64 0, .string ⟨#[]⟩, .int .i64 0, .int .i64 0, .int .i64 0, .int .i64 0, .int .i64 0, .string ⟨#[]⟩, .bool false] 61)).alloc (.cells #[.int .i64 0, .int .i64 0] 36)).heap.size = w.heap.size + 1 + 1 + 1 + 1 by simp] at M
  have hB : Below w.heap.size w (((((w.alloc (.cells #[.slice ao n c, .bool o, .int .i64 i.txn.id, .int .i64 i.txn.ep, .string i.txn.anchor, .int .i64 i.txn.start.1, .int .i64 i.txn.start.2, .int .i64 i.seq, .int .i64 i.at_.1, .int .i64 i.at_.2, .string i.val, .bool i.gone] 61)).alloc (.cells #[.int .i64 j.txn.id, .int .i64 j.txn.ep, .string j.txn.anchor, .int .i64 j.txn.start.1, .int .i64 j.txn.start.2, .int .i64 j.seq, .int .i64 j.at_.1, .int .i64 j.at_.2, .string j.val, .bool j.gone] 42)).alloc (.cells #[.slice none 0 0, .bool false, .int .i64 0, .int .i64 0, .string ⟨#[]⟩, .int .i64 0, .int .i64 0, .int .i64 0, .int .i64 0, .int .i64 0, .string ⟨#[]⟩, .bool false] 61)).alloc (.cells #[.int .i64 0, .int .i64 0] 36)).alloc (.cells #[.int .i64 0, .int .i64 0, .string ⟨#[]⟩, .int .i64 0, .int .i64 0] 38)) := (((((Below.refl w.heap.size w).alloc (Nat.le_refl _) _).alloc (by simp) _).alloc (by simp; omega) _).alloc (by simp; omega) _).alloc (by simp; omega) _
  clear hv hlim hn
  by_cases h1 : o = true ∧ i.txn.id ≠ j.txn.id
  · rw [if_pos h1] at hX
    subst hX
    obtain ⟨rfl, h1⟩ := h1
    rw [show decide (i.txn.id ≠ j.txn.id) = true by simpa using h1] at hO
    clear hP hCo hCt h1 hpc
    go_enter Tryz.func35, Tryz.ntmps35
    go_wp2_with fail
    generalize ((((w.alloc _).alloc _).alloc _).alloc _).alloc _ = W at *
    refine (hO _).mono ?_
    rintro e w1 ⟨rfl, hb1⟩
    replace C := C.later hb1
    replace I := I.later hb1
    replace R := R.later hb1
    replace S := S.later hb1
    replace M := M.later hb1
    replace hB := hB.trans (hb1.mono hB.size)
    clear hb1 hO
    have C_0 := C.c 0; have C_1 := C.c 1; have C_2 := C.c 2; have C_3 := C.c 3; have C_4 := C.c 4; have C_5 := C.c 5; have C_6 := C.c 6; have C_7 := C.c 7; have C_8 := C.c 8; have C_9 := C.c 9; have C_10 := C.c 10; have C_11 := C.c 11; simp only [List.getElem?_cons_zero, List.getElem?_cons_succ] at C_0 C_1 C_2 C_3 C_4 C_5 C_6 C_7 C_8 C_9 C_10 C_11
    have R_0 := R.c 0; have R_1 := R.c 1; have R_2 := R.c 2; have R_3 := R.c 3; have R_4 := R.c 4; have R_5 := R.c 5; have R_6 := R.c 6; have R_7 := R.c 7; have R_8 := R.c 8; have R_9 := R.c 9; have R_10 := R.c 10; have R_11 := R.c 11; simp only [List.getElem?_cons_zero, List.getElem?_cons_succ] at R_0 R_1 R_2 R_3 R_4 R_5 R_6 R_7 R_8 R_9 R_10 R_11
    have S_0 := S.c 0; have S_1 := S.c 1; simp only [List.getElem?_cons_zero, List.getElem?_cons_succ] at S_0 S_1
    have M_0 := M.c 0; have M_1 := M.c 1; have M_2 := M.c 2; have M_3 := M.c 3; have M_4 := M.c 4; simp only [List.getElem?_cons_zero, List.getElem?_cons_succ] at M_0 M_1 M_2 M_3 M_4
    have Rf := R.f
    have Sf := S.f
    have Mf := M.f
    have HB := hide hB
    clear hB I C
    have HH := hide (And.intro R (And.intro S M))
    clear R S M
    go_wp2_with fail
    go_region
    go_wp2
    obtain ⟨R, S, M⟩ := unhide HH
    obtain ⟨q1, q2, q3⟩ := three R S M (by omega) (by omega) (by omega) [.slice none 0 0, .bool false, .int .i64 Itn.zero.txn.id, .int .i64 Itn.zero.txn.ep, .string Itn.zero.txn.anchor, .int .i64 Itn.zero.txn.start.1, .int .i64 Itn.zero.txn.start.2, .int .i64 Itn.zero.seq, .int .i64 Itn.zero.at_.1, .int .i64 Itn.zero.at_.2, .string Itn.zero.val, .bool Itn.zero.gone] [.int .i64 0, .int .i64 0] [.int .i64 i.txn.id, .int .i64 i.txn.ep, .string i.txn.anchor, .int .i64 i.txn.start.1, .int .i64 i.txn.start.2] rfl rfl rfl
    exact bodyPost_ret (results_cste Tryz.results35 none 0 0 false Itn.zero (0, 0) i.txn rfl rfl rfl rfl q1.drew q2.drew q3.drew) rfl ⟨none, 0, rfl, VOwn.zero _ _, (below_setAll (by omega) [.int .i64 i.txn.id, .int .i64 i.txn.ep, .string i.txn.anchor, .int .i64 i.txn.start.1, .int .i64 i.txn.start.2] 0 (below_setAll (by omega) [.int .i64 0, .int .i64 0] 0 (below_setAll (by omega) [.slice none 0 0, .bool false, .int .i64 Itn.zero.txn.id, .int .i64 Itn.zero.txn.ep, .string Itn.zero.txn.anchor, .int .i64 Itn.zero.txn.start.1, .int .i64 Itn.zero.txn.start.2, .int .i64 Itn.zero.seq, .int .i64 Itn.zero.at_.1, .int .i64 Itn.zero.at_.2, .string Itn.zero.val, .bool Itn.zero.gone] 0 (unhide HB)))).drew⟩
  rw [if_neg h1] at hX
  have hO' : ∀ w, Calls Tryz.prog 67 #[(.agg #[.slice ao n c, .bool o, .int .i64 i.txn.id, .int .i64 i.txn.ep, .string i.txn.anchor, .int .i64 i.txn.start.1, .int .i64 i.txn.start.2, .int .i64 i.seq, .int .i64 i.at_.1, .int .i64 i.at_.2, .string i.val, .bool i.gone]), .int .i64 j.txn.id] w fun e w' => e = .returned (.bool false) ∧ Below w.heap.size w w' := fun w => by
    have h := hO w
    rw [show (o && decide (i.txn.id ≠ j.txn.id)) = false by
      cases o
      · rfl
      · simp only [true_and, Decidable.not_not] at h1
        simp [h1]] at h
    exact h
  clear hO h1
  have HX := hide hX
  clear hX
  go_enter Tryz.func35, Tryz.ntmps35
  go_wp2_with fail
  generalize ((((w.alloc _).alloc _).alloc _).alloc _).alloc _ = W at *
  refine (hO' _).mono ?_
  rintro e w1 ⟨rfl, hb1⟩
  replace C := C.later hb1
  replace I := I.later hb1
  replace R := R.later hb1
  replace S := S.later hb1
  replace M := M.later hb1
  replace hB := hB.trans (hb1.mono hB.size)
  clear hb1 hO'
  have C_0 := C.c 0; have C_1 := C.c 1; have C_2 := C.c 2; have C_3 := C.c 3; have C_4 := C.c 4; have C_5 := C.c 5; have C_6 := C.c 6; have C_7 := C.c 7; have C_8 := C.c 8; have C_9 := C.c 9; have C_10 := C.c 10; have C_11 := C.c 11; simp only [List.getElem?_cons_zero, List.getElem?_cons_succ] at C_0 C_1 C_2 C_3 C_4 C_5 C_6 C_7 C_8 C_9 C_10 C_11
  have I_0 := I.c 0; have I_1 := I.c 1; have I_2 := I.c 2; have I_3 := I.c 3; have I_4 := I.c 4; have I_5 := I.c 5; have I_6 := I.c 6; have I_7 := I.c 7; have I_8 := I.c 8; have I_9 := I.c 9; simp only [List.getElem?_cons_zero, List.getElem?_cons_succ] at I_0 I_1 I_2 I_3 I_4 I_5 I_6 I_7 I_8 I_9
  go_wp2_with fail
  refine (hCt _ hB _ I).mono ?_
  rintro e w2 ⟨rfl, hb2⟩
  clear C_0 C_1 C_2 C_3 C_4 C_5 C_6 C_7 C_8 C_9 C_10 C_11 I_0 I_1 I_2 I_3 I_4 I_5 I_6 I_7 I_8 I_9
  replace C := C.later hb2
  replace I := I.later hb2
  replace R := R.later hb2
  replace S := S.later hb2
  replace M := M.later hb2
  replace hB := hB.trans (hb2.mono hB.size)
  clear hb2 hCt
  cases z
  case true =>
    obtain rfl : X = (Chn.zero, (0, 0), Met.zero, 83) := by rw [← unhide HX, if_pos rfl]
    clear hP hCo hpc I C
    have R_0 := R.c 0; have R_1 := R.c 1; have R_2 := R.c 2; have R_3 := R.c 3; have R_4 := R.c 4; have R_5 := R.c 5; have R_6 := R.c 6; have R_7 := R.c 7; have R_8 := R.c 8; have R_9 := R.c 9; have R_10 := R.c 10; have R_11 := R.c 11; simp only [List.getElem?_cons_zero, List.getElem?_cons_succ] at R_0 R_1 R_2 R_3 R_4 R_5 R_6 R_7 R_8 R_9 R_10 R_11
    have S_0 := S.c 0; have S_1 := S.c 1; simp only [List.getElem?_cons_zero, List.getElem?_cons_succ] at S_0 S_1
    have M_0 := M.c 0; have M_1 := M.c 1; have M_2 := M.c 2; have M_3 := M.c 3; have M_4 := M.c 4; simp only [List.getElem?_cons_zero, List.getElem?_cons_succ] at M_0 M_1 M_2 M_3 M_4
    have Rf := R.f
    have Sf := S.f
    have Mf := M.f
    have HB := hide hB
    clear hB
    go_wp2
    obtain ⟨q1, q2, q3⟩ := three R S M (by omega) (by omega) (by omega) [.slice none 0 0, .bool false, .int .i64 Itn.zero.txn.id, .int .i64 Itn.zero.txn.ep, .string Itn.zero.txn.anchor, .int .i64 Itn.zero.txn.start.1, .int .i64 Itn.zero.txn.start.2, .int .i64 Itn.zero.seq, .int .i64 Itn.zero.at_.1, .int .i64 Itn.zero.at_.2, .string Itn.zero.val, .bool Itn.zero.gone] [.int .i64 0, .int .i64 0] [.int .i64 Met.zero.id, .int .i64 Met.zero.ep, .string Met.zero.anchor, .int .i64 Met.zero.start.1, .int .i64 Met.zero.start.2] rfl rfl rfl
    exact bodyPost_ret (results_cste Tryz.results35 none 0 0 false Itn.zero (0, 0) Met.zero rfl rfl rfl rfl q1 q2 q3) rfl ⟨none, 0, rfl, VOwn.zero _ _, below_setAll (by omega) [.int .i64 Met.zero.id, .int .i64 Met.zero.ep, .string Met.zero.anchor, .int .i64 Met.zero.start.1, .int .i64 Met.zero.start.2] 0 (below_setAll (by omega) [.int .i64 0, .int .i64 0] 0 (below_setAll (by omega) [.slice none 0 0, .bool false, .int .i64 Itn.zero.txn.id, .int .i64 Itn.zero.txn.ep, .string Itn.zero.txn.anchor, .int .i64 Itn.zero.txn.start.1, .int .i64 Itn.zero.txn.start.2, .int .i64 Itn.zero.seq, .int .i64 Itn.zero.at_.1, .int .i64 Itn.zero.at_.2, .string Itn.zero.val, .bool Itn.zero.gone] 0 (unhide HB)))⟩
  case false =>
  have hX := unhide HX
  rw [if_neg (by simp)] at hX
  clear HX
  by_cases h2 : o = true ∧ j.txn.ep < i.txn.ep
  · rw [if_pos h2] at hX
    subst hX
    obtain ⟨rfl, h2⟩ := h2
    clear hP hCo hpc
    have C_0 := C.c 0; have C_1 := C.c 1; have C_2 := C.c 2; have C_3 := C.c 3; have C_4 := C.c 4; have C_5 := C.c 5; have C_6 := C.c 6; have C_7 := C.c 7; have C_8 := C.c 8; have C_9 := C.c 9; have C_10 := C.c 10; have C_11 := C.c 11; simp only [List.getElem?_cons_zero, List.getElem?_cons_succ] at C_0 C_1 C_2 C_3 C_4 C_5 C_6 C_7 C_8 C_9 C_10 C_11
    have I_0 := I.c 0; have I_1 := I.c 1; have I_2 := I.c 2; have I_3 := I.c 3; have I_4 := I.c 4; have I_5 := I.c 5; have I_6 := I.c 6; have I_7 := I.c 7; have I_8 := I.c 8; have I_9 := I.c 9; simp only [List.getElem?_cons_zero, List.getElem?_cons_succ] at I_0 I_1 I_2 I_3 I_4 I_5 I_6 I_7 I_8 I_9
    clear C I
    have R_0 := R.c 0; have R_1 := R.c 1; have R_2 := R.c 2; have R_3 := R.c 3; have R_4 := R.c 4; have R_5 := R.c 5; have R_6 := R.c 6; have R_7 := R.c 7; have R_8 := R.c 8; have R_9 := R.c 9; have R_10 := R.c 10; have R_11 := R.c 11; simp only [List.getElem?_cons_zero, List.getElem?_cons_succ] at R_0 R_1 R_2 R_3 R_4 R_5 R_6 R_7 R_8 R_9 R_10 R_11
    have S_0 := S.c 0; have S_1 := S.c 1; simp only [List.getElem?_cons_zero, List.getElem?_cons_succ] at S_0 S_1
    have M_0 := M.c 0; have M_1 := M.c 1; have M_2 := M.c 2; have M_3 := M.c 3; have M_4 := M.c 4; simp only [List.getElem?_cons_zero, List.getElem?_cons_succ] at M_0 M_1 M_2 M_3 M_4
    have Rf := R.f
    have Sf := S.f
    have Mf := M.f
    have HB := hide hB
    clear hB
    go_wp2
    obtain ⟨q1, q2, q3⟩ := three R S M (by omega) (by omega) (by omega) [.slice none 0 0, .bool false, .int .i64 Itn.zero.txn.id, .int .i64 Itn.zero.txn.ep, .string Itn.zero.txn.anchor, .int .i64 Itn.zero.txn.start.1, .int .i64 Itn.zero.txn.start.2, .int .i64 Itn.zero.seq, .int .i64 Itn.zero.at_.1, .int .i64 Itn.zero.at_.2, .string Itn.zero.val, .bool Itn.zero.gone] [.int .i64 0, .int .i64 0] [.int .i64 Met.zero.id, .int .i64 Met.zero.ep, .string Met.zero.anchor, .int .i64 Met.zero.start.1, .int .i64 Met.zero.start.2] rfl rfl rfl
    exact bodyPost_ret (results_cste Tryz.results35 none 0 0 false Itn.zero (0, 0) Met.zero rfl rfl rfl rfl q1 q2 q3) rfl ⟨none, 0, rfl, VOwn.zero _ _, below_setAll (by omega) [.int .i64 Met.zero.id, .int .i64 Met.zero.ep, .string Met.zero.anchor, .int .i64 Met.zero.start.1, .int .i64 Met.zero.start.2] 0 (below_setAll (by omega) [.int .i64 0, .int .i64 0] 0 (below_setAll (by omega) [.slice none 0 0, .bool false, .int .i64 Itn.zero.txn.id, .int .i64 Itn.zero.txn.ep, .string Itn.zero.txn.anchor, .int .i64 Itn.zero.txn.start.1, .int .i64 Itn.zero.txn.start.2, .int .i64 Itn.zero.seq, .int .i64 Itn.zero.at_.1, .int .i64 Itn.zero.at_.2, .string Itn.zero.val, .bool Itn.zero.gone] 0 (unhide HB)))⟩
  rw [if_neg h2] at hX
  by_cases h3 : o = true ∧ i.txn.ep = j.txn.ep ∧ j.seq ≤ i.seq
  · rw [if_pos h3] at hX
    subst hX
    obtain ⟨rfl, h3, h4⟩ := h3
    have h2' : ¬ j.txn.ep < i.txn.ep := fun e => h2 ⟨rfl, e⟩
    have h3' : (i.txn.ep == j.txn.ep) = true := by simpa using h3
    clear hP hpc h2 h3
    have C_0 := C.c 0; have C_1 := C.c 1; have C_2 := C.c 2; have C_3 := C.c 3; have C_4 := C.c 4; have C_5 := C.c 5; have C_6 := C.c 6; have C_7 := C.c 7; have C_8 := C.c 8; have C_9 := C.c 9; have C_10 := C.c 10; have C_11 := C.c 11; simp only [List.getElem?_cons_zero, List.getElem?_cons_succ] at C_0 C_1 C_2 C_3 C_4 C_5 C_6 C_7 C_8 C_9 C_10 C_11
    have I_0 := I.c 0; have I_1 := I.c 1; have I_2 := I.c 2; have I_3 := I.c 3; have I_4 := I.c 4; have I_5 := I.c 5; have I_6 := I.c 6; have I_7 := I.c 7; have I_8 := I.c 8; have I_9 := I.c 9; simp only [List.getElem?_cons_zero, List.getElem?_cons_succ] at I_0 I_1 I_2 I_3 I_4 I_5 I_6 I_7 I_8 I_9
    have R_0 := R.c 0; have R_1 := R.c 1; have R_2 := R.c 2; have R_3 := R.c 3; have R_4 := R.c 4; have R_5 := R.c 5; have R_6 := R.c 6; have R_7 := R.c 7; have R_8 := R.c 8; have R_9 := R.c 9; have R_10 := R.c 10; have R_11 := R.c 11; simp only [List.getElem?_cons_zero, List.getElem?_cons_succ] at R_0 R_1 R_2 R_3 R_4 R_5 R_6 R_7 R_8 R_9 R_10 R_11
    have S_0 := S.c 0; have S_1 := S.c 1; simp only [List.getElem?_cons_zero, List.getElem?_cons_succ] at S_0 S_1
    have M_0 := M.c 0; have M_1 := M.c 1; have M_2 := M.c 2; have M_3 := M.c 3; have M_4 := M.c 4; simp only [List.getElem?_cons_zero, List.getElem?_cons_succ] at M_0 M_1 M_2 M_3 M_4
    have Rf := R.f
    have Sf := S.f
    have Mf := M.f
    go_wp2_with fail
    have hltR := R.lt
    have hltS := S.lt
    have hltM := M.lt
    go_region_with (go_at_call 70; refine (hCo _ hB.drew).mono ?_; rintro e w4 ⟨bo, d, rfl, ho, hb4⟩; have HB4 := hide (hB.drew.trans (hb4.mono hB.size)); have HO := hide ho; have C4 := C.drew.later hb4; have R4 := R.drew.later hb4; have S4 := S.drew.later hb4; have M4 := M.drew.later hb4; have HH := hide (And.intro R4 (And.intro S4 M4)); have C4_8 := C4.c 8; have C4_9 := C4.c 9; simp only [List.getElem?_cons_zero, List.getElem?_cons_succ] at C4_8 C4_9; have R4_0 := R4.c 0; have R4_1 := R4.c 1; have R4_2 := R4.c 2; have R4_3 := R4.c 3; have R4_4 := R4.c 4; have R4_5 := R4.c 5; have R4_6 := R4.c 6; have R4_7 := R4.c 7; have R4_8 := R4.c 8; have R4_9 := R4.c 9; have R4_10 := R4.c 10; have R4_11 := R4.c 11; simp only [List.getElem?_cons_zero, List.getElem?_cons_succ] at R4_0 R4_1 R4_2 R4_3 R4_4 R4_5 R4_6 R4_7 R4_8 R4_9 R4_10 R4_11; have S4_0 := S4.c 0; have S4_1 := S4.c 1; simp only [List.getElem?_cons_zero, List.getElem?_cons_succ] at S4_0 S4_1; have M4_0 := M4.c 0; have M4_1 := M4.c 1; have M4_2 := M4.c 2; have M4_3 := M4.c 3; have M4_4 := M4.c 4; simp only [List.getElem?_cons_zero, List.getElem?_cons_succ] at M4_0 M4_1 M4_2 M4_3 M4_4; have R4f := R4.f; have S4f := S4.f; have M4f := M4.f; clear ho hb4 C4 R4 S4 M4)
    all_goals
      go_wp2
      obtain ⟨R4, S4, M4⟩ := unhide HH
      obtain ⟨q1, q2, q3⟩ := three R4 S4 M4 (by omega) (by omega) (by omega) [.slice bo n d, .bool true, .int .i64 i.txn.id, .int .i64 i.txn.ep, .string i.txn.anchor, .int .i64 i.txn.start.1, .int .i64 i.txn.start.2, .int .i64 i.seq, .int .i64 i.at_.1, .int .i64 i.at_.2, .string i.val, .bool i.gone] [.int .i64 i.at_.1, .int .i64 i.at_.2] [.int .i64 Met.zero.id, .int .i64 Met.zero.ep, .string Met.zero.anchor, .int .i64 Met.zero.start.1, .int .i64 Met.zero.start.2] rfl rfl rfl
      refine bodyPost_ret (results_cste Tryz.results35 bo n d true i i.at_ Met.zero rfl rfl rfl rfl q1 q2 q3) rfl ⟨bo, d, ?_, ?_, below_setAll (by omega) [.int .i64 Met.zero.id, .int .i64 Met.zero.ep, .string Met.zero.anchor, .int .i64 Met.zero.start.1, .int .i64 Met.zero.start.2] 0 (below_setAll (by omega) [.int .i64 i.at_.1, .int .i64 i.at_.2] 0 (below_setAll (by omega) [.slice bo n d, .bool true, .int .i64 i.txn.id, .int .i64 i.txn.ep, .string i.txn.anchor, .int .i64 i.txn.start.1, .int .i64 i.txn.start.2, .int .i64 i.seq, .int .i64 i.at_.1, .int .i64 i.at_.2, .string i.val, .bool i.gone] 0 (unhide HB4)))⟩
      · show _ = Ending.returned (.tuple #[(.agg #[.slice bo vs.length d, .bool true, .int .i64 i.txn.id, .int .i64 i.txn.ep, .string i.txn.anchor, .int .i64 i.txn.start.1, .int .i64 i.txn.start.2, .int .i64 i.seq, .int .i64 i.at_.1, .int .i64 i.at_.2, .string i.val, .bool i.gone]), (.agg #[.int .i64 i.at_.1, .int .i64 i.at_.2]), (.agg #[.int .i64 Met.zero.id, .int .i64 Met.zero.ep, .string Met.zero.anchor, .int .i64 Met.zero.start.1, .int .i64 Met.zero.start.2]), .int .i64 0])
        rw [unhide Hn]
        rfl
      · have := VOwn.others hltM [.int .i64 Met.zero.id, .int .i64 Met.zero.ep, .string Met.zero.anchor, .int .i64 Met.zero.start.1, .int .i64 Met.zero.start.2] 0 (VOwn.others hltS [.int .i64 i.at_.1, .int .i64 i.at_.2] 0 (VOwn.others hltR [.slice bo n d, .bool true, .int .i64 i.txn.id, .int .i64 i.txn.ep, .string i.txn.anchor, .int .i64 i.txn.start.1, .int .i64 i.txn.start.2, .int .i64 i.seq, .int .i64 i.at_.1, .int .i64 i.at_.2, .string i.val, .bool i.gone] 0 (unhide HO)))
        exact this.mono (by omega)
  rw [if_neg h3] at hX
  have hcs : o = false ∨ (o = true ∧ ¬ j.txn.ep < i.txn.ep ∧ (i.txn.ep == j.txn.ep) = false) ∨ (o = true ∧ ¬ j.txn.ep < i.txn.ep ∧ (i.txn.ep == j.txn.ep) = true ∧ ¬ j.seq ≤ i.seq) := by
    cases o
    · exact .inl rfl
    · have a1 : ¬ j.txn.ep < i.txn.ep := fun e => h2 ⟨rfl, e⟩
      by_cases a2 : i.txn.ep = j.txn.ep
      · exact .inr (.inr ⟨rfl, a1, by simpa using a2, fun e => h3 ⟨rfl, a2, e⟩⟩)
      · exact .inr (.inl ⟨rfl, a1, by simpa using a2⟩)
  have HX := hide hX
  clear h2 h3 hX
  rcases hcs with rfl | ⟨rfl, h1, h2⟩ | ⟨rfl, h1, h2, h3⟩
  · have C_0 := C.c 0; have C_1 := C.c 1; have C_2 := C.c 2; have C_3 := C.c 3; have C_4 := C.c 4; have C_5 := C.c 5; have C_6 := C.c 6; have C_7 := C.c 7; have C_8 := C.c 8; have C_9 := C.c 9; have C_10 := C.c 10; have C_11 := C.c 11; simp only [List.getElem?_cons_zero, List.getElem?_cons_succ] at C_0 C_1 C_2 C_3 C_4 C_5 C_6 C_7 C_8 C_9 C_10 C_11
    have I_0 := I.c 0; have I_1 := I.c 1; have I_2 := I.c 2; have I_3 := I.c 3; have I_4 := I.c 4; have I_5 := I.c 5; have I_6 := I.c 6; have I_7 := I.c 7; have I_8 := I.c 8; have I_9 := I.c 9; simp only [List.getElem?_cons_zero, List.getElem?_cons_succ] at I_0 I_1 I_2 I_3 I_4 I_5 I_6 I_7 I_8 I_9
    go_wp2_with fail
    refine (hP _ hB).mono ?_
    rintro e w3 ⟨rfl, hb3⟩
    clear C_0 C_1 C_2 C_3 C_4 C_5 C_6 C_7 C_8 C_9 C_10 C_11 I_0 I_1 I_2 I_3 I_4 I_5 I_6 I_7 I_8 I_9
    replace C := C.later hb3
    replace I := I.later hb3
    replace R := R.later hb3
    replace S := S.later hb3
    replace M := M.later hb3
    replace hB := hB.trans (hb3.mono hB.size)
    clear hb3 hP
    rcases hpc with rfl | ⟨s, rfl⟩
    · obtain rfl : X = (Chn.zero, (0, 0), Met.zero, 31) := (unhide HX).symm
      clear hCo C I
      replace R := R.alloc (.cells #[.int .i64 0, .int .i64 0] 36)
      replace S := S.alloc (.cells #[.int .i64 0, .int .i64 0] 36)
      replace M := M.alloc (.cells #[.int .i64 0, .int .i64 0] 36)
      replace hB := hB.alloc hB.size (.cells #[.int .i64 0, .int .i64 0] 36)
      have R_0 := R.c 0; have R_1 := R.c 1; have R_2 := R.c 2; have R_3 := R.c 3; have R_4 := R.c 4; have R_5 := R.c 5; have R_6 := R.c 6; have R_7 := R.c 7; have R_8 := R.c 8; have R_9 := R.c 9; have R_10 := R.c 10; have R_11 := R.c 11; simp only [List.getElem?_cons_zero, List.getElem?_cons_succ] at R_0 R_1 R_2 R_3 R_4 R_5 R_6 R_7 R_8 R_9 R_10 R_11
      have S_0 := S.c 0; have S_1 := S.c 1; simp only [List.getElem?_cons_zero, List.getElem?_cons_succ] at S_0 S_1
      have M_0 := M.c 0; have M_1 := M.c 1; have M_2 := M.c 2; have M_3 := M.c 3; have M_4 := M.c 4; simp only [List.getElem?_cons_zero, List.getElem?_cons_succ] at M_0 M_1 M_2 M_3 M_4
      have Rf := R.f
      have Sf := S.f
      have Mf := M.f
      have HB := hide hB
      clear hB
      go_wp2
      obtain ⟨q1, q2, q3⟩ := three R S M (by omega) (by omega) (by omega) [.slice none 0 0, .bool false, .int .i64 Itn.zero.txn.id, .int .i64 Itn.zero.txn.ep, .string Itn.zero.txn.anchor, .int .i64 Itn.zero.txn.start.1, .int .i64 Itn.zero.txn.start.2, .int .i64 Itn.zero.seq, .int .i64 Itn.zero.at_.1, .int .i64 Itn.zero.at_.2, .string Itn.zero.val, .bool Itn.zero.gone] [.int .i64 0, .int .i64 0] [.int .i64 Met.zero.id, .int .i64 Met.zero.ep, .string Met.zero.anchor, .int .i64 Met.zero.start.1, .int .i64 Met.zero.start.2] rfl rfl rfl
      exact bodyPost_ret (results_cste Tryz.results35 none 0 0 false Itn.zero (0, 0) Met.zero rfl rfl rfl rfl q1 q2 q3) rfl ⟨none, 0, rfl, VOwn.zero _ _, below_setAll (by omega) [.int .i64 Met.zero.id, .int .i64 Met.zero.ep, .string Met.zero.anchor, .int .i64 Met.zero.start.1, .int .i64 Met.zero.start.2] 0 (below_setAll (by omega) [.int .i64 0, .int .i64 0] 0 (below_setAll (by omega) [.slice none 0 0, .bool false, .int .i64 Itn.zero.txn.id, .int .i64 Itn.zero.txn.ep, .string Itn.zero.txn.anchor, .int .i64 Itn.zero.txn.start.1, .int .i64 Itn.zero.txn.start.2, .int .i64 Itn.zero.seq, .int .i64 Itn.zero.at_.1, .int .i64 Itn.zero.at_.2, .string Itn.zero.val, .bool Itn.zero.gone] 0 (unhide HB)))⟩
    · have N := Blk.new w3 #[.int .i64 s.1, .int .i64 s.2] 36
      have hNC : w3.heap.size ≠ w.heap.size := (Nat.ne_of_lt C.lt).symm
      have hNI : w3.heap.size ≠ w.heap.size + 1 := (Nat.ne_of_lt I.lt).symm
      have hNR : w3.heap.size ≠ w.heap.size + 1 + 1 := (Nat.ne_of_lt R.lt).symm
      have hNS : w3.heap.size ≠ w.heap.size + 1 + 1 + 1 := (Nat.ne_of_lt S.lt).symm
      have hNM : w3.heap.size ≠ w.heap.size + 1 + 1 + 1 + 1 := (Nat.ne_of_lt M.lt).symm
      replace C := C.alloc (.cells #[.int .i64 s.1, .int .i64 s.2] 36)
      replace I := I.alloc (.cells #[.int .i64 s.1, .int .i64 s.2] 36)
      replace R := R.alloc (.cells #[.int .i64 s.1, .int .i64 s.2] 36)
      replace S := S.alloc (.cells #[.int .i64 s.1, .int .i64 s.2] 36)
      replace M := M.alloc (.cells #[.int .i64 s.1, .int .i64 s.2] 36)
      replace hB := hB.alloc hB.size (.cells #[.int .i64 s.1, .int .i64 s.2] 36)
      obtain ⟨jj, hjj⟩ : ∃ jj : Itn, jj = { j with at_ := s } := ⟨_, rfl⟩
      have hX2 : X = (⟨vs, true, jj⟩, s, Met.zero, 0) := by rw [← unhide HX, hjj]; rfl
      clear HX
      subst hX2
      have I2 : Blk (((w3.alloc (.cells #[.int .i64 s.1, .int .i64 s.2] 36)).setCell ⟨w.heap.size + 1, 6, none⟩ (.int .i64 s.1)).setCell ⟨w.heap.size + 1, 7, none⟩ (.int .i64 s.2)) (w.heap.size + 1) [.int .i64 jj.txn.id, .int .i64 jj.txn.ep, .string jj.txn.anchor, .int .i64 jj.txn.start.1, .int .i64 jj.txn.start.2, .int .i64 jj.seq, .int .i64 jj.at_.1, .int .i64 jj.at_.2, .string jj.val, .bool jj.gone] := by
        rw [hjj]
        exact (I.set 6 (by simp) _).set 7 (by simp) _
      have Hjj := hide hjj
      have C2 := (C.other (q := ⟨w.heap.size + 1, 6, none⟩) (by simp) (.int .i64 s.1)).other (q := ⟨w.heap.size + 1, 7, none⟩) (by simp) (.int .i64 s.2)
      have R2 := (R.other (q := ⟨w.heap.size + 1, 6, none⟩) (by simp) (.int .i64 s.1)).other (q := ⟨w.heap.size + 1, 7, none⟩) (by simp) (.int .i64 s.2)
      have S2 := (S.other (q := ⟨w.heap.size + 1, 6, none⟩) (by simp) (.int .i64 s.1)).other (q := ⟨w.heap.size + 1, 7, none⟩) (by simp) (.int .i64 s.2)
      have M2 := (M.other (q := ⟨w.heap.size + 1, 6, none⟩) (by simp) (.int .i64 s.1)).other (q := ⟨w.heap.size + 1, 7, none⟩) (by simp) (.int .i64 s.2)
      have N2 := (N.other (q := ⟨w.heap.size + 1, 6, none⟩) hNI.symm (.int .i64 s.1)).other (q := ⟨w.heap.size + 1, 7, none⟩) hNI.symm (.int .i64 s.2)
      have hB2 := (hB.setCell (p := ⟨w.heap.size + 1, 6, none⟩) (by simp) (.int .i64 s.1)).setCell (p := ⟨w.heap.size + 1, 7, none⟩) (by simp) (.int .i64 s.2)
      have I_0 := I.c 0; have I_1 := I.c 1; have I_2 := I.c 2; have I_3 := I.c 3; have I_4 := I.c 4; have I_5 := I.c 5; have I_6 := I.c 6; have I_7 := I.c 7; have I_8 := I.c 8; have I_9 := I.c 9; simp only [List.getElem?_cons_zero, List.getElem?_cons_succ] at I_0 I_1 I_2 I_3 I_4 I_5 I_6 I_7 I_8 I_9
      have If := I.f
      have C2_0 := C2.c
      clear hjj C R S M N hB
      have C2_0 := C2.c 0; have C2_1 := C2.c 1; have C2_2 := C2.c 2; have C2_3 := C2.c 3; have C2_4 := C2.c 4; have C2_5 := C2.c 5; have C2_6 := C2.c 6; have C2_7 := C2.c 7; have C2_8 := C2.c 8; have C2_9 := C2.c 9; have C2_10 := C2.c 10; have C2_11 := C2.c 11; simp only [List.getElem?_cons_zero, List.getElem?_cons_succ] at C2_0 C2_1 C2_2 C2_3 C2_4 C2_5 C2_6 C2_7 C2_8 C2_9 C2_10 C2_11
      go_wp2_with fail
      clear C2_0 C2_1 C2_2 C2_3 C2_4 C2_5 C2_6 C2_7 C2_8 C2_9 C2_10 C2_11 I_0 I_1 I_2 I_3 I_4 I_5 I_6 I_7 I_8 I_9
      clear If C2_0 I
      generalize ((w3.alloc _).setCell _ _).setCell _ _ = W3 at *
      have hltC := C2.lt
      have hltR := R2.lt
      have hltS := S2.lt
      have hltM := M2.lt
      refine (hCo _ hB2).mono ?_
      rintro e w4 ⟨bo, d, rfl, ho, hb4⟩
      replace C2 := C2.later hb4
      replace I2 := I2.later hb4
      replace R2 := R2.later hb4
      replace S2 := S2.later hb4
      replace M2 := M2.later hb4
      replace N2 := N2.later hb4
      replace hB2 := hB2.trans (hb4.mono hB2.size)
      clear hb4 hCo
      have C2_0 := C2.c 0; have C2_1 := C2.c 1; have C2_2 := C2.c 2; have C2_3 := C2.c 3; have C2_4 := C2.c 4; have C2_5 := C2.c 5; have C2_6 := C2.c 6; have C2_7 := C2.c 7; have C2_8 := C2.c 8; have C2_9 := C2.c 9; have C2_10 := C2.c 10; have C2_11 := C2.c 11; simp only [List.getElem?_cons_zero, List.getElem?_cons_succ] at C2_0 C2_1 C2_2 C2_3 C2_4 C2_5 C2_6 C2_7 C2_8 C2_9 C2_10 C2_11
      have C2f := C2.f
      have C3 := C2.all [.slice bo n d, .bool false, .int .i64 i.txn.id, .int .i64 i.txn.ep, .string i.txn.anchor, .int .i64 i.txn.start.1, .int .i64 i.txn.start.2, .int .i64 i.seq, .int .i64 i.at_.1, .int .i64 i.at_.2, .string i.val, .bool i.gone] rfl
      have I3 := Blk.others (C := w.heap.size) (by omega) [.slice bo n d, .bool false, .int .i64 i.txn.id, .int .i64 i.txn.ep, .string i.txn.anchor, .int .i64 i.txn.start.1, .int .i64 i.txn.start.2, .int .i64 i.seq, .int .i64 i.at_.1, .int .i64 i.at_.2, .string i.val, .bool i.gone] 0 I2
      have R3 := Blk.others (C := w.heap.size) (by omega) [.slice bo n d, .bool false, .int .i64 i.txn.id, .int .i64 i.txn.ep, .string i.txn.anchor, .int .i64 i.txn.start.1, .int .i64 i.txn.start.2, .int .i64 i.seq, .int .i64 i.at_.1, .int .i64 i.at_.2, .string i.val, .bool i.gone] 0 R2
      have S3 := Blk.others (C := w.heap.size) (by omega) [.slice bo n d, .bool false, .int .i64 i.txn.id, .int .i64 i.txn.ep, .string i.txn.anchor, .int .i64 i.txn.start.1, .int .i64 i.txn.start.2, .int .i64 i.seq, .int .i64 i.at_.1, .int .i64 i.at_.2, .string i.val, .bool i.gone] 0 S2
      have M3 := Blk.others (C := w.heap.size) (by omega) [.slice bo n d, .bool false, .int .i64 i.txn.id, .int .i64 i.txn.ep, .string i.txn.anchor, .int .i64 i.txn.start.1, .int .i64 i.txn.start.2, .int .i64 i.seq, .int .i64 i.at_.1, .int .i64 i.at_.2, .string i.val, .bool i.gone] 0 M2
      have N3 := Blk.others (C := w.heap.size) hNC [.slice bo n d, .bool false, .int .i64 i.txn.id, .int .i64 i.txn.ep, .string i.txn.anchor, .int .i64 i.txn.start.1, .int .i64 i.txn.start.2, .int .i64 i.seq, .int .i64 i.at_.1, .int .i64 i.at_.2, .string i.val, .bool i.gone] 0 N2
      have ho3 := VOwn.others (C := w.heap.size) hltC [.slice bo n d, .bool false, .int .i64 i.txn.id, .int .i64 i.txn.ep, .string i.txn.anchor, .int .i64 i.txn.start.1, .int .i64 i.txn.start.2, .int .i64 i.seq, .int .i64 i.at_.1, .int .i64 i.at_.2, .string i.val, .bool i.gone] 0 ho
      have hB3 := below_setAll (C := w.heap.size) (Nat.le_refl _) [.slice bo n d, .bool false, .int .i64 i.txn.id, .int .i64 i.txn.ep, .string i.txn.anchor, .int .i64 i.txn.start.1, .int .i64 i.txn.start.2, .int .i64 i.seq, .int .i64 i.at_.1, .int .i64 i.at_.2, .string i.val, .bool i.gone] 0 hB2
      have Hw := hide (And.intro C3 (And.intro I3 (And.intro R3 (And.intro S3 (And.intro M3 (And.intro N3 (And.intro ho3 hB3)))))))
      clear C3 I3 R3 S3 M3 N3 ho3 hB3 ho C2 I2 R2 S2 M2 N2 hB2
      go_wp2_with fail
      clear C2_0 C2_1 C2_2 C2_3 C2_4 C2_5 C2_6 C2_7 C2_8 C2_9 C2_10 C2_11
      clear C2f
      generalize hW4 : setAll w4 w.heap.size 0 [.slice bo n d, .bool false, .int .i64 i.txn.id, .int .i64 i.txn.ep, .string i.txn.anchor, .int .i64 i.txn.start.1, .int .i64 i.txn.start.2, .int .i64 i.seq, .int .i64 i.at_.1, .int .i64 i.at_.2, .string i.val, .bool i.gone] = W4 at Hw
      simp only [setAll, Nat.zero_add, Nat.reduceAdd] at hW4
      rw [hW4]
      clear hW4
      obtain ⟨C3, I3, R3, S3, M3, N3, ho3, hB3⟩ := unhide Hw
      clear Hw
      have C3_0 := C3.c 0; have C3_1 := C3.c 1; have C3_2 := C3.c 2; have C3_3 := C3.c 3; have C3_4 := C3.c 4; have C3_5 := C3.c 5; have C3_6 := C3.c 6; have C3_7 := C3.c 7; have C3_8 := C3.c 8; have C3_9 := C3.c 9; have C3_10 := C3.c 10; have C3_11 := C3.c 11; simp only [List.getElem?_cons_zero, List.getElem?_cons_succ] at C3_0 C3_1 C3_2 C3_3 C3_4 C3_5 C3_6 C3_7 C3_8 C3_9 C3_10 C3_11
      have I3_0 := I3.c 0; have I3_1 := I3.c 1; have I3_2 := I3.c 2; have I3_3 := I3.c 3; have I3_4 := I3.c 4; have I3_5 := I3.c 5; have I3_6 := I3.c 6; have I3_7 := I3.c 7; have I3_8 := I3.c 8; have I3_9 := I3.c 9; simp only [List.getElem?_cons_zero, List.getElem?_cons_succ] at I3_0 I3_1 I3_2 I3_3 I3_4 I3_5 I3_6 I3_7 I3_8 I3_9
      have C3f := C3.f
      go_region
      have C4 := (Blk.setAll_at (.bool true :: [.int .i64 jj.txn.id, .int .i64 jj.txn.ep, .string jj.txn.anchor, .int .i64 jj.txn.start.1, .int .i64 jj.txn.start.2, .int .i64 jj.seq, .int .i64 jj.at_.1, .int .i64 jj.at_.2, .string jj.val, .bool jj.gone]) W4 [.slice bo n d] [.bool false, .int .i64 i.txn.id, .int .i64 i.txn.ep, .string i.txn.anchor, .int .i64 i.txn.start.1, .int .i64 i.txn.start.2, .int .i64 i.seq, .int .i64 i.at_.1, .int .i64 i.at_.2, .string i.val, .bool i.gone] 1 C3 rfl rfl).drew
      have R4 := (Blk.others (C := w.heap.size) (by omega) (.bool true :: [.int .i64 jj.txn.id, .int .i64 jj.txn.ep, .string jj.txn.anchor, .int .i64 jj.txn.start.1, .int .i64 jj.txn.start.2, .int .i64 jj.seq, .int .i64 jj.at_.1, .int .i64 jj.at_.2, .string jj.val, .bool jj.gone]) 1 R3).drew
      have S4 := (Blk.others (C := w.heap.size) (by omega) (.bool true :: [.int .i64 jj.txn.id, .int .i64 jj.txn.ep, .string jj.txn.anchor, .int .i64 jj.txn.start.1, .int .i64 jj.txn.start.2, .int .i64 jj.seq, .int .i64 jj.at_.1, .int .i64 jj.at_.2, .string jj.val, .bool jj.gone]) 1 S3).drew
      have M4 := (Blk.others (C := w.heap.size) (by omega) (.bool true :: [.int .i64 jj.txn.id, .int .i64 jj.txn.ep, .string jj.txn.anchor, .int .i64 jj.txn.start.1, .int .i64 jj.txn.start.2, .int .i64 jj.seq, .int .i64 jj.at_.1, .int .i64 jj.at_.2, .string jj.val, .bool jj.gone]) 1 M3).drew
      have N4 := (Blk.others (C := w.heap.size) hNC (.bool true :: [.int .i64 jj.txn.id, .int .i64 jj.txn.ep, .string jj.txn.anchor, .int .i64 jj.txn.start.1, .int .i64 jj.txn.start.2, .int .i64 jj.seq, .int .i64 jj.at_.1, .int .i64 jj.at_.2, .string jj.val, .bool jj.gone]) 1 N3).drew
      have ho4 := (VOwn.others (C := w.heap.size) hltC (.bool true :: [.int .i64 jj.txn.id, .int .i64 jj.txn.ep, .string jj.txn.anchor, .int .i64 jj.txn.start.1, .int .i64 jj.txn.start.2, .int .i64 jj.seq, .int .i64 jj.at_.1, .int .i64 jj.at_.2, .string jj.val, .bool jj.gone]) 1 ho3).drew
      have hB4 := (below_setAll (C := w.heap.size) (Nat.le_refl _) (.bool true :: [.int .i64 jj.txn.id, .int .i64 jj.txn.ep, .string jj.txn.anchor, .int .i64 jj.txn.start.1, .int .i64 jj.txn.start.2, .int .i64 jj.seq, .int .i64 jj.at_.1, .int .i64 jj.at_.2, .string jj.val, .bool jj.gone]) 1 hB3).drew
      simp only [List.cons_append, List.nil_append] at C4
      have Hw := hide (And.intro C4 (And.intro R4 (And.intro S4 (And.intro M4 (And.intro N4 (And.intro ho4 hB4))))))
      clear C3_0 C3_1 C3_2 C3_3 C3_4 C3_5 C3_6 C3_7 C3_8 C3_9 C3_10 C3_11 I3_0 I3_1 I3_2 I3_3 I3_4 I3_5 I3_6 I3_7 I3_8 I3_9
      clear C3 I3 R3 S3 M3 N3 ho3 hB3 C3f C4 R4 S4 M4 N4 ho4 hB4
      go_wp2_with fail
      generalize hW5 : (setAll W4 w.heap.size 1 (.bool true :: [.int .i64 jj.txn.id, .int .i64 jj.txn.ep, .string jj.txn.anchor, .int .i64 jj.txn.start.1, .int .i64 jj.txn.start.2, .int .i64 jj.seq, .int .i64 jj.at_.1, .int .i64 jj.at_.2, .string jj.val, .bool jj.gone])).drew = W5 at Hw
      simp only [setAll, Nat.reduceAdd] at hW5
      rw [hW5]
      clear hW5
      obtain ⟨C4, R4, S4, M4, N4, ho4, hB4⟩ := unhide Hw
      clear Hw
      have C4_0 := C4.c 0; have C4_1 := C4.c 1; have C4_2 := C4.c 2; have C4_3 := C4.c 3; have C4_4 := C4.c 4; have C4_5 := C4.c 5; have C4_6 := C4.c 6; have C4_7 := C4.c 7; have C4_8 := C4.c 8; have C4_9 := C4.c 9; have C4_10 := C4.c 10; have C4_11 := C4.c 11; simp only [List.getElem?_cons_zero, List.getElem?_cons_succ] at C4_0 C4_1 C4_2 C4_3 C4_4 C4_5 C4_6 C4_7 C4_8 C4_9 C4_10 C4_11
      have N4_0 := N4.c 0; have N4_1 := N4.c 1; simp only [List.getElem?_cons_zero, List.getElem?_cons_succ] at N4_0 N4_1
      have R4_0 := R4.c 0; have R4_1 := R4.c 1; have R4_2 := R4.c 2; have R4_3 := R4.c 3; have R4_4 := R4.c 4; have R4_5 := R4.c 5; have R4_6 := R4.c 6; have R4_7 := R4.c 7; have R4_8 := R4.c 8; have R4_9 := R4.c 9; have R4_10 := R4.c 10; have R4_11 := R4.c 11; simp only [List.getElem?_cons_zero, List.getElem?_cons_succ] at R4_0 R4_1 R4_2 R4_3 R4_4 R4_5 R4_6 R4_7 R4_8 R4_9 R4_10 R4_11
      have S4_0 := S4.c 0; have S4_1 := S4.c 1; simp only [List.getElem?_cons_zero, List.getElem?_cons_succ] at S4_0 S4_1
      have M4_0 := M4.c 0; have M4_1 := M4.c 1; have M4_2 := M4.c 2; have M4_3 := M4.c 3; have M4_4 := M4.c 4; simp only [List.getElem?_cons_zero, List.getElem?_cons_succ] at M4_0 M4_1 M4_2 M4_3 M4_4
      have R4f := R4.f
      have S4f := S4.f
      have M4f := M4.f
      have HB := hide hB4
      have HO := hide ho4
      have HH := hide (And.intro R4 (And.intro S4 M4))
      have hlt := hltC
      clear hB4 ho4 R4 S4 M4 C4 N4
      go_region
      go_wp2
      obtain ⟨R4, S4, M4⟩ := unhide HH
      obtain ⟨q1, q2, q3⟩ := three R4 S4 M4 (by omega) (by omega) (by omega) [.slice bo n d, .bool true, .int .i64 jj.txn.id, .int .i64 jj.txn.ep, .string jj.txn.anchor, .int .i64 jj.txn.start.1, .int .i64 jj.txn.start.2, .int .i64 jj.seq, .int .i64 jj.at_.1, .int .i64 jj.at_.2, .string jj.val, .bool jj.gone] [.int .i64 s.1, .int .i64 s.2] [.int .i64 Met.zero.id, .int .i64 Met.zero.ep, .string Met.zero.anchor, .int .i64 Met.zero.start.1, .int .i64 Met.zero.start.2] rfl rfl rfl
      refine bodyPost_ret (results_cste Tryz.results35 bo n d true jj s Met.zero rfl rfl rfl rfl q1.drew q2.drew q3.drew) rfl ⟨bo, d, ?_, ?_, (below_setAll (by omega) [.int .i64 Met.zero.id, .int .i64 Met.zero.ep, .string Met.zero.anchor, .int .i64 Met.zero.start.1, .int .i64 Met.zero.start.2] 0 (below_setAll (by omega) [.int .i64 s.1, .int .i64 s.2] 0 (below_setAll (by omega) [.slice bo n d, .bool true, .int .i64 jj.txn.id, .int .i64 jj.txn.ep, .string jj.txn.anchor, .int .i64 jj.txn.start.1, .int .i64 jj.txn.start.2, .int .i64 jj.seq, .int .i64 jj.at_.1, .int .i64 jj.at_.2, .string jj.val, .bool jj.gone] 0 (unhide HB)))).drew⟩
      · show _ = Ending.returned (.tuple #[(.agg #[.slice bo vs.length d, .bool true, .int .i64 jj.txn.id, .int .i64 jj.txn.ep, .string jj.txn.anchor, .int .i64 jj.txn.start.1, .int .i64 jj.txn.start.2, .int .i64 jj.seq, .int .i64 jj.at_.1, .int .i64 jj.at_.2, .string jj.val, .bool jj.gone]), (.agg #[.int .i64 s.1, .int .i64 s.2]), (.agg #[.int .i64 Met.zero.id, .int .i64 Met.zero.ep, .string Met.zero.anchor, .int .i64 Met.zero.start.1, .int .i64 Met.zero.start.2]), .int .i64 0])
        rw [unhide Hn]
        rfl
      · have := VOwn.others hltM [.int .i64 Met.zero.id, .int .i64 Met.zero.ep, .string Met.zero.anchor, .int .i64 Met.zero.start.1, .int .i64 Met.zero.start.2] 0 (VOwn.others hltS [.int .i64 s.1, .int .i64 s.2] 0 (VOwn.others hltR [.slice bo n d, .bool true, .int .i64 jj.txn.id, .int .i64 jj.txn.ep, .string jj.txn.anchor, .int .i64 jj.txn.start.1, .int .i64 jj.txn.start.2, .int .i64 jj.seq, .int .i64 jj.at_.1, .int .i64 jj.at_.2, .string jj.val, .bool jj.gone] 0 (unhide HO)))
        exact this.drew.mono (Nat.le_of_lt hltC)
  · have C_0 := C.c 0; have C_1 := C.c 1; have C_2 := C.c 2; have C_3 := C.c 3; have C_4 := C.c 4; have C_5 := C.c 5; have C_6 := C.c 6; have C_7 := C.c 7; have C_8 := C.c 8; have C_9 := C.c 9; have C_10 := C.c 10; have C_11 := C.c 11; simp only [List.getElem?_cons_zero, List.getElem?_cons_succ] at C_0 C_1 C_2 C_3 C_4 C_5 C_6 C_7 C_8 C_9 C_10 C_11
    have I_0 := I.c 0; have I_1 := I.c 1; have I_2 := I.c 2; have I_3 := I.c 3; have I_4 := I.c 4; have I_5 := I.c 5; have I_6 := I.c 6; have I_7 := I.c 7; have I_8 := I.c 8; have I_9 := I.c 9; simp only [List.getElem?_cons_zero, List.getElem?_cons_succ] at I_0 I_1 I_2 I_3 I_4 I_5 I_6 I_7 I_8 I_9
    go_wp2_with fail
    refine (hP _ hB).mono ?_
    rintro e w3 ⟨rfl, hb3⟩
    clear C_0 C_1 C_2 C_3 C_4 C_5 C_6 C_7 C_8 C_9 C_10 C_11 I_0 I_1 I_2 I_3 I_4 I_5 I_6 I_7 I_8 I_9
    replace C := C.later hb3
    replace I := I.later hb3
    replace R := R.later hb3
    replace S := S.later hb3
    replace M := M.later hb3
    replace hB := hB.trans (hb3.mono hB.size)
    clear hb3 hP
    rcases hpc with rfl | ⟨s, rfl⟩
    · obtain rfl : X = (Chn.zero, (0, 0), Met.zero, 31) := (unhide HX).symm
      clear hCo C I
      replace R := R.alloc (.cells #[.int .i64 0, .int .i64 0] 36)
      replace S := S.alloc (.cells #[.int .i64 0, .int .i64 0] 36)
      replace M := M.alloc (.cells #[.int .i64 0, .int .i64 0] 36)
      replace hB := hB.alloc hB.size (.cells #[.int .i64 0, .int .i64 0] 36)
      have R_0 := R.c 0; have R_1 := R.c 1; have R_2 := R.c 2; have R_3 := R.c 3; have R_4 := R.c 4; have R_5 := R.c 5; have R_6 := R.c 6; have R_7 := R.c 7; have R_8 := R.c 8; have R_9 := R.c 9; have R_10 := R.c 10; have R_11 := R.c 11; simp only [List.getElem?_cons_zero, List.getElem?_cons_succ] at R_0 R_1 R_2 R_3 R_4 R_5 R_6 R_7 R_8 R_9 R_10 R_11
      have S_0 := S.c 0; have S_1 := S.c 1; simp only [List.getElem?_cons_zero, List.getElem?_cons_succ] at S_0 S_1
      have M_0 := M.c 0; have M_1 := M.c 1; have M_2 := M.c 2; have M_3 := M.c 3; have M_4 := M.c 4; simp only [List.getElem?_cons_zero, List.getElem?_cons_succ] at M_0 M_1 M_2 M_3 M_4
      have Rf := R.f
      have Sf := S.f
      have Mf := M.f
      have HB := hide hB
      clear hB
      go_wp2
      obtain ⟨q1, q2, q3⟩ := three R S M (by omega) (by omega) (by omega) [.slice none 0 0, .bool false, .int .i64 Itn.zero.txn.id, .int .i64 Itn.zero.txn.ep, .string Itn.zero.txn.anchor, .int .i64 Itn.zero.txn.start.1, .int .i64 Itn.zero.txn.start.2, .int .i64 Itn.zero.seq, .int .i64 Itn.zero.at_.1, .int .i64 Itn.zero.at_.2, .string Itn.zero.val, .bool Itn.zero.gone] [.int .i64 0, .int .i64 0] [.int .i64 Met.zero.id, .int .i64 Met.zero.ep, .string Met.zero.anchor, .int .i64 Met.zero.start.1, .int .i64 Met.zero.start.2] rfl rfl rfl
      exact bodyPost_ret (results_cste Tryz.results35 none 0 0 false Itn.zero (0, 0) Met.zero rfl rfl rfl rfl q1 q2 q3) rfl ⟨none, 0, rfl, VOwn.zero _ _, below_setAll (by omega) [.int .i64 Met.zero.id, .int .i64 Met.zero.ep, .string Met.zero.anchor, .int .i64 Met.zero.start.1, .int .i64 Met.zero.start.2] 0 (below_setAll (by omega) [.int .i64 0, .int .i64 0] 0 (below_setAll (by omega) [.slice none 0 0, .bool false, .int .i64 Itn.zero.txn.id, .int .i64 Itn.zero.txn.ep, .string Itn.zero.txn.anchor, .int .i64 Itn.zero.txn.start.1, .int .i64 Itn.zero.txn.start.2, .int .i64 Itn.zero.seq, .int .i64 Itn.zero.at_.1, .int .i64 Itn.zero.at_.2, .string Itn.zero.val, .bool Itn.zero.gone] 0 (unhide HB)))⟩
    · have N := Blk.new w3 #[.int .i64 s.1, .int .i64 s.2] 36
      have hNC : w3.heap.size ≠ w.heap.size := (Nat.ne_of_lt C.lt).symm
      have hNI : w3.heap.size ≠ w.heap.size + 1 := (Nat.ne_of_lt I.lt).symm
      have hNR : w3.heap.size ≠ w.heap.size + 1 + 1 := (Nat.ne_of_lt R.lt).symm
      have hNS : w3.heap.size ≠ w.heap.size + 1 + 1 + 1 := (Nat.ne_of_lt S.lt).symm
      have hNM : w3.heap.size ≠ w.heap.size + 1 + 1 + 1 + 1 := (Nat.ne_of_lt M.lt).symm
      replace C := C.alloc (.cells #[.int .i64 s.1, .int .i64 s.2] 36)
      replace I := I.alloc (.cells #[.int .i64 s.1, .int .i64 s.2] 36)
      replace R := R.alloc (.cells #[.int .i64 s.1, .int .i64 s.2] 36)
      replace S := S.alloc (.cells #[.int .i64 s.1, .int .i64 s.2] 36)
      replace M := M.alloc (.cells #[.int .i64 s.1, .int .i64 s.2] 36)
      replace hB := hB.alloc hB.size (.cells #[.int .i64 s.1, .int .i64 s.2] 36)
      obtain ⟨jj, hjj⟩ : ∃ jj : Itn, jj = { j with at_ := s } := ⟨_, rfl⟩
      have hX2 : X = (⟨vs, true, jj⟩, s, Met.zero, 0) := by rw [← unhide HX, hjj]; rfl
      clear HX
      subst hX2
      have I2 : Blk (((w3.alloc (.cells #[.int .i64 s.1, .int .i64 s.2] 36)).setCell ⟨w.heap.size + 1, 6, none⟩ (.int .i64 s.1)).setCell ⟨w.heap.size + 1, 7, none⟩ (.int .i64 s.2)) (w.heap.size + 1) [.int .i64 jj.txn.id, .int .i64 jj.txn.ep, .string jj.txn.anchor, .int .i64 jj.txn.start.1, .int .i64 jj.txn.start.2, .int .i64 jj.seq, .int .i64 jj.at_.1, .int .i64 jj.at_.2, .string jj.val, .bool jj.gone] := by
        rw [hjj]
        exact (I.set 6 (by simp) _).set 7 (by simp) _
      have Hjj := hide hjj
      have C2 := (C.other (q := ⟨w.heap.size + 1, 6, none⟩) (by simp) (.int .i64 s.1)).other (q := ⟨w.heap.size + 1, 7, none⟩) (by simp) (.int .i64 s.2)
      have R2 := (R.other (q := ⟨w.heap.size + 1, 6, none⟩) (by simp) (.int .i64 s.1)).other (q := ⟨w.heap.size + 1, 7, none⟩) (by simp) (.int .i64 s.2)
      have S2 := (S.other (q := ⟨w.heap.size + 1, 6, none⟩) (by simp) (.int .i64 s.1)).other (q := ⟨w.heap.size + 1, 7, none⟩) (by simp) (.int .i64 s.2)
      have M2 := (M.other (q := ⟨w.heap.size + 1, 6, none⟩) (by simp) (.int .i64 s.1)).other (q := ⟨w.heap.size + 1, 7, none⟩) (by simp) (.int .i64 s.2)
      have N2 := (N.other (q := ⟨w.heap.size + 1, 6, none⟩) hNI.symm (.int .i64 s.1)).other (q := ⟨w.heap.size + 1, 7, none⟩) hNI.symm (.int .i64 s.2)
      have hB2 := (hB.setCell (p := ⟨w.heap.size + 1, 6, none⟩) (by simp) (.int .i64 s.1)).setCell (p := ⟨w.heap.size + 1, 7, none⟩) (by simp) (.int .i64 s.2)
      have I_0 := I.c 0; have I_1 := I.c 1; have I_2 := I.c 2; have I_3 := I.c 3; have I_4 := I.c 4; have I_5 := I.c 5; have I_6 := I.c 6; have I_7 := I.c 7; have I_8 := I.c 8; have I_9 := I.c 9; simp only [List.getElem?_cons_zero, List.getElem?_cons_succ] at I_0 I_1 I_2 I_3 I_4 I_5 I_6 I_7 I_8 I_9
      have If := I.f
      have C2_0 := C2.c
      clear hjj C R S M N hB
      have C2_0 := C2.c 0; have C2_1 := C2.c 1; have C2_2 := C2.c 2; have C2_3 := C2.c 3; have C2_4 := C2.c 4; have C2_5 := C2.c 5; have C2_6 := C2.c 6; have C2_7 := C2.c 7; have C2_8 := C2.c 8; have C2_9 := C2.c 9; have C2_10 := C2.c 10; have C2_11 := C2.c 11; simp only [List.getElem?_cons_zero, List.getElem?_cons_succ] at C2_0 C2_1 C2_2 C2_3 C2_4 C2_5 C2_6 C2_7 C2_8 C2_9 C2_10 C2_11
      go_wp2_with fail
      clear C2_0 C2_1 C2_2 C2_3 C2_4 C2_5 C2_6 C2_7 C2_8 C2_9 C2_10 C2_11 I_0 I_1 I_2 I_3 I_4 I_5 I_6 I_7 I_8 I_9
      clear If C2_0 I
      generalize ((w3.alloc _).setCell _ _).setCell _ _ = W3 at *
      have hltC := C2.lt
      have hltR := R2.lt
      have hltS := S2.lt
      have hltM := M2.lt
      refine (hCo _ hB2).mono ?_
      rintro e w4 ⟨bo, d, rfl, ho, hb4⟩
      replace C2 := C2.later hb4
      replace I2 := I2.later hb4
      replace R2 := R2.later hb4
      replace S2 := S2.later hb4
      replace M2 := M2.later hb4
      replace N2 := N2.later hb4
      replace hB2 := hB2.trans (hb4.mono hB2.size)
      clear hb4 hCo
      have C2_0 := C2.c 0; have C2_1 := C2.c 1; have C2_2 := C2.c 2; have C2_3 := C2.c 3; have C2_4 := C2.c 4; have C2_5 := C2.c 5; have C2_6 := C2.c 6; have C2_7 := C2.c 7; have C2_8 := C2.c 8; have C2_9 := C2.c 9; have C2_10 := C2.c 10; have C2_11 := C2.c 11; simp only [List.getElem?_cons_zero, List.getElem?_cons_succ] at C2_0 C2_1 C2_2 C2_3 C2_4 C2_5 C2_6 C2_7 C2_8 C2_9 C2_10 C2_11
      have C2f := C2.f
      have C3 := C2.all [.slice bo n d, .bool true, .int .i64 i.txn.id, .int .i64 i.txn.ep, .string i.txn.anchor, .int .i64 i.txn.start.1, .int .i64 i.txn.start.2, .int .i64 i.seq, .int .i64 i.at_.1, .int .i64 i.at_.2, .string i.val, .bool i.gone] rfl
      have I3 := Blk.others (C := w.heap.size) (by omega) [.slice bo n d, .bool true, .int .i64 i.txn.id, .int .i64 i.txn.ep, .string i.txn.anchor, .int .i64 i.txn.start.1, .int .i64 i.txn.start.2, .int .i64 i.seq, .int .i64 i.at_.1, .int .i64 i.at_.2, .string i.val, .bool i.gone] 0 I2
      have R3 := Blk.others (C := w.heap.size) (by omega) [.slice bo n d, .bool true, .int .i64 i.txn.id, .int .i64 i.txn.ep, .string i.txn.anchor, .int .i64 i.txn.start.1, .int .i64 i.txn.start.2, .int .i64 i.seq, .int .i64 i.at_.1, .int .i64 i.at_.2, .string i.val, .bool i.gone] 0 R2
      have S3 := Blk.others (C := w.heap.size) (by omega) [.slice bo n d, .bool true, .int .i64 i.txn.id, .int .i64 i.txn.ep, .string i.txn.anchor, .int .i64 i.txn.start.1, .int .i64 i.txn.start.2, .int .i64 i.seq, .int .i64 i.at_.1, .int .i64 i.at_.2, .string i.val, .bool i.gone] 0 S2
      have M3 := Blk.others (C := w.heap.size) (by omega) [.slice bo n d, .bool true, .int .i64 i.txn.id, .int .i64 i.txn.ep, .string i.txn.anchor, .int .i64 i.txn.start.1, .int .i64 i.txn.start.2, .int .i64 i.seq, .int .i64 i.at_.1, .int .i64 i.at_.2, .string i.val, .bool i.gone] 0 M2
      have N3 := Blk.others (C := w.heap.size) hNC [.slice bo n d, .bool true, .int .i64 i.txn.id, .int .i64 i.txn.ep, .string i.txn.anchor, .int .i64 i.txn.start.1, .int .i64 i.txn.start.2, .int .i64 i.seq, .int .i64 i.at_.1, .int .i64 i.at_.2, .string i.val, .bool i.gone] 0 N2
      have ho3 := VOwn.others (C := w.heap.size) hltC [.slice bo n d, .bool true, .int .i64 i.txn.id, .int .i64 i.txn.ep, .string i.txn.anchor, .int .i64 i.txn.start.1, .int .i64 i.txn.start.2, .int .i64 i.seq, .int .i64 i.at_.1, .int .i64 i.at_.2, .string i.val, .bool i.gone] 0 ho
      have hB3 := below_setAll (C := w.heap.size) (Nat.le_refl _) [.slice bo n d, .bool true, .int .i64 i.txn.id, .int .i64 i.txn.ep, .string i.txn.anchor, .int .i64 i.txn.start.1, .int .i64 i.txn.start.2, .int .i64 i.seq, .int .i64 i.at_.1, .int .i64 i.at_.2, .string i.val, .bool i.gone] 0 hB2
      have Hw := hide (And.intro C3 (And.intro I3 (And.intro R3 (And.intro S3 (And.intro M3 (And.intro N3 (And.intro ho3 hB3)))))))
      clear C3 I3 R3 S3 M3 N3 ho3 hB3 ho C2 I2 R2 S2 M2 N2 hB2
      go_wp2_with fail
      clear C2_0 C2_1 C2_2 C2_3 C2_4 C2_5 C2_6 C2_7 C2_8 C2_9 C2_10 C2_11
      clear C2f
      generalize hW4 : setAll w4 w.heap.size 0 [.slice bo n d, .bool true, .int .i64 i.txn.id, .int .i64 i.txn.ep, .string i.txn.anchor, .int .i64 i.txn.start.1, .int .i64 i.txn.start.2, .int .i64 i.seq, .int .i64 i.at_.1, .int .i64 i.at_.2, .string i.val, .bool i.gone] = W4 at Hw
      simp only [setAll, Nat.zero_add, Nat.reduceAdd] at hW4
      rw [hW4]
      clear hW4
      obtain ⟨C3, I3, R3, S3, M3, N3, ho3, hB3⟩ := unhide Hw
      clear Hw
      have C3_0 := C3.c 0; have C3_1 := C3.c 1; have C3_2 := C3.c 2; have C3_3 := C3.c 3; have C3_4 := C3.c 4; have C3_5 := C3.c 5; have C3_6 := C3.c 6; have C3_7 := C3.c 7; have C3_8 := C3.c 8; have C3_9 := C3.c 9; have C3_10 := C3.c 10; have C3_11 := C3.c 11; simp only [List.getElem?_cons_zero, List.getElem?_cons_succ] at C3_0 C3_1 C3_2 C3_3 C3_4 C3_5 C3_6 C3_7 C3_8 C3_9 C3_10 C3_11
      have I3_0 := I3.c 0; have I3_1 := I3.c 1; have I3_2 := I3.c 2; have I3_3 := I3.c 3; have I3_4 := I3.c 4; have I3_5 := I3.c 5; have I3_6 := I3.c 6; have I3_7 := I3.c 7; have I3_8 := I3.c 8; have I3_9 := I3.c 9; simp only [List.getElem?_cons_zero, List.getElem?_cons_succ] at I3_0 I3_1 I3_2 I3_3 I3_4 I3_5 I3_6 I3_7 I3_8 I3_9
      have C3f := C3.f
      go_region
      have C4 := (Blk.setAll_at (.bool true :: [.int .i64 jj.txn.id, .int .i64 jj.txn.ep, .string jj.txn.anchor, .int .i64 jj.txn.start.1, .int .i64 jj.txn.start.2, .int .i64 jj.seq, .int .i64 jj.at_.1, .int .i64 jj.at_.2, .string jj.val, .bool jj.gone]) W4 [.slice bo n d] [.bool true, .int .i64 i.txn.id, .int .i64 i.txn.ep, .string i.txn.anchor, .int .i64 i.txn.start.1, .int .i64 i.txn.start.2, .int .i64 i.seq, .int .i64 i.at_.1, .int .i64 i.at_.2, .string i.val, .bool i.gone] 1 C3 rfl rfl).drew
      have R4 := (Blk.others (C := w.heap.size) (by omega) (.bool true :: [.int .i64 jj.txn.id, .int .i64 jj.txn.ep, .string jj.txn.anchor, .int .i64 jj.txn.start.1, .int .i64 jj.txn.start.2, .int .i64 jj.seq, .int .i64 jj.at_.1, .int .i64 jj.at_.2, .string jj.val, .bool jj.gone]) 1 R3).drew
      have S4 := (Blk.others (C := w.heap.size) (by omega) (.bool true :: [.int .i64 jj.txn.id, .int .i64 jj.txn.ep, .string jj.txn.anchor, .int .i64 jj.txn.start.1, .int .i64 jj.txn.start.2, .int .i64 jj.seq, .int .i64 jj.at_.1, .int .i64 jj.at_.2, .string jj.val, .bool jj.gone]) 1 S3).drew
      have M4 := (Blk.others (C := w.heap.size) (by omega) (.bool true :: [.int .i64 jj.txn.id, .int .i64 jj.txn.ep, .string jj.txn.anchor, .int .i64 jj.txn.start.1, .int .i64 jj.txn.start.2, .int .i64 jj.seq, .int .i64 jj.at_.1, .int .i64 jj.at_.2, .string jj.val, .bool jj.gone]) 1 M3).drew
      have N4 := (Blk.others (C := w.heap.size) hNC (.bool true :: [.int .i64 jj.txn.id, .int .i64 jj.txn.ep, .string jj.txn.anchor, .int .i64 jj.txn.start.1, .int .i64 jj.txn.start.2, .int .i64 jj.seq, .int .i64 jj.at_.1, .int .i64 jj.at_.2, .string jj.val, .bool jj.gone]) 1 N3).drew
      have ho4 := (VOwn.others (C := w.heap.size) hltC (.bool true :: [.int .i64 jj.txn.id, .int .i64 jj.txn.ep, .string jj.txn.anchor, .int .i64 jj.txn.start.1, .int .i64 jj.txn.start.2, .int .i64 jj.seq, .int .i64 jj.at_.1, .int .i64 jj.at_.2, .string jj.val, .bool jj.gone]) 1 ho3).drew
      have hB4 := (below_setAll (C := w.heap.size) (Nat.le_refl _) (.bool true :: [.int .i64 jj.txn.id, .int .i64 jj.txn.ep, .string jj.txn.anchor, .int .i64 jj.txn.start.1, .int .i64 jj.txn.start.2, .int .i64 jj.seq, .int .i64 jj.at_.1, .int .i64 jj.at_.2, .string jj.val, .bool jj.gone]) 1 hB3).drew
      simp only [List.cons_append, List.nil_append] at C4
      have Hw := hide (And.intro C4 (And.intro R4 (And.intro S4 (And.intro M4 (And.intro N4 (And.intro ho4 hB4))))))
      clear C3_0 C3_1 C3_2 C3_3 C3_4 C3_5 C3_6 C3_7 C3_8 C3_9 C3_10 C3_11 I3_0 I3_1 I3_2 I3_3 I3_4 I3_5 I3_6 I3_7 I3_8 I3_9
      clear C3 I3 R3 S3 M3 N3 ho3 hB3 C3f C4 R4 S4 M4 N4 ho4 hB4
      go_wp2_with fail
      generalize hW5 : (setAll W4 w.heap.size 1 (.bool true :: [.int .i64 jj.txn.id, .int .i64 jj.txn.ep, .string jj.txn.anchor, .int .i64 jj.txn.start.1, .int .i64 jj.txn.start.2, .int .i64 jj.seq, .int .i64 jj.at_.1, .int .i64 jj.at_.2, .string jj.val, .bool jj.gone])).drew = W5 at Hw
      simp only [setAll, Nat.reduceAdd] at hW5
      rw [hW5]
      clear hW5
      obtain ⟨C4, R4, S4, M4, N4, ho4, hB4⟩ := unhide Hw
      clear Hw
      have C4_0 := C4.c 0; have C4_1 := C4.c 1; have C4_2 := C4.c 2; have C4_3 := C4.c 3; have C4_4 := C4.c 4; have C4_5 := C4.c 5; have C4_6 := C4.c 6; have C4_7 := C4.c 7; have C4_8 := C4.c 8; have C4_9 := C4.c 9; have C4_10 := C4.c 10; have C4_11 := C4.c 11; simp only [List.getElem?_cons_zero, List.getElem?_cons_succ] at C4_0 C4_1 C4_2 C4_3 C4_4 C4_5 C4_6 C4_7 C4_8 C4_9 C4_10 C4_11
      have N4_0 := N4.c 0; have N4_1 := N4.c 1; simp only [List.getElem?_cons_zero, List.getElem?_cons_succ] at N4_0 N4_1
      have R4_0 := R4.c 0; have R4_1 := R4.c 1; have R4_2 := R4.c 2; have R4_3 := R4.c 3; have R4_4 := R4.c 4; have R4_5 := R4.c 5; have R4_6 := R4.c 6; have R4_7 := R4.c 7; have R4_8 := R4.c 8; have R4_9 := R4.c 9; have R4_10 := R4.c 10; have R4_11 := R4.c 11; simp only [List.getElem?_cons_zero, List.getElem?_cons_succ] at R4_0 R4_1 R4_2 R4_3 R4_4 R4_5 R4_6 R4_7 R4_8 R4_9 R4_10 R4_11
      have S4_0 := S4.c 0; have S4_1 := S4.c 1; simp only [List.getElem?_cons_zero, List.getElem?_cons_succ] at S4_0 S4_1
      have M4_0 := M4.c 0; have M4_1 := M4.c 1; have M4_2 := M4.c 2; have M4_3 := M4.c 3; have M4_4 := M4.c 4; simp only [List.getElem?_cons_zero, List.getElem?_cons_succ] at M4_0 M4_1 M4_2 M4_3 M4_4
      have R4f := R4.f
      have S4f := S4.f
      have M4f := M4.f
      have HB := hide hB4
      have HO := hide ho4
      have HH := hide (And.intro R4 (And.intro S4 M4))
      have hlt := hltC
      clear hB4 ho4 R4 S4 M4 C4 N4
      go_region
      go_wp2
      obtain ⟨R4, S4, M4⟩ := unhide HH
      obtain ⟨q1, q2, q3⟩ := three R4 S4 M4 (by omega) (by omega) (by omega) [.slice bo n d, .bool true, .int .i64 jj.txn.id, .int .i64 jj.txn.ep, .string jj.txn.anchor, .int .i64 jj.txn.start.1, .int .i64 jj.txn.start.2, .int .i64 jj.seq, .int .i64 jj.at_.1, .int .i64 jj.at_.2, .string jj.val, .bool jj.gone] [.int .i64 s.1, .int .i64 s.2] [.int .i64 Met.zero.id, .int .i64 Met.zero.ep, .string Met.zero.anchor, .int .i64 Met.zero.start.1, .int .i64 Met.zero.start.2] rfl rfl rfl
      refine bodyPost_ret (results_cste Tryz.results35 bo n d true jj s Met.zero rfl rfl rfl rfl q1.drew q2.drew q3.drew) rfl ⟨bo, d, ?_, ?_, (below_setAll (by omega) [.int .i64 Met.zero.id, .int .i64 Met.zero.ep, .string Met.zero.anchor, .int .i64 Met.zero.start.1, .int .i64 Met.zero.start.2] 0 (below_setAll (by omega) [.int .i64 s.1, .int .i64 s.2] 0 (below_setAll (by omega) [.slice bo n d, .bool true, .int .i64 jj.txn.id, .int .i64 jj.txn.ep, .string jj.txn.anchor, .int .i64 jj.txn.start.1, .int .i64 jj.txn.start.2, .int .i64 jj.seq, .int .i64 jj.at_.1, .int .i64 jj.at_.2, .string jj.val, .bool jj.gone] 0 (unhide HB)))).drew⟩
      · show _ = Ending.returned (.tuple #[(.agg #[.slice bo vs.length d, .bool true, .int .i64 jj.txn.id, .int .i64 jj.txn.ep, .string jj.txn.anchor, .int .i64 jj.txn.start.1, .int .i64 jj.txn.start.2, .int .i64 jj.seq, .int .i64 jj.at_.1, .int .i64 jj.at_.2, .string jj.val, .bool jj.gone]), (.agg #[.int .i64 s.1, .int .i64 s.2]), (.agg #[.int .i64 Met.zero.id, .int .i64 Met.zero.ep, .string Met.zero.anchor, .int .i64 Met.zero.start.1, .int .i64 Met.zero.start.2]), .int .i64 0])
        rw [unhide Hn]
        rfl
      · have := VOwn.others hltM [.int .i64 Met.zero.id, .int .i64 Met.zero.ep, .string Met.zero.anchor, .int .i64 Met.zero.start.1, .int .i64 Met.zero.start.2] 0 (VOwn.others hltS [.int .i64 s.1, .int .i64 s.2] 0 (VOwn.others hltR [.slice bo n d, .bool true, .int .i64 jj.txn.id, .int .i64 jj.txn.ep, .string jj.txn.anchor, .int .i64 jj.txn.start.1, .int .i64 jj.txn.start.2, .int .i64 jj.seq, .int .i64 jj.at_.1, .int .i64 jj.at_.2, .string jj.val, .bool jj.gone] 0 (unhide HO)))
        exact this.drew.mono (Nat.le_of_lt hltC)
  · have C_0 := C.c 0; have C_1 := C.c 1; have C_2 := C.c 2; have C_3 := C.c 3; have C_4 := C.c 4; have C_5 := C.c 5; have C_6 := C.c 6; have C_7 := C.c 7; have C_8 := C.c 8; have C_9 := C.c 9; have C_10 := C.c 10; have C_11 := C.c 11; simp only [List.getElem?_cons_zero, List.getElem?_cons_succ] at C_0 C_1 C_2 C_3 C_4 C_5 C_6 C_7 C_8 C_9 C_10 C_11
    have I_0 := I.c 0; have I_1 := I.c 1; have I_2 := I.c 2; have I_3 := I.c 3; have I_4 := I.c 4; have I_5 := I.c 5; have I_6 := I.c 6; have I_7 := I.c 7; have I_8 := I.c 8; have I_9 := I.c 9; simp only [List.getElem?_cons_zero, List.getElem?_cons_succ] at I_0 I_1 I_2 I_3 I_4 I_5 I_6 I_7 I_8 I_9
    go_wp2_with fail
    refine (hP _ hB).mono ?_
    rintro e w3 ⟨rfl, hb3⟩
    clear C_0 C_1 C_2 C_3 C_4 C_5 C_6 C_7 C_8 C_9 C_10 C_11 I_0 I_1 I_2 I_3 I_4 I_5 I_6 I_7 I_8 I_9
    replace C := C.later hb3
    replace I := I.later hb3
    replace R := R.later hb3
    replace S := S.later hb3
    replace M := M.later hb3
    replace hB := hB.trans (hb3.mono hB.size)
    clear hb3 hP
    rcases hpc with rfl | ⟨s, rfl⟩
    · obtain rfl : X = (Chn.zero, (0, 0), Met.zero, 31) := (unhide HX).symm
      clear hCo C I
      replace R := R.alloc (.cells #[.int .i64 0, .int .i64 0] 36)
      replace S := S.alloc (.cells #[.int .i64 0, .int .i64 0] 36)
      replace M := M.alloc (.cells #[.int .i64 0, .int .i64 0] 36)
      replace hB := hB.alloc hB.size (.cells #[.int .i64 0, .int .i64 0] 36)
      have R_0 := R.c 0; have R_1 := R.c 1; have R_2 := R.c 2; have R_3 := R.c 3; have R_4 := R.c 4; have R_5 := R.c 5; have R_6 := R.c 6; have R_7 := R.c 7; have R_8 := R.c 8; have R_9 := R.c 9; have R_10 := R.c 10; have R_11 := R.c 11; simp only [List.getElem?_cons_zero, List.getElem?_cons_succ] at R_0 R_1 R_2 R_3 R_4 R_5 R_6 R_7 R_8 R_9 R_10 R_11
      have S_0 := S.c 0; have S_1 := S.c 1; simp only [List.getElem?_cons_zero, List.getElem?_cons_succ] at S_0 S_1
      have M_0 := M.c 0; have M_1 := M.c 1; have M_2 := M.c 2; have M_3 := M.c 3; have M_4 := M.c 4; simp only [List.getElem?_cons_zero, List.getElem?_cons_succ] at M_0 M_1 M_2 M_3 M_4
      have Rf := R.f
      have Sf := S.f
      have Mf := M.f
      have HB := hide hB
      clear hB
      go_wp2
      obtain ⟨q1, q2, q3⟩ := three R S M (by omega) (by omega) (by omega) [.slice none 0 0, .bool false, .int .i64 Itn.zero.txn.id, .int .i64 Itn.zero.txn.ep, .string Itn.zero.txn.anchor, .int .i64 Itn.zero.txn.start.1, .int .i64 Itn.zero.txn.start.2, .int .i64 Itn.zero.seq, .int .i64 Itn.zero.at_.1, .int .i64 Itn.zero.at_.2, .string Itn.zero.val, .bool Itn.zero.gone] [.int .i64 0, .int .i64 0] [.int .i64 Met.zero.id, .int .i64 Met.zero.ep, .string Met.zero.anchor, .int .i64 Met.zero.start.1, .int .i64 Met.zero.start.2] rfl rfl rfl
      exact bodyPost_ret (results_cste Tryz.results35 none 0 0 false Itn.zero (0, 0) Met.zero rfl rfl rfl rfl q1 q2 q3) rfl ⟨none, 0, rfl, VOwn.zero _ _, below_setAll (by omega) [.int .i64 Met.zero.id, .int .i64 Met.zero.ep, .string Met.zero.anchor, .int .i64 Met.zero.start.1, .int .i64 Met.zero.start.2] 0 (below_setAll (by omega) [.int .i64 0, .int .i64 0] 0 (below_setAll (by omega) [.slice none 0 0, .bool false, .int .i64 Itn.zero.txn.id, .int .i64 Itn.zero.txn.ep, .string Itn.zero.txn.anchor, .int .i64 Itn.zero.txn.start.1, .int .i64 Itn.zero.txn.start.2, .int .i64 Itn.zero.seq, .int .i64 Itn.zero.at_.1, .int .i64 Itn.zero.at_.2, .string Itn.zero.val, .bool Itn.zero.gone] 0 (unhide HB)))⟩
    · have N := Blk.new w3 #[.int .i64 s.1, .int .i64 s.2] 36
      have hNC : w3.heap.size ≠ w.heap.size := (Nat.ne_of_lt C.lt).symm
      have hNI : w3.heap.size ≠ w.heap.size + 1 := (Nat.ne_of_lt I.lt).symm
      have hNR : w3.heap.size ≠ w.heap.size + 1 + 1 := (Nat.ne_of_lt R.lt).symm
      have hNS : w3.heap.size ≠ w.heap.size + 1 + 1 + 1 := (Nat.ne_of_lt S.lt).symm
      have hNM : w3.heap.size ≠ w.heap.size + 1 + 1 + 1 + 1 := (Nat.ne_of_lt M.lt).symm
      replace C := C.alloc (.cells #[.int .i64 s.1, .int .i64 s.2] 36)
      replace I := I.alloc (.cells #[.int .i64 s.1, .int .i64 s.2] 36)
      replace R := R.alloc (.cells #[.int .i64 s.1, .int .i64 s.2] 36)
      replace S := S.alloc (.cells #[.int .i64 s.1, .int .i64 s.2] 36)
      replace M := M.alloc (.cells #[.int .i64 s.1, .int .i64 s.2] 36)
      replace hB := hB.alloc hB.size (.cells #[.int .i64 s.1, .int .i64 s.2] 36)
      obtain ⟨jj, hjj⟩ : ∃ jj : Itn, jj = { j with at_ := s } := ⟨_, rfl⟩
      have hX2 : X = (⟨vs, true, jj⟩, s, Met.zero, 0) := by rw [← unhide HX, hjj]; rfl
      clear HX
      subst hX2
      have I2 : Blk (((w3.alloc (.cells #[.int .i64 s.1, .int .i64 s.2] 36)).setCell ⟨w.heap.size + 1, 6, none⟩ (.int .i64 s.1)).setCell ⟨w.heap.size + 1, 7, none⟩ (.int .i64 s.2)) (w.heap.size + 1) [.int .i64 jj.txn.id, .int .i64 jj.txn.ep, .string jj.txn.anchor, .int .i64 jj.txn.start.1, .int .i64 jj.txn.start.2, .int .i64 jj.seq, .int .i64 jj.at_.1, .int .i64 jj.at_.2, .string jj.val, .bool jj.gone] := by
        rw [hjj]
        exact (I.set 6 (by simp) _).set 7 (by simp) _
      have Hjj := hide hjj
      have C2 := (C.other (q := ⟨w.heap.size + 1, 6, none⟩) (by simp) (.int .i64 s.1)).other (q := ⟨w.heap.size + 1, 7, none⟩) (by simp) (.int .i64 s.2)
      have R2 := (R.other (q := ⟨w.heap.size + 1, 6, none⟩) (by simp) (.int .i64 s.1)).other (q := ⟨w.heap.size + 1, 7, none⟩) (by simp) (.int .i64 s.2)
      have S2 := (S.other (q := ⟨w.heap.size + 1, 6, none⟩) (by simp) (.int .i64 s.1)).other (q := ⟨w.heap.size + 1, 7, none⟩) (by simp) (.int .i64 s.2)
      have M2 := (M.other (q := ⟨w.heap.size + 1, 6, none⟩) (by simp) (.int .i64 s.1)).other (q := ⟨w.heap.size + 1, 7, none⟩) (by simp) (.int .i64 s.2)
      have N2 := (N.other (q := ⟨w.heap.size + 1, 6, none⟩) hNI.symm (.int .i64 s.1)).other (q := ⟨w.heap.size + 1, 7, none⟩) hNI.symm (.int .i64 s.2)
      have hB2 := (hB.setCell (p := ⟨w.heap.size + 1, 6, none⟩) (by simp) (.int .i64 s.1)).setCell (p := ⟨w.heap.size + 1, 7, none⟩) (by simp) (.int .i64 s.2)
      have I_0 := I.c 0; have I_1 := I.c 1; have I_2 := I.c 2; have I_3 := I.c 3; have I_4 := I.c 4; have I_5 := I.c 5; have I_6 := I.c 6; have I_7 := I.c 7; have I_8 := I.c 8; have I_9 := I.c 9; simp only [List.getElem?_cons_zero, List.getElem?_cons_succ] at I_0 I_1 I_2 I_3 I_4 I_5 I_6 I_7 I_8 I_9
      have If := I.f
      have C2_0 := C2.c
      clear hjj C R S M N hB
      have C2_0 := C2.c 0; have C2_1 := C2.c 1; have C2_2 := C2.c 2; have C2_3 := C2.c 3; have C2_4 := C2.c 4; have C2_5 := C2.c 5; have C2_6 := C2.c 6; have C2_7 := C2.c 7; have C2_8 := C2.c 8; have C2_9 := C2.c 9; have C2_10 := C2.c 10; have C2_11 := C2.c 11; simp only [List.getElem?_cons_zero, List.getElem?_cons_succ] at C2_0 C2_1 C2_2 C2_3 C2_4 C2_5 C2_6 C2_7 C2_8 C2_9 C2_10 C2_11
      go_wp2_with fail
      clear C2_0 C2_1 C2_2 C2_3 C2_4 C2_5 C2_6 C2_7 C2_8 C2_9 C2_10 C2_11 I_0 I_1 I_2 I_3 I_4 I_5 I_6 I_7 I_8 I_9
      clear If C2_0 I
      generalize ((w3.alloc _).setCell _ _).setCell _ _ = W3 at *
      have hltC := C2.lt
      have hltR := R2.lt
      have hltS := S2.lt
      have hltM := M2.lt
      refine (hCo _ hB2).mono ?_
      rintro e w4 ⟨bo, d, rfl, ho, hb4⟩
      replace C2 := C2.later hb4
      replace I2 := I2.later hb4
      replace R2 := R2.later hb4
      replace S2 := S2.later hb4
      replace M2 := M2.later hb4
      replace N2 := N2.later hb4
      replace hB2 := hB2.trans (hb4.mono hB2.size)
      clear hb4 hCo
      have C2_0 := C2.c 0; have C2_1 := C2.c 1; have C2_2 := C2.c 2; have C2_3 := C2.c 3; have C2_4 := C2.c 4; have C2_5 := C2.c 5; have C2_6 := C2.c 6; have C2_7 := C2.c 7; have C2_8 := C2.c 8; have C2_9 := C2.c 9; have C2_10 := C2.c 10; have C2_11 := C2.c 11; simp only [List.getElem?_cons_zero, List.getElem?_cons_succ] at C2_0 C2_1 C2_2 C2_3 C2_4 C2_5 C2_6 C2_7 C2_8 C2_9 C2_10 C2_11
      have C2f := C2.f
      have C3 := C2.all [.slice bo n d, .bool true, .int .i64 i.txn.id, .int .i64 i.txn.ep, .string i.txn.anchor, .int .i64 i.txn.start.1, .int .i64 i.txn.start.2, .int .i64 i.seq, .int .i64 i.at_.1, .int .i64 i.at_.2, .string i.val, .bool i.gone] rfl
      have I3 := Blk.others (C := w.heap.size) (by omega) [.slice bo n d, .bool true, .int .i64 i.txn.id, .int .i64 i.txn.ep, .string i.txn.anchor, .int .i64 i.txn.start.1, .int .i64 i.txn.start.2, .int .i64 i.seq, .int .i64 i.at_.1, .int .i64 i.at_.2, .string i.val, .bool i.gone] 0 I2
      have R3 := Blk.others (C := w.heap.size) (by omega) [.slice bo n d, .bool true, .int .i64 i.txn.id, .int .i64 i.txn.ep, .string i.txn.anchor, .int .i64 i.txn.start.1, .int .i64 i.txn.start.2, .int .i64 i.seq, .int .i64 i.at_.1, .int .i64 i.at_.2, .string i.val, .bool i.gone] 0 R2
      have S3 := Blk.others (C := w.heap.size) (by omega) [.slice bo n d, .bool true, .int .i64 i.txn.id, .int .i64 i.txn.ep, .string i.txn.anchor, .int .i64 i.txn.start.1, .int .i64 i.txn.start.2, .int .i64 i.seq, .int .i64 i.at_.1, .int .i64 i.at_.2, .string i.val, .bool i.gone] 0 S2
      have M3 := Blk.others (C := w.heap.size) (by omega) [.slice bo n d, .bool true, .int .i64 i.txn.id, .int .i64 i.txn.ep, .string i.txn.anchor, .int .i64 i.txn.start.1, .int .i64 i.txn.start.2, .int .i64 i.seq, .int .i64 i.at_.1, .int .i64 i.at_.2, .string i.val, .bool i.gone] 0 M2
      have N3 := Blk.others (C := w.heap.size) hNC [.slice bo n d, .bool true, .int .i64 i.txn.id, .int .i64 i.txn.ep, .string i.txn.anchor, .int .i64 i.txn.start.1, .int .i64 i.txn.start.2, .int .i64 i.seq, .int .i64 i.at_.1, .int .i64 i.at_.2, .string i.val, .bool i.gone] 0 N2
      have ho3 := VOwn.others (C := w.heap.size) hltC [.slice bo n d, .bool true, .int .i64 i.txn.id, .int .i64 i.txn.ep, .string i.txn.anchor, .int .i64 i.txn.start.1, .int .i64 i.txn.start.2, .int .i64 i.seq, .int .i64 i.at_.1, .int .i64 i.at_.2, .string i.val, .bool i.gone] 0 ho
      have hB3 := below_setAll (C := w.heap.size) (Nat.le_refl _) [.slice bo n d, .bool true, .int .i64 i.txn.id, .int .i64 i.txn.ep, .string i.txn.anchor, .int .i64 i.txn.start.1, .int .i64 i.txn.start.2, .int .i64 i.seq, .int .i64 i.at_.1, .int .i64 i.at_.2, .string i.val, .bool i.gone] 0 hB2
      have Hw := hide (And.intro C3 (And.intro I3 (And.intro R3 (And.intro S3 (And.intro M3 (And.intro N3 (And.intro ho3 hB3)))))))
      clear C3 I3 R3 S3 M3 N3 ho3 hB3 ho C2 I2 R2 S2 M2 N2 hB2
      go_wp2_with fail
      clear C2_0 C2_1 C2_2 C2_3 C2_4 C2_5 C2_6 C2_7 C2_8 C2_9 C2_10 C2_11
      clear C2f
      generalize hW4 : setAll w4 w.heap.size 0 [.slice bo n d, .bool true, .int .i64 i.txn.id, .int .i64 i.txn.ep, .string i.txn.anchor, .int .i64 i.txn.start.1, .int .i64 i.txn.start.2, .int .i64 i.seq, .int .i64 i.at_.1, .int .i64 i.at_.2, .string i.val, .bool i.gone] = W4 at Hw
      simp only [setAll, Nat.zero_add, Nat.reduceAdd] at hW4
      rw [hW4]
      clear hW4
      obtain ⟨C3, I3, R3, S3, M3, N3, ho3, hB3⟩ := unhide Hw
      clear Hw
      have C3_0 := C3.c 0; have C3_1 := C3.c 1; have C3_2 := C3.c 2; have C3_3 := C3.c 3; have C3_4 := C3.c 4; have C3_5 := C3.c 5; have C3_6 := C3.c 6; have C3_7 := C3.c 7; have C3_8 := C3.c 8; have C3_9 := C3.c 9; have C3_10 := C3.c 10; have C3_11 := C3.c 11; simp only [List.getElem?_cons_zero, List.getElem?_cons_succ] at C3_0 C3_1 C3_2 C3_3 C3_4 C3_5 C3_6 C3_7 C3_8 C3_9 C3_10 C3_11
      have I3_0 := I3.c 0; have I3_1 := I3.c 1; have I3_2 := I3.c 2; have I3_3 := I3.c 3; have I3_4 := I3.c 4; have I3_5 := I3.c 5; have I3_6 := I3.c 6; have I3_7 := I3.c 7; have I3_8 := I3.c 8; have I3_9 := I3.c 9; simp only [List.getElem?_cons_zero, List.getElem?_cons_succ] at I3_0 I3_1 I3_2 I3_3 I3_4 I3_5 I3_6 I3_7 I3_8 I3_9
      have C3f := C3.f
      go_region
      have C4 := (Blk.setAll_at (.bool true :: [.int .i64 jj.txn.id, .int .i64 jj.txn.ep, .string jj.txn.anchor, .int .i64 jj.txn.start.1, .int .i64 jj.txn.start.2, .int .i64 jj.seq, .int .i64 jj.at_.1, .int .i64 jj.at_.2, .string jj.val, .bool jj.gone]) W4 [.slice bo n d] [.bool true, .int .i64 i.txn.id, .int .i64 i.txn.ep, .string i.txn.anchor, .int .i64 i.txn.start.1, .int .i64 i.txn.start.2, .int .i64 i.seq, .int .i64 i.at_.1, .int .i64 i.at_.2, .string i.val, .bool i.gone] 1 C3 rfl rfl).drew
      have R4 := (Blk.others (C := w.heap.size) (by omega) (.bool true :: [.int .i64 jj.txn.id, .int .i64 jj.txn.ep, .string jj.txn.anchor, .int .i64 jj.txn.start.1, .int .i64 jj.txn.start.2, .int .i64 jj.seq, .int .i64 jj.at_.1, .int .i64 jj.at_.2, .string jj.val, .bool jj.gone]) 1 R3).drew
      have S4 := (Blk.others (C := w.heap.size) (by omega) (.bool true :: [.int .i64 jj.txn.id, .int .i64 jj.txn.ep, .string jj.txn.anchor, .int .i64 jj.txn.start.1, .int .i64 jj.txn.start.2, .int .i64 jj.seq, .int .i64 jj.at_.1, .int .i64 jj.at_.2, .string jj.val, .bool jj.gone]) 1 S3).drew
      have M4 := (Blk.others (C := w.heap.size) (by omega) (.bool true :: [.int .i64 jj.txn.id, .int .i64 jj.txn.ep, .string jj.txn.anchor, .int .i64 jj.txn.start.1, .int .i64 jj.txn.start.2, .int .i64 jj.seq, .int .i64 jj.at_.1, .int .i64 jj.at_.2, .string jj.val, .bool jj.gone]) 1 M3).drew
      have N4 := (Blk.others (C := w.heap.size) hNC (.bool true :: [.int .i64 jj.txn.id, .int .i64 jj.txn.ep, .string jj.txn.anchor, .int .i64 jj.txn.start.1, .int .i64 jj.txn.start.2, .int .i64 jj.seq, .int .i64 jj.at_.1, .int .i64 jj.at_.2, .string jj.val, .bool jj.gone]) 1 N3).drew
      have ho4 := (VOwn.others (C := w.heap.size) hltC (.bool true :: [.int .i64 jj.txn.id, .int .i64 jj.txn.ep, .string jj.txn.anchor, .int .i64 jj.txn.start.1, .int .i64 jj.txn.start.2, .int .i64 jj.seq, .int .i64 jj.at_.1, .int .i64 jj.at_.2, .string jj.val, .bool jj.gone]) 1 ho3).drew
      have hB4 := (below_setAll (C := w.heap.size) (Nat.le_refl _) (.bool true :: [.int .i64 jj.txn.id, .int .i64 jj.txn.ep, .string jj.txn.anchor, .int .i64 jj.txn.start.1, .int .i64 jj.txn.start.2, .int .i64 jj.seq, .int .i64 jj.at_.1, .int .i64 jj.at_.2, .string jj.val, .bool jj.gone]) 1 hB3).drew
      simp only [List.cons_append, List.nil_append] at C4
      have Hw := hide (And.intro C4 (And.intro R4 (And.intro S4 (And.intro M4 (And.intro N4 (And.intro ho4 hB4))))))
      clear C3_0 C3_1 C3_2 C3_3 C3_4 C3_5 C3_6 C3_7 C3_8 C3_9 C3_10 C3_11 I3_0 I3_1 I3_2 I3_3 I3_4 I3_5 I3_6 I3_7 I3_8 I3_9
      clear C3 I3 R3 S3 M3 N3 ho3 hB3 C3f C4 R4 S4 M4 N4 ho4 hB4
      go_wp2_with fail
      generalize hW5 : (setAll W4 w.heap.size 1 (.bool true :: [.int .i64 jj.txn.id, .int .i64 jj.txn.ep, .string jj.txn.anchor, .int .i64 jj.txn.start.1, .int .i64 jj.txn.start.2, .int .i64 jj.seq, .int .i64 jj.at_.1, .int .i64 jj.at_.2, .string jj.val, .bool jj.gone])).drew = W5 at Hw
      simp only [setAll, Nat.reduceAdd] at hW5
      rw [hW5]
      clear hW5
      obtain ⟨C4, R4, S4, M4, N4, ho4, hB4⟩ := unhide Hw
      clear Hw
      have C4_0 := C4.c 0; have C4_1 := C4.c 1; have C4_2 := C4.c 2; have C4_3 := C4.c 3; have C4_4 := C4.c 4; have C4_5 := C4.c 5; have C4_6 := C4.c 6; have C4_7 := C4.c 7; have C4_8 := C4.c 8; have C4_9 := C4.c 9; have C4_10 := C4.c 10; have C4_11 := C4.c 11; simp only [List.getElem?_cons_zero, List.getElem?_cons_succ] at C4_0 C4_1 C4_2 C4_3 C4_4 C4_5 C4_6 C4_7 C4_8 C4_9 C4_10 C4_11
      have N4_0 := N4.c 0; have N4_1 := N4.c 1; simp only [List.getElem?_cons_zero, List.getElem?_cons_succ] at N4_0 N4_1
      have R4_0 := R4.c 0; have R4_1 := R4.c 1; have R4_2 := R4.c 2; have R4_3 := R4.c 3; have R4_4 := R4.c 4; have R4_5 := R4.c 5; have R4_6 := R4.c 6; have R4_7 := R4.c 7; have R4_8 := R4.c 8; have R4_9 := R4.c 9; have R4_10 := R4.c 10; have R4_11 := R4.c 11; simp only [List.getElem?_cons_zero, List.getElem?_cons_succ] at R4_0 R4_1 R4_2 R4_3 R4_4 R4_5 R4_6 R4_7 R4_8 R4_9 R4_10 R4_11
      have S4_0 := S4.c 0; have S4_1 := S4.c 1; simp only [List.getElem?_cons_zero, List.getElem?_cons_succ] at S4_0 S4_1
      have M4_0 := M4.c 0; have M4_1 := M4.c 1; have M4_2 := M4.c 2; have M4_3 := M4.c 3; have M4_4 := M4.c 4; simp only [List.getElem?_cons_zero, List.getElem?_cons_succ] at M4_0 M4_1 M4_2 M4_3 M4_4
      have R4f := R4.f
      have S4f := S4.f
      have M4f := M4.f
      have HB := hide hB4
      have HO := hide ho4
      have HH := hide (And.intro R4 (And.intro S4 M4))
      have hlt := hltC
      clear hB4 ho4 R4 S4 M4 C4 N4
      go_region
      go_wp2
      obtain ⟨R4, S4, M4⟩ := unhide HH
      obtain ⟨q1, q2, q3⟩ := three R4 S4 M4 (by omega) (by omega) (by omega) [.slice bo n d, .bool true, .int .i64 jj.txn.id, .int .i64 jj.txn.ep, .string jj.txn.anchor, .int .i64 jj.txn.start.1, .int .i64 jj.txn.start.2, .int .i64 jj.seq, .int .i64 jj.at_.1, .int .i64 jj.at_.2, .string jj.val, .bool jj.gone] [.int .i64 s.1, .int .i64 s.2] [.int .i64 Met.zero.id, .int .i64 Met.zero.ep, .string Met.zero.anchor, .int .i64 Met.zero.start.1, .int .i64 Met.zero.start.2] rfl rfl rfl
      refine bodyPost_ret (results_cste Tryz.results35 bo n d true jj s Met.zero rfl rfl rfl rfl q1.drew q2.drew q3.drew) rfl ⟨bo, d, ?_, ?_, (below_setAll (by omega) [.int .i64 Met.zero.id, .int .i64 Met.zero.ep, .string Met.zero.anchor, .int .i64 Met.zero.start.1, .int .i64 Met.zero.start.2] 0 (below_setAll (by omega) [.int .i64 s.1, .int .i64 s.2] 0 (below_setAll (by omega) [.slice bo n d, .bool true, .int .i64 jj.txn.id, .int .i64 jj.txn.ep, .string jj.txn.anchor, .int .i64 jj.txn.start.1, .int .i64 jj.txn.start.2, .int .i64 jj.seq, .int .i64 jj.at_.1, .int .i64 jj.at_.2, .string jj.val, .bool jj.gone] 0 (unhide HB)))).drew⟩
      · show _ = Ending.returned (.tuple #[(.agg #[.slice bo vs.length d, .bool true, .int .i64 jj.txn.id, .int .i64 jj.txn.ep, .string jj.txn.anchor, .int .i64 jj.txn.start.1, .int .i64 jj.txn.start.2, .int .i64 jj.seq, .int .i64 jj.at_.1, .int .i64 jj.at_.2, .string jj.val, .bool jj.gone]), (.agg #[.int .i64 s.1, .int .i64 s.2]), (.agg #[.int .i64 Met.zero.id, .int .i64 Met.zero.ep, .string Met.zero.anchor, .int .i64 Met.zero.start.1, .int .i64 Met.zero.start.2]), .int .i64 0])
        rw [unhide Hn]
        rfl
      · have := VOwn.others hltM [.int .i64 Met.zero.id, .int .i64 Met.zero.ep, .string Met.zero.anchor, .int .i64 Met.zero.start.1, .int .i64 Met.zero.start.2] 0 (VOwn.others hltS [.int .i64 s.1, .int .i64 s.2] 0 (VOwn.others hltR [.slice bo n d, .bool true, .int .i64 jj.txn.id, .int .i64 jj.txn.ep, .string jj.txn.anchor, .int .i64 jj.txn.start.1, .int .i64 jj.txn.start.2, .int .i64 jj.seq, .int .i64 jj.at_.1, .int .i64 jj.at_.2, .string jj.val, .bool jj.gone] 0 (unhide HO)))
        exact this.drew.mono (Nat.le_of_lt hltC)
end

end Go.Proofs.YtcdehnghggleoaaGreat
