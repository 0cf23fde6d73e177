/-
  Contracts of version.copied, the document's Copy, slices.ContainsFunc over Write's closure. No law is proved here.
-/
import Derived.Test.YtcahmnpoajnmpaaVt2
namespace Go.Proofs.Ytcahmnpoajnmpaa
open Go.RowKit
set_option linter.unusedVariables false

theorem results_c {fn : Func} {k : Nat} (hf : fn.results = #[.cell k 30]) {tmps : Array Value} {w : World} {B : Nat} (ao : Option Addr) (n c : Nat) (o : Bool) (i : Itn) (hk : tmps[k]? = some (.pointer (some ⟨B, 0, none⟩)))
    (h : Blk w B [.slice ao n c, .bool o, .int .i64 i.txn.id, .int .i64 i.txn.ep, .string i.txn.anchor, .int .i64 i.txn.start.1, .int .i64 i.txn.start.2, .int .i64 i.seq, .int .i64 i.at_.1, .int .i64 i.at_.2, .string i.val, .bool i.gone]) : (results fn tmps).run Try.prog w = .ok (.agg #[.slice ao n c, .bool o, .int .i64 i.txn.id, .int .i64 i.txn.ep, .string i.txn.anchor, .int .i64 i.txn.start.1, .int .i64 i.txn.start.2, .int .i64 i.seq, .int .i64 i.at_.1, .int .i64 i.at_.2, .string i.val, .bool i.gone]) w := by
  simp [results, hf, go_sem, h.c, hk]

section
set_option maxRecDepth 100000
set_option maxHeartbeats 1000000

theorem copied_any (ao : Option Addr) (c : Nat) (vs : List Ver) (o : Bool) (i : Itn) (w : World) (hv : Vs w ao c vs) (hlim : vs.length ≤ 2932031007400) :
    Calls Try.prog 45 #[(.agg #[.slice ao vs.length c, .bool o, .int .i64 i.txn.id, .int .i64 i.txn.ep, .string i.txn.anchor, .int .i64 i.txn.start.1, .int .i64 i.txn.start.2, .int .i64 i.seq, .int .i64 i.at_.1, .int .i64 i.at_.2, .string i.val, .bool i.gone])] w fun e w' => ∃ bo d, e = .returned (.agg #[.slice bo vs.length d, .bool o, .int .i64 i.txn.id, .int .i64 i.txn.ep, .string i.txn.anchor, .int .i64 i.txn.start.1, .int .i64 i.txn.start.2, .int .i64 i.seq, .int .i64 i.at_.1, .int .i64 i.at_.2, .string i.val, .bool i.gone]) ∧ VOwn w.heap.size w' bo d vs ∧ Below w.heap.size w w' := by
  have hC := fun w' (hb : Below w.heap.size w w') => clone_any ao c vs w' (hv.later hb) hlim
  obtain ⟨n, hn⟩ : ∃ n, vs.length = n := ⟨_, rfl⟩
  simp only [hn] at hC ⊢
  have Hn := hide hn
  have C := (Blk.new w #[.slice ao n c, .bool o, .int .i64 i.txn.id, .int .i64 i.txn.ep, .string i.txn.anchor, .int .i64 i.txn.start.1, .int .i64 i.txn.start.2, .int .i64 i.seq, .int .i64 i.at_.1, .int .i64 i.at_.2, .string i.val, .bool i.gone] 30).alloc (.cells #[.slice none 0 0, .bool false, .int .i64 0, .int .i64 0, .string ⟨#[]⟩, .int .i64 0, .int .i64 0, .int .i64 0, .int .i64 0, .int .i64 0, .string ⟨#[]⟩, .bool false] 30)
  have R := Blk.new (w.alloc (.cells #[.slice ao n c, .bool o, .int .i64 i.txn.id, .int .i64 i.txn.ep, .string i.txn.anchor, .int .i64 i.txn.start.1, .int .i64 i.txn.start.2, .int .i64 i.seq, .int .i64 i.at_.1, .int .i64 i.at_.2, .string i.val, .bool i.gone] 30)) #[.slice none 0 0, .bool false, .int .i64 0, .int .i64 0, .string ⟨#[]⟩, .int .i64 0, .int .i64 0, .int .i64 0, .int .i64 0, .int .i64 0, .string ⟨#[]⟩, .bool false] 30
  rw [show (w.alloc (.cells #[.slice ao n c, .bool o, .int .i64 i.txn.id, .int .i64 i.txn.ep, .string i.txn.anchor, .int .i64 i.txn.start.1, .int .i64 i.txn.start.2, .int .i64 i.seq, .int .i64 i.at_.1, .int .i64 i.at_.2, .string i.val, .bool i.gone] 30)).heap.size = w.heap.size + 1 by simp] at R
  have hB : Below w.heap.size w ((w.alloc (.cells #[.slice ao n c, .bool o, .int .i64 i.txn.id, .int .i64 i.txn.ep, .string i.txn.anchor, .int .i64 i.txn.start.1, .int .i64 i.txn.start.2, .int .i64 i.seq, .int .i64 i.at_.1, .int .i64 i.at_.2, .string i.val, .bool i.gone] 30)).alloc (.cells #[.slice none 0 0, .bool false, .int .i64 0, .int .i64 0, .string ⟨#[]⟩, .int .i64 0, .int .i64 0, .int .i64 0, .int .i64 0, .int .i64 0, .string ⟨#[]⟩, .bool false] 30)) := ((Below.refl w.heap.size w).alloc (Nat.le_refl _) _).alloc (by simp) _
  clear hv hlim hn
  go_enter Try.func45, Try.ntmps45
  go_wp2_with fail
  generalize (w.alloc _).alloc _ = W at *
  refine (hC _ hB).mono ?_
  rintro e w1 ⟨bo, d, rfl, ho, hb1⟩
  have hltC := C.lt
  have hltR := R.lt
  replace C := C.later hb1
  replace R := R.later hb1
  replace hB := hB.trans (hb1.mono hB.size)
  have HO := hide ho
  clear hb1 hC ho
  have C_0 := C.c 0; have C_1 := C.c 1; have C_2 := C.c 2; have C_3 := C.c 3; have C_4 := C.c 4; have C_5 := C.c 5; have C_6 := C.c 6; have C_7 := C.c 7; have C_8 := C.c 8; have C_9 := C.c 9; have C_10 := C.c 10; have C_11 := C.c 11; simp only [List.getElem?_cons_zero, List.getElem?_cons_succ] at C_0 C_1 C_2 C_3 C_4 C_5 C_6 C_7 C_8 C_9 C_10 C_11
  have R_0 := R.c 0; have R_1 := R.c 1; have R_2 := R.c 2; have R_3 := R.c 3; have R_4 := R.c 4; have R_5 := R.c 5; have R_6 := R.c 6; have R_7 := R.c 7; have R_8 := R.c 8; have R_9 := R.c 9; have R_10 := R.c 10; have R_11 := R.c 11; simp only [List.getElem?_cons_zero, List.getElem?_cons_succ] at R_0 R_1 R_2 R_3 R_4 R_5 R_6 R_7 R_8 R_9 R_10 R_11
  have Cf := C.f
  have Rf := R.f
  have HB := hide hB
  clear hB
  go_wp2
  have C1 := C.set 0 (by simp) (.slice bo n d)
  have R1 := R.other (q := ⟨w.heap.size, 0, none⟩) (by simp) (.slice bo n d)
  have q := R1.all [.slice bo n d, .bool o, .int .i64 i.txn.id, .int .i64 i.txn.ep, .string i.txn.anchor, .int .i64 i.txn.start.1, .int .i64 i.txn.start.2, .int .i64 i.seq, .int .i64 i.at_.1, .int .i64 i.at_.2, .string i.val, .bool i.gone] rfl
  refine bodyPost_ret (results_c Try.results45 bo n d o i rfl q) rfl ⟨bo, d, rfl, ?_, below_setAll (by omega) [.slice bo n d, .bool o, .int .i64 i.txn.id, .int .i64 i.txn.ep, .string i.txn.anchor, .int .i64 i.txn.start.1, .int .i64 i.txn.start.2, .int .i64 i.seq, .int .i64 i.at_.1, .int .i64 i.at_.2, .string i.val, .bool i.gone] 0 ((unhide HB).setCell (by simp) _)⟩
  have ho := unhide HO
  have ho2 : VOwn w.heap.size (setAll (w1.setCell ⟨w.heap.size, 0, none⟩ (.slice bo n d)) (w.heap.size + 1) 0 [.slice bo n d, .bool o, .int .i64 i.txn.id, .int .i64 i.txn.ep, .string i.txn.anchor, .int .i64 i.txn.start.1, .int .i64 i.txn.start.2, .int .i64 i.seq, .int .i64 i.at_.1, .int .i64 i.at_.2, .string i.val, .bool i.gone]) bo d vs := (VOwn.others hltR [.slice bo n d, .bool o, .int .i64 i.txn.id, .int .i64 i.txn.ep, .string i.txn.anchor, .int .i64 i.txn.start.1, .int .i64 i.txn.start.2, .int .i64 i.seq, .int .i64 i.at_.1, .int .i64 i.at_.2, .string i.val, .bool i.gone] 0 (ho.other (q := ⟨w.heap.size, 0, none⟩) hltC _)).mono (by omega)
  exact ho2

theorem refcopy_any (ao : Option Addr) (c : Nat) (vs : List Ver) (o : Bool) (i : Itn) (w : World) (hv : Vs w ao c vs) (hlim : vs.length ≤ 2932031007400) :
    Calls Try.prog 23 #[(.agg #[.slice ao vs.length c, .bool o, .int .i64 i.txn.id, .int .i64 i.txn.ep, .string i.txn.anchor, .int .i64 i.txn.start.1, .int .i64 i.txn.start.2, .int .i64 i.seq, .int .i64 i.at_.1, .int .i64 i.at_.2, .string i.val, .bool i.gone])] w fun e w' => ∃ bo d, e = .returned (.agg #[.slice bo vs.length d, .bool o, .int .i64 i.txn.id, .int .i64 i.txn.ep, .string i.txn.anchor, .int .i64 i.txn.start.1, .int .i64 i.txn.start.2, .int .i64 i.seq, .int .i64 i.at_.1, .int .i64 i.at_.2, .string i.val, .bool i.gone]) ∧ VOwn w.heap.size w' bo d vs ∧ Below w.heap.size w w' := by
  obtain ⟨n, hn⟩ : ∃ n, vs.length = n := ⟨_, rfl⟩
  have Hn := hide hn
  have Hv := hide hv
  rw [hn] at hlim ⊢
  have C := (Blk.new w #[.slice ao n c, .bool o, .int .i64 i.txn.id, .int .i64 i.txn.ep, .string i.txn.anchor, .int .i64 i.txn.start.1, .int .i64 i.txn.start.2, .int .i64 i.seq, .int .i64 i.at_.1, .int .i64 i.at_.2, .string i.val, .bool i.gone] 30).alloc (.cells #[.slice none 0 0, .bool false, .int .i64 0, .int .i64 0, .string ⟨#[]⟩, .int .i64 0, .int .i64 0, .int .i64 0, .int .i64 0, .int .i64 0, .string ⟨#[]⟩, .bool false] 30)
  have R := Blk.new (w.alloc (.cells #[.slice ao n c, .bool o, .int .i64 i.txn.id, .int .i64 i.txn.ep, .string i.txn.anchor, .int .i64 i.txn.start.1, .int .i64 i.txn.start.2, .int .i64 i.seq, .int .i64 i.at_.1, .int .i64 i.at_.2, .string i.val, .bool i.gone] 30)) #[.slice none 0 0, .bool false, .int .i64 0, .int .i64 0, .string ⟨#[]⟩, .int .i64 0, .int .i64 0, .int .i64 0, .int .i64 0, .int .i64 0, .string ⟨#[]⟩, .bool false] 30
  rw [show (w.alloc (.cells #[.slice ao n c, .bool o, .int .i64 i.txn.id, .int .i64 i.txn.ep, .string i.txn.anchor, .int .i64 i.txn.start.1, .int .i64 i.txn.start.2, .int .i64 i.seq, .int .i64 i.at_.1, .int .i64 i.at_.2, .string i.val, .bool i.gone] 30)).heap.size = w.heap.size + 1 by simp] at R
  have hB : Below w.heap.size w ((w.alloc (.cells #[.slice ao n c, .bool o, .int .i64 i.txn.id, .int .i64 i.txn.ep, .string i.txn.anchor, .int .i64 i.txn.start.1, .int .i64 i.txn.start.2, .int .i64 i.seq, .int .i64 i.at_.1, .int .i64 i.at_.2, .string i.val, .bool i.gone] 30)).alloc (.cells #[.slice none 0 0, .bool false, .int .i64 0, .int .i64 0, .string ⟨#[]⟩, .int .i64 0, .int .i64 0, .int .i64 0, .int .i64 0, .int .i64 0, .string ⟨#[]⟩, .bool false] 30)) := ((Below.refl w.heap.size w).alloc (Nat.le_refl _) _).alloc (by simp) _
  have Hv1 := hide (hv.later hB)
  clear hv hn
  go_enter Try.func23, Try.ntmps23
  have C0 := fun o => (C.alloc o).c 0
  simp only [List.getElem?_cons_zero] at C0
  have hsz : ((w.alloc (.cells #[.slice ao n c, .bool o, .int .i64 i.txn.id, .int .i64 i.txn.ep, .string i.txn.anchor, .int .i64 i.txn.start.1, .int .i64 i.txn.start.2, .int .i64 i.seq, .int .i64 i.at_.1, .int .i64 i.at_.2, .string i.val, .bool i.gone] 30)).alloc (.cells #[.slice none 0 0, .bool false, .int .i64 0, .int .i64 0, .string ⟨#[]⟩, .int .i64 0, .int .i64 0, .int .i64 0, .int .i64 0, .int .i64 0, .string ⟨#[]⟩, .bool false] 30)).heap.size = w.heap.size + 1 + 1 := by simp
  have Hsz := hide hsz
  clear hsz
  go_wp2_with (at_builtin; refine wpList_append_n _ rfl (.tmp 3) (.tmp 5) rfl (w.heap.size + 1 + 1) (some ⟨w.heap.size + 1 + 1, 0, none⟩) ao 0 c 0 n n [] vs rfl rfl ?hB1 rfl ?hz1 ?hn1 ?h01 ?hx1 ?hl1 ?_)
  case hz1 => exact unhide Hn
  case h01 => exact VOwn.made (unhide Hsz)
  case hx1 => exact (unhide Hv1).alloc _
  case hl1 => rw [unhide Hn]; omega
  intro bo d w1 ho1 hg1
  have hb1 := ((Below.refl (w.heap.size + 1 + 1) _).alloc (Nat.le_of_eq (unhide Hsz).symm) _).grown hg1 (by rw [← unhide Hsz]; simp) (fun q hq => by cases hq; exact Nat.le_refl _)
  generalize (w.alloc _).alloc _ = W at *
  rw [← unhide Hsz] at hb1 ho1
  have hltC := C.lt
  have hltR := R.lt
  replace C := C.later hb1
  replace R := R.later hb1
  replace hB := hB.trans (hb1.mono hB.size)
  have ho : VOwn W.heap.size w1 bo d vs := ho1
  have HO := hide ho
  clear hb1 hg1 ho1 ho C0
  have C_0 := C.c 0; have C_1 := C.c 1; have C_2 := C.c 2; have C_3 := C.c 3; have C_4 := C.c 4; have C_5 := C.c 5; have C_6 := C.c 6; have C_7 := C.c 7; have C_8 := C.c 8; have C_9 := C.c 9; have C_10 := C.c 10; have C_11 := C.c 11; simp only [List.getElem?_cons_zero, List.getElem?_cons_succ] at C_0 C_1 C_2 C_3 C_4 C_5 C_6 C_7 C_8 C_9 C_10 C_11
  have R_0 := R.c 0; have R_1 := R.c 1; have R_2 := R.c 2; have R_3 := R.c 3; have R_4 := R.c 4; have R_5 := R.c 5; have R_6 := R.c 6; have R_7 := R.c 7; have R_8 := R.c 8; have R_9 := R.c 9; have R_10 := R.c 10; have R_11 := R.c 11; simp only [List.getElem?_cons_zero, List.getElem?_cons_succ] at R_0 R_1 R_2 R_3 R_4 R_5 R_6 R_7 R_8 R_9 R_10 R_11
  have Cf := C.f
  have Rf := R.f
  have HB := hide hB
  clear hB
  go_wp2
  have C1 := C.set 0 (by simp) (.slice bo n d)
  have R1 := R.other (q := ⟨w.heap.size, 0, none⟩) (by simp) (.slice bo n d)
  have q := R1.all [.slice bo n d, .bool o, .int .i64 i.txn.id, .int .i64 i.txn.ep, .string i.txn.anchor, .int .i64 i.txn.start.1, .int .i64 i.txn.start.2, .int .i64 i.seq, .int .i64 i.at_.1, .int .i64 i.at_.2, .string i.val, .bool i.gone] rfl
  refine bodyPost_ret (results_c Try.results23 bo n d o i rfl q) rfl ⟨bo, d, rfl, ?_, below_setAll (by omega) [.slice bo n d, .bool o, .int .i64 i.txn.id, .int .i64 i.txn.ep, .string i.txn.anchor, .int .i64 i.txn.start.1, .int .i64 i.txn.start.2, .int .i64 i.seq, .int .i64 i.at_.1, .int .i64 i.at_.2, .string i.val, .bool i.gone] 0 ((unhide HB).setCell (by simp) _)⟩
  have ho := unhide HO
  have ho2 : VOwn w.heap.size (setAll (w1.setCell ⟨w.heap.size, 0, none⟩ (.slice bo n d)) (w.heap.size + 1) 0 [.slice bo n d, .bool o, .int .i64 i.txn.id, .int .i64 i.txn.ep, .string i.txn.anchor, .int .i64 i.txn.start.1, .int .i64 i.txn.start.2, .int .i64 i.seq, .int .i64 i.at_.1, .int .i64 i.at_.2, .string i.val, .bool i.gone]) bo d vs := (VOwn.others hltR [.slice bo n d, .bool o, .int .i64 i.txn.id, .int .i64 i.txn.ep, .string i.txn.anchor, .int .i64 i.txn.start.1, .int .i64 i.txn.start.2, .int .i64 i.seq, .int .i64 i.at_.1, .int .i64 i.at_.2, .string i.val, .bool i.gone] 0 (ho.other (q := ⟨w.heap.size, 0, none⟩) hltC _)).mono (by omega)
  exact ho2

/-- The closure of Write: is a version this transaction's? -/
theorem isby_any (I : Nat) (i : Itn) (v : Ver) (w : World) (hI : Blk w I [.int .i64 i.txn.id, .int .i64 i.txn.ep, .string i.txn.anchor, .int .i64 i.txn.start.1, .int .i64 i.txn.start.2, .int .i64 i.seq, .int .i64 i.at_.1, .int .i64 i.at_.2, .string i.val, .bool i.gone]) :
    Calls Try.prog 43 #[(.agg #[.int .i64 v.at_.1, .int .i64 v.at_.2, .string v.val, .bool v.gone, .int .i64 v.by_]), .pointer (some ⟨I, 0, none⟩)] w fun e w' => e = .returned (.bool (decide (v.by_ = i.txn.id))) ∧ Below w.heap.size w w' := by
  have I0 := fun o => (hI.alloc o).c 0
  simp only [List.getElem?_cons_zero] at I0
  clear hI
  go_enter Try.func43, Try.ntmps43
  go_wp2
  go_ret
  exact ⟨by simp [BEq.beq], (Below.refl _ _).alloc (Nat.le_refl _) _⟩

/-- The first place of a version of this transaction, or -1. -/
def idx (vs : List Ver) (id : Int) : Int := match vs.findIdx? (fun v => decide (v.by_ = id)) with | some k => k | none => -1

theorem index_any (I c : Nat) (ao : Option Addr) (vs : List Ver) (i : Itn) (w : World) (hI : Blk w I [.int .i64 i.txn.id, .int .i64 i.txn.ep, .string i.txn.anchor, .int .i64 i.txn.start.1, .int .i64 i.txn.start.2, .int .i64 i.seq, .int .i64 i.at_.1, .int .i64 i.at_.2, .string i.val, .bool i.gone]) (hv : Vs w ao c vs) :
    Calls Try.prog 53 #[.slice ao vs.length c, .func (.func 43) #[] #[.pointer (some ⟨I, 0, none⟩)]] w fun e w' => ∃ z : Int, e = .returned (.int .i64 z) ∧ (0 ≤ z ↔ (vs.any fun v => decide (v.by_ = i.txn.id)) = true) ∧ Below w.heap.size w w' := by
  have l1 := hv.len
  simp only [maxLen] at l1
  have HI := hide hI
  have Hv := hide hv
  obtain ⟨n, hn⟩ : ∃ n, vs.length = n := ⟨_, rfl⟩
  have Hn := hide hn
  rw [hn] at l1 ⊢
  clear hI hv hn
  go_enter Try.func53, Try.ntmps53
  go_wp2
  go_loopw [8] (fun u wr => ∃ k : Nat, u = .int .i64 k ∧ k ≤ n ∧ Hid (∀ j (h : j < vs.length), j < k → decide (vs[j].by_ = i.txn.id) = false) ∧ Hid (Below w.heap.size w wr)) (fun u _ => n - (intOf u).toNat)
  case atStart => exact ⟨0, rfl, by omega, (fun j _ h => absurd h (Nat.not_lt_zero _)), Below.refl _ _⟩
  case round =>
    obtain ⟨k, rfl, hk, Ha, Hb⟩ := hrel
    by_cases hlt : k < n
    · have h1 : k < vs.length := by have := unhide Hn; omega
      obtain ⟨b, q, rfl, x⟩ := (unhide Hv).each k h1
      obtain ⟨v, hv0⟩ : ∃ v, vs[k] = v := ⟨_, rfl⟩
      rw [hv0] at x
      have Hs := hide hv0
      replace x := x.block ((unhide Hb).block _ x.lt)
      have x0 := x.c0
      have x1 := x.c1
      have x2 := x.c2
      have x3 := x.c3
      have x4 := x.c4
      have hc := isby_any I i v wr ((unhide HI).later (unhide Hb))
      clear hv0 x
      cases hq : decide (v.by_ = i.txn.id)
      · have Hq := hide hq
        rw [hq] at hc
        clear hq
        go_wp2_with fail
        refine hc.mono ?_
        rintro e w1 ⟨rfl, hb1⟩
        have HB1 := hide ((unhide Hb).trans (hb1.mono (unhide Hb).size))
        clear hb1 x0 x1 x2 x3 x4 hc
        go_wp2
        go_roundw
        case rel =>
          refine ⟨k + 1, by go_num, by omega, (fun j a hj => ?_), unhide HB1⟩
          by_cases e : j = k
          · subst e
            rw [unhide Hs]; exact unhide Hq
          · exact unhide Ha j a (by omega)
        case measure => simp [intOf]; omega
      · have Hq := hide hq
        rw [hq] at hc
        clear hq
        go_wp2_with fail
        refine hc.mono ?_
        rintro e w1 ⟨rfl, hb1⟩
        have HB1 := hide ((unhide Hb).trans (hb1.mono (unhide Hb).size))
        clear hb1 x0 x1 x2 x3 x4 hc
        go_wp2
        go_ret
        refine ⟨k, rfl, ⟨fun _ => ?_, fun _ => by omega⟩, unhide HB1⟩
        exact List.any_eq_true.2 ⟨vs[k], List.getElem_mem _, by rw [unhide Hs]; exact unhide Hq⟩
    · go_wp2
      go_ret
      refine ⟨-1, rfl, ⟨fun h => absurd h (by decide), fun h => ?_⟩, unhide Hb⟩
      obtain ⟨v, hv, h1⟩ := List.any_eq_true.1 h
      obtain ⟨j, hj, rfl⟩ := List.getElem_of_mem hv
      rw [unhide Ha j hj (by have := unhide Hn; omega)] at h1
      cases h1

theorem contains_any (I c : Nat) (ao : Option Addr) (vs : List Ver) (i : Itn) (w : World) (hI : Blk w I [.int .i64 i.txn.id, .int .i64 i.txn.ep, .string i.txn.anchor, .int .i64 i.txn.start.1, .int .i64 i.txn.start.2, .int .i64 i.seq, .int .i64 i.at_.1, .int .i64 i.at_.2, .string i.val, .bool i.gone]) (hv : Vs w ao c vs) :
    Calls Try.prog 44 #[.slice ao vs.length c, .func (.func 43) #[] #[.pointer (some ⟨I, 0, none⟩)]] w fun e w' => e = .returned (.bool (vs.any fun v => decide (v.by_ = i.txn.id))) ∧ Below w.heap.size w w' := by
  have hX := index_any I c ao vs i w hI hv
  generalize (vs.any fun v => decide (v.by_ = i.txn.id)) = z at *
  generalize vs.length = n at *
  clear hI hv
  go_enter Try.func44, Try.ntmps44
  go_wp2_with fail
  refine hX.mono ?_
  rintro e w1 ⟨k, rfl, hk, hb⟩
  have H := hide hb
  have Hk := hide hk
  clear hb hk
  by_cases h0 : 0 ≤ k
  · obtain rfl : z = true := (unhide Hk).1 h0
    go_wp2
    go_ret
    exact ⟨rfl, unhide H⟩
  · obtain rfl : z = false := by
      cases z
      · rfl
      · exact absurd ((unhide Hk).2 rfl) h0
    go_wp2
    go_ret
    exact ⟨by simp [h0], unhide H⟩
end

end Go.Proofs.Ytcahmnpoajnmpaa
