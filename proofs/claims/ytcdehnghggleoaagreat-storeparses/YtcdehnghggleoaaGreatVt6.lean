/-
  The contract of version.Resolve. No law is proved here.
-/
import Derived.Test.YtcdehnghggleoaaGreatGz7
import Derived.BigRegion
import Derived.Deep.RegionHeldLaw
import Derived.Deep.Cut
import Derived.Deep.RegionLaw
namespace Go.Proofs.YtcdehnghggleoaaGreat
open Go.RowKit
set_option linter.unusedVariables false

theorem results_ce {fn : Func} {k1 k4 : Nat} (hf : fn.results = #[.cell k1 61, .tmp k4]) {tmps : Array Value} {w : World} {B1 : Nat} (ao : Option Addr) (n c : Nat) (o : Bool) (i : Itn) {y : Value}
    (hk1 : tmps[k1]? = some (.pointer (some ⟨B1, 0, none⟩))) (hk4 : tmps[k4]? = some y) (h1 : Blk w B1 [.slice ao n c, .bool o, .int .i64 i.txn.id, .int .i64 i.txn.ep, .string i.txn.anchor, .int .i64 i.txn.start.1, .int .i64 i.txn.start.2, .int .i64 i.seq, .int .i64 i.at_.1, .int .i64 i.at_.2, .string i.val, .bool i.gone]) : (results fn tmps).run Tryz.prog w = .ok (.tuple #[(.agg #[.slice ao n c, .bool o, .int .i64 i.txn.id, .int .i64 i.txn.ep, .string i.txn.anchor, .int .i64 i.txn.start.1, .int .i64 i.txn.start.2, .int .i64 i.seq, .int .i64 i.at_.1, .int .i64 i.at_.2, .string i.val, .bool i.gone]), y]) w := by
  simp [results, hf, go_sem, h1.c, hk1, hk4]

theorem fit_all (vs : List Ver) (a : Stp) : (okS a = true ∧ ∀ s, lastS vs = some s → ltB s a = true) ↔ fitB vs a = true := (fitB_iff vs a).symm

theorem step_append_vs {ops : Array Oper} {o : Oper} {ac : Act} {w : World} {K : Act → World → Prop} {Q : Exit → Act → World → Prop} {E : Prop} (hgd : o.guard = none) (s x : Operand)
    (ho : o.op = .call { callee := .builtin .append, args := #[s, x], argTypes := #[59, 59] })
    (B : Nat) (ao bo : Option Addr) (c d k m n : Nat) (us vs : List Ver) (hv : ac.eval s = .slice ao k c) (hxv : ac.eval x = .slice bo m d) (hB : B ≤ w.heap.size) (hk : us.length = k) (hm : vs.length = m) (hn : k + m = n) (h : VOwn B w ao c us) (hx : Vs w bo d vs)
    (hlen : us.length + vs.length ≤ 2932031007401)
    (hK : ∀ eo f w', VOwn B w' eo f (us ++ vs) → w.grownBy w' (Value.slice ao k c).ownBlock → K (ac.put o.dst (.slice eo n f)) w') : if Region.wanted o (yielded ops ac.tmps) = true then Oper.wp Tryz.prog o ac w K Q else E := by
  subst hk hm hn
  have hw : Region.wanted o (yielded ops ac.tmps) = true := by simp [Region.wanted, hgd]
  rw [if_pos hw]
  obtain ⟨eo, f, w', hr, h2, h3⟩ := run_append_vs w B hB ao bo c d us vs h hx hlen o.type
  unfold Oper.wp execOp
  simp only [ho, resolve, invoke, builtin, Sem.run_bind, Sem.run_pure, Result.andThen_ok, List.map_toArray, List.map_cons, List.map_nil, hv, hxv, hr]
  rw [List.length_append]
  exact hK eo f w' h2 h3

theorem vs_one (w : World) (v : Ver) : Vs (w.alloc (.cells #[.int .i64 v.at_.1, .int .i64 v.at_.2, .string v.val, .bool v.gone, .int .i64 v.by_] 97)) (some ⟨w.heap.size, 0, none⟩) 1 [v] :=
  ⟨Nat.le_refl _, by unfold maxLen; decide, fun e => (by cases e), fun i hi => by
    have : i = 0 := by simpa using hi
    subst this
    exact ⟨w.heap.size, 0, rfl, by simp, by simp, by simp, by simp, by simp⟩⟩

section
set_option maxRecDepth 100000
set_option maxHeartbeats 20000000

theorem resolve_any (ao : Option Addr) (c : Nat) (vs : List Ver) (o : Bool) (i : Itn) (id ep : Int) (commit : Bool) (a : Stp) (w : World) (hv : Vs w ao c vs) (hlim : vs.length ≤ 2932031007400) :
    Calls Tryz.prog 40 #[(.agg #[.slice ao vs.length c, .bool o, .int .i64 i.txn.id, .int .i64 i.txn.ep, .string i.txn.anchor, .int .i64 i.txn.start.1, .int .i64 i.txn.start.2, .int .i64 i.seq, .int .i64 i.at_.1, .int .i64 i.at_.2, .string i.val, .bool i.gone]), .int .i64 id, .int .i64 ep, .bool commit, (.agg #[.int .i64 a.1, .int .i64 a.2])] w fun e w' => ∃ bo d, e = .returned (.tuple #[(.agg #[.slice bo (resolveC ⟨vs, o, i⟩ id ep commit a).1.vs.length d, .bool (resolveC ⟨vs, o, i⟩ id ep commit a).1.opn, .int .i64 (resolveC ⟨vs, o, i⟩ id ep commit a).1.itn.txn.id, .int .i64 (resolveC ⟨vs, o, i⟩ id ep commit a).1.itn.txn.ep, .string (resolveC ⟨vs, o, i⟩ id ep commit a).1.itn.txn.anchor, .int .i64 (resolveC ⟨vs, o, i⟩ id ep commit a).1.itn.txn.start.1, .int .i64 (resolveC ⟨vs, o, i⟩ id ep commit a).1.itn.txn.start.2, .int .i64 (resolveC ⟨vs, o, i⟩ id ep commit a).1.itn.seq, .int .i64 (resolveC ⟨vs, o, i⟩ id ep commit a).1.itn.at_.1, .int .i64 (resolveC ⟨vs, o, i⟩ id ep commit a).1.itn.at_.2, .string (resolveC ⟨vs, o, i⟩ id ep commit a).1.itn.val, .bool (resolveC ⟨vs, o, i⟩ id ep commit a).1.itn.gone]), .int .i64 (resolveC ⟨vs, o, i⟩ id ep commit a).2]) ∧ VOwn w.heap.size w' bo d (resolveC ⟨vs, o, i⟩ id ep commit a).1.vs ∧ Below w.heap.size w w' := by
  obtain ⟨X, hX⟩ : ∃ X, resolveC ⟨vs, o, i⟩ id ep commit a = X := ⟨_, rfl⟩
  rw [hX]
  unfold resolveC at hX
  simp only at hX
  have hO := fun w => isown_any ao vs.length c o i id w
  have hCo := fun w' (hb : Below w.heap.size w w') => copied_any ao c vs o i w' (hv.later hb) hlim
  have hFi := fun w' (hb : Below w.heap.size w w') => fits_any ao c vs a w' (hv.later hb)
  obtain ⟨n, hn⟩ : ∃ n, vs.length = n := ⟨_, rfl⟩
  have Hn := hide hn
  simp only [hn] at hO hCo hFi hlim ⊢
  have C := ((Blk.new w #[.slice ao n c, .bool o, .int .i64 i.txn.id, .int .i64 i.txn.ep, .string i.txn.anchor, .int .i64 i.txn.start.1, .int .i64 i.txn.start.2, .int .i64 i.seq, .int .i64 i.at_.1, .int .i64 i.at_.2, .string i.val, .bool i.gone] 61).alloc (.cells #[.int .i64 a.1, .int .i64 a.2] 36)).alloc (.cells #[.slice none 0 0, .bool false, .int .i64 0, .int .i64 0, .string ⟨#[]⟩, .int .i64 0, .int .i64 0, .int .i64 0, .int .i64 0, .int .i64 0, .string ⟨#[]⟩, .bool false] 61)
  have A := (Blk.new (w.alloc (.cells #[.slice ao n c, .bool o, .int .i64 i.txn.id, .int .i64 i.txn.ep, .string i.txn.anchor, .int .i64 i.txn.start.1, .int .i64 i.txn.start.2, .int .i64 i.seq, .int .i64 i.at_.1, .int .i64 i.at_.2, .string i.val, .bool i.gone] 61)) #[.int .i64 a.1, .int .i64 a.2] 36).alloc (.cells #[.slice none 0 0, .bool false, .int .i64 0, .int .i64 0, .string ⟨#[]⟩, .int .i64 0, .int .i64 0, .int .i64 0, .int .i64 0, .int .i64 0, .string ⟨#[]⟩, .bool false] 61)
  rw [show (w.alloc (.cells #[.slice ao n c, .bool o, .int .i64 i.txn.id, .int .i64 i.txn.ep, .string i.txn.anchor, .int .i64 i.txn.start.1, .int .i64 i.txn.start.2, .int .i64 i.seq, .int .i64 i.at_.1, .int .i64 i.at_.2, .string i.val, .bool i.gone] 61)).heap.size = w.heap.size + 1 by simp] at A
  have R := Blk.new ((w.alloc (.cells #[.slice ao n c, .bool o, .int .i64 i.txn.id, .int .i64 i.txn.ep, .string i.txn.anchor, .int .i64 i.txn.start.1, .int .i64 i.txn.start.2, .int .i64 i.seq, .int .i64 i.at_.1, .int .i64 i.at_.2, .string i.val, .bool i.gone] 61)).alloc (.cells #[.int .i64 a.1, .int .i64 a.2] 36)) #[.slice none 0 0, .bool false, .int .i64 0, .int .i64 0, .string ⟨#[]⟩, .int .i64 0, .int .i64 0, .int .i64 0, .int .i64 0, .int .i64 0, .string ⟨#[]⟩, .bool false] 61
  rw [show ((w.alloc (.cells #[.slice ao n c, .bool o, .int .i64 i.txn.id, .int .i64 i.txn.ep, .string i.txn.anchor, .int .i64 i.txn.start.1, .int .i64 i.txn.start.2, .int .i64 i.seq, .int .i64 i.at_.1, .int .i64 i.at_.2, .string i.val, .bool i.gone] 61)).alloc (.cells #[.int .i64 a.1, .int .i64 a.2] 36)).heap.size = w.heap.size + 1 + 1 by simp] at R
  have hB : Below w.heap.size w (((w.alloc (.cells #[.slice ao n c, .bool o, .int .i64 i.txn.id, .int .i64 i.txn.ep, .string i.txn.anchor, .int .i64 i.txn.start.1, .int .i64 i.txn.start.2, .int .i64 i.seq, .int .i64 i.at_.1, .int .i64 i.at_.2, .string i.val, .bool i.gone] 61)).alloc (.cells #[.int .i64 a.1, .int .i64 a.2] 36)).alloc (.cells #[.slice none 0 0, .bool false, .int .i64 0, .int .i64 0, .string ⟨#[]⟩, .int .i64 0, .int .i64 0, .int .i64 0, .int .i64 0, .int .i64 0, .string ⟨#[]⟩, .bool false] 61)) := (((Below.refl w.heap.size w).alloc (Nat.le_refl _) _).alloc (by simp) _).alloc (by simp; omega) _
  clear hv hn
  by_cases h1 : o = false ∨ i.txn.id ≠ id
  · rw [if_pos h1] at hX
    subst hX
    rw [show (o && decide (i.txn.id = id)) = false by rcases h1 with rfl | h1 <;> simp_all] at hO
    clear h1 hFi
    cases commit
    · go_enter Tryz.func40, Tryz.ntmps40
      go_wp2_with fail
      generalize ((w.alloc _).alloc _).alloc _ = W at *
      refine (hO _).mono ?_
      rintro e w1 ⟨rfl, hb1⟩
      replace C := C.later hb1
      replace A := A.later hb1
      replace R := R.later hb1
      replace hB := hB.trans (hb1.mono hB.size)
      clear hb1 hO
      have C_0 := C.c 0; have C_1 := C.c 1; have C_2 := C.c 2; have C_3 := C.c 3; have C_4 := C.c 4; have C_5 := C.c 5; have C_6 := C.c 6; have C_7 := C.c 7; have C_8 := C.c 8; have C_9 := C.c 9; have C_10 := C.c 10; have C_11 := C.c 11; simp only [List.getElem?_cons_zero, List.getElem?_cons_succ] at C_0 C_1 C_2 C_3 C_4 C_5 C_6 C_7 C_8 C_9 C_10 C_11
      go_wp2_with fail
      have hltR := R.lt
      refine (hCo _ hB).mono ?_
      rintro e w4 ⟨bo, d, rfl, ho, hb4⟩
      clear C_0 C_1 C_2 C_3 C_4 C_5 C_6 C_7 C_8 C_9 C_10 C_11
      replace R := R.later hb4
      have HB := hide (hB.trans (hb4.mono hB.size))
      have HO := hide ho
      clear hb4 hB hCo ho C A
      have R_0 := R.c 0; have R_1 := R.c 1; have R_2 := R.c 2; have R_3 := R.c 3; have R_4 := R.c 4; have R_5 := R.c 5; have R_6 := R.c 6; have R_7 := R.c 7; have R_8 := R.c 8; have R_9 := R.c 9; have R_10 := R.c 10; have R_11 := R.c 11; simp only [List.getElem?_cons_zero, List.getElem?_cons_succ] at R_0 R_1 R_2 R_3 R_4 R_5 R_6 R_7 R_8 R_9 R_10 R_11
      have Rf := R.f
      go_wp2
      refine bodyPost_ret (results_ce Tryz.results40 bo n d _ i rfl rfl (R.all [.slice bo n d, .bool _, .int .i64 i.txn.id, .int .i64 i.txn.ep, .string i.txn.anchor, .int .i64 i.txn.start.1, .int .i64 i.txn.start.2, .int .i64 i.seq, .int .i64 i.at_.1, .int .i64 i.at_.2, .string i.val, .bool i.gone] rfl)) rfl ⟨bo, d, ?_, ?_, below_setAll (by omega) [.slice bo n d, .bool _, .int .i64 i.txn.id, .int .i64 i.txn.ep, .string i.txn.anchor, .int .i64 i.txn.start.1, .int .i64 i.txn.start.2, .int .i64 i.seq, .int .i64 i.at_.1, .int .i64 i.at_.2, .string i.val, .bool i.gone] 0 (unhide HB)⟩
      · show _ = Ending.returned (.tuple #[(.agg #[.slice bo vs.length d, .bool _, .int .i64 i.txn.id, .int .i64 i.txn.ep, .string i.txn.anchor, .int .i64 i.txn.start.1, .int .i64 i.txn.start.2, .int .i64 i.seq, .int .i64 i.at_.1, .int .i64 i.at_.2, .string i.val, .bool i.gone]), .int .i64 0])
        rw [unhide Hn]
        rfl
      · exact (VOwn.others hltR [.slice bo n d, .bool _, .int .i64 i.txn.id, .int .i64 i.txn.ep, .string i.txn.anchor, .int .i64 i.txn.start.1, .int .i64 i.txn.start.2, .int .i64 i.seq, .int .i64 i.at_.1, .int .i64 i.at_.2, .string i.val, .bool i.gone] 0 (unhide HO)).mono (by omega)
    · go_enter Tryz.func40, Tryz.ntmps40
      go_wp2_with fail
      generalize ((w.alloc _).alloc _).alloc _ = W at *
      refine (hO _).mono ?_
      rintro e w1 ⟨rfl, hb1⟩
      replace C := C.later hb1
      replace A := A.later hb1
      replace R := R.later hb1
      replace hB := hB.trans (hb1.mono hB.size)
      clear hb1 hO
      have C_0 := C.c 0; have C_1 := C.c 1; have C_2 := C.c 2; have C_3 := C.c 3; have C_4 := C.c 4; have C_5 := C.c 5; have C_6 := C.c 6; have C_7 := C.c 7; have C_8 := C.c 8; have C_9 := C.c 9; have C_10 := C.c 10; have C_11 := C.c 11; simp only [List.getElem?_cons_zero, List.getElem?_cons_succ] at C_0 C_1 C_2 C_3 C_4 C_5 C_6 C_7 C_8 C_9 C_10 C_11
      go_wp2_with fail
      have hltR := R.lt
      refine (hCo _ hB).mono ?_
      rintro e w4 ⟨bo, d, rfl, ho, hb4⟩
      clear C_0 C_1 C_2 C_3 C_4 C_5 C_6 C_7 C_8 C_9 C_10 C_11
      replace R := R.later hb4
      have HB := hide (hB.trans (hb4.mono hB.size))
      have HO := hide ho
      clear hb4 hB hCo ho C A
      have R_0 := R.c 0; have R_1 := R.c 1; have R_2 := R.c 2; have R_3 := R.c 3; have R_4 := R.c 4; have R_5 := R.c 5; have R_6 := R.c 6; have R_7 := R.c 7; have R_8 := R.c 8; have R_9 := R.c 9; have R_10 := R.c 10; have R_11 := R.c 11; simp only [List.getElem?_cons_zero, List.getElem?_cons_succ] at R_0 R_1 R_2 R_3 R_4 R_5 R_6 R_7 R_8 R_9 R_10 R_11
      have Rf := R.f
      go_wp2
      refine bodyPost_ret (results_ce Tryz.results40 bo n d _ i rfl rfl (R.all [.slice bo n d, .bool _, .int .i64 i.txn.id, .int .i64 i.txn.ep, .string i.txn.anchor, .int .i64 i.txn.start.1, .int .i64 i.txn.start.2, .int .i64 i.seq, .int .i64 i.at_.1, .int .i64 i.at_.2, .string i.val, .bool i.gone] rfl)) rfl ⟨bo, d, ?_, ?_, below_setAll (by omega) [.slice bo n d, .bool _, .int .i64 i.txn.id, .int .i64 i.txn.ep, .string i.txn.anchor, .int .i64 i.txn.start.1, .int .i64 i.txn.start.2, .int .i64 i.seq, .int .i64 i.at_.1, .int .i64 i.at_.2, .string i.val, .bool i.gone] 0 (unhide HB)⟩
      · show _ = Ending.returned (.tuple #[(.agg #[.slice bo vs.length d, .bool _, .int .i64 i.txn.id, .int .i64 i.txn.ep, .string i.txn.anchor, .int .i64 i.txn.start.1, .int .i64 i.txn.start.2, .int .i64 i.seq, .int .i64 i.at_.1, .int .i64 i.at_.2, .string i.val, .bool i.gone]), .int .i64 0])
        rw [unhide Hn]
        rfl
      · exact (VOwn.others hltR [.slice bo n d, .bool _, .int .i64 i.txn.id, .int .i64 i.txn.ep, .string i.txn.anchor, .int .i64 i.txn.start.1, .int .i64 i.txn.start.2, .int .i64 i.seq, .int .i64 i.at_.1, .int .i64 i.at_.2, .string i.val, .bool i.gone] 0 (unhide HO)).mono (by omega)
  rw [if_neg h1] at hX
  have ho : o = true := by cases o; exact absurd (.inl rfl) h1; rfl
  have hid : i.txn.id = id := Classical.byContradiction fun e => h1 (.inr e)
  subst ho hid
  rw [show (true && decide (i.txn.id = i.txn.id)) = true by simp] at hO
  clear h1
  have HX := hide hX
  clear hX
  cases commit
  · by_cases h2 : ep < i.txn.ep
    · obtain rfl : X = (⟨vs, true, i⟩, 0) := by rw [← unhide HX, if_pos ⟨rfl, h2⟩]
      clear HX hFi
      go_enter Tryz.func40, Tryz.ntmps40
      go_wp2_with fail
      generalize ((w.alloc _).alloc _).alloc _ = W at *
      refine (hO _).mono ?_
      rintro e w1 ⟨rfl, hb1⟩
      replace C := C.later hb1
      replace A := A.later hb1
      replace R := R.later hb1
      replace hB := hB.trans (hb1.mono hB.size)
      clear hb1 hO
      have C_0 := C.c 0; have C_1 := C.c 1; have C_2 := C.c 2; have C_3 := C.c 3; have C_4 := C.c 4; have C_5 := C.c 5; have C_6 := C.c 6; have C_7 := C.c 7; have C_8 := C.c 8; have C_9 := C.c 9; have C_10 := C.c 10; have C_11 := C.c 11; simp only [List.getElem?_cons_zero, List.getElem?_cons_succ] at C_0 C_1 C_2 C_3 C_4 C_5 C_6 C_7 C_8 C_9 C_10 C_11
      go_wp2_with fail
      have hltR := R.lt
      refine (hCo _ hB).mono ?_
      rintro e w4 ⟨bo, d, rfl, ho, hb4⟩
      clear C_0 C_1 C_2 C_3 C_4 C_5 C_6 C_7 C_8 C_9 C_10 C_11
      replace R := R.later hb4
      have HB := hide (hB.trans (hb4.mono hB.size))
      have HO := hide ho
      clear hb4 hB hCo ho C A
      have R_0 := R.c 0; have R_1 := R.c 1; have R_2 := R.c 2; have R_3 := R.c 3; have R_4 := R.c 4; have R_5 := R.c 5; have R_6 := R.c 6; have R_7 := R.c 7; have R_8 := R.c 8; have R_9 := R.c 9; have R_10 := R.c 10; have R_11 := R.c 11; simp only [List.getElem?_cons_zero, List.getElem?_cons_succ] at R_0 R_1 R_2 R_3 R_4 R_5 R_6 R_7 R_8 R_9 R_10 R_11
      have Rf := R.f
      go_wp2
      refine bodyPost_ret (results_ce Tryz.results40 bo n d _ i rfl rfl (R.all [.slice bo n d, .bool _, .int .i64 i.txn.id, .int .i64 i.txn.ep, .string i.txn.anchor, .int .i64 i.txn.start.1, .int .i64 i.txn.start.2, .int .i64 i.seq, .int .i64 i.at_.1, .int .i64 i.at_.2, .string i.val, .bool i.gone] rfl)) rfl ⟨bo, d, ?_, ?_, below_setAll (by omega) [.slice bo n d, .bool _, .int .i64 i.txn.id, .int .i64 i.txn.ep, .string i.txn.anchor, .int .i64 i.txn.start.1, .int .i64 i.txn.start.2, .int .i64 i.seq, .int .i64 i.at_.1, .int .i64 i.at_.2, .string i.val, .bool i.gone] 0 (unhide HB)⟩
      · show _ = Ending.returned (.tuple #[(.agg #[.slice bo vs.length d, .bool _, .int .i64 i.txn.id, .int .i64 i.txn.ep, .string i.txn.anchor, .int .i64 i.txn.start.1, .int .i64 i.txn.start.2, .int .i64 i.seq, .int .i64 i.at_.1, .int .i64 i.at_.2, .string i.val, .bool i.gone]), .int .i64 0])
        rw [unhide Hn]
        rfl
      · exact (VOwn.others hltR [.slice bo n d, .bool _, .int .i64 i.txn.id, .int .i64 i.txn.ep, .string i.txn.anchor, .int .i64 i.txn.start.1, .int .i64 i.txn.start.2, .int .i64 i.seq, .int .i64 i.at_.1, .int .i64 i.at_.2, .string i.val, .bool i.gone] 0 (unhide HO)).mono (by omega)
    · obtain rfl : X = (⟨vs, false, Itn.zero⟩, 0) := by rw [← unhide HX, if_neg (fun e => h2 e.2), if_neg (fun e => by cases e.1)]
      clear HX hFi
      go_enter Tryz.func40, Tryz.ntmps40
      go_wp2_with fail
      generalize ((w.alloc _).alloc _).alloc _ = W at *
      refine (hO _).mono ?_
      rintro e w1 ⟨rfl, hb1⟩
      replace C := C.later hb1
      replace A := A.later hb1
      replace R := R.later hb1
      replace hB := hB.trans (hb1.mono hB.size)
      clear hb1 hO
      have C_0 := C.c 0; have C_1 := C.c 1; have C_2 := C.c 2; have C_3 := C.c 3; have C_4 := C.c 4; have C_5 := C.c 5; have C_6 := C.c 6; have C_7 := C.c 7; have C_8 := C.c 8; have C_9 := C.c 9; have C_10 := C.c 10; have C_11 := C.c 11; simp only [List.getElem?_cons_zero, List.getElem?_cons_succ] at C_0 C_1 C_2 C_3 C_4 C_5 C_6 C_7 C_8 C_9 C_10 C_11
      have C0 := C
      have I := Blk.new w1 #[.int .i64 i.txn.id, .int .i64 i.txn.ep, .string i.txn.anchor, .int .i64 i.txn.start.1, .int .i64 i.txn.start.2, .int .i64 i.seq, .int .i64 i.at_.1, .int .i64 i.at_.2, .string i.val, .bool i.gone] 42
      have hIC : w1.heap.size ≠ w.heap.size := (Nat.ne_of_lt C.lt).symm
      have hIA : w1.heap.size ≠ w.heap.size + 1 := (Nat.ne_of_lt A.lt).symm
      have hIR : w1.heap.size ≠ w.heap.size + 1 + 1 := (Nat.ne_of_lt R.lt).symm
      replace C := C.alloc (.cells #[.int .i64 i.txn.id, .int .i64 i.txn.ep, .string i.txn.anchor, .int .i64 i.txn.start.1, .int .i64 i.txn.start.2, .int .i64 i.seq, .int .i64 i.at_.1, .int .i64 i.at_.2, .string i.val, .bool i.gone] 42)
      replace A := A.alloc (.cells #[.int .i64 i.txn.id, .int .i64 i.txn.ep, .string i.txn.anchor, .int .i64 i.txn.start.1, .int .i64 i.txn.start.2, .int .i64 i.seq, .int .i64 i.at_.1, .int .i64 i.at_.2, .string i.val, .bool i.gone] 42)
      replace R := R.alloc (.cells #[.int .i64 i.txn.id, .int .i64 i.txn.ep, .string i.txn.anchor, .int .i64 i.txn.start.1, .int .i64 i.txn.start.2, .int .i64 i.seq, .int .i64 i.at_.1, .int .i64 i.at_.2, .string i.val, .bool i.gone] 42)
      replace hB := hB.alloc hB.size (.cells #[.int .i64 i.txn.id, .int .i64 i.txn.ep, .string i.txn.anchor, .int .i64 i.txn.start.1, .int .i64 i.txn.start.2, .int .i64 i.seq, .int .i64 i.at_.1, .int .i64 i.at_.2, .string i.val, .bool i.gone] 42)
      have hltC := C.lt
      have hltA := A.lt
      have hltR := R.lt
      have hltI := I.lt
      have C0_0 := fun o => (C0.alloc o).c 0; have C0_1 := fun o => (C0.alloc o).c 1; have C0_2 := fun o => (C0.alloc o).c 2; have C0_3 := fun o => (C0.alloc o).c 3; have C0_4 := fun o => (C0.alloc o).c 4; have C0_5 := fun o => (C0.alloc o).c 5; have C0_6 := fun o => (C0.alloc o).c 6; have C0_7 := fun o => (C0.alloc o).c 7; have C0_8 := fun o => (C0.alloc o).c 8; have C0_9 := fun o => (C0.alloc o).c 9; have C0_10 := fun o => (C0.alloc o).c 10; have C0_11 := fun o => (C0.alloc o).c 11; simp only [List.getElem?_cons_zero, List.getElem?_cons_succ] at C0_0 C0_1 C0_2 C0_3 C0_4 C0_5 C0_6 C0_7 C0_8 C0_9 C0_10 C0_11; have C0f := fun o => (C0.alloc o).f
      go_wp2_with fail
      clear C0f
      clear C0_0 C0_1 C0_2 C0_3 C0_4 C0_5 C0_6 C0_7 C0_8 C0_9 C0_10 C0_11
      generalize w1.alloc _ = W2 at *
      have hsz := hB.size
      refine (hCo _ hB).mono ?_
      rintro e w4 ⟨bo, d, rfl, ho, hb4⟩
      replace C := C.later hb4
      replace A := A.later hb4
      replace R := R.later hb4
      replace I := I.later hb4
      replace hB := hB.trans (hb4.mono hB.size)
      have hz4 := hb4.size
      clear hb4 hCo
      have C_0 := C.c 0; have C_1 := C.c 1; have C_2 := C.c 2; have C_3 := C.c 3; have C_4 := C.c 4; have C_5 := C.c 5; have C_6 := C.c 6; have C_7 := C.c 7; have C_8 := C.c 8; have C_9 := C.c 9; have C_10 := C.c 10; have C_11 := C.c 11; simp only [List.getElem?_cons_zero, List.getElem?_cons_succ] at C_0 C_1 C_2 C_3 C_4 C_5 C_6 C_7 C_8 C_9 C_10 C_11
      have Cf := C.f
      have C3 := C.all [.slice bo n d, .bool true, .int .i64 i.txn.id, .int .i64 i.txn.ep, .string i.txn.anchor, .int .i64 i.txn.start.1, .int .i64 i.txn.start.2, .int .i64 i.seq, .int .i64 i.at_.1, .int .i64 i.at_.2, .string i.val, .bool i.gone] rfl
      have C4 := Blk.setAll_at (.bool false :: [.int .i64 0, .int .i64 0, .string ⟨#[]⟩, .int .i64 0, .int .i64 0, .int .i64 0, .int .i64 0, .int .i64 0, .string ⟨#[]⟩, .bool false]) _ [.slice bo n d] [.bool true, .int .i64 i.txn.id, .int .i64 i.txn.ep, .string i.txn.anchor, .int .i64 i.txn.start.1, .int .i64 i.txn.start.2, .int .i64 i.seq, .int .i64 i.at_.1, .int .i64 i.at_.2, .string i.val, .bool i.gone] 1 C3 rfl rfl
      have I4 := Blk.others (C := w.heap.size) hIC (.bool false :: [.int .i64 0, .int .i64 0, .string ⟨#[]⟩, .int .i64 0, .int .i64 0, .int .i64 0, .int .i64 0, .int .i64 0, .string ⟨#[]⟩, .bool false]) 1 (Blk.others (C := w.heap.size) hIC [.slice bo n d, .bool true, .int .i64 i.txn.id, .int .i64 i.txn.ep, .string i.txn.anchor, .int .i64 i.txn.start.1, .int .i64 i.txn.start.2, .int .i64 i.seq, .int .i64 i.at_.1, .int .i64 i.at_.2, .string i.val, .bool i.gone] 0 I)
      have A4 := Blk.others (C := w.heap.size) (by omega) (.bool false :: [.int .i64 0, .int .i64 0, .string ⟨#[]⟩, .int .i64 0, .int .i64 0, .int .i64 0, .int .i64 0, .int .i64 0, .string ⟨#[]⟩, .bool false]) 1 (Blk.others (C := w.heap.size) (by omega) [.slice bo n d, .bool true, .int .i64 i.txn.id, .int .i64 i.txn.ep, .string i.txn.anchor, .int .i64 i.txn.start.1, .int .i64 i.txn.start.2, .int .i64 i.seq, .int .i64 i.at_.1, .int .i64 i.at_.2, .string i.val, .bool i.gone] 0 A)
      have R4 := Blk.others (C := w.heap.size) (by omega) (.bool false :: [.int .i64 0, .int .i64 0, .string ⟨#[]⟩, .int .i64 0, .int .i64 0, .int .i64 0, .int .i64 0, .int .i64 0, .string ⟨#[]⟩, .bool false]) 1 (Blk.others (C := w.heap.size) (by omega) [.slice bo n d, .bool true, .int .i64 i.txn.id, .int .i64 i.txn.ep, .string i.txn.anchor, .int .i64 i.txn.start.1, .int .i64 i.txn.start.2, .int .i64 i.seq, .int .i64 i.at_.1, .int .i64 i.at_.2, .string i.val, .bool i.gone] 0 R)
      have ho4 := VOwn.others (C := w.heap.size) hltC (.bool false :: [.int .i64 0, .int .i64 0, .string ⟨#[]⟩, .int .i64 0, .int .i64 0, .int .i64 0, .int .i64 0, .int .i64 0, .string ⟨#[]⟩, .bool false]) 1 (VOwn.others (C := w.heap.size) hltC [.slice bo n d, .bool true, .int .i64 i.txn.id, .int .i64 i.txn.ep, .string i.txn.anchor, .int .i64 i.txn.start.1, .int .i64 i.txn.start.2, .int .i64 i.seq, .int .i64 i.at_.1, .int .i64 i.at_.2, .string i.val, .bool i.gone] 0 ho)
      have hsz4 : W2.heap.size ≤ (setAll (setAll w4 w.heap.size 0 [.slice bo n d, .bool true, .int .i64 i.txn.id, .int .i64 i.txn.ep, .string i.txn.anchor, .int .i64 i.txn.start.1, .int .i64 i.txn.start.2, .int .i64 i.seq, .int .i64 i.at_.1, .int .i64 i.at_.2, .string i.val, .bool i.gone]) w.heap.size 1 (.bool false :: [.int .i64 0, .int .i64 0, .string ⟨#[]⟩, .int .i64 0, .int .i64 0, .int .i64 0, .int .i64 0, .int .i64 0, .string ⟨#[]⟩, .bool false])).heap.size := by rw [setAll_size, setAll_size]; exact hz4
      have hB4 := below_setAll (C := w.heap.size) (Nat.le_refl _) (.bool false :: [.int .i64 0, .int .i64 0, .string ⟨#[]⟩, .int .i64 0, .int .i64 0, .int .i64 0, .int .i64 0, .int .i64 0, .string ⟨#[]⟩, .bool false]) 1 (below_setAll (C := w.heap.size) (Nat.le_refl _) [.slice bo n d, .bool true, .int .i64 i.txn.id, .int .i64 i.txn.ep, .string i.txn.anchor, .int .i64 i.txn.start.1, .int .i64 i.txn.start.2, .int .i64 i.seq, .int .i64 i.at_.1, .int .i64 i.at_.2, .string i.val, .bool i.gone] 0 hB)
      simp only [List.cons_append, List.nil_append] at C4
      have Hw := hide (And.intro C4 (And.intro I4 (And.intro A4 (And.intro R4 (And.intro ho4 (And.intro hB4 hsz4))))))
      clear C3 C4 I4 A4 R4 ho4 hB4 hsz4 I A R ho hB
      go_upto_region 13 with fail
      clear C_0 C_1 C_2 C_3 C_4 C_5 C_6 C_7 C_8 C_9 C_10 C_11
      clear Cf
      generalize hWd : setAll (setAll w4 w.heap.size 0 [.slice bo n d, .bool true, .int .i64 i.txn.id, .int .i64 i.txn.ep, .string i.txn.anchor, .int .i64 i.txn.start.1, .int .i64 i.txn.start.2, .int .i64 i.seq, .int .i64 i.at_.1, .int .i64 i.at_.2, .string i.val, .bool i.gone]) w.heap.size 1 (.bool false :: [.int .i64 0, .int .i64 0, .string ⟨#[]⟩, .int .i64 0, .int .i64 0, .int .i64 0, .int .i64 0, .int .i64 0, .string ⟨#[]⟩, .bool false]) = Wd at Hw
      simp only [setAll, Nat.zero_add, Nat.reduceAdd] at hWd
      rw [hWd]
      clear hWd
      obtain ⟨C4, I4, A4, R4, ho4, hB4, hsz4⟩ := unhide Hw
      have Hsz4 := hide hsz4
      clear hsz4
      clear Hw
      have C4_0 := C4.c 0; have C4_1 := C4.c 1; have C4_2 := C4.c 2; have C4_3 := C4.c 3; have C4_4 := C4.c 4; have C4_5 := C4.c 5; have C4_6 := C4.c 6; have C4_7 := C4.c 7; have C4_8 := C4.c 8; have C4_9 := C4.c 9; have C4_10 := C4.c 10; have C4_11 := C4.c 11; simp only [List.getElem?_cons_zero, List.getElem?_cons_succ] at C4_0 C4_1 C4_2 C4_3 C4_4 C4_5 C4_6 C4_7 C4_8 C4_9 C4_10 C4_11
      have R4_0 := R4.c 0; have R4_1 := R4.c 1; have R4_2 := R4.c 2; have R4_3 := R4.c 3; have R4_4 := R4.c 4; have R4_5 := R4.c 5; have R4_6 := R4.c 6; have R4_7 := R4.c 7; have R4_8 := R4.c 8; have R4_9 := R4.c 9; have R4_10 := R4.c 10; have R4_11 := R4.c 11; simp only [List.getElem?_cons_zero, List.getElem?_cons_succ] at R4_0 R4_1 R4_2 R4_3 R4_4 R4_5 R4_6 R4_7 R4_8 R4_9 R4_10 R4_11
      have R4f := R4.f
      have HB := hide hB4
      have HO := hide ho4
      clear hB4 ho4 I4 A4
      go_wp2
      refine bodyPost_ret (results_ce Tryz.results40 bo n d false Itn.zero rfl rfl (R4.all [.slice bo n d, .bool false, .int .i64 Itn.zero.txn.id, .int .i64 Itn.zero.txn.ep, .string Itn.zero.txn.anchor, .int .i64 Itn.zero.txn.start.1, .int .i64 Itn.zero.txn.start.2, .int .i64 Itn.zero.seq, .int .i64 Itn.zero.at_.1, .int .i64 Itn.zero.at_.2, .string Itn.zero.val, .bool Itn.zero.gone] rfl)) rfl ⟨bo, d, ?_, ?_, below_setAll (by omega) [.slice bo n d, .bool false, .int .i64 Itn.zero.txn.id, .int .i64 Itn.zero.txn.ep, .string Itn.zero.txn.anchor, .int .i64 Itn.zero.txn.start.1, .int .i64 Itn.zero.txn.start.2, .int .i64 Itn.zero.seq, .int .i64 Itn.zero.at_.1, .int .i64 Itn.zero.at_.2, .string Itn.zero.val, .bool Itn.zero.gone] 0 (unhide HB)⟩
      · show _ = Ending.returned (.tuple #[(.agg #[.slice bo vs.length d, .bool false, .int .i64 Itn.zero.txn.id, .int .i64 Itn.zero.txn.ep, .string Itn.zero.txn.anchor, .int .i64 Itn.zero.txn.start.1, .int .i64 Itn.zero.txn.start.2, .int .i64 Itn.zero.seq, .int .i64 Itn.zero.at_.1, .int .i64 Itn.zero.at_.2, .string Itn.zero.val, .bool Itn.zero.gone]), .int .i64 0])
        rw [unhide Hn]
        rfl
      · exact (VOwn.others hltR [.slice bo n d, .bool false, .int .i64 Itn.zero.txn.id, .int .i64 Itn.zero.txn.ep, .string Itn.zero.txn.anchor, .int .i64 Itn.zero.txn.start.1, .int .i64 Itn.zero.txn.start.2, .int .i64 Itn.zero.seq, .int .i64 Itn.zero.at_.1, .int .i64 Itn.zero.at_.2, .string Itn.zero.val, .bool Itn.zero.gone] 0 (unhide HO)).mono (by omega)
  · by_cases h2 : i.txn.ep = ep
    case neg =>
      obtain rfl : X = (⟨vs, false, Itn.zero⟩, 0) := by rw [← unhide HX, if_neg (fun e => by cases e.1), if_neg (fun e => h2 e.2)]
      have h2' : (i.txn.ep == ep) = false := by simpa using h2
      clear HX hFi h2
      go_enter Tryz.func40, Tryz.ntmps40
      go_wp2_with fail
      generalize ((w.alloc _).alloc _).alloc _ = W at *
      refine (hO _).mono ?_
      rintro e w1 ⟨rfl, hb1⟩
      replace C := C.later hb1
      replace A := A.later hb1
      replace R := R.later hb1
      replace hB := hB.trans (hb1.mono hB.size)
      clear hb1 hO
      have C_0 := C.c 0; have C_1 := C.c 1; have C_2 := C.c 2; have C_3 := C.c 3; have C_4 := C.c 4; have C_5 := C.c 5; have C_6 := C.c 6; have C_7 := C.c 7; have C_8 := C.c 8; have C_9 := C.c 9; have C_10 := C.c 10; have C_11 := C.c 11; simp only [List.getElem?_cons_zero, List.getElem?_cons_succ] at C_0 C_1 C_2 C_3 C_4 C_5 C_6 C_7 C_8 C_9 C_10 C_11
      have C0 := C
      have I := Blk.new w1 #[.int .i64 i.txn.id, .int .i64 i.txn.ep, .string i.txn.anchor, .int .i64 i.txn.start.1, .int .i64 i.txn.start.2, .int .i64 i.seq, .int .i64 i.at_.1, .int .i64 i.at_.2, .string i.val, .bool i.gone] 42
      have hIC : w1.heap.size ≠ w.heap.size := (Nat.ne_of_lt C.lt).symm
      have hIA : w1.heap.size ≠ w.heap.size + 1 := (Nat.ne_of_lt A.lt).symm
      have hIR : w1.heap.size ≠ w.heap.size + 1 + 1 := (Nat.ne_of_lt R.lt).symm
      replace C := C.alloc (.cells #[.int .i64 i.txn.id, .int .i64 i.txn.ep, .string i.txn.anchor, .int .i64 i.txn.start.1, .int .i64 i.txn.start.2, .int .i64 i.seq, .int .i64 i.at_.1, .int .i64 i.at_.2, .string i.val, .bool i.gone] 42)
      replace A := A.alloc (.cells #[.int .i64 i.txn.id, .int .i64 i.txn.ep, .string i.txn.anchor, .int .i64 i.txn.start.1, .int .i64 i.txn.start.2, .int .i64 i.seq, .int .i64 i.at_.1, .int .i64 i.at_.2, .string i.val, .bool i.gone] 42)
      replace R := R.alloc (.cells #[.int .i64 i.txn.id, .int .i64 i.txn.ep, .string i.txn.anchor, .int .i64 i.txn.start.1, .int .i64 i.txn.start.2, .int .i64 i.seq, .int .i64 i.at_.1, .int .i64 i.at_.2, .string i.val, .bool i.gone] 42)
      replace hB := hB.alloc hB.size (.cells #[.int .i64 i.txn.id, .int .i64 i.txn.ep, .string i.txn.anchor, .int .i64 i.txn.start.1, .int .i64 i.txn.start.2, .int .i64 i.seq, .int .i64 i.at_.1, .int .i64 i.at_.2, .string i.val, .bool i.gone] 42)
      have hltC := C.lt
      have hltA := A.lt
      have hltR := R.lt
      have hltI := I.lt
      have C0_0 := fun o => (C0.alloc o).c 0; have C0_1 := fun o => (C0.alloc o).c 1; have C0_2 := fun o => (C0.alloc o).c 2; have C0_3 := fun o => (C0.alloc o).c 3; have C0_4 := fun o => (C0.alloc o).c 4; have C0_5 := fun o => (C0.alloc o).c 5; have C0_6 := fun o => (C0.alloc o).c 6; have C0_7 := fun o => (C0.alloc o).c 7; have C0_8 := fun o => (C0.alloc o).c 8; have C0_9 := fun o => (C0.alloc o).c 9; have C0_10 := fun o => (C0.alloc o).c 10; have C0_11 := fun o => (C0.alloc o).c 11; simp only [List.getElem?_cons_zero, List.getElem?_cons_succ] at C0_0 C0_1 C0_2 C0_3 C0_4 C0_5 C0_6 C0_7 C0_8 C0_9 C0_10 C0_11; have C0f := fun o => (C0.alloc o).f
      go_wp2_with fail
      clear C0f
      clear C0_0 C0_1 C0_2 C0_3 C0_4 C0_5 C0_6 C0_7 C0_8 C0_9 C0_10 C0_11
      generalize w1.alloc _ = W2 at *
      have hsz := hB.size
      refine (hCo _ hB).mono ?_
      rintro e w4 ⟨bo, d, rfl, ho, hb4⟩
      replace C := C.later hb4
      replace A := A.later hb4
      replace R := R.later hb4
      replace I := I.later hb4
      replace hB := hB.trans (hb4.mono hB.size)
      have hz4 := hb4.size
      clear hb4 hCo
      have C_0 := C.c 0; have C_1 := C.c 1; have C_2 := C.c 2; have C_3 := C.c 3; have C_4 := C.c 4; have C_5 := C.c 5; have C_6 := C.c 6; have C_7 := C.c 7; have C_8 := C.c 8; have C_9 := C.c 9; have C_10 := C.c 10; have C_11 := C.c 11; simp only [List.getElem?_cons_zero, List.getElem?_cons_succ] at C_0 C_1 C_2 C_3 C_4 C_5 C_6 C_7 C_8 C_9 C_10 C_11
      have Cf := C.f
      have C3 := C.all [.slice bo n d, .bool true, .int .i64 i.txn.id, .int .i64 i.txn.ep, .string i.txn.anchor, .int .i64 i.txn.start.1, .int .i64 i.txn.start.2, .int .i64 i.seq, .int .i64 i.at_.1, .int .i64 i.at_.2, .string i.val, .bool i.gone] rfl
      have C4 := Blk.setAll_at (.bool false :: [.int .i64 0, .int .i64 0, .string ⟨#[]⟩, .int .i64 0, .int .i64 0, .int .i64 0, .int .i64 0, .int .i64 0, .string ⟨#[]⟩, .bool false]) _ [.slice bo n d] [.bool true, .int .i64 i.txn.id, .int .i64 i.txn.ep, .string i.txn.anchor, .int .i64 i.txn.start.1, .int .i64 i.txn.start.2, .int .i64 i.seq, .int .i64 i.at_.1, .int .i64 i.at_.2, .string i.val, .bool i.gone] 1 C3 rfl rfl
      have I4 := Blk.others (C := w.heap.size) hIC (.bool false :: [.int .i64 0, .int .i64 0, .string ⟨#[]⟩, .int .i64 0, .int .i64 0, .int .i64 0, .int .i64 0, .int .i64 0, .string ⟨#[]⟩, .bool false]) 1 (Blk.others (C := w.heap.size) hIC [.slice bo n d, .bool true, .int .i64 i.txn.id, .int .i64 i.txn.ep, .string i.txn.anchor, .int .i64 i.txn.start.1, .int .i64 i.txn.start.2, .int .i64 i.seq, .int .i64 i.at_.1, .int .i64 i.at_.2, .string i.val, .bool i.gone] 0 I)
      have A4 := Blk.others (C := w.heap.size) (by omega) (.bool false :: [.int .i64 0, .int .i64 0, .string ⟨#[]⟩, .int .i64 0, .int .i64 0, .int .i64 0, .int .i64 0, .int .i64 0, .string ⟨#[]⟩, .bool false]) 1 (Blk.others (C := w.heap.size) (by omega) [.slice bo n d, .bool true, .int .i64 i.txn.id, .int .i64 i.txn.ep, .string i.txn.anchor, .int .i64 i.txn.start.1, .int .i64 i.txn.start.2, .int .i64 i.seq, .int .i64 i.at_.1, .int .i64 i.at_.2, .string i.val, .bool i.gone] 0 A)
      have R4 := Blk.others (C := w.heap.size) (by omega) (.bool false :: [.int .i64 0, .int .i64 0, .string ⟨#[]⟩, .int .i64 0, .int .i64 0, .int .i64 0, .int .i64 0, .int .i64 0, .string ⟨#[]⟩, .bool false]) 1 (Blk.others (C := w.heap.size) (by omega) [.slice bo n d, .bool true, .int .i64 i.txn.id, .int .i64 i.txn.ep, .string i.txn.anchor, .int .i64 i.txn.start.1, .int .i64 i.txn.start.2, .int .i64 i.seq, .int .i64 i.at_.1, .int .i64 i.at_.2, .string i.val, .bool i.gone] 0 R)
      have ho4 := VOwn.others (C := w.heap.size) hltC (.bool false :: [.int .i64 0, .int .i64 0, .string ⟨#[]⟩, .int .i64 0, .int .i64 0, .int .i64 0, .int .i64 0, .int .i64 0, .string ⟨#[]⟩, .bool false]) 1 (VOwn.others (C := w.heap.size) hltC [.slice bo n d, .bool true, .int .i64 i.txn.id, .int .i64 i.txn.ep, .string i.txn.anchor, .int .i64 i.txn.start.1, .int .i64 i.txn.start.2, .int .i64 i.seq, .int .i64 i.at_.1, .int .i64 i.at_.2, .string i.val, .bool i.gone] 0 ho)
      have hsz4 : W2.heap.size ≤ (setAll (setAll w4 w.heap.size 0 [.slice bo n d, .bool true, .int .i64 i.txn.id, .int .i64 i.txn.ep, .string i.txn.anchor, .int .i64 i.txn.start.1, .int .i64 i.txn.start.2, .int .i64 i.seq, .int .i64 i.at_.1, .int .i64 i.at_.2, .string i.val, .bool i.gone]) w.heap.size 1 (.bool false :: [.int .i64 0, .int .i64 0, .string ⟨#[]⟩, .int .i64 0, .int .i64 0, .int .i64 0, .int .i64 0, .int .i64 0, .string ⟨#[]⟩, .bool false])).heap.size := by rw [setAll_size, setAll_size]; exact hz4
      have hB4 := below_setAll (C := w.heap.size) (Nat.le_refl _) (.bool false :: [.int .i64 0, .int .i64 0, .string ⟨#[]⟩, .int .i64 0, .int .i64 0, .int .i64 0, .int .i64 0, .int .i64 0, .string ⟨#[]⟩, .bool false]) 1 (below_setAll (C := w.heap.size) (Nat.le_refl _) [.slice bo n d, .bool true, .int .i64 i.txn.id, .int .i64 i.txn.ep, .string i.txn.anchor, .int .i64 i.txn.start.1, .int .i64 i.txn.start.2, .int .i64 i.seq, .int .i64 i.at_.1, .int .i64 i.at_.2, .string i.val, .bool i.gone] 0 hB)
      simp only [List.cons_append, List.nil_append] at C4
      have Hw := hide (And.intro C4 (And.intro I4 (And.intro A4 (And.intro R4 (And.intro ho4 (And.intro hB4 hsz4))))))
      clear C3 C4 I4 A4 R4 ho4 hB4 hsz4 I A R ho hB
      go_upto_region 13 with fail
      clear C_0 C_1 C_2 C_3 C_4 C_5 C_6 C_7 C_8 C_9 C_10 C_11
      clear Cf
      generalize hWd : setAll (setAll w4 w.heap.size 0 [.slice bo n d, .bool true, .int .i64 i.txn.id, .int .i64 i.txn.ep, .string i.txn.anchor, .int .i64 i.txn.start.1, .int .i64 i.txn.start.2, .int .i64 i.seq, .int .i64 i.at_.1, .int .i64 i.at_.2, .string i.val, .bool i.gone]) w.heap.size 1 (.bool false :: [.int .i64 0, .int .i64 0, .string ⟨#[]⟩, .int .i64 0, .int .i64 0, .int .i64 0, .int .i64 0, .int .i64 0, .string ⟨#[]⟩, .bool false]) = Wd at Hw
      simp only [setAll, Nat.zero_add, Nat.reduceAdd] at hWd
      rw [hWd]
      clear hWd
      obtain ⟨C4, I4, A4, R4, ho4, hB4, hsz4⟩ := unhide Hw
      have Hsz4 := hide hsz4
      clear hsz4
      clear Hw
      have C4_0 := C4.c 0; have C4_1 := C4.c 1; have C4_2 := C4.c 2; have C4_3 := C4.c 3; have C4_4 := C4.c 4; have C4_5 := C4.c 5; have C4_6 := C4.c 6; have C4_7 := C4.c 7; have C4_8 := C4.c 8; have C4_9 := C4.c 9; have C4_10 := C4.c 10; have C4_11 := C4.c 11; simp only [List.getElem?_cons_zero, List.getElem?_cons_succ] at C4_0 C4_1 C4_2 C4_3 C4_4 C4_5 C4_6 C4_7 C4_8 C4_9 C4_10 C4_11
      have R4_0 := R4.c 0; have R4_1 := R4.c 1; have R4_2 := R4.c 2; have R4_3 := R4.c 3; have R4_4 := R4.c 4; have R4_5 := R4.c 5; have R4_6 := R4.c 6; have R4_7 := R4.c 7; have R4_8 := R4.c 8; have R4_9 := R4.c 9; have R4_10 := R4.c 10; have R4_11 := R4.c 11; simp only [List.getElem?_cons_zero, List.getElem?_cons_succ] at R4_0 R4_1 R4_2 R4_3 R4_4 R4_5 R4_6 R4_7 R4_8 R4_9 R4_10 R4_11
      have R4f := R4.f
      have HB := hide hB4
      have HO := hide ho4
      clear hB4 ho4 I4 A4
      go_wp2
      refine bodyPost_ret (results_ce Tryz.results40 bo n d false Itn.zero rfl rfl (R4.all [.slice bo n d, .bool false, .int .i64 Itn.zero.txn.id, .int .i64 Itn.zero.txn.ep, .string Itn.zero.txn.anchor, .int .i64 Itn.zero.txn.start.1, .int .i64 Itn.zero.txn.start.2, .int .i64 Itn.zero.seq, .int .i64 Itn.zero.at_.1, .int .i64 Itn.zero.at_.2, .string Itn.zero.val, .bool Itn.zero.gone] rfl)) rfl ⟨bo, d, ?_, ?_, below_setAll (by omega) [.slice bo n d, .bool false, .int .i64 Itn.zero.txn.id, .int .i64 Itn.zero.txn.ep, .string Itn.zero.txn.anchor, .int .i64 Itn.zero.txn.start.1, .int .i64 Itn.zero.txn.start.2, .int .i64 Itn.zero.seq, .int .i64 Itn.zero.at_.1, .int .i64 Itn.zero.at_.2, .string Itn.zero.val, .bool Itn.zero.gone] 0 (unhide HB)⟩
      · show _ = Ending.returned (.tuple #[(.agg #[.slice bo vs.length d, .bool false, .int .i64 Itn.zero.txn.id, .int .i64 Itn.zero.txn.ep, .string Itn.zero.txn.anchor, .int .i64 Itn.zero.txn.start.1, .int .i64 Itn.zero.txn.start.2, .int .i64 Itn.zero.seq, .int .i64 Itn.zero.at_.1, .int .i64 Itn.zero.at_.2, .string Itn.zero.val, .bool Itn.zero.gone]), .int .i64 0])
        rw [unhide Hn]
        rfl
      · exact (VOwn.others hltR [.slice bo n d, .bool false, .int .i64 Itn.zero.txn.id, .int .i64 Itn.zero.txn.ep, .string Itn.zero.txn.anchor, .int .i64 Itn.zero.txn.start.1, .int .i64 Itn.zero.txn.start.2, .int .i64 Itn.zero.seq, .int .i64 Itn.zero.at_.1, .int .i64 Itn.zero.at_.2, .string Itn.zero.val, .bool Itn.zero.gone] 0 (unhide HO)).mono (by omega)
    case pos =>
    have h2' : (i.txn.ep == ep) = true := by simpa using h2
    have hX2 : X = if fitB vs a = true then (⟨vs ++ [mkV i a], false, Itn.zero⟩, 0) else (Chn.zero, 84) := by
      rw [← unhide HX, if_neg (fun e => by cases e.1), if_pos ⟨rfl, h2⟩]
      by_cases hf : fitB vs a = true
      · rw [if_pos hf, if_pos ((fit_all vs a).2 hf)]; rfl
      · rw [if_neg hf, if_neg (fun e => hf ((fit_all vs a).1 e))]
    clear HX h2
    generalize fitB vs a = z at *
    cases z
    · obtain rfl : X = (Chn.zero, 84) := by rw [hX2, if_neg (by simp)]
      clear hX2 hCo
      go_enter Tryz.func40, Tryz.ntmps40
      go_wp2_with fail
      generalize ((w.alloc _).alloc _).alloc _ = W at *
      refine (hO _).mono ?_
      rintro e w1 ⟨rfl, hb1⟩
      replace C := C.later hb1
      replace A := A.later hb1
      replace R := R.later hb1
      replace hB := hB.trans (hb1.mono hB.size)
      clear hb1 hO
      have C_0 := C.c 0; have C_1 := C.c 1; have C_2 := C.c 2; have C_3 := C.c 3; have C_4 := C.c 4; have C_5 := C.c 5; have C_6 := C.c 6; have C_7 := C.c 7; have C_8 := C.c 8; have C_9 := C.c 9; have C_10 := C.c 10; have C_11 := C.c 11; simp only [List.getElem?_cons_zero, List.getElem?_cons_succ] at C_0 C_1 C_2 C_3 C_4 C_5 C_6 C_7 C_8 C_9 C_10 C_11
      have A_0 := A.c 0; have A_1 := A.c 1; simp only [List.getElem?_cons_zero, List.getElem?_cons_succ] at A_0 A_1
      go_wp2_with fail
      refine (hFi _ hB).mono ?_
      rintro e w2 ⟨rfl, hb2⟩
      replace R := R.later hb2
      have HB := hide (hB.trans (hb2.mono hB.size))
      clear C_0 C_1 C_2 C_3 C_4 C_5 C_6 C_7 C_8 C_9 C_10 C_11 A_0 A_1
      clear hb2 hB hFi C A
      have R_0 := R.c 0; have R_1 := R.c 1; have R_2 := R.c 2; have R_3 := R.c 3; have R_4 := R.c 4; have R_5 := R.c 5; have R_6 := R.c 6; have R_7 := R.c 7; have R_8 := R.c 8; have R_9 := R.c 9; have R_10 := R.c 10; have R_11 := R.c 11; simp only [List.getElem?_cons_zero, List.getElem?_cons_succ] at R_0 R_1 R_2 R_3 R_4 R_5 R_6 R_7 R_8 R_9 R_10 R_11
      have Rf := R.f
      go_wp2
      exact bodyPost_ret (results_ce Tryz.results40 none 0 0 false Itn.zero rfl rfl (R.all [.slice none 0 0, .bool false, .int .i64 Itn.zero.txn.id, .int .i64 Itn.zero.txn.ep, .string Itn.zero.txn.anchor, .int .i64 Itn.zero.txn.start.1, .int .i64 Itn.zero.txn.start.2, .int .i64 Itn.zero.seq, .int .i64 Itn.zero.at_.1, .int .i64 Itn.zero.at_.2, .string Itn.zero.val, .bool Itn.zero.gone] rfl)) rfl ⟨none, 0, rfl, VOwn.zero _ _, below_setAll (by omega) [.slice none 0 0, .bool false, .int .i64 Itn.zero.txn.id, .int .i64 Itn.zero.txn.ep, .string Itn.zero.txn.anchor, .int .i64 Itn.zero.txn.start.1, .int .i64 Itn.zero.txn.start.2, .int .i64 Itn.zero.seq, .int .i64 Itn.zero.at_.1, .int .i64 Itn.zero.at_.2, .string Itn.zero.val, .bool Itn.zero.gone] 0 (unhide HB)⟩
    · obtain rfl : X = (⟨vs ++ [mkV i a], false, Itn.zero⟩, 0) := by rw [hX2, if_pos rfl]
      clear hX2
      go_enter Tryz.func40, Tryz.ntmps40
      go_wp2_with fail
      generalize ((w.alloc _).alloc _).alloc _ = W at *
      refine (hO _).mono ?_
      rintro e w1 ⟨rfl, hb1⟩
      replace C := C.later hb1
      replace A := A.later hb1
      replace R := R.later hb1
      replace hB := hB.trans (hb1.mono hB.size)
      clear hb1 hO
      have C_0 := C.c 0; have C_1 := C.c 1; have C_2 := C.c 2; have C_3 := C.c 3; have C_4 := C.c 4; have C_5 := C.c 5; have C_6 := C.c 6; have C_7 := C.c 7; have C_8 := C.c 8; have C_9 := C.c 9; have C_10 := C.c 10; have C_11 := C.c 11; simp only [List.getElem?_cons_zero, List.getElem?_cons_succ] at C_0 C_1 C_2 C_3 C_4 C_5 C_6 C_7 C_8 C_9 C_10 C_11
      have A_0 := A.c 0; have A_1 := A.c 1; simp only [List.getElem?_cons_zero, List.getElem?_cons_succ] at A_0 A_1
      go_wp2_with fail
      refine (hFi _ hB).mono ?_
      rintro e w2 ⟨rfl, hb2⟩
      replace C := C.later hb2
      replace A := A.later hb2
      replace R := R.later hb2
      replace hB := hB.trans (hb2.mono hB.size)
      clear C_0 C_1 C_2 C_3 C_4 C_5 C_6 C_7 C_8 C_9 C_10 C_11 A_0 A_1
      clear hb2 hFi
      have C_0 := C.c 0; have C_1 := C.c 1; have C_2 := C.c 2; have C_3 := C.c 3; have C_4 := C.c 4; have C_5 := C.c 5; have C_6 := C.c 6; have C_7 := C.c 7; have C_8 := C.c 8; have C_9 := C.c 9; have C_10 := C.c 10; have C_11 := C.c 11; simp only [List.getElem?_cons_zero, List.getElem?_cons_succ] at C_0 C_1 C_2 C_3 C_4 C_5 C_6 C_7 C_8 C_9 C_10 C_11
      have C0 := C
      have I := Blk.new w2 #[.int .i64 i.txn.id, .int .i64 i.txn.ep, .string i.txn.anchor, .int .i64 i.txn.start.1, .int .i64 i.txn.start.2, .int .i64 i.seq, .int .i64 i.at_.1, .int .i64 i.at_.2, .string i.val, .bool i.gone] 42
      have hIC : w2.heap.size ≠ w.heap.size := (Nat.ne_of_lt C.lt).symm
      have hIA : w2.heap.size ≠ w.heap.size + 1 := (Nat.ne_of_lt A.lt).symm
      have hIR : w2.heap.size ≠ w.heap.size + 1 + 1 := (Nat.ne_of_lt R.lt).symm
      replace C := C.alloc (.cells #[.int .i64 i.txn.id, .int .i64 i.txn.ep, .string i.txn.anchor, .int .i64 i.txn.start.1, .int .i64 i.txn.start.2, .int .i64 i.seq, .int .i64 i.at_.1, .int .i64 i.at_.2, .string i.val, .bool i.gone] 42)
      replace A := A.alloc (.cells #[.int .i64 i.txn.id, .int .i64 i.txn.ep, .string i.txn.anchor, .int .i64 i.txn.start.1, .int .i64 i.txn.start.2, .int .i64 i.seq, .int .i64 i.at_.1, .int .i64 i.at_.2, .string i.val, .bool i.gone] 42)
      replace R := R.alloc (.cells #[.int .i64 i.txn.id, .int .i64 i.txn.ep, .string i.txn.anchor, .int .i64 i.txn.start.1, .int .i64 i.txn.start.2, .int .i64 i.seq, .int .i64 i.at_.1, .int .i64 i.at_.2, .string i.val, .bool i.gone] 42)
      replace hB := hB.alloc hB.size (.cells #[.int .i64 i.txn.id, .int .i64 i.txn.ep, .string i.txn.anchor, .int .i64 i.txn.start.1, .int .i64 i.txn.start.2, .int .i64 i.seq, .int .i64 i.at_.1, .int .i64 i.at_.2, .string i.val, .bool i.gone] 42)
      have hltC := C.lt
      have hltA := A.lt
      have hltR := R.lt
      have hltI := I.lt
      have C0_0 := fun o => (C0.alloc o).c 0; have C0_1 := fun o => (C0.alloc o).c 1; have C0_2 := fun o => (C0.alloc o).c 2; have C0_3 := fun o => (C0.alloc o).c 3; have C0_4 := fun o => (C0.alloc o).c 4; have C0_5 := fun o => (C0.alloc o).c 5; have C0_6 := fun o => (C0.alloc o).c 6; have C0_7 := fun o => (C0.alloc o).c 7; have C0_8 := fun o => (C0.alloc o).c 8; have C0_9 := fun o => (C0.alloc o).c 9; have C0_10 := fun o => (C0.alloc o).c 10; have C0_11 := fun o => (C0.alloc o).c 11; simp only [List.getElem?_cons_zero, List.getElem?_cons_succ] at C0_0 C0_1 C0_2 C0_3 C0_4 C0_5 C0_6 C0_7 C0_8 C0_9 C0_10 C0_11; have C0f := fun o => (C0.alloc o).f
      go_wp2_with fail
      clear C0f
      clear C0_0 C0_1 C0_2 C0_3 C0_4 C0_5 C0_6 C0_7 C0_8 C0_9 C0_10 C0_11
      generalize w2.alloc _ = W2 at *
      have hsz := hB.size
      refine (hCo _ hB).mono ?_
      rintro e w4 ⟨bo, d, rfl, ho, hb4⟩
      replace C := C.later hb4
      replace A := A.later hb4
      replace R := R.later hb4
      replace I := I.later hb4
      replace hB := hB.trans (hb4.mono hB.size)
      have hz4 := hb4.size
      clear hb4 hCo
      have C_0 := C.c 0; have C_1 := C.c 1; have C_2 := C.c 2; have C_3 := C.c 3; have C_4 := C.c 4; have C_5 := C.c 5; have C_6 := C.c 6; have C_7 := C.c 7; have C_8 := C.c 8; have C_9 := C.c 9; have C_10 := C.c 10; have C_11 := C.c 11; simp only [List.getElem?_cons_zero, List.getElem?_cons_succ] at C_0 C_1 C_2 C_3 C_4 C_5 C_6 C_7 C_8 C_9 C_10 C_11
      have Cf := C.f
      have C3 := C.all [.slice bo n d, .bool true, .int .i64 i.txn.id, .int .i64 i.txn.ep, .string i.txn.anchor, .int .i64 i.txn.start.1, .int .i64 i.txn.start.2, .int .i64 i.seq, .int .i64 i.at_.1, .int .i64 i.at_.2, .string i.val, .bool i.gone] rfl
      have C4 := Blk.setAll_at (.bool false :: [.int .i64 0, .int .i64 0, .string ⟨#[]⟩, .int .i64 0, .int .i64 0, .int .i64 0, .int .i64 0, .int .i64 0, .string ⟨#[]⟩, .bool false]) _ [.slice bo n d] [.bool true, .int .i64 i.txn.id, .int .i64 i.txn.ep, .string i.txn.anchor, .int .i64 i.txn.start.1, .int .i64 i.txn.start.2, .int .i64 i.seq, .int .i64 i.at_.1, .int .i64 i.at_.2, .string i.val, .bool i.gone] 1 C3 rfl rfl
      have I4 := Blk.others (C := w.heap.size) hIC (.bool false :: [.int .i64 0, .int .i64 0, .string ⟨#[]⟩, .int .i64 0, .int .i64 0, .int .i64 0, .int .i64 0, .int .i64 0, .string ⟨#[]⟩, .bool false]) 1 (Blk.others (C := w.heap.size) hIC [.slice bo n d, .bool true, .int .i64 i.txn.id, .int .i64 i.txn.ep, .string i.txn.anchor, .int .i64 i.txn.start.1, .int .i64 i.txn.start.2, .int .i64 i.seq, .int .i64 i.at_.1, .int .i64 i.at_.2, .string i.val, .bool i.gone] 0 I)
      have A4 := Blk.others (C := w.heap.size) (by omega) (.bool false :: [.int .i64 0, .int .i64 0, .string ⟨#[]⟩, .int .i64 0, .int .i64 0, .int .i64 0, .int .i64 0, .int .i64 0, .string ⟨#[]⟩, .bool false]) 1 (Blk.others (C := w.heap.size) (by omega) [.slice bo n d, .bool true, .int .i64 i.txn.id, .int .i64 i.txn.ep, .string i.txn.anchor, .int .i64 i.txn.start.1, .int .i64 i.txn.start.2, .int .i64 i.seq, .int .i64 i.at_.1, .int .i64 i.at_.2, .string i.val, .bool i.gone] 0 A)
      have R4 := Blk.others (C := w.heap.size) (by omega) (.bool false :: [.int .i64 0, .int .i64 0, .string ⟨#[]⟩, .int .i64 0, .int .i64 0, .int .i64 0, .int .i64 0, .int .i64 0, .string ⟨#[]⟩, .bool false]) 1 (Blk.others (C := w.heap.size) (by omega) [.slice bo n d, .bool true, .int .i64 i.txn.id, .int .i64 i.txn.ep, .string i.txn.anchor, .int .i64 i.txn.start.1, .int .i64 i.txn.start.2, .int .i64 i.seq, .int .i64 i.at_.1, .int .i64 i.at_.2, .string i.val, .bool i.gone] 0 R)
      have ho4 := VOwn.others (C := w.heap.size) hltC (.bool false :: [.int .i64 0, .int .i64 0, .string ⟨#[]⟩, .int .i64 0, .int .i64 0, .int .i64 0, .int .i64 0, .int .i64 0, .string ⟨#[]⟩, .bool false]) 1 (VOwn.others (C := w.heap.size) hltC [.slice bo n d, .bool true, .int .i64 i.txn.id, .int .i64 i.txn.ep, .string i.txn.anchor, .int .i64 i.txn.start.1, .int .i64 i.txn.start.2, .int .i64 i.seq, .int .i64 i.at_.1, .int .i64 i.at_.2, .string i.val, .bool i.gone] 0 ho)
      have hsz4 : W2.heap.size ≤ (setAll (setAll w4 w.heap.size 0 [.slice bo n d, .bool true, .int .i64 i.txn.id, .int .i64 i.txn.ep, .string i.txn.anchor, .int .i64 i.txn.start.1, .int .i64 i.txn.start.2, .int .i64 i.seq, .int .i64 i.at_.1, .int .i64 i.at_.2, .string i.val, .bool i.gone]) w.heap.size 1 (.bool false :: [.int .i64 0, .int .i64 0, .string ⟨#[]⟩, .int .i64 0, .int .i64 0, .int .i64 0, .int .i64 0, .int .i64 0, .string ⟨#[]⟩, .bool false])).heap.size := by rw [setAll_size, setAll_size]; exact hz4
      have hB4 := below_setAll (C := w.heap.size) (Nat.le_refl _) (.bool false :: [.int .i64 0, .int .i64 0, .string ⟨#[]⟩, .int .i64 0, .int .i64 0, .int .i64 0, .int .i64 0, .int .i64 0, .string ⟨#[]⟩, .bool false]) 1 (below_setAll (C := w.heap.size) (Nat.le_refl _) [.slice bo n d, .bool true, .int .i64 i.txn.id, .int .i64 i.txn.ep, .string i.txn.anchor, .int .i64 i.txn.start.1, .int .i64 i.txn.start.2, .int .i64 i.seq, .int .i64 i.at_.1, .int .i64 i.at_.2, .string i.val, .bool i.gone] 0 hB)
      simp only [List.cons_append, List.nil_append] at C4
      have Hw := hide (And.intro C4 (And.intro I4 (And.intro A4 (And.intro R4 (And.intro ho4 (And.intro hB4 hsz4))))))
      clear C3 C4 I4 A4 R4 ho4 hB4 hsz4 I A R ho hB
      go_upto_region 12 with fail
      clear C_0 C_1 C_2 C_3 C_4 C_5 C_6 C_7 C_8 C_9 C_10 C_11
      clear Cf
      generalize hWd : setAll (setAll w4 w.heap.size 0 [.slice bo n d, .bool true, .int .i64 i.txn.id, .int .i64 i.txn.ep, .string i.txn.anchor, .int .i64 i.txn.start.1, .int .i64 i.txn.start.2, .int .i64 i.seq, .int .i64 i.at_.1, .int .i64 i.at_.2, .string i.val, .bool i.gone]) w.heap.size 1 (.bool false :: [.int .i64 0, .int .i64 0, .string ⟨#[]⟩, .int .i64 0, .int .i64 0, .int .i64 0, .int .i64 0, .int .i64 0, .string ⟨#[]⟩, .bool false]) = Wd at Hw
      simp only [setAll, Nat.zero_add, Nat.reduceAdd] at hWd
      rw [hWd]
      clear hWd
      obtain ⟨C4, I4, A4, R4, ho4, hB4, hsz4⟩ := unhide Hw
      have Hsz4 := hide hsz4
      clear hsz4
      clear Hw
      have Hn' := Hn
      have C4_0 := C4.c 0; have C4_1 := C4.c 1; have C4_2 := C4.c 2; have C4_3 := C4.c 3; have C4_4 := C4.c 4; have C4_5 := C4.c 5; have C4_6 := C4.c 6; have C4_7 := C4.c 7; have C4_8 := C4.c 8; have C4_9 := C4.c 9; have C4_10 := C4.c 10; have C4_11 := C4.c 11; simp only [List.getElem?_cons_zero, List.getElem?_cons_succ] at C4_0 C4_1 C4_2 C4_3 C4_4 C4_5 C4_6 C4_7 C4_8 C4_9 C4_10 C4_11
      have I4_0 := I4.c 0; have I4_1 := I4.c 1; have I4_2 := I4.c 2; have I4_3 := I4.c 3; have I4_4 := I4.c 4; have I4_5 := I4.c 5; have I4_6 := I4.c 6; have I4_7 := I4.c 7; have I4_8 := I4.c 8; have I4_9 := I4.c 9; simp only [List.getElem?_cons_zero, List.getElem?_cons_succ] at I4_0 I4_1 I4_2 I4_3 I4_4 I4_5 I4_6 I4_7 I4_8 I4_9
      have A4_0 := A4.c 0; have A4_1 := A4.c 1; simp only [List.getElem?_cons_zero, List.getElem?_cons_succ] at A4_0 A4_1
      have C4f := C4.f
      have hlim' : vs.length + [mkV i a].length ≤ 2932031007401 := by rw [unhide Hn]; simp; omega
      have Hlim := hide hlim'
      clear hlim'
      go_region_law (first | (refine step_append_vs rfl (.tmp 60) (.tmp 64) rfl W2.heap.size bo (some ⟨w5.heap.size, 0, none⟩) d 1 n 1 (n + 1) vs [mkV i a] rfl rfl (Nat.le_trans (unhide Hsz5) (by simp)) (unhide Hn) rfl rfl (unhide Ho5) (vs_one w5 (mkV i a)) (unhide Hlim) ?_; intro eo f w7 ho7 hg7; have hb7 := ((Below.refl W2.heap.size (w5.alloc (.cells #[.int .i64 (mkV i a).at_.1, .int .i64 (mkV i a).at_.2, .string (mkV i a).val, .bool (mkV i a).gone, .int .i64 (mkV i a).by_] 97)))).grown hg7 (Nat.le_trans (unhide Hsz5) (by simp)) (fun q hq => ((unhide Ho5).lt q (by rw [unhide Hn]; exact hq)).1); have C7 := (C5.alloc (.cells #[.int .i64 (mkV i a).at_.1, .int .i64 (mkV i a).at_.2, .string (mkV i a).val, .bool (mkV i a).gone, .int .i64 (mkV i a).by_] 97)).below hb7 hltC; have R7 := (R5.alloc (.cells #[.int .i64 (mkV i a).at_.1, .int .i64 (mkV i a).at_.2, .string (mkV i a).val, .bool (mkV i a).gone, .int .i64 (mkV i a).by_] 97)).below hb7 hltR; have HB7 := hide (((unhide HB5).alloc (unhide HB5).size (.cells #[.int .i64 (mkV i a).at_.1, .int .i64 (mkV i a).at_.2, .string (mkV i a).val, .bool (mkV i a).gone, .int .i64 (mkV i a).by_] 97)).trans (hb7.mono (Nat.le_of_lt hltC))); have HO7 := hide ho7; have H7 := hide (And.intro C7 R7); have C7_0 := C7.c 0; simp only [List.getElem?_cons_zero] at C7_0; have C7f := C7.f; clear ho7 hg7 hb7 C7 R7) | (go_simp; go_at_call 78; refine (decided_any i a _).mono ?_; rintro e w5 ⟨rfl, hb5⟩; have C5 := C4.drew.later hb5; have R5 := R4.drew.later hb5; have Ho5 := hide (((VOwn.later (w := Wd.drew) ho4 hb5 : VOwn W2.heap.size w5 bo d vs)).later ((Below.refl _ _).alloc (Nat.le_refl _) (.cells #[.int .i64 (mkV i a).at_.1, .int .i64 (mkV i a).at_.2, .string (mkV i a).val, .bool (mkV i a).gone, .int .i64 (mkV i a).by_] 97))); have HB5 := hide (hB4.drew.trans (hb5.mono hB4.size)); have Hsz5 : Hid (W2.heap.size ≤ w5.heap.size) := hide (Nat.le_trans (unhide Hsz4) hb5.size); have C5a := fun o => (C5.alloc o).c 0; simp only [List.getElem?_cons_zero] at C5a; have C5b := C5.c 0; simp only [List.getElem?_cons_zero] at C5b; clear hb5))
      all_goals
        obtain ⟨C7, R7⟩ := unhide H7
        have C8 := C7.set 0 (by simp) (.slice eo (n + 1) f)
        have R8 := R7.other (q := ⟨w.heap.size, 0, none⟩) (by show w.heap.size ≠ w.heap.size + 1 + 1; omega) (.slice eo (n + 1) f)
        simp only [List.set_cons_zero] at C8
        have HO8 := hide ((unhide HO7).other (q := ⟨w.heap.size, 0, none⟩) hltC (.slice eo (n + 1) f))
        have HB8 := hide ((unhide HB7).setCell (p := ⟨w.heap.size, 0, none⟩) (Nat.le_refl _) (.slice eo (n + 1) f))
        clear C4_0 C4_1 C4_2 C4_3 C4_4 C4_5 C4_6 C4_7 C4_8 C4_9 C4_10 C4_11 I4_0 I4_1 I4_2 I4_3 I4_4 I4_5 I4_6 I4_7 I4_8 I4_9 A4_0 A4_1 C7_0
        clear C7 R7 C7f C4f H7 HO7 HB7 C5a C5b C5 R5 C4 I4 A4 R4 ho4 hB4
        generalize w7.setCell _ _ = W8 at *
        have C8_0 := C8.c 0; have C8_1 := C8.c 1; have C8_2 := C8.c 2; have C8_3 := C8.c 3; have C8_4 := C8.c 4; have C8_5 := C8.c 5; have C8_6 := C8.c 6; have C8_7 := C8.c 7; have C8_8 := C8.c 8; have C8_9 := C8.c 9; have C8_10 := C8.c 10; have C8_11 := C8.c 11; simp only [List.getElem?_cons_zero, List.getElem?_cons_succ] at C8_0 C8_1 C8_2 C8_3 C8_4 C8_5 C8_6 C8_7 C8_8 C8_9 C8_10 C8_11
        have R8_0 := R8.c 0; have R8_1 := R8.c 1; have R8_2 := R8.c 2; have R8_3 := R8.c 3; have R8_4 := R8.c 4; have R8_5 := R8.c 5; have R8_6 := R8.c 6; have R8_7 := R8.c 7; have R8_8 := R8.c 8; have R8_9 := R8.c 9; have R8_10 := R8.c 10; have R8_11 := R8.c 11; simp only [List.getElem?_cons_zero, List.getElem?_cons_succ] at R8_0 R8_1 R8_2 R8_3 R8_4 R8_5 R8_6 R8_7 R8_8 R8_9 R8_10 R8_11
        have R8f := R8.f
        go_wp2
        refine bodyPost_ret (results_ce Tryz.results40 eo (n + 1) f false Itn.zero rfl rfl (R8.all [.slice eo (n + 1) f, .bool false, .int .i64 Itn.zero.txn.id, .int .i64 Itn.zero.txn.ep, .string Itn.zero.txn.anchor, .int .i64 Itn.zero.txn.start.1, .int .i64 Itn.zero.txn.start.2, .int .i64 Itn.zero.seq, .int .i64 Itn.zero.at_.1, .int .i64 Itn.zero.at_.2, .string Itn.zero.val, .bool Itn.zero.gone] rfl)) rfl ⟨eo, f, ?_, ?_, below_setAll (by omega) [.slice eo (n + 1) f, .bool false, .int .i64 Itn.zero.txn.id, .int .i64 Itn.zero.txn.ep, .string Itn.zero.txn.anchor, .int .i64 Itn.zero.txn.start.1, .int .i64 Itn.zero.txn.start.2, .int .i64 Itn.zero.seq, .int .i64 Itn.zero.at_.1, .int .i64 Itn.zero.at_.2, .string Itn.zero.val, .bool Itn.zero.gone] 0 (unhide HB8)⟩
        · show _ = Ending.returned (.tuple #[(.agg #[.slice eo (vs ++ [mkV i a]).length f, .bool false, .int .i64 Itn.zero.txn.id, .int .i64 Itn.zero.txn.ep, .string Itn.zero.txn.anchor, .int .i64 Itn.zero.txn.start.1, .int .i64 Itn.zero.txn.start.2, .int .i64 Itn.zero.seq, .int .i64 Itn.zero.at_.1, .int .i64 Itn.zero.at_.2, .string Itn.zero.val, .bool Itn.zero.gone]), .int .i64 0])
          rw [List.length_append, unhide Hn]
          rfl
        · exact (VOwn.others hltR [.slice eo (n + 1) f, .bool false, .int .i64 Itn.zero.txn.id, .int .i64 Itn.zero.txn.ep, .string Itn.zero.txn.anchor, .int .i64 Itn.zero.txn.start.1, .int .i64 Itn.zero.txn.start.2, .int .i64 Itn.zero.seq, .int .i64 Itn.zero.at_.1, .int .i64 Itn.zero.at_.2, .string Itn.zero.val, .bool Itn.zero.gone] 0 (unhide HO8)).mono (by omega)
end

end Go.Proofs.YtcdehnghggleoaaGreat
