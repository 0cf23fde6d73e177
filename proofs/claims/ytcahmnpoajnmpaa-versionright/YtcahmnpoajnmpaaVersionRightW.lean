/-
  VersionRight returns true. No statement is proved here: the lifted text has it.
-/
import Derived.Test.YtcahmnpoajnmpaaVRow
import Derived.Test.YtcahmnpoajnmpaaViewA
import Derived.BigQuiet
namespace Go.Proofs.Ytcahmnpoajnmpaa
open Go.RowKit
set_option linter.unusedVariables false

/-- The law's memory ahead of a round: the chain, right; the row of whose intents were there. -/
def RSt (wr w : World) (sv : Value) (k : Nat) : Prop :=
  ∃ (xv : List Ver) (xo : Bool) (xi : Itn) (bo : Option Addr) (l d : Nat) (ys : List Int), Blk wr w.heap.size [.slice bo l d, .bool xo, .int .i64 xi.txn.id, .int .i64 xi.txn.ep, .string xi.txn.anchor, .int .i64 xi.txn.start.1, .int .i64 xi.txn.start.2, .int .i64 xi.seq, .int .i64 xi.at_.1, .int .i64 xi.at_.2, .string xi.val, .bool xi.gone] ∧ Vs wr bo d xv ∧ Off w.heap.size bo xv ∧ xv.length = l ∧ l ≤ k ∧ rightC ⟨xv, xo, xi⟩ ∧ ys.length ≤ k ∧
    IOwn (w.heap.size + 1) wr sv ys ∧ (∀ g, sv.ownBlock = some g → Off g bo xv) ∧ (xo = true → xi.txn.id ∈ ys) ∧ Below w.heap.size w wr

section
set_option maxRecDepth 100000
set_option maxHeartbeats 20000000

theorem walkVersionRight {w : World} (c0 : Value) (xs : List ActR) (hc : AcsV w c0 xs) :
    Calls Try.prog 6 #[c0] w fun e w' => e = .returned (.bool true) ∧ Below w.heap.size w w' := by
  obtain ⟨po, pc, rfl, hx⟩ := hc
  have hA := fun w => alive_any w
  have hlx := hx.len
  simp only [maxLen] at hlx
  obtain ⟨q, hq⟩ : ∃ q, xs.length = q := ⟨_, rfl⟩
  have Hn := hide hq
  have Hx := hide hx
  simp only [hq] at hlx ⊢
  have C := Blk.new w #[.slice none 0 0, .bool false, .int .i64 0, .int .i64 0, .string ⟨#[]⟩, .int .i64 0, .int .i64 0, .int .i64 0, .int .i64 0, .int .i64 0, .string ⟨#[]⟩, .bool false] 30
  have hB : Below w.heap.size w (w.alloc (.cells #[.slice none 0 0, .bool false, .int .i64 0, .int .i64 0, .string ⟨#[]⟩, .int .i64 0, .int .i64 0, .int .i64 0, .int .i64 0, .int .i64 0, .string ⟨#[]⟩, .bool false] 30)) := (Below.refl w.heap.size w).alloc (Nat.le_refl _) _
  have Hst : Hid (RSt (w.alloc (.cells #[.slice none 0 0, .bool false, .int .i64 0, .int .i64 0, .string ⟨#[]⟩, .int .i64 0, .int .i64 0, .int .i64 0, .int .i64 0, .int .i64 0, .string ⟨#[]⟩, .bool false] 30)) w (.slice none 0 0) 0) :=
    hide ⟨[], false, Itn.zero, none, 0, 0, [], C, Vs.zero _, (fun b q e => by cases e), rfl, Nat.le_refl _, rightC_zero, Nat.le_refl _, IOwn.zero _ _, (fun g e => by cases e), (fun e => by cases e), hB⟩
  clear hq hx C hB
  go_enter Try.func6, Try.ntmps6
  go_wp2
  generalize w.alloc _ = W at *
  go_loopw [4, 5] (fun sv u wr => ∃ (k : Nat) (so : Option Addr) (yl sc : Nat), u = .int .i64 k ∧ sv = .slice so yl sc ∧ k ≤ q ∧ k ≤ 60 ∧ Hid (RSt wr w (.slice so yl sc) k)) (fun _ u _ => 60 - (intOf u).toNat)
  case atStart => exact ⟨0, none, 0, 0, rfl, rfl, by omega, by omega, unhide Hst⟩
  case round =>
    clear Hst
    obtain ⟨k, so, yl, sc, rfl, rfl, hk, hk60, Hs⟩ := hrel
    obtain ⟨wo, rfl⟩ : ∃ wo, wo = wr := ⟨_, rfl⟩
    obtain ⟨xv, xo, xi, bo, l, d, ys, C, hv, hoff, hl, hlk, hr, hyl, hI, hIo, hin, hB⟩ := unhide Hs
    clear Hs
    by_cases hlt : k < q
    case neg =>
      clear C hv hoff hl hlk hr hyl hI hIo hin
      go_wp2_with fail
      refine (hA _).mono ?_
      rintro e wq ⟨rfl, hbq⟩
      have HB := hide (hB.trans (hbq.mono hB.size))
      clear hbq hB
      go_wp2
      go_ret
      exact ⟨rfl, unhide HB⟩
    by_cases h60 : k < 60
    case neg =>
      clear C hv hoff hl hlk hr hyl hI hIo hin
      go_wp2_with fail
      refine (hA _).mono ?_
      rintro e wq ⟨rfl, hbq⟩
      have HB := hide (hB.trans (hbq.mono hB.size))
      clear hbq hB
      go_wp2
      go_ret
      exact ⟨rfl, unhide HB⟩
    have h1 : k < xs.length := by have := unhide Hn; omega
    obtain ⟨xb, xo', rfl, y⟩ := (unhide Hx).each k h1
    obtain ⟨a, ha⟩ : ∃ a, xs[k] = a := ⟨_, rfl⟩
    rw [ha] at y
    replace y := y.block (hB.block _ y.lt)
    have hyr := doesC_right a hr
    have hyv := doesC_vs ⟨xv, xo, xi⟩ a
    obtain ⟨⟨zv, zo, zi⟩, hz⟩ : ∃ z, doesC a ⟨xv, xo, xi⟩ = z := ⟨_, rfl⟩
    rw [hz] at hyr hyv
    simp only at hyv
    obtain ⟨m, hm⟩ : ∃ m, zv.length = m := ⟨_, rfl⟩
    have hlim : xv.length ≤ 2932031007400 := by omega
    have hml : (zv = xv ∧ m = l) ∨ (xo = true ∧ zo = false ∧ m = l + 1 ∧ ∃ v, zv = xv ++ [v] ∧ v.by_ = xi.txn.id) := by
      rcases hyv with e | ⟨e1, e2, v, e3, e4⟩
      · exact .inl ⟨e, by rw [← hm, e, hl]⟩
      · exact .inr ⟨e1, e2, by rw [← hm, e3]; simp [hl], v, e3, e4⟩
    have HP := hide (And.intro hyr (And.intro hm (And.intro hml (And.intro hl (And.intro hlk (And.intro hyl hin))))))
    have Hoff := hide (And.intro hoff (And.intro hIo (fun g hg => hI.lt g hg)))
    have hD := fun (w' : World) (h : Vs w' bo d xv) => does_any bo d xv xo xi a w' h hlim
    rw [hz] at hD
    simp only [hl, hm] at hD
    clear hr hyv hml hyl hin hoff hIo hz hyr hm hl h1 ha
    have C_0 := C.c 0; have C_1 := C.c 1; have C_2 := C.c 2; have C_3 := C.c 3; have C_4 := C.c 4; have C_5 := C.c 5; have C_6 := C.c 6; have C_7 := C.c 7; have C_8 := C.c 8; have C_9 := C.c 9; have C_10 := C.c 10; have C_11 := C.c 11; simp only [List.getElem?_cons_zero, List.getElem?_cons_succ] at C_0 C_1 C_2 C_3 C_4 C_5 C_6 C_7 C_8 C_9 C_10 C_11
    go_upto_region 7 with fail
    clear C_0 C_1 C_2 C_3 C_4 C_5 C_6 C_7 C_8 C_9 C_10 C_11
    have hbA := (Below.refl wo.heap.size wo).alloc (Nat.le_refl _) (.cells #[.slice bo l d, .bool xo, .int .i64 xi.txn.id, .int .i64 xi.txn.ep, .string xi.txn.anchor, .int .i64 xi.txn.start.1, .int .i64 xi.txn.start.2, .int .i64 xi.seq, .int .i64 xi.at_.1, .int .i64 xi.at_.2, .string xi.val, .bool xi.gone] 30)
    have D := Blk.new wo #[.slice bo l d, .bool xo, .int .i64 xi.txn.id, .int .i64 xi.txn.ep, .string xi.txn.anchor, .int .i64 xi.txn.start.1, .int .i64 xi.txn.start.2, .int .i64 xi.seq, .int .i64 xi.at_.1, .int .i64 xi.at_.2, .string xi.val, .bool xi.gone] 30
    have ltC := C.lt
    replace C := C.later hbA
    replace hv := hv.later hbA
    replace hI := hI.later hbA
    replace hB := hB.trans (hbA.mono hB.size)
    replace y := y.block (hbA.block _ y.lt)
    have HltC := hide ltC
    clear hbA ltC
    generalize wo.alloc _ = W1 at *
    have y_0 := y.c 0 (by omega); have y_1 := y.c 1 (by omega); have y_2 := y.c 2 (by omega); have y_3 := y.c 3 (by omega); have y_4 := y.c 4 (by omega); have y_5 := y.c 5 (by omega); have y_6 := y.c 6 (by omega); have y_7 := y.c 7 (by omega); have y_8 := y.c 8 (by omega); have y_9 := y.c 9 (by omega); have y_10 := y.c 10 (by omega); have y_11 := y.c 11 (by omega); have y_12 := y.c 12 (by omega); have y_13 := y.c 13 (by omega); have y_14 := y.c 14 (by omega); have y_15 := y.c 15 (by omega); simp only [Nat.add_zero, List.getElem?_cons_zero, List.getElem?_cons_succ] at y_0 y_1 y_2 y_3 y_4 y_5 y_6 y_7 y_8 y_9 y_10 y_11 y_12 y_13 y_14 y_15
    have C_0 := C.c 0; have C_1 := C.c 1; have C_2 := C.c 2; have C_3 := C.c 3; have C_4 := C.c 4; have C_5 := C.c 5; have C_6 := C.c 6; have C_7 := C.c 7; have C_8 := C.c 8; have C_9 := C.c 9; have C_10 := C.c 10; have C_11 := C.c 11; simp only [List.getElem?_cons_zero, List.getElem?_cons_succ] at C_0 C_1 C_2 C_3 C_4 C_5 C_6 C_7 C_8 C_9 C_10 C_11
    have Cf := C.f
    have ltW := C.lt
    have HltW := hide (And.intro ltW D.lt)
    clear y ltW
    go_region_with (go_at_call 28; refine (hD _ (hv.later (Below.refl _ _).drew)).mono ?_; rintro e w3 ⟨eo, f, rfl, hvz, hof, hb3⟩; have C3 := C.drw.later hb3; have D3 := D.drw.later hb3; have hI3 := hI.later ((Below.refl _ _).drew.trans hb3); have hv3 := hv.later ((Below.refl _ _).drew.trans hb3); have hB3 := hB.drew.trans (hb3.mono hB.size); have Hof := hide hof; have Hvz := hide hvz; have HH := hide (And.intro C3 (And.intro D3 (And.intro hI3 (And.intro hv3 hB3)))); have C3_0 := C3.c 0; have C3_1 := C3.c 1; have C3_2 := C3.c 2; have C3_3 := C3.c 3; have C3_4 := C3.c 4; have C3_5 := C3.c 5; have C3_6 := C3.c 6; have C3_7 := C3.c 7; have C3_8 := C3.c 8; have C3_9 := C3.c 9; have C3_10 := C3.c 10; have C3_11 := C3.c 11; simp only [List.getElem?_cons_zero, List.getElem?_cons_succ] at C3_0 C3_1 C3_2 C3_3 C3_4 C3_5 C3_6 C3_7 C3_8 C3_9 C3_10 C3_11; have C3f := C3.f; clear C3 D3 hI3 hv3 hB3 hof hvz hb3)
    all_goals
      clear C_0 C_1 C_2 C_3 C_4 C_5 C_6 C_7 C_8 C_9 C_10 C_11 C3_0 C3_1 C3_2 C3_3 C3_4 C3_5 C3_6 C3_7 C3_8 C3_9 C3_10 C3_11
      clear y_0 y_1 y_2 y_3 y_4 y_5 y_6 y_7 y_8 y_9 y_10 y_11 y_12 y_13 y_14 y_15
      clear C3f Cf hD C D hv hI hB
      obtain ⟨C3, D3, hI3, hv3, hB3⟩ := unhide HH
      have hofz := (unhide Hoff).1.does (M := W1.heap.size) (unhide HltW).1 (unhide Hof)
      have hofi : ∀ g, (Value.slice so yl sc).ownBlock = some g → Off g eo zv := fun g hg => ((unhide Hoff).2.1 g hg).does (M := W1.heap.size) (Nat.lt_trans ((unhide Hoff).2.2 g hg).2 (unhide HltW).2) (unhide Hof)
      have C4 := C3.all [.slice eo m f, .bool zo, .int .i64 zi.txn.id, .int .i64 zi.txn.ep, .string zi.txn.anchor, .int .i64 zi.txn.start.1, .int .i64 zi.txn.start.2, .int .i64 zi.seq, .int .i64 zi.at_.1, .int .i64 zi.at_.2, .string zi.val, .bool zi.gone] rfl
      have D4 := Blk.others (C := w.heap.size) (Nat.ne_of_gt (unhide HltC)) [.slice eo m f, .bool zo, .int .i64 zi.txn.id, .int .i64 zi.txn.ep, .string zi.txn.anchor, .int .i64 zi.txn.start.1, .int .i64 zi.txn.start.2, .int .i64 zi.seq, .int .i64 zi.at_.1, .int .i64 zi.at_.2, .string zi.val, .bool zi.gone] 0 D3
      have hz4 := (unhide Hvz).others hofz [.slice eo m f, .bool zo, .int .i64 zi.txn.id, .int .i64 zi.txn.ep, .string zi.txn.anchor, .int .i64 zi.txn.start.1, .int .i64 zi.txn.start.2, .int .i64 zi.seq, .int .i64 zi.at_.1, .int .i64 zi.at_.2, .string zi.val, .bool zi.gone] 0
      have hx4 := hv3.others (unhide Hoff).1 [.slice eo m f, .bool zo, .int .i64 zi.txn.id, .int .i64 zi.txn.ep, .string zi.txn.anchor, .int .i64 zi.txn.start.1, .int .i64 zi.txn.start.2, .int .i64 zi.seq, .int .i64 zi.at_.1, .int .i64 zi.at_.2, .string zi.val, .bool zi.gone] 0
      have hI4 := IOwn.others (C := w.heap.size) (Nat.lt_succ_self _) [.slice eo m f, .bool zo, .int .i64 zi.txn.id, .int .i64 zi.txn.ep, .string zi.txn.anchor, .int .i64 zi.txn.start.1, .int .i64 zi.txn.start.2, .int .i64 zi.seq, .int .i64 zi.at_.1, .int .i64 zi.at_.2, .string zi.val, .bool zi.gone] 0 hI3
      have hB4 := below_setAll (C := w.heap.size) (Nat.le_refl _) [.slice eo m f, .bool zo, .int .i64 zi.txn.id, .int .i64 zi.txn.ep, .string zi.txn.anchor, .int .i64 zi.txn.start.1, .int .i64 zi.txn.start.2, .int .i64 zi.seq, .int .i64 zi.at_.1, .int .i64 zi.at_.2, .string zi.val, .bool zi.gone] 0 hB3
      have Hw := hide (And.intro C4 (And.intro D4 (And.intro hz4 (And.intro hx4 (And.intro hI4 hB4)))))
      have HO := hide (And.intro hofz hofi)
      clear C3 D3 hI3 hv3 hB3 hofz hofi C4 D4 hz4 hx4 hI4 hB4 HH Hvz Hof
      go_upto_region 8 with fail
      generalize hW4 : setAll w3 w.heap.size 0 [.slice eo m f, .bool zo, .int .i64 zi.txn.id, .int .i64 zi.txn.ep, .string zi.txn.anchor, .int .i64 zi.txn.start.1, .int .i64 zi.txn.start.2, .int .i64 zi.seq, .int .i64 zi.at_.1, .int .i64 zi.at_.2, .string zi.val, .bool zi.gone] = W4 at Hw
      simp only [setAll, Nat.zero_add, Nat.reduceAdd] at hW4
      rw [hW4]
      clear hW4
      obtain ⟨C, D, hvz, hvx, hI, hB⟩ := unhide Hw
      clear Hw
      have C_0 := C.c 0; have C_1 := C.c 1; have C_2 := C.c 2; have C_3 := C.c 3; have C_4 := C.c 4; have C_5 := C.c 5; have C_6 := C.c 6; have C_7 := C.c 7; have C_8 := C.c 8; have C_9 := C.c 9; have C_10 := C.c 10; have C_11 := C.c 11; simp only [List.getElem?_cons_zero, List.getElem?_cons_succ] at C_0 C_1 C_2 C_3 C_4 C_5 C_6 C_7 C_8 C_9 C_10 C_11
      have h := right_c eo f zv zo zi W4 hvz
      rw [(rightCB_iff _).2 (unhide HP).1] at h
      simp only [(unhide HP).2.1] at h
      go_wp2_with fail
      refine h.mono ?_
      rintro e w5 ⟨rfl, hb5⟩
      clear C_0 C_1 C_2 C_3 C_4 C_5 C_6 C_7 C_8 C_9 C_10 C_11
      replace C := C.later hb5
      replace D := D.later hb5
      replace hvz := hvz.later hb5
      replace hvx := hvx.later hb5
      replace hI := hI.later hb5
      replace hB := hB.trans (hb5.mono hB.size)
      clear hb5 h
      have hm1 : l ≤ m := by rcases (unhide HP).2.2.1 with ⟨_, e⟩ | ⟨_, _, e, _⟩ <;> omega
      have hm2 : m ≤ l + 1 := by rcases (unhide HP).2.2.1 with ⟨_, e⟩ | ⟨_, _, e, _⟩ <;> omega
      have C_0 := C.c 0; simp only [List.getElem?_cons_zero] at C_0
      have D_0 := D.c 0; simp only [List.getElem?_cons_zero] at D_0
      have HS := hide (And.intro C (And.intro D (And.intro hvz (And.intro hvx (And.intro hI hB)))))
      clear C D hvz hvx hI hB
      go_wp2
      go_loopw [7] (fun u wr => ∃ j : Nat, u = .int .i64 j ∧ j ≤ l ∧ Hid (Below w5.heap.size w5 wr)) (fun u _ => l - (intOf u).toNat)
      case atStart => exact ⟨0, rfl, by omega, Below.refl _ _⟩
      case round =>
        obtain ⟨j, rfl, hj, Hb⟩ := hrel
        obtain ⟨C, D, hvz, hvx, hI, hB⟩ := unhide HS
        replace C := C.later (unhide Hb)
        replace D := D.later (unhide Hb)
        replace hvz := hvz.later (unhide Hb)
        replace hvx := hvx.later (unhide Hb)
        replace hI := hI.later (unhide Hb)
        replace hB := hB.trans ((unhide Hb).mono hB.size)
        by_cases hlj : j < l
        · have j1 : j < xv.length := by have := (unhide HP).2.2.2.1; omega
          have j2 : j < zv.length := by have := (unhide HP).2.1; omega
          have hsame : zv[j] = xv[j] := by
            rcases (unhide HP).2.2.1 with ⟨e, _⟩ | ⟨_, _, _, v, e, _⟩
            · simp only [e]
            · simp only [e]; rw [List.getElem_append_left j1]
          obtain ⟨b1, o1, rfl, p⟩ := hvx.each j j1
          obtain ⟨b2, o2, rfl, r⟩ := hvz.each j j2
          rw [hsame] at r
          obtain ⟨v, hv0⟩ : ∃ v, xv[j] = v := ⟨_, rfl⟩
          rw [hv0] at p r
          have qv := fun w => neqV v v w
          rw [sameV_self] at qv
          have ii : Nonempty (Later wr) := ⟨⟨wr, Below.refl _ _⟩⟩
          have C_1 := fun z : Later wr => (C.later z.below).c 0
          have D_1 := fun z : Later wr => (D.later z.below).c 0
          simp only [List.getElem?_cons_zero] at C_1 D_1
          have C_0 := C.c 0; simp only [List.getElem?_cons_zero] at C_0
          have D_0 := D.c 0; simp only [List.getElem?_cons_zero] at D_0
          have p0 := fun z : Later wr => z.cell p.c0
          have p1 := fun z : Later wr => z.cell p.c1
          have p2 := fun z : Later wr => z.cell p.c2
          have p3 := fun z : Later wr => z.cell p.c3
          have p4 := fun z : Later wr => z.cell p.c4
          have r0 := fun z : Later wr => z.cell r.c0
          have r1 := fun z : Later wr => z.cell r.c1
          have r2 := fun z : Later wr => z.cell r.c2
          have r3 := fun z : Later wr => z.cell r.c3
          have r4 := fun z : Later wr => z.cell r.c4
          have hjm : j < m := by omega
          have k1 := (unhide HP).2.1
          clear C D hvz hvx hI hB p r hsame hv0
          go_wp2_with fail
          refine wp_region_later (by kernel_rfl) (by kernel_rfl) ?_
          repeat (first
            | go_big_quiet_step (fail)
            | quiet_step (fail))
          refine wpQuiet_nil ?_
          intro w' hw'
          obtain ⟨⟨W6, hb6⟩, rfl⟩ := hw'
          clear ii p0 p1 p2 p3 p4 r0 r1 r2 r3 r4 C_0 C_1 D_0 D_1 qv
          go_wp2
          go_roundw
          case rel => exact ⟨j + 1, by go_num, by omega, (unhide Hb).trans (hb6.mono (unhide Hb).size)⟩
          case measure => simp [intOf]; omega
        · have Hj : Hid (j = l) := hide (by omega)
          have Hy := hide (unhide HP).2.2.2.2.2.1
          clear hvx
          rcases (unhide HP).2.2.1 with ⟨e1, e2⟩ | ⟨e1, e2, e3, v, e4, e5⟩
          · obtain rfl : l = m := e2.symm
            clear e1 e2
            cases zo
            · have Hend : Hid (RSt wr w (.slice so yl sc) (k + 1)) := hide ⟨zv, false, zi, eo, l, f, ys, C, hvz, (unhide HO).1, (unhide HP).2.1, by omega, (unhide HP).1, by have := unhide Hy; omega, hI, (unhide HO).2, (fun e => by cases e), hB⟩
              have C_0 := C.c 0; have C_1 := C.c 1; simp only [List.getElem?_cons_zero, List.getElem?_cons_succ] at C_0 C_1
              have D_0 := D.c 0; simp only [List.getElem?_cons_zero] at D_0
              clear C D hvz hI hB
              go_wp2
              go_roundw
              case rel => exact ⟨k + 1, so, yl, sc, by go_num, rfl, by omega, by omega, unhide Hend⟩
              case measure => simp [intOf]; omega
            · have hsz : w.heap.size + 1 ≤ wr.heap.size := C.lt
              have Hsz := hide hsz
              have HIA := hide (fun o => hI.later ((Below.refl wr.heap.size wr).alloc (Nat.le_refl _) o))
              have C_0 := C.c 0; have C_1 := C.c 1; have C_2 := C.c 2; simp only [List.getElem?_cons_zero, List.getElem?_cons_succ] at C_0 C_1 C_2
              have D_0 := D.c 0; simp only [List.getElem?_cons_zero] at D_0
              have HCD := hide (And.intro C (And.intro D (And.intro hvz hB)))
              clear C D hvz hI hB hsz
              go_wp2_with (at_builtin; refine wpList_append_int _ rfl (.tmp 69) (.tmp 74) rfl (w.heap.size + 1) ?hB1 (.slice so yl sc) ys ?hI1 zi.txn.id ?hn1 wr.heap.size rfl rfl (by simp) ?_)
              case hB1 => have := unhide Hsz; simp; omega
              case hI1 => exact unhide HIA _
              case hn1 => have := unhide Hy; omega
              intro v' w6 hI6 hg6 hor6
              clear C_0 C_1 C_2 D_0
              obtain ⟨C, D, hvz, hB⟩ := unhide HCD
              have oC : ∀ g, (Value.slice so yl sc).ownBlock = some g → g ≠ w.heap.size := fun g hg => by have := ((unhide Hoff).2.2 g hg).1; omega
              have oD : ∀ g, (Value.slice so yl sc).ownBlock = some g → g ≠ wo.heap.size := fun g hg => by have := ((unhide Hoff).2.2 g hg).2; omega
              have hof6 : ∀ g, v'.ownBlock = some g → Off g eo zv := fun g hg => by
                rcases hor6 with e | e
                · exact (unhide HO).2 g (by rw [← e]; exact hg)
                · exact hvz.off (Nat.le_trans (by simp) (e g hg))
              replace C := (C.alloc (.cells #[.int .i64 zi.txn.id] 3)).grown hg6 oC
              replace D := (D.alloc (.cells #[.int .i64 zi.txn.id] 3)).grown hg6 oD
              replace hvz := (hvz.alloc (.cells #[.int .i64 zi.txn.id] 3)).grown hg6 (unhide HO).2
              replace hB := (hB.alloc hB.size (.cells #[.int .i64 zi.txn.id] 3)).grown hg6 (by have := unhide Hsz; simp; omega) (fun g hg => by have := ((unhide Hoff).2.2 g hg).1; omega)
              obtain ⟨so', sc', rfl, _⟩ := hI6.form
              have Hend : Hid (RSt w6 w (.slice so' (ys ++ [zi.txn.id]).length sc') (k + 1)) := hide ⟨zv, true, zi, eo, l, f, ys ++ [zi.txn.id], C, hvz, (unhide HO).1, (unhide HP).2.1, by omega, (unhide HP).1, by have := unhide Hy; simp; omega, hI6, hof6, (fun e => by simp), hB⟩
              have C_0 := C.c 0; have C_1 := C.c 1; simp only [List.getElem?_cons_zero, List.getElem?_cons_succ] at C_0 C_1
              have D_0 := D.c 0; simp only [List.getElem?_cons_zero] at D_0
              clear C D hvz hI6 hB hg6 hor6 oC oD hof6
              go_wp2
              go_roundw
              case rel => exact ⟨k + 1, so', _, sc', by go_num, rfl, by omega, by omega, unhide Hend⟩
              case measure => simp [intOf]; omega
          · subst e1 e2 e3
            have Hend : Hid (∀ w7, Below wr.heap.size wr w7 → RSt w7 w (.slice so yl sc) (k + 1)) := hide (fun w7 h7 => ⟨zv, false, zi, eo, l + 1, f, ys, C.later h7, hvz.later h7, (unhide HO).1, (unhide HP).2.1, by omega, (unhide HP).1, by have := unhide Hy; omega, hI.later h7, (unhide HO).2, (fun e => by cases e), hB.trans (h7.mono hB.size)⟩)
            have Hv := hide (And.intro e4 e5)
            have Hin := hide ((unhide HP).2.2.2.2.2.2 rfl)
            have hyk : ys.length ≤ 60 := by have := unhide Hy; omega
            obtain ⟨so1, sc1, e6, hle, hcm, hcell⟩ := hI.form
            injection e6 with e6 e7 e8
            subst e6 e7 e8
            have Hcell := hide hcell
            have HS2 := hide (And.intro C (And.intro D hvz))
            have C_0 := C.c 0; have C_1 := C.c 1; simp only [List.getElem?_cons_zero, List.getElem?_cons_succ] at C_0 C_1
            have D_0 := D.c 0; simp only [List.getElem?_cons_zero] at D_0
            obtain ⟨w2, rfl⟩ : ∃ w2, w2 = wr := ⟨_, rfl⟩
            clear C D hvz hI hB e4 e5 hcell
            go_wp2
            clear C_0 C_1 D_0
            go_loopw [8, 9] (fun p u wr => ∃ (t : Nat) (b : Bool), u = .int .i64 t ∧ p = .bool b ∧ t ≤ ys.length ∧ Hid (b = true ∨ xi.txn.id ∉ ys.take t) ∧ Hid (Below w2.heap.size w2 wr)) (fun _ u _ => ys.length - (intOf u).toNat)
            case atStart => exact ⟨0, false, rfl, rfl, by omega, .inr (by simp), Below.refl _ _⟩
            case round =>
              obtain ⟨t, b, rfl, rfl, ht, Hf, Hb⟩ := hrel
              obtain ⟨C, D, hvz⟩ := unhide HS2
              replace C := C.later (unhide Hb)
              replace D := D.later (unhide Hb)
              replace hvz := hvz.later (unhide Hb)
              by_cases hlt2 : t < ys.length
              · cases b
                · have l1 : l < zv.length := by have := (unhide HP).2.1; omega
                  obtain ⟨g, rfl, hc⟩ := unhide Hcell t hlt2
                  replace hc := ((unhide Hb).cell (p := ⟨g, 0 + t * 1, none⟩) (World.block_lt_of_cell? _ _ hc)).trans hc
                  obtain ⟨yt, hyt⟩ : ∃ yt, ys[t] = yt := ⟨_, rfl⟩
                  rw [hyt] at hc
                  simp only [Nat.zero_add, Nat.mul_one] at hc
                  obtain ⟨b2, o2, rfl, r⟩ := hvz.each l l1
                  have hzl : zv[l] = v := by
                    simp only [(unhide Hv).1]
                    rw [List.getElem_append_right (by have := (unhide HP).2.2.2.1; omega)]
                    simp [(unhide HP).2.2.2.1]
                  rw [hzl] at r
                  have hl1 : (l : Int) < (l : Int) + 1 := by omega
                  have ii : Nonempty (Later wr) := ⟨⟨wr, Below.refl _ _⟩⟩
                  have C_0 := fun z : Later wr => (C.later z.below).c 0
                  have D_0 := fun z : Later wr => (D.later z.below).c 0
                  simp only [List.getElem?_cons_zero] at C_0 D_0
                  have r4 := fun z : Later wr => z.cell r.c4
                  have s0 := fun z : Later wr => z.cell hc
                  have Hyt := hide hyt
                  clear hyt hzl r C D hvz hc l1
                  by_cases hy : yt = v.by_
                  · have hy' : (yt == v.by_) = true := by simpa using hy
                    clear hy
                    go_wp2_with fail
                    refine wp_region_later (by kernel_rfl) (by kernel_rfl) ?_
                    repeat (first
                      | go_big_quiet_step (fail)
                      | quiet_step (fail))
                    refine wpQuiet_nil ?_
                    intro w' hw'
                    obtain ⟨⟨W7, hb7⟩, rfl⟩ := hw'
                    clear ii C_0 D_0 r4 s0
                    go_wp2
                    go_roundw
                    case rel => exact ⟨t + 1, true, by go_num, rfl, by omega, .inl rfl, (unhide Hb).trans (hb7.mono (unhide Hb).size)⟩
                    case measure => simp [intOf]; omega
                  · have hy' : (yt == v.by_) = false := by simpa using hy
                    have Hny := hide hy
                    clear hy
                    go_wp2_with fail
                    refine wp_region_later (by kernel_rfl) (by kernel_rfl) ?_
                    repeat (first
                      | go_big_quiet_step (fail)
                      | quiet_step (fail))
                    refine wpQuiet_nil ?_
                    intro w' hw'
                    obtain ⟨⟨W7, hb7⟩, rfl⟩ := hw'
                    clear ii C_0 D_0 r4 s0
                    go_wp2
                    go_roundw
                    case rel =>
                      refine ⟨t + 1, false, by go_num, rfl, by omega, .inr ?_, (unhide Hb).trans (hb7.mono (unhide Hb).size)⟩
                      rw [List.take_succ_eq_append_getElem hlt2, unhide Hyt, List.mem_append]
                      rintro (e | e)
                      · rcases unhide Hf with h | h
                        · cases h
                        · exact h e
                      · simp at e
                        exact unhide Hny (by rw [(unhide Hv).2, e])
                    case measure => simp [intOf]; omega
                · have ii : Nonempty (Later wr) := ⟨⟨wr, Below.refl _ _⟩⟩
                  clear C D hvz
                  go_wp2_with fail
                  refine wp_region_later (by kernel_rfl) (by kernel_rfl) ?_
                  repeat (first
                    | go_big_quiet_step (fail)
                    | quiet_step (fail))
                  refine wpQuiet_nil ?_
                  intro w' hw'
                  obtain ⟨⟨W7, hb7⟩, rfl⟩ := hw'
                  clear ii
                  go_wp2
                  go_roundw
                  case rel => exact ⟨t + 1, true, by go_num, rfl, by omega, .inl rfl, (unhide Hb).trans (hb7.mono (unhide Hb).size)⟩
                  case measure => simp [intOf]; omega
              · obtain rfl : b = true := by
                  rcases unhide Hf with h | h
                  · exact h
                  · exact absurd (by rw [List.take_of_length_le (by omega)]; exact unhide Hin) h
                have C_0 := C.c 0; have C_1 := C.c 1; simp only [List.getElem?_cons_zero, List.getElem?_cons_succ] at C_0 C_1
                have D_0 := D.c 0; have D_1 := D.c 1; simp only [List.getElem?_cons_zero, List.getElem?_cons_succ] at D_0 D_1
                have Hend2 := hide (unhide Hend wr (unhide Hb))
                clear C D hvz
                go_wp2
                go_roundw
                case rel => exact ⟨k + 1, so, _, sc, by go_num, rfl, by omega, by omega, unhide Hend2⟩
                case measure => simp [intOf]; omega
end

end Go.Proofs.Ytcahmnpoajnmpaa
