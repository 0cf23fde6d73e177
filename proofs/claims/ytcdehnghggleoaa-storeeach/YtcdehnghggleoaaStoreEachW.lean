/-
  StoreEach returns true. No statement is proved here: the lifted text has it.
-/
import Derived.Test.YtcdehnghggleoaaSe
import Derived.Test.YtcdehnghggleoaaStoreKeysW
import Derived.Conc.MuLone
namespace Go.Proofs.Ytcdehnghggleoaa
open Go.RowKit
set_option linter.unusedVariables false

/-- The law's memory ahead of a round. -/
structure ESt (w : World) (a b N : Nat) (l : List Ent) (W : World) : Prop where
  bel : Below w.heap.size w W
  sto : Sto W a b l
  room : Room W b l N
  hb : w.heap.size ≤ b
  ne : NE l
theorem ESt.later {w : World} {a b N : Nat} {l : List Ent} {W W' : World} (h : ESt w a b N l W) (hb : Below W.heap.size W W') : ESt w a b N l W' :=
  ⟨h.bel.trans (hb.mono h.bel.size), h.sto.later hb, h.room.later hb, h.hb, h.ne⟩
theorem ESt.more {w : World} {a b N M : Nat} {l : List Ent} {W : World} (h : ESt w a b N l W) (hM : N ≤ M) : ESt w a b M l W :=
  ⟨h.bel, h.sto, ⟨by obtain ⟨n, h1, h2⟩ := h.room.1; exact ⟨n, h1, by omega⟩, fun e he => by have := h.room.2 e he; omega⟩, h.hb, h.ne⟩
theorem ESt.cells {w : World} {a b N : Nat} {l : List Ent} {W : World} (h : ESt w a b N l W) : ∀ r, some b = some r → ∃ o : Obj, W.heap[r]? = some o ∧ o.isCells = false := fun r e => by
  cases e
  obtain ⟨_, ho, _⟩ := h.sto.own
  exact own_cells ho
theorem ESt.grown {w : World} {a b N M : Nat} {l l' : List Ent} {W W' : World} (h : ESt w a b N l W) (hs : Sto W' a b l') (hr : Room W' b l' M) (hg : W.grownBy W' (some b)) (hn : NE l') : ESt w a b M l' W' :=
  ⟨h.bel.grown hg h.bel.size (fun k e => by cases e; exact h.hb), hs, hr, h.hb, hn⟩

/-- Has an act to do with a key? -/
def tchB (z : ActS) (x : ByteArray) : Bool := if z.kind = 1 then decide (x = z.key) else S5.hasB z.f z.t x

/-- Behind an act: the store, the one that was, and what they have to do with one another. -/
structure EMd (w : World) (a b k : Nat) (l L2 : List Ent) (a2 b2 : Nat) (z : ActS) (Zb : Nat) (er : Int) (L : List Ent) (W : World) : Prop where
  st : ESt w a b (k + 1) L W
  was : Sto W a2 b2 L2
  Z : Blk W Zb [.int .i64 z.kind, .int .i64 z.id, .int .i64 z.ep, .string z.key, .string z.f, .string z.t, .int .i64 z.itn.txn.id, .int .i64 z.itn.txn.ep, .string z.itn.txn.anchor, .int .i64 z.itn.txn.start.1, .int .i64 z.itn.txn.start.2, .int .i64 z.itn.seq, .int .i64 z.itn.at_.1, .int .i64 z.itn.at_.2, .string z.itn.val, .bool z.itn.gone, .bool z.commit, .int .i64 z.a0.1, .int .i64 z.a0.2, .int .i64 z.a1.1, .int .i64 z.a1.2]
  err : er ≠ 0 → L = l
  oth : ∀ x, tchB z x = false → (entAt L x).c = (entAt l x).c
  put : z.kind = 1 → l.length ≤ L.length
  len : L.length ≤ l.length + 1

theorem EMd.later {w : World} {a b k : Nat} {l L2 : List Ent} {a2 b2 : Nat} {z : ActS} {Zb : Nat} {er : Int} {L : List Ent} {W W' : World} (h : EMd w a b k l L2 a2 b2 z Zb er L W) (hb : Below W.heap.size W W') : EMd w a b k l L2 a2 b2 z Zb er L W' :=
  ⟨h.st.later hb, h.was.later hb, h.Z.later hb, h.err, h.oth, h.put, h.len⟩
/-- The same chain, or touched and without an error. -/
theorem EMd.same {w : World} {a b k : Nat} {l L2 : List Ent} {a2 b2 : Nat} {z : ActS} {Zb : Nat} {er : Int} {L : List Ent} {W : World} (h : EMd w a b k l L2 a2 b2 z Zb er L W) (ha : absL L2 = absL l) (x : ByteArray) :
    sameC (entAt L x).c (entAt L2 x).c = true ∨ (tchB z x = true ∧ er = 0) := by
  by_cases q : tchB z x = true ∧ er = 0
  · exact .inr q
  · left
    rw [sameC_iff, entC_abs ha]
    by_cases q2 : tchB z x = true
    · rw [h.err (fun e => q ⟨q2, e⟩)]
    · exact h.oth x (by simpa using q2)

theorem enter_same (args : Array Value) (w : World) : (callFunc 13 args).run Try.prog w = .ok (.enter 13 args) w :=
  MuLone.run_callFunc_enter Try.func13 (by kernel_rfl) rfl args w
theorem enter_chain (args : Array Value) (w : World) : (callFunc 14 args).run Try.prog w = .ok (.enter 14 args) w :=
  MuLone.run_callFunc_enter Try.func14 (by kernel_rfl) rfl args w

/-- A call in a region, by its contract. -/
theorem wp_call_of2 {o : Oper} {a : Act} {w : World} {K : Act → World → Prop} {Q : Exit → Act → World → Prop} {f : FuncId} {x y : Operand} {ts : Array TypeId} {u v : Value} {R : Value → World → Prop}
    (he : ∀ args w, (callFunc f args).run Try.prog w = .ok (.enter f args) w) (ho : o.op = .call { callee := .value (.func f), args := #[x, y], argTypes := ts }) (hx : a.eval x = u) (hy : a.eval y = v)
    (h : Calls Try.prog f #[u, v] w fun e w' => ∃ v, e = .returned v ∧ R v w') (hK : ∀ v w', R v w' → K (a.put o.dst v) w') : o.wp Try.prog a w K Q := by
  have hr : (execOp a.eval o).run Try.prog w = .ok (.enter f #[u, v]) w := by
    obtain ⟨d, op, ty, ps, af, g⟩ := o
    simp only at ho
    subst ho
    rw [execOp_call_go, show #[] ++ #[x, y].map a.eval ++ #[] = #[u, v] by simp [hx, hy]]
    exact he _ w
  unfold Oper.wp
  rw [hr, Oper.upon_enter]
  refine h.mono ?_
  rintro e w' ⟨v, rfl, hr⟩
  exact hK v w' hr

/-- A chain, as it lies in memory. -/
def ChAt (w : World) (V : Value) (c : Chn) : Prop := ∃ bo d, V = chV bo d c ∧ Vs w bo d c.vs
theorem ChAt.later {w w' : World} {V : Value} {c : Chn} (h : ChAt w V c) (hb : Below w.heap.size w w') : ChAt w' V c := by
  obtain ⟨bo, d, e, hv⟩ := h
  exact ⟨bo, d, e, hv.later hb⟩
theorem chain_v {a b : Nat} {l : List Ent} {k : ByteArray} {w : World} (h : Sto w a b l) (hk : k.size ≤ 1000) :
    Calls Try.prog 14 #[.pointer (some ⟨a, 0, none⟩), .string k] w fun e w' => ∃ V, e = .returned V ∧ ChAt w' V (entAt l k).c ∧ Below w.heap.size w w' := by
  refine (chain_any a b l k w h hk).mono ?_
  rintro e w' ⟨bo, d, rfl, hv, hb⟩
  exact ⟨_, rfl, ⟨bo, d, rfl, hv⟩, hb⟩
theorem same_v {w : World} {V1 V2 : Value} {c1 c2 : Chn} (h1 : ChAt w V1 c1) (h2 : ChAt w V2 c2) :
    Calls Try.prog 13 #[V1, V2] w fun e w' => e = .returned (.bool (sameC c1 c2)) ∧ Below w.heap.size w w' := by
  obtain ⟨bo1, d1, rfl, hv1⟩ := h1
  obtain ⟨bo2, d2, rfl, hv2⟩ := h2
  obtain ⟨v1, o1, i1⟩ := c1
  obtain ⟨v2, o2, i2⟩ := c2
  exact refsame_any bo1 bo2 d1 d2 v1 v2 o1 o2 i1 i2 w hv1 hv2

theorem not_le9 {a b : ByteArray} (h : S5.L a b) : (Op.bytesLess b.toList a.toList || b.toList == a.toList) = false := by
  rw [Bool.or_eq_false_iff, beq_eq_false_iff_ne]
  refine ⟨?_, fun q => ?_⟩
  · have q : ¬ S5.L b a := fun q => S5.L.irr a (S5.L.tr h q)
    unfold S5.L S5.ltB at q
    simpa using q
  · have q := S5.toList_inj q
    subst q
    exact S5.L.irr _ h

section
set_option maxRecDepth 100000
set_option maxHeartbeats 20000000

theorem walkStoreEach {w : World} (c0 : Value) (xs : List ActS) (hc : AcsV9 w c0 xs) :
    Calls Try.prog 3 #[c0] w fun e w' => e = .returned (.bool true) ∧ Below w.heap.size w w' := by
  obtain ⟨po, pc, rfl, hx⟩ := hc.ex
  clear hc
  have hA := fun w => alive9_any w
  have hlx := hx.len
  simp only [maxLen] at hlx
  obtain ⟨q, hq⟩ : ∃ q, xs.length = q := ⟨_, rfl⟩
  have Hn := hide hq
  have Hx := hide hx
  simp only [hq] at hlx ⊢
  clear hq hx
  go_enter Try.func3, Try.ntmps3
  go_wp2_with fail
  refine (new_any _).mono ?_
  rintro e w1 ⟨a, b, rfl, hs1, ha, hb, hb1⟩
  have hr1 : Room w1 b [] 0 := by
    obtain ⟨n, hn, _⟩ := hs1.own
    exact ⟨⟨0, own_tight hn, Nat.le_refl _⟩, fun e he => (by cases he)⟩
  have HK : Hid (ESt w a b 0 [] w1) := hide ⟨hb1, hs1, hr1, hb, fun e he => (by cases he)⟩
  clear hs1 hr1 ha hb hb1
  go_wp2
  go_loopw [4] (fun u wr => ∃ k : Nat, u = .int .i64 k ∧ k ≤ q ∧ k ≤ 80 ∧ Hid (∃ l, ESt w a b k l wr)) (fun u _ => 80 - (intOf u).toNat)
  case atStart => exact ⟨0, rfl, by omega, by omega, [], unhide HK⟩
  case round =>
    clear HK
    obtain ⟨k, rfl, hk, hk80, Hs⟩ := hrel
    by_cases hlt : k < q
    case neg =>
      have hB : Below w.heap.size w wr := by obtain ⟨l, K⟩ := unhide Hs; exact K.bel
      clear Hs
      go_wp2_with fail
      refine (hA _).mono ?_
      rintro e wq ⟨rfl, hbq⟩
      have HB := hide (hB.trans (hbq.mono hB.size))
      clear hbq hB
      go_wp2
      go_ret
      exact ⟨rfl, unhide HB⟩
    by_cases h80 : k < 80
    case neg =>
      have hB : Below w.heap.size w wr := by obtain ⟨l, K⟩ := unhide Hs; exact K.bel
      clear Hs
      go_wp2_with fail
      refine (hA _).mono ?_
      rintro e wq ⟨rfl, hbq⟩
      have HB := hide (hB.trans (hbq.mono hB.size))
      clear hbq hB
      go_wp2
      go_ret
      exact ⟨rfl, unhide HB⟩
    obtain ⟨l, K⟩ := unhide Hs
    clear Hs
    have h1 : k < xs.length := by have := unhide Hn; omega
    obtain ⟨xb, xo, rfl, yy⟩ := (unhide Hx).each k h1
    obtain ⟨z, hz⟩ : ∃ z, xs[k] = z := ⟨_, rfl⟩
    rw [hz] at yy
    replace yy := yy.block (K.bel.block _ yy.lt)
    have hrg := yy.range
    have HK := hide K
    clear hz h1 yy K
    go_upto_region 8 with (first | refine wpList_load_mid rfl 35 _ rfl xb (xo + k * 21) rfl [.int .i64 z.kind, .int .i64 z.id, .int .i64 z.ep, .string z.key, .string z.f, .string z.t, .int .i64 z.itn.txn.id, .int .i64 z.itn.txn.ep, .string z.itn.txn.anchor, .int .i64 z.itn.txn.start.1, .int .i64 z.itn.txn.start.2, .int .i64 z.itn.seq, .int .i64 z.itn.at_.1, .int .i64 z.itn.at_.2, .string z.itn.val, .bool z.itn.gone, .bool z.commit, .int .i64 z.a0.1, .int .i64 z.a0.2, .int .i64 z.a1.1, .int .i64 z.a1.2] _ hrg Try.underlying35 rfl (by kernel_rfl) ?_ | refine wpList_store_new rfl rfl 35 _ _ rfl wr _ 35 [.int .i64 z.kind, .int .i64 z.id, .int .i64 z.ep, .string z.key, .string z.f, .string z.t, .int .i64 z.itn.txn.id, .int .i64 z.itn.txn.ep, .string z.itn.txn.anchor, .int .i64 z.itn.txn.start.1, .int .i64 z.itn.txn.start.2, .int .i64 z.itn.seq, .int .i64 z.itn.at_.1, .int .i64 z.itn.at_.2, .string z.itn.val, .bool z.itn.gone, .bool z.commit, .int .i64 z.a0.1, .int .i64 z.a0.2, .int .i64 z.a1.1, .int .i64 z.a1.2] rfl rfl rfl (by kernel_rfl) rfl ?_)
    have Z := Blk.new wr #[.int .i64 z.kind, .int .i64 z.id, .int .i64 z.ep, .string z.key, .string z.f, .string z.t, .int .i64 z.itn.txn.id, .int .i64 z.itn.txn.ep, .string z.itn.txn.anchor, .int .i64 z.itn.txn.start.1, .int .i64 z.itn.txn.start.2, .int .i64 z.itn.seq, .int .i64 z.itn.at_.1, .int .i64 z.itn.at_.2, .string z.itn.val, .bool z.itn.gone, .bool z.commit, .int .i64 z.a0.1, .int .i64 z.a0.2, .int .i64 z.a1.1, .int .i64 z.a1.2] 35
    have hB : Below wr.heap.size wr (wr.alloc (.cells #[.int .i64 z.kind, .int .i64 z.id, .int .i64 z.ep, .string z.key, .string z.f, .string z.t, .int .i64 z.itn.txn.id, .int .i64 z.itn.txn.ep, .string z.itn.txn.anchor, .int .i64 z.itn.txn.start.1, .int .i64 z.itn.txn.start.2, .int .i64 z.itn.seq, .int .i64 z.itn.at_.1, .int .i64 z.itn.at_.2, .string z.itn.val, .bool z.itn.gone, .bool z.commit, .int .i64 z.a0.1, .int .i64 z.a0.2, .int .i64 z.a1.1, .int .i64 z.a1.2] 35)) := (Below.refl wr.heap.size wr).alloc (Nat.le_refl _) _
    have hgW : (wr.alloc (.cells #[.int .i64 z.kind, .int .i64 z.id, .int .i64 z.ep, .string z.key, .string z.f, .string z.t, .int .i64 z.itn.txn.id, .int .i64 z.itn.txn.ep, .string z.itn.txn.anchor, .int .i64 z.itn.txn.start.1, .int .i64 z.itn.txn.start.2, .int .i64 z.itn.seq, .int .i64 z.itn.at_.1, .int .i64 z.itn.at_.2, .string z.itn.val, .bool z.itn.gone, .bool z.commit, .int .i64 z.a0.1, .int .i64 z.a0.2, .int .i64 z.a1.1, .int .i64 z.a1.2] 35)).heap[wr.heap.size]? = some (.cells #[.int .i64 z.kind, .int .i64 z.id, .int .i64 z.ep, .string z.key, .string z.f, .string z.t, .int .i64 z.itn.txn.id, .int .i64 z.itn.txn.ep, .string z.itn.txn.anchor, .int .i64 z.itn.txn.start.1, .int .i64 z.itn.txn.start.2, .int .i64 z.itn.seq, .int .i64 z.itn.at_.1, .int .i64 z.itn.at_.2, .string z.itn.val, .bool z.itn.gone, .bool z.commit, .int .i64 z.a0.1, .int .i64 z.a0.2, .int .i64 z.a1.1, .int .i64 z.a1.2] 35 (0, 0)) := World.alloc_heap_new wr _
    replace HK := hide ((unhide HK).later hB)
    clear hB hrg
    generalize hW1 : wr.alloc (.cells #[.int .i64 z.kind, .int .i64 z.id, .int .i64 z.ep, .string z.key, .string z.f, .string z.t, .int .i64 z.itn.txn.id, .int .i64 z.itn.txn.ep, .string z.itn.txn.anchor, .int .i64 z.itn.txn.start.1, .int .i64 z.itn.txn.start.2, .int .i64 z.itn.seq, .int .i64 z.itn.at_.1, .int .i64 z.itn.at_.2, .string z.itn.val, .bool z.itn.gone, .bool z.commit, .int .i64 z.a0.1, .int .i64 z.a0.2, .int .i64 z.a1.1, .int .i64 z.a1.2] 35) = W1 at *
    clear hW1
    have hF := fun w => fits9_any z w
    have Hkey : Hid (fits9B z = true → z.key.size ≤ 1000) := hide (fits_key z)
    have Hspan : Hid (fits9B z = true → z.f.size ≤ 60 ∧ z.t.size ≤ 60) := hide (fits_span z)
    generalize fits9B z = ok at *
    go_wp2_with (refine wpList_load_row rfl 35 _ rfl wr.heap.size rfl 35 _ (0, 0) _ hgW Try.underlying35 rfl (by kernel_rfl) ?_)
    clear hgW
    refine (hF _).mono ?_
    rintro e w1 ⟨rfl, hb1⟩
    clear hF
    replace Z := Z.later hb1
    replace HK := hide ((unhide HK).later hb1)
    clear hb1
    generalize wr.heap.size = Zb at *
    cases ok
    case false =>
      have HE : Hid (∃ l, ESt w a b (k + 1) l w1) := hide ⟨l, (unhide HK).more (by omega)⟩
      clear HK Hkey Hspan Z
      go_wp2
      go_roundw
      case rel => exact ⟨k + 1, by go_num, by omega, by omega, unhide HE⟩
      case measure => simp [intOf]; omega
    case true =>
      have hkey := unhide Hkey rfl
      have hspan := unhide Hspan rfl
      clear Hkey Hspan
      by_cases k12 : z.kind = 1 ∨ z.kind = 2
      case neg =>
        have HE : Hid (∃ l, ESt w a b (k + 1) l w1) := hide ⟨l, (unhide HK).more (by omega)⟩
        have Z_0 := Z.c 0; simp only [List.getElem?_cons_zero] at Z_0
        clear HK Z
        by_cases k3 : 2 < z.kind
        · go_wp2
          go_roundw
          case rel => exact ⟨k + 1, by go_num, by omega, by omega, unhide HE⟩
          case measure => simp [intOf]; omega
        · have k4 : z.kind < 1 := by omega
          go_wp2
          go_roundw
          case rel => exact ⟨k + 1, by go_num, by omega, by omega, unhide HE⟩
          case measure => simp [intOf]; omega
      case pos =>
        have k3 : ¬ 2 < z.kind := by omega
        have k4 : ¬ z.kind < 1 := by omega
        have K12 := hide k12
        have hC := copy9_any a b k l w1 (unhide HK).sto (unhide HK).room (by omega)
        have Z_0 := Z.c 0; simp only [List.getElem?_cons_zero] at Z_0
        clear k12
        go_wp2_with fail
        refine hC.mono ?_
        clear hC
        rintro e w2 ⟨a2, b2, L2, rfl, hs2, habs, ha2, hb2, hbC⟩
        have hbb : b2 ≠ b := by have := (unhide HK).sto.ltb; omega
        clear Z_0
        replace Z := Z.later hbC
        replace HK := hide ((unhide HK).later hbC)
        have Hs2 := hide hs2
        clear hs2 ha2 hb2 hbC
        have hR := fun (h : z.kind = 2) => resolve9_any a b k l z.f z.t z.id z.ep z.commit z.a0 w2 (unhide HK).sto (unhide HK).room (by omega)
        have hP := fun (h : z.kind = 1) => put_any a b k l z.key z.itn w2 (unhide HK).sto (unhide HK).room (by omega) hkey
        have Z_0 := Z.c 0; have Z_1 := Z.c 1; have Z_2 := Z.c 2; have Z_3 := Z.c 3; have Z_4 := Z.c 4; have Z_5 := Z.c 5; have Z_6 := Z.c 6; have Z_7 := Z.c 7; have Z_8 := Z.c 8; have Z_9 := Z.c 9; have Z_10 := Z.c 10; have Z_11 := Z.c 11; have Z_12 := Z.c 12; have Z_13 := Z.c 13; have Z_14 := Z.c 14; have Z_15 := Z.c 15; have Z_16 := Z.c 16; have Z_17 := Z.c 17; have Z_18 := Z.c 18; have Z_19 := Z.c 19; have Z_20 := Z.c 20; simp only [List.getElem?_cons_zero, List.getElem?_cons_succ] at Z_0 Z_1 Z_2 Z_3 Z_4 Z_5 Z_6 Z_7 Z_8 Z_9 Z_10 Z_11 Z_12 Z_13 Z_14 Z_15 Z_16 Z_17 Z_18 Z_19 Z_20
        go_upto_if 54 with fail
        go_cut [8] (fun ev wc => ∃ (er : Int) (L : List Ent), ev = .int .i64 er ∧ Hid (EMd w a b k l L2 a2 b2 z Zb er L wc))
        case first =>
          as_aux_lemma =>
            by_cases k1 : z.kind = 1
            case pos =>
              have k1b : (z.kind == 1) = true := by rw [k1]; rfl
              have hP := hP k1
              obtain ⟨PA, hPA⟩ : ∃ PA, putA l z.key z.itn = PA := ⟨_, rfl⟩
              rw [hPA] at hP
              obtain ⟨p1, p2, p3⟩ := PA
              have K1 := hide k1
              clear k1 hR k3 k4
              go_wp2_with fail
              refine hP.mono ?_
              clear hP
              rintro e w3 ⟨L', rfl, hs3, hr3, hl3, hg3⟩
              obtain ⟨f1, f2, f3, f4, f5⟩ := put_facts (unhide HK).sto.rise (unhide HK).ne hl3
              rw [hPA] at f4
              have HE : Hid (EMd w a b k l L2 a2 b2 z Zb p3 L' w3) := hide ⟨(unhide HK).grown hs3 hr3 hg3 f1, (unhide Hs2).apart hg3 ((unhide HK).cells b rfl) hbb, Z.turn (by simp) hg3 (unhide HK).cells, f4, (fun x hx => f5 x (by unfold tchB at hx; rw [if_pos (unhide K1)] at hx; simpa using hx)), (fun _ => f2), f3⟩
              clear Z_0 Z_1 Z_2 Z_3 Z_4 Z_5 Z_6 Z_7 Z_8 Z_9 Z_10 Z_11 Z_12 Z_13 Z_14 Z_15 Z_16 Z_17 Z_18 Z_19 Z_20
              clear HK Hs2 Z hs3 hr3 hl3 hg3 f1 f2 f3 f4 f5 hPA
              go_wp2
              go_meet
              exact ⟨p3, L', rfl, unhide HE⟩
            case neg =>
              have k1b : (z.kind == 1) = false := by simpa using k1
              have hP := hR (by have := unhide K12; omega)
              obtain ⟨PA, hPA⟩ : ∃ PA, resA z.f z.t z.id z.ep z.commit z.a0 l = PA := ⟨_, rfl⟩
              rw [hPA] at hP
              obtain ⟨p1, p3⟩ := PA
              have K1 := hide k1
              clear k1 hR k3 k4
              go_wp2_with fail
              refine hP.mono ?_
              clear hP
              rintro e w3 ⟨L', rfl, hs3, hr3, hl3, hg3⟩
              have hl4 : resL l L' (resA z.f z.t z.id z.ep z.commit z.a0 l).1 := by rw [hPA]; exact hl3
              obtain ⟨f1, f2, f3, f5⟩ := res_facts (unhide HK).sto.rise (unhide HK).ne hl4
              rw [hPA] at f3
              have HE : Hid (EMd w a b k l L2 a2 b2 z Zb p3 L' w3) := hide ⟨(unhide HK).grown hs3 hr3 hg3 f1, (unhide Hs2).apart hg3 ((unhide HK).cells b rfl) hbb, Z.turn (by simp) hg3 (unhide HK).cells, f3, (fun x hx => f5 x (by unfold tchB at hx; rw [if_neg (unhide K1)] at hx; exact hx)), (fun q => absurd q (unhide K1)), Nat.le_succ_of_le f2⟩
              clear Z_0 Z_1 Z_2 Z_3 Z_4 Z_5 Z_6 Z_7 Z_8 Z_9 Z_10 Z_11 Z_12 Z_13 Z_14 Z_15 Z_16 Z_17 Z_18 Z_19 Z_20
              clear HK Hs2 Z hs3 hr3 hl3 hg3 f1 f2 f3 f5 hPA hl4
              go_wp2
              go_meet
              exact ⟨p3, L', rfl, unhide HE⟩
        case rest =>
          as_aux_lemma =>
            clear Z_0 Z_1 Z_2 Z_3 Z_4 Z_5 Z_6 Z_7 Z_8 Z_9 Z_10 Z_11 Z_12 Z_13 Z_14 Z_15 Z_16 Z_17 Z_18 Z_19 Z_20
            clear HK Hs2 Z hR hP
            obtain ⟨er, L, rfl, HE⟩ := hcut
            have M := unhide HE
            have hKs := keysm_any a b L wc M.st.sto
            clear HE
            have HM := hide M
            clear M
            go_wp2_with fail
            refine hKs.mono ?_
            clear hKs
            rintro e w4 ⟨ko, kc, rfl, hks, hb4⟩
            replace HM := hide ((unhide HM).later hb4)
            clear hb4
            have hKm := keysm_any a2 b2 L2 w4 (unhide HM).was
            have Hks := hide hks
            clear hks
            go_wp2_with fail
            refine hKm.mono ?_
            clear hKm
            rintro e w7 ⟨mo, mc, rfl, hms, hb7⟩
            replace HM := hide ((unhide HM).later hb7)
            replace Hks := hide ((unhide Hks).later hb7)
            have Hms := hide hms
            clear hb7 hms
            have hL8 : L.length ≤ 1000000 := (unhide HM).st.sto.len
            have hL28 : L2.length ≤ 1000000 := (unhide HM).was.len
            go_wp2_with fail
            go_loopw [11] (fun u wr => ∃ j : Nat, u = .int .i64 j ∧ j ≤ L.length ∧ Hid (Below w7.heap.size w7 wr)) (fun u _ => L.length - (intOf u).toNat)
            case atStart => exact ⟨0, rfl, by omega, Below.refl _ _⟩
            case round =>
              obtain ⟨j, rfl, hj, Hl⟩ := hrel
              by_cases hjl : j < L.length
              case pos =>
                have M := (unhide HM).later (unhide Hl)
                obtain ⟨key, hkey9⟩ : ∃ key, L[j].key = key := ⟨_, rfl⟩
                obtain ⟨kb, kq, rfl, hc⟩ := ((unhide Hks).later (unhide Hl)) (by simpa using (by omega : 0 < L.length))
                have hck := hc j (by simpa using hjl)
                rw [List.getElem_map, hkey9] at hck
                have hks1 : key.size ≤ 8 := by rw [← hkey9]; exact key_size (M.st.sto.keys _ (List.getElem_mem hjl))
                obtain ⟨tb, htb⟩ : ∃ tb, tchB z key = tb := ⟨_, rfl⟩
                have hjI : (j : Int) < (L.length : Int) := by omega
                have Hc := hide hc
                have Hkey9 := hide hkey9
                clear hc hkey9
                go_upto_region 22 with fail
                go_cut [12] (fun u wx => u = .bool tb ∧ Hid (Below wr.heap.size wr wx))
                case first =>
                  as_aux_lemma =>
                    have ii : Nonempty (Later wr) := ⟨⟨wr, Below.refl _ _⟩⟩
                    have hckL := fun y : Later wr => y.cell hck
                    have Z_0 := fun y : Later wr => (M.Z.later y.below).c 0
                    have Z_3 := fun y : Later wr => (M.Z.later y.below).c 3
                    have Z_4 := fun y : Later wr => (M.Z.later y.below).c 4
                    have Z_5 := fun y : Later wr => (M.Z.later y.below).c 5
                    simp only [List.getElem?_cons_zero, List.getElem?_cons_succ] at Z_0 Z_3 Z_4 Z_5
                    have hH := fun w => S5.refHas_any z.f z.t key w (by omega) (by omega) (by omega)
                    have Htb := hide htb
                    clear M Hl hck htb
                    by_cases k1 : z.kind = 1
                    case pos =>
                      have k1b : (z.kind == 1) = true := by rw [k1]; rfl
                      have k2b : (z.kind == 2) = false := by rw [k1]; rfl
                      by_cases kk : key = z.key
                      case pos =>
                        have kkb : (key.toList == z.key.toList) = true := by rw [kk]; simp
                        obtain rfl : tb = true := by have := unhide Htb; unfold tchB at this; rw [if_pos k1] at this; rw [← this]; simpa using kk
                        clear k1 kk k3 k4
                        go_wp2_with fail
                        refine wp_region_later (by kernel_rfl) (by kernel_rfl) ?_
                        repeat (first
                          | go_big_quiet_step (fail)
                          | quiet_step (fail))
                        refine wpQuiet_nil ?_
                        intro w' hw'
                        obtain ⟨⟨W7, hb7⟩, rfl⟩ := hw'
                        clear ii hckL Z_0 Z_3 Z_4 Z_5 hH
                        go_wp2
                        go_meet
                        exact ⟨rfl, hb7⟩
                      case neg =>
                        have kkb : (key.toList == z.key.toList) = false := by
                          rw [beq_eq_false_iff_ne]
                          intro q
                          exact kk (S5.toList_inj q)
                        obtain rfl : tb = false := by have := unhide Htb; unfold tchB at this; rw [if_pos k1] at this; rw [← this]; simpa using kk
                        clear k1 kk k3 k4
                        go_wp2_with fail
                        refine wp_region_later (by kernel_rfl) (by kernel_rfl) ?_
                        repeat (first
                          | go_big_quiet_step (fail)
                          | quiet_step (fail))
                        refine wpQuiet_nil ?_
                        intro w' hw'
                        obtain ⟨⟨W7, hb7⟩, rfl⟩ := hw'
                        clear ii hckL Z_0 Z_3 Z_4 Z_5 hH
                        go_wp2
                        go_meet
                        exact ⟨rfl, hb7⟩
                    case neg =>
                      have k1b : (z.kind == 1) = false := by simpa using k1
                      have k2b : (z.kind == 2) = true := by simp; have := unhide K12; omega
                      have q : S5.hasB z.f z.t key = tb := by have := unhide Htb; unfold tchB at this; rw [if_neg k1] at this; exact this
                      rw [q] at hH
                      clear k1 k3 k4 q
                      go_wp2_with fail
                      refine wp_region_later (by kernel_rfl) (by kernel_rfl) ?_
                      repeat (first
                        | go_big_quiet_step ((go_at_call 12; with_reducible exact calls_later (hH _)))
                        | quiet_step (fail))
                      refine wpQuiet_nil ?_
                      intro w' hw'
                      obtain ⟨⟨W7, hb7⟩, rfl⟩ := hw'
                      clear ii hckL Z_0 Z_3 Z_4 Z_5 hH
                      go_wp2
                      go_meet
                      exact ⟨rfl, hb7⟩
                case rest =>
                  as_aux_lemma =>
                    obtain ⟨rfl, Hb⟩ := hcut
                    replace Hl := hide ((unhide Hl).trans ((unhide Hb).mono (unhide Hl).size))
                    have hck' := ((unhide Hb).cell (World.block_lt_of_cell? _ _ hck)).trans hck
                    replace M := M.later (unhide Hb)
                    clear hck
                    have hck := hck'
                    clear hck' Hb
                    obtain ⟨sb, hsb⟩ : ∃ sb, sameC (entAt L key).c (entAt L2 key).c = sb := ⟨_, rfl⟩
                    have hor : sb = true ∨ (tb = true ∧ er = 0) := by
                      have := M.same habs key
                      rw [hsb, htb] at this
                      exact this
                    go_upto_region 23 with fail
                    go_cut [13] (fun u wx => u = .bool sb ∧ Hid (Below wc.heap.size wc wx))
                    case first =>
                      as_aux_lemma =>
                        have hC1 := fun w' (hb : Below wc.heap.size wc w') => chain_v (M.st.sto.later hb) (k := key) (by omega)
                        have hC2 := fun w' (hb : Below wc.heap.size wc w') => chain_v (M.was.later hb) (k := key) (by omega)
                        have hSK : ∀ w', Below wc.heap.size wc w' → w'.cell? ⟨kb, kq + j, none⟩ = some (.string key) := fun w' hb => (hb.cell (World.block_lt_of_cell? _ _ hck)).trans hck
                        generalize (entAt L key).c = e1 at *
                        generalize (entAt L2 key).c = e2 at *
                        clear M hck Hl hor htb
                        refine wp_region_held_drew (S := fun w' => Below wc.heap.size wc w') (by kernel_rfl) (Below.refl _ _).drew (fun hSS => ?_)
                        generalize wc.drew = Wd at *
                        refine held_take 0 117 rfl rfl (by kernel_rfl) (by kernel_rfl) (by kernel_rfl) (fun _ _ _ h => h) (by rfl) hSS (v := ?_) ?_ ?_
                        rotate_left
                        · intro y hSy
                          have hy0 := hSK y hSy
                          go_simp
                          with_reducible rfl
                        simp only [Act.put, List.setIfInBounds_toArray, List.set_cons_zero, List.set_cons_succ]
                        refine held_take 1 118 rfl rfl (by kernel_rfl) (by kernel_rfl) (by kernel_rfl) (fun _ _ _ h => h) (by rfl) hSS (v := ?_) ?_ ?_
                        rotate_left
                        · intro y hSy
                          have hy0 := hSK y hSy
                          go_simp
                          with_reducible rfl
                        simp only [Act.put, List.setIfInBounds_toArray, List.set_cons_zero, List.set_cons_succ]
                        refine held_take 2 119 rfl rfl (by kernel_rfl) (by kernel_rfl) (by kernel_rfl) (fun _ _ _ h => h) (by rfl) hSS (v := ?_) ?_ ?_
                        rotate_left
                        · intro y hSy
                          have hy0 := hSK y hSy
                          go_simp
                          with_reducible rfl
                        simp only [Act.put, List.setIfInBounds_toArray, List.set_cons_zero, List.set_cons_succ]
                        refine held_take 3 120 rfl rfl (by kernel_rfl) (by kernel_rfl) (by kernel_rfl) (fun _ _ _ h => h) (by rfl) hSS (v := ?_) ?_ ?_
                        rotate_left
                        · intro y hSy
                          have hy0 := hSK y hSy
                          go_simp
                          with_reducible rfl
                        simp only [Act.put, List.setIfInBounds_toArray, List.set_cons_zero, List.set_cons_succ]
                        refine held_take 4 121 rfl rfl (by kernel_rfl) (by kernel_rfl) (by kernel_rfl) (fun _ _ _ h => h) (by rfl) hSS (v := ?_) ?_ ?_
                        rotate_left
                        · intro y hSy
                          have hy0 := hSK y hSy
                          go_simp
                          with_reducible rfl
                        simp only [Act.put, List.setIfInBounds_toArray, List.set_cons_zero, List.set_cons_succ]
                        refine held_take 6 123 rfl rfl (by kernel_rfl) (by kernel_rfl) (by kernel_rfl) (fun _ _ _ h => h) (by rfl) hSS (v := ?_) ?_ ?_
                        rotate_left
                        · intro y hSy
                          have hy0 := hSK y hSy
                          go_simp
                          with_reducible rfl
                        simp only [Act.put, List.setIfInBounds_toArray, List.set_cons_zero, List.set_cons_succ]
                        refine held_take 7 124 rfl rfl (by kernel_rfl) (by kernel_rfl) (by kernel_rfl) (fun _ _ _ h => h) (by rfl) hSS (v := ?_) ?_ ?_
                        rotate_left
                        · intro y hSy
                          have hy0 := hSK y hSy
                          go_simp
                          with_reducible rfl
                        simp only [Act.put, List.setIfInBounds_toArray, List.set_cons_zero, List.set_cons_succ]
                        refine held_take 8 125 rfl rfl (by kernel_rfl) (by kernel_rfl) (by kernel_rfl) (fun _ _ _ h => h) (by rfl) hSS (v := ?_) ?_ ?_
                        rotate_left
                        · intro y hSy
                          have hy0 := hSK y hSy
                          go_simp
                          with_reducible rfl
                        simp only [Act.put, List.setIfInBounds_toArray, List.set_cons_zero, List.set_cons_succ]
                        refine held_take 9 126 rfl rfl (by kernel_rfl) (by kernel_rfl) (by kernel_rfl) (fun _ _ _ h => h) (by rfl) hSS (v := ?_) ?_ ?_
                        rotate_left
                        · intro y hSy
                          have hy0 := hSK y hSy
                          go_simp
                          with_reducible rfl
                        simp only [Act.put, List.setIfInBounds_toArray, List.set_cons_zero, List.set_cons_succ]
                        refine held_take 10 127 rfl rfl (by kernel_rfl) (by kernel_rfl) (by kernel_rfl) (fun _ _ _ h => h) (by rfl) hSS (v := ?_) ?_ ?_
                        rotate_left
                        · intro y hSy
                          have hy0 := hSK y hSy
                          go_simp
                          with_reducible rfl
                        simp only [Act.put, List.setIfInBounds_toArray, List.set_cons_zero, List.set_cons_succ]
                        refine wpAnyH_ready (rs := [5]) (by kernel_rfl) (by simp) ?_
                        refine AllReadyH.cons rfl (fun K hK => ?_) AllReadyH.nil
                        rw [if_pos (by rfl)]
                        refine wp_call_of2 enter_chain rfl rfl rfl (hC1 _ hSS) ?_
                        rintro V1 w9 ⟨hv1, hb9⟩
                        replace hSS := hSS.trans (hb9.mono hSS.size)
                        clear hC1 hb9
                        refine hK.out _ _ hSS (fun _ => ?_)
                        clear hK K
                        simp only [Act.put]
                        have Hv1 := hide hv1
                        clear hv1
                        refine wpAnyH_ready (rs := [11]) (by kernel_rfl) (by simp) ?_
                        refine AllReadyH.cons rfl (fun K hK => ?_) AllReadyH.nil
                        rw [if_pos (by rfl)]
                        refine wp_call_of2 enter_chain rfl rfl rfl (hC2 _ hSS) ?_
                        rintro V2 w8 ⟨hv2, hb9⟩
                        replace hSS := hSS.trans (hb9.mono hSS.size)
                        replace Hv1 := hide ((unhide Hv1).later hb9)
                        clear hC2 hb9
                        refine hK.out _ _ hSS (fun _ => ?_)
                        clear hK K
                        simp only [Act.put]
                        have hS := same_v (unhide Hv1) hv2
                        rw [hsb] at hS
                        clear hv2 Hv1
                        refine wpAnyH_ready (rs := [12]) (by kernel_rfl) (by simp) ?_
                        refine AllReadyH.cons rfl (fun K hK => ?_) AllReadyH.nil
                        rw [if_pos (by rfl)]
                        refine wp_call_of2 (R := fun v w' => v = .bool sb ∧ Below w8.heap.size w8 w') enter_same rfl rfl rfl (hS.mono fun e w' h => ⟨_, h.1, rfl, h.2⟩) ?_
                        rintro V3 w6 ⟨rfl, hb9⟩
                        replace hSS := hSS.trans (hb9.mono hSS.size)
                        clear hS hb9
                        refine hK.out _ _ hSS (fun _ => ?_)
                        clear hK K
                        simp only [Act.put]
                        refine wpAnyH_ready (rs := [13]) (by kernel_rfl) (by simp) ?_
                        refine AllReadyH.cons rfl (fun K hK => ?_) AllReadyH.nil
                        go_simp
                        refine hK.out _ _ hSS (fun _ => ?_)
                        clear hK K
                        refine wpAnyH_done (by kernel_rfl) ?_ _
                        go_wp2
                        go_meet
                        exact ⟨rfl, hSS⟩
                    case rest =>
                      as_aux_lemma =>
                        obtain ⟨rfl, Hb⟩ := hcut
                        replace Hl := hide ((unhide Hl).trans ((unhide Hb).mono (unhide Hl).size))
                        have hck' := ((unhide Hb).cell (World.block_lt_of_cell? _ _ hck)).trans hck
                        replace M := M.later (unhide Hb)
                        clear hck Hb
                        have hcp : ∀ i (hi : i < (L.map (·.key)).length), wc.cell? ⟨kb, kq + i, none⟩ = some (.string (L.map (·.key))[i]) := fun i hi => by
                          obtain ⟨_, _, e0, hc⟩ := ((unhide Hks).later (unhide Hl)) (by simpa using (by omega : 0 < L.length))
                          obtain ⟨rfl, rfl⟩ : kb = _ ∧ kq = _ := by injection e0 with e0; injection e0 with e1 e2; exact ⟨e1, e2⟩
                          exact hc i hi
                        have hrise := M.st.sto.rise
                        clear M
                        have ii : Nonempty (Later wc) := ⟨⟨wc, Below.refl _ _⟩⟩
                        have hckL := fun y : Later wc => y.cell hck'
                        go_upto_region 24 with fail
                        go_cut [155] (fun u wx => u = .bool false ∧ Hid (Below wc.heap.size wc wx))
                        case first =>
                          as_aux_lemma =>
                            by_cases hj0 : 0 < j
                            case pos =>
                              have hcq := hcp (j - 1) (by simp; omega)
                              have hcqL := fun y : Later wc => y.cell hcq
                              obtain ⟨kp, hkp⟩ : ∃ kp, (L.map (·.key))[j - 1]'(by simp; omega) = kp := ⟨_, rfl⟩
                              simp only [hkp] at hcqL
                              have hlt9 : S5.L kp key := by
                                have q := List.pairwise_iff_getElem.1 hrise (j - 1) j (by omega) hjl (by omega)
                                rw [unhide Hkey9] at q
                                rw [← hkp, List.getElem_map]
                                exact q
                              have hle : (Op.bytesLess key.toList kp.toList || key.toList == kp.toList) = false := not_le9 hlt9
                              have hj1 : ((j : Int) - 1) = ((j - 1 : Nat) : Int) := by omega
                              have hj2 : (0 : Int) < (j : Int) := by omega
                              have hj3 : ((j - 1 : Nat) : Int) < (L.length : Int) := by omega
                              clear hcp hcq hkp hlt9 hrise hck'
                              cases sb
                              case true =>
                                clear hor
                                go_wp2_with fail
                                refine wp_region_later (by kernel_rfl) (by kernel_rfl) ?_
                                repeat (first
                                  | go_big_quiet_step (fail)
                                  | quiet_step (fail))
                                refine wpQuiet_nil ?_
                                intro w' hw'
                                obtain ⟨⟨W7, hb7⟩, rfl⟩ := hw'
                                clear ii hckL hcqL
                                go_wp2
                                go_meet
                                exact ⟨rfl, hb7⟩
                              case false =>
                                obtain ⟨rfl, rfl⟩ : tb = true ∧ er = 0 := by rcases hor with q | q; cases q; exact q
                                clear hor
                                go_wp2_with fail
                                refine wp_region_later (by kernel_rfl) (by kernel_rfl) ?_
                                repeat (first
                                  | go_big_quiet_step (fail)
                                  | quiet_step (fail))
                                refine wpQuiet_nil ?_
                                intro w' hw'
                                obtain ⟨⟨W7, hb7⟩, rfl⟩ := hw'
                                clear ii hckL hcqL
                                go_wp2
                                go_meet
                                exact ⟨rfl, hb7⟩
                            case neg =>
                              have hj2 : ¬ (0 : Int) < (j : Int) := by omega
                              clear hcp hrise hck'
                              cases sb
                              case true =>
                                clear hor
                                go_wp2_with fail
                                refine wp_region_later (by kernel_rfl) (by kernel_rfl) ?_
                                repeat (first
                                  | go_big_quiet_step (fail)
                                  | quiet_step (fail))
                                refine wpQuiet_nil ?_
                                intro w' hw'
                                obtain ⟨⟨W7, hb7⟩, rfl⟩ := hw'
                                clear ii hckL
                                go_wp2
                                go_meet
                                exact ⟨rfl, hb7⟩
                              case false =>
                                obtain ⟨rfl, rfl⟩ : tb = true ∧ er = 0 := by rcases hor with q | q; cases q; exact q
                                clear hor
                                go_wp2_with fail
                                refine wp_region_later (by kernel_rfl) (by kernel_rfl) ?_
                                repeat (first
                                  | go_big_quiet_step (fail)
                                  | quiet_step (fail))
                                refine wpQuiet_nil ?_
                                intro w' hw'
                                obtain ⟨⟨W7, hb7⟩, rfl⟩ := hw'
                                clear ii hckL
                                go_wp2
                                go_meet
                                exact ⟨rfl, hb7⟩
                        case rest =>
                          as_aux_lemma =>
                            obtain ⟨rfl, Hb⟩ := hcut
                            have HN := hide ((unhide Hl).trans ((unhide Hb).mono (unhide Hl).size))
                            clear ii hckL hck' hcp hrise Hl Hb
                            go_wp2
                            go_roundw
                            case rel => exact ⟨j + 1, by go_num, by omega, unhide HN⟩
                            case measure => simp [intOf]; omega
              case neg =>
                replace HM := hide ((unhide HM).later (unhide Hl))
                replace Hms := hide ((unhide Hms).later (unhide Hl))
                clear Hl Hks
                obtain ⟨wo, hwo⟩ : ∃ wo, wo = wr := ⟨_, rfl⟩
                subst wr
                as_aux_lemma =>
                  go_wp2_with fail
                  go_loopw [14] (fun u wr => ∃ j : Nat, u = .int .i64 j ∧ j ≤ L2.length ∧ Hid (Below wo.heap.size wo wr)) (fun u _ => L2.length - (intOf u).toNat)
                  case atStart => exact ⟨0, rfl, by omega, Below.refl _ _⟩
                  case round =>
                    obtain ⟨j, rfl, hj, Hl⟩ := hrel
                    by_cases hjl : j < L2.length
                    case pos =>
                      have M := (unhide HM).later (unhide Hl)
                      obtain ⟨key, hkey9⟩ : ∃ key, L2[j].key = key := ⟨_, rfl⟩
                      obtain ⟨kb, kq, rfl, hc⟩ := ((unhide Hms).later (unhide Hl)) (by simpa using (by omega : 0 < L2.length))
                      have hck := hc j (by simpa using hjl)
                      rw [List.getElem_map, hkey9] at hck
                      have hks1 : key.size ≤ 8 := by rw [← hkey9]; exact key_size (M.was.keys _ (List.getElem_mem hjl))
                      obtain ⟨tb, htb⟩ : ∃ tb, tchB z key = tb := ⟨_, rfl⟩
                      have hjI : (j : Int) < (L2.length : Int) := by omega
                      clear hc hkey9
                      go_upto_region 29 with fail
                      go_cut [15] (fun u wx => u = .bool tb ∧ Hid (Below wr.heap.size wr wx))
                      case first =>
                        as_aux_lemma =>
                          have ii : Nonempty (Later wr) := ⟨⟨wr, Below.refl _ _⟩⟩
                          have hckL := fun y : Later wr => y.cell hck
                          have Z_0 := fun y : Later wr => (M.Z.later y.below).c 0
                          have Z_3 := fun y : Later wr => (M.Z.later y.below).c 3
                          have Z_4 := fun y : Later wr => (M.Z.later y.below).c 4
                          have Z_5 := fun y : Later wr => (M.Z.later y.below).c 5
                          simp only [List.getElem?_cons_zero, List.getElem?_cons_succ] at Z_0 Z_3 Z_4 Z_5
                          have hH := fun w => S5.refHas_any z.f z.t key w (by omega) (by omega) (by omega)
                          have Htb := hide htb
                          clear M Hl hck htb
                          by_cases k1 : z.kind = 1
                          case pos =>
                            have k1b : (z.kind == 1) = true := by rw [k1]; rfl
                            have k2b : (z.kind == 2) = false := by rw [k1]; rfl
                            by_cases kk : key = z.key
                            case pos =>
                              have kkb : (key.toList == z.key.toList) = true := by rw [kk]; simp
                              obtain rfl : tb = true := by have := unhide Htb; unfold tchB at this; rw [if_pos k1] at this; rw [← this]; simpa using kk
                              clear k1 kk k3 k4
                              go_wp2_with fail
                              refine wp_region_later (by kernel_rfl) (by kernel_rfl) ?_
                              repeat (first
                                | go_big_quiet_step (fail)
                                | quiet_step (fail))
                              refine wpQuiet_nil ?_
                              intro w' hw'
                              obtain ⟨⟨W7, hb7⟩, rfl⟩ := hw'
                              clear ii hckL Z_0 Z_3 Z_4 Z_5 hH
                              go_wp2
                              go_meet
                              exact ⟨rfl, hb7⟩
                            case neg =>
                              have kkb : (key.toList == z.key.toList) = false := by
                                rw [beq_eq_false_iff_ne]
                                intro q
                                exact kk (S5.toList_inj q)
                              obtain rfl : tb = false := by have := unhide Htb; unfold tchB at this; rw [if_pos k1] at this; rw [← this]; simpa using kk
                              clear k1 kk k3 k4
                              go_wp2_with fail
                              refine wp_region_later (by kernel_rfl) (by kernel_rfl) ?_
                              repeat (first
                                | go_big_quiet_step (fail)
                                | quiet_step (fail))
                              refine wpQuiet_nil ?_
                              intro w' hw'
                              obtain ⟨⟨W7, hb7⟩, rfl⟩ := hw'
                              clear ii hckL Z_0 Z_3 Z_4 Z_5 hH
                              go_wp2
                              go_meet
                              exact ⟨rfl, hb7⟩
                          case neg =>
                            have k1b : (z.kind == 1) = false := by simpa using k1
                            have k2b : (z.kind == 2) = true := by simp; have := unhide K12; omega
                            have q : S5.hasB z.f z.t key = tb := by have := unhide Htb; unfold tchB at this; rw [if_neg k1] at this; exact this
                            rw [q] at hH
                            clear k1 k3 k4 q
                            go_wp2_with fail
                            refine wp_region_later (by kernel_rfl) (by kernel_rfl) ?_
                            repeat (first
                              | go_big_quiet_step ((go_at_call 12; with_reducible exact calls_later (hH _)))
                              | quiet_step (fail))
                            refine wpQuiet_nil ?_
                            intro w' hw'
                            obtain ⟨⟨W7, hb7⟩, rfl⟩ := hw'
                            clear ii hckL Z_0 Z_3 Z_4 Z_5 hH
                            go_wp2
                            go_meet
                            exact ⟨rfl, hb7⟩
                      case rest =>
                        as_aux_lemma =>
                          obtain ⟨rfl, Hb⟩ := hcut
                          replace Hl := hide ((unhide Hl).trans ((unhide Hb).mono (unhide Hl).size))
                          have hck' := ((unhide Hb).cell (World.block_lt_of_cell? _ _ hck)).trans hck
                          replace M := M.later (unhide Hb)
                          clear hck
                          have hck := hck'
                          clear hck' Hb
                          obtain ⟨sb, hsb⟩ : ∃ sb, sameC (entAt L key).c (entAt L2 key).c = sb := ⟨_, rfl⟩
                          have hor : sb = true ∨ (tb = true ∧ er = 0) := by
                            have := M.same habs key
                            rw [hsb, htb] at this
                            exact this
                          go_upto_region 30 with fail
                          go_cut [16] (fun u wx => u = .bool sb ∧ Hid (Below wc.heap.size wc wx))
                          case first =>
                            as_aux_lemma =>
                              have hC1 := fun w' (hb : Below wc.heap.size wc w') => chain_v (M.st.sto.later hb) (k := key) (by omega)
                              have hC2 := fun w' (hb : Below wc.heap.size wc w') => chain_v (M.was.later hb) (k := key) (by omega)
                              have hSK : ∀ w', Below wc.heap.size wc w' → w'.cell? ⟨kb, kq + j, none⟩ = some (.string key) := fun w' hb => (hb.cell (World.block_lt_of_cell? _ _ hck)).trans hck
                              generalize (entAt L key).c = e1 at *
                              generalize (entAt L2 key).c = e2 at *
                              clear M hck Hl hor htb
                              refine wp_region_held_drew (S := fun w' => Below wc.heap.size wc w') (by kernel_rfl) (Below.refl _ _).drew (fun hSS => ?_)
                              generalize wc.drew = Wd at *
                              refine held_take 0 188 rfl rfl (by kernel_rfl) (by kernel_rfl) (by kernel_rfl) (fun _ _ _ h => h) (by rfl) hSS (v := ?_) ?_ ?_
                              rotate_left
                              · intro y hSy
                                have hy0 := hSK y hSy
                                go_simp
                                with_reducible rfl
                              simp only [Act.put, List.setIfInBounds_toArray, List.set_cons_zero, List.set_cons_succ]
                              refine held_take 1 189 rfl rfl (by kernel_rfl) (by kernel_rfl) (by kernel_rfl) (fun _ _ _ h => h) (by rfl) hSS (v := ?_) ?_ ?_
                              rotate_left
                              · intro y hSy
                                have hy0 := hSK y hSy
                                go_simp
                                with_reducible rfl
                              simp only [Act.put, List.setIfInBounds_toArray, List.set_cons_zero, List.set_cons_succ]
                              refine held_take 2 190 rfl rfl (by kernel_rfl) (by kernel_rfl) (by kernel_rfl) (fun _ _ _ h => h) (by rfl) hSS (v := ?_) ?_ ?_
                              rotate_left
                              · intro y hSy
                                have hy0 := hSK y hSy
                                go_simp
                                with_reducible rfl
                              simp only [Act.put, List.setIfInBounds_toArray, List.set_cons_zero, List.set_cons_succ]
                              refine held_take 3 191 rfl rfl (by kernel_rfl) (by kernel_rfl) (by kernel_rfl) (fun _ _ _ h => h) (by rfl) hSS (v := ?_) ?_ ?_
                              rotate_left
                              · intro y hSy
                                have hy0 := hSK y hSy
                                go_simp
                                with_reducible rfl
                              simp only [Act.put, List.setIfInBounds_toArray, List.set_cons_zero, List.set_cons_succ]
                              refine held_take 4 192 rfl rfl (by kernel_rfl) (by kernel_rfl) (by kernel_rfl) (fun _ _ _ h => h) (by rfl) hSS (v := ?_) ?_ ?_
                              rotate_left
                              · intro y hSy
                                have hy0 := hSK y hSy
                                go_simp
                                with_reducible rfl
                              simp only [Act.put, List.setIfInBounds_toArray, List.set_cons_zero, List.set_cons_succ]
                              refine held_take 6 194 rfl rfl (by kernel_rfl) (by kernel_rfl) (by kernel_rfl) (fun _ _ _ h => h) (by rfl) hSS (v := ?_) ?_ ?_
                              rotate_left
                              · intro y hSy
                                have hy0 := hSK y hSy
                                go_simp
                                with_reducible rfl
                              simp only [Act.put, List.setIfInBounds_toArray, List.set_cons_zero, List.set_cons_succ]
                              refine held_take 7 195 rfl rfl (by kernel_rfl) (by kernel_rfl) (by kernel_rfl) (fun _ _ _ h => h) (by rfl) hSS (v := ?_) ?_ ?_
                              rotate_left
                              · intro y hSy
                                have hy0 := hSK y hSy
                                go_simp
                                with_reducible rfl
                              simp only [Act.put, List.setIfInBounds_toArray, List.set_cons_zero, List.set_cons_succ]
                              refine held_take 8 196 rfl rfl (by kernel_rfl) (by kernel_rfl) (by kernel_rfl) (fun _ _ _ h => h) (by rfl) hSS (v := ?_) ?_ ?_
                              rotate_left
                              · intro y hSy
                                have hy0 := hSK y hSy
                                go_simp
                                with_reducible rfl
                              simp only [Act.put, List.setIfInBounds_toArray, List.set_cons_zero, List.set_cons_succ]
                              refine held_take 9 197 rfl rfl (by kernel_rfl) (by kernel_rfl) (by kernel_rfl) (fun _ _ _ h => h) (by rfl) hSS (v := ?_) ?_ ?_
                              rotate_left
                              · intro y hSy
                                have hy0 := hSK y hSy
                                go_simp
                                with_reducible rfl
                              simp only [Act.put, List.setIfInBounds_toArray, List.set_cons_zero, List.set_cons_succ]
                              refine held_take 10 198 rfl rfl (by kernel_rfl) (by kernel_rfl) (by kernel_rfl) (fun _ _ _ h => h) (by rfl) hSS (v := ?_) ?_ ?_
                              rotate_left
                              · intro y hSy
                                have hy0 := hSK y hSy
                                go_simp
                                with_reducible rfl
                              simp only [Act.put, List.setIfInBounds_toArray, List.set_cons_zero, List.set_cons_succ]
                              refine wpAnyH_ready (rs := [5]) (by kernel_rfl) (by simp) ?_
                              refine AllReadyH.cons rfl (fun K hK => ?_) AllReadyH.nil
                              rw [if_pos (by rfl)]
                              refine wp_call_of2 enter_chain rfl rfl rfl (hC1 _ hSS) ?_
                              rintro V1 w9 ⟨hv1, hb9⟩
                              replace hSS := hSS.trans (hb9.mono hSS.size)
                              clear hC1 hb9
                              refine hK.out _ _ hSS (fun _ => ?_)
                              clear hK K
                              simp only [Act.put]
                              have Hv1 := hide hv1
                              clear hv1
                              refine wpAnyH_ready (rs := [11]) (by kernel_rfl) (by simp) ?_
                              refine AllReadyH.cons rfl (fun K hK => ?_) AllReadyH.nil
                              rw [if_pos (by rfl)]
                              refine wp_call_of2 enter_chain rfl rfl rfl (hC2 _ hSS) ?_
                              rintro V2 w8 ⟨hv2, hb9⟩
                              replace hSS := hSS.trans (hb9.mono hSS.size)
                              replace Hv1 := hide ((unhide Hv1).later hb9)
                              clear hC2 hb9
                              refine hK.out _ _ hSS (fun _ => ?_)
                              clear hK K
                              simp only [Act.put]
                              have hS := same_v (unhide Hv1) hv2
                              rw [hsb] at hS
                              clear hv2 Hv1
                              refine wpAnyH_ready (rs := [12]) (by kernel_rfl) (by simp) ?_
                              refine AllReadyH.cons rfl (fun K hK => ?_) AllReadyH.nil
                              rw [if_pos (by rfl)]
                              refine wp_call_of2 (R := fun v w' => v = .bool sb ∧ Below w8.heap.size w8 w') enter_same rfl rfl rfl (hS.mono fun e w' h => ⟨_, h.1, rfl, h.2⟩) ?_
                              rintro V3 w6 ⟨rfl, hb9⟩
                              replace hSS := hSS.trans (hb9.mono hSS.size)
                              clear hS hb9
                              refine hK.out _ _ hSS (fun _ => ?_)
                              clear hK K
                              simp only [Act.put]
                              refine wpAnyH_ready (rs := [13]) (by kernel_rfl) (by simp) ?_
                              refine AllReadyH.cons rfl (fun K hK => ?_) AllReadyH.nil
                              go_simp
                              refine hK.out _ _ hSS (fun _ => ?_)
                              clear hK K
                              refine wpAnyH_done (by kernel_rfl) ?_ _
                              go_wp2
                              go_meet
                              exact ⟨rfl, hSS⟩
                          case rest =>
                            as_aux_lemma =>
                              obtain ⟨rfl, Hb⟩ := hcut
                              replace Hl := hide ((unhide Hl).trans ((unhide Hb).mono (unhide Hl).size))
                              have hck' := ((unhide Hb).cell (World.block_lt_of_cell? _ _ hck)).trans hck
                              replace M := M.later (unhide Hb)
                              clear hck Hb
                              clear M hck'
                              have HN := hide (unhide Hl)
                              clear Hl
                              cases sb
                              case true =>
                                clear hor
                                go_wp2
                                go_roundw
                                case rel => exact ⟨j + 1, by go_num, by omega, unhide HN⟩
                                case measure => simp [intOf]; omega
                              case false =>
                                obtain ⟨rfl, rfl⟩ : tb = true ∧ er = 0 := by rcases hor with q | q; cases q; exact q
                                clear hor
                                go_wp2
                                go_roundw
                                case rel => exact ⟨j + 1, by go_num, by omega, unhide HN⟩
                                case measure => simp [intOf]; omega
                    case neg =>
                      have M := (unhide HM).later (unhide Hl)
                      have HE : Hid (∃ l, ESt w a b (k + 1) l wr) := hide ⟨L, M.st⟩
                      have Z := M.Z
                      have Z_0 := Z.c 0; simp only [List.getElem?_cons_zero] at Z_0
                      have q1 := M.put
                      have q2 := M.len
                      have q3 := M.err
                      have q4 := len_abs habs
                      clear M Z Hl HM Hms
                      have d2 : ¬ ((L2.length : Int) + 1 < (L.length : Int)) := by omega
                      by_cases k1 : z.kind = 1
                      case pos =>
                        have k1b : (z.kind == 1) = true := by rw [k1]; rfl
                        have d1 : ¬ ((L.length : Int) < (L2.length : Int)) := by have := q1 k1; omega
                        clear k1 k3 k4 q1
                        by_cases e0 : er = 0
                        case pos =>
                          subst e0
                          clear q2 q3 q4
                          go_wp2
                          go_roundw
                          case rel => exact ⟨k + 1, by go_num, by omega, by omega, unhide HE⟩
                          case measure => simp [intOf]; omega
                        case neg =>
                          have d4 : (er != 0) = true := by simpa using e0
                          have e9 : L.length = L2.length := by rw [q3 e0, q4]
                          rw [e9] at d1 d2 ⊢
                          clear q2 q3 q4 e0 e9
                          go_wp2
                          go_roundw
                          case rel => exact ⟨k + 1, by go_num, by omega, by omega, unhide HE⟩
                          case measure => simp [intOf]; omega
                      case neg =>
                        have k1b : (z.kind == 1) = false := by simpa using k1
                        clear k1 k3 k4 q1
                        by_cases e0 : er = 0
                        case pos =>
                          subst e0
                          clear q2 q3 q4
                          go_wp2
                          go_roundw
                          case rel => exact ⟨k + 1, by go_num, by omega, by omega, unhide HE⟩
                          case measure => simp [intOf]; omega
                        case neg =>
                          have d4 : (er != 0) = true := by simpa using e0
                          have e9 : L.length = L2.length := by rw [q3 e0, q4]
                          rw [e9] at d2 ⊢
                          clear q2 q3 q4 e0 e9
                          go_wp2
                          go_roundw
                          case rel => exact ⟨k + 1, by go_num, by omega, by omega, unhide HE⟩
                          case measure => simp [intOf]; omega
end

end Go.Proofs.Ytcdehnghggleoaa
