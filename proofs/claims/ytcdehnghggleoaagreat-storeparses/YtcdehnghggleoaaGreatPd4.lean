/-
  The document's chain. No law is proved here.
-/
import Derived.Test.YtcdehnghggleoaaGreatGz10
import Derived.BigRegion
namespace Go.Proofs.YtcdehnghggleoaaGreat
open Go.RowKit
set_option linter.unusedVariables false

theorem rdT_size (l : List UInt8) (m : Int) : (P1.rdT l m).1.length ≤ l.length := by
  have := txtP_size l m
  unfold txtP at this
  rw [if_pos rfl] at this
  exact this

section
set_option maxRecDepth 100000
set_option maxHeartbeats 20000000

theorem dchain_any (S M : Nat) (bad0 : Bool) (q0 : List UInt8) (w : World) (h : Dc S w M q0 bad0) (hS : S ≤ w.heap.size) :
    Calls Tryz.prog 26 #[.pointer (some ⟨M, 0, none⟩)] w fun e w' => ∃ ao cap c ok r' bad, e = .returned (.tuple #[(.agg #[.slice ao c.vs.length cap, .bool c.opn, .int .i64 c.itn.txn.id, .int .i64 c.itn.txn.ep, .string c.itn.txn.anchor, .int .i64 c.itn.txn.start.1, .int .i64 c.itn.txn.start.2, .int .i64 c.itn.seq, .int .i64 c.itn.at_.1, .int .i64 c.itn.at_.2, .string c.itn.val, .bool c.itn.gone]), .bool ok]) ∧ VOwn w.heap.size w' ao cap c.vs ∧ Dc S w' M r' bad ∧ P1.Turned M w w' ∧ DchR bad0 q0 c ok r' bad := by
  have g1 := h.lt
  have c1 := fun w' h => dn_any S M q0 bad0 mxN w' h
  obtain ⟨a1, a2, a3, ha⟩ : ∃ a1 a2 a3, P1.rdN q0 mxN = (a1, a2, a3) := ⟨_, _, _, rfl⟩
  have la1 : a1 ≤ 1099511627776 := by
    have := numP_le 0 q0
    unfold numP at this
    rw [if_pos rfl, ha] at this
    exact this
  simp only [ha] at c1
  have Ha := hide ha
  clear ha
  obtain ⟨bad1, hb1⟩ : ∃ bad1, (bad0 || a2 != 0) = bad1 := ⟨_, rfl⟩
  simp only [hb1] at c1
  have Hb1 := hide hb1
  clear hb1
  have A := (Blk.new w #[.slice none 0 0, .bool false, .int .i64 0, .int .i64 0, .string ⟨#[]⟩, .int .i64 0, .int .i64 0, .int .i64 0, .int .i64 0, .int .i64 0, .string ⟨#[]⟩, .bool false] 61).alloc (.cells #[.slice none 0 0, .bool false, .int .i64 0, .int .i64 0, .string ⟨#[]⟩, .int .i64 0, .int .i64 0, .int .i64 0, .int .i64 0, .int .i64 0, .string ⟨#[]⟩, .bool false] 61)
  have C := Blk.new (w.alloc (.cells #[.slice none 0 0, .bool false, .int .i64 0, .int .i64 0, .string ⟨#[]⟩, .int .i64 0, .int .i64 0, .int .i64 0, .int .i64 0, .int .i64 0, .string ⟨#[]⟩, .bool false] 61)) #[.slice none 0 0, .bool false, .int .i64 0, .int .i64 0, .string ⟨#[]⟩, .int .i64 0, .int .i64 0, .int .i64 0, .int .i64 0, .int .i64 0, .string ⟨#[]⟩, .bool false] 61
  rw [show (w.alloc (.cells #[.slice none 0 0, .bool false, .int .i64 0, .int .i64 0, .string ⟨#[]⟩, .int .i64 0, .int .i64 0, .int .i64 0, .int .i64 0, .int .i64 0, .string ⟨#[]⟩, .bool false] 61)).heap.size = w.heap.size + 1 by simp] at C
  have hB : Below w.heap.size w ((w.alloc (.cells #[.slice none 0 0, .bool false, .int .i64 0, .int .i64 0, .string ⟨#[]⟩, .int .i64 0, .int .i64 0, .int .i64 0, .int .i64 0, .int .i64 0, .string ⟨#[]⟩, .bool false] 61)).alloc (.cells #[.slice none 0 0, .bool false, .int .i64 0, .int .i64 0, .string ⟨#[]⟩, .int .i64 0, .int .i64 0, .int .i64 0, .int .i64 0, .int .i64 0, .string ⟨#[]⟩, .bool false] 61)) := ((Below.refl w.heap.size w).alloc (Nat.le_refl _) _).alloc (by simp) _
  have hz : w.heap.size + 2 ≤ ((w.alloc (.cells #[.slice none 0 0, .bool false, .int .i64 0, .int .i64 0, .string ⟨#[]⟩, .int .i64 0, .int .i64 0, .int .i64 0, .int .i64 0, .int .i64 0, .string ⟨#[]⟩, .bool false] 61)).alloc (.cells #[.slice none 0 0, .bool false, .int .i64 0, .int .i64 0, .string ⟨#[]⟩, .int .i64 0, .int .i64 0, .int .i64 0, .int .i64 0, .int .i64 0, .string ⟨#[]⟩, .bool false] 61)).heap.size := by simp
  have D0 : DB S M w.heap.size w _ q0 bad0 _ _ none 0 [] := ⟨h.later hB, A, C, VOwn.zero _ _, P1.Turned.of hB, hz⟩
  clear h A C hB hz
  go_enter Tryz.func26, Tryz.ntmps26
  go_wp2_with fail
  generalize (w.alloc _).alloc _ = W at *
  refine (c1 W D0.d).mono ?_
  clear c1
  rintro e w1 ⟨rfl, hd, ht⟩
  have D1 := D0.read g1 hd ht
  clear D0 hd ht
  go_wp2
  go_loopw [6, 7] (fun vg vk wr => ∃ (k : Nat) (r : List UInt8) (bad good : Bool) (us : List Ver) (ao : Option Addr) (cap : Nat), vg = .bool good ∧ vk = .int .i64 (k : Int) ∧ DB S M w.heap.size w wr r bad [.slice none 0 0, .bool false, .int .i64 0, .int .i64 0, .string ⟨#[]⟩, .int .i64 0, .int .i64 0, .int .i64 0, .int .i64 0, .int .i64 0, .string ⟨#[]⟩, .bool false] [.slice ao us.length cap, .bool false, .int .i64 0, .int .i64 0, .string ⟨#[]⟩, .int .i64 0, .int .i64 0, .int .i64 0, .int .i64 0, .int .i64 0, .string ⟨#[]⟩, .bool false] ao cap us ∧ Hid (ChJ a1 a3 bad1 k r bad good us))
    (fun _ vk _ => a1 - (intOf vk).toNat)
  case atStart => exact ⟨0, a3, bad1, true, [], none, 0, rfl, rfl, D1, ChJ.start _ _ _⟩
  case round =>
    obtain ⟨k, r, bad, good, us, ao, cap, rfl, rfl, D, HJ⟩ := hrel
    have fb := D.d.bad
    by_cases hk : k < a1
    · have hki : (k : Int) < (a1 : Int) := by omega
      cases bad
      · have CG := fun w' h => dg_any S M r false w' h
        obtain ⟨s1, s2, se, r1, hs⟩ : ∃ s1 s2 se r1, P1.rdS r = (s1, s2, se, r1) := ⟨_, _, _, _, rfl⟩
        simp only [hs] at CG
        have CT := fun b w' h => dt_any S M r1 b 16 w' h
        have lt := rdT_size r1 16
        obtain ⟨t1, te, r2, ht⟩ : ∃ t1 te r2, P1.rdT r1 16 = (t1, te, r2) := ⟨_, _, _, rfl⟩
        simp only [ht] at CT
        rw [ht] at lt
        simp only at lt
        have CF := fun b w' h => df_any S M r2 b w' h
        obtain ⟨fg, fe, r3, hf⟩ : ∃ fg fe r3, P1.rdF r2 = (fg, fe, r3) := ⟨_, _, _, rfl⟩
        simp only [hf] at CF
        have CN := fun b w' h => dn_any S M r3 b mxN w' h
        obtain ⟨n1, ne, r4, hn4⟩ : ∃ n1 ne r4, P1.rdN r3 mxN = (n1, ne, r4) := ⟨_, _, _, rfl⟩
        simp only [hn4] at CN
        obtain ⟨tx, htx⟩ : ∃ tx, (⟨t1.toArray⟩ : ByteArray) = tx := ⟨_, rfl⟩
        simp only [htx] at CT
        have hts : tx.size ≤ r1.length := by rw [← htx]; show t1.toArray.size ≤ _; rw [List.size_toArray]; exact lt
        have HV : Hid (verR r = (⟨((s1 : Int), (s2 : Int)), tx, fg, (n1 : Int)⟩, ((((false || se != 0) || te != 0) || fe != 0) || ne != 0), r4)) := by
          unfold Hid verR
          simp only [hs, ht, hf, hn4, htx, Bool.false_or]
        have CV := fun w' h => refvalue_any tx fg w' h
        obtain ⟨vb, hvb⟩ : ∃ vb, valB tx fg = vb := ⟨_, rfl⟩
        simp only [hvb] at CV
        have hJ := (unhide HJ).step hk (unhide HV)
        simp only [hvb] at hJ
        have lus : us.length ≤ a1 := by rw [(unhide HJ).1]; exact (unhide HJ).2.1
        have HJ' := hide hJ
        clear hs ht hf hn4 htx lt HV hvb hJ HJ
        obtain ⟨n, hn⟩ : ∃ n, us.length = n := ⟨_, rfl⟩
        have Hn := hide hn
        rw [hn] at D lus
        clear hn
        have D0 := D
        clear D
        go_wp2_with fail
        refine (CG _ D0.d).mono ?_
        clear CG
        rintro e w2 ⟨rfl, hd, ht⟩
        have D2 := D0.read g1 hd ht
        clear D0 hd ht fb
        go_wp2_with fail
        refine (CT _ _ D2.d).mono ?_
        clear CT
        rintro e w3 ⟨rfl, hd, ht⟩
        have D3 := D2.read g1 hd ht
        have hl1 := D2.d.len
        clear D2 hd ht
        go_wp2_with fail
        refine (CF _ _ D3.d).mono ?_
        clear CF
        rintro e w4 ⟨rfl, hd, ht⟩
        have D4 := D3.read g1 hd ht
        clear D3 hd ht
        go_wp2_with fail
        refine (CN _ _ D4.d).mono ?_
        clear CN
        rintro e w5 ⟨rfl, hd, ht⟩
        have D5 := D4.read g1 hd ht
        clear D4 hd ht
        have hlt5 := D5.v.lt
        have V := Blk.new w5 #[.int .i64 s1, .int .i64 s2, .string tx, .bool fg, .int .i64 n1] 97
        have hB : Below w5.heap.size w5 (w5.alloc (.cells #[.int .i64 s1, .int .i64 s2, .string tx, .bool fg, .int .i64 n1] 97)) := (Below.refl w5.heap.size w5).alloc (Nat.le_refl _) _
        have D6 := D5.later hB
        have z6 : w5.heap.size < (w5.alloc (.cells #[.int .i64 s1, .int .i64 s2, .string tx, .bool fg, .int .i64 n1] 97)).heap.size := by simp
        clear hB
        go_upto_region 8 with fail
        generalize w5.alloc _ = w6 at *
        have V_0 := V.c 0; have V_1 := V.c 1; have V_2 := V.c 2; have V_3 := V.c 3; have V_4 := V.c 4; simp only [List.getElem?_cons_zero, List.getElem?_cons_succ] at V_0 V_1 V_2 V_3 V_4
        have C6 := D6.c
        have C6_0 := C6.c 0; simp only [List.getElem?_cons_zero] at C6_0
        clear C6
        have Hv6 := hide (D6.v.later ((Below.refl _ _).alloc (Nat.le_refl _) (.cells #[.int .i64 s1, .int .i64 s2, .string tx, .bool fg, .int .i64 n1] 97)))
        have z6b := D6.z
        go_wp2_with (at_builtin; refine wpList_append_n _ rfl (.tmp 38) (.tmp 40) rfl (w.heap.size + 2) ao (some ⟨w6.heap.size, 0, none⟩) cap 1 n 1 (n + 1) us [⟨((s1 : Int), (s2 : Int)), tx, fg, (n1 : Int)⟩] rfl rfl ?hB1 (unhide Hn) rfl rfl (unhide Hv6) (vs_one w6 ⟨((s1 : Int), (s2 : Int)), tx, fg, (n1 : Int)⟩) ?hl1 ?_)
        case hB1 => exact Nat.le_trans z6b (by simp)
        case hl1 => rw [unhide Hn]; simp; omega
        intro eo f w7 ho7 hg7
        have hq : some w5.heap.size ≠ (Value.slice ao n cap).ownBlock := fun e => by
          have := (hlt5 _ (by rw [unhide Hn]; exact e.symm)).2
          omega
        have Va := V.alloc (.cells #[.int .i64 s1, .int .i64 s2, .string tx, .bool fg, .int .i64 n1] 97)
        have eV := hg7.block w5.heap.size Va.lt hq
        have V7 : Blk w7 w5.heap.size [.int .i64 s1, .int .i64 s2, .string tx, .bool fg, .int .i64 n1] := ⟨fun j => (World.cell?_of_block (a := ⟨w5.heap.size, j, none⟩) eV).trans (Va.c j), fun j => (World.frozen?_of_block (a := ⟨w5.heap.size, j, none⟩) eV).trans (Va.f j), Nat.lt_of_lt_of_le Va.lt hg7.size⟩
        have D7 := (D6.later ((Below.refl _ _).alloc (Nat.le_refl _) (.cells #[.int .i64 s1, .int .i64 s2, .string tx, .bool fg, .int .i64 n1] 97))).grown g1 hS (Nat.le_refl _) (unhide Hn) hg7 ho7
        have V8 := V7.other (q := ⟨w.heap.size + 1, 0, none⟩) (by show w.heap.size + 1 ≠ w5.heap.size; have := D5.z; omega) (.slice eo (n + 1) f)
        have D8 : DB S M w.heap.size w (w7.setCell ⟨w.heap.size + 1, 0, none⟩ (.slice eo (n + 1) f)) r4 _ _ ([] ++ [.slice eo (n + 1) f] ++ [.bool false, .int .i64 0, .int .i64 0, .string ⟨#[]⟩, .int .i64 0, .int .i64 0, .int .i64 0, .int .i64 0, .int .i64 0, .string ⟨#[]⟩, .bool false]) eo f _ :=
          D7.setC g1 (Nat.le_refl _) [.slice eo (n + 1) f] 0 [] [.bool false, .int .i64 0, .int .i64 0, .string ⟨#[]⟩, .int .i64 0, .int .i64 0, .int .i64 0, .int .i64 0, .int .i64 0, .string ⟨#[]⟩, .bool false] [.slice ao n cap] rfl rfl rfl (by simp) (by simp)
        simp only [List.cons_append, List.nil_append] at D8
        have C7 := D7.c
        have C7_0 := C7.c 0; simp only [List.getElem?_cons_zero] at C7_0
        have C7f := C7.f
        clear C7 D7 V7 eV Va hq hg7 ho7 V D6 D5 Hv6 V_0 V_1 V_2 V_3 V_4 C6_0 hlt5
        go_upto_region 9 with fail
        generalize w7.setCell _ _ = w8 at *
        clear C7_0 C7f
        have V8_0 := V8.c 0; have V8_1 := V8.c 1; have V8_2 := V8.c 2; have V8_3 := V8.c 3; have V8_4 := V8.c 4; simp only [List.getElem?_cons_zero, List.getElem?_cons_succ] at V8_0 V8_1 V8_2 V8_3 V8_4
        clear V8
        have HD8 := hide D8
        clear D8
        go_wp2_with fail
        refine (CV w8 (by omega)).mono ?_
        clear CV
        rintro e w9 ⟨rfl, rfl⟩
        cases good
        · go_wp2
          go_roundw
          case rel => exact ⟨k + 1, r4, _, false && vb, us ++ [_], eo, f, rfl, by go_num, by rw [List.length_append, unhide Hn]; exact unhide HD8, HJ'⟩
          case measure => simp [intOf]; omega
        · go_wp2
          go_roundw
          case rel => exact ⟨k + 1, r4, _, true && vb, us ++ [_], eo, f, rfl, by go_num, by rw [List.length_append, unhide Hn]; exact unhide HD8, HJ'⟩
          case measure => simp [intOf]; omega
      · have hex : a1 ≤ k ∨ true = true := .inr rfl
        have CF := fun w' h => df_any S M r true w' h
        obtain ⟨o1, oe, r3, ho⟩ : ∃ o1 oe r3, P1.rdF r = (o1, oe, r3) := ⟨_, _, _, rfl⟩
        simp only [ho] at CF
        obtain ⟨bb, hbb⟩ : ∃ bb, (true || oe != 0) = bb := ⟨_, rfl⟩
        simp only [hbb] at CF
        have Ho := hide ho
        have Hbb := hide hbb
        have hJ := unhide HJ
        obtain ⟨n, hn⟩ : ∃ n, us.length = n := ⟨_, rfl⟩
        have hlen := hJ.2.1
        have HDn := hide (hJ.done hex)
        have HDb := hide hJ.2.2.2
        have Hn := hide hn
        rw [hn] at D
        clear hJ HJ ho hn hex hbb
        have hd := D.d
        go_wp2_with fail
        refine (CF _ hd).mono ?_
        clear CF hd
        rintro e w2 ⟨rfl, hd, ht⟩
        have D2 := D.read g1 hd ht
        clear D hd ht
        have C2 := D2.c
        have C2_0 := C2.c 0; have C2_1 := C2.c 1; have C2_2 := C2.c 2; have C2_3 := C2.c 3; have C2_4 := C2.c 4; have C2_5 := C2.c 5; have C2_6 := C2.c 6; have C2_7 := C2.c 7; have C2_8 := C2.c 8; have C2_9 := C2.c 9; have C2_10 := C2.c 10; have C2_11 := C2.c 11; simp only [List.getElem?_cons_zero, List.getElem?_cons_succ] at C2_0 C2_1 C2_2 C2_3 C2_4 C2_5 C2_6 C2_7 C2_8 C2_9 C2_10 C2_11
        have C2f := C2.f
        clear C2
        have D3 : DB S M w.heap.size w (w2.setCell ⟨w.heap.size + 1, 1, none⟩ (.bool o1)) r3 _ _ ([.slice ao n cap] ++ [.bool o1] ++ [.int .i64 0, .int .i64 0, .string ⟨#[]⟩, .int .i64 0, .int .i64 0, .int .i64 0, .int .i64 0, .int .i64 0, .string ⟨#[]⟩, .bool false]) ao cap us :=
          D2.setC g1 (Nat.le_refl _) [.bool o1] 1 [.slice ao n cap] [.int .i64 0, .int .i64 0, .string ⟨#[]⟩, .int .i64 0, .int .i64 0, .int .i64 0, .int .i64 0, .int .i64 0, .string ⟨#[]⟩, .bool false] [.bool false] rfl rfl rfl (by simp) (by simp)
        simp only [List.cons_append, List.nil_append] at D3
        clear D2
        have HR := fun w' i h => refright_c ao cap us o1 i w' h
        simp only [unhide Hn] at HR
        cases o1
        · go_upto_region 22 with fail
          generalize w2.setCell _ _ = w3 at *
          clear C2_0 C2_1 C2_2 C2_3 C2_4 C2_5 C2_6 C2_7 C2_8 C2_9 C2_10 C2_11 C2f
          have C3 := D3.c
          have C3_0 := C3.c 0; have C3_1 := C3.c 1; have C3_2 := C3.c 2; have C3_3 := C3.c 3; have C3_4 := C3.c 4; have C3_5 := C3.c 5; have C3_6 := C3.c 6; have C3_7 := C3.c 7; have C3_8 := C3.c 8; have C3_9 := C3.c 9; have C3_10 := C3.c 10; have C3_11 := C3.c 11; simp only [List.getElem?_cons_zero, List.getElem?_cons_succ] at C3_0 C3_1 C3_2 C3_3 C3_4 C3_5 C3_6 C3_7 C3_8 C3_9 C3_10 C3_11
          have HR3 := HR w3 Itn.zero D3.v.vs
          obtain ⟨rb, hrb⟩ : ∃ rb, rightCB ⟨us, false, Itn.zero⟩ = rb := ⟨_, rfl⟩
          simp only [hrb] at HR3
          have HQ : Hid (∀ ok, ok = (good && rb && !bb && decide (0 < a1)) → DchR bad0 q0 ⟨us, false, Itn.zero⟩ ok r3 bb) := fun ok hok => by
            have q := DchR.closed (bad0 := bad0) (bad := true) (good := good) (unhide Ha) (by rw [unhide Hb1]; exact unhide HDn) (fun h => by first | rfl | exact unhide HDb (by rw [← unhide Hb1]; exact h)) (unhide Ho) (ok := ok) (by rw [hrb, unhide Hbb]; exact hok)
            rw [unhide Hbb] at q
            exact q
          have HDD := hide D3
          clear D3 C3 HR hrb
          go_wp2_with fail
          refine HR3.mono ?_
          clear HR3
          rintro e w4 ⟨rfl, hb4⟩
          have D4 := (unhide HDD).later hb4
          clear HDD hb4 C3_0 C3_1 C3_2 C3_3 C3_4 C3_5 C3_6 C3_7 C3_8 C3_9 C3_10 C3_11
          go_upto_region 23 with fail
          have fb := D4.d.bad
          have HD5 : Hid (DB S M w.heap.size w ((setAll w4 w.heap.size 0 [.slice ao n cap, .bool false, .int .i64 Itn.zero.txn.id, .int .i64 Itn.zero.txn.ep, .string Itn.zero.txn.anchor, .int .i64 Itn.zero.txn.start.1, .int .i64 Itn.zero.txn.start.2, .int .i64 Itn.zero.seq, .int .i64 Itn.zero.at_.1, .int .i64 Itn.zero.at_.2, .string Itn.zero.val, .bool Itn.zero.gone]).drew) r3 bb [.slice ao n cap, .bool false, .int .i64 Itn.zero.txn.id, .int .i64 Itn.zero.txn.ep, .string Itn.zero.txn.anchor, .int .i64 Itn.zero.txn.start.1, .int .i64 Itn.zero.txn.start.2, .int .i64 Itn.zero.seq, .int .i64 Itn.zero.at_.1, .int .i64 Itn.zero.at_.2, .string Itn.zero.val, .bool Itn.zero.gone] [.slice ao n cap, .bool false, .int .i64 Itn.zero.txn.id, .int .i64 Itn.zero.txn.ep, .string Itn.zero.txn.anchor, .int .i64 Itn.zero.txn.start.1, .int .i64 Itn.zero.txn.start.2, .int .i64 Itn.zero.seq, .int .i64 Itn.zero.at_.1, .int .i64 Itn.zero.at_.2, .string Itn.zero.val, .bool Itn.zero.gone] ao cap us ∧ Blk ((setAll w4 w.heap.size 0 [.slice ao n cap, .bool false, .int .i64 Itn.zero.txn.id, .int .i64 Itn.zero.txn.ep, .string Itn.zero.txn.anchor, .int .i64 Itn.zero.txn.start.1, .int .i64 Itn.zero.txn.start.2, .int .i64 Itn.zero.seq, .int .i64 Itn.zero.at_.1, .int .i64 Itn.zero.at_.2, .string Itn.zero.val, .bool Itn.zero.gone]).drew) w.heap.size [.slice ao n cap, .bool false, .int .i64 Itn.zero.txn.id, .int .i64 Itn.zero.txn.ep, .string Itn.zero.txn.anchor, .int .i64 Itn.zero.txn.start.1, .int .i64 Itn.zero.txn.start.2, .int .i64 Itn.zero.seq, .int .i64 Itn.zero.at_.1, .int .i64 Itn.zero.at_.2, .string Itn.zero.val, .bool Itn.zero.gone]) := by
            have q := (D4.setA g1 (Nat.le_refl _) [.slice ao n cap, .bool false, .int .i64 Itn.zero.txn.id, .int .i64 Itn.zero.txn.ep, .string Itn.zero.txn.anchor, .int .i64 Itn.zero.txn.start.1, .int .i64 Itn.zero.txn.start.2, .int .i64 Itn.zero.seq, .int .i64 Itn.zero.at_.1, .int .i64 Itn.zero.at_.2, .string Itn.zero.val, .bool Itn.zero.gone] rfl (by simp) (by simp)).later (Below.refl _ _).drew
            exact ⟨q, q.a⟩
          have C4 := D4.c
          have C4_0 := C4.c 0; have C4_1 := C4.c 1; have C4_2 := C4.c 2; have C4_3 := C4.c 3; have C4_4 := C4.c 4; have C4_5 := C4.c 5; have C4_6 := C4.c 6; have C4_7 := C4.c 7; have C4_8 := C4.c 8; have C4_9 := C4.c 9; have C4_10 := C4.c 10; have C4_11 := C4.c 11; simp only [List.getElem?_cons_zero, List.getElem?_cons_succ] at C4_0 C4_1 C4_2 C4_3 C4_4 C4_5 C4_6 C4_7 C4_8 C4_9 C4_10 C4_11
          have A4 := D4.a
          have A4_0 := A4.c 0; have A4_1 := A4.c 1; have A4_2 := A4.c 2; have A4_3 := A4.c 3; have A4_4 := A4.c 4; have A4_5 := A4.c 5; have A4_6 := A4.c 6; have A4_7 := A4.c 7; have A4_8 := A4.c 8; have A4_9 := A4.c 9; have A4_10 := A4.c 10; have A4_11 := A4.c 11; simp only [List.getElem?_cons_zero, List.getElem?_cons_succ] at A4_0 A4_1 A4_2 A4_3 A4_4 A4_5 A4_6 A4_7 A4_8 A4_9 A4_10 A4_11
          have A4f := A4.f
          clear C4 A4 D4
          cases good
          · go_region
            all_goals
              obtain ⟨D5, QA⟩ := unhide HD5
              generalize hq0 : World.drew (World.setCell (World.setCell (World.setCell (World.setCell (World.setCell (World.setCell (World.setCell (World.setCell (World.setCell (World.setCell (World.setCell (World.setCell w4 _ _) _ _) _ _) _ _) _ _) _ _) _ _) _ _) _ _) _ _) _ _) _ _) = w5 at *
              have hq : (setAll w4 w.heap.size 0 [.slice ao n cap, .bool false, .int .i64 Itn.zero.txn.id, .int .i64 Itn.zero.txn.ep, .string Itn.zero.txn.anchor, .int .i64 Itn.zero.txn.start.1, .int .i64 Itn.zero.txn.start.2, .int .i64 Itn.zero.seq, .int .i64 Itn.zero.at_.1, .int .i64 Itn.zero.at_.2, .string Itn.zero.val, .bool Itn.zero.gone]).drew = w5 := hq0
              rw [hq] at D5 QA
              clear hq hq0 HD5 fb A4f C4_0 A4_0 C4_1 A4_1 C4_2 A4_2 C4_3 A4_3 C4_4 A4_4 C4_5 A4_5 C4_6 A4_6 C4_7 A4_7 C4_8 A4_8 C4_9 A4_9 C4_10 A4_10 C4_11 A4_11
              simp only [Exit.then]
              (first | (rename_i hK; refine hK _ _ ?_; clear hK) | (rename_i hK x1; refine hK _ _ ?_; clear hK) | (rename_i hK x1 x2; refine hK _ _ ?_; clear hK) | (rename_i hK x1 x2 x3; refine hK _ _ ?_; clear hK))
              apply wp_ret
              refine bodyPost_ret (results_ce Tryz.results26 ao n cap false Itn.zero rfl rfl QA) rfl ?_
              refine ⟨ao, cap, ⟨us, false, Itn.zero⟩, false, r3, bb, ?_, D5.v.mono (by omega), D5.d, D5.t, unhide HQ _ (by simp)⟩
              show _ = Ending.returned (.tuple #[(.agg #[.slice ao us.length cap, .bool false, .int .i64 Itn.zero.txn.id, .int .i64 Itn.zero.txn.ep, .string Itn.zero.txn.anchor, .int .i64 Itn.zero.txn.start.1, .int .i64 Itn.zero.txn.start.2, .int .i64 Itn.zero.seq, .int .i64 Itn.zero.at_.1, .int .i64 Itn.zero.at_.2, .string Itn.zero.val, .bool Itn.zero.gone]), .bool false])
              rw [unhide Hn]
              rfl
          · cases rb
            · go_region
              all_goals
                obtain ⟨D5, QA⟩ := unhide HD5
                generalize hq0 : World.drew (World.setCell (World.setCell (World.setCell (World.setCell (World.setCell (World.setCell (World.setCell (World.setCell (World.setCell (World.setCell (World.setCell (World.setCell w4 _ _) _ _) _ _) _ _) _ _) _ _) _ _) _ _) _ _) _ _) _ _) _ _) = w5 at *
                have hq : (setAll w4 w.heap.size 0 [.slice ao n cap, .bool false, .int .i64 Itn.zero.txn.id, .int .i64 Itn.zero.txn.ep, .string Itn.zero.txn.anchor, .int .i64 Itn.zero.txn.start.1, .int .i64 Itn.zero.txn.start.2, .int .i64 Itn.zero.seq, .int .i64 Itn.zero.at_.1, .int .i64 Itn.zero.at_.2, .string Itn.zero.val, .bool Itn.zero.gone]).drew = w5 := hq0
                rw [hq] at D5 QA
                clear hq hq0 HD5 fb A4f C4_0 A4_0 C4_1 A4_1 C4_2 A4_2 C4_3 A4_3 C4_4 A4_4 C4_5 A4_5 C4_6 A4_6 C4_7 A4_7 C4_8 A4_8 C4_9 A4_9 C4_10 A4_10 C4_11 A4_11
                simp only [Exit.then]
                (first | (rename_i hK; refine hK _ _ ?_; clear hK) | (rename_i hK x1; refine hK _ _ ?_; clear hK) | (rename_i hK x1 x2; refine hK _ _ ?_; clear hK) | (rename_i hK x1 x2 x3; refine hK _ _ ?_; clear hK))
                apply wp_ret
                refine bodyPost_ret (results_ce Tryz.results26 ao n cap false Itn.zero rfl rfl QA) rfl ?_
                refine ⟨ao, cap, ⟨us, false, Itn.zero⟩, false, r3, bb, ?_, D5.v.mono (by omega), D5.d, D5.t, unhide HQ _ (by simp)⟩
                show _ = Ending.returned (.tuple #[(.agg #[.slice ao us.length cap, .bool false, .int .i64 Itn.zero.txn.id, .int .i64 Itn.zero.txn.ep, .string Itn.zero.txn.anchor, .int .i64 Itn.zero.txn.start.1, .int .i64 Itn.zero.txn.start.2, .int .i64 Itn.zero.seq, .int .i64 Itn.zero.at_.1, .int .i64 Itn.zero.at_.2, .string Itn.zero.val, .bool Itn.zero.gone]), .bool false])
                rw [unhide Hn]
                rfl
            · cases bb
              · by_cases h0 : 0 < a1
                · have h0i : (0 : Int) < (a1 : Int) := by omega
                  rw [decide_eq_true h0] at HQ
                  go_region
                  all_goals
                    obtain ⟨D5, QA⟩ := unhide HD5
                    generalize hq0 : World.drew (World.setCell (World.setCell (World.setCell (World.setCell (World.setCell (World.setCell (World.setCell (World.setCell (World.setCell (World.setCell (World.setCell (World.setCell w4 _ _) _ _) _ _) _ _) _ _) _ _) _ _) _ _) _ _) _ _) _ _) _ _) = w5 at *
                    have hq : (setAll w4 w.heap.size 0 [.slice ao n cap, .bool false, .int .i64 Itn.zero.txn.id, .int .i64 Itn.zero.txn.ep, .string Itn.zero.txn.anchor, .int .i64 Itn.zero.txn.start.1, .int .i64 Itn.zero.txn.start.2, .int .i64 Itn.zero.seq, .int .i64 Itn.zero.at_.1, .int .i64 Itn.zero.at_.2, .string Itn.zero.val, .bool Itn.zero.gone]).drew = w5 := hq0
                    rw [hq] at D5 QA
                    clear hq hq0 HD5 fb A4f C4_0 A4_0 C4_1 A4_1 C4_2 A4_2 C4_3 A4_3 C4_4 A4_4 C4_5 A4_5 C4_6 A4_6 C4_7 A4_7 C4_8 A4_8 C4_9 A4_9 C4_10 A4_10 C4_11 A4_11
                    simp only [Exit.then]
                    (first | (rename_i hK; refine hK _ _ ?_; clear hK) | (rename_i hK x1; refine hK _ _ ?_; clear hK) | (rename_i hK x1 x2; refine hK _ _ ?_; clear hK) | (rename_i hK x1 x2 x3; refine hK _ _ ?_; clear hK))
                    apply wp_ret
                    refine bodyPost_ret (results_ce Tryz.results26 ao n cap false Itn.zero rfl rfl QA) rfl ?_
                    refine ⟨ao, cap, ⟨us, false, Itn.zero⟩, true, r3, false, ?_, D5.v.mono (by omega), D5.d, D5.t, unhide HQ _ (by simp)⟩
                    show _ = Ending.returned (.tuple #[(.agg #[.slice ao us.length cap, .bool false, .int .i64 Itn.zero.txn.id, .int .i64 Itn.zero.txn.ep, .string Itn.zero.txn.anchor, .int .i64 Itn.zero.txn.start.1, .int .i64 Itn.zero.txn.start.2, .int .i64 Itn.zero.seq, .int .i64 Itn.zero.at_.1, .int .i64 Itn.zero.at_.2, .string Itn.zero.val, .bool Itn.zero.gone]), .bool true])
                    rw [unhide Hn]
                    rfl
                · have h0i : ¬ (0 : Int) < (a1 : Int) := by omega
                  rw [decide_eq_false h0] at HQ
                  have nM : ¬ w.heap.size = M := by omega
                  go_region_held (fun y => y.cell? ⟨M, 2, none⟩ = some (.bool false) ∧ y.cell? ⟨w.heap.size + 1, 0, none⟩ = some (.slice ao n cap) ∧ y.cell? ⟨w.heap.size + 1, 1, none⟩ = some (.bool false) ∧ y.cell? ⟨w.heap.size + 1, 2, none⟩ = some (.int .i64 0) ∧ y.cell? ⟨w.heap.size + 1, 3, none⟩ = some (.int .i64 0) ∧ y.cell? ⟨w.heap.size + 1, 4, none⟩ = some (.string ⟨#[]⟩) ∧ y.cell? ⟨w.heap.size + 1, 5, none⟩ = some (.int .i64 0) ∧ y.cell? ⟨w.heap.size + 1, 6, none⟩ = some (.int .i64 0) ∧ y.cell? ⟨w.heap.size + 1, 7, none⟩ = some (.int .i64 0) ∧ y.cell? ⟨w.heap.size + 1, 8, none⟩ = some (.int .i64 0) ∧ y.cell? ⟨w.heap.size + 1, 9, none⟩ = some (.int .i64 0) ∧ y.cell? ⟨w.heap.size + 1, 10, none⟩ = some (.string ⟨#[]⟩) ∧ y.cell? ⟨w.heap.size + 1, 11, none⟩ = some (.bool false)) (go_keep) (fail)
                  all_goals
                    obtain ⟨D5, QA⟩ := unhide HD5
                    generalize hq0 : World.drew (World.setCell (World.setCell (World.setCell (World.setCell (World.setCell (World.setCell (World.setCell (World.setCell (World.setCell (World.setCell (World.setCell (World.setCell w4 _ _) _ _) _ _) _ _) _ _) _ _) _ _) _ _) _ _) _ _) _ _) _ _) = w5 at *
                    have hq : (setAll w4 w.heap.size 0 [.slice ao n cap, .bool false, .int .i64 Itn.zero.txn.id, .int .i64 Itn.zero.txn.ep, .string Itn.zero.txn.anchor, .int .i64 Itn.zero.txn.start.1, .int .i64 Itn.zero.txn.start.2, .int .i64 Itn.zero.seq, .int .i64 Itn.zero.at_.1, .int .i64 Itn.zero.at_.2, .string Itn.zero.val, .bool Itn.zero.gone]).drew = w5 := hq0
                    rw [hq] at D5 QA
                    clear hq hq0 HD5 fb A4f C4_0 A4_0 C4_1 A4_1 C4_2 A4_2 C4_3 A4_3 C4_4 A4_4 C4_5 A4_5 C4_6 A4_6 C4_7 A4_7 C4_8 A4_8 C4_9 A4_9 C4_10 A4_10 C4_11 A4_11
                    simp only [Exit.then]
                    (first | (rename_i hK; refine hK _ _ ?_; clear hK) | (rename_i hK x1; refine hK _ _ ?_; clear hK) | (rename_i hK x1 x2; refine hK _ _ ?_; clear hK) | (rename_i hK x1 x2 x3; refine hK _ _ ?_; clear hK))
                    apply wp_ret
                    refine bodyPost_ret (results_ce Tryz.results26 ao n cap false Itn.zero rfl rfl QA) rfl ?_
                    refine ⟨ao, cap, ⟨us, false, Itn.zero⟩, false, r3, false, ?_, D5.v.mono (by omega), D5.d, D5.t, unhide HQ _ (by simp)⟩
                    show _ = Ending.returned (.tuple #[(.agg #[.slice ao us.length cap, .bool false, .int .i64 Itn.zero.txn.id, .int .i64 Itn.zero.txn.ep, .string Itn.zero.txn.anchor, .int .i64 Itn.zero.txn.start.1, .int .i64 Itn.zero.txn.start.2, .int .i64 Itn.zero.seq, .int .i64 Itn.zero.at_.1, .int .i64 Itn.zero.at_.2, .string Itn.zero.val, .bool Itn.zero.gone]), .bool false])
                    rw [unhide Hn]
                    rfl
              · go_region
                all_goals
                  obtain ⟨D5, QA⟩ := unhide HD5
                  generalize hq0 : World.drew (World.setCell (World.setCell (World.setCell (World.setCell (World.setCell (World.setCell (World.setCell (World.setCell (World.setCell (World.setCell (World.setCell (World.setCell w4 _ _) _ _) _ _) _ _) _ _) _ _) _ _) _ _) _ _) _ _) _ _) _ _) = w5 at *
                  have hq : (setAll w4 w.heap.size 0 [.slice ao n cap, .bool false, .int .i64 Itn.zero.txn.id, .int .i64 Itn.zero.txn.ep, .string Itn.zero.txn.anchor, .int .i64 Itn.zero.txn.start.1, .int .i64 Itn.zero.txn.start.2, .int .i64 Itn.zero.seq, .int .i64 Itn.zero.at_.1, .int .i64 Itn.zero.at_.2, .string Itn.zero.val, .bool Itn.zero.gone]).drew = w5 := hq0
                  rw [hq] at D5 QA
                  clear hq hq0 HD5 fb A4f C4_0 A4_0 C4_1 A4_1 C4_2 A4_2 C4_3 A4_3 C4_4 A4_4 C4_5 A4_5 C4_6 A4_6 C4_7 A4_7 C4_8 A4_8 C4_9 A4_9 C4_10 A4_10 C4_11 A4_11
                  simp only [Exit.then]
                  (first | (rename_i hK; refine hK _ _ ?_; clear hK) | (rename_i hK x1; refine hK _ _ ?_; clear hK) | (rename_i hK x1 x2; refine hK _ _ ?_; clear hK) | (rename_i hK x1 x2 x3; refine hK _ _ ?_; clear hK))
                  apply wp_ret
                  refine bodyPost_ret (results_ce Tryz.results26 ao n cap false Itn.zero rfl rfl QA) rfl ?_
                  refine ⟨ao, cap, ⟨us, false, Itn.zero⟩, false, r3, true, ?_, D5.v.mono (by omega), D5.d, D5.t, unhide HQ _ (by simp)⟩
                  show _ = Ending.returned (.tuple #[(.agg #[.slice ao us.length cap, .bool false, .int .i64 Itn.zero.txn.id, .int .i64 Itn.zero.txn.ep, .string Itn.zero.txn.anchor, .int .i64 Itn.zero.txn.start.1, .int .i64 Itn.zero.txn.start.2, .int .i64 Itn.zero.seq, .int .i64 Itn.zero.at_.1, .int .i64 Itn.zero.at_.2, .string Itn.zero.val, .bool Itn.zero.gone]), .bool false])
                  rw [unhide Hn]
                  rfl
        · go_wp2_with fail
          generalize w2.setCell _ _ = w3 at *
          clear C2_0 C2_1 C2_2 C2_3 C2_4 C2_5 C2_6 C2_7 C2_8 C2_9 C2_10 C2_11 C2f
          have QA := fun b w' h => dn_any S M r3 b mxN w' h
          obtain ⟨n1, n1e, r4, hn1e⟩ : ∃ n1 n1e r4, P1.rdN r3 mxN = (n1, n1e, r4) := ⟨_, _, _, rfl⟩
          simp only [hn1e] at QA
          have QB := fun b w' h => dn_any S M r4 b mxN w' h
          obtain ⟨n2, n2e, r5, hn2e⟩ : ∃ n2 n2e r5, P1.rdN r4 mxN = (n2, n2e, r5) := ⟨_, _, _, rfl⟩
          simp only [hn2e] at QB
          have QT := fun b w' h => dt_any S M r5 b 8 w' h
          have lkx := rdT_size r5 8
          obtain ⟨tk, tke, r6, htke⟩ : ∃ tk tke r6, P1.rdT r5 8 = (tk, tke, r6) := ⟨_, _, _, rfl⟩
          simp only [htke] at QT
          rw [htke] at lkx
          simp only at lkx
          obtain ⟨kx, hkx⟩ : ∃ x, (⟨tk.toArray⟩ : ByteArray) = x := ⟨_, rfl⟩
          simp only [hkx] at QT
          have zkx : kx.size ≤ r5.length := by rw [← hkx]; show tk.toArray.size ≤ _; rw [List.size_toArray]; exact lkx
          have QG := fun b w' h => dg_any S M r6 b  w' h
          obtain ⟨s1, s2, se, r7, hse⟩ : ∃ s1 s2 se r7, P1.rdS r6  = (s1, s2, se, r7) := ⟨_, _, _, _, rfl⟩
          simp only [hse] at QG
          have QN := fun b w' h => dn_any S M r7 b mxN w' h
          obtain ⟨n3, n3e, r8, hn3e⟩ : ∃ n3 n3e r8, P1.rdN r7 mxN = (n3, n3e, r8) := ⟨_, _, _, rfl⟩
          simp only [hn3e] at QN
          have QH := fun b w' h => dg_any S M r8 b  w' h
          obtain ⟨u1, u2, ue, r9, hue⟩ : ∃ u1 u2 ue r9, P1.rdS r8  = (u1, u2, ue, r9) := ⟨_, _, _, _, rfl⟩
          simp only [hue] at QH
          have QU := fun b w' h => dt_any S M r9 b 16 w' h
          have ltx := rdT_size r9 16
          obtain ⟨tv, tve, r10, htve⟩ : ∃ tv tve r10, P1.rdT r9 16 = (tv, tve, r10) := ⟨_, _, _, rfl⟩
          simp only [htve] at QU
          rw [htve] at ltx
          simp only at ltx
          obtain ⟨tx, htx⟩ : ∃ x, (⟨tv.toArray⟩ : ByteArray) = x := ⟨_, rfl⟩
          simp only [htx] at QU
          have ztx : tx.size ≤ r9.length := by rw [← htx]; show tv.toArray.size ≤ _; rw [List.size_toArray]; exact ltx
          have QF := fun b w' h => df_any S M r10 b  w' h
          obtain ⟨fg, fge, r11, hfge⟩ : ∃ fg fge r11, P1.rdF r10  = (fg, fge, r11) := ⟨_, _, _, rfl⟩
          simp only [hfge] at QF
          obtain ⟨it, hit⟩ : ∃ it : Itn, it = ⟨⟨(n1 : Int), (n2 : Int), kx, ((s1 : Int), (s2 : Int))⟩, (n3 : Int), ((u1 : Int), (u2 : Int)), tx, fg⟩ := ⟨_, rfl⟩
          have HIT : Hid (itnR r3 = (it, ((((((((n1e != 0) || n2e != 0) || tke != 0) || se != 0) || n3e != 0) || ue != 0) || tve != 0) || fge != 0), r11)) := by
            unfold Hid itnR
            rw [hit]
            simp only [hn1e, hn2e, htke, hse, hn3e, hue, htve, hfge, hkx, htx]
          clear hn1e hn2e htke hse hn3e hue htve hfge hkx htx lkx ltx
          obtain ⟨b9, hb9⟩ : ∃ b9, ((((((((bb || n1e != 0) || n2e != 0) || tke != 0) || se != 0) || n3e != 0) || ue != 0) || tve != 0) || fge != 0) = b9 := ⟨_, rfl⟩
          have Hb9 := hide hb9
          clear hb9
          have HR3 := fun w' h => HR w' it h
          obtain ⟨rb, hrb⟩ : ∃ rb, rightCB ⟨us, true, it⟩ = rb := ⟨_, rfl⟩
          simp only [hrb] at HR3
          have CV := fun w' h => refvalue_any tx fg w' h
          obtain ⟨vb, hvb⟩ : ∃ vb, valB tx fg = vb := ⟨_, rfl⟩
          simp only [hvb] at CV
          have CK := fun w' h => S5.refKey_any kx w' h
          obtain ⟨kb, hkb⟩ : ∃ kb, S5.keyB kx = kb := ⟨_, rfl⟩
          simp only [hkb] at CK
          have HQ0 : Hid (∀ ok, ok = (good && vb && kb && rb && !b9) → DchR bad0 q0 ⟨us, true, it⟩ ok r11 b9) := fun ok hok => by
            have e9 : ((bb || ((((((((n1e != 0) || n2e != 0) || tke != 0) || se != 0) || n3e != 0) || ue != 0) || tve != 0) || fge != 0))) = b9 := by rw [← unhide Hb9]; simp only [Bool.or_assoc]
            have q := DchR.opened (bad0 := bad0) (bad := true) (good := good) (unhide Ha) (by rw [unhide Hb1]; exact unhide HDn) (fun h => by first | rfl | exact unhide HDb (by rw [← unhide Hb1]; exact h)) (unhide Ho) (unhide HIT) (ok := ok) (by rw [unhide Hbb, e9, hrb, hit]; simp only [hvb, hkb]; exact hok)
            rw [unhide Hbb, e9] at q
            exact q
          have Hit := hide hit
          clear hrb hvb hkb HR hit
          refine (QA _ _ D3.d).mono ?_
          clear QA
          rintro e v4 ⟨rfl, hd, ht⟩
          have E4 := D3.read g1 hd ht
          clear D3 hd ht
          go_wp2_with fail
          refine (QB _ _ E4.d).mono ?_
          clear QB
          rintro e w5 ⟨rfl, hd, ht⟩
          have E5 := E4.read g1 hd ht
          clear E4 hd ht
          go_wp2_with fail
          refine (QT _ _ E5.d).mono ?_
          clear QT
          rintro e w6 ⟨rfl, hd, ht⟩
          have E6 := E5.read g1 hd ht
          have mkx := E5.d.len
          clear E5 hd ht
          go_wp2_with fail
          refine (QG _ _ E6.d).mono ?_
          clear QG
          rintro e w7 ⟨rfl, hd, ht⟩
          have E7 := E6.read g1 hd ht
          clear E6 hd ht
          have I := Blk.new w7 #[.int .i64 (n1 : Int), .int .i64 (n2 : Int), .string kx, .int .i64 (s1 : Int), .int .i64 (s2 : Int), .int .i64 0, .int .i64 0, .int .i64 0, .string ⟨#[]⟩, .bool false] 42
          have hB : Below w7.heap.size w7 (w7.alloc (.cells #[.int .i64 (n1 : Int), .int .i64 (n2 : Int), .string kx, .int .i64 (s1 : Int), .int .i64 (s2 : Int), .int .i64 0, .int .i64 0, .int .i64 0, .string ⟨#[]⟩, .bool false] 42)) := (Below.refl w7.heap.size w7).alloc (Nat.le_refl _) _
          have X7 := DX.of E7 I
          clear E7 I hB
          go_wp2_with fail
          generalize hX : w7.heap.size = X at *
          generalize w7.alloc _ = w8 at *
          clear hX
          refine (QN _ _ X7.d.d).mono ?_
          clear QN
          rintro e x8 ⟨rfl, hd, ht⟩
          have F8 := X7.read g1 hd ht
          clear X7 hd ht
          have J8 := F8.i
          have J8_0 := J8.c 0; have J8_1 := J8.c 1; have J8_2 := J8.c 2; have J8_3 := J8.c 3; have J8_4 := J8.c 4; have J8_5 := J8.c 5; have J8_6 := J8.c 6; have J8_7 := J8.c 7; have J8_8 := J8.c 8; have J8_9 := J8.c 9; simp only [List.getElem?_cons_zero, List.getElem?_cons_succ] at J8_0 J8_1 J8_2 J8_3 J8_4 J8_5 J8_6 J8_7 J8_8 J8_9
          have Jf8 := J8.f
          clear J8
          have G8 : DX S M w.heap.size X w (x8.setCell ⟨X, 5, none⟩ (.int .i64 (n3 : Int))) r8 _ _ _ ao cap us ([.int .i64 (n1 : Int), .int .i64 (n2 : Int), .string kx, .int .i64 (s1 : Int), .int .i64 (s2 : Int)] ++ [.int .i64 (n3 : Int)] ++ [.int .i64 0, .int .i64 0, .string ⟨#[]⟩, .bool false]) := F8.setI g1 (Nat.le_refl _) [.int .i64 (n3 : Int)] 5 [.int .i64 (n1 : Int), .int .i64 (n2 : Int), .string kx, .int .i64 (s1 : Int), .int .i64 (s2 : Int)] [.int .i64 0, .int .i64 0, .string ⟨#[]⟩, .bool false] [.int .i64 0] rfl rfl rfl (by simp) (by simp)
          simp only [List.cons_append, List.nil_append] at G8
          clear F8
          go_wp2_with fail
          generalize x8.setCell _ _ = y8 at *
          clear J8_0 J8_1 J8_2 J8_3 J8_4 J8_5 J8_6 J8_7 J8_8 J8_9 Jf8
          refine (QH _ _ G8.d.d).mono ?_
          clear QH
          rintro e x9 ⟨rfl, hd, ht⟩
          have F9 := G8.read g1 hd ht
          clear G8 hd ht
          have J9 := F9.i
          have J9_0 := J9.c 0; have J9_1 := J9.c 1; have J9_2 := J9.c 2; have J9_3 := J9.c 3; have J9_4 := J9.c 4; have J9_5 := J9.c 5; have J9_6 := J9.c 6; have J9_7 := J9.c 7; have J9_8 := J9.c 8; have J9_9 := J9.c 9; simp only [List.getElem?_cons_zero, List.getElem?_cons_succ] at J9_0 J9_1 J9_2 J9_3 J9_4 J9_5 J9_6 J9_7 J9_8 J9_9
          have Jf9 := J9.f
          clear J9
          have G9 : DX S M w.heap.size X w ((x9.setCell ⟨X, 6, none⟩ (.int .i64 (u1 : Int))).setCell ⟨X, 7, none⟩ (.int .i64 (u2 : Int))) r9 _ _ _ ao cap us ([.int .i64 (n1 : Int), .int .i64 (n2 : Int), .string kx, .int .i64 (s1 : Int), .int .i64 (s2 : Int), .int .i64 (n3 : Int)] ++ [.int .i64 (u1 : Int), .int .i64 (u2 : Int)] ++ [.string ⟨#[]⟩, .bool false]) := F9.setI g1 (Nat.le_refl _) [.int .i64 (u1 : Int), .int .i64 (u2 : Int)] 6 [.int .i64 (n1 : Int), .int .i64 (n2 : Int), .string kx, .int .i64 (s1 : Int), .int .i64 (s2 : Int), .int .i64 (n3 : Int)] [.string ⟨#[]⟩, .bool false] [.int .i64 0, .int .i64 0] rfl rfl rfl (by simp) (by simp)
          simp only [List.cons_append, List.nil_append] at G9
          clear F9
          go_wp2_with fail
          generalize (x9.setCell _ _).setCell _ _ = y9 at *
          clear J9_0 J9_1 J9_2 J9_3 J9_4 J9_5 J9_6 J9_7 J9_8 J9_9 Jf9
          refine (QU _ _ G9.d.d).mono ?_
          clear QU
          rintro e x10 ⟨rfl, hd, ht⟩
          have mtx := G9.d.d.len
          have F10 := G9.read g1 hd ht
          clear G9 hd ht
          have J10 := F10.i
          have J10_0 := J10.c 0; have J10_1 := J10.c 1; have J10_2 := J10.c 2; have J10_3 := J10.c 3; have J10_4 := J10.c 4; have J10_5 := J10.c 5; have J10_6 := J10.c 6; have J10_7 := J10.c 7; have J10_8 := J10.c 8; have J10_9 := J10.c 9; simp only [List.getElem?_cons_zero, List.getElem?_cons_succ] at J10_0 J10_1 J10_2 J10_3 J10_4 J10_5 J10_6 J10_7 J10_8 J10_9
          have Jf10 := J10.f
          clear J10
          have G10 : DX S M w.heap.size X w (x10.setCell ⟨X, 8, none⟩ (.string tx)) r10 _ _ _ ao cap us ([.int .i64 (n1 : Int), .int .i64 (n2 : Int), .string kx, .int .i64 (s1 : Int), .int .i64 (s2 : Int), .int .i64 (n3 : Int), .int .i64 (u1 : Int), .int .i64 (u2 : Int)] ++ [.string tx] ++ [.bool false]) := F10.setI g1 (Nat.le_refl _) [.string tx] 8 [.int .i64 (n1 : Int), .int .i64 (n2 : Int), .string kx, .int .i64 (s1 : Int), .int .i64 (s2 : Int), .int .i64 (n3 : Int), .int .i64 (u1 : Int), .int .i64 (u2 : Int)] [.bool false] [.string ⟨#[]⟩] rfl rfl rfl (by simp) (by simp)
          simp only [List.cons_append, List.nil_append] at G10
          clear F10
          go_wp2_with fail
          generalize x10.setCell _ _ = y10 at *
          clear J10_0 J10_1 J10_2 J10_3 J10_4 J10_5 J10_6 J10_7 J10_8 J10_9 Jf10
          refine (QF _ _ G10.d.d).mono ?_
          clear QF
          rintro e x11 ⟨rfl, hd, ht⟩
          have F11 := G10.read g1 hd ht
          clear G10 hd ht
          have J11 := F11.i
          have J11_0 := J11.c 0; have J11_1 := J11.c 1; have J11_2 := J11.c 2; have J11_3 := J11.c 3; have J11_4 := J11.c 4; have J11_5 := J11.c 5; have J11_6 := J11.c 6; have J11_7 := J11.c 7; have J11_8 := J11.c 8; have J11_9 := J11.c 9; simp only [List.getElem?_cons_zero, List.getElem?_cons_succ] at J11_0 J11_1 J11_2 J11_3 J11_4 J11_5 J11_6 J11_7 J11_8 J11_9
          have Jf11 := J11.f
          clear J11
          have G11 : DX S M w.heap.size X w (x11.setCell ⟨X, 9, none⟩ (.bool fg)) r11 _ _ _ ao cap us ([.int .i64 (n1 : Int), .int .i64 (n2 : Int), .string kx, .int .i64 (s1 : Int), .int .i64 (s2 : Int), .int .i64 (n3 : Int), .int .i64 (u1 : Int), .int .i64 (u2 : Int), .string tx] ++ [.bool fg] ++ []) := F11.setI g1 (Nat.le_refl _) [.bool fg] 9 [.int .i64 (n1 : Int), .int .i64 (n2 : Int), .string kx, .int .i64 (s1 : Int), .int .i64 (s2 : Int), .int .i64 (n3 : Int), .int .i64 (u1 : Int), .int .i64 (u2 : Int), .string tx] [] [.bool false] rfl rfl rfl (by simp) (by simp)
          simp only [List.cons_append, List.nil_append] at G11
          clear F11
          go_upto_region 18 with fail
          generalize x11.setCell _ _ = y11 at *
          clear J11_0 J11_1 J11_2 J11_3 J11_4 J11_5 J11_6 J11_7 J11_8 J11_9 Jf11
          simp only [unhide Hb9] at G11
          have I9 := G11.i
          have I9_0 := I9.c 0; have I9_1 := I9.c 1; have I9_2 := I9.c 2; have I9_3 := I9.c 3; have I9_4 := I9.c 4; have I9_5 := I9.c 5; have I9_6 := I9.c 6; have I9_7 := I9.c 7; have I9_8 := I9.c 8; have I9_9 := I9.c 9; simp only [List.getElem?_cons_zero, List.getElem?_cons_succ] at I9_0 I9_1 I9_2 I9_3 I9_4 I9_5 I9_6 I9_7 I9_8 I9_9
          clear I9
          have C9 := G11.d.c
          have C9_0 := C9.c 0; have C9_1 := C9.c 1; have C9_2 := C9.c 2; have C9_3 := C9.c 3; have C9_4 := C9.c 4; have C9_5 := C9.c 5; have C9_6 := C9.c 6; have C9_7 := C9.c 7; have C9_8 := C9.c 8; have C9_9 := C9.c 9; have C9_10 := C9.c 10; have C9_11 := C9.c 11; simp only [List.getElem?_cons_zero, List.getElem?_cons_succ] at C9_0 C9_1 C9_2 C9_3 C9_4 C9_5 C9_6 C9_7 C9_8 C9_9 C9_10 C9_11
          have C9f := C9.f
          clear C9
          have HG := hide G11
          have hvs := G11.d.v.vs
          clear G11
          go_wp2_with fail
          refine (CV y11 (by omega)).mono ?_
          clear CV
          rintro e z1 ⟨rfl, rfl⟩
          go_wp2_with fail
          refine (CK z1 (by omega)).mono ?_
          clear CK
          rintro e z2 ⟨rfl, rfl⟩
          go_upto_region 20 with fail
          cases good
          · go_upto_region 22 with fail
            have G := unhide HG
            have XC := G.setC g1 (Nat.le_refl _) [.int .i64 (n1 : Int), .int .i64 (n2 : Int), .string kx, .int .i64 (s1 : Int), .int .i64 (s2 : Int), .int .i64 (n3 : Int), .int .i64 (u1 : Int), .int .i64 (u2 : Int), .string tx, .bool fg] 2 [.slice ao n cap, .bool true] [] [.int .i64 0, .int .i64 0, .string ⟨#[]⟩, .int .i64 0, .int .i64 0, .int .i64 0, .int .i64 0, .int .i64 0, .string ⟨#[]⟩, .bool false] rfl rfl rfl (by simp) (by simp)
            simp only [List.cons_append, List.nil_append, List.append_nil] at XC
            generalize hq0 : World.setCell (World.setCell (World.setCell (World.setCell (World.setCell (World.setCell (World.setCell (World.setCell (World.setCell (World.setCell z2 _ _) _ _) _ _) _ _) _ _) _ _) _ _) _ _) _ _) _ _ = w3 at *
            have hq : setAll z2 (w.heap.size + 1) 2 [.int .i64 (n1 : Int), .int .i64 (n2 : Int), .string kx, .int .i64 (s1 : Int), .int .i64 (s2 : Int), .int .i64 (n3 : Int), .int .i64 (u1 : Int), .int .i64 (u2 : Int), .string tx, .bool fg] = w3 := hq0
            rw [hq] at XC
            have D3 : DB S M w.heap.size w w3 r11 b9 [.slice none 0 0, .bool false, .int .i64 0, .int .i64 0, .string ⟨#[]⟩, .int .i64 0, .int .i64 0, .int .i64 0, .int .i64 0, .int .i64 0, .string ⟨#[]⟩, .bool false] [.slice ao n cap, .bool true, .int .i64 it.txn.id, .int .i64 it.txn.ep, .string it.txn.anchor, .int .i64 it.txn.start.1, .int .i64 it.txn.start.2, .int .i64 it.seq, .int .i64 it.at_.1, .int .i64 it.at_.2, .string it.val, .bool it.gone] ao cap us := by rw [unhide Hit]; exact XC.d
            clear hq hq0 XC G C9_0 C9_1 C9_2 C9_3 C9_4 C9_5 C9_6 C9_7 C9_8 C9_9 C9_10 C9_11 C9f I9_0 I9_1 I9_2 I9_3 I9_4 I9_5 I9_6 I9_7 I9_8 I9_9
            have C3 := D3.c
            have C3_0 := C3.c 0; have C3_1 := C3.c 1; have C3_2 := C3.c 2; have C3_3 := C3.c 3; have C3_4 := C3.c 4; have C3_5 := C3.c 5; have C3_6 := C3.c 6; have C3_7 := C3.c 7; have C3_8 := C3.c 8; have C3_9 := C3.c 9; have C3_10 := C3.c 10; have C3_11 := C3.c 11; simp only [List.getElem?_cons_zero, List.getElem?_cons_succ] at C3_0 C3_1 C3_2 C3_3 C3_4 C3_5 C3_6 C3_7 C3_8 C3_9 C3_10 C3_11
            have HR4 := HR3 w3 D3.v.vs
            clear HR3 C3
            have HDD := hide D3
            clear D3
            go_wp2_with fail
            refine HR4.mono ?_
            clear HR4
            rintro e w4 ⟨rfl, hb4⟩
            have D4 := (unhide HDD).later hb4
            clear HDD hb4 C3_0 C3_1 C3_2 C3_3 C3_4 C3_5 C3_6 C3_7 C3_8 C3_9 C3_10 C3_11
            go_upto_region 23 with fail
            have HQ := HQ0
            clear HQ0 HIT Hit Hb9 Ha Hb1 Ho Hbb HDn HDb mkx mtx zkx ztx hlen hvs
            have fb := D4.d.bad
            have HD5 : Hid (DB S M w.heap.size w ((setAll w4 w.heap.size 0 [.slice ao n cap, .bool true, .int .i64 it.txn.id, .int .i64 it.txn.ep, .string it.txn.anchor, .int .i64 it.txn.start.1, .int .i64 it.txn.start.2, .int .i64 it.seq, .int .i64 it.at_.1, .int .i64 it.at_.2, .string it.val, .bool it.gone]).drew) r11 b9 [.slice ao n cap, .bool true, .int .i64 it.txn.id, .int .i64 it.txn.ep, .string it.txn.anchor, .int .i64 it.txn.start.1, .int .i64 it.txn.start.2, .int .i64 it.seq, .int .i64 it.at_.1, .int .i64 it.at_.2, .string it.val, .bool it.gone] [.slice ao n cap, .bool true, .int .i64 it.txn.id, .int .i64 it.txn.ep, .string it.txn.anchor, .int .i64 it.txn.start.1, .int .i64 it.txn.start.2, .int .i64 it.seq, .int .i64 it.at_.1, .int .i64 it.at_.2, .string it.val, .bool it.gone] ao cap us ∧ Blk ((setAll w4 w.heap.size 0 [.slice ao n cap, .bool true, .int .i64 it.txn.id, .int .i64 it.txn.ep, .string it.txn.anchor, .int .i64 it.txn.start.1, .int .i64 it.txn.start.2, .int .i64 it.seq, .int .i64 it.at_.1, .int .i64 it.at_.2, .string it.val, .bool it.gone]).drew) w.heap.size [.slice ao n cap, .bool true, .int .i64 it.txn.id, .int .i64 it.txn.ep, .string it.txn.anchor, .int .i64 it.txn.start.1, .int .i64 it.txn.start.2, .int .i64 it.seq, .int .i64 it.at_.1, .int .i64 it.at_.2, .string it.val, .bool it.gone]) := by
              have q := (D4.setA g1 (Nat.le_refl _) [.slice ao n cap, .bool true, .int .i64 it.txn.id, .int .i64 it.txn.ep, .string it.txn.anchor, .int .i64 it.txn.start.1, .int .i64 it.txn.start.2, .int .i64 it.seq, .int .i64 it.at_.1, .int .i64 it.at_.2, .string it.val, .bool it.gone] rfl (by simp) (by simp)).later (Below.refl _ _).drew
              exact ⟨q, q.a⟩
            have C4 := D4.c
            have C4_0 := C4.c 0; have C4_1 := C4.c 1; have C4_2 := C4.c 2; have C4_3 := C4.c 3; have C4_4 := C4.c 4; have C4_5 := C4.c 5; have C4_6 := C4.c 6; have C4_7 := C4.c 7; have C4_8 := C4.c 8; have C4_9 := C4.c 9; have C4_10 := C4.c 10; have C4_11 := C4.c 11; simp only [List.getElem?_cons_zero, List.getElem?_cons_succ] at C4_0 C4_1 C4_2 C4_3 C4_4 C4_5 C4_6 C4_7 C4_8 C4_9 C4_10 C4_11
            have A4 := D4.a
            have A4_0 := A4.c 0; have A4_1 := A4.c 1; have A4_2 := A4.c 2; have A4_3 := A4.c 3; have A4_4 := A4.c 4; have A4_5 := A4.c 5; have A4_6 := A4.c 6; have A4_7 := A4.c 7; have A4_8 := A4.c 8; have A4_9 := A4.c 9; have A4_10 := A4.c 10; have A4_11 := A4.c 11; simp only [List.getElem?_cons_zero, List.getElem?_cons_succ] at A4_0 A4_1 A4_2 A4_3 A4_4 A4_5 A4_6 A4_7 A4_8 A4_9 A4_10 A4_11
            have A4f := A4.f
            clear C4 A4 D4
            go_region
            all_goals
              obtain ⟨D5, QA⟩ := unhide HD5
              generalize hq0 : World.drew (World.setCell (World.setCell (World.setCell (World.setCell (World.setCell (World.setCell (World.setCell (World.setCell (World.setCell (World.setCell (World.setCell (World.setCell w4 _ _) _ _) _ _) _ _) _ _) _ _) _ _) _ _) _ _) _ _) _ _) _ _) = w5 at *
              have hq : (setAll w4 w.heap.size 0 [.slice ao n cap, .bool true, .int .i64 it.txn.id, .int .i64 it.txn.ep, .string it.txn.anchor, .int .i64 it.txn.start.1, .int .i64 it.txn.start.2, .int .i64 it.seq, .int .i64 it.at_.1, .int .i64 it.at_.2, .string it.val, .bool it.gone]).drew = w5 := hq0
              rw [hq] at D5 QA
              clear hq hq0 HD5 fb A4f C4_0 A4_0 C4_1 A4_1 C4_2 A4_2 C4_3 A4_3 C4_4 A4_4 C4_5 A4_5 C4_6 A4_6 C4_7 A4_7 C4_8 A4_8 C4_9 A4_9 C4_10 A4_10 C4_11 A4_11
              simp only [Exit.then]
              (first | (rename_i hK; refine hK _ _ ?_; clear hK) | (rename_i hK x1; refine hK _ _ ?_; clear hK) | (rename_i hK x1 x2; refine hK _ _ ?_; clear hK) | (rename_i hK x1 x2 x3; refine hK _ _ ?_; clear hK))
              apply wp_ret
              refine bodyPost_ret (results_ce Tryz.results26 ao n cap true it rfl rfl QA) rfl ?_
              refine ⟨ao, cap, ⟨us, true, it⟩, false, r11, b9, ?_, D5.v.mono (by omega), D5.d, D5.t, unhide HQ _ (by simp)⟩
              show _ = Ending.returned (.tuple #[(.agg #[.slice ao us.length cap, .bool true, .int .i64 it.txn.id, .int .i64 it.txn.ep, .string it.txn.anchor, .int .i64 it.txn.start.1, .int .i64 it.txn.start.2, .int .i64 it.seq, .int .i64 it.at_.1, .int .i64 it.at_.2, .string it.val, .bool it.gone]), .bool false])
              rw [unhide Hn]
              rfl
          · cases vb
            · go_upto_region 22 with fail
              have G := unhide HG
              have XC := G.setC g1 (Nat.le_refl _) [.int .i64 (n1 : Int), .int .i64 (n2 : Int), .string kx, .int .i64 (s1 : Int), .int .i64 (s2 : Int), .int .i64 (n3 : Int), .int .i64 (u1 : Int), .int .i64 (u2 : Int), .string tx, .bool fg] 2 [.slice ao n cap, .bool true] [] [.int .i64 0, .int .i64 0, .string ⟨#[]⟩, .int .i64 0, .int .i64 0, .int .i64 0, .int .i64 0, .int .i64 0, .string ⟨#[]⟩, .bool false] rfl rfl rfl (by simp) (by simp)
              simp only [List.cons_append, List.nil_append, List.append_nil] at XC
              generalize hq0 : World.setCell (World.setCell (World.setCell (World.setCell (World.setCell (World.setCell (World.setCell (World.setCell (World.setCell (World.setCell z2 _ _) _ _) _ _) _ _) _ _) _ _) _ _) _ _) _ _) _ _ = w3 at *
              have hq : setAll z2 (w.heap.size + 1) 2 [.int .i64 (n1 : Int), .int .i64 (n2 : Int), .string kx, .int .i64 (s1 : Int), .int .i64 (s2 : Int), .int .i64 (n3 : Int), .int .i64 (u1 : Int), .int .i64 (u2 : Int), .string tx, .bool fg] = w3 := hq0
              rw [hq] at XC
              have D3 : DB S M w.heap.size w w3 r11 b9 [.slice none 0 0, .bool false, .int .i64 0, .int .i64 0, .string ⟨#[]⟩, .int .i64 0, .int .i64 0, .int .i64 0, .int .i64 0, .int .i64 0, .string ⟨#[]⟩, .bool false] [.slice ao n cap, .bool true, .int .i64 it.txn.id, .int .i64 it.txn.ep, .string it.txn.anchor, .int .i64 it.txn.start.1, .int .i64 it.txn.start.2, .int .i64 it.seq, .int .i64 it.at_.1, .int .i64 it.at_.2, .string it.val, .bool it.gone] ao cap us := by rw [unhide Hit]; exact XC.d
              clear hq hq0 XC G C9_0 C9_1 C9_2 C9_3 C9_4 C9_5 C9_6 C9_7 C9_8 C9_9 C9_10 C9_11 C9f I9_0 I9_1 I9_2 I9_3 I9_4 I9_5 I9_6 I9_7 I9_8 I9_9
              have C3 := D3.c
              have C3_0 := C3.c 0; have C3_1 := C3.c 1; have C3_2 := C3.c 2; have C3_3 := C3.c 3; have C3_4 := C3.c 4; have C3_5 := C3.c 5; have C3_6 := C3.c 6; have C3_7 := C3.c 7; have C3_8 := C3.c 8; have C3_9 := C3.c 9; have C3_10 := C3.c 10; have C3_11 := C3.c 11; simp only [List.getElem?_cons_zero, List.getElem?_cons_succ] at C3_0 C3_1 C3_2 C3_3 C3_4 C3_5 C3_6 C3_7 C3_8 C3_9 C3_10 C3_11
              have HR4 := HR3 w3 D3.v.vs
              clear HR3 C3
              have HDD := hide D3
              clear D3
              go_wp2_with fail
              refine HR4.mono ?_
              clear HR4
              rintro e w4 ⟨rfl, hb4⟩
              have D4 := (unhide HDD).later hb4
              clear HDD hb4 C3_0 C3_1 C3_2 C3_3 C3_4 C3_5 C3_6 C3_7 C3_8 C3_9 C3_10 C3_11
              go_upto_region 23 with fail
              have HQ := HQ0
              clear HQ0 HIT Hit Hb9 Ha Hb1 Ho Hbb HDn HDb mkx mtx zkx ztx hlen hvs
              have fb := D4.d.bad
              have HD5 : Hid (DB S M w.heap.size w ((setAll w4 w.heap.size 0 [.slice ao n cap, .bool true, .int .i64 it.txn.id, .int .i64 it.txn.ep, .string it.txn.anchor, .int .i64 it.txn.start.1, .int .i64 it.txn.start.2, .int .i64 it.seq, .int .i64 it.at_.1, .int .i64 it.at_.2, .string it.val, .bool it.gone]).drew) r11 b9 [.slice ao n cap, .bool true, .int .i64 it.txn.id, .int .i64 it.txn.ep, .string it.txn.anchor, .int .i64 it.txn.start.1, .int .i64 it.txn.start.2, .int .i64 it.seq, .int .i64 it.at_.1, .int .i64 it.at_.2, .string it.val, .bool it.gone] [.slice ao n cap, .bool true, .int .i64 it.txn.id, .int .i64 it.txn.ep, .string it.txn.anchor, .int .i64 it.txn.start.1, .int .i64 it.txn.start.2, .int .i64 it.seq, .int .i64 it.at_.1, .int .i64 it.at_.2, .string it.val, .bool it.gone] ao cap us ∧ Blk ((setAll w4 w.heap.size 0 [.slice ao n cap, .bool true, .int .i64 it.txn.id, .int .i64 it.txn.ep, .string it.txn.anchor, .int .i64 it.txn.start.1, .int .i64 it.txn.start.2, .int .i64 it.seq, .int .i64 it.at_.1, .int .i64 it.at_.2, .string it.val, .bool it.gone]).drew) w.heap.size [.slice ao n cap, .bool true, .int .i64 it.txn.id, .int .i64 it.txn.ep, .string it.txn.anchor, .int .i64 it.txn.start.1, .int .i64 it.txn.start.2, .int .i64 it.seq, .int .i64 it.at_.1, .int .i64 it.at_.2, .string it.val, .bool it.gone]) := by
                have q := (D4.setA g1 (Nat.le_refl _) [.slice ao n cap, .bool true, .int .i64 it.txn.id, .int .i64 it.txn.ep, .string it.txn.anchor, .int .i64 it.txn.start.1, .int .i64 it.txn.start.2, .int .i64 it.seq, .int .i64 it.at_.1, .int .i64 it.at_.2, .string it.val, .bool it.gone] rfl (by simp) (by simp)).later (Below.refl _ _).drew
                exact ⟨q, q.a⟩
              have C4 := D4.c
              have C4_0 := C4.c 0; have C4_1 := C4.c 1; have C4_2 := C4.c 2; have C4_3 := C4.c 3; have C4_4 := C4.c 4; have C4_5 := C4.c 5; have C4_6 := C4.c 6; have C4_7 := C4.c 7; have C4_8 := C4.c 8; have C4_9 := C4.c 9; have C4_10 := C4.c 10; have C4_11 := C4.c 11; simp only [List.getElem?_cons_zero, List.getElem?_cons_succ] at C4_0 C4_1 C4_2 C4_3 C4_4 C4_5 C4_6 C4_7 C4_8 C4_9 C4_10 C4_11
              have A4 := D4.a
              have A4_0 := A4.c 0; have A4_1 := A4.c 1; have A4_2 := A4.c 2; have A4_3 := A4.c 3; have A4_4 := A4.c 4; have A4_5 := A4.c 5; have A4_6 := A4.c 6; have A4_7 := A4.c 7; have A4_8 := A4.c 8; have A4_9 := A4.c 9; have A4_10 := A4.c 10; have A4_11 := A4.c 11; simp only [List.getElem?_cons_zero, List.getElem?_cons_succ] at A4_0 A4_1 A4_2 A4_3 A4_4 A4_5 A4_6 A4_7 A4_8 A4_9 A4_10 A4_11
              have A4f := A4.f
              clear C4 A4 D4
              go_region
              all_goals
                obtain ⟨D5, QA⟩ := unhide HD5
                generalize hq0 : World.drew (World.setCell (World.setCell (World.setCell (World.setCell (World.setCell (World.setCell (World.setCell (World.setCell (World.setCell (World.setCell (World.setCell (World.setCell w4 _ _) _ _) _ _) _ _) _ _) _ _) _ _) _ _) _ _) _ _) _ _) _ _) = w5 at *
                have hq : (setAll w4 w.heap.size 0 [.slice ao n cap, .bool true, .int .i64 it.txn.id, .int .i64 it.txn.ep, .string it.txn.anchor, .int .i64 it.txn.start.1, .int .i64 it.txn.start.2, .int .i64 it.seq, .int .i64 it.at_.1, .int .i64 it.at_.2, .string it.val, .bool it.gone]).drew = w5 := hq0
                rw [hq] at D5 QA
                clear hq hq0 HD5 fb A4f C4_0 A4_0 C4_1 A4_1 C4_2 A4_2 C4_3 A4_3 C4_4 A4_4 C4_5 A4_5 C4_6 A4_6 C4_7 A4_7 C4_8 A4_8 C4_9 A4_9 C4_10 A4_10 C4_11 A4_11
                simp only [Exit.then]
                (first | (rename_i hK; refine hK _ _ ?_; clear hK) | (rename_i hK x1; refine hK _ _ ?_; clear hK) | (rename_i hK x1 x2; refine hK _ _ ?_; clear hK) | (rename_i hK x1 x2 x3; refine hK _ _ ?_; clear hK))
                apply wp_ret
                refine bodyPost_ret (results_ce Tryz.results26 ao n cap true it rfl rfl QA) rfl ?_
                refine ⟨ao, cap, ⟨us, true, it⟩, false, r11, b9, ?_, D5.v.mono (by omega), D5.d, D5.t, unhide HQ _ (by simp)⟩
                show _ = Ending.returned (.tuple #[(.agg #[.slice ao us.length cap, .bool true, .int .i64 it.txn.id, .int .i64 it.txn.ep, .string it.txn.anchor, .int .i64 it.txn.start.1, .int .i64 it.txn.start.2, .int .i64 it.seq, .int .i64 it.at_.1, .int .i64 it.at_.2, .string it.val, .bool it.gone]), .bool false])
                rw [unhide Hn]
                rfl
            · go_upto_region 22 with fail
              have G := unhide HG
              have XC := G.setC g1 (Nat.le_refl _) [.int .i64 (n1 : Int), .int .i64 (n2 : Int), .string kx, .int .i64 (s1 : Int), .int .i64 (s2 : Int), .int .i64 (n3 : Int), .int .i64 (u1 : Int), .int .i64 (u2 : Int), .string tx, .bool fg] 2 [.slice ao n cap, .bool true] [] [.int .i64 0, .int .i64 0, .string ⟨#[]⟩, .int .i64 0, .int .i64 0, .int .i64 0, .int .i64 0, .int .i64 0, .string ⟨#[]⟩, .bool false] rfl rfl rfl (by simp) (by simp)
              simp only [List.cons_append, List.nil_append, List.append_nil] at XC
              generalize hq0 : World.setCell (World.setCell (World.setCell (World.setCell (World.setCell (World.setCell (World.setCell (World.setCell (World.setCell (World.setCell z2 _ _) _ _) _ _) _ _) _ _) _ _) _ _) _ _) _ _) _ _ = w3 at *
              have hq : setAll z2 (w.heap.size + 1) 2 [.int .i64 (n1 : Int), .int .i64 (n2 : Int), .string kx, .int .i64 (s1 : Int), .int .i64 (s2 : Int), .int .i64 (n3 : Int), .int .i64 (u1 : Int), .int .i64 (u2 : Int), .string tx, .bool fg] = w3 := hq0
              rw [hq] at XC
              have D3 : DB S M w.heap.size w w3 r11 b9 [.slice none 0 0, .bool false, .int .i64 0, .int .i64 0, .string ⟨#[]⟩, .int .i64 0, .int .i64 0, .int .i64 0, .int .i64 0, .int .i64 0, .string ⟨#[]⟩, .bool false] [.slice ao n cap, .bool true, .int .i64 it.txn.id, .int .i64 it.txn.ep, .string it.txn.anchor, .int .i64 it.txn.start.1, .int .i64 it.txn.start.2, .int .i64 it.seq, .int .i64 it.at_.1, .int .i64 it.at_.2, .string it.val, .bool it.gone] ao cap us := by rw [unhide Hit]; exact XC.d
              clear hq hq0 XC G C9_0 C9_1 C9_2 C9_3 C9_4 C9_5 C9_6 C9_7 C9_8 C9_9 C9_10 C9_11 C9f I9_0 I9_1 I9_2 I9_3 I9_4 I9_5 I9_6 I9_7 I9_8 I9_9
              have C3 := D3.c
              have C3_0 := C3.c 0; have C3_1 := C3.c 1; have C3_2 := C3.c 2; have C3_3 := C3.c 3; have C3_4 := C3.c 4; have C3_5 := C3.c 5; have C3_6 := C3.c 6; have C3_7 := C3.c 7; have C3_8 := C3.c 8; have C3_9 := C3.c 9; have C3_10 := C3.c 10; have C3_11 := C3.c 11; simp only [List.getElem?_cons_zero, List.getElem?_cons_succ] at C3_0 C3_1 C3_2 C3_3 C3_4 C3_5 C3_6 C3_7 C3_8 C3_9 C3_10 C3_11
              have HR4 := HR3 w3 D3.v.vs
              clear HR3 C3
              have HDD := hide D3
              clear D3
              go_wp2_with fail
              refine HR4.mono ?_
              clear HR4
              rintro e w4 ⟨rfl, hb4⟩
              have D4 := (unhide HDD).later hb4
              clear HDD hb4 C3_0 C3_1 C3_2 C3_3 C3_4 C3_5 C3_6 C3_7 C3_8 C3_9 C3_10 C3_11
              go_upto_region 23 with fail
              have HQ := HQ0
              clear HQ0 HIT Hit Hb9 Ha Hb1 Ho Hbb HDn HDb mkx mtx zkx ztx hlen hvs
              have fb := D4.d.bad
              have HD5 : Hid (DB S M w.heap.size w ((setAll w4 w.heap.size 0 [.slice ao n cap, .bool true, .int .i64 it.txn.id, .int .i64 it.txn.ep, .string it.txn.anchor, .int .i64 it.txn.start.1, .int .i64 it.txn.start.2, .int .i64 it.seq, .int .i64 it.at_.1, .int .i64 it.at_.2, .string it.val, .bool it.gone]).drew) r11 b9 [.slice ao n cap, .bool true, .int .i64 it.txn.id, .int .i64 it.txn.ep, .string it.txn.anchor, .int .i64 it.txn.start.1, .int .i64 it.txn.start.2, .int .i64 it.seq, .int .i64 it.at_.1, .int .i64 it.at_.2, .string it.val, .bool it.gone] [.slice ao n cap, .bool true, .int .i64 it.txn.id, .int .i64 it.txn.ep, .string it.txn.anchor, .int .i64 it.txn.start.1, .int .i64 it.txn.start.2, .int .i64 it.seq, .int .i64 it.at_.1, .int .i64 it.at_.2, .string it.val, .bool it.gone] ao cap us ∧ Blk ((setAll w4 w.heap.size 0 [.slice ao n cap, .bool true, .int .i64 it.txn.id, .int .i64 it.txn.ep, .string it.txn.anchor, .int .i64 it.txn.start.1, .int .i64 it.txn.start.2, .int .i64 it.seq, .int .i64 it.at_.1, .int .i64 it.at_.2, .string it.val, .bool it.gone]).drew) w.heap.size [.slice ao n cap, .bool true, .int .i64 it.txn.id, .int .i64 it.txn.ep, .string it.txn.anchor, .int .i64 it.txn.start.1, .int .i64 it.txn.start.2, .int .i64 it.seq, .int .i64 it.at_.1, .int .i64 it.at_.2, .string it.val, .bool it.gone]) := by
                have q := (D4.setA g1 (Nat.le_refl _) [.slice ao n cap, .bool true, .int .i64 it.txn.id, .int .i64 it.txn.ep, .string it.txn.anchor, .int .i64 it.txn.start.1, .int .i64 it.txn.start.2, .int .i64 it.seq, .int .i64 it.at_.1, .int .i64 it.at_.2, .string it.val, .bool it.gone] rfl (by simp) (by simp)).later (Below.refl _ _).drew
                exact ⟨q, q.a⟩
              have C4 := D4.c
              have C4_0 := C4.c 0; have C4_1 := C4.c 1; have C4_2 := C4.c 2; have C4_3 := C4.c 3; have C4_4 := C4.c 4; have C4_5 := C4.c 5; have C4_6 := C4.c 6; have C4_7 := C4.c 7; have C4_8 := C4.c 8; have C4_9 := C4.c 9; have C4_10 := C4.c 10; have C4_11 := C4.c 11; simp only [List.getElem?_cons_zero, List.getElem?_cons_succ] at C4_0 C4_1 C4_2 C4_3 C4_4 C4_5 C4_6 C4_7 C4_8 C4_9 C4_10 C4_11
              have A4 := D4.a
              have A4_0 := A4.c 0; have A4_1 := A4.c 1; have A4_2 := A4.c 2; have A4_3 := A4.c 3; have A4_4 := A4.c 4; have A4_5 := A4.c 5; have A4_6 := A4.c 6; have A4_7 := A4.c 7; have A4_8 := A4.c 8; have A4_9 := A4.c 9; have A4_10 := A4.c 10; have A4_11 := A4.c 11; simp only [List.getElem?_cons_zero, List.getElem?_cons_succ] at A4_0 A4_1 A4_2 A4_3 A4_4 A4_5 A4_6 A4_7 A4_8 A4_9 A4_10 A4_11
              have A4f := A4.f
              clear C4 A4 D4
              cases kb
              · go_region
                all_goals
                  obtain ⟨D5, QA⟩ := unhide HD5
                  generalize hq0 : World.drew (World.setCell (World.setCell (World.setCell (World.setCell (World.setCell (World.setCell (World.setCell (World.setCell (World.setCell (World.setCell (World.setCell (World.setCell w4 _ _) _ _) _ _) _ _) _ _) _ _) _ _) _ _) _ _) _ _) _ _) _ _) = w5 at *
                  have hq : (setAll w4 w.heap.size 0 [.slice ao n cap, .bool true, .int .i64 it.txn.id, .int .i64 it.txn.ep, .string it.txn.anchor, .int .i64 it.txn.start.1, .int .i64 it.txn.start.2, .int .i64 it.seq, .int .i64 it.at_.1, .int .i64 it.at_.2, .string it.val, .bool it.gone]).drew = w5 := hq0
                  rw [hq] at D5 QA
                  clear hq hq0 HD5 fb A4f C4_0 A4_0 C4_1 A4_1 C4_2 A4_2 C4_3 A4_3 C4_4 A4_4 C4_5 A4_5 C4_6 A4_6 C4_7 A4_7 C4_8 A4_8 C4_9 A4_9 C4_10 A4_10 C4_11 A4_11
                  simp only [Exit.then]
                  (first | (rename_i hK; refine hK _ _ ?_; clear hK) | (rename_i hK x1; refine hK _ _ ?_; clear hK) | (rename_i hK x1 x2; refine hK _ _ ?_; clear hK) | (rename_i hK x1 x2 x3; refine hK _ _ ?_; clear hK))
                  apply wp_ret
                  refine bodyPost_ret (results_ce Tryz.results26 ao n cap true it rfl rfl QA) rfl ?_
                  refine ⟨ao, cap, ⟨us, true, it⟩, false, r11, b9, ?_, D5.v.mono (by omega), D5.d, D5.t, unhide HQ _ (by simp)⟩
                  show _ = Ending.returned (.tuple #[(.agg #[.slice ao us.length cap, .bool true, .int .i64 it.txn.id, .int .i64 it.txn.ep, .string it.txn.anchor, .int .i64 it.txn.start.1, .int .i64 it.txn.start.2, .int .i64 it.seq, .int .i64 it.at_.1, .int .i64 it.at_.2, .string it.val, .bool it.gone]), .bool false])
                  rw [unhide Hn]
                  rfl
              · cases rb
                · go_region
                  all_goals
                    obtain ⟨D5, QA⟩ := unhide HD5
                    generalize hq0 : World.drew (World.setCell (World.setCell (World.setCell (World.setCell (World.setCell (World.setCell (World.setCell (World.setCell (World.setCell (World.setCell (World.setCell (World.setCell w4 _ _) _ _) _ _) _ _) _ _) _ _) _ _) _ _) _ _) _ _) _ _) _ _) = w5 at *
                    have hq : (setAll w4 w.heap.size 0 [.slice ao n cap, .bool true, .int .i64 it.txn.id, .int .i64 it.txn.ep, .string it.txn.anchor, .int .i64 it.txn.start.1, .int .i64 it.txn.start.2, .int .i64 it.seq, .int .i64 it.at_.1, .int .i64 it.at_.2, .string it.val, .bool it.gone]).drew = w5 := hq0
                    rw [hq] at D5 QA
                    clear hq hq0 HD5 fb A4f C4_0 A4_0 C4_1 A4_1 C4_2 A4_2 C4_3 A4_3 C4_4 A4_4 C4_5 A4_5 C4_6 A4_6 C4_7 A4_7 C4_8 A4_8 C4_9 A4_9 C4_10 A4_10 C4_11 A4_11
                    simp only [Exit.then]
                    (first | (rename_i hK; refine hK _ _ ?_; clear hK) | (rename_i hK x1; refine hK _ _ ?_; clear hK) | (rename_i hK x1 x2; refine hK _ _ ?_; clear hK) | (rename_i hK x1 x2 x3; refine hK _ _ ?_; clear hK))
                    apply wp_ret
                    refine bodyPost_ret (results_ce Tryz.results26 ao n cap true it rfl rfl QA) rfl ?_
                    refine ⟨ao, cap, ⟨us, true, it⟩, false, r11, b9, ?_, D5.v.mono (by omega), D5.d, D5.t, unhide HQ _ (by simp)⟩
                    show _ = Ending.returned (.tuple #[(.agg #[.slice ao us.length cap, .bool true, .int .i64 it.txn.id, .int .i64 it.txn.ep, .string it.txn.anchor, .int .i64 it.txn.start.1, .int .i64 it.txn.start.2, .int .i64 it.seq, .int .i64 it.at_.1, .int .i64 it.at_.2, .string it.val, .bool it.gone]), .bool false])
                    rw [unhide Hn]
                    rfl
                · cases b9
                  · by_cases h0 : 0 < a1
                    · have h0i : (0 : Int) < (a1 : Int) := by omega
                      go_region
                      all_goals
                        obtain ⟨D5, QA⟩ := unhide HD5
                        generalize hq0 : World.drew (World.setCell (World.setCell (World.setCell (World.setCell (World.setCell (World.setCell (World.setCell (World.setCell (World.setCell (World.setCell (World.setCell (World.setCell w4 _ _) _ _) _ _) _ _) _ _) _ _) _ _) _ _) _ _) _ _) _ _) _ _) = w5 at *
                        have hq : (setAll w4 w.heap.size 0 [.slice ao n cap, .bool true, .int .i64 it.txn.id, .int .i64 it.txn.ep, .string it.txn.anchor, .int .i64 it.txn.start.1, .int .i64 it.txn.start.2, .int .i64 it.seq, .int .i64 it.at_.1, .int .i64 it.at_.2, .string it.val, .bool it.gone]).drew = w5 := hq0
                        rw [hq] at D5 QA
                        clear hq hq0 HD5 fb A4f C4_0 A4_0 C4_1 A4_1 C4_2 A4_2 C4_3 A4_3 C4_4 A4_4 C4_5 A4_5 C4_6 A4_6 C4_7 A4_7 C4_8 A4_8 C4_9 A4_9 C4_10 A4_10 C4_11 A4_11
                        simp only [Exit.then]
                        (first | (rename_i hK; refine hK _ _ ?_; clear hK) | (rename_i hK x1; refine hK _ _ ?_; clear hK) | (rename_i hK x1 x2; refine hK _ _ ?_; clear hK) | (rename_i hK x1 x2 x3; refine hK _ _ ?_; clear hK))
                        apply wp_ret
                        refine bodyPost_ret (results_ce Tryz.results26 ao n cap true it rfl rfl QA) rfl ?_
                        refine ⟨ao, cap, ⟨us, true, it⟩, true, r11, false, ?_, D5.v.mono (by omega), D5.d, D5.t, unhide HQ _ (by simp)⟩
                        show _ = Ending.returned (.tuple #[(.agg #[.slice ao us.length cap, .bool true, .int .i64 it.txn.id, .int .i64 it.txn.ep, .string it.txn.anchor, .int .i64 it.txn.start.1, .int .i64 it.txn.start.2, .int .i64 it.seq, .int .i64 it.at_.1, .int .i64 it.at_.2, .string it.val, .bool it.gone]), .bool true])
                        rw [unhide Hn]
                        rfl
                    · have h0i : ¬ (0 : Int) < (a1 : Int) := by omega
                      have nM : ¬ w.heap.size = M := by omega
                      go_region_held (fun y => y.cell? ⟨M, 2, none⟩ = some (.bool false) ∧ y.cell? ⟨w.heap.size + 1, 0, none⟩ = some (.slice ao n cap) ∧ y.cell? ⟨w.heap.size + 1, 1, none⟩ = some (.bool true) ∧ y.cell? ⟨w.heap.size + 1, 2, none⟩ = some (.int .i64 it.txn.id) ∧ y.cell? ⟨w.heap.size + 1, 3, none⟩ = some (.int .i64 it.txn.ep) ∧ y.cell? ⟨w.heap.size + 1, 4, none⟩ = some (.string it.txn.anchor) ∧ y.cell? ⟨w.heap.size + 1, 5, none⟩ = some (.int .i64 it.txn.start.1) ∧ y.cell? ⟨w.heap.size + 1, 6, none⟩ = some (.int .i64 it.txn.start.2) ∧ y.cell? ⟨w.heap.size + 1, 7, none⟩ = some (.int .i64 it.seq) ∧ y.cell? ⟨w.heap.size + 1, 8, none⟩ = some (.int .i64 it.at_.1) ∧ y.cell? ⟨w.heap.size + 1, 9, none⟩ = some (.int .i64 it.at_.2) ∧ y.cell? ⟨w.heap.size + 1, 10, none⟩ = some (.string it.val) ∧ y.cell? ⟨w.heap.size + 1, 11, none⟩ = some (.bool it.gone)) (go_keep) (fail)
                      all_goals
                        obtain ⟨D5, QA⟩ := unhide HD5
                        generalize hq0 : World.drew (World.setCell (World.setCell (World.setCell (World.setCell (World.setCell (World.setCell (World.setCell (World.setCell (World.setCell (World.setCell (World.setCell (World.setCell w4 _ _) _ _) _ _) _ _) _ _) _ _) _ _) _ _) _ _) _ _) _ _) _ _) = w5 at *
                        have hq : (setAll w4 w.heap.size 0 [.slice ao n cap, .bool true, .int .i64 it.txn.id, .int .i64 it.txn.ep, .string it.txn.anchor, .int .i64 it.txn.start.1, .int .i64 it.txn.start.2, .int .i64 it.seq, .int .i64 it.at_.1, .int .i64 it.at_.2, .string it.val, .bool it.gone]).drew = w5 := hq0
                        rw [hq] at D5 QA
                        clear hq hq0 HD5 fb A4f C4_0 A4_0 C4_1 A4_1 C4_2 A4_2 C4_3 A4_3 C4_4 A4_4 C4_5 A4_5 C4_6 A4_6 C4_7 A4_7 C4_8 A4_8 C4_9 A4_9 C4_10 A4_10 C4_11 A4_11
                        simp only [Exit.then]
                        (first | (rename_i hK; refine hK _ _ ?_; clear hK) | (rename_i hK x1; refine hK _ _ ?_; clear hK) | (rename_i hK x1 x2; refine hK _ _ ?_; clear hK) | (rename_i hK x1 x2 x3; refine hK _ _ ?_; clear hK))
                        apply wp_ret
                        refine bodyPost_ret (results_ce Tryz.results26 ao n cap true it rfl rfl QA) rfl ?_
                        refine ⟨ao, cap, ⟨us, true, it⟩, true, r11, false, ?_, D5.v.mono (by omega), D5.d, D5.t, unhide HQ _ (by simp)⟩
                        show _ = Ending.returned (.tuple #[(.agg #[.slice ao us.length cap, .bool true, .int .i64 it.txn.id, .int .i64 it.txn.ep, .string it.txn.anchor, .int .i64 it.txn.start.1, .int .i64 it.txn.start.2, .int .i64 it.seq, .int .i64 it.at_.1, .int .i64 it.at_.2, .string it.val, .bool it.gone]), .bool true])
                        rw [unhide Hn]
                        rfl
                  · go_region
                    all_goals
                      obtain ⟨D5, QA⟩ := unhide HD5
                      generalize hq0 : World.drew (World.setCell (World.setCell (World.setCell (World.setCell (World.setCell (World.setCell (World.setCell (World.setCell (World.setCell (World.setCell (World.setCell (World.setCell w4 _ _) _ _) _ _) _ _) _ _) _ _) _ _) _ _) _ _) _ _) _ _) _ _) = w5 at *
                      have hq : (setAll w4 w.heap.size 0 [.slice ao n cap, .bool true, .int .i64 it.txn.id, .int .i64 it.txn.ep, .string it.txn.anchor, .int .i64 it.txn.start.1, .int .i64 it.txn.start.2, .int .i64 it.seq, .int .i64 it.at_.1, .int .i64 it.at_.2, .string it.val, .bool it.gone]).drew = w5 := hq0
                      rw [hq] at D5 QA
                      clear hq hq0 HD5 fb A4f C4_0 A4_0 C4_1 A4_1 C4_2 A4_2 C4_3 A4_3 C4_4 A4_4 C4_5 A4_5 C4_6 A4_6 C4_7 A4_7 C4_8 A4_8 C4_9 A4_9 C4_10 A4_10 C4_11 A4_11
                      simp only [Exit.then]
                      (first | (rename_i hK; refine hK _ _ ?_; clear hK) | (rename_i hK x1; refine hK _ _ ?_; clear hK) | (rename_i hK x1 x2; refine hK _ _ ?_; clear hK) | (rename_i hK x1 x2 x3; refine hK _ _ ?_; clear hK))
                      apply wp_ret
                      refine bodyPost_ret (results_ce Tryz.results26 ao n cap true it rfl rfl QA) rfl ?_
                      refine ⟨ao, cap, ⟨us, true, it⟩, false, r11, true, ?_, D5.v.mono (by omega), D5.d, D5.t, unhide HQ _ (by simp)⟩
                      show _ = Ending.returned (.tuple #[(.agg #[.slice ao us.length cap, .bool true, .int .i64 it.txn.id, .int .i64 it.txn.ep, .string it.txn.anchor, .int .i64 it.txn.start.1, .int .i64 it.txn.start.2, .int .i64 it.seq, .int .i64 it.at_.1, .int .i64 it.at_.2, .string it.val, .bool it.gone]), .bool false])
                      rw [unhide Hn]
                      rfl
    · have hki : ¬ (k : Int) < (a1 : Int) := by omega
      have hex : a1 ≤ k ∨ bad = true := .inl (by omega)
      have CF := fun w' h => df_any S M r bad w' h
      obtain ⟨o1, oe, r3, ho⟩ : ∃ o1 oe r3, P1.rdF r = (o1, oe, r3) := ⟨_, _, _, rfl⟩
      simp only [ho] at CF
      obtain ⟨bb, hbb⟩ : ∃ bb, (bad || oe != 0) = bb := ⟨_, rfl⟩
      simp only [hbb] at CF
      have Ho := hide ho
      have Hbb := hide hbb
      have hJ := unhide HJ
      obtain ⟨n, hn⟩ : ∃ n, us.length = n := ⟨_, rfl⟩
      have hlen := hJ.2.1
      have HDn := hide (hJ.done hex)
      have HDb := hide hJ.2.2.2
      have Hn := hide hn
      rw [hn] at D
      clear hJ HJ ho hn hex hbb
      have hd := D.d
      go_wp2_with fail
      refine (CF _ hd).mono ?_
      clear CF hd
      rintro e w2 ⟨rfl, hd, ht⟩
      have D2 := D.read g1 hd ht
      clear D hd ht
      have C2 := D2.c
      have C2_0 := C2.c 0; have C2_1 := C2.c 1; have C2_2 := C2.c 2; have C2_3 := C2.c 3; have C2_4 := C2.c 4; have C2_5 := C2.c 5; have C2_6 := C2.c 6; have C2_7 := C2.c 7; have C2_8 := C2.c 8; have C2_9 := C2.c 9; have C2_10 := C2.c 10; have C2_11 := C2.c 11; simp only [List.getElem?_cons_zero, List.getElem?_cons_succ] at C2_0 C2_1 C2_2 C2_3 C2_4 C2_5 C2_6 C2_7 C2_8 C2_9 C2_10 C2_11
      have C2f := C2.f
      clear C2
      have D3 : DB S M w.heap.size w (w2.setCell ⟨w.heap.size + 1, 1, none⟩ (.bool o1)) r3 _ _ ([.slice ao n cap] ++ [.bool o1] ++ [.int .i64 0, .int .i64 0, .string ⟨#[]⟩, .int .i64 0, .int .i64 0, .int .i64 0, .int .i64 0, .int .i64 0, .string ⟨#[]⟩, .bool false]) ao cap us :=
        D2.setC g1 (Nat.le_refl _) [.bool o1] 1 [.slice ao n cap] [.int .i64 0, .int .i64 0, .string ⟨#[]⟩, .int .i64 0, .int .i64 0, .int .i64 0, .int .i64 0, .int .i64 0, .string ⟨#[]⟩, .bool false] [.bool false] rfl rfl rfl (by simp) (by simp)
      simp only [List.cons_append, List.nil_append] at D3
      clear D2
      have HR := fun w' i h => refright_c ao cap us o1 i w' h
      simp only [unhide Hn] at HR
      cases o1
      · go_upto_region 22 with fail
        generalize w2.setCell _ _ = w3 at *
        clear C2_0 C2_1 C2_2 C2_3 C2_4 C2_5 C2_6 C2_7 C2_8 C2_9 C2_10 C2_11 C2f
        have C3 := D3.c
        have C3_0 := C3.c 0; have C3_1 := C3.c 1; have C3_2 := C3.c 2; have C3_3 := C3.c 3; have C3_4 := C3.c 4; have C3_5 := C3.c 5; have C3_6 := C3.c 6; have C3_7 := C3.c 7; have C3_8 := C3.c 8; have C3_9 := C3.c 9; have C3_10 := C3.c 10; have C3_11 := C3.c 11; simp only [List.getElem?_cons_zero, List.getElem?_cons_succ] at C3_0 C3_1 C3_2 C3_3 C3_4 C3_5 C3_6 C3_7 C3_8 C3_9 C3_10 C3_11
        have HR3 := HR w3 Itn.zero D3.v.vs
        obtain ⟨rb, hrb⟩ : ∃ rb, rightCB ⟨us, false, Itn.zero⟩ = rb := ⟨_, rfl⟩
        simp only [hrb] at HR3
        have HQ : Hid (∀ ok, ok = (good && rb && !bb && decide (0 < a1)) → DchR bad0 q0 ⟨us, false, Itn.zero⟩ ok r3 bb) := fun ok hok => by
          have q := DchR.closed (bad0 := bad0) (bad := bad) (good := good) (unhide Ha) (by rw [unhide Hb1]; exact unhide HDn) (fun h => by first | rfl | exact unhide HDb (by rw [← unhide Hb1]; exact h)) (unhide Ho) (ok := ok) (by rw [hrb, unhide Hbb]; exact hok)
          rw [unhide Hbb] at q
          exact q
        have HDD := hide D3
        clear D3 C3 HR hrb
        go_wp2_with fail
        refine HR3.mono ?_
        clear HR3
        rintro e w4 ⟨rfl, hb4⟩
        have D4 := (unhide HDD).later hb4
        clear HDD hb4 C3_0 C3_1 C3_2 C3_3 C3_4 C3_5 C3_6 C3_7 C3_8 C3_9 C3_10 C3_11
        go_upto_region 23 with fail
        have fb := D4.d.bad
        have HD5 : Hid (DB S M w.heap.size w ((setAll w4 w.heap.size 0 [.slice ao n cap, .bool false, .int .i64 Itn.zero.txn.id, .int .i64 Itn.zero.txn.ep, .string Itn.zero.txn.anchor, .int .i64 Itn.zero.txn.start.1, .int .i64 Itn.zero.txn.start.2, .int .i64 Itn.zero.seq, .int .i64 Itn.zero.at_.1, .int .i64 Itn.zero.at_.2, .string Itn.zero.val, .bool Itn.zero.gone]).drew) r3 bb [.slice ao n cap, .bool false, .int .i64 Itn.zero.txn.id, .int .i64 Itn.zero.txn.ep, .string Itn.zero.txn.anchor, .int .i64 Itn.zero.txn.start.1, .int .i64 Itn.zero.txn.start.2, .int .i64 Itn.zero.seq, .int .i64 Itn.zero.at_.1, .int .i64 Itn.zero.at_.2, .string Itn.zero.val, .bool Itn.zero.gone] [.slice ao n cap, .bool false, .int .i64 Itn.zero.txn.id, .int .i64 Itn.zero.txn.ep, .string Itn.zero.txn.anchor, .int .i64 Itn.zero.txn.start.1, .int .i64 Itn.zero.txn.start.2, .int .i64 Itn.zero.seq, .int .i64 Itn.zero.at_.1, .int .i64 Itn.zero.at_.2, .string Itn.zero.val, .bool Itn.zero.gone] ao cap us ∧ Blk ((setAll w4 w.heap.size 0 [.slice ao n cap, .bool false, .int .i64 Itn.zero.txn.id, .int .i64 Itn.zero.txn.ep, .string Itn.zero.txn.anchor, .int .i64 Itn.zero.txn.start.1, .int .i64 Itn.zero.txn.start.2, .int .i64 Itn.zero.seq, .int .i64 Itn.zero.at_.1, .int .i64 Itn.zero.at_.2, .string Itn.zero.val, .bool Itn.zero.gone]).drew) w.heap.size [.slice ao n cap, .bool false, .int .i64 Itn.zero.txn.id, .int .i64 Itn.zero.txn.ep, .string Itn.zero.txn.anchor, .int .i64 Itn.zero.txn.start.1, .int .i64 Itn.zero.txn.start.2, .int .i64 Itn.zero.seq, .int .i64 Itn.zero.at_.1, .int .i64 Itn.zero.at_.2, .string Itn.zero.val, .bool Itn.zero.gone]) := by
          have q := (D4.setA g1 (Nat.le_refl _) [.slice ao n cap, .bool false, .int .i64 Itn.zero.txn.id, .int .i64 Itn.zero.txn.ep, .string Itn.zero.txn.anchor, .int .i64 Itn.zero.txn.start.1, .int .i64 Itn.zero.txn.start.2, .int .i64 Itn.zero.seq, .int .i64 Itn.zero.at_.1, .int .i64 Itn.zero.at_.2, .string Itn.zero.val, .bool Itn.zero.gone] rfl (by simp) (by simp)).later (Below.refl _ _).drew
          exact ⟨q, q.a⟩
        have C4 := D4.c
        have C4_0 := C4.c 0; have C4_1 := C4.c 1; have C4_2 := C4.c 2; have C4_3 := C4.c 3; have C4_4 := C4.c 4; have C4_5 := C4.c 5; have C4_6 := C4.c 6; have C4_7 := C4.c 7; have C4_8 := C4.c 8; have C4_9 := C4.c 9; have C4_10 := C4.c 10; have C4_11 := C4.c 11; simp only [List.getElem?_cons_zero, List.getElem?_cons_succ] at C4_0 C4_1 C4_2 C4_3 C4_4 C4_5 C4_6 C4_7 C4_8 C4_9 C4_10 C4_11
        have A4 := D4.a
        have A4_0 := A4.c 0; have A4_1 := A4.c 1; have A4_2 := A4.c 2; have A4_3 := A4.c 3; have A4_4 := A4.c 4; have A4_5 := A4.c 5; have A4_6 := A4.c 6; have A4_7 := A4.c 7; have A4_8 := A4.c 8; have A4_9 := A4.c 9; have A4_10 := A4.c 10; have A4_11 := A4.c 11; simp only [List.getElem?_cons_zero, List.getElem?_cons_succ] at A4_0 A4_1 A4_2 A4_3 A4_4 A4_5 A4_6 A4_7 A4_8 A4_9 A4_10 A4_11
        have A4f := A4.f
        clear C4 A4 D4
        cases good
        · go_region
          all_goals
            obtain ⟨D5, QA⟩ := unhide HD5
            generalize hq0 : World.drew (World.setCell (World.setCell (World.setCell (World.setCell (World.setCell (World.setCell (World.setCell (World.setCell (World.setCell (World.setCell (World.setCell (World.setCell w4 _ _) _ _) _ _) _ _) _ _) _ _) _ _) _ _) _ _) _ _) _ _) _ _) = w5 at *
            have hq : (setAll w4 w.heap.size 0 [.slice ao n cap, .bool false, .int .i64 Itn.zero.txn.id, .int .i64 Itn.zero.txn.ep, .string Itn.zero.txn.anchor, .int .i64 Itn.zero.txn.start.1, .int .i64 Itn.zero.txn.start.2, .int .i64 Itn.zero.seq, .int .i64 Itn.zero.at_.1, .int .i64 Itn.zero.at_.2, .string Itn.zero.val, .bool Itn.zero.gone]).drew = w5 := hq0
            rw [hq] at D5 QA
            clear hq hq0 HD5 fb A4f C4_0 A4_0 C4_1 A4_1 C4_2 A4_2 C4_3 A4_3 C4_4 A4_4 C4_5 A4_5 C4_6 A4_6 C4_7 A4_7 C4_8 A4_8 C4_9 A4_9 C4_10 A4_10 C4_11 A4_11
            simp only [Exit.then]
            (first | (rename_i hK; refine hK _ _ ?_; clear hK) | (rename_i hK x1; refine hK _ _ ?_; clear hK) | (rename_i hK x1 x2; refine hK _ _ ?_; clear hK) | (rename_i hK x1 x2 x3; refine hK _ _ ?_; clear hK))
            apply wp_ret
            refine bodyPost_ret (results_ce Tryz.results26 ao n cap false Itn.zero rfl rfl QA) rfl ?_
            refine ⟨ao, cap, ⟨us, false, Itn.zero⟩, false, r3, bb, ?_, D5.v.mono (by omega), D5.d, D5.t, unhide HQ _ (by simp)⟩
            show _ = Ending.returned (.tuple #[(.agg #[.slice ao us.length cap, .bool false, .int .i64 Itn.zero.txn.id, .int .i64 Itn.zero.txn.ep, .string Itn.zero.txn.anchor, .int .i64 Itn.zero.txn.start.1, .int .i64 Itn.zero.txn.start.2, .int .i64 Itn.zero.seq, .int .i64 Itn.zero.at_.1, .int .i64 Itn.zero.at_.2, .string Itn.zero.val, .bool Itn.zero.gone]), .bool false])
            rw [unhide Hn]
            rfl
        · cases rb
          · go_region
            all_goals
              obtain ⟨D5, QA⟩ := unhide HD5
              generalize hq0 : World.drew (World.setCell (World.setCell (World.setCell (World.setCell (World.setCell (World.setCell (World.setCell (World.setCell (World.setCell (World.setCell (World.setCell (World.setCell w4 _ _) _ _) _ _) _ _) _ _) _ _) _ _) _ _) _ _) _ _) _ _) _ _) = w5 at *
              have hq : (setAll w4 w.heap.size 0 [.slice ao n cap, .bool false, .int .i64 Itn.zero.txn.id, .int .i64 Itn.zero.txn.ep, .string Itn.zero.txn.anchor, .int .i64 Itn.zero.txn.start.1, .int .i64 Itn.zero.txn.start.2, .int .i64 Itn.zero.seq, .int .i64 Itn.zero.at_.1, .int .i64 Itn.zero.at_.2, .string Itn.zero.val, .bool Itn.zero.gone]).drew = w5 := hq0
              rw [hq] at D5 QA
              clear hq hq0 HD5 fb A4f C4_0 A4_0 C4_1 A4_1 C4_2 A4_2 C4_3 A4_3 C4_4 A4_4 C4_5 A4_5 C4_6 A4_6 C4_7 A4_7 C4_8 A4_8 C4_9 A4_9 C4_10 A4_10 C4_11 A4_11
              simp only [Exit.then]
              (first | (rename_i hK; refine hK _ _ ?_; clear hK) | (rename_i hK x1; refine hK _ _ ?_; clear hK) | (rename_i hK x1 x2; refine hK _ _ ?_; clear hK) | (rename_i hK x1 x2 x3; refine hK _ _ ?_; clear hK))
              apply wp_ret
              refine bodyPost_ret (results_ce Tryz.results26 ao n cap false Itn.zero rfl rfl QA) rfl ?_
              refine ⟨ao, cap, ⟨us, false, Itn.zero⟩, false, r3, bb, ?_, D5.v.mono (by omega), D5.d, D5.t, unhide HQ _ (by simp)⟩
              show _ = Ending.returned (.tuple #[(.agg #[.slice ao us.length cap, .bool false, .int .i64 Itn.zero.txn.id, .int .i64 Itn.zero.txn.ep, .string Itn.zero.txn.anchor, .int .i64 Itn.zero.txn.start.1, .int .i64 Itn.zero.txn.start.2, .int .i64 Itn.zero.seq, .int .i64 Itn.zero.at_.1, .int .i64 Itn.zero.at_.2, .string Itn.zero.val, .bool Itn.zero.gone]), .bool false])
              rw [unhide Hn]
              rfl
          · cases bb
            · by_cases h0 : 0 < a1
              · have h0i : (0 : Int) < (a1 : Int) := by omega
                rw [decide_eq_true h0] at HQ
                go_region
                all_goals
                  obtain ⟨D5, QA⟩ := unhide HD5
                  generalize hq0 : World.drew (World.setCell (World.setCell (World.setCell (World.setCell (World.setCell (World.setCell (World.setCell (World.setCell (World.setCell (World.setCell (World.setCell (World.setCell w4 _ _) _ _) _ _) _ _) _ _) _ _) _ _) _ _) _ _) _ _) _ _) _ _) = w5 at *
                  have hq : (setAll w4 w.heap.size 0 [.slice ao n cap, .bool false, .int .i64 Itn.zero.txn.id, .int .i64 Itn.zero.txn.ep, .string Itn.zero.txn.anchor, .int .i64 Itn.zero.txn.start.1, .int .i64 Itn.zero.txn.start.2, .int .i64 Itn.zero.seq, .int .i64 Itn.zero.at_.1, .int .i64 Itn.zero.at_.2, .string Itn.zero.val, .bool Itn.zero.gone]).drew = w5 := hq0
                  rw [hq] at D5 QA
                  clear hq hq0 HD5 fb A4f C4_0 A4_0 C4_1 A4_1 C4_2 A4_2 C4_3 A4_3 C4_4 A4_4 C4_5 A4_5 C4_6 A4_6 C4_7 A4_7 C4_8 A4_8 C4_9 A4_9 C4_10 A4_10 C4_11 A4_11
                  simp only [Exit.then]
                  (first | (rename_i hK; refine hK _ _ ?_; clear hK) | (rename_i hK x1; refine hK _ _ ?_; clear hK) | (rename_i hK x1 x2; refine hK _ _ ?_; clear hK) | (rename_i hK x1 x2 x3; refine hK _ _ ?_; clear hK))
                  apply wp_ret
                  refine bodyPost_ret (results_ce Tryz.results26 ao n cap false Itn.zero rfl rfl QA) rfl ?_
                  refine ⟨ao, cap, ⟨us, false, Itn.zero⟩, true, r3, false, ?_, D5.v.mono (by omega), D5.d, D5.t, unhide HQ _ (by simp)⟩
                  show _ = Ending.returned (.tuple #[(.agg #[.slice ao us.length cap, .bool false, .int .i64 Itn.zero.txn.id, .int .i64 Itn.zero.txn.ep, .string Itn.zero.txn.anchor, .int .i64 Itn.zero.txn.start.1, .int .i64 Itn.zero.txn.start.2, .int .i64 Itn.zero.seq, .int .i64 Itn.zero.at_.1, .int .i64 Itn.zero.at_.2, .string Itn.zero.val, .bool Itn.zero.gone]), .bool true])
                  rw [unhide Hn]
                  rfl
              · have h0i : ¬ (0 : Int) < (a1 : Int) := by omega
                rw [decide_eq_false h0] at HQ
                have nM : ¬ w.heap.size = M := by omega
                go_region_held (fun y => y.cell? ⟨M, 2, none⟩ = some (.bool false) ∧ y.cell? ⟨w.heap.size + 1, 0, none⟩ = some (.slice ao n cap) ∧ y.cell? ⟨w.heap.size + 1, 1, none⟩ = some (.bool false) ∧ y.cell? ⟨w.heap.size + 1, 2, none⟩ = some (.int .i64 0) ∧ y.cell? ⟨w.heap.size + 1, 3, none⟩ = some (.int .i64 0) ∧ y.cell? ⟨w.heap.size + 1, 4, none⟩ = some (.string ⟨#[]⟩) ∧ y.cell? ⟨w.heap.size + 1, 5, none⟩ = some (.int .i64 0) ∧ y.cell? ⟨w.heap.size + 1, 6, none⟩ = some (.int .i64 0) ∧ y.cell? ⟨w.heap.size + 1, 7, none⟩ = some (.int .i64 0) ∧ y.cell? ⟨w.heap.size + 1, 8, none⟩ = some (.int .i64 0) ∧ y.cell? ⟨w.heap.size + 1, 9, none⟩ = some (.int .i64 0) ∧ y.cell? ⟨w.heap.size + 1, 10, none⟩ = some (.string ⟨#[]⟩) ∧ y.cell? ⟨w.heap.size + 1, 11, none⟩ = some (.bool false)) (go_keep) (fail)
                all_goals
                  obtain ⟨D5, QA⟩ := unhide HD5
                  generalize hq0 : World.drew (World.setCell (World.setCell (World.setCell (World.setCell (World.setCell (World.setCell (World.setCell (World.setCell (World.setCell (World.setCell (World.setCell (World.setCell w4 _ _) _ _) _ _) _ _) _ _) _ _) _ _) _ _) _ _) _ _) _ _) _ _) = w5 at *
                  have hq : (setAll w4 w.heap.size 0 [.slice ao n cap, .bool false, .int .i64 Itn.zero.txn.id, .int .i64 Itn.zero.txn.ep, .string Itn.zero.txn.anchor, .int .i64 Itn.zero.txn.start.1, .int .i64 Itn.zero.txn.start.2, .int .i64 Itn.zero.seq, .int .i64 Itn.zero.at_.1, .int .i64 Itn.zero.at_.2, .string Itn.zero.val, .bool Itn.zero.gone]).drew = w5 := hq0
                  rw [hq] at D5 QA
                  clear hq hq0 HD5 fb A4f C4_0 A4_0 C4_1 A4_1 C4_2 A4_2 C4_3 A4_3 C4_4 A4_4 C4_5 A4_5 C4_6 A4_6 C4_7 A4_7 C4_8 A4_8 C4_9 A4_9 C4_10 A4_10 C4_11 A4_11
                  simp only [Exit.then]
                  (first | (rename_i hK; refine hK _ _ ?_; clear hK) | (rename_i hK x1; refine hK _ _ ?_; clear hK) | (rename_i hK x1 x2; refine hK _ _ ?_; clear hK) | (rename_i hK x1 x2 x3; refine hK _ _ ?_; clear hK))
                  apply wp_ret
                  refine bodyPost_ret (results_ce Tryz.results26 ao n cap false Itn.zero rfl rfl QA) rfl ?_
                  refine ⟨ao, cap, ⟨us, false, Itn.zero⟩, false, r3, false, ?_, D5.v.mono (by omega), D5.d, D5.t, unhide HQ _ (by simp)⟩
                  show _ = Ending.returned (.tuple #[(.agg #[.slice ao us.length cap, .bool false, .int .i64 Itn.zero.txn.id, .int .i64 Itn.zero.txn.ep, .string Itn.zero.txn.anchor, .int .i64 Itn.zero.txn.start.1, .int .i64 Itn.zero.txn.start.2, .int .i64 Itn.zero.seq, .int .i64 Itn.zero.at_.1, .int .i64 Itn.zero.at_.2, .string Itn.zero.val, .bool Itn.zero.gone]), .bool false])
                  rw [unhide Hn]
                  rfl
            · go_region
              all_goals
                obtain ⟨D5, QA⟩ := unhide HD5
                generalize hq0 : World.drew (World.setCell (World.setCell (World.setCell (World.setCell (World.setCell (World.setCell (World.setCell (World.setCell (World.setCell (World.setCell (World.setCell (World.setCell w4 _ _) _ _) _ _) _ _) _ _) _ _) _ _) _ _) _ _) _ _) _ _) _ _) = w5 at *
                have hq : (setAll w4 w.heap.size 0 [.slice ao n cap, .bool false, .int .i64 Itn.zero.txn.id, .int .i64 Itn.zero.txn.ep, .string Itn.zero.txn.anchor, .int .i64 Itn.zero.txn.start.1, .int .i64 Itn.zero.txn.start.2, .int .i64 Itn.zero.seq, .int .i64 Itn.zero.at_.1, .int .i64 Itn.zero.at_.2, .string Itn.zero.val, .bool Itn.zero.gone]).drew = w5 := hq0
                rw [hq] at D5 QA
                clear hq hq0 HD5 fb A4f C4_0 A4_0 C4_1 A4_1 C4_2 A4_2 C4_3 A4_3 C4_4 A4_4 C4_5 A4_5 C4_6 A4_6 C4_7 A4_7 C4_8 A4_8 C4_9 A4_9 C4_10 A4_10 C4_11 A4_11
                simp only [Exit.then]
                (first | (rename_i hK; refine hK _ _ ?_; clear hK) | (rename_i hK x1; refine hK _ _ ?_; clear hK) | (rename_i hK x1 x2; refine hK _ _ ?_; clear hK) | (rename_i hK x1 x2 x3; refine hK _ _ ?_; clear hK))
                apply wp_ret
                refine bodyPost_ret (results_ce Tryz.results26 ao n cap false Itn.zero rfl rfl QA) rfl ?_
                refine ⟨ao, cap, ⟨us, false, Itn.zero⟩, false, r3, true, ?_, D5.v.mono (by omega), D5.d, D5.t, unhide HQ _ (by simp)⟩
                show _ = Ending.returned (.tuple #[(.agg #[.slice ao us.length cap, .bool false, .int .i64 Itn.zero.txn.id, .int .i64 Itn.zero.txn.ep, .string Itn.zero.txn.anchor, .int .i64 Itn.zero.txn.start.1, .int .i64 Itn.zero.txn.start.2, .int .i64 Itn.zero.seq, .int .i64 Itn.zero.at_.1, .int .i64 Itn.zero.at_.2, .string Itn.zero.val, .bool Itn.zero.gone]), .bool false])
                rw [unhide Hn]
                rfl
      · go_wp2_with fail
        generalize w2.setCell _ _ = w3 at *
        clear C2_0 C2_1 C2_2 C2_3 C2_4 C2_5 C2_6 C2_7 C2_8 C2_9 C2_10 C2_11 C2f
        have QA := fun b w' h => dn_any S M r3 b mxN w' h
        obtain ⟨n1, n1e, r4, hn1e⟩ : ∃ n1 n1e r4, P1.rdN r3 mxN = (n1, n1e, r4) := ⟨_, _, _, rfl⟩
        simp only [hn1e] at QA
        have QB := fun b w' h => dn_any S M r4 b mxN w' h
        obtain ⟨n2, n2e, r5, hn2e⟩ : ∃ n2 n2e r5, P1.rdN r4 mxN = (n2, n2e, r5) := ⟨_, _, _, rfl⟩
        simp only [hn2e] at QB
        have QT := fun b w' h => dt_any S M r5 b 8 w' h
        have lkx := rdT_size r5 8
        obtain ⟨tk, tke, r6, htke⟩ : ∃ tk tke r6, P1.rdT r5 8 = (tk, tke, r6) := ⟨_, _, _, rfl⟩
        simp only [htke] at QT
        rw [htke] at lkx
        simp only at lkx
        obtain ⟨kx, hkx⟩ : ∃ x, (⟨tk.toArray⟩ : ByteArray) = x := ⟨_, rfl⟩
        simp only [hkx] at QT
        have zkx : kx.size ≤ r5.length := by rw [← hkx]; show tk.toArray.size ≤ _; rw [List.size_toArray]; exact lkx
        have QG := fun b w' h => dg_any S M r6 b  w' h
        obtain ⟨s1, s2, se, r7, hse⟩ : ∃ s1 s2 se r7, P1.rdS r6  = (s1, s2, se, r7) := ⟨_, _, _, _, rfl⟩
        simp only [hse] at QG
        have QN := fun b w' h => dn_any S M r7 b mxN w' h
        obtain ⟨n3, n3e, r8, hn3e⟩ : ∃ n3 n3e r8, P1.rdN r7 mxN = (n3, n3e, r8) := ⟨_, _, _, rfl⟩
        simp only [hn3e] at QN
        have QH := fun b w' h => dg_any S M r8 b  w' h
        obtain ⟨u1, u2, ue, r9, hue⟩ : ∃ u1 u2 ue r9, P1.rdS r8  = (u1, u2, ue, r9) := ⟨_, _, _, _, rfl⟩
        simp only [hue] at QH
        have QU := fun b w' h => dt_any S M r9 b 16 w' h
        have ltx := rdT_size r9 16
        obtain ⟨tv, tve, r10, htve⟩ : ∃ tv tve r10, P1.rdT r9 16 = (tv, tve, r10) := ⟨_, _, _, rfl⟩
        simp only [htve] at QU
        rw [htve] at ltx
        simp only at ltx
        obtain ⟨tx, htx⟩ : ∃ x, (⟨tv.toArray⟩ : ByteArray) = x := ⟨_, rfl⟩
        simp only [htx] at QU
        have ztx : tx.size ≤ r9.length := by rw [← htx]; show tv.toArray.size ≤ _; rw [List.size_toArray]; exact ltx
        have QF := fun b w' h => df_any S M r10 b  w' h
        obtain ⟨fg, fge, r11, hfge⟩ : ∃ fg fge r11, P1.rdF r10  = (fg, fge, r11) := ⟨_, _, _, rfl⟩
        simp only [hfge] at QF
        obtain ⟨it, hit⟩ : ∃ it : Itn, it = ⟨⟨(n1 : Int), (n2 : Int), kx, ((s1 : Int), (s2 : Int))⟩, (n3 : Int), ((u1 : Int), (u2 : Int)), tx, fg⟩ := ⟨_, rfl⟩
        have HIT : Hid (itnR r3 = (it, ((((((((n1e != 0) || n2e != 0) || tke != 0) || se != 0) || n3e != 0) || ue != 0) || tve != 0) || fge != 0), r11)) := by
          unfold Hid itnR
          rw [hit]
          simp only [hn1e, hn2e, htke, hse, hn3e, hue, htve, hfge, hkx, htx]
        clear hn1e hn2e htke hse hn3e hue htve hfge hkx htx lkx ltx
        obtain ⟨b9, hb9⟩ : ∃ b9, ((((((((bb || n1e != 0) || n2e != 0) || tke != 0) || se != 0) || n3e != 0) || ue != 0) || tve != 0) || fge != 0) = b9 := ⟨_, rfl⟩
        have Hb9 := hide hb9
        clear hb9
        have HR3 := fun w' h => HR w' it h
        obtain ⟨rb, hrb⟩ : ∃ rb, rightCB ⟨us, true, it⟩ = rb := ⟨_, rfl⟩
        simp only [hrb] at HR3
        have CV := fun w' h => refvalue_any tx fg w' h
        obtain ⟨vb, hvb⟩ : ∃ vb, valB tx fg = vb := ⟨_, rfl⟩
        simp only [hvb] at CV
        have CK := fun w' h => S5.refKey_any kx w' h
        obtain ⟨kb, hkb⟩ : ∃ kb, S5.keyB kx = kb := ⟨_, rfl⟩
        simp only [hkb] at CK
        have HQ0 : Hid (∀ ok, ok = (good && vb && kb && rb && !b9) → DchR bad0 q0 ⟨us, true, it⟩ ok r11 b9) := fun ok hok => by
          have e9 : ((bb || ((((((((n1e != 0) || n2e != 0) || tke != 0) || se != 0) || n3e != 0) || ue != 0) || tve != 0) || fge != 0))) = b9 := by rw [← unhide Hb9]; simp only [Bool.or_assoc]
          have q := DchR.opened (bad0 := bad0) (bad := bad) (good := good) (unhide Ha) (by rw [unhide Hb1]; exact unhide HDn) (fun h => by first | rfl | exact unhide HDb (by rw [← unhide Hb1]; exact h)) (unhide Ho) (unhide HIT) (ok := ok) (by rw [unhide Hbb, e9, hrb, hit]; simp only [hvb, hkb]; exact hok)
          rw [unhide Hbb, e9] at q
          exact q
        have Hit := hide hit
        clear hrb hvb hkb HR hit
        refine (QA _ _ D3.d).mono ?_
        clear QA
        rintro e v4 ⟨rfl, hd, ht⟩
        have E4 := D3.read g1 hd ht
        clear D3 hd ht
        go_wp2_with fail
        refine (QB _ _ E4.d).mono ?_
        clear QB
        rintro e w5 ⟨rfl, hd, ht⟩
        have E5 := E4.read g1 hd ht
        clear E4 hd ht
        go_wp2_with fail
        refine (QT _ _ E5.d).mono ?_
        clear QT
        rintro e w6 ⟨rfl, hd, ht⟩
        have E6 := E5.read g1 hd ht
        have mkx := E5.d.len
        clear E5 hd ht
        go_wp2_with fail
        refine (QG _ _ E6.d).mono ?_
        clear QG
        rintro e w7 ⟨rfl, hd, ht⟩
        have E7 := E6.read g1 hd ht
        clear E6 hd ht
        have I := Blk.new w7 #[.int .i64 (n1 : Int), .int .i64 (n2 : Int), .string kx, .int .i64 (s1 : Int), .int .i64 (s2 : Int), .int .i64 0, .int .i64 0, .int .i64 0, .string ⟨#[]⟩, .bool false] 42
        have hB : Below w7.heap.size w7 (w7.alloc (.cells #[.int .i64 (n1 : Int), .int .i64 (n2 : Int), .string kx, .int .i64 (s1 : Int), .int .i64 (s2 : Int), .int .i64 0, .int .i64 0, .int .i64 0, .string ⟨#[]⟩, .bool false] 42)) := (Below.refl w7.heap.size w7).alloc (Nat.le_refl _) _
        have X7 := DX.of E7 I
        clear E7 I hB
        go_wp2_with fail
        generalize hX : w7.heap.size = X at *
        generalize w7.alloc _ = w8 at *
        clear hX
        refine (QN _ _ X7.d.d).mono ?_
        clear QN
        rintro e x8 ⟨rfl, hd, ht⟩
        have F8 := X7.read g1 hd ht
        clear X7 hd ht
        have J8 := F8.i
        have J8_0 := J8.c 0; have J8_1 := J8.c 1; have J8_2 := J8.c 2; have J8_3 := J8.c 3; have J8_4 := J8.c 4; have J8_5 := J8.c 5; have J8_6 := J8.c 6; have J8_7 := J8.c 7; have J8_8 := J8.c 8; have J8_9 := J8.c 9; simp only [List.getElem?_cons_zero, List.getElem?_cons_succ] at J8_0 J8_1 J8_2 J8_3 J8_4 J8_5 J8_6 J8_7 J8_8 J8_9
        have Jf8 := J8.f
        clear J8
        have G8 : DX S M w.heap.size X w (x8.setCell ⟨X, 5, none⟩ (.int .i64 (n3 : Int))) r8 _ _ _ ao cap us ([.int .i64 (n1 : Int), .int .i64 (n2 : Int), .string kx, .int .i64 (s1 : Int), .int .i64 (s2 : Int)] ++ [.int .i64 (n3 : Int)] ++ [.int .i64 0, .int .i64 0, .string ⟨#[]⟩, .bool false]) := F8.setI g1 (Nat.le_refl _) [.int .i64 (n3 : Int)] 5 [.int .i64 (n1 : Int), .int .i64 (n2 : Int), .string kx, .int .i64 (s1 : Int), .int .i64 (s2 : Int)] [.int .i64 0, .int .i64 0, .string ⟨#[]⟩, .bool false] [.int .i64 0] rfl rfl rfl (by simp) (by simp)
        simp only [List.cons_append, List.nil_append] at G8
        clear F8
        go_wp2_with fail
        generalize x8.setCell _ _ = y8 at *
        clear J8_0 J8_1 J8_2 J8_3 J8_4 J8_5 J8_6 J8_7 J8_8 J8_9 Jf8
        refine (QH _ _ G8.d.d).mono ?_
        clear QH
        rintro e x9 ⟨rfl, hd, ht⟩
        have F9 := G8.read g1 hd ht
        clear G8 hd ht
        have J9 := F9.i
        have J9_0 := J9.c 0; have J9_1 := J9.c 1; have J9_2 := J9.c 2; have J9_3 := J9.c 3; have J9_4 := J9.c 4; have J9_5 := J9.c 5; have J9_6 := J9.c 6; have J9_7 := J9.c 7; have J9_8 := J9.c 8; have J9_9 := J9.c 9; simp only [List.getElem?_cons_zero, List.getElem?_cons_succ] at J9_0 J9_1 J9_2 J9_3 J9_4 J9_5 J9_6 J9_7 J9_8 J9_9
        have Jf9 := J9.f
        clear J9
        have G9 : DX S M w.heap.size X w ((x9.setCell ⟨X, 6, none⟩ (.int .i64 (u1 : Int))).setCell ⟨X, 7, none⟩ (.int .i64 (u2 : Int))) r9 _ _ _ ao cap us ([.int .i64 (n1 : Int), .int .i64 (n2 : Int), .string kx, .int .i64 (s1 : Int), .int .i64 (s2 : Int), .int .i64 (n3 : Int)] ++ [.int .i64 (u1 : Int), .int .i64 (u2 : Int)] ++ [.string ⟨#[]⟩, .bool false]) := F9.setI g1 (Nat.le_refl _) [.int .i64 (u1 : Int), .int .i64 (u2 : Int)] 6 [.int .i64 (n1 : Int), .int .i64 (n2 : Int), .string kx, .int .i64 (s1 : Int), .int .i64 (s2 : Int), .int .i64 (n3 : Int)] [.string ⟨#[]⟩, .bool false] [.int .i64 0, .int .i64 0] rfl rfl rfl (by simp) (by simp)
        simp only [List.cons_append, List.nil_append] at G9
        clear F9
        go_wp2_with fail
        generalize (x9.setCell _ _).setCell _ _ = y9 at *
        clear J9_0 J9_1 J9_2 J9_3 J9_4 J9_5 J9_6 J9_7 J9_8 J9_9 Jf9
        refine (QU _ _ G9.d.d).mono ?_
        clear QU
        rintro e x10 ⟨rfl, hd, ht⟩
        have mtx := G9.d.d.len
        have F10 := G9.read g1 hd ht
        clear G9 hd ht
        have J10 := F10.i
        have J10_0 := J10.c 0; have J10_1 := J10.c 1; have J10_2 := J10.c 2; have J10_3 := J10.c 3; have J10_4 := J10.c 4; have J10_5 := J10.c 5; have J10_6 := J10.c 6; have J10_7 := J10.c 7; have J10_8 := J10.c 8; have J10_9 := J10.c 9; simp only [List.getElem?_cons_zero, List.getElem?_cons_succ] at J10_0 J10_1 J10_2 J10_3 J10_4 J10_5 J10_6 J10_7 J10_8 J10_9
        have Jf10 := J10.f
        clear J10
        have G10 : DX S M w.heap.size X w (x10.setCell ⟨X, 8, none⟩ (.string tx)) r10 _ _ _ ao cap us ([.int .i64 (n1 : Int), .int .i64 (n2 : Int), .string kx, .int .i64 (s1 : Int), .int .i64 (s2 : Int), .int .i64 (n3 : Int), .int .i64 (u1 : Int), .int .i64 (u2 : Int)] ++ [.string tx] ++ [.bool false]) := F10.setI g1 (Nat.le_refl _) [.string tx] 8 [.int .i64 (n1 : Int), .int .i64 (n2 : Int), .string kx, .int .i64 (s1 : Int), .int .i64 (s2 : Int), .int .i64 (n3 : Int), .int .i64 (u1 : Int), .int .i64 (u2 : Int)] [.bool false] [.string ⟨#[]⟩] rfl rfl rfl (by simp) (by simp)
        simp only [List.cons_append, List.nil_append] at G10
        clear F10
        go_wp2_with fail
        generalize x10.setCell _ _ = y10 at *
        clear J10_0 J10_1 J10_2 J10_3 J10_4 J10_5 J10_6 J10_7 J10_8 J10_9 Jf10
        refine (QF _ _ G10.d.d).mono ?_
        clear QF
        rintro e x11 ⟨rfl, hd, ht⟩
        have F11 := G10.read g1 hd ht
        clear G10 hd ht
        have J11 := F11.i
        have J11_0 := J11.c 0; have J11_1 := J11.c 1; have J11_2 := J11.c 2; have J11_3 := J11.c 3; have J11_4 := J11.c 4; have J11_5 := J11.c 5; have J11_6 := J11.c 6; have J11_7 := J11.c 7; have J11_8 := J11.c 8; have J11_9 := J11.c 9; simp only [List.getElem?_cons_zero, List.getElem?_cons_succ] at J11_0 J11_1 J11_2 J11_3 J11_4 J11_5 J11_6 J11_7 J11_8 J11_9
        have Jf11 := J11.f
        clear J11
        have G11 : DX S M w.heap.size X w (x11.setCell ⟨X, 9, none⟩ (.bool fg)) r11 _ _ _ ao cap us ([.int .i64 (n1 : Int), .int .i64 (n2 : Int), .string kx, .int .i64 (s1 : Int), .int .i64 (s2 : Int), .int .i64 (n3 : Int), .int .i64 (u1 : Int), .int .i64 (u2 : Int), .string tx] ++ [.bool fg] ++ []) := F11.setI g1 (Nat.le_refl _) [.bool fg] 9 [.int .i64 (n1 : Int), .int .i64 (n2 : Int), .string kx, .int .i64 (s1 : Int), .int .i64 (s2 : Int), .int .i64 (n3 : Int), .int .i64 (u1 : Int), .int .i64 (u2 : Int), .string tx] [] [.bool false] rfl rfl rfl (by simp) (by simp)
        simp only [List.cons_append, List.nil_append] at G11
        clear F11
        go_upto_region 18 with fail
        generalize x11.setCell _ _ = y11 at *
        clear J11_0 J11_1 J11_2 J11_3 J11_4 J11_5 J11_6 J11_7 J11_8 J11_9 Jf11
        simp only [unhide Hb9] at G11
        have I9 := G11.i
        have I9_0 := I9.c 0; have I9_1 := I9.c 1; have I9_2 := I9.c 2; have I9_3 := I9.c 3; have I9_4 := I9.c 4; have I9_5 := I9.c 5; have I9_6 := I9.c 6; have I9_7 := I9.c 7; have I9_8 := I9.c 8; have I9_9 := I9.c 9; simp only [List.getElem?_cons_zero, List.getElem?_cons_succ] at I9_0 I9_1 I9_2 I9_3 I9_4 I9_5 I9_6 I9_7 I9_8 I9_9
        clear I9
        have C9 := G11.d.c
        have C9_0 := C9.c 0; have C9_1 := C9.c 1; have C9_2 := C9.c 2; have C9_3 := C9.c 3; have C9_4 := C9.c 4; have C9_5 := C9.c 5; have C9_6 := C9.c 6; have C9_7 := C9.c 7; have C9_8 := C9.c 8; have C9_9 := C9.c 9; have C9_10 := C9.c 10; have C9_11 := C9.c 11; simp only [List.getElem?_cons_zero, List.getElem?_cons_succ] at C9_0 C9_1 C9_2 C9_3 C9_4 C9_5 C9_6 C9_7 C9_8 C9_9 C9_10 C9_11
        have C9f := C9.f
        clear C9
        have HG := hide G11
        have hvs := G11.d.v.vs
        clear G11
        go_wp2_with fail
        refine (CV y11 (by omega)).mono ?_
        clear CV
        rintro e z1 ⟨rfl, rfl⟩
        go_wp2_with fail
        refine (CK z1 (by omega)).mono ?_
        clear CK
        rintro e z2 ⟨rfl, rfl⟩
        go_upto_region 20 with fail
        cases good
        · go_upto_region 22 with fail
          have G := unhide HG
          have XC := G.setC g1 (Nat.le_refl _) [.int .i64 (n1 : Int), .int .i64 (n2 : Int), .string kx, .int .i64 (s1 : Int), .int .i64 (s2 : Int), .int .i64 (n3 : Int), .int .i64 (u1 : Int), .int .i64 (u2 : Int), .string tx, .bool fg] 2 [.slice ao n cap, .bool true] [] [.int .i64 0, .int .i64 0, .string ⟨#[]⟩, .int .i64 0, .int .i64 0, .int .i64 0, .int .i64 0, .int .i64 0, .string ⟨#[]⟩, .bool false] rfl rfl rfl (by simp) (by simp)
          simp only [List.cons_append, List.nil_append, List.append_nil] at XC
          generalize hq0 : World.setCell (World.setCell (World.setCell (World.setCell (World.setCell (World.setCell (World.setCell (World.setCell (World.setCell (World.setCell z2 _ _) _ _) _ _) _ _) _ _) _ _) _ _) _ _) _ _) _ _ = w3 at *
          have hq : setAll z2 (w.heap.size + 1) 2 [.int .i64 (n1 : Int), .int .i64 (n2 : Int), .string kx, .int .i64 (s1 : Int), .int .i64 (s2 : Int), .int .i64 (n3 : Int), .int .i64 (u1 : Int), .int .i64 (u2 : Int), .string tx, .bool fg] = w3 := hq0
          rw [hq] at XC
          have D3 : DB S M w.heap.size w w3 r11 b9 [.slice none 0 0, .bool false, .int .i64 0, .int .i64 0, .string ⟨#[]⟩, .int .i64 0, .int .i64 0, .int .i64 0, .int .i64 0, .int .i64 0, .string ⟨#[]⟩, .bool false] [.slice ao n cap, .bool true, .int .i64 it.txn.id, .int .i64 it.txn.ep, .string it.txn.anchor, .int .i64 it.txn.start.1, .int .i64 it.txn.start.2, .int .i64 it.seq, .int .i64 it.at_.1, .int .i64 it.at_.2, .string it.val, .bool it.gone] ao cap us := by rw [unhide Hit]; exact XC.d
          clear hq hq0 XC G C9_0 C9_1 C9_2 C9_3 C9_4 C9_5 C9_6 C9_7 C9_8 C9_9 C9_10 C9_11 C9f I9_0 I9_1 I9_2 I9_3 I9_4 I9_5 I9_6 I9_7 I9_8 I9_9
          have C3 := D3.c
          have C3_0 := C3.c 0; have C3_1 := C3.c 1; have C3_2 := C3.c 2; have C3_3 := C3.c 3; have C3_4 := C3.c 4; have C3_5 := C3.c 5; have C3_6 := C3.c 6; have C3_7 := C3.c 7; have C3_8 := C3.c 8; have C3_9 := C3.c 9; have C3_10 := C3.c 10; have C3_11 := C3.c 11; simp only [List.getElem?_cons_zero, List.getElem?_cons_succ] at C3_0 C3_1 C3_2 C3_3 C3_4 C3_5 C3_6 C3_7 C3_8 C3_9 C3_10 C3_11
          have HR4 := HR3 w3 D3.v.vs
          clear HR3 C3
          have HDD := hide D3
          clear D3
          go_wp2_with fail
          refine HR4.mono ?_
          clear HR4
          rintro e w4 ⟨rfl, hb4⟩
          have D4 := (unhide HDD).later hb4
          clear HDD hb4 C3_0 C3_1 C3_2 C3_3 C3_4 C3_5 C3_6 C3_7 C3_8 C3_9 C3_10 C3_11
          go_upto_region 23 with fail
          have HQ := HQ0
          clear HQ0 HIT Hit Hb9 Ha Hb1 Ho Hbb HDn HDb mkx mtx zkx ztx hlen hvs
          have fb := D4.d.bad
          have HD5 : Hid (DB S M w.heap.size w ((setAll w4 w.heap.size 0 [.slice ao n cap, .bool true, .int .i64 it.txn.id, .int .i64 it.txn.ep, .string it.txn.anchor, .int .i64 it.txn.start.1, .int .i64 it.txn.start.2, .int .i64 it.seq, .int .i64 it.at_.1, .int .i64 it.at_.2, .string it.val, .bool it.gone]).drew) r11 b9 [.slice ao n cap, .bool true, .int .i64 it.txn.id, .int .i64 it.txn.ep, .string it.txn.anchor, .int .i64 it.txn.start.1, .int .i64 it.txn.start.2, .int .i64 it.seq, .int .i64 it.at_.1, .int .i64 it.at_.2, .string it.val, .bool it.gone] [.slice ao n cap, .bool true, .int .i64 it.txn.id, .int .i64 it.txn.ep, .string it.txn.anchor, .int .i64 it.txn.start.1, .int .i64 it.txn.start.2, .int .i64 it.seq, .int .i64 it.at_.1, .int .i64 it.at_.2, .string it.val, .bool it.gone] ao cap us ∧ Blk ((setAll w4 w.heap.size 0 [.slice ao n cap, .bool true, .int .i64 it.txn.id, .int .i64 it.txn.ep, .string it.txn.anchor, .int .i64 it.txn.start.1, .int .i64 it.txn.start.2, .int .i64 it.seq, .int .i64 it.at_.1, .int .i64 it.at_.2, .string it.val, .bool it.gone]).drew) w.heap.size [.slice ao n cap, .bool true, .int .i64 it.txn.id, .int .i64 it.txn.ep, .string it.txn.anchor, .int .i64 it.txn.start.1, .int .i64 it.txn.start.2, .int .i64 it.seq, .int .i64 it.at_.1, .int .i64 it.at_.2, .string it.val, .bool it.gone]) := by
            have q := (D4.setA g1 (Nat.le_refl _) [.slice ao n cap, .bool true, .int .i64 it.txn.id, .int .i64 it.txn.ep, .string it.txn.anchor, .int .i64 it.txn.start.1, .int .i64 it.txn.start.2, .int .i64 it.seq, .int .i64 it.at_.1, .int .i64 it.at_.2, .string it.val, .bool it.gone] rfl (by simp) (by simp)).later (Below.refl _ _).drew
            exact ⟨q, q.a⟩
          have C4 := D4.c
          have C4_0 := C4.c 0; have C4_1 := C4.c 1; have C4_2 := C4.c 2; have C4_3 := C4.c 3; have C4_4 := C4.c 4; have C4_5 := C4.c 5; have C4_6 := C4.c 6; have C4_7 := C4.c 7; have C4_8 := C4.c 8; have C4_9 := C4.c 9; have C4_10 := C4.c 10; have C4_11 := C4.c 11; simp only [List.getElem?_cons_zero, List.getElem?_cons_succ] at C4_0 C4_1 C4_2 C4_3 C4_4 C4_5 C4_6 C4_7 C4_8 C4_9 C4_10 C4_11
          have A4 := D4.a
          have A4_0 := A4.c 0; have A4_1 := A4.c 1; have A4_2 := A4.c 2; have A4_3 := A4.c 3; have A4_4 := A4.c 4; have A4_5 := A4.c 5; have A4_6 := A4.c 6; have A4_7 := A4.c 7; have A4_8 := A4.c 8; have A4_9 := A4.c 9; have A4_10 := A4.c 10; have A4_11 := A4.c 11; simp only [List.getElem?_cons_zero, List.getElem?_cons_succ] at A4_0 A4_1 A4_2 A4_3 A4_4 A4_5 A4_6 A4_7 A4_8 A4_9 A4_10 A4_11
          have A4f := A4.f
          clear C4 A4 D4
          go_region
          all_goals
            obtain ⟨D5, QA⟩ := unhide HD5
            generalize hq0 : World.drew (World.setCell (World.setCell (World.setCell (World.setCell (World.setCell (World.setCell (World.setCell (World.setCell (World.setCell (World.setCell (World.setCell (World.setCell w4 _ _) _ _) _ _) _ _) _ _) _ _) _ _) _ _) _ _) _ _) _ _) _ _) = w5 at *
            have hq : (setAll w4 w.heap.size 0 [.slice ao n cap, .bool true, .int .i64 it.txn.id, .int .i64 it.txn.ep, .string it.txn.anchor, .int .i64 it.txn.start.1, .int .i64 it.txn.start.2, .int .i64 it.seq, .int .i64 it.at_.1, .int .i64 it.at_.2, .string it.val, .bool it.gone]).drew = w5 := hq0
            rw [hq] at D5 QA
            clear hq hq0 HD5 fb A4f C4_0 A4_0 C4_1 A4_1 C4_2 A4_2 C4_3 A4_3 C4_4 A4_4 C4_5 A4_5 C4_6 A4_6 C4_7 A4_7 C4_8 A4_8 C4_9 A4_9 C4_10 A4_10 C4_11 A4_11
            simp only [Exit.then]
            (first | (rename_i hK; refine hK _ _ ?_; clear hK) | (rename_i hK x1; refine hK _ _ ?_; clear hK) | (rename_i hK x1 x2; refine hK _ _ ?_; clear hK) | (rename_i hK x1 x2 x3; refine hK _ _ ?_; clear hK))
            apply wp_ret
            refine bodyPost_ret (results_ce Tryz.results26 ao n cap true it rfl rfl QA) rfl ?_
            refine ⟨ao, cap, ⟨us, true, it⟩, false, r11, b9, ?_, D5.v.mono (by omega), D5.d, D5.t, unhide HQ _ (by simp)⟩
            show _ = Ending.returned (.tuple #[(.agg #[.slice ao us.length cap, .bool true, .int .i64 it.txn.id, .int .i64 it.txn.ep, .string it.txn.anchor, .int .i64 it.txn.start.1, .int .i64 it.txn.start.2, .int .i64 it.seq, .int .i64 it.at_.1, .int .i64 it.at_.2, .string it.val, .bool it.gone]), .bool false])
            rw [unhide Hn]
            rfl
        · cases vb
          · go_upto_region 22 with fail
            have G := unhide HG
            have XC := G.setC g1 (Nat.le_refl _) [.int .i64 (n1 : Int), .int .i64 (n2 : Int), .string kx, .int .i64 (s1 : Int), .int .i64 (s2 : Int), .int .i64 (n3 : Int), .int .i64 (u1 : Int), .int .i64 (u2 : Int), .string tx, .bool fg] 2 [.slice ao n cap, .bool true] [] [.int .i64 0, .int .i64 0, .string ⟨#[]⟩, .int .i64 0, .int .i64 0, .int .i64 0, .int .i64 0, .int .i64 0, .string ⟨#[]⟩, .bool false] rfl rfl rfl (by simp) (by simp)
            simp only [List.cons_append, List.nil_append, List.append_nil] at XC
            generalize hq0 : World.setCell (World.setCell (World.setCell (World.setCell (World.setCell (World.setCell (World.setCell (World.setCell (World.setCell (World.setCell z2 _ _) _ _) _ _) _ _) _ _) _ _) _ _) _ _) _ _) _ _ = w3 at *
            have hq : setAll z2 (w.heap.size + 1) 2 [.int .i64 (n1 : Int), .int .i64 (n2 : Int), .string kx, .int .i64 (s1 : Int), .int .i64 (s2 : Int), .int .i64 (n3 : Int), .int .i64 (u1 : Int), .int .i64 (u2 : Int), .string tx, .bool fg] = w3 := hq0
            rw [hq] at XC
            have D3 : DB S M w.heap.size w w3 r11 b9 [.slice none 0 0, .bool false, .int .i64 0, .int .i64 0, .string ⟨#[]⟩, .int .i64 0, .int .i64 0, .int .i64 0, .int .i64 0, .int .i64 0, .string ⟨#[]⟩, .bool false] [.slice ao n cap, .bool true, .int .i64 it.txn.id, .int .i64 it.txn.ep, .string it.txn.anchor, .int .i64 it.txn.start.1, .int .i64 it.txn.start.2, .int .i64 it.seq, .int .i64 it.at_.1, .int .i64 it.at_.2, .string it.val, .bool it.gone] ao cap us := by rw [unhide Hit]; exact XC.d
            clear hq hq0 XC G C9_0 C9_1 C9_2 C9_3 C9_4 C9_5 C9_6 C9_7 C9_8 C9_9 C9_10 C9_11 C9f I9_0 I9_1 I9_2 I9_3 I9_4 I9_5 I9_6 I9_7 I9_8 I9_9
            have C3 := D3.c
            have C3_0 := C3.c 0; have C3_1 := C3.c 1; have C3_2 := C3.c 2; have C3_3 := C3.c 3; have C3_4 := C3.c 4; have C3_5 := C3.c 5; have C3_6 := C3.c 6; have C3_7 := C3.c 7; have C3_8 := C3.c 8; have C3_9 := C3.c 9; have C3_10 := C3.c 10; have C3_11 := C3.c 11; simp only [List.getElem?_cons_zero, List.getElem?_cons_succ] at C3_0 C3_1 C3_2 C3_3 C3_4 C3_5 C3_6 C3_7 C3_8 C3_9 C3_10 C3_11
            have HR4 := HR3 w3 D3.v.vs
            clear HR3 C3
            have HDD := hide D3
            clear D3
            go_wp2_with fail
            refine HR4.mono ?_
            clear HR4
            rintro e w4 ⟨rfl, hb4⟩
            have D4 := (unhide HDD).later hb4
            clear HDD hb4 C3_0 C3_1 C3_2 C3_3 C3_4 C3_5 C3_6 C3_7 C3_8 C3_9 C3_10 C3_11
            go_upto_region 23 with fail
            have HQ := HQ0
            clear HQ0 HIT Hit Hb9 Ha Hb1 Ho Hbb HDn HDb mkx mtx zkx ztx hlen hvs
            have fb := D4.d.bad
            have HD5 : Hid (DB S M w.heap.size w ((setAll w4 w.heap.size 0 [.slice ao n cap, .bool true, .int .i64 it.txn.id, .int .i64 it.txn.ep, .string it.txn.anchor, .int .i64 it.txn.start.1, .int .i64 it.txn.start.2, .int .i64 it.seq, .int .i64 it.at_.1, .int .i64 it.at_.2, .string it.val, .bool it.gone]).drew) r11 b9 [.slice ao n cap, .bool true, .int .i64 it.txn.id, .int .i64 it.txn.ep, .string it.txn.anchor, .int .i64 it.txn.start.1, .int .i64 it.txn.start.2, .int .i64 it.seq, .int .i64 it.at_.1, .int .i64 it.at_.2, .string it.val, .bool it.gone] [.slice ao n cap, .bool true, .int .i64 it.txn.id, .int .i64 it.txn.ep, .string it.txn.anchor, .int .i64 it.txn.start.1, .int .i64 it.txn.start.2, .int .i64 it.seq, .int .i64 it.at_.1, .int .i64 it.at_.2, .string it.val, .bool it.gone] ao cap us ∧ Blk ((setAll w4 w.heap.size 0 [.slice ao n cap, .bool true, .int .i64 it.txn.id, .int .i64 it.txn.ep, .string it.txn.anchor, .int .i64 it.txn.start.1, .int .i64 it.txn.start.2, .int .i64 it.seq, .int .i64 it.at_.1, .int .i64 it.at_.2, .string it.val, .bool it.gone]).drew) w.heap.size [.slice ao n cap, .bool true, .int .i64 it.txn.id, .int .i64 it.txn.ep, .string it.txn.anchor, .int .i64 it.txn.start.1, .int .i64 it.txn.start.2, .int .i64 it.seq, .int .i64 it.at_.1, .int .i64 it.at_.2, .string it.val, .bool it.gone]) := by
              have q := (D4.setA g1 (Nat.le_refl _) [.slice ao n cap, .bool true, .int .i64 it.txn.id, .int .i64 it.txn.ep, .string it.txn.anchor, .int .i64 it.txn.start.1, .int .i64 it.txn.start.2, .int .i64 it.seq, .int .i64 it.at_.1, .int .i64 it.at_.2, .string it.val, .bool it.gone] rfl (by simp) (by simp)).later (Below.refl _ _).drew
              exact ⟨q, q.a⟩
            have C4 := D4.c
            have C4_0 := C4.c 0; have C4_1 := C4.c 1; have C4_2 := C4.c 2; have C4_3 := C4.c 3; have C4_4 := C4.c 4; have C4_5 := C4.c 5; have C4_6 := C4.c 6; have C4_7 := C4.c 7; have C4_8 := C4.c 8; have C4_9 := C4.c 9; have C4_10 := C4.c 10; have C4_11 := C4.c 11; simp only [List.getElem?_cons_zero, List.getElem?_cons_succ] at C4_0 C4_1 C4_2 C4_3 C4_4 C4_5 C4_6 C4_7 C4_8 C4_9 C4_10 C4_11
            have A4 := D4.a
            have A4_0 := A4.c 0; have A4_1 := A4.c 1; have A4_2 := A4.c 2; have A4_3 := A4.c 3; have A4_4 := A4.c 4; have A4_5 := A4.c 5; have A4_6 := A4.c 6; have A4_7 := A4.c 7; have A4_8 := A4.c 8; have A4_9 := A4.c 9; have A4_10 := A4.c 10; have A4_11 := A4.c 11; simp only [List.getElem?_cons_zero, List.getElem?_cons_succ] at A4_0 A4_1 A4_2 A4_3 A4_4 A4_5 A4_6 A4_7 A4_8 A4_9 A4_10 A4_11
            have A4f := A4.f
            clear C4 A4 D4
            go_region
            all_goals
              obtain ⟨D5, QA⟩ := unhide HD5
              generalize hq0 : World.drew (World.setCell (World.setCell (World.setCell (World.setCell (World.setCell (World.setCell (World.setCell (World.setCell (World.setCell (World.setCell (World.setCell (World.setCell w4 _ _) _ _) _ _) _ _) _ _) _ _) _ _) _ _) _ _) _ _) _ _) _ _) = w5 at *
              have hq : (setAll w4 w.heap.size 0 [.slice ao n cap, .bool true, .int .i64 it.txn.id, .int .i64 it.txn.ep, .string it.txn.anchor, .int .i64 it.txn.start.1, .int .i64 it.txn.start.2, .int .i64 it.seq, .int .i64 it.at_.1, .int .i64 it.at_.2, .string it.val, .bool it.gone]).drew = w5 := hq0
              rw [hq] at D5 QA
              clear hq hq0 HD5 fb A4f C4_0 A4_0 C4_1 A4_1 C4_2 A4_2 C4_3 A4_3 C4_4 A4_4 C4_5 A4_5 C4_6 A4_6 C4_7 A4_7 C4_8 A4_8 C4_9 A4_9 C4_10 A4_10 C4_11 A4_11
              simp only [Exit.then]
              (first | (rename_i hK; refine hK _ _ ?_; clear hK) | (rename_i hK x1; refine hK _ _ ?_; clear hK) | (rename_i hK x1 x2; refine hK _ _ ?_; clear hK) | (rename_i hK x1 x2 x3; refine hK _ _ ?_; clear hK))
              apply wp_ret
              refine bodyPost_ret (results_ce Tryz.results26 ao n cap true it rfl rfl QA) rfl ?_
              refine ⟨ao, cap, ⟨us, true, it⟩, false, r11, b9, ?_, D5.v.mono (by omega), D5.d, D5.t, unhide HQ _ (by simp)⟩
              show _ = Ending.returned (.tuple #[(.agg #[.slice ao us.length cap, .bool true, .int .i64 it.txn.id, .int .i64 it.txn.ep, .string it.txn.anchor, .int .i64 it.txn.start.1, .int .i64 it.txn.start.2, .int .i64 it.seq, .int .i64 it.at_.1, .int .i64 it.at_.2, .string it.val, .bool it.gone]), .bool false])
              rw [unhide Hn]
              rfl
          · go_upto_region 22 with fail
            have G := unhide HG
            have XC := G.setC g1 (Nat.le_refl _) [.int .i64 (n1 : Int), .int .i64 (n2 : Int), .string kx, .int .i64 (s1 : Int), .int .i64 (s2 : Int), .int .i64 (n3 : Int), .int .i64 (u1 : Int), .int .i64 (u2 : Int), .string tx, .bool fg] 2 [.slice ao n cap, .bool true] [] [.int .i64 0, .int .i64 0, .string ⟨#[]⟩, .int .i64 0, .int .i64 0, .int .i64 0, .int .i64 0, .int .i64 0, .string ⟨#[]⟩, .bool false] rfl rfl rfl (by simp) (by simp)
            simp only [List.cons_append, List.nil_append, List.append_nil] at XC
            generalize hq0 : World.setCell (World.setCell (World.setCell (World.setCell (World.setCell (World.setCell (World.setCell (World.setCell (World.setCell (World.setCell z2 _ _) _ _) _ _) _ _) _ _) _ _) _ _) _ _) _ _) _ _ = w3 at *
            have hq : setAll z2 (w.heap.size + 1) 2 [.int .i64 (n1 : Int), .int .i64 (n2 : Int), .string kx, .int .i64 (s1 : Int), .int .i64 (s2 : Int), .int .i64 (n3 : Int), .int .i64 (u1 : Int), .int .i64 (u2 : Int), .string tx, .bool fg] = w3 := hq0
            rw [hq] at XC
            have D3 : DB S M w.heap.size w w3 r11 b9 [.slice none 0 0, .bool false, .int .i64 0, .int .i64 0, .string ⟨#[]⟩, .int .i64 0, .int .i64 0, .int .i64 0, .int .i64 0, .int .i64 0, .string ⟨#[]⟩, .bool false] [.slice ao n cap, .bool true, .int .i64 it.txn.id, .int .i64 it.txn.ep, .string it.txn.anchor, .int .i64 it.txn.start.1, .int .i64 it.txn.start.2, .int .i64 it.seq, .int .i64 it.at_.1, .int .i64 it.at_.2, .string it.val, .bool it.gone] ao cap us := by rw [unhide Hit]; exact XC.d
            clear hq hq0 XC G C9_0 C9_1 C9_2 C9_3 C9_4 C9_5 C9_6 C9_7 C9_8 C9_9 C9_10 C9_11 C9f I9_0 I9_1 I9_2 I9_3 I9_4 I9_5 I9_6 I9_7 I9_8 I9_9
            have C3 := D3.c
            have C3_0 := C3.c 0; have C3_1 := C3.c 1; have C3_2 := C3.c 2; have C3_3 := C3.c 3; have C3_4 := C3.c 4; have C3_5 := C3.c 5; have C3_6 := C3.c 6; have C3_7 := C3.c 7; have C3_8 := C3.c 8; have C3_9 := C3.c 9; have C3_10 := C3.c 10; have C3_11 := C3.c 11; simp only [List.getElem?_cons_zero, List.getElem?_cons_succ] at C3_0 C3_1 C3_2 C3_3 C3_4 C3_5 C3_6 C3_7 C3_8 C3_9 C3_10 C3_11
            have HR4 := HR3 w3 D3.v.vs
            clear HR3 C3
            have HDD := hide D3
            clear D3
            go_wp2_with fail
            refine HR4.mono ?_
            clear HR4
            rintro e w4 ⟨rfl, hb4⟩
            have D4 := (unhide HDD).later hb4
            clear HDD hb4 C3_0 C3_1 C3_2 C3_3 C3_4 C3_5 C3_6 C3_7 C3_8 C3_9 C3_10 C3_11
            go_upto_region 23 with fail
            have HQ := HQ0
            clear HQ0 HIT Hit Hb9 Ha Hb1 Ho Hbb HDn HDb mkx mtx zkx ztx hlen hvs
            have fb := D4.d.bad
            have HD5 : Hid (DB S M w.heap.size w ((setAll w4 w.heap.size 0 [.slice ao n cap, .bool true, .int .i64 it.txn.id, .int .i64 it.txn.ep, .string it.txn.anchor, .int .i64 it.txn.start.1, .int .i64 it.txn.start.2, .int .i64 it.seq, .int .i64 it.at_.1, .int .i64 it.at_.2, .string it.val, .bool it.gone]).drew) r11 b9 [.slice ao n cap, .bool true, .int .i64 it.txn.id, .int .i64 it.txn.ep, .string it.txn.anchor, .int .i64 it.txn.start.1, .int .i64 it.txn.start.2, .int .i64 it.seq, .int .i64 it.at_.1, .int .i64 it.at_.2, .string it.val, .bool it.gone] [.slice ao n cap, .bool true, .int .i64 it.txn.id, .int .i64 it.txn.ep, .string it.txn.anchor, .int .i64 it.txn.start.1, .int .i64 it.txn.start.2, .int .i64 it.seq, .int .i64 it.at_.1, .int .i64 it.at_.2, .string it.val, .bool it.gone] ao cap us ∧ Blk ((setAll w4 w.heap.size 0 [.slice ao n cap, .bool true, .int .i64 it.txn.id, .int .i64 it.txn.ep, .string it.txn.anchor, .int .i64 it.txn.start.1, .int .i64 it.txn.start.2, .int .i64 it.seq, .int .i64 it.at_.1, .int .i64 it.at_.2, .string it.val, .bool it.gone]).drew) w.heap.size [.slice ao n cap, .bool true, .int .i64 it.txn.id, .int .i64 it.txn.ep, .string it.txn.anchor, .int .i64 it.txn.start.1, .int .i64 it.txn.start.2, .int .i64 it.seq, .int .i64 it.at_.1, .int .i64 it.at_.2, .string it.val, .bool it.gone]) := by
              have q := (D4.setA g1 (Nat.le_refl _) [.slice ao n cap, .bool true, .int .i64 it.txn.id, .int .i64 it.txn.ep, .string it.txn.anchor, .int .i64 it.txn.start.1, .int .i64 it.txn.start.2, .int .i64 it.seq, .int .i64 it.at_.1, .int .i64 it.at_.2, .string it.val, .bool it.gone] rfl (by simp) (by simp)).later (Below.refl _ _).drew
              exact ⟨q, q.a⟩
            have C4 := D4.c
            have C4_0 := C4.c 0; have C4_1 := C4.c 1; have C4_2 := C4.c 2; have C4_3 := C4.c 3; have C4_4 := C4.c 4; have C4_5 := C4.c 5; have C4_6 := C4.c 6; have C4_7 := C4.c 7; have C4_8 := C4.c 8; have C4_9 := C4.c 9; have C4_10 := C4.c 10; have C4_11 := C4.c 11; simp only [List.getElem?_cons_zero, List.getElem?_cons_succ] at C4_0 C4_1 C4_2 C4_3 C4_4 C4_5 C4_6 C4_7 C4_8 C4_9 C4_10 C4_11
            have A4 := D4.a
            have A4_0 := A4.c 0; have A4_1 := A4.c 1; have A4_2 := A4.c 2; have A4_3 := A4.c 3; have A4_4 := A4.c 4; have A4_5 := A4.c 5; have A4_6 := A4.c 6; have A4_7 := A4.c 7; have A4_8 := A4.c 8; have A4_9 := A4.c 9; have A4_10 := A4.c 10; have A4_11 := A4.c 11; simp only [List.getElem?_cons_zero, List.getElem?_cons_succ] at A4_0 A4_1 A4_2 A4_3 A4_4 A4_5 A4_6 A4_7 A4_8 A4_9 A4_10 A4_11
            have A4f := A4.f
            clear C4 A4 D4
            cases kb
            · go_region
              all_goals
                obtain ⟨D5, QA⟩ := unhide HD5
                generalize hq0 : World.drew (World.setCell (World.setCell (World.setCell (World.setCell (World.setCell (World.setCell (World.setCell (World.setCell (World.setCell (World.setCell (World.setCell (World.setCell w4 _ _) _ _) _ _) _ _) _ _) _ _) _ _) _ _) _ _) _ _) _ _) _ _) = w5 at *
                have hq : (setAll w4 w.heap.size 0 [.slice ao n cap, .bool true, .int .i64 it.txn.id, .int .i64 it.txn.ep, .string it.txn.anchor, .int .i64 it.txn.start.1, .int .i64 it.txn.start.2, .int .i64 it.seq, .int .i64 it.at_.1, .int .i64 it.at_.2, .string it.val, .bool it.gone]).drew = w5 := hq0
                rw [hq] at D5 QA
                clear hq hq0 HD5 fb A4f C4_0 A4_0 C4_1 A4_1 C4_2 A4_2 C4_3 A4_3 C4_4 A4_4 C4_5 A4_5 C4_6 A4_6 C4_7 A4_7 C4_8 A4_8 C4_9 A4_9 C4_10 A4_10 C4_11 A4_11
                simp only [Exit.then]
                (first | (rename_i hK; refine hK _ _ ?_; clear hK) | (rename_i hK x1; refine hK _ _ ?_; clear hK) | (rename_i hK x1 x2; refine hK _ _ ?_; clear hK) | (rename_i hK x1 x2 x3; refine hK _ _ ?_; clear hK))
                apply wp_ret
                refine bodyPost_ret (results_ce Tryz.results26 ao n cap true it rfl rfl QA) rfl ?_
                refine ⟨ao, cap, ⟨us, true, it⟩, false, r11, b9, ?_, D5.v.mono (by omega), D5.d, D5.t, unhide HQ _ (by simp)⟩
                show _ = Ending.returned (.tuple #[(.agg #[.slice ao us.length cap, .bool true, .int .i64 it.txn.id, .int .i64 it.txn.ep, .string it.txn.anchor, .int .i64 it.txn.start.1, .int .i64 it.txn.start.2, .int .i64 it.seq, .int .i64 it.at_.1, .int .i64 it.at_.2, .string it.val, .bool it.gone]), .bool false])
                rw [unhide Hn]
                rfl
            · cases rb
              · go_region
                all_goals
                  obtain ⟨D5, QA⟩ := unhide HD5
                  generalize hq0 : World.drew (World.setCell (World.setCell (World.setCell (World.setCell (World.setCell (World.setCell (World.setCell (World.setCell (World.setCell (World.setCell (World.setCell (World.setCell w4 _ _) _ _) _ _) _ _) _ _) _ _) _ _) _ _) _ _) _ _) _ _) _ _) = w5 at *
                  have hq : (setAll w4 w.heap.size 0 [.slice ao n cap, .bool true, .int .i64 it.txn.id, .int .i64 it.txn.ep, .string it.txn.anchor, .int .i64 it.txn.start.1, .int .i64 it.txn.start.2, .int .i64 it.seq, .int .i64 it.at_.1, .int .i64 it.at_.2, .string it.val, .bool it.gone]).drew = w5 := hq0
                  rw [hq] at D5 QA
                  clear hq hq0 HD5 fb A4f C4_0 A4_0 C4_1 A4_1 C4_2 A4_2 C4_3 A4_3 C4_4 A4_4 C4_5 A4_5 C4_6 A4_6 C4_7 A4_7 C4_8 A4_8 C4_9 A4_9 C4_10 A4_10 C4_11 A4_11
                  simp only [Exit.then]
                  (first | (rename_i hK; refine hK _ _ ?_; clear hK) | (rename_i hK x1; refine hK _ _ ?_; clear hK) | (rename_i hK x1 x2; refine hK _ _ ?_; clear hK) | (rename_i hK x1 x2 x3; refine hK _ _ ?_; clear hK))
                  apply wp_ret
                  refine bodyPost_ret (results_ce Tryz.results26 ao n cap true it rfl rfl QA) rfl ?_
                  refine ⟨ao, cap, ⟨us, true, it⟩, false, r11, b9, ?_, D5.v.mono (by omega), D5.d, D5.t, unhide HQ _ (by simp)⟩
                  show _ = Ending.returned (.tuple #[(.agg #[.slice ao us.length cap, .bool true, .int .i64 it.txn.id, .int .i64 it.txn.ep, .string it.txn.anchor, .int .i64 it.txn.start.1, .int .i64 it.txn.start.2, .int .i64 it.seq, .int .i64 it.at_.1, .int .i64 it.at_.2, .string it.val, .bool it.gone]), .bool false])
                  rw [unhide Hn]
                  rfl
              · cases b9
                · by_cases h0 : 0 < a1
                  · have h0i : (0 : Int) < (a1 : Int) := by omega
                    go_region
                    all_goals
                      obtain ⟨D5, QA⟩ := unhide HD5
                      generalize hq0 : World.drew (World.setCell (World.setCell (World.setCell (World.setCell (World.setCell (World.setCell (World.setCell (World.setCell (World.setCell (World.setCell (World.setCell (World.setCell w4 _ _) _ _) _ _) _ _) _ _) _ _) _ _) _ _) _ _) _ _) _ _) _ _) = w5 at *
                      have hq : (setAll w4 w.heap.size 0 [.slice ao n cap, .bool true, .int .i64 it.txn.id, .int .i64 it.txn.ep, .string it.txn.anchor, .int .i64 it.txn.start.1, .int .i64 it.txn.start.2, .int .i64 it.seq, .int .i64 it.at_.1, .int .i64 it.at_.2, .string it.val, .bool it.gone]).drew = w5 := hq0
                      rw [hq] at D5 QA
                      clear hq hq0 HD5 fb A4f C4_0 A4_0 C4_1 A4_1 C4_2 A4_2 C4_3 A4_3 C4_4 A4_4 C4_5 A4_5 C4_6 A4_6 C4_7 A4_7 C4_8 A4_8 C4_9 A4_9 C4_10 A4_10 C4_11 A4_11
                      simp only [Exit.then]
                      (first | (rename_i hK; refine hK _ _ ?_; clear hK) | (rename_i hK x1; refine hK _ _ ?_; clear hK) | (rename_i hK x1 x2; refine hK _ _ ?_; clear hK) | (rename_i hK x1 x2 x3; refine hK _ _ ?_; clear hK))
                      apply wp_ret
                      refine bodyPost_ret (results_ce Tryz.results26 ao n cap true it rfl rfl QA) rfl ?_
                      refine ⟨ao, cap, ⟨us, true, it⟩, true, r11, false, ?_, D5.v.mono (by omega), D5.d, D5.t, unhide HQ _ (by simp)⟩
                      show _ = Ending.returned (.tuple #[(.agg #[.slice ao us.length cap, .bool true, .int .i64 it.txn.id, .int .i64 it.txn.ep, .string it.txn.anchor, .int .i64 it.txn.start.1, .int .i64 it.txn.start.2, .int .i64 it.seq, .int .i64 it.at_.1, .int .i64 it.at_.2, .string it.val, .bool it.gone]), .bool true])
                      rw [unhide Hn]
                      rfl
                  · have h0i : ¬ (0 : Int) < (a1 : Int) := by omega
                    have nM : ¬ w.heap.size = M := by omega
                    go_region_held (fun y => y.cell? ⟨M, 2, none⟩ = some (.bool false) ∧ y.cell? ⟨w.heap.size + 1, 0, none⟩ = some (.slice ao n cap) ∧ y.cell? ⟨w.heap.size + 1, 1, none⟩ = some (.bool true) ∧ y.cell? ⟨w.heap.size + 1, 2, none⟩ = some (.int .i64 it.txn.id) ∧ y.cell? ⟨w.heap.size + 1, 3, none⟩ = some (.int .i64 it.txn.ep) ∧ y.cell? ⟨w.heap.size + 1, 4, none⟩ = some (.string it.txn.anchor) ∧ y.cell? ⟨w.heap.size + 1, 5, none⟩ = some (.int .i64 it.txn.start.1) ∧ y.cell? ⟨w.heap.size + 1, 6, none⟩ = some (.int .i64 it.txn.start.2) ∧ y.cell? ⟨w.heap.size + 1, 7, none⟩ = some (.int .i64 it.seq) ∧ y.cell? ⟨w.heap.size + 1, 8, none⟩ = some (.int .i64 it.at_.1) ∧ y.cell? ⟨w.heap.size + 1, 9, none⟩ = some (.int .i64 it.at_.2) ∧ y.cell? ⟨w.heap.size + 1, 10, none⟩ = some (.string it.val) ∧ y.cell? ⟨w.heap.size + 1, 11, none⟩ = some (.bool it.gone)) (go_keep) (fail)
                    all_goals
                      obtain ⟨D5, QA⟩ := unhide HD5
                      generalize hq0 : World.drew (World.setCell (World.setCell (World.setCell (World.setCell (World.setCell (World.setCell (World.setCell (World.setCell (World.setCell (World.setCell (World.setCell (World.setCell w4 _ _) _ _) _ _) _ _) _ _) _ _) _ _) _ _) _ _) _ _) _ _) _ _) = w5 at *
                      have hq : (setAll w4 w.heap.size 0 [.slice ao n cap, .bool true, .int .i64 it.txn.id, .int .i64 it.txn.ep, .string it.txn.anchor, .int .i64 it.txn.start.1, .int .i64 it.txn.start.2, .int .i64 it.seq, .int .i64 it.at_.1, .int .i64 it.at_.2, .string it.val, .bool it.gone]).drew = w5 := hq0
                      rw [hq] at D5 QA
                      clear hq hq0 HD5 fb A4f C4_0 A4_0 C4_1 A4_1 C4_2 A4_2 C4_3 A4_3 C4_4 A4_4 C4_5 A4_5 C4_6 A4_6 C4_7 A4_7 C4_8 A4_8 C4_9 A4_9 C4_10 A4_10 C4_11 A4_11
                      simp only [Exit.then]
                      (first | (rename_i hK; refine hK _ _ ?_; clear hK) | (rename_i hK x1; refine hK _ _ ?_; clear hK) | (rename_i hK x1 x2; refine hK _ _ ?_; clear hK) | (rename_i hK x1 x2 x3; refine hK _ _ ?_; clear hK))
                      apply wp_ret
                      refine bodyPost_ret (results_ce Tryz.results26 ao n cap true it rfl rfl QA) rfl ?_
                      refine ⟨ao, cap, ⟨us, true, it⟩, true, r11, false, ?_, D5.v.mono (by omega), D5.d, D5.t, unhide HQ _ (by simp)⟩
                      show _ = Ending.returned (.tuple #[(.agg #[.slice ao us.length cap, .bool true, .int .i64 it.txn.id, .int .i64 it.txn.ep, .string it.txn.anchor, .int .i64 it.txn.start.1, .int .i64 it.txn.start.2, .int .i64 it.seq, .int .i64 it.at_.1, .int .i64 it.at_.2, .string it.val, .bool it.gone]), .bool true])
                      rw [unhide Hn]
                      rfl
                · go_region
                  all_goals
                    obtain ⟨D5, QA⟩ := unhide HD5
                    generalize hq0 : World.drew (World.setCell (World.setCell (World.setCell (World.setCell (World.setCell (World.setCell (World.setCell (World.setCell (World.setCell (World.setCell (World.setCell (World.setCell w4 _ _) _ _) _ _) _ _) _ _) _ _) _ _) _ _) _ _) _ _) _ _) _ _) = w5 at *
                    have hq : (setAll w4 w.heap.size 0 [.slice ao n cap, .bool true, .int .i64 it.txn.id, .int .i64 it.txn.ep, .string it.txn.anchor, .int .i64 it.txn.start.1, .int .i64 it.txn.start.2, .int .i64 it.seq, .int .i64 it.at_.1, .int .i64 it.at_.2, .string it.val, .bool it.gone]).drew = w5 := hq0
                    rw [hq] at D5 QA
                    clear hq hq0 HD5 fb A4f C4_0 A4_0 C4_1 A4_1 C4_2 A4_2 C4_3 A4_3 C4_4 A4_4 C4_5 A4_5 C4_6 A4_6 C4_7 A4_7 C4_8 A4_8 C4_9 A4_9 C4_10 A4_10 C4_11 A4_11
                    simp only [Exit.then]
                    (first | (rename_i hK; refine hK _ _ ?_; clear hK) | (rename_i hK x1; refine hK _ _ ?_; clear hK) | (rename_i hK x1 x2; refine hK _ _ ?_; clear hK) | (rename_i hK x1 x2 x3; refine hK _ _ ?_; clear hK))
                    apply wp_ret
                    refine bodyPost_ret (results_ce Tryz.results26 ao n cap true it rfl rfl QA) rfl ?_
                    refine ⟨ao, cap, ⟨us, true, it⟩, false, r11, true, ?_, D5.v.mono (by omega), D5.d, D5.t, unhide HQ _ (by simp)⟩
                    show _ = Ending.returned (.tuple #[(.agg #[.slice ao us.length cap, .bool true, .int .i64 it.txn.id, .int .i64 it.txn.ep, .string it.txn.anchor, .int .i64 it.txn.start.1, .int .i64 it.txn.start.2, .int .i64 it.seq, .int .i64 it.at_.1, .int .i64 it.at_.2, .string it.val, .bool it.gone]), .bool false])
                    rw [unhide Hn]
                    rfl
end

end Go.Proofs.YtcdehnghggleoaaGreat
