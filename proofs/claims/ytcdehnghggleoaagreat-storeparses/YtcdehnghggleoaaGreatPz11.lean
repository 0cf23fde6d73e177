/-
  A store's parts: a chain. No law is proved here.
-/
import Derived.Test.YtcdehnghggleoaaGreatGz9
namespace Go.Proofs.YtcdehnghggleoaaGreat
open Go.RowKit
set_option linter.unusedVariables false

theorem verP_len (er : Int) (l : List UInt8) : (verP er l).2.2.length ≤ l.length := by
  unfold verP
  exact Nat.le_trans (numP_len _ _) (Nat.le_trans (valP_len _ _) (stpP_len er l))
theorem numP_le (er : Int) (l : List UInt8) : (numP er l).1 ≤ 1099511627776 := by
  unfold numP
  split
  · rcases P1.rdN_one l mxN with ⟨_, h, _⟩ | ⟨_, _, h, _⟩
    · omega
    · have h : ((P1.rdN l mxN).1 : Int) ≤ 1099511627776 := h
      omega
  · exact Nat.zero_le _
theorem vrsP_step {m : Nat} {l : List UInt8} {us : List Ver} : vrsP (m + 1) 0 l us = vrsP m (verP 0 l).2.1 (verP 0 l).2.2 (us ++ [(verP 0 l).1]) := by
  rw [vrsP, if_pos rfl]

theorem Pt.grown {w w' : World} {P R B : Nat} {er : Int} {l : List UInt8} {ao : Option Addr} {c : Nat} {us : List Ver} (h : Pt w P R er l) (hv : VOwn B w ao c us) (hP : P < B) (hR : R < B) {n : Nat} (hn : us.length = n) (hg : w.grownBy w' (Value.slice ao n c).ownBlock) : Pt w' P R er l := by
  subst hn
  have hrow : ∀ k, k < B → k < w.heap.size → w'.heap[k]? = w.heap[k]? := fun k hk hs => hg.block k hs (fun e => by have := (hv.lt k e.symm).1; omega)
  have eP := hrow P hP h.c.lt
  have eR := hrow R hR h.r.lt
  obtain ⟨bo, n, d, h1, h2, h3, h4⟩ := h.r
  refine ⟨⟨fun j => (World.cell?_of_block (a := ⟨P, j, none⟩) eP).trans (h.c.c j), fun j => (World.frozen?_of_block (a := ⟨P, j, none⟩) eP).trans (h.c.f j), Nat.lt_of_lt_of_le h.c.lt hg.size⟩, ⟨bo, n, d, (World.cell?_of_block (a := ⟨R, 0, none⟩) eR).trans h1, (World.frozen?_of_block (a := ⟨R, 0, none⟩) eR).trans h2, ?_, ?_⟩, h.ne⟩
  all_goals
    have hne : ∀ a, bo = some a → w'.heap[a.block]? = w.heap[a.block]? := fun a ha => by
      obtain ⟨m, hm⟩ := h4 a ha
      refine hg.block _ (P1.shape_lt hm) (fun e => ?_)
      rcases hv.2 with ⟨e1, _⟩ | ⟨g, cap, cur, e1, hb, hgc, _⟩
      · injection e1 with e1
        subst e1
        cases e
      · injection e1 with e1
        subst e1
        injection e with e
        simp only at e
        rw [e] at hm
        simp [World.shape?, hgc] at hm
  · obtain ⟨ao', d', e', g1, g2, g3, g4⟩ := h3
    injection e' with e1 e2 e3
    subst e1 e2 e3
    exact ⟨bo, d, rfl, g1, g2, g3, fun a ha j u hu => (World.cell?_of_block (by rw [P1.Addr.add_block]; exact hne a ha)).trans (g4 a ha j u hu)⟩
  · intro a ha
    obtain ⟨m, hm⟩ := h4 a ha
    exact ⟨m, (P1.shape_block (hne a ha)).trans hm⟩
theorem PtM.grown {P R B : Nat} {a b c : World} (h : PtM P R a b) {ao : Option Addr} {d n : Nat} {us : List Ver} (hv : VOwn B b ao d us) (hn : us.length = n) (hB : a.heap.size ≤ B) (hg : b.grownBy c (Value.slice ao n d).ownBlock) : PtM P R a c := by
  subst hn
  exact ⟨hg.os.trans h.os, hg.tape.trans h.tape, hg.output.trans h.output, Nat.le_trans h.size hg.size, fun k hk n1 n2 => (hg.block k (Nat.lt_of_lt_of_le hk h.size) (fun e => by have := (hv.lt k e.symm).1; omega)).trans (h.blk k hk n1 n2)⟩
theorem Blk.own_grown {w w' : World} {B S : Nat} {cs : List Value} {ao : Option Addr} {c n : Nat} {us : List Ver} (h : Blk w B cs) (hv : VOwn S w ao c us) (hn : us.length = n) (hB : B < S) (hg : w.grownBy w' (Value.slice ao n c).ownBlock) : Blk w' B cs := by
  subst hn
  have e := hg.block B h.lt (fun e => by have := (hv.lt B e.symm).1; omega)
  exact ⟨fun j => (World.cell?_of_block (a := ⟨B, j, none⟩) e).trans (h.c j), fun j => (World.frozen?_of_block (a := ⟨B, j, none⟩) e).trans (h.f j), Nat.lt_of_lt_of_le h.lt hg.size⟩
theorem chnP_of {er : Int} {l : List UInt8} {a1 : Nat} {a2 : Int} {a3 : List UInt8} (ha : numP er l = (a1, a2, a3)) {us : List Ver} {er2 : Int} {l2 : List UInt8} (hv : vrsP a1 a2 a3 [] = (us, er2, l2)) {o1 : Bool} {o2 : Int} {o3 : List UInt8} (ho : flgP er2 l2 = (o1, o2, o3)) :
    chnP er l = if o1 = true then (⟨us, true, (itnP o2 o3).1⟩, (itnP o2 o3).2) else (⟨us, false, Itn.zero⟩, o2, o3) := by
  unfold chnP
  simp only [ha, hv, ho]

section
set_option maxRecDepth 100000
set_option maxHeartbeats 40000000

theorem pchain_any (P R : Nat) (er : Int) (l : List UInt8) (w : World) (h : Pt w P R er l) (hl : l.length ≤ 1099511627776) :
    Calls Tryz.prog 16 #[.pointer (some ⟨P, 0, none⟩)] w fun e w' => ∃ ao cap c, c = (chnP er l).1 ∧ e = .returned (.agg #[.slice ao c.vs.length cap, .bool c.opn, .int .i64 c.itn.txn.id, .int .i64 c.itn.txn.ep, .string c.itn.txn.anchor, .int .i64 c.itn.txn.start.1, .int .i64 c.itn.txn.start.2, .int .i64 c.itn.seq, .int .i64 c.itn.at_.1, .int .i64 c.itn.at_.2, .string c.itn.val, .bool c.itn.gone]) ∧ VOwn w.heap.size w' ao cap c.vs ∧ Pt w' P R (chnP er l).2.1 (chnP er l).2.2 ∧ PtM P R w w' := by
  have c1 := fun w' (h : Pt w' P R er l) => pnumber_any P R er l w' h hl
  have l1 := numP_len er l
  have l0 := numP_le er l
  obtain ⟨a1, a2, a3, ha⟩ : ∃ a1 a2 a3, numP er l = (a1, a2, a3) := ⟨_, _, _, rfl⟩
  rw [ha] at c1 l1 l0
  simp only at c1 l1 l0
  have HC : Hid (∀ (us : List Ver) (er2 : Int) (l2 : List UInt8) (o1 : Bool) (o2 : Int) (o3 : List UInt8), vrsP a1 a2 a3 [] = (us, er2, l2) → flgP er2 l2 = (o1, o2, o3) → chnP er l = if o1 = true then (⟨us, true, (itnP o2 o3).1⟩, (itnP o2 o3).2) else (⟨us, false, Itn.zero⟩, o2, o3)) := fun _ _ _ _ _ _ hv ho => chnP_of ha hv ho
  generalize chnP er l = cc at *
  clear ha
  have g1 := h.r.lt
  have g2 := h.c.lt
  have j1 : w.heap.size + 1 ≠ P := by omega
  have j2 : w.heap.size + 1 ≠ R := by omega
  have j3 : w.heap.size ≠ w.heap.size + 1 := by omega
  have A := (Blk.new w #[.slice none 0 0, .bool false, .int .i64 0, .int .i64 0, .string ⟨#[]⟩, .int .i64 0, .int .i64 0, .int .i64 0, .int .i64 0, .int .i64 0, .string ⟨#[]⟩, .bool false] 61).alloc (.cells #[.slice none 0 0, .bool false, .int .i64 0, .int .i64 0, .string ⟨#[]⟩, .int .i64 0, .int .i64 0, .int .i64 0, .int .i64 0, .int .i64 0, .string ⟨#[]⟩, .bool false] 61)
  have C := Blk.new (w.alloc (.cells #[.slice none 0 0, .bool false, .int .i64 0, .int .i64 0, .string ⟨#[]⟩, .int .i64 0, .int .i64 0, .int .i64 0, .int .i64 0, .int .i64 0, .string ⟨#[]⟩, .bool false] 61)) #[.slice none 0 0, .bool false, .int .i64 0, .int .i64 0, .string ⟨#[]⟩, .int .i64 0, .int .i64 0, .int .i64 0, .int .i64 0, .int .i64 0, .string ⟨#[]⟩, .bool false] 61
  rw [show (w.alloc (.cells #[.slice none 0 0, .bool false, .int .i64 0, .int .i64 0, .string ⟨#[]⟩, .int .i64 0, .int .i64 0, .int .i64 0, .int .i64 0, .int .i64 0, .string ⟨#[]⟩, .bool false] 61)).heap.size = w.heap.size + 1 by simp] at C
  have hB : Below w.heap.size w ((w.alloc (.cells #[.slice none 0 0, .bool false, .int .i64 0, .int .i64 0, .string ⟨#[]⟩, .int .i64 0, .int .i64 0, .int .i64 0, .int .i64 0, .int .i64 0, .string ⟨#[]⟩, .bool false] 61)).alloc (.cells #[.slice none 0 0, .bool false, .int .i64 0, .int .i64 0, .string ⟨#[]⟩, .int .i64 0, .int .i64 0, .int .i64 0, .int .i64 0, .int .i64 0, .string ⟨#[]⟩, .bool false] 61)) := ((Below.refl w.heap.size w).alloc (Nat.le_refl _) _).alloc (by simp) _
  have h0 := h.later hB
  have M := hide (PtM.of (P := P) (R := R) hB)
  have hz : w.heap.size + 2 ≤ ((w.alloc (.cells #[.slice none 0 0, .bool false, .int .i64 0, .int .i64 0, .string ⟨#[]⟩, .int .i64 0, .int .i64 0, .int .i64 0, .int .i64 0, .int .i64 0, .string ⟨#[]⟩, .bool false] 61)).alloc (.cells #[.slice none 0 0, .bool false, .int .i64 0, .int .i64 0, .string ⟨#[]⟩, .int .i64 0, .int .i64 0, .int .i64 0, .int .i64 0, .int .i64 0, .string ⟨#[]⟩, .bool false] 61)).heap.size := by simp
  clear h hB
  go_enter Tryz.func16, Tryz.ntmps16
  go_wp2_with fail
  generalize (w.alloc _).alloc _ = W at *
  refine (c1 W h0).mono ?_
  clear c1 h0
  rintro e w1 ⟨rfl, h1, mm⟩
  replace A := A.ptm (by omega) (by omega) mm
  replace C := C.ptm (by omega) (by omega) mm
  replace M := hide ((unhide M).trans mm)
  replace hz := Nat.le_trans hz mm.size
  clear mm
  go_wp2
  go_loopw [4] (fun vn wr => ∃ (k : Nat) (er2 : Int) (l2 : List UInt8) (us : List Ver) (ao : Option Addr) (cap : Nat), vn = .int .i64 (k : Int) ∧ Hid (vrsP a1 a2 a3 [] = vrsP k er2 l2 us) ∧ Pt wr P R er2 l2 ∧ l2.length ≤ 1099511627776 ∧ Blk wr w.heap.size [.slice none 0 0, .bool false, .int .i64 0, .int .i64 0, .string ⟨#[]⟩, .int .i64 0, .int .i64 0, .int .i64 0, .int .i64 0, .int .i64 0, .string ⟨#[]⟩, .bool false] ∧ Blk wr (w.heap.size + 1) [.slice ao us.length cap, .bool false, .int .i64 0, .int .i64 0, .string ⟨#[]⟩, .int .i64 0, .int .i64 0, .int .i64 0, .int .i64 0, .int .i64 0, .string ⟨#[]⟩, .bool false] ∧ VOwn (w.heap.size + 2) wr ao cap us ∧ PtM P R w wr ∧ us.length + k ≤ a1 ∧ w.heap.size + 2 ≤ wr.heap.size)
    (fun vn _ => (intOf vn).toNat)
  case atStart => exact ⟨a1, a2, a3, [], none, 0, rfl, rfl, h1, by omega, A, C, VOwn.zero _ _, unhide M, by simp, hz⟩
  case round =>
    obtain ⟨k, er2, l2, us, ao, cap, rfl, hv, hp, hl2, A, C, V, hm, hle, hz⟩ := hrel
    have M := hide hm
    clear hm
    have Cp := hp.c
    have Cp_0 := Cp.c 0; have Cp_1 := Cp.c 1; simp only [List.getElem?_cons_zero, List.getElem?_cons_succ] at Cp_0 Cp_1
    clear Cp
    by_cases hk : k = 0
    · subst hk
      have HV : Hid (vrsP a1 a2 a3 [] = (us, er2, l2)) := unhide hv
      obtain ⟨o1, o2, o3, ho⟩ : ∃ o1 o2 o3, flgP er2 l2 = (o1, o2, o3) := ⟨_, _, _, rfl⟩
      have HCC := hide (unhide HC _ _ _ _ _ _ (unhide HV) ho)
      have CF := fun w' (h : Pt w' P R er2 l2) => pflag_any P R er2 l2 w' h hl2
      have ll := flgP_len er2 l2
      rw [ho] at CF ll
      simp only at CF ll
      have CI := fun w' (h : Pt w' P R o2 o3) => pintent_any P R o2 o3 w' h (Nat.le_trans ll hl2)
      clear ho HC HV ll
      obtain ⟨n, hn⟩ : ∃ n, us.length = n := ⟨_, rfl⟩
      rw [hn] at C
      have HN := hide hn
      clear hn hle
      have HV2 := hide V
      have HC := hide (And.intro A C)
      clear V A C hv
      go_wp2_with fail
      refine (CF _ hp).mono ?_
      clear CF hp
      rintro e w2 ⟨rfl, h2, mm⟩
      obtain ⟨A, C⟩ := unhide HC
      replace A := A.ptm (by omega) (by omega) mm
      replace C := C.ptm (by omega) (by omega) mm
      have V := VOwn.ptm (unhide HV2) (by omega) (by omega) mm
      replace M := hide ((unhide M).trans mm)
      clear mm HC HV2
      have C0 := C
      have C0_0 := C0.c 0; have C0_1 := C0.c 1; have C0_2 := C0.c 2; have C0_3 := C0.c 3; have C0_4 := C0.c 4; have C0_5 := C0.c 5; have C0_6 := C0.c 6; have C0_7 := C0.c 7; have C0_8 := C0.c 8; have C0_9 := C0.c 9; have C0_10 := C0.c 10; have C0_11 := C0.c 11; simp only [List.getElem?_cons_zero, List.getElem?_cons_succ] at C0_0 C0_1 C0_2 C0_3 C0_4 C0_5 C0_6 C0_7 C0_8 C0_9 C0_10 C0_11
      have Cf := C.f
      have A0 := A
      have A0_0 := A0.c 0; have A0_1 := A0.c 1; have A0_2 := A0.c 2; have A0_3 := A0.c 3; have A0_4 := A0.c 4; have A0_5 := A0.c 5; have A0_6 := A0.c 6; have A0_7 := A0.c 7; have A0_8 := A0.c 8; have A0_9 := A0.c 9; have A0_10 := A0.c 10; have A0_11 := A0.c 11; simp only [List.getElem?_cons_zero, List.getElem?_cons_succ] at A0_0 A0_1 A0_2 A0_3 A0_4 A0_5 A0_6 A0_7 A0_8 A0_9 A0_10 A0_11
      have Af := A.f
      have Ca : Blk (setAll w2 (w.heap.size + 1) 1 [.bool o1]) (w.heap.size + 1) ([.slice ao n cap] ++ [.bool o1] ++ [.int .i64 0, .int .i64 0, .string ⟨#[]⟩, .int .i64 0, .int .i64 0, .int .i64 0, .int .i64 0, .int .i64 0, .string ⟨#[]⟩, .bool false]) := Blk.mid C [.bool o1] 1 [.slice ao n cap] [.bool false] [.int .i64 0, .int .i64 0, .string ⟨#[]⟩, .int .i64 0, .int .i64 0, .int .i64 0, .int .i64 0, .int .i64 0, .string ⟨#[]⟩, .bool false] rfl rfl rfl
      have Aa := Blk.others j3 [.bool o1] 1 A
      have Va := VOwn.others (C := w.heap.size + 1) (Nat.lt_succ_self _) [.bool o1] 1 V
      have Ma := hide (PtM.newAll (B := w.heap.size + 1) (Nat.le_succ _) [.bool o1] 1 (unhide M))
      have h3 := Pt.others (B := w.heap.size + 1) j1 j2 [.bool o1] 1 h2 C (by simp) (by simp) (by simp)
      have HH := hide (And.intro h3 (And.intro Aa (And.intro Ca Va)))
      clear C A V M C0 A0 Aa Ca Va h3 h2
      cases o1
      · go_wp2
        obtain ⟨h3, A, C, V⟩ := unhide HH
        have QA := A.all [.slice ao n cap, .bool false, .int .i64 Itn.zero.txn.id, .int .i64 Itn.zero.txn.ep, .string Itn.zero.txn.anchor, .int .i64 Itn.zero.txn.start.1, .int .i64 Itn.zero.txn.start.2, .int .i64 Itn.zero.seq, .int .i64 Itn.zero.at_.1, .int .i64 Itn.zero.at_.2, .string Itn.zero.val, .bool Itn.zero.gone] rfl
        refine bodyPost_ret (results_c Tryz.results16 ao n cap false Itn.zero rfl QA) rfl ?_
        refine ⟨ao, cap, ⟨us, false, Itn.zero⟩, by rw [unhide HCC]; rfl, ?_, (VOwn.others (C := w.heap.size) (by omega) [.slice ao n cap, .bool false, .int .i64 Itn.zero.txn.id, .int .i64 Itn.zero.txn.ep, .string Itn.zero.txn.anchor, .int .i64 Itn.zero.txn.start.1, .int .i64 Itn.zero.txn.start.2, .int .i64 Itn.zero.seq, .int .i64 Itn.zero.at_.1, .int .i64 Itn.zero.at_.2, .string Itn.zero.val, .bool Itn.zero.gone] 0 V).mono (by omega), by rw [unhide HCC]; exact Pt.others (B := w.heap.size) (by omega) (by omega) [.slice ao n cap, .bool false, .int .i64 Itn.zero.txn.id, .int .i64 Itn.zero.txn.ep, .string Itn.zero.txn.anchor, .int .i64 Itn.zero.txn.start.1, .int .i64 Itn.zero.txn.start.2, .int .i64 Itn.zero.seq, .int .i64 Itn.zero.at_.1, .int .i64 Itn.zero.at_.2, .string Itn.zero.val, .bool Itn.zero.gone] 0 h3 A (by simp) (by simp) (by simp), PtM.newAll (Nat.le_refl _) [.slice ao n cap, .bool false, .int .i64 Itn.zero.txn.id, .int .i64 Itn.zero.txn.ep, .string Itn.zero.txn.anchor, .int .i64 Itn.zero.txn.start.1, .int .i64 Itn.zero.txn.start.2, .int .i64 Itn.zero.seq, .int .i64 Itn.zero.at_.1, .int .i64 Itn.zero.at_.2, .string Itn.zero.val, .bool Itn.zero.gone] 0 (unhide Ma)⟩
        show _ = Ending.returned (.agg #[.slice ao us.length cap, .bool false, .int .i64 Itn.zero.txn.id, .int .i64 Itn.zero.txn.ep, .string Itn.zero.txn.anchor, .int .i64 Itn.zero.txn.start.1, .int .i64 Itn.zero.txn.start.2, .int .i64 Itn.zero.seq, .int .i64 Itn.zero.at_.1, .int .i64 Itn.zero.at_.2, .string Itn.zero.val, .bool Itn.zero.gone])
        rw [unhide HN]
      · go_wp2_with fail
        obtain ⟨h3, A, C, V⟩ := unhide HH
        change Calls _ _ _ (setAll w2 (w.heap.size + 1) 1 [.bool true]) _
        generalize setAll w2 (w.heap.size + 1) 1 [.bool true] = w3 at *
        clear HH C0_0 C0_1 C0_2 C0_3 C0_4 C0_5 C0_6 C0_7 C0_8 C0_9 C0_10 C0_11 Cf A0_0 A0_1 A0_2 A0_3 A0_4 A0_5 A0_6 A0_7 A0_8 A0_9 A0_10 A0_11 Af
        refine (CI w3 h3).mono ?_
        clear CI h3
        rintro e w4 ⟨i, hi, rfl, h4, mm⟩
        have HI := hide hi
        replace A := A.ptm (by omega) (by omega) mm
        replace C := C.ptm (by omega) (by omega) mm
        replace V := V.ptm (by omega) (by omega) mm
        replace Ma := hide ((unhide Ma).trans mm)
        clear mm hi
        simp only [List.cons_append, List.nil_append] at C
        have C0 := C
        have C0_0 := C0.c 0; have C0_1 := C0.c 1; have C0_2 := C0.c 2; have C0_3 := C0.c 3; have C0_4 := C0.c 4; have C0_5 := C0.c 5; have C0_6 := C0.c 6; have C0_7 := C0.c 7; have C0_8 := C0.c 8; have C0_9 := C0.c 9; have C0_10 := C0.c 10; have C0_11 := C0.c 11; simp only [List.getElem?_cons_zero, List.getElem?_cons_succ] at C0_0 C0_1 C0_2 C0_3 C0_4 C0_5 C0_6 C0_7 C0_8 C0_9 C0_10 C0_11
        have Cf := C.f
        have A0 := A
        have A0_0 := A0.c 0; have A0_1 := A0.c 1; have A0_2 := A0.c 2; have A0_3 := A0.c 3; have A0_4 := A0.c 4; have A0_5 := A0.c 5; have A0_6 := A0.c 6; have A0_7 := A0.c 7; have A0_8 := A0.c 8; have A0_9 := A0.c 9; have A0_10 := A0.c 10; have A0_11 := A0.c 11; simp only [List.getElem?_cons_zero, List.getElem?_cons_succ] at A0_0 A0_1 A0_2 A0_3 A0_4 A0_5 A0_6 A0_7 A0_8 A0_9 A0_10 A0_11
        have Af := A.f
        have HH := hide (And.intro h4 (And.intro A (And.intro C V)))
        clear h4 A C V C0 A0
        go_upto_region 9 with fail
        obtain ⟨h4, A, C, V⟩ := unhide HH
        have C5 := Blk.mid C [.int .i64 i.txn.id, .int .i64 i.txn.ep, .string i.txn.anchor, .int .i64 i.txn.start.1, .int .i64 i.txn.start.2, .int .i64 i.seq, .int .i64 i.at_.1, .int .i64 i.at_.2, .string i.val, .bool i.gone] 2 [.slice ao n cap, .bool true] [.int .i64 0, .int .i64 0, .string ⟨#[]⟩, .int .i64 0, .int .i64 0, .int .i64 0, .int .i64 0, .int .i64 0, .string ⟨#[]⟩, .bool false] [] rfl rfl rfl
        have A5 := Blk.others j3 [.int .i64 i.txn.id, .int .i64 i.txn.ep, .string i.txn.anchor, .int .i64 i.txn.start.1, .int .i64 i.txn.start.2, .int .i64 i.seq, .int .i64 i.at_.1, .int .i64 i.at_.2, .string i.val, .bool i.gone] 2 A
        have V5 := VOwn.others (C := w.heap.size + 1) (Nat.lt_succ_self _) [.int .i64 i.txn.id, .int .i64 i.txn.ep, .string i.txn.anchor, .int .i64 i.txn.start.1, .int .i64 i.txn.start.2, .int .i64 i.seq, .int .i64 i.at_.1, .int .i64 i.at_.2, .string i.val, .bool i.gone] 2 V
        have h5 := Pt.others (B := w.heap.size + 1) j1 j2 [.int .i64 i.txn.id, .int .i64 i.txn.ep, .string i.txn.anchor, .int .i64 i.txn.start.1, .int .i64 i.txn.start.2, .int .i64 i.seq, .int .i64 i.at_.1, .int .i64 i.at_.2, .string i.val, .bool i.gone] 2 h4 C (by simp) (by simp) (by simp)
        have M5 := PtM.newAll (B := w.heap.size + 1) (Nat.le_succ _) [.int .i64 i.txn.id, .int .i64 i.txn.ep, .string i.txn.anchor, .int .i64 i.txn.start.1, .int .i64 i.txn.start.2, .int .i64 i.seq, .int .i64 i.at_.1, .int .i64 i.at_.2, .string i.val, .bool i.gone] 2 (unhide Ma)
        simp only [List.cons_append, List.nil_append, List.append_nil] at C5
        generalize hq : (World.setCell (World.setCell (World.setCell (World.setCell (World.setCell (World.setCell (World.setCell (World.setCell (World.setCell (World.setCell w4 _ _) _ _) _ _) _ _) _ _) _ _) _ _) _ _) _ _) _ _) = w5
        have hq : setAll w4 (w.heap.size + 1) 2 [.int .i64 i.txn.id, .int .i64 i.txn.ep, .string i.txn.anchor, .int .i64 i.txn.start.1, .int .i64 i.txn.start.2, .int .i64 i.seq, .int .i64 i.at_.1, .int .i64 i.at_.2, .string i.val, .bool i.gone] = w5 := hq
        rw [hq] at C5 A5 V5 h5 M5
        clear hq HH h4 A C V Ma C0_0 C0_1 C0_2 C0_3 C0_4 C0_5 C0_6 C0_7 C0_8 C0_9 C0_10 C0_11 Cf A0_0 A0_1 A0_2 A0_3 A0_4 A0_5 A0_6 A0_7 A0_8 A0_9 A0_10 A0_11 Af
        have C0 := C5
        have C0_0 := C0.c 0; have C0_1 := C0.c 1; have C0_2 := C0.c 2; have C0_3 := C0.c 3; have C0_4 := C0.c 4; have C0_5 := C0.c 5; have C0_6 := C0.c 6; have C0_7 := C0.c 7; have C0_8 := C0.c 8; have C0_9 := C0.c 9; have C0_10 := C0.c 10; have C0_11 := C0.c 11; simp only [List.getElem?_cons_zero, List.getElem?_cons_succ] at C0_0 C0_1 C0_2 C0_3 C0_4 C0_5 C0_6 C0_7 C0_8 C0_9 C0_10 C0_11
        have A0 := A5
        have A0_0 := A0.c 0; have A0_1 := A0.c 1; have A0_2 := A0.c 2; have A0_3 := A0.c 3; have A0_4 := A0.c 4; have A0_5 := A0.c 5; have A0_6 := A0.c 6; have A0_7 := A0.c 7; have A0_8 := A0.c 8; have A0_9 := A0.c 9; have A0_10 := A0.c 10; have A0_11 := A0.c 11; simp only [List.getElem?_cons_zero, List.getElem?_cons_succ] at A0_0 A0_1 A0_2 A0_3 A0_4 A0_5 A0_6 A0_7 A0_8 A0_9 A0_10 A0_11
        have Af := A5.f
        have HH := hide (And.intro h5 (And.intro A5 (And.intro V5 M5)))
        clear h5 A5 C5 V5 M5 C0 A0
        go_wp2
        obtain ⟨h5, A5, V5, M5⟩ := unhide HH
        have QA := A5.all [.slice ao n cap, .bool true, .int .i64 i.txn.id, .int .i64 i.txn.ep, .string i.txn.anchor, .int .i64 i.txn.start.1, .int .i64 i.txn.start.2, .int .i64 i.seq, .int .i64 i.at_.1, .int .i64 i.at_.2, .string i.val, .bool i.gone] rfl
        refine bodyPost_ret (results_c Tryz.results16 ao n cap true i rfl QA) rfl ?_
        refine ⟨ao, cap, ⟨us, true, i⟩, by rw [unhide HCC, unhide HI]; rfl, ?_, (VOwn.others (C := w.heap.size) (by omega) [.slice ao n cap, .bool true, .int .i64 i.txn.id, .int .i64 i.txn.ep, .string i.txn.anchor, .int .i64 i.txn.start.1, .int .i64 i.txn.start.2, .int .i64 i.seq, .int .i64 i.at_.1, .int .i64 i.at_.2, .string i.val, .bool i.gone] 0 V5).mono (by omega), by rw [unhide HCC]; exact Pt.others (B := w.heap.size) (by omega) (by omega) [.slice ao n cap, .bool true, .int .i64 i.txn.id, .int .i64 i.txn.ep, .string i.txn.anchor, .int .i64 i.txn.start.1, .int .i64 i.txn.start.2, .int .i64 i.seq, .int .i64 i.at_.1, .int .i64 i.at_.2, .string i.val, .bool i.gone] 0 h5 A5 (by simp) (by simp) (by simp), PtM.newAll (Nat.le_refl _) [.slice ao n cap, .bool true, .int .i64 i.txn.id, .int .i64 i.txn.ep, .string i.txn.anchor, .int .i64 i.txn.start.1, .int .i64 i.txn.start.2, .int .i64 i.seq, .int .i64 i.at_.1, .int .i64 i.at_.2, .string i.val, .bool i.gone] 0 M5⟩
        show _ = Ending.returned (.agg #[.slice ao us.length cap, .bool true, .int .i64 i.txn.id, .int .i64 i.txn.ep, .string i.txn.anchor, .int .i64 i.txn.start.1, .int .i64 i.txn.start.2, .int .i64 i.seq, .int .i64 i.at_.1, .int .i64 i.at_.2, .string i.val, .bool i.gone])
        rw [unhide HN]
    · by_cases h0 : er2 = 0
      · subst h0
        obtain ⟨m, rfl⟩ : ∃ m, k = m + 1 := ⟨k - 1, by omega⟩
        have hv := unhide hv
        rw [vrsP_step] at hv
        have HV := hide hv
        have lv := verP_len 0 l2
        have CV := fun w' (h : Pt w' P R 0 l2) => pversion_any P R 0 l2 w' h hl2
        generalize verP 0 l2 = v at *
        obtain ⟨v1, v2, v3⟩ := v
        simp only at CV HV lv
        obtain ⟨n, hn⟩ : ∃ n, us.length = n := ⟨_, rfl⟩
        have HN := hide hn
        rw [hn] at C hle
        clear hv hk
        have gz : (0 : Int) < ((m + 1 : Nat) : Int) := by omega
        have Cd := C.later (Below.refl _ _).drew
        have hpd := hp.later (Below.refl _ _).drew
        have hVd := V.later (Below.refl _ _).drew
        have hAd := A.later (Below.refl _ _).drew
        have hMd := (unhide M).trans (PtM.of (P := P) (R := R) (Below.refl wr.heap.size wr).drew)
        have hzd : w.heap.size + 2 ≤ wr.drew.heap.size := hz
        have HD := hide (And.intro hpd (And.intro hAd (And.intro hVd (And.intro hMd (And.intro Cd hzd)))))
        have CV' := hide (CV _ hpd)
        have Hlim : Hid (us.length + [us].length ≤ 2932031007401) := by unfold Hid; rw [hn]; simp; omega
        have C0 := C
        have C0_0 := C0.c 0; have C0_1 := C0.c 1; have C0_2 := C0.c 2; have C0_3 := C0.c 3; have C0_4 := C0.c 4; have C0_5 := C0.c 5; have C0_6 := C0.c 6; have C0_7 := C0.c 7; have C0_8 := C0.c 8; have C0_9 := C0.c 9; have C0_10 := C0.c 10; have C0_11 := C0.c 11; simp only [List.getElem?_cons_zero, List.getElem?_cons_succ] at C0_0 C0_1 C0_2 C0_3 C0_4 C0_5 C0_6 C0_7 C0_8 C0_9 C0_10 C0_11
        have Cf := C.f
        clear hp A V M hpd hVd hAd hMd Cd hzd CV C C0 hz hn
        go_upto_region 5 with fail
        clear Cp_0 Cp_1
        go_region_law (first | (refine step_append_vs rfl (.tmp 19) (.tmp 22) rfl (w.heap.size + 2) ao (some ⟨w4.heap.size, 0, none⟩) cap 1 n 1 (n + 1) us [v] rfl rfl (Nat.le_trans (unhide Hs5) (by simp)) (unhide HN) rfl rfl (unhide HV5) (vs_one w4 v) (unhide Hlim) ?_; intro eo f w7 ho7 hg7; have H7 := hide (And.intro (And.intro ((C5.alloc (.cells #[.int .i64 v.at_.1, .int .i64 v.at_.2, .string v.val, .bool v.gone, .int .i64 v.by_] 97)).own_grown (unhide HV5) (unhide HN) (Nat.lt_succ_self _) hg7) ((A5.alloc (.cells #[.int .i64 v.at_.1, .int .i64 v.at_.2, .string v.val, .bool v.gone, .int .i64 v.by_] 97)).own_grown (unhide HV5) (unhide HN) (by omega) hg7)) (And.intro (((unhide H5).1.later ((Below.refl _ _).alloc (Nat.le_refl _) (.cells #[.int .i64 v.at_.1, .int .i64 v.at_.2, .string v.val, .bool v.gone, .int .i64 v.by_] 97))).grown (unhide HV5) (by omega) (by omega) (unhide HN) hg7) (And.intro (((unhide H5).2.trans (PtM.of ((Below.refl _ _).alloc (Nat.le_refl _) (.cells #[.int .i64 v.at_.1, .int .i64 v.at_.2, .string v.val, .bool v.gone, .int .i64 v.by_] 97)))).grown (unhide HV5) (unhide HN) (by omega) hg7) (And.intro ho7 (Nat.le_trans (Nat.le_trans (unhide Hs5) (by simp)) hg7.size))))); have C7 := (unhide H7).1.1; have C7_0 := C7.c 0; simp only [List.getElem?_cons_zero] at C7_0; have C7f := C7.f; clear ho7 hg7 C7) | (go_simp; go_at_call 51; refine (unhide CV').mono ?_; rintro e w4 ⟨v, hv1, rfl, h4, mm⟩; have C5 := (unhide HD).2.2.2.2.1.ptm j1 j2 mm; have A5 := (unhide HD).2.1.ptm (by omega) (by omega) mm; have HV5 := hide ((VOwn.ptm (unhide HD).2.2.1 (by omega) (by omega) mm).later ((Below.refl _ _).alloc (Nat.le_refl _) (.cells #[.int .i64 v.at_.1, .int .i64 v.at_.2, .string v.val, .bool v.gone, .int .i64 v.by_] 97))); have Hs5 : Hid (w.heap.size + 2 ≤ w4.heap.size) := hide (Nat.le_trans (unhide HD).2.2.2.2.2 mm.size); have H5 := hide (And.intro h4 ((unhide HD).2.2.2.1.trans mm)); have Hv1 := hide hv1; have C5a := fun o => (C5.alloc o).c 0; simp only [List.getElem?_cons_zero] at C5a; have C5b := C5.c 0; simp only [List.getElem?_cons_zero] at C5b; clear hv1 h4 mm))
        all_goals
          obtain ⟨⟨C7, A7⟩, P7, M7, V7, z7⟩ := unhide H7
          obtain rfl : v = v1 := unhide Hv1
          have C8 := C7.set 0 (by simp) (.slice eo (n + 1) f)
          simp only [List.set_cons_zero] at C8
          have A8 := A7.other (q := ⟨w.heap.size + 1, 0, none⟩) (by show w.heap.size + 1 ≠ w.heap.size; omega) (.slice eo (n + 1) f)
          have V8 := V7.other (q := ⟨w.heap.size + 1, 0, none⟩) (Nat.lt_succ_self _) (.slice eo (n + 1) f)
          have P8 : Pt (w7.setCell ⟨w.heap.size + 1, 0, none⟩ (.slice eo (n + 1) f)) P R v2 v3 := Pt.others (B := w.heap.size + 1) j1 j2 [.slice eo (n + 1) f] 0 P7 C7 (by simp) (by simp) (by simp)
          have M8 : PtM P R w (w7.setCell ⟨w.heap.size + 1, 0, none⟩ (.slice eo (n + 1) f)) := PtM.newAll (B := w.heap.size + 1) (Nat.le_succ _) [.slice eo (n + 1) f] 0 M7
          have z8 : w.heap.size + 2 ≤ (w7.setCell ⟨w.heap.size + 1, 0, none⟩ (.slice eo (n + 1) f)).heap.size := by simpa using z7
          have HR := hide (And.intro C8 (And.intro A8 (And.intro V8 (And.intro P8 (And.intro M8 z8)))))
          clear C7 A7 P7 M7 V7 z7 C8 A8 V8 P8 M8 z8 H7 C7_0 C7f C5a C5b C5 A5 HV5 H5 Hs5 HD CV' Hlim C0_0 C0_1 C0_2 C0_3 C0_4 C0_5 C0_6 C0_7 C0_8 C0_9 C0_10 C0_11 Cf
          generalize w7.setCell _ _ = W8 at *
          go_wp2
          go_roundw
          case rel =>
            obtain ⟨C8, A8, V8, P8, M8, z8⟩ := unhide HR
            exact ⟨m, v2, v3, us ++ [v], eo, f, by go_num, HV, P8, by omega, A8, by rw [List.length_append, unhide HN]; exact C8, V8, M8, by rw [List.length_append, unhide HN]; show n + 1 + m ≤ a1; omega, z8⟩
          case measure => simp [intOf]
      · have e0 : (er2 == 0) = false := by simpa using h0
        have gz : (0 : Int) < (k : Int) := by omega
        have hv := unhide hv
        rw [vrsP_ne h0] at hv
        have HV : Hid (vrsP a1 a2 a3 [] = (us, er2, l2)) := hv
        obtain ⟨o1, o2, o3, ho⟩ : ∃ o1 o2 o3, flgP er2 l2 = (o1, o2, o3) := ⟨_, _, _, rfl⟩
        have HCC := hide (unhide HC _ _ _ _ _ _ (unhide HV) ho)
        have CF := fun w' (h : Pt w' P R er2 l2) => pflag_any P R er2 l2 w' h hl2
        have ll := flgP_len er2 l2
        rw [ho] at CF ll
        simp only at CF ll
        have CI := fun w' (h : Pt w' P R o2 o3) => pintent_any P R o2 o3 w' h (Nat.le_trans ll hl2)
        clear ho HC HV ll
        obtain ⟨n, hn⟩ : ∃ n, us.length = n := ⟨_, rfl⟩
        rw [hn] at C
        have HN := hide hn
        clear hn hle
        have HV2 := hide V
        have HC := hide (And.intro A C)
        clear V A C hv
        go_wp2_with fail
        refine (CF _ hp).mono ?_
        clear CF hp
        rintro e w2 ⟨rfl, h2, mm⟩
        obtain ⟨A, C⟩ := unhide HC
        replace A := A.ptm (by omega) (by omega) mm
        replace C := C.ptm (by omega) (by omega) mm
        have V := VOwn.ptm (unhide HV2) (by omega) (by omega) mm
        replace M := hide ((unhide M).trans mm)
        clear mm HC HV2
        have C0 := C
        have C0_0 := C0.c 0; have C0_1 := C0.c 1; have C0_2 := C0.c 2; have C0_3 := C0.c 3; have C0_4 := C0.c 4; have C0_5 := C0.c 5; have C0_6 := C0.c 6; have C0_7 := C0.c 7; have C0_8 := C0.c 8; have C0_9 := C0.c 9; have C0_10 := C0.c 10; have C0_11 := C0.c 11; simp only [List.getElem?_cons_zero, List.getElem?_cons_succ] at C0_0 C0_1 C0_2 C0_3 C0_4 C0_5 C0_6 C0_7 C0_8 C0_9 C0_10 C0_11
        have Cf := C.f
        have A0 := A
        have A0_0 := A0.c 0; have A0_1 := A0.c 1; have A0_2 := A0.c 2; have A0_3 := A0.c 3; have A0_4 := A0.c 4; have A0_5 := A0.c 5; have A0_6 := A0.c 6; have A0_7 := A0.c 7; have A0_8 := A0.c 8; have A0_9 := A0.c 9; have A0_10 := A0.c 10; have A0_11 := A0.c 11; simp only [List.getElem?_cons_zero, List.getElem?_cons_succ] at A0_0 A0_1 A0_2 A0_3 A0_4 A0_5 A0_6 A0_7 A0_8 A0_9 A0_10 A0_11
        have Af := A.f
        have Ca : Blk (setAll w2 (w.heap.size + 1) 1 [.bool o1]) (w.heap.size + 1) ([.slice ao n cap] ++ [.bool o1] ++ [.int .i64 0, .int .i64 0, .string ⟨#[]⟩, .int .i64 0, .int .i64 0, .int .i64 0, .int .i64 0, .int .i64 0, .string ⟨#[]⟩, .bool false]) := Blk.mid C [.bool o1] 1 [.slice ao n cap] [.bool false] [.int .i64 0, .int .i64 0, .string ⟨#[]⟩, .int .i64 0, .int .i64 0, .int .i64 0, .int .i64 0, .int .i64 0, .string ⟨#[]⟩, .bool false] rfl rfl rfl
        have Aa := Blk.others j3 [.bool o1] 1 A
        have Va := VOwn.others (C := w.heap.size + 1) (Nat.lt_succ_self _) [.bool o1] 1 V
        have Ma := hide (PtM.newAll (B := w.heap.size + 1) (Nat.le_succ _) [.bool o1] 1 (unhide M))
        have h3 := Pt.others (B := w.heap.size + 1) j1 j2 [.bool o1] 1 h2 C (by simp) (by simp) (by simp)
        have HH := hide (And.intro h3 (And.intro Aa (And.intro Ca Va)))
        clear C A V M C0 A0 Aa Ca Va h3 h2
        cases o1
        · go_wp2
          obtain ⟨h3, A, C, V⟩ := unhide HH
          have QA := A.all [.slice ao n cap, .bool false, .int .i64 Itn.zero.txn.id, .int .i64 Itn.zero.txn.ep, .string Itn.zero.txn.anchor, .int .i64 Itn.zero.txn.start.1, .int .i64 Itn.zero.txn.start.2, .int .i64 Itn.zero.seq, .int .i64 Itn.zero.at_.1, .int .i64 Itn.zero.at_.2, .string Itn.zero.val, .bool Itn.zero.gone] rfl
          refine bodyPost_ret (results_c Tryz.results16 ao n cap false Itn.zero rfl QA) rfl ?_
          refine ⟨ao, cap, ⟨us, false, Itn.zero⟩, by rw [unhide HCC]; rfl, ?_, (VOwn.others (C := w.heap.size) (by omega) [.slice ao n cap, .bool false, .int .i64 Itn.zero.txn.id, .int .i64 Itn.zero.txn.ep, .string Itn.zero.txn.anchor, .int .i64 Itn.zero.txn.start.1, .int .i64 Itn.zero.txn.start.2, .int .i64 Itn.zero.seq, .int .i64 Itn.zero.at_.1, .int .i64 Itn.zero.at_.2, .string Itn.zero.val, .bool Itn.zero.gone] 0 V).mono (by omega), by rw [unhide HCC]; exact Pt.others (B := w.heap.size) (by omega) (by omega) [.slice ao n cap, .bool false, .int .i64 Itn.zero.txn.id, .int .i64 Itn.zero.txn.ep, .string Itn.zero.txn.anchor, .int .i64 Itn.zero.txn.start.1, .int .i64 Itn.zero.txn.start.2, .int .i64 Itn.zero.seq, .int .i64 Itn.zero.at_.1, .int .i64 Itn.zero.at_.2, .string Itn.zero.val, .bool Itn.zero.gone] 0 h3 A (by simp) (by simp) (by simp), PtM.newAll (Nat.le_refl _) [.slice ao n cap, .bool false, .int .i64 Itn.zero.txn.id, .int .i64 Itn.zero.txn.ep, .string Itn.zero.txn.anchor, .int .i64 Itn.zero.txn.start.1, .int .i64 Itn.zero.txn.start.2, .int .i64 Itn.zero.seq, .int .i64 Itn.zero.at_.1, .int .i64 Itn.zero.at_.2, .string Itn.zero.val, .bool Itn.zero.gone] 0 (unhide Ma)⟩
          show _ = Ending.returned (.agg #[.slice ao us.length cap, .bool false, .int .i64 Itn.zero.txn.id, .int .i64 Itn.zero.txn.ep, .string Itn.zero.txn.anchor, .int .i64 Itn.zero.txn.start.1, .int .i64 Itn.zero.txn.start.2, .int .i64 Itn.zero.seq, .int .i64 Itn.zero.at_.1, .int .i64 Itn.zero.at_.2, .string Itn.zero.val, .bool Itn.zero.gone])
          rw [unhide HN]
        · go_wp2_with fail
          obtain ⟨h3, A, C, V⟩ := unhide HH
          change Calls _ _ _ (setAll w2 (w.heap.size + 1) 1 [.bool true]) _
          generalize setAll w2 (w.heap.size + 1) 1 [.bool true] = w3 at *
          clear HH C0_0 C0_1 C0_2 C0_3 C0_4 C0_5 C0_6 C0_7 C0_8 C0_9 C0_10 C0_11 Cf A0_0 A0_1 A0_2 A0_3 A0_4 A0_5 A0_6 A0_7 A0_8 A0_9 A0_10 A0_11 Af
          refine (CI w3 h3).mono ?_
          clear CI h3
          rintro e w4 ⟨i, hi, rfl, h4, mm⟩
          have HI := hide hi
          replace A := A.ptm (by omega) (by omega) mm
          replace C := C.ptm (by omega) (by omega) mm
          replace V := V.ptm (by omega) (by omega) mm
          replace Ma := hide ((unhide Ma).trans mm)
          clear mm hi
          simp only [List.cons_append, List.nil_append] at C
          have C0 := C
          have C0_0 := C0.c 0; have C0_1 := C0.c 1; have C0_2 := C0.c 2; have C0_3 := C0.c 3; have C0_4 := C0.c 4; have C0_5 := C0.c 5; have C0_6 := C0.c 6; have C0_7 := C0.c 7; have C0_8 := C0.c 8; have C0_9 := C0.c 9; have C0_10 := C0.c 10; have C0_11 := C0.c 11; simp only [List.getElem?_cons_zero, List.getElem?_cons_succ] at C0_0 C0_1 C0_2 C0_3 C0_4 C0_5 C0_6 C0_7 C0_8 C0_9 C0_10 C0_11
          have Cf := C.f
          have A0 := A
          have A0_0 := A0.c 0; have A0_1 := A0.c 1; have A0_2 := A0.c 2; have A0_3 := A0.c 3; have A0_4 := A0.c 4; have A0_5 := A0.c 5; have A0_6 := A0.c 6; have A0_7 := A0.c 7; have A0_8 := A0.c 8; have A0_9 := A0.c 9; have A0_10 := A0.c 10; have A0_11 := A0.c 11; simp only [List.getElem?_cons_zero, List.getElem?_cons_succ] at A0_0 A0_1 A0_2 A0_3 A0_4 A0_5 A0_6 A0_7 A0_8 A0_9 A0_10 A0_11
          have Af := A.f
          have HH := hide (And.intro h4 (And.intro A (And.intro C V)))
          clear h4 A C V C0 A0
          go_upto_region 9 with fail
          obtain ⟨h4, A, C, V⟩ := unhide HH
          have C5 := Blk.mid C [.int .i64 i.txn.id, .int .i64 i.txn.ep, .string i.txn.anchor, .int .i64 i.txn.start.1, .int .i64 i.txn.start.2, .int .i64 i.seq, .int .i64 i.at_.1, .int .i64 i.at_.2, .string i.val, .bool i.gone] 2 [.slice ao n cap, .bool true] [.int .i64 0, .int .i64 0, .string ⟨#[]⟩, .int .i64 0, .int .i64 0, .int .i64 0, .int .i64 0, .int .i64 0, .string ⟨#[]⟩, .bool false] [] rfl rfl rfl
          have A5 := Blk.others j3 [.int .i64 i.txn.id, .int .i64 i.txn.ep, .string i.txn.anchor, .int .i64 i.txn.start.1, .int .i64 i.txn.start.2, .int .i64 i.seq, .int .i64 i.at_.1, .int .i64 i.at_.2, .string i.val, .bool i.gone] 2 A
          have V5 := VOwn.others (C := w.heap.size + 1) (Nat.lt_succ_self _) [.int .i64 i.txn.id, .int .i64 i.txn.ep, .string i.txn.anchor, .int .i64 i.txn.start.1, .int .i64 i.txn.start.2, .int .i64 i.seq, .int .i64 i.at_.1, .int .i64 i.at_.2, .string i.val, .bool i.gone] 2 V
          have h5 := Pt.others (B := w.heap.size + 1) j1 j2 [.int .i64 i.txn.id, .int .i64 i.txn.ep, .string i.txn.anchor, .int .i64 i.txn.start.1, .int .i64 i.txn.start.2, .int .i64 i.seq, .int .i64 i.at_.1, .int .i64 i.at_.2, .string i.val, .bool i.gone] 2 h4 C (by simp) (by simp) (by simp)
          have M5 := PtM.newAll (B := w.heap.size + 1) (Nat.le_succ _) [.int .i64 i.txn.id, .int .i64 i.txn.ep, .string i.txn.anchor, .int .i64 i.txn.start.1, .int .i64 i.txn.start.2, .int .i64 i.seq, .int .i64 i.at_.1, .int .i64 i.at_.2, .string i.val, .bool i.gone] 2 (unhide Ma)
          simp only [List.cons_append, List.nil_append, List.append_nil] at C5
          generalize hq : (World.setCell (World.setCell (World.setCell (World.setCell (World.setCell (World.setCell (World.setCell (World.setCell (World.setCell (World.setCell w4 _ _) _ _) _ _) _ _) _ _) _ _) _ _) _ _) _ _) _ _) = w5
          have hq : setAll w4 (w.heap.size + 1) 2 [.int .i64 i.txn.id, .int .i64 i.txn.ep, .string i.txn.anchor, .int .i64 i.txn.start.1, .int .i64 i.txn.start.2, .int .i64 i.seq, .int .i64 i.at_.1, .int .i64 i.at_.2, .string i.val, .bool i.gone] = w5 := hq
          rw [hq] at C5 A5 V5 h5 M5
          clear hq HH h4 A C V Ma C0_0 C0_1 C0_2 C0_3 C0_4 C0_5 C0_6 C0_7 C0_8 C0_9 C0_10 C0_11 Cf A0_0 A0_1 A0_2 A0_3 A0_4 A0_5 A0_6 A0_7 A0_8 A0_9 A0_10 A0_11 Af
          have C0 := C5
          have C0_0 := C0.c 0; have C0_1 := C0.c 1; have C0_2 := C0.c 2; have C0_3 := C0.c 3; have C0_4 := C0.c 4; have C0_5 := C0.c 5; have C0_6 := C0.c 6; have C0_7 := C0.c 7; have C0_8 := C0.c 8; have C0_9 := C0.c 9; have C0_10 := C0.c 10; have C0_11 := C0.c 11; simp only [List.getElem?_cons_zero, List.getElem?_cons_succ] at C0_0 C0_1 C0_2 C0_3 C0_4 C0_5 C0_6 C0_7 C0_8 C0_9 C0_10 C0_11
          have A0 := A5
          have A0_0 := A0.c 0; have A0_1 := A0.c 1; have A0_2 := A0.c 2; have A0_3 := A0.c 3; have A0_4 := A0.c 4; have A0_5 := A0.c 5; have A0_6 := A0.c 6; have A0_7 := A0.c 7; have A0_8 := A0.c 8; have A0_9 := A0.c 9; have A0_10 := A0.c 10; have A0_11 := A0.c 11; simp only [List.getElem?_cons_zero, List.getElem?_cons_succ] at A0_0 A0_1 A0_2 A0_3 A0_4 A0_5 A0_6 A0_7 A0_8 A0_9 A0_10 A0_11
          have Af := A5.f
          have HH := hide (And.intro h5 (And.intro A5 (And.intro V5 M5)))
          clear h5 A5 C5 V5 M5 C0 A0
          go_wp2
          obtain ⟨h5, A5, V5, M5⟩ := unhide HH
          have QA := A5.all [.slice ao n cap, .bool true, .int .i64 i.txn.id, .int .i64 i.txn.ep, .string i.txn.anchor, .int .i64 i.txn.start.1, .int .i64 i.txn.start.2, .int .i64 i.seq, .int .i64 i.at_.1, .int .i64 i.at_.2, .string i.val, .bool i.gone] rfl
          refine bodyPost_ret (results_c Tryz.results16 ao n cap true i rfl QA) rfl ?_
          refine ⟨ao, cap, ⟨us, true, i⟩, by rw [unhide HCC, unhide HI]; rfl, ?_, (VOwn.others (C := w.heap.size) (by omega) [.slice ao n cap, .bool true, .int .i64 i.txn.id, .int .i64 i.txn.ep, .string i.txn.anchor, .int .i64 i.txn.start.1, .int .i64 i.txn.start.2, .int .i64 i.seq, .int .i64 i.at_.1, .int .i64 i.at_.2, .string i.val, .bool i.gone] 0 V5).mono (by omega), by rw [unhide HCC]; exact Pt.others (B := w.heap.size) (by omega) (by omega) [.slice ao n cap, .bool true, .int .i64 i.txn.id, .int .i64 i.txn.ep, .string i.txn.anchor, .int .i64 i.txn.start.1, .int .i64 i.txn.start.2, .int .i64 i.seq, .int .i64 i.at_.1, .int .i64 i.at_.2, .string i.val, .bool i.gone] 0 h5 A5 (by simp) (by simp) (by simp), PtM.newAll (Nat.le_refl _) [.slice ao n cap, .bool true, .int .i64 i.txn.id, .int .i64 i.txn.ep, .string i.txn.anchor, .int .i64 i.txn.start.1, .int .i64 i.txn.start.2, .int .i64 i.seq, .int .i64 i.at_.1, .int .i64 i.at_.2, .string i.val, .bool i.gone] 0 M5⟩
          show _ = Ending.returned (.agg #[.slice ao us.length cap, .bool true, .int .i64 i.txn.id, .int .i64 i.txn.ep, .string i.txn.anchor, .int .i64 i.txn.start.1, .int .i64 i.txn.start.2, .int .i64 i.seq, .int .i64 i.at_.1, .int .i64 i.at_.2, .string i.val, .bool i.gone])
          rw [unhide HN]
end

end Go.Proofs.YtcdehnghggleoaaGreat
